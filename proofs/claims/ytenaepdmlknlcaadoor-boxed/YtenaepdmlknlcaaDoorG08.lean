import Derived.Test.YtenaepdmlknlcaaDoorG07
import Derived.RangeFuncNested
import Derived.RangeFuncBound
import Derived.RangeFuncCalls
import Derived.RangeFuncLeaves
import Derived.Shelf.Abstract
import Derived.Shelf.RegionOpen
import Derived.OwnWalkIn
import Derived.TacticsInMore
import Derived.LoopNIn
import Derived.LoopIn
namespace Go.Proofs.YtenaepdmlknlcaaDoor
open Go.RowKit

theorem len_flatten {ts : List (List FV)} (h : ∀ t ∈ ts, ∃ g, t = [g]) : ts.flatten.length = ts.length := by
  induction ts with
  | nil => rfl
  | cons t r ih =>
    obtain ⟨g, rfl⟩ := h t (by simp)
    have := ih (fun t ht => h t (by simp [ht]))
    simp [this]

set_option maxRecDepth 100000 in
set_option maxHeartbeats 2000000 in
theorem With_more (ok : Nat → Prop) (f : Feat) (bl off n cap : Nat) (q : Nat) (fs : List FV) (x : Bx) (w : World) (hT : IsT ok w 1 q fs x) (hfs : fs.length ≤ 3) (hok : ∀ b, ok b → b < w.heap.size) (hobl : ok bl) (hp : Places w.heap.size w bl off f.ps) (hn : n = f.ps.length) (hn1 : 1 ≤ n) (hn2 : n ≤ 6) (hcap : n ≤ cap) :
    Calls Tryd.prog 9 #[.agg #[.pointer (some ⟨q, 0, none⟩)], .agg #[.int .i64 f.id, .int .i64 f.kd, .int .i64 f.ht, .int .i64 f.col, .slice (some ⟨bl, off, none⟩) n cap]] w fun e w' => ∃ q' x', e = .returned (.agg #[.pointer (some ⟨q', 0, none⟩)]) ∧ IsT (okN ok w.heap.size w'.heap.size) w' 1 q' (fs ++ [⟨f, bl, off, cap⟩]) x' ∧ Below w.heap.size w w' := by
  have Hp : Hid (Places w.heap.size w bl off f.ps) := hp
  have Hn : Hid (n = f.ps.length) := hn
  have hbl := hp.1
  have Hok : Hid (∀ b, ok b → b < w.heap.size) := hok
  have Hobl : Hid (ok bl) := hobl
  have HT : Hid (IsT ok w 1 q fs x) := hT
  clear hp hn hok hobl hT
  obtain ⟨id, kd, ht, col, ps⟩ := f
  dsimp only at Hp Hn ⊢
  have hB : ∀ o1 o2 o3 : Obj, Below w.heap.size w (((w.alloc o1).alloc o2).alloc o3) := fun o1 o2 o3 => (((Below.refl _ _).alloc (Nat.le_refl _) _).alloc (by simp) _).alloc (by simp; omega) _
  go_enter Tryd.func9, Tryd.ntmps9
  go_upto_region 1 with fail
  go_cut [5] (fun v wc => ∃ ql, v = .pointer (some ⟨ql, 0, none⟩) ∧ ql < wc.heap.size ∧ LeafAt (okN ok (w.heap.size + 3) wc.heap.size) wc ql ⟨⟨id, kd, ht, col, ps⟩, bl, off, cap⟩ ∧ wc.cell? ⟨w.heap.size, 0, none⟩ = some (.pointer (some ⟨q, 0, none⟩)) ∧ wc.cell? ⟨w.heap.size + 1 + 1, 0, none⟩ = some (.pointer none) ∧ wc.frozen? ⟨w.heap.size + 1 + 1, 0, none⟩ = false ∧ Below w.heap.size w wc ∧ w.heap.size + 3 ≤ wc.heap.size)
  case first =>
    go_region_held3 (fun w' => w'.cell? ⟨w.heap.size + 1, 0, none⟩ = some (.int .i64 id) ∧ w'.cell? ⟨w.heap.size + 1, 1, none⟩ = some (.int .i64 kd) ∧ w'.cell? ⟨w.heap.size + 1, 2, none⟩ = some (.int .i64 ht) ∧ w'.cell? ⟨w.heap.size + 1, 3, none⟩ = some (.int .i64 col) ∧ w'.cell? ⟨w.heap.size + 1, 4, none⟩ = some (.slice (some ⟨bl, off, none⟩) n cap)) (first | (simp [go_sem, *]; done) | exact s2)
      (first
      | (go_at_call 13; refine (BoxOf_any bl off n cap ps _ ((Hp.out.below (hB _ _ _).drew).mono (by simp; omega)) Hn.out hn1 (by omega) hcap).mono ?_; rintro e w2 ⟨rfl, hb2⟩; obtain ⟨hc2, hf2⟩ := bcell hb2; have s2 := And.intro ((hc2 (w.heap.size + 1) 0 (by simp <;> omega)).trans (show _ = some (Value.int .i64 id) from (by simp [go_sem]))) (And.intro ((hc2 (w.heap.size + 1) 1 (by simp <;> omega)).trans (show _ = some (Value.int .i64 kd) from (by simp [go_sem]))) (And.intro ((hc2 (w.heap.size + 1) 2 (by simp <;> omega)).trans (show _ = some (Value.int .i64 ht) from (by simp [go_sem]))) (And.intro ((hc2 (w.heap.size + 1) 3 (by simp <;> omega)).trans (show _ = some (Value.int .i64 col) from (by simp [go_sem]))) ((hc2 (w.heap.size + 1) 4 (by simp <;> omega)).trans (show _ = some (Value.slice (some ⟨bl, off, none⟩) n cap) from (by simp [go_sem])))))); have r0 : w2.cell? ⟨w.heap.size, 0, none⟩ = some (Value.pointer (some ⟨q, 0, none⟩)) := (hc2 w.heap.size 0 (by simp <;> omega)).trans (by simp [go_sem]); have r1 : w2.cell? ⟨w.heap.size + 1 + 1, 0, none⟩ = some (Value.pointer none) := (hc2 (w.heap.size + 1 + 1) 0 (by simp <;> omega)).trans (by simp [go_sem]); have r2 : w2.frozen? ⟨w.heap.size + 1 + 1, 0, none⟩ = false := (hf2 (w.heap.size + 1 + 1) 0 (by simp <;> omega)).trans (by simp [go_sem]); have hz2 : w.heap.size + 3 ≤ w2.heap.size := (by have := hb2.size; simp at this; omega); have hz3 : w.heap.size + 1 < w2.heap.size := (by omega); have hB2 : Below w.heap.size w w2 := (hB _ _ _).drew.trans (hb2.mono (by simp <;> omega)); clear hc2 hf2 hb2))
    all_goals
      go_wp2_with fail
      go_meet
      have hA : ∀ o : Obj, Below w2.heap.size w2 (w2.alloc o) := fun o => (Below.refl _ _).alloc (Nat.le_refl _) o
      refine ⟨w2.heap.size, rfl, by simp, ?_, ((hA _).cell (p := ⟨w.heap.size, 0, none⟩) (show w.heap.size < w2.heap.size by omega)).trans r0, ((hA _).cell (p := ⟨w.heap.size + 1 + 1, 0, none⟩) (show w.heap.size + 1 + 1 < w2.heap.size by omega)).trans r1, ((hA _).frozen (p := ⟨w.heap.size + 1 + 1, 0, none⟩) (show w.heap.size + 1 + 1 < w2.heap.size by omega)).trans r2, hB2.alloc (by omega) _, by simp; omega⟩
      have h := leaf_new w2 ⟨id, kd, ht, col, ps⟩ (okN ok (w.heap.size + 3) (w2.heap.size + 1)) bl off cap (.inl Hobl.out) (.inr ⟨by omega, by omega⟩) ((Hp.out.below hB2).mono (by omega)) (by rw [← Hn.out]; exact hcap)
      rw [World.size_alloc, Hn.out]
      exact h
  case rest =>
    obtain ⟨ql, rfl, hql, hleaf, r0, r1, r2, hB1, hz1⟩ := hcut
    have Hleaf : Hid (LeafAt (okN ok (w.heap.size + 3) wc.heap.size) wc ql ⟨⟨id, kd, ht, col, ps⟩, bl, off, cap⟩) := hleaf
    clear hleaf
    have hTc : IsT ok wc 1 q fs x := HT.out.same (Same.of_below hB1 Hok.out)
    obtain ⟨hq, hcq, kb, ko, kcap, ks, ts, h4, hne, hle, hkcap, hkO, htl, hts, hflat, hx⟩ := hTc
    have hone : ∀ t ∈ ts, ∃ g, t = [g] := by
      intro t ht
      obtain ⟨i, hi, rfl⟩ := List.mem_iff_getElem.1 ht
      obtain ⟨g, e, _⟩ := hts i (ks[i]'(by omega)).1 (ks[i]'(by omega)).2 ts[i] (List.getElem?_eq_getElem _) (List.getElem?_eq_getElem _)
      exact ⟨g, e⟩
    have hkl : ks.length = fs.length := by rw [← htl, hflat]; exact (len_flatten hone).symm
    have hok' : ∀ b, ok b → b < wc.heap.size := fun b hb => Nat.lt_of_lt_of_le (Hok.out b hb) (by omega)
    obtain ⟨k0, hk0⟩ : ∃ k0, ks[0]? = some k0 := ⟨ks[0]'(List.length_pos_iff.2 hne), List.getElem?_eq_getElem _⟩
    obtain ⟨t0, ht0⟩ : ∃ t0, ts[0]? = some t0 := ⟨ts[0]'(by have := List.length_pos_iff.2 hne; omega), List.getElem?_eq_getElem _⟩
    obtain ⟨q0, x0⟩ := k0
    obtain ⟨g0, e0, ex0, hl0⟩ := hts 0 q0 x0 t0 hk0 ht0
    have hc0 := hkO.2 0 q0 x0 hk0
    have hnl := hl0.kids
    have hpos := List.length_pos_iff.2 hne
    have hqlt := hok' q hq
    have hq0lt := hok' q0 hl0.lt
    have hp00 := hc0.1
    simp only [Nat.add_zero] at hp00
    have Hwl := with_leaves q kb ko ks.length kcap ql q0 (boxZ ps) ks wc hqlt h4 rfl hpos (by omega) (hkO.at hok') hp00 hq0lt hnl hql Hleaf.out.box
    have HWL : Hid _ := Hwl
    clear Hwl
    have HTS : Hid (∀ (i : Nat) p y t, ks[i]? = some (p, y) → ts[i]? = some t → IsT ok wc 0 p t y) := hts
    have HKO : Hid (KidsO ok wc kb ko ks) := hkO
    have HFL : Hid (fs = ts.flatten) := hflat
    have HTL : Hid (ts.length = ks.length) := htl
    have HKL : Hid (ks.length = fs.length) := hkl
    clear hts hkO hflat hone hkl e0 ex0 hl0 hc0 hnl hp00 h4 hcq hx hk0 ht0 htl
    have hz4 : w.heap.size + 1 + 1 < wc.heap.size := by omega
    go_wp2_with (go_at_call 15; refine Calls.mono HWL.out ?_; rintro e w3 ⟨s, p, g, c, rfl, hs0, hs1, hp1, hp2, hg1, hcp, hp4, hgc, hkid, hb3⟩; have t1 : w3.cell? ⟨w.heap.size + 1 + 1, 0, none⟩ = some (.pointer none) := (hb3.cell (p := ⟨w.heap.size + 1 + 1, 0, none⟩) hz4).trans r1; have t2 : w3.frozen? ⟨w.heap.size + 1 + 1, 0, none⟩ = false := (hb3.frozen (p := ⟨w.heap.size + 1 + 1, 0, none⟩) hz4).trans r2; have HKID : Hid (KidsAt w3.heap.size w3 g 0 (ks ++ [(ql, boxZ ps)])) := hkid; clear hkid)
    have hS : Below w.heap.size w3 (w3.setCell ⟨w.heap.size + 1 + 1, 0, none⟩ (.pointer (some ⟨p, 0, none⟩))) := (Below.refl _ _).setCell (p := ⟨w.heap.size + 1 + 1, 0, none⟩) (show w.heap.size ≤ w.heap.size + 1 + 1 by omega) _
    refine bodyPost_ret (v := .agg #[.pointer (some ⟨p, 0, none⟩)]) (by simp [results, Tryd.results9, go_sem, t1]) rfl ⟨p, joinK (ks ++ [(ql, boxZ ps)]), rfl, ?_, hB1.trans ((hb3.mono (by omega)).trans hS)⟩
    have hsz := hb3.size
    have hsame : Same (okN ok (w.heap.size + 3) wc.heap.size) wc w3 := Same.of_below hb3 (fun b hb => hb.elim (fun h => hok' b h) (fun h => h.2))
    have hup : ∀ b, okN ok (w.heap.size + 3) wc.heap.size b → okN ok (w.heap.size + 3) w3.heap.size b := fun b hb => hb.elim .inl fun h => .inr ⟨h.1, by omega⟩
    have hT3 : IsT (okN ok (w.heap.size + 3) w3.heap.size) w3 1 p (fs ++ [⟨⟨id, kd, ht, col, ps⟩, bl, off, cap⟩]) (joinK (ks ++ [(ql, boxZ ps)])) := by
      refine ⟨.inr ⟨by omega, hp2⟩, hcp, g, 0, c, ks ++ [(ql, boxZ ps)], ts ++ [[⟨⟨id, kd, ht, col, ps⟩, bl, off, cap⟩]], by simpa using hp4, by simp, by have := HKL.out; simp; omega, by simpa using hgc, ⟨.inr ⟨by omega, HKID.out.1⟩, fun i p' y e => ⟨(HKID.out.2 i p' y e).1, ?_, (HKID.out.2 i p' y e).2.2⟩⟩, by have := HTL.out; simp; omega, fun i p' y t e e' => ?_, by rw [HFL.out]; simp, rfl⟩
      · rcases getElem?_snoc e with h | ⟨_, h⟩
        · exact .inl (HKO.out.2 i p' y h).2.1
        · cases h; exact hup _ Hleaf.out.lt
      · rcases getElem?_snoc e with h | ⟨h1, h⟩
        · have hi : i < ks.length := (List.getElem?_eq_some_iff.1 h).1
          rcases getElem?_snoc e' with h' | ⟨h', _⟩
          · exact ((HTS.out i p' y t h h').mono (fun b hb => .inl hb) |>.same hsame).mono hup
          · exact absurd h' (by have := HTL.out; omega)
        · cases h
          rcases getElem?_snoc e' with h' | ⟨_, h'⟩
          · exact absurd (List.getElem?_eq_some_iff.1 h').1 (by have := HTL.out; omega)
          · exact ⟨_, h', rfl, (Hleaf.out.same hsame).mono hup⟩
    exact (hT3.same (same_set w3 (w.heap.size + 1 + 1) 0 _ (fun h => h.elim (fun h => by have := Hok.out _ h; omega) (fun h => by omega)))).mono (fun b hb => hb.elim .inl fun h => .inr ⟨by omega, Nat.lt_of_lt_of_le h.2 (by simp)⟩)

end Go.Proofs.YtenaepdmlknlcaaDoor
namespace Go.Proofs.YtenaepdmlknlcaaDoor
open Go.RowKit Go.Shelf

/-- All cells but those of the block T read as they did. -/
def KeepC (T : Nat) (A B : World) : Prop := A.heap.size ≤ B.heap.size ∧ ∀ b o v, b ≠ T → A.cell? ⟨b, o, none⟩ = some v → B.cell? ⟨b, o, none⟩ = some v
theorem KeepC.refl (T : Nat) (A : World) : KeepC T A A := ⟨Nat.le_refl _, fun _ _ _ _ h => h⟩
theorem KeepC.trans {T : Nat} {A B C : World} (h : KeepC T A B) (k : KeepC T B C) : KeepC T A C := ⟨Nat.le_trans h.1 k.1, fun b o v hb e => k.2 b o v hb (h.2 b o v hb e)⟩
theorem cell_lt {A : World} {b o : Nat} {v : Value} (h : A.cell? ⟨b, o, none⟩ = some v) : b < A.heap.size := World.block_lt_of_cell? A ⟨b, o, none⟩ h
theorem KeepC.of_below {T : Nat} {A B : World} (h : Below A.heap.size A B) : KeepC T A B := ⟨h.size, fun b o _v _ e => (h.cell (p := ⟨b, o, none⟩) (cell_lt e)).trans e⟩
theorem KeepC.same {T : Nat} {A B : World} (h : KeepC T A B) {ok : Nat → Prop} (hok : ∀ b, ok b → b ≠ T) : Same ok A B := fun b o v hb e => h.2 b o v (hok b hb) e
theorem KeepC.q4 {T : Nat} {A B : World} (h : KeepC T A B) {b : Nat} (hb : b ≠ T) {x : Bx} (c : C4 A b x) : C4 B b x := ⟨h.2 _ _ _ hb c.c0, h.2 _ _ _ hb c.c1, h.2 _ _ _ hb c.c2, h.2 _ _ _ hb c.c3⟩
theorem grown_of_below {A B : World} (h : Below A.heap.size A B) : A.grownBy B none := ⟨h.os, h.tape, h.output, h.size, fun k hk _ => h.block k hk⟩

def encF (v : FV) : Value := .agg #[.int .i64 v.f.id, .int .i64 v.f.kd, .int .i64 v.f.ht, .int .i64 v.f.col, .slice (some ⟨v.pb, v.po, none⟩) v.f.ps.length v.cap]
def meetF (x : Bx) (v : FV) : Bool := meetsB (boxZ v.f.ps).l (boxZ v.f.ps).t (boxZ v.f.ps).r (boxZ v.f.ps).b x.l x.t x.r x.b
def meetBx (y x : Bx) : Bool := meetsB y.l y.t y.r y.b x.l x.t x.r x.b

/-- What a round's body may know of the feature that it is handed. -/
def Good (ok : Nat → Prop) (w : World) (v : FV) : Prop := validF v.f = true ∧ ok v.pb ∧ v.f.ps.length ≤ v.cap ∧ ∀ k x y, v.f.ps[k]? = some (x, y) → w.cell? ⟨v.pb, v.po + k * 2, none⟩ = some (.int .i64 x) ∧ w.cell? ⟨v.pb, v.po + k * 2 + 1, none⟩ = some (.int .i64 y)

theorem room_none' {F : Fence} (hd : F.depth = none) (k : Nat) : F.room k := fun d h => by rw [hd] at h; cases h

attribute [local go_sem] Oper.semAt_some

section
variable (ok : Nat → Prop) (G : FV → Prop) (T l N : Nat) (x : Bx) (J Jx : List { v : FV // G v } → World → Prop)

/-- A round of the caller's loop. -/
def Rounds : Prop := ∀ m pre v W, J pre W → pre.length < N → YieldAt Fence.wide m Tryd.prog l #[encF v.1] W fun e W' =>
  (e = .returned (.bool true) ∧ J (pre ++ [v]) W' ∧ KeepC T W W') ∨ (e = .returned (.bool false) ∧ Jx (pre ++ [v]) W')

/-- What each says. -/
def EachPost (pre : List { v : FV // G v }) (vs : List FV) (W : World) (e : Ending) (W' : World) : Prop :=
  (e = .returned (.bool true) ∧ (∃ ys : List { v : FV // G v }, ys.map Subtype.val = vs.filter (meetF x) ∧ J (pre ++ ys) W') ∧ KeepC T W W') ∨ (e = .returned (.bool false) ∧ ∃ zs, Jx (pre ++ zs) W')

set_option maxRecDepth 100000 in
set_option maxHeartbeats 2000000 in
theorem each_leaf (hY : Rounds G T l N J Jx) (hJ : ∀ pre A B, J pre A → Below A.heap.size A B → J pre B) (hT : ∀ b, ok b → b ≠ T) (q : Nat) (v : FV) (pre : List { v : FV // G v }) (W : World) (hg : G v) (hl : LeafAt ok W q v) (hq : q < W.heap.size) (h0 : J pre W) (hN : pre.length < N) :
    Calls Tryd.prog 52 #[.pointer (some ⟨q, 0, none⟩), .agg #[.int .i64 x.l, .int .i64 x.t, .int .i64 x.r, .int .i64 x.b], .func (.yield l) #[] #[]] W (EachPost G T x J Jx pre [v] W) := by
  have hB : ∀ o : Obj, Below W.heap.size W (W.alloc o) := fun o => (Below.refl _ _).alloc (Nat.le_refl _) o
  have HL : Hid (LeafAt ok W q v) := hl
  obtain ⟨c0, c1, c2, c3⟩ := hl.box
  have hqT := hT q hl.lt
  have Hqok : Hid (ok q) := hl.lt
  have HJ0 : Hid (J pre W) := h0
  clear hl h0
  generalize hbl : (boxZ v.f.ps).l = bl at *
  generalize hbt : (boxZ v.f.ps).t = bt at *
  generalize hbr : (boxZ v.f.ps).r = br at *
  generalize hbb : (boxZ v.f.ps).b = bb at *
  have HM : Hid (meetF x v = meetsB bl bt br bb x.l x.t x.r x.b) := by show meetF x v = _; rw [← hbl, ← hbt, ← hbr, ← hbb]; rfl
  clear hbl hbt hbr hbb
  obtain ⟨xl, xt, xr, xb⟩ := x
  dsimp only at HM ⊢
  go_enter Tryd.func52, Tryd.ntmps52
  go_upto_region 1 with fail
  go_cut [15] (fun u wc => u = .bool (!meetsB bl bt br bb xl xt xr xb) ∧ KeepC T W wc ∧ Below W.heap.size W wc)
  case first =>
    go_region_held3 (fun w' => w'.cell? ⟨q, 0, none⟩ = some (.int .i64 bl) ∧ w'.cell? ⟨q, 1, none⟩ = some (.int .i64 bt) ∧ w'.cell? ⟨q, 2, none⟩ = some (.int .i64 br) ∧ w'.cell? ⟨q, 3, none⟩ = some (.int .i64 bb) ∧ w'.cell? ⟨W.heap.size, 0, none⟩ = some (.int .i64 xl) ∧ w'.cell? ⟨W.heap.size, 1, none⟩ = some (.int .i64 xt) ∧ w'.cell? ⟨W.heap.size, 2, none⟩ = some (.int .i64 xr) ∧ w'.cell? ⟨W.heap.size, 3, none⟩ = some (.int .i64 xb)) (first | (simp [go_sem, *]; done) | exact s2)
      (first
      | (go_at_call 72; refine (Meets_any bl bt br bb xl xt xr xb _).mono ?_; rintro e w2 ⟨rfl, hb2⟩; obtain ⟨hc2, hf2⟩ := bcell hb2; have s2 := And.intro ((hc2 q 0 (by simp <;> omega)).trans (show _ = some (Value.int .i64 bl) from (by simp [go_sem, *]))) (And.intro ((hc2 q 1 (by simp <;> omega)).trans (show _ = some (Value.int .i64 bt) from (by simp [go_sem, *]))) (And.intro ((hc2 q 2 (by simp <;> omega)).trans (show _ = some (Value.int .i64 br) from (by simp [go_sem, *]))) (And.intro ((hc2 q 3 (by simp <;> omega)).trans (show _ = some (Value.int .i64 bb) from (by simp [go_sem, *]))) (And.intro ((hc2 W.heap.size 0 (by simp <;> omega)).trans (show _ = some (Value.int .i64 xl) from (by simp [go_sem]))) (And.intro ((hc2 W.heap.size 1 (by simp <;> omega)).trans (show _ = some (Value.int .i64 xt) from (by simp [go_sem]))) (And.intro ((hc2 W.heap.size 2 (by simp <;> omega)).trans (show _ = some (Value.int .i64 xr) from (by simp [go_sem]))) ((hc2 W.heap.size 3 (by simp <;> omega)).trans (show _ = some (Value.int .i64 xb) from (by simp [go_sem]))))))))); have hB2 : Below W.heap.size W w2 := (hB _).drew.trans (hb2.mono (by simp <;> omega)); clear hc2 hf2 hb2))
    all_goals
      go_wp2_with fail
      go_meet
      exact ⟨rfl, KeepC.of_below hB2, hB2⟩
  case rest =>
    obtain ⟨rfl, hK, hB1⟩ := hcut
    by_cases hm : meetsB bl bt br bb xl xt xr xb = true
    · rw [hm, Bool.not_true]
      have hl1 : LeafAt ok wc q v := HL.out.same (hK.same hT)
      have d4 := hl1.kids
      have d5 := hl1.id
      have d6 := hl1.kd
      have d7 := hl1.ht
      have d8 := hl1.col
      have d9 := hl1.sl
      have hnn := eql_nil
      obtain ⟨fn, tmps, assign, body, hy, hR⟩ := hY 0 pre ⟨v, hg⟩ wc (hJ pre W wc HJ0.out hB1) hN
      dsimp only [encF] at hy
      clear hl1 c0 c1 c2 c3
      go_upto_region 4 with fail
      refine (wpIn_wide (n := 1)).1 ?_
      gi_wp2
      refine hR.mono ?_
      rintro e W3 (⟨rfl, hJ3, hk3⟩ | ⟨rfl, hJx3⟩)
      · gi_wp2
        go_wp2
        go_ret
        exact .inl ⟨rfl, ⟨[⟨v, hg⟩], by simp [HM.out, hm], hJ3⟩, hK.trans hk3⟩
      · gi_wp2
        go_wp2
        go_ret
        exact .inr ⟨rfl, [⟨v, hg⟩], hJx3⟩
    · have hm' : meetsB bl bt br bb xl xt xr xb = false := by simpa using hm
      rw [hm', Bool.not_false]
      have Hfin : Hid (J pre wc) := hJ pre W wc HJ0.out hB1
      go_wp2
      go_ret
      exact .inl ⟨rfl, ⟨[], by simp [HM.out, hm'], by simpa using Hfin.out⟩, hK⟩

/-- One box lies in another. -/
def BxIn (y x : Bx) : Prop := x.l ≤ y.l ∧ x.t ≤ y.t ∧ y.r ≤ x.r ∧ y.b ≤ x.b
theorem BxIn.refl (x : Bx) : BxIn x x := ⟨Int.le_refl _, Int.le_refl _, Int.le_refl _, Int.le_refl _⟩
theorem BxIn.trans {a b c : Bx} (h : BxIn a b) (k : BxIn b c) : BxIn a c := by unfold BxIn at *; omega
theorem BxIn.left (a b : Bx) : BxIn a (a.join b) := by simp only [BxIn, Bx.join, mnZ, mxZ]; omega
theorem BxIn.right (a b : Bx) : BxIn b (a.join b) := by simp only [BxIn, Bx.join, mnZ, mxZ]; omega
theorem foldl_in (ks : Kids) : ∀ (a : Bx), BxIn a (ks.foldl (fun b q => b.join q.2) a) ∧ ∀ k ∈ ks, BxIn k.2 (ks.foldl (fun b q => b.join q.2) a) := by
  induction ks with
  | nil => exact fun a => ⟨BxIn.refl a, fun k hk => by cases hk⟩
  | cons k r ih =>
    intro a
    have h := ih (a.join k.2)
    refine ⟨(BxIn.left a k.2).trans h.1, fun k' hk' => ?_⟩
    rcases List.mem_cons.1 hk' with rfl | hk'
    · exact (BxIn.right a k'.2).trans h.1
    · exact h.2 k' hk'
theorem joinK_in {ks : Kids} {k : Nat × Bx} (h : k ∈ ks) : BxIn k.2 (joinK ks) := by
  cases ks with
  | nil => cases h
  | cons p r =>
    rcases List.mem_cons.1 h with rfl | h
    · exact (foldl_in r k.2).1
    · exact (foldl_in r p.2).2 k h
theorem meet_mono {y z x : Bx} (h : BxIn y z) (hm : meetBx y x = true) : meetBx z x = true := by
  simp only [meetBx, meetsB, decide_eq_true_eq] at *; unfold BxIn at h; omega
theorem IsT.boxIn {ok : Nat → Prop} {w : World} : ∀ {d q : Nat} {fs : List FV} {x : Bx}, IsT ok w d q fs x → ∀ v ∈ fs, BxIn (boxZ v.f.ps) x
  | 0, _, _, _, ⟨f, e, ex, _⟩ => fun v hv => by subst e ex; simp at hv; subst hv; exact BxIn.refl _
  | _ + 1, _, _, _, ⟨_, _, _, _, _, ks, ts, _, _, _, _, _, hl, ht, hf, hx⟩ => fun v hv => by
    subst hf hx
    obtain ⟨t, ht', hv'⟩ := List.mem_flatten.1 hv
    obtain ⟨i, hi, rfl⟩ := List.mem_iff_getElem.1 ht'
    have h1 := IsT.boxIn (ht i (ks[i]'(by omega)).1 (ks[i]'(by omega)).2 ts[i] (List.getElem?_eq_getElem _) (List.getElem?_eq_getElem _)) v hv'
    exact h1.trans (joinK_in (List.getElem_mem (by omega)))
theorem IsT.none {ok : Nat → Prop} {w : World} {d q : Nat} {fs : List FV} {y x : Bx} (h : IsT ok w d q fs y) (hm : meetBx y x = false) : fs.filter (meetF x) = [] := by
  rw [List.filter_eq_nil_iff]
  intro v hv hc
  have := meet_mono (h.boxIn v hv) (show meetBx (boxZ v.f.ps) x = true from hc)
  rw [hm] at this
  cases this

end

end Go.Proofs.YtenaepdmlknlcaaDoor
