import Derived.Test.YtenaepdmlknlcaaGreatDoorF05
import Derived.RangeFuncNested
import Derived.RangeFuncBound
import Derived.RangeFuncCalls
import Derived.RangeFuncLeaves
import Derived.Shelf.Abstract
import Derived.Shelf.RegionOpen
import Derived.OwnWalkIn
import Derived.TacticsInMore
import Derived.LoopNIn
import Derived.LoopIn
namespace Go.Proofs.YtenaepdmlknlcaaGreatDoor
open Go.RowKit Go.Shelf

/-- All cells but those of the block T read as they did. -/
def KeepC (T : Nat) (A B : World) : Prop := A.heap.size ≤ B.heap.size ∧ ∀ b o v, b ≠ T → A.cell? ⟨b, o, none⟩ = some v → B.cell? ⟨b, o, none⟩ = some v
theorem KeepC.refl (T : Nat) (A : World) : KeepC T A A := ⟨Nat.le_refl _, fun _ _ _ _ h => h⟩
theorem KeepC.trans {T : Nat} {A B C : World} (h : KeepC T A B) (k : KeepC T B C) : KeepC T A C := ⟨Nat.le_trans h.1 k.1, fun b o v hb e => k.2 b o v hb (h.2 b o v hb e)⟩
theorem cell_lt {A : World} {b o : Nat} {v : Value} (h : A.cell? ⟨b, o, none⟩ = some v) : b < A.heap.size := World.block_lt_of_cell? A ⟨b, o, none⟩ h
theorem KeepC.of_below {T : Nat} {A B : World} (h : Below A.heap.size A B) : KeepC T A B := ⟨h.size, fun b o _v _ e => (h.cell (p := ⟨b, o, none⟩) (cell_lt e)).trans e⟩
theorem KeepC.same {T : Nat} {A B : World} (h : KeepC T A B) {ok : Nat → Prop} (hok : ∀ b, ok b → b ≠ T) : Same ok A B := fun b o v hb e => h.2 b o v (hok b hb) e
theorem KeepC.q4 {T : Nat} {A B : World} (h : KeepC T A B) {b : Nat} (hb : b ≠ T) {x : Bx} (c : C4 A b x) : C4 B b x := ⟨h.2 _ _ _ hb c.c0, h.2 _ _ _ hb c.c1, h.2 _ _ _ hb c.c2, h.2 _ _ _ hb c.c3⟩
theorem grown_of_below {A B : World} (h : Below A.heap.size A B) : A.grownBy B none := ⟨h.os, h.tape, h.output, h.size, fun k hk _ => h.block k hk⟩

def encF (v : FV) : Value := .agg #[.int .i64 v.f.id, .int .i64 v.f.kd, .int .i64 v.f.ht, .int .i64 v.f.col, .slice (some ⟨v.pb, v.po, none⟩) v.f.ps.length v.cap]
def meetF (x : Bx) (v : FV) : Bool := meetsB (boxZ v.f.ps).l (boxZ v.f.ps).t (boxZ v.f.ps).r (boxZ v.f.ps).b x.l x.t x.r x.b
def meetBx (y x : Bx) : Bool := meetsB y.l y.t y.r y.b x.l x.t x.r x.b

/-- What a round's body may know of the feature that it is handed. -/
def Good (ok : Nat → Prop) (w : World) (v : FV) : Prop := validF v.f = true ∧ ok v.pb ∧ v.f.ps.length ≤ v.cap ∧ ∀ k x y, v.f.ps[k]? = some (x, y) → w.cell? ⟨v.pb, v.po + k * 2, none⟩ = some (.int .i64 x) ∧ w.cell? ⟨v.pb, v.po + k * 2 + 1, none⟩ = some (.int .i64 y)

theorem room_none' {F : Fence} (hd : F.depth = none) (k : Nat) : F.room k := fun d h => by rw [hd] at h; cases h

attribute [local go_sem] Oper.semAt_some

section
variable (ok : Nat → Prop) (G : FV → Prop) (T l N : Nat) (x : Bx) (J Jx : List { v : FV // G v } → World → Prop)

/-- A round of the caller's loop. -/
def Rounds : Prop := ∀ m pre v W, J pre W → pre.length < N → YieldAt Fence.wide m Tryz.prog l #[encF v.1] W fun e W' =>
  (e = .returned (.bool true) ∧ J (pre ++ [v]) W' ∧ KeepC T W W') ∨ (e = .returned (.bool false) ∧ Jx (pre ++ [v]) W')

/-- What each says. -/
def EachPost (pre : List { v : FV // G v }) (vs : List FV) (W : World) (e : Ending) (W' : World) : Prop :=
  (e = .returned (.bool true) ∧ (∃ ys : List { v : FV // G v }, ys.map Subtype.val = vs.filter (meetF x) ∧ J (pre ++ ys) W') ∧ KeepC T W W') ∨ (e = .returned (.bool false) ∧ ∃ zs, Jx (pre ++ zs) W')

set_option maxRecDepth 100000 in
set_option maxHeartbeats 2000000 in
theorem each_leaf (hY : Rounds G T l N J Jx) (hJ : ∀ pre A B, J pre A → Below A.heap.size A B → J pre B) (hT : ∀ b, ok b → b ≠ T) (q : Nat) (v : FV) (pre : List { v : FV // G v }) (W : World) (hg : G v) (hl : LeafAt ok W q v) (hq : q < W.heap.size) (h0 : J pre W) (hN : pre.length < N) :
    Calls Tryz.prog 126 #[.pointer (some ⟨q, 0, none⟩), .agg #[.int .i64 x.l, .int .i64 x.t, .int .i64 x.r, .int .i64 x.b], .func (.yield l) #[] #[]] W (EachPost G T x J Jx pre [v] W) := by
  have hB : ∀ o : Obj, Below W.heap.size W (W.alloc o) := fun o => (Below.refl _ _).alloc (Nat.le_refl _) o
  have HL : Hid (LeafAt ok W q v) := hl
  obtain ⟨c0, c1, c2, c3⟩ := hl.box
  have hqT := hT q hl.lt
  have Hqok : Hid (ok q) := hl.lt
  have HJ0 : Hid (J pre W) := h0
  clear hl h0
  generalize hbl : (boxZ v.f.ps).l = bl at *
  generalize hbt : (boxZ v.f.ps).t = bt at *
  generalize hbr : (boxZ v.f.ps).r = br at *
  generalize hbb : (boxZ v.f.ps).b = bb at *
  have HM : Hid (meetF x v = meetsB bl bt br bb x.l x.t x.r x.b) := by show meetF x v = _; rw [← hbl, ← hbt, ← hbr, ← hbb]; rfl
  clear hbl hbt hbr hbb
  obtain ⟨xl, xt, xr, xb⟩ := x
  dsimp only at HM ⊢
  go_enter Tryz.func126, Tryz.ntmps126
  go_upto_region 1 with fail
  go_cut [15] (fun u wc => u = .bool (!meetsB bl bt br bb xl xt xr xb) ∧ KeepC T W wc ∧ Below W.heap.size W wc)
  case first =>
    go_region_held3 (fun w' => w'.cell? ⟨q, 0, none⟩ = some (.int .i64 bl) ∧ w'.cell? ⟨q, 1, none⟩ = some (.int .i64 bt) ∧ w'.cell? ⟨q, 2, none⟩ = some (.int .i64 br) ∧ w'.cell? ⟨q, 3, none⟩ = some (.int .i64 bb) ∧ w'.cell? ⟨W.heap.size, 0, none⟩ = some (.int .i64 xl) ∧ w'.cell? ⟨W.heap.size, 1, none⟩ = some (.int .i64 xt) ∧ w'.cell? ⟨W.heap.size, 2, none⟩ = some (.int .i64 xr) ∧ w'.cell? ⟨W.heap.size, 3, none⟩ = some (.int .i64 xb)) (first | (simp [go_sem, *]; done) | exact s2)
      (first
      | (go_at_call 158; refine (Meets_any bl bt br bb xl xt xr xb _).mono ?_; rintro e w2 ⟨rfl, hb2⟩; obtain ⟨hc2, hf2⟩ := bcell hb2; have s2 := And.intro ((hc2 q 0 (by simp <;> omega)).trans (show _ = some (Value.int .i64 bl) from (by simp [go_sem, *]))) (And.intro ((hc2 q 1 (by simp <;> omega)).trans (show _ = some (Value.int .i64 bt) from (by simp [go_sem, *]))) (And.intro ((hc2 q 2 (by simp <;> omega)).trans (show _ = some (Value.int .i64 br) from (by simp [go_sem, *]))) (And.intro ((hc2 q 3 (by simp <;> omega)).trans (show _ = some (Value.int .i64 bb) from (by simp [go_sem, *]))) (And.intro ((hc2 W.heap.size 0 (by simp <;> omega)).trans (show _ = some (Value.int .i64 xl) from (by simp [go_sem]))) (And.intro ((hc2 W.heap.size 1 (by simp <;> omega)).trans (show _ = some (Value.int .i64 xt) from (by simp [go_sem]))) (And.intro ((hc2 W.heap.size 2 (by simp <;> omega)).trans (show _ = some (Value.int .i64 xr) from (by simp [go_sem]))) ((hc2 W.heap.size 3 (by simp <;> omega)).trans (show _ = some (Value.int .i64 xb) from (by simp [go_sem]))))))))); have hB2 : Below W.heap.size W w2 := (hB _).drew.trans (hb2.mono (by simp <;> omega)); clear hc2 hf2 hb2))
    all_goals
      go_wp2_with fail
      go_meet
      exact ⟨rfl, KeepC.of_below hB2, hB2⟩
  case rest =>
    obtain ⟨rfl, hK, hB1⟩ := hcut
    by_cases hm : meetsB bl bt br bb xl xt xr xb = true
    · rw [hm, Bool.not_true]
      have hl1 : LeafAt ok wc q v := HL.out.same (hK.same hT)
      have d4 := hl1.kids
      have d5 := hl1.id
      have d6 := hl1.kd
      have d7 := hl1.ht
      have d8 := hl1.col
      have d9 := hl1.sl
      have hnn := eql_nil
      obtain ⟨fn, tmps, assign, body, hy, hR⟩ := hY 0 pre ⟨v, hg⟩ wc (hJ pre W wc HJ0.out hB1) hN
      dsimp only [encF] at hy
      clear hl1 c0 c1 c2 c3
      go_upto_region 4 with fail
      refine (wpIn_wide (n := 1)).1 ?_
      gi_wp2
      refine hR.mono ?_
      rintro e W3 (⟨rfl, hJ3, hk3⟩ | ⟨rfl, hJx3⟩)
      · gi_wp2
        go_wp2
        go_ret
        exact .inl ⟨rfl, ⟨[⟨v, hg⟩], by simp [HM.out, hm], hJ3⟩, hK.trans hk3⟩
      · gi_wp2
        go_wp2
        go_ret
        exact .inr ⟨rfl, [⟨v, hg⟩], hJx3⟩
    · have hm' : meetsB bl bt br bb xl xt xr xb = false := by simpa using hm
      rw [hm', Bool.not_false]
      have Hfin : Hid (J pre wc) := hJ pre W wc HJ0.out hB1
      go_wp2
      go_ret
      exact .inl ⟨rfl, ⟨[], by simp [HM.out, hm'], by simpa using Hfin.out⟩, hK⟩

/-- One box lies in another. -/
def BxIn (y x : Bx) : Prop := x.l ≤ y.l ∧ x.t ≤ y.t ∧ y.r ≤ x.r ∧ y.b ≤ x.b
theorem BxIn.refl (x : Bx) : BxIn x x := ⟨Int.le_refl _, Int.le_refl _, Int.le_refl _, Int.le_refl _⟩
theorem BxIn.trans {a b c : Bx} (h : BxIn a b) (k : BxIn b c) : BxIn a c := by unfold BxIn at *; omega
theorem BxIn.left (a b : Bx) : BxIn a (a.join b) := by simp only [BxIn, Bx.join, mnZ, mxZ]; omega
theorem BxIn.right (a b : Bx) : BxIn b (a.join b) := by simp only [BxIn, Bx.join, mnZ, mxZ]; omega
theorem foldl_in (ks : Kids) : ∀ (a : Bx), BxIn a (ks.foldl (fun b q => b.join q.2) a) ∧ ∀ k ∈ ks, BxIn k.2 (ks.foldl (fun b q => b.join q.2) a) := by
  induction ks with
  | nil => exact fun a => ⟨BxIn.refl a, fun k hk => by cases hk⟩
  | cons k r ih =>
    intro a
    have h := ih (a.join k.2)
    refine ⟨(BxIn.left a k.2).trans h.1, fun k' hk' => ?_⟩
    rcases List.mem_cons.1 hk' with rfl | hk'
    · exact (BxIn.right a k'.2).trans h.1
    · exact h.2 k' hk'
theorem joinK_in {ks : Kids} {k : Nat × Bx} (h : k ∈ ks) : BxIn k.2 (joinK ks) := by
  cases ks with
  | nil => cases h
  | cons p r =>
    rcases List.mem_cons.1 h with rfl | h
    · exact (foldl_in r k.2).1
    · exact (foldl_in r p.2).2 k h
theorem meet_mono {y z x : Bx} (h : BxIn y z) (hm : meetBx y x = true) : meetBx z x = true := by
  simp only [meetBx, meetsB, decide_eq_true_eq] at *; unfold BxIn at h; omega
theorem IsT.boxIn {ok : Nat → Prop} {w : World} : ∀ {d q : Nat} {fs : List FV} {x : Bx}, IsT ok w d q fs x → ∀ v ∈ fs, BxIn (boxZ v.f.ps) x
  | 0, _, _, _, ⟨f, e, ex, _⟩ => fun v hv => by subst e ex; simp at hv; subst hv; exact BxIn.refl _
  | _ + 1, _, _, _, ⟨_, _, _, _, _, ks, ts, _, _, _, _, _, hl, ht, hf, hx⟩ => fun v hv => by
    subst hf hx
    obtain ⟨t, ht', hv'⟩ := List.mem_flatten.1 hv
    obtain ⟨i, hi, rfl⟩ := List.mem_iff_getElem.1 ht'
    have h1 := IsT.boxIn (ht i (ks[i]'(by omega)).1 (ks[i]'(by omega)).2 ts[i] (List.getElem?_eq_getElem _) (List.getElem?_eq_getElem _)) v hv'
    exact h1.trans (joinK_in (List.getElem_mem (by omega)))
theorem IsT.none {ok : Nat → Prop} {w : World} {d q : Nat} {fs : List FV} {y x : Bx} (h : IsT ok w d q fs y) (hm : meetBx y x = false) : fs.filter (meetF x) = [] := by
  rw [List.filter_eq_nil_iff]
  intro v hv hc
  have := meet_mono (h.boxIn v hv) (show meetBx (boxZ v.f.ps) x = true from hc)
  rw [hm] at this
  cases this

end

end Go.Proofs.YtenaepdmlknlcaaGreatDoor

namespace Go.Proofs.YtenaepdmlknlcaaGreatDoor
open Go.RowKit Go.Shelf

attribute [local go_sem] Oper.semAt_some

theorem flatten_take_succ {ts : List (List FV)} {k : Nat} {t : List FV} (h : ts[k]? = some t) : (ts.take (k + 1)).flatten = (ts.take k).flatten ++ t := by
  rw [List.take_add_one, h]; simp
theorem flatten_take_le (ts : List (List FV)) (k : Nat) : ((ts.take k).flatten).length ≤ (ts.flatten).length := by
  conv => rhs; rw [← List.take_append_drop k ts, List.flatten_append, List.length_append]
  omega

section
variable (ok : Nat → Prop) (G : FV → Prop) (T l N n0 : Nat) (x : Bx) (J Jx : List { v : FV // G v } → World → Prop)

set_option maxRecDepth 100000 in
set_option maxHeartbeats 2000000 in
theorem each_any (hY : Rounds G T l N J Jx) (hJ : ∀ pre A B, J pre A → Below A.heap.size A B → J pre B) (hT : ∀ b, ok b → b ≠ T) (hlt : ∀ b, ok b → b < n0) (hTn : T < n0) : ∀ (d q : Nat) (vs : List FV) (y : Bx) (pre : List { v : FV // G v }) (W : World), IsT ok W d q vs y → (∀ v ∈ vs, G v) → n0 ≤ W.heap.size → J pre W → pre.length + vs.length ≤ N →
    Calls Tryz.prog 126 #[.pointer (some ⟨q, 0, none⟩), .agg #[.int .i64 x.l, .int .i64 x.t, .int .i64 x.r, .int .i64 x.b], .func (.yield l) #[] #[]] W (EachPost G T x J Jx pre vs W)
  | 0, q, vs, y, pre, W, ⟨v, e, _, hl⟩, hg, hW, h0, hN => by
    subst e
    exact each_leaf ok G T l N x J Jx hY hJ hT q v pre W (hg v (by simp)) hl (Nat.lt_of_lt_of_le (hlt q hl.lt) hW) h0 (by simp at hN; omega)
  | d + 1, q, vs, y, pre, W, hIT, hg, hW, h0, hN => by
    have IH := each_any hY hJ hT hlt hTn d
    have HIH : Hid _ := IH
    clear IH
    have hIT' := hIT
    obtain ⟨hqok, hcq, kb, ko, cap, ks, ts, h4, hne, hle, hcap, hkO, htl, hts, hflat, hy⟩ := hIT'
    have hq : q < W.heap.size := Nat.lt_of_lt_of_le (hlt q hqok) hW
    have hB : ∀ o : Obj, Below W.heap.size W (W.alloc o) := fun o => (Below.refl _ _).alloc (Nat.le_refl _) o
    obtain ⟨c0, c1, c2, c3⟩ := hcq
    have HJ0 : Hid (J pre W) := h0
    have HN : Hid (pre.length + vs.length ≤ N) := hN
    have HIT : Hid (IsT ok W (d + 1) q vs y) := hIT
    have HKO : Hid (KidsO ok W kb ko ks) := hkO
    have HTL : Hid (ts.length = ks.length) := htl
    have HTS : Hid (∀ (i : Nat) p y t, ks[i]? = some (p, y) → ts[i]? = some t → IsT ok W d p t y) := hts
    have HFL : Hid (vs = ts.flatten) := hflat
    have HQ4 : Hid (W.cell? ⟨q, 4, none⟩ = some (.slice (some ⟨kb, ko, none⟩) ks.length cap)) := h4
    have hkb : kb < W.heap.size := Nat.lt_of_lt_of_le (hlt kb hkO.1) hW
    have hqT := hT q hqok
    have hkT := hT kb hkO.1
    clear h0 hN hIT hkO htl hts hflat h4 hy
    generalize hkn : ks.length = n at *
    have Hkn : Hid (ks.length = n) := hkn
    clear hkn
    obtain ⟨bl, bt, br, bb⟩ := y
    dsimp only at c0 c1 c2 c3
    obtain ⟨xl, xt, xr, xb⟩ := x
    dsimp only
    go_enter Tryz.func126, Tryz.ntmps126
    go_upto_region 1 with fail
    go_cut [15] (fun u wc => u = .bool (!meetsB bl bt br bb xl xt xr xb) ∧ KeepC T W wc ∧ Below W.heap.size W wc ∧ W.heap.size < wc.heap.size ∧ C4 wc W.heap.size ⟨xl, xt, xr, xb⟩)
    case first =>
      go_region_held3 (fun w' => w'.cell? ⟨q, 0, none⟩ = some (.int .i64 bl) ∧ w'.cell? ⟨q, 1, none⟩ = some (.int .i64 bt) ∧ w'.cell? ⟨q, 2, none⟩ = some (.int .i64 br) ∧ w'.cell? ⟨q, 3, none⟩ = some (.int .i64 bb) ∧ w'.cell? ⟨W.heap.size, 0, none⟩ = some (.int .i64 xl) ∧ w'.cell? ⟨W.heap.size, 1, none⟩ = some (.int .i64 xt) ∧ w'.cell? ⟨W.heap.size, 2, none⟩ = some (.int .i64 xr) ∧ w'.cell? ⟨W.heap.size, 3, none⟩ = some (.int .i64 xb)) (first | (simp [go_sem, *]; done) | exact s2)
        (first
        | (go_at_call 158; refine (Meets_any bl bt br bb xl xt xr xb _).mono ?_; rintro e w2 ⟨rfl, hb2⟩; obtain ⟨hc2, hf2⟩ := bcell hb2; have s2 := And.intro ((hc2 q 0 (by simp <;> omega)).trans (show _ = some (Value.int .i64 bl) from (by simp [go_sem, *]))) (And.intro ((hc2 q 1 (by simp <;> omega)).trans (show _ = some (Value.int .i64 bt) from (by simp [go_sem, *]))) (And.intro ((hc2 q 2 (by simp <;> omega)).trans (show _ = some (Value.int .i64 br) from (by simp [go_sem, *]))) (And.intro ((hc2 q 3 (by simp <;> omega)).trans (show _ = some (Value.int .i64 bb) from (by simp [go_sem, *]))) (And.intro ((hc2 W.heap.size 0 (by simp <;> omega)).trans (show _ = some (Value.int .i64 xl) from (by simp [go_sem]))) (And.intro ((hc2 W.heap.size 1 (by simp <;> omega)).trans (show _ = some (Value.int .i64 xt) from (by simp [go_sem]))) (And.intro ((hc2 W.heap.size 2 (by simp <;> omega)).trans (show _ = some (Value.int .i64 xr) from (by simp [go_sem]))) ((hc2 W.heap.size 3 (by simp <;> omega)).trans (show _ = some (Value.int .i64 xb) from (by simp [go_sem]))))))))); have hB2 : Below W.heap.size W w2 := (hB _).drew.trans (hb2.mono (by simp <;> omega)); have hz2 : W.heap.size < w2.heap.size := (by have := hb2.size; simp at this; omega); clear hc2 hf2 hb2))
      all_goals
        go_wp2_with fail
        go_meet
        exact ⟨rfl, KeepC.of_below hB2, hB2, hz2, ⟨s2.2.2.2.2.1, s2.2.2.2.2.2.1, s2.2.2.2.2.2.2.1, s2.2.2.2.2.2.2.2⟩⟩
    case rest =>
      obtain ⟨rfl, hK, hB1, hz1, hbox⟩ := hcut
      by_cases hm : meetsB bl bt br bb xl xt xr xb = true
      · rw [hm, Bool.not_true]
        have d4 : wc.cell? ⟨q, 4, none⟩ = some (.slice (some ⟨kb, ko, none⟩) n cap) := hK.2 q 4 _ hqT HQ4.out
        have hnn := eql_some
        have HK : Hid (KeepC T W wc) := hK
        have HBX : Hid (C4 wc W.heap.size ⟨xl, xt, xr, xb⟩) := hbox
        have HJc : Hid (J pre wc) := hJ pre W wc HJ0.out hB1
        clear c0 c1 c2 c3 hK hbox hm
        go_wp2
        go_loopw [32] (fun i wr => ∃ (k : Nat) (ys : List { v : FV // G v }), k ≤ n ∧ i = .int .i64 k ∧ ys.map Subtype.val = ((ts.take k).flatten).filter (meetF ⟨xl, xt, xr, xb⟩) ∧ J (pre ++ ys) wr ∧ KeepC T W wr ∧ C4 wr W.heap.size ⟨xl, xt, xr, xb⟩ ∧ W.heap.size < wr.heap.size) (fun i _ => n - (intOf i).toNat)
        case atStart => exact ⟨0, [], by omega, rfl, by simp, by simpa using HJc.out, HK.out, HBX.out, hz1⟩
        case round =>
          obtain ⟨k, ys, hk, rfl, hys, hJk, hKk, hbk, hsk⟩ := hrel
          have HYS : Hid (ys.map Subtype.val = ((ts.take k).flatten).filter (meetF ⟨xl, xt, xr, xb⟩)) := hys
          have HJk : Hid (J (pre ++ ys) wr) := hJk
          clear hys hJk
          by_cases hlt2 : k < n
          · have hki : k < ks.length := by have := Hkn.out; omega
            have hti : k < ts.length := by have := HTL.out; have := Hkn.out; omega
            obtain ⟨p, yp, hkp⟩ : ∃ p yp, ks[k]? = some (p, yp) := ⟨ks[k].1, ks[k].2, List.getElem?_eq_getElem hki⟩
            obtain ⟨t, htk⟩ : ∃ t, ts[k]? = some t := ⟨ts[k], List.getElem?_eq_getElem hti⟩
            have hTk := (HTS.out k p yp t hkp htk).same (hKk.same hT)
            have hcell := hKk.2 kb (ko + k) _ hkT (HKO.out.2 k p yp hkp).1
            have hsub : ∀ v ∈ t, G v := fun v hv => hg v (by rw [HFL.out]; exact List.mem_flatten.2 ⟨t, List.mem_of_getElem? htk, hv⟩)
            have hlen : (pre ++ ys).length + t.length ≤ N := by
              have h1 : ys.length ≤ ((ts.take k).flatten).length := by
                have := congrArg List.length HYS.out
                rw [List.length_map] at this
                rw [this]; exact List.length_filter_le _ _
              have h2 := flatten_take_le ts (k + 1)
              rw [flatten_take_succ htk, List.length_append, ← HFL.out] at h2
              have := HN.out
              rw [List.length_append]; omega
            have hC := HIH.out p t yp (pre ++ ys) wr hTk hsub (by omega) HJk.out hlen
            have HC : Hid _ := hC
            clear hC hTk hsub hlen
            have HF : Hid (((ts.take (k + 1)).flatten).filter (meetF ⟨xl, xt, xr, xb⟩) = ((ts.take k).flatten).filter (meetF ⟨xl, xt, xr, xb⟩) ++ t.filter (meetF ⟨xl, xt, xr, xb⟩)) := by
              show ((ts.take (k + 1)).flatten).filter _ = _
              rw [flatten_take_succ htk, List.filter_append]
            have hbk' := hbk
            obtain ⟨b0, b1, b2, b3⟩ := hbk'
            dsimp only at b0 b1 b2 b3
            clear hkp htk
            go_wp2_with (go_at_call 126; refine Calls.mono HC.out ?_; clear HC; rintro e W3 (⟨rfl, hex3, hk3⟩ | ⟨rfl, zs, hJx3⟩))
            · obtain ⟨ys3, hys3, hJ3⟩ := hex3
              go_roundw
              case rel =>
                refine ⟨k + 1, ys ++ ys3, by omega, by go_num, ?_, by rw [← List.append_assoc]; exact hJ3, hKk.trans hk3, hk3.q4 (by omega) hbk, Nat.lt_of_lt_of_le hsk hk3.1⟩
                rw [List.map_append, HYS.out, hys3, HF.out]
              case measure => simp [intOf]; omega
            · go_ret
              exact .inr ⟨rfl, ys ++ zs, by rw [← List.append_assoc]; exact hJx3⟩
          · have HF : Hid ((ts.take k).flatten = vs) := by
              show (ts.take k).flatten = vs
              rw [show k = ts.length from by have := HTL.out; have := Hkn.out; omega, List.take_length, HFL.out]
            go_wp2
            go_ret
            exact .inl ⟨rfl, ⟨ys, by rw [HYS.out, HF.out], HJk.out⟩, hKk⟩
      · have hm' : meetsB bl bt br bb xl xt xr xb = false := by simpa using hm
        rw [hm', Bool.not_false]
        have Hfin : Hid (J pre wc) := hJ pre W wc HJ0.out hB1
        have Hnone : Hid (vs.filter (meetF ⟨xl, xt, xr, xb⟩) = []) := HIT.out.none hm'
        go_wp2
        go_ret
        exact .inl ⟨rfl, ⟨[], by rw [Hnone.out]; rfl, by simpa using Hfin.out⟩, hK⟩
end

end Go.Proofs.YtenaepdmlknlcaaGreatDoor

namespace Go.Proofs.YtenaepdmlknlcaaGreatDoor
open Go.RowKit Go.Shelf

attribute [local go_sem] Oper.semAt_some

theorem RoundIn_any {F : Fence} (hd : F.depth = none) {m m' : Nat} {P : Program} {l : Nat} {f : FuncId} {tmps : Array Value} {assign body : Code} {w : World} {R : Ending → World → Prop}
    (h : RoundIn F m P l f tmps assign body w R) : RoundIn F m' P l f tmps assign body w R := ⟨h.1, fun c cs _ => h.2 c cs (room_none' hd _)⟩
theorem YieldAt_any {F : Fence} (hd : F.depth = none) {m : Nat} (m' : Nat) {P : Program} {l : Nat} {args : Array Value} {W : World} {R : Ending → World → Prop} (h : YieldAt F m P l args W R) : YieldAt F m' P l args W R := by
  obtain ⟨fn, tmps, assign, body, hy, hR⟩ := h
  exact ⟨fn, tmps, assign, body, hy, RoundIn_any hd hR⟩

set_option maxHeartbeats 400000 in
theorem Meeting_any (p : Option Addr) (x : Bx) (w : World) :
    Calls Tryz.prog 90 #[.agg #[.pointer p], .agg #[.int .i64 x.l, .int .i64 x.t, .int .i64 x.r, .int .i64 x.b]] w fun e w' => e = .returned (.func (.func 125) #[] #[.pointer (some ⟨w.heap.size, 0, none⟩), .pointer (some ⟨w.heap.size + 1, 0, none⟩)]) ∧ w' = (w.alloc (.cells #[.pointer p] 89)).alloc (.cells #[.int .i64 x.l, .int .i64 x.t, .int .i64 x.r, .int .i64 x.b] 141) := by
  go_enter Tryz.func90, Tryz.ntmps90
  go_wp2
  go_ret
  exact ⟨rfl, rfl⟩

set_option maxHeartbeats 2000000 in
theorem meeting_stops (ok : Nat → Prop) (G : FV → Prop) (T n0 n d q Bt Bb : Nat) (vs : List FV) (x y : Bx) (w : World) (hT : ∀ b, ok b → b ≠ T) (hlt : ∀ b, ok b → b < n0) (hTn : T < n0) (hn0 : n0 ≤ w.heap.size)
    (hBt : w.cell? ⟨Bt, 0, none⟩ = some (.pointer (some ⟨q, 0, none⟩))) (hBb : C4 w Bb x) (hIT : IsT ok w d q vs y) (hg : ∀ v ∈ vs, G v) :
    SeqStopsK Fence.wide n Tryz.prog 125 #[.pointer (some ⟨Bt, 0, none⟩), .pointer (some ⟨Bb, 0, none⟩)] (fun v : { v : FV // G v } => #[encF v.1]) (KeepC T) (fun ys => ys.map Subtype.val = vs.filter (meetF x)) (fun _ => True) vs.length w := by
  intro l J Jx W hW hJ hJx hY h0
  refine callsIn_wide.2 ?_
  have hE := each_any ok G T l vs.length n0 x J Jx (fun m pre v W hj hl => YieldAt_any rfl m (hY pre v W hj hl)) (fun pre A B hj hb => hJ pre A B none hj (grown_of_below hb) (fun r e => by cases e)) hT hlt hTn d q vs y [] W
    (hIT.same (Same.of_below hW (fun b hb => Nat.lt_of_lt_of_le (hlt b hb) hn0))) hg (Nat.le_trans hn0 hW.size) h0 (by simp)
  have HE : Hid _ := hE
  have e0 := (hW.cell (p := ⟨Bt, 0, none⟩) (cell_lt hBt)).trans hBt
  obtain ⟨b0, b1, b2, b3⟩ := hBb.below hW (cell_lt hBb.c0)
  clear hE hJ hJx hY h0 hIT hBt hBb
  show Calls Tryz.prog 125 #[.func (.yield l) #[] #[], .pointer (some ⟨Bt, 0, none⟩), .pointer (some ⟨Bb, 0, none⟩)] W _
  go_enter Tryz.func125, Tryz.ntmps125
  go_wp2_with (go_at_call 126; refine Calls.mono HE.out ?_; rintro e W3 (⟨rfl, ⟨ys, hys, hj⟩, hk⟩ | ⟨rfl, zs, hjx⟩))
  · go_end0
    exact ⟨⟨_, rfl⟩, .inl ⟨ys, hys, by simpa using hj⟩⟩
  · go_end0
    exact ⟨⟨_, rfl⟩, .inr ⟨zs, trivial, by simpa using hjx⟩⟩

/-- The feature that is seen so far. -/
def pickV (x : Bx) (o : Option FV) (v : FV) : Option FV :=
  if coverB v.f.kd v.f.ps x.l x.t x.r x.b then
    match o with
    | none => some v
    | some u => if aboveB v.f.ht v.f.id u.f.ht u.f.id then some v else some u
  else o
def topOf (x : Bx) (vs : List FV) : Option FV := vs.foldl (pickV x) none
def tid : Option FV → Int
  | none => 0
  | some v => v.f.id
def tkd : Option FV → Int
  | none => 0
  | some v => v.f.kd
def tht : Option FV → Int
  | none => 0
  | some v => v.f.ht
def tcol : Option FV → Int
  | none => 0
  | some v => v.f.col
def tsl : Option FV → Value
  | none => .slice none 0 0
  | some v => .slice (some ⟨v.pb, v.po, none⟩) v.f.ps.length v.cap

/-- Five cells of a block, which may be written. -/
structure Q5 (w : World) (b : Nat) (v0 v1 v2 v3 v4 : Value) : Prop where
  c0 : w.cell? ⟨b, 0, none⟩ = some v0
  c1 : w.cell? ⟨b, 1, none⟩ = some v1
  c2 : w.cell? ⟨b, 2, none⟩ = some v2
  c3 : w.cell? ⟨b, 3, none⟩ = some v3
  c4 : w.cell? ⟨b, 4, none⟩ = some v4
  f0 : w.frozen? ⟨b, 0, none⟩ = false
  f1 : w.frozen? ⟨b, 1, none⟩ = false
  f2 : w.frozen? ⟨b, 2, none⟩ = false
  f3 : w.frozen? ⟨b, 3, none⟩ = false
  f4 : w.frozen? ⟨b, 4, none⟩ = false
theorem Q5.below {n : Nat} {A B : World} (h : Below n A B) {b : Nat} (hb : b < n) {v0 v1 v2 v3 v4 : Value} (q : Q5 A b v0 v1 v2 v3 v4) : Q5 B b v0 v1 v2 v3 v4 := by
  obtain ⟨hc, hf⟩ := bcell h
  exact ⟨(hc _ _ hb).trans q.c0, (hc _ _ hb).trans q.c1, (hc _ _ hb).trans q.c2, (hc _ _ hb).trans q.c3, (hc _ _ hb).trans q.c4, (hf _ _ hb).trans q.f0, (hf _ _ hb).trans q.f1, (hf _ _ hb).trans q.f2, (hf _ _ hb).trans q.f3, (hf _ _ hb).trans q.f4⟩
theorem Q5.kept {A B : World} {row : Option Nat} {b : Nat} {v0 v1 v2 v3 v4 : Value} (q : Q5 A b v0 v1 v2 v3 v4) (hg : A.grownBy B row) (hr : ∀ r, row = some r → ∃ o : Obj, A.heap[r]? = some o ∧ o.isCells = false) : Q5 B b v0 v1 v2 v3 v4 :=
  ⟨cell_kept q.c0 hg hr, cell_kept q.c1 hg hr, cell_kept q.c2 hg hr, cell_kept q.c3 hg hr, cell_kept q.c4 hg hr, (frozen_kept q.c0 hg hr).trans q.f0, (frozen_kept q.c1 hg hr).trans q.f1, (frozen_kept q.c2 hg hr).trans q.f2, (frozen_kept q.c3 hg hr).trans q.f3, (frozen_kept q.c4 hg hr).trans q.f4⟩
theorem Q5.new (w : World) (v0 v1 v2 v3 v4 : Value) (t : TypeId) : Q5 (w.alloc (.cells #[v0, v1, v2, v3, v4] t)) w.heap.size v0 v1 v2 v3 v4 := by
  constructor <;> simp [go_sem]
abbrev set5 (w : World) (b : Nat) (x0 x1 x2 x3 x4 : Value) : World := ((((w.setCell ⟨b, 0, none⟩ x0).setCell ⟨b, 1, none⟩ x1).setCell ⟨b, 2, none⟩ x2).setCell ⟨b, 3, none⟩ x3).setCell ⟨b, 4, none⟩ x4
theorem Q5.set {w : World} {b : Nat} {v0 v1 v2 v3 v4 : Value} (q : Q5 w b v0 v1 v2 v3 v4) (x0 x1 x2 x3 x4 : Value) : Q5 (set5 w b x0 x1 x2 x3 x4) b x0 x1 x2 x3 x4 := by
  obtain ⟨c0, c1, c2, c3, c4, f0, f1, f2, f3, f4⟩ := q
  constructor <;> simp [set5, go_sem, c0, c1, c2, c3, c4, f0, f1, f2, f3, f4]
theorem below_set5 (n : Nat) (w : World) (b : Nat) (h : n ≤ b) (u0 u1 u2 u3 u4 : Value) : Below n w (set5 w b u0 u1 u2 u3 u4) :=
  (((((Below.refl n w).setCell (p := ⟨b, 0, none⟩) h u0).setCell (p := ⟨b, 1, none⟩) h u1).setCell (p := ⟨b, 2, none⟩) h u2).setCell (p := ⟨b, 3, none⟩) h u3).setCell (p := ⟨b, 4, none⟩) h u4
theorem C4.kept {A B : World} {row : Option Nat} {b : Nat} {x : Bx} (q : C4 A b x) (hg : A.grownBy B row) (hr : ∀ r, row = some r → ∃ o : Obj, A.heap[r]? = some o ∧ o.isCells = false) : C4 B b x :=
  ⟨cell_kept q.c0 hg hr, cell_kept q.c1 hg hr, cell_kept q.c2 hg hr, cell_kept q.c3 hg hr⟩
theorem keepC_t {T : Nat} : ∀ {A B C : World}, KeepC T A B → KeepC T B C → KeepC T A C := fun h k => h.trans k
theorem keepC_b {T n : Nat} : ∀ (W : World) (l : Nat) (o o' : Obj), n ≤ l → W.heap[l]? = some o → o.isCells = false → o.isWalk = false → KeepC T W (W.putObj l o') := fun W l o o' _ hl ho _ =>
  ⟨(grownBy_putObj' W l o').size, fun b off v _ h => cell_kept h (grownBy_putObj' W l o') (fun r e => by cases e; exact ⟨o, hl, ho⟩)⟩
theorem keepC_set5 {T : Nat} (w : World) (u0 u1 u2 u3 u4 : Value) : KeepC T w (set5 w T u0 u1 u2 u3 u4) :=
  ⟨(below_set5 T w T (Nat.le_refl _) u0 u1 u2 u3 u4).size, fun b o v hb e => by
    simp only [set5]
    iterate 5 rw [World.cell?_setCell_far _ _ _ _ (fun h => hb h.symm)]
    exact e⟩

end Go.Proofs.YtenaepdmlknlcaaGreatDoor
