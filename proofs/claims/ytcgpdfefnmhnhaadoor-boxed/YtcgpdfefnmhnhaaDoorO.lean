import Derived.Test.YtcgpdfefnmhnhaaDoorN
import Derived.RangeFuncNested
import Derived.RangeFuncBound
import Derived.RangeFuncCalls
import Derived.RangeFuncLeaves
import Derived.Shelf.Abstract
import Derived.Shelf.RegionOpen
import Derived.OwnWalkIn
import Derived.TacticsInMore
import Derived.LoopNIn
import Derived.LoopIn
namespace Go.Proofs.YtcgpdfefnmhnhaaDoor
open Go.RowKit Go.Shelf

/-- All cells but those of the block T read as they did. -/
def KeepC (T : Nat) (A B : World) : Prop := A.heap.size ≤ B.heap.size ∧ ∀ b o v, b ≠ T → A.cell? ⟨b, o, none⟩ = some v → B.cell? ⟨b, o, none⟩ = some v
theorem KeepC.refl (T : Nat) (A : World) : KeepC T A A := ⟨Nat.le_refl _, fun _ _ _ _ h => h⟩
theorem KeepC.trans {T : Nat} {A B C : World} (h : KeepC T A B) (k : KeepC T B C) : KeepC T A C := ⟨Nat.le_trans h.1 k.1, fun b o v hb e => k.2 b o v hb (h.2 b o v hb e)⟩
theorem cell_lt {A : World} {b o : Nat} {v : Value} (h : A.cell? ⟨b, o, none⟩ = some v) : b < A.heap.size := World.block_lt_of_cell? A ⟨b, o, none⟩ h
theorem KeepC.of_below {T : Nat} {A B : World} (h : Below A.heap.size A B) : KeepC T A B := ⟨h.size, fun b o _v _ e => (h.cell (p := ⟨b, o, none⟩) (cell_lt e)).trans e⟩
theorem KeepC.same {T : Nat} {A B : World} (h : KeepC T A B) {ok : Nat → Prop} (hok : ∀ b, ok b → b ≠ T) : Same ok A B := fun b o v hb e => h.2 b o v (hok b hb) e
theorem KeepC.q4 {T : Nat} {A B : World} (h : KeepC T A B) {b : Nat} (hb : b ≠ T) {x : Bx} (c : C4 A b x) : C4 B b x := ⟨h.2 _ _ _ hb c.c0, h.2 _ _ _ hb c.c1, h.2 _ _ _ hb c.c2, h.2 _ _ _ hb c.c3⟩
theorem grown_of_below {A B : World} (h : Below A.heap.size A B) : A.grownBy B none := ⟨h.os, h.tape, h.output, h.size, fun k hk _ => h.block k hk⟩

def encF (v : FV) : Value := .agg #[.int .i64 v.f.id, .int .i64 v.f.kd, .int .i64 v.f.ht, .int .i64 v.f.col, .slice (some ⟨v.pb, v.po, none⟩) v.f.ps.length v.cap]
def meetF (x : Bx) (v : FV) : Bool := meetsB (boxZ v.f.ps).l (boxZ v.f.ps).t (boxZ v.f.ps).r (boxZ v.f.ps).b x.l x.t x.r x.b
def meetBx (y x : Bx) : Bool := meetsB y.l y.t y.r y.b x.l x.t x.r x.b

/-- What a round's body may know of the feature that it is handed. -/
def Good (ok : Nat → Prop) (w : World) (v : FV) : Prop := validF v.f = true ∧ ok v.pb ∧ v.f.ps.length ≤ v.cap ∧ ∀ k x y, v.f.ps[k]? = some (x, y) → w.cell? ⟨v.pb, v.po + k * 2, none⟩ = some (.int .i64 x) ∧ w.cell? ⟨v.pb, v.po + k * 2 + 1, none⟩ = some (.int .i64 y)

theorem room_none' {F : Fence} (hd : F.depth = none) (k : Nat) : F.room k := fun d h => by rw [hd] at h; cases h

attribute [local go_sem] Oper.semAt_some

section
variable (ok : Nat → Prop) (w0 : World) (T l N : Nat) (x : Bx) (J Jx : List { v : FV // Good ok w0 v } → World → Prop)

/-- A round of the caller's loop. -/
def Rounds : Prop := ∀ m pre v W, J pre W → pre.length < N → YieldAt Fence.wide m Tryd.prog l #[encF v.1] W fun e W' =>
  (e = .returned (.bool true) ∧ J (pre ++ [v]) W' ∧ KeepC T W W') ∨ (e = .returned (.bool false) ∧ Jx (pre ++ [v]) W')

/-- What each says. -/
def EachPost (pre : List { v : FV // Good ok w0 v }) (vs : List FV) (W : World) (e : Ending) (W' : World) : Prop :=
  (e = .returned (.bool true) ∧ (∃ ys : List { v : FV // Good ok w0 v }, ys.map Subtype.val = vs.filter (meetF x) ∧ J (pre ++ ys) W') ∧ KeepC T W W') ∨ (e = .returned (.bool false) ∧ ∃ zs, Jx (pre ++ zs) W')

set_option maxRecDepth 100000 in
set_option maxHeartbeats 2000000 in
theorem each_leaf (hY : Rounds ok w0 T l N J Jx) (hJ : ∀ pre A B, J pre A → Below A.heap.size A B → J pre B) (hT : ∀ b, ok b → b ≠ T) (q : Nat) (v : FV) (pre : List { v : FV // Good ok w0 v }) (W : World) (hg : Good ok w0 v) (hl : LeafAt ok W q v) (hq : q < W.heap.size) (h0 : J pre W) (hN : pre.length < N) :
    Calls Tryd.prog 48 #[.pointer (some ⟨q, 0, none⟩), .agg #[.int .i64 x.l, .int .i64 x.t, .int .i64 x.r, .int .i64 x.b], .func (.yield l) #[] #[]] W (EachPost ok w0 T x J Jx pre [v] W) := by
  have hB : ∀ o : Obj, Below W.heap.size W (W.alloc o) := fun o => (Below.refl _ _).alloc (Nat.le_refl _) o
  have HL : Hid (LeafAt ok W q v) := hl
  obtain ⟨c0, c1, c2, c3⟩ := hl.box
  have hqT := hT q hl.lt
  have Hqok : Hid (ok q) := hl.lt
  have HJ0 : Hid (J pre W) := h0
  clear hl h0
  generalize hbl : (boxZ v.f.ps).l = bl at *
  generalize hbt : (boxZ v.f.ps).t = bt at *
  generalize hbr : (boxZ v.f.ps).r = br at *
  generalize hbb : (boxZ v.f.ps).b = bb at *
  have HM : Hid (meetF x v = meetsB bl bt br bb x.l x.t x.r x.b) := by show meetF x v = _; rw [← hbl, ← hbt, ← hbr, ← hbb]; rfl
  clear hbl hbt hbr hbb
  obtain ⟨xl, xt, xr, xb⟩ := x
  dsimp only at HM ⊢
  go_enter Tryd.func48, Tryd.ntmps48
  go_upto_region 1 with fail
  go_cut [15] (fun u wc => u = .bool (!meetsB bl bt br bb xl xt xr xb) ∧ KeepC T W wc ∧ Below W.heap.size W wc)
  case first =>
    go_region_held3 (fun w' => w'.cell? ⟨q, 0, none⟩ = some (.int .i64 bl) ∧ w'.cell? ⟨q, 1, none⟩ = some (.int .i64 bt) ∧ w'.cell? ⟨q, 2, none⟩ = some (.int .i64 br) ∧ w'.cell? ⟨q, 3, none⟩ = some (.int .i64 bb) ∧ w'.cell? ⟨W.heap.size, 0, none⟩ = some (.int .i64 xl) ∧ w'.cell? ⟨W.heap.size, 1, none⟩ = some (.int .i64 xt) ∧ w'.cell? ⟨W.heap.size, 2, none⟩ = some (.int .i64 xr) ∧ w'.cell? ⟨W.heap.size, 3, none⟩ = some (.int .i64 xb)) (first | (simp [go_sem, *]; done) | exact s2)
      (first
      | (go_at_call 68; refine (Meets_any bl bt br bb xl xt xr xb _).mono ?_; rintro e w2 ⟨rfl, hb2⟩; obtain ⟨hc2, hf2⟩ := bcell hb2; have s2 := And.intro ((hc2 q 0 (by simp <;> omega)).trans (show _ = some (Value.int .i64 bl) from (by simp [go_sem, *]))) (And.intro ((hc2 q 1 (by simp <;> omega)).trans (show _ = some (Value.int .i64 bt) from (by simp [go_sem, *]))) (And.intro ((hc2 q 2 (by simp <;> omega)).trans (show _ = some (Value.int .i64 br) from (by simp [go_sem, *]))) (And.intro ((hc2 q 3 (by simp <;> omega)).trans (show _ = some (Value.int .i64 bb) from (by simp [go_sem, *]))) (And.intro ((hc2 W.heap.size 0 (by simp <;> omega)).trans (show _ = some (Value.int .i64 xl) from (by simp [go_sem]))) (And.intro ((hc2 W.heap.size 1 (by simp <;> omega)).trans (show _ = some (Value.int .i64 xt) from (by simp [go_sem]))) (And.intro ((hc2 W.heap.size 2 (by simp <;> omega)).trans (show _ = some (Value.int .i64 xr) from (by simp [go_sem]))) ((hc2 W.heap.size 3 (by simp <;> omega)).trans (show _ = some (Value.int .i64 xb) from (by simp [go_sem]))))))))); have hB2 : Below W.heap.size W w2 := (hB _).drew.trans (hb2.mono (by simp <;> omega)); clear hc2 hf2 hb2))
    all_goals
      go_wp2_with fail
      go_meet
      exact ⟨rfl, KeepC.of_below hB2, hB2⟩
  case rest =>
    obtain ⟨rfl, hK, hB1⟩ := hcut
    by_cases hm : meetsB bl bt br bb xl xt xr xb = true
    · rw [hm, Bool.not_true]
      have hl1 : LeafAt ok wc q v := HL.out.same (hK.same hT)
      have d4 := hl1.kids
      have d5 := hl1.id
      have d6 := hl1.kd
      have d7 := hl1.ht
      have d8 := hl1.col
      have d9 := hl1.sl
      have hnn := eql_nil
      obtain ⟨fn, tmps, assign, body, hy, hR⟩ := hY 0 pre ⟨v, hg⟩ wc (hJ pre W wc HJ0.out hB1) hN
      dsimp only [encF] at hy
      clear hl1 c0 c1 c2 c3
      go_upto_region 4 with fail
      refine (wpIn_wide (n := 1)).1 ?_
      gi_wp2
      refine hR.mono ?_
      rintro e W3 (⟨rfl, hJ3, hk3⟩ | ⟨rfl, hJx3⟩)
      · gi_wp2
        go_wp2
        go_ret
        exact .inl ⟨rfl, ⟨[⟨v, hg⟩], by simp [HM.out, hm], hJ3⟩, hK.trans hk3⟩
      · gi_wp2
        go_wp2
        go_ret
        exact .inr ⟨rfl, [⟨v, hg⟩], hJx3⟩
    · have hm' : meetsB bl bt br bb xl xt xr xb = false := by simpa using hm
      rw [hm', Bool.not_false]
      have Hfin : Hid (J pre wc) := hJ pre W wc HJ0.out hB1
      go_wp2
      go_ret
      exact .inl ⟨rfl, ⟨[], by simp [HM.out, hm'], by simpa using Hfin.out⟩, hK⟩

/-- One box lies in another. -/
def BxIn (y x : Bx) : Prop := x.l ≤ y.l ∧ x.t ≤ y.t ∧ y.r ≤ x.r ∧ y.b ≤ x.b
theorem BxIn.refl (x : Bx) : BxIn x x := ⟨Int.le_refl _, Int.le_refl _, Int.le_refl _, Int.le_refl _⟩
theorem BxIn.trans {a b c : Bx} (h : BxIn a b) (k : BxIn b c) : BxIn a c := by unfold BxIn at *; omega
theorem BxIn.left (a b : Bx) : BxIn a (a.join b) := by simp only [BxIn, Bx.join, mnZ, mxZ]; omega
theorem BxIn.right (a b : Bx) : BxIn b (a.join b) := by simp only [BxIn, Bx.join, mnZ, mxZ]; omega
theorem foldl_in (ks : Kids) : ∀ (a : Bx), BxIn a (ks.foldl (fun b q => b.join q.2) a) ∧ ∀ k ∈ ks, BxIn k.2 (ks.foldl (fun b q => b.join q.2) a) := by
  induction ks with
  | nil => exact fun a => ⟨BxIn.refl a, fun k hk => by cases hk⟩
  | cons k r ih =>
    intro a
    have h := ih (a.join k.2)
    refine ⟨(BxIn.left a k.2).trans h.1, fun k' hk' => ?_⟩
    rcases List.mem_cons.1 hk' with rfl | hk'
    · exact (BxIn.right a k'.2).trans h.1
    · exact h.2 k' hk'
theorem joinK_in {ks : Kids} {k : Nat × Bx} (h : k ∈ ks) : BxIn k.2 (joinK ks) := by
  cases ks with
  | nil => cases h
  | cons p r =>
    rcases List.mem_cons.1 h with rfl | h
    · exact (foldl_in r k.2).1
    · exact (foldl_in r p.2).2 k h
theorem meet_mono {y z x : Bx} (h : BxIn y z) (hm : meetBx y x = true) : meetBx z x = true := by
  simp only [meetBx, meetsB, decide_eq_true_eq] at *; unfold BxIn at h; omega
theorem IsT.boxIn {ok : Nat → Prop} {w : World} : ∀ {d q : Nat} {fs : List FV} {x : Bx}, IsT ok w d q fs x → ∀ v ∈ fs, BxIn (boxZ v.f.ps) x
  | 0, _, _, _, ⟨f, e, ex, _⟩ => fun v hv => by subst e ex; simp at hv; subst hv; exact BxIn.refl _
  | _ + 1, _, _, _, ⟨_, _, _, _, _, ks, ts, _, _, _, _, _, hl, ht, hf, hx⟩ => fun v hv => by
    subst hf hx
    obtain ⟨t, ht', hv'⟩ := List.mem_flatten.1 hv
    obtain ⟨i, hi, rfl⟩ := List.mem_iff_getElem.1 ht'
    have h1 := IsT.boxIn (ht i (ks[i]'(by omega)).1 (ks[i]'(by omega)).2 ts[i] (List.getElem?_eq_getElem _) (List.getElem?_eq_getElem _)) v hv'
    exact h1.trans (joinK_in (List.getElem_mem (by omega)))
theorem IsT.none {ok : Nat → Prop} {w : World} {d q : Nat} {fs : List FV} {y x : Bx} (h : IsT ok w d q fs y) (hm : meetBx y x = false) : fs.filter (meetF x) = [] := by
  rw [List.filter_eq_nil_iff]
  intro v hv hc
  have := meet_mono (h.boxIn v hv) (show meetBx (boxZ v.f.ps) x = true from hc)
  rw [hm] at this
  cases this

end

end Go.Proofs.YtcgpdfefnmhnhaaDoor
