import Derived.Test.YtenaepdmlknlcaaGreatDoorG05
import Derived.RangeFuncNested
import Derived.RangeFuncBound
import Derived.RangeFuncCalls
import Derived.RangeFuncLeaves
import Derived.Shelf.Abstract
import Derived.Shelf.RegionOpen
import Derived.OwnWalkIn
import Derived.TacticsInMore
import Derived.LoopNIn
import Derived.LoopIn
import Derived.Test.YtenaepdmlknlcaaGreatDoorG04
import Derived.Test.YtenaepdmlknlcaaGreatDoorG01
import Derived.Deep.RegionHeld3
import Derived.Deep.Cut
namespace Go.Proofs.YtenaepdmlknlcaaGreatDoor
open Go.RowKit Go.Shelf

/-- All cells but those of the block T read as they did. -/
def KeepC (T : Nat) (A B : World) : Prop := A.heap.size ≤ B.heap.size ∧ ∀ b o v, b ≠ T → A.cell? ⟨b, o, none⟩ = some v → B.cell? ⟨b, o, none⟩ = some v
theorem KeepC.refl (T : Nat) (A : World) : KeepC T A A := ⟨Nat.le_refl _, fun _ _ _ _ h => h⟩
theorem KeepC.trans {T : Nat} {A B C : World} (h : KeepC T A B) (k : KeepC T B C) : KeepC T A C := ⟨Nat.le_trans h.1 k.1, fun b o v hb e => k.2 b o v hb (h.2 b o v hb e)⟩
theorem cell_lt {A : World} {b o : Nat} {v : Value} (h : A.cell? ⟨b, o, none⟩ = some v) : b < A.heap.size := World.block_lt_of_cell? A ⟨b, o, none⟩ h
theorem KeepC.of_below {T : Nat} {A B : World} (h : Below A.heap.size A B) : KeepC T A B := ⟨h.size, fun b o _v _ e => (h.cell (p := ⟨b, o, none⟩) (cell_lt e)).trans e⟩
theorem KeepC.same {T : Nat} {A B : World} (h : KeepC T A B) {ok : Nat → Prop} (hok : ∀ b, ok b → b ≠ T) : Same ok A B := fun b o v hb e => h.2 b o v (hok b hb) e
theorem KeepC.q4 {T : Nat} {A B : World} (h : KeepC T A B) {b : Nat} (hb : b ≠ T) {x : Bx} (c : C4 A b x) : C4 B b x := ⟨h.2 _ _ _ hb c.c0, h.2 _ _ _ hb c.c1, h.2 _ _ _ hb c.c2, h.2 _ _ _ hb c.c3⟩
theorem grown_of_below {A B : World} (h : Below A.heap.size A B) : A.grownBy B none := ⟨h.os, h.tape, h.output, h.size, fun k hk _ => h.block k hk⟩

def encF (v : FV) : Value := .agg #[.int .i64 v.f.id, .int .i64 v.f.kd, .int .i64 v.f.ht, .int .i64 v.f.col, .slice (some ⟨v.pb, v.po, none⟩) v.f.ps.length v.cap]
def meetF (x : Bx) (v : FV) : Bool := meetsB (boxZ v.f.ps).l (boxZ v.f.ps).t (boxZ v.f.ps).r (boxZ v.f.ps).b x.l x.t x.r x.b
def meetBx (y x : Bx) : Bool := meetsB y.l y.t y.r y.b x.l x.t x.r x.b

/-- What a round's body may know of the feature that it is handed. -/
def Good (ok : Nat → Prop) (w : World) (v : FV) : Prop := validF v.f = true ∧ ok v.pb ∧ v.f.ps.length ≤ v.cap ∧ ∀ k x y, v.f.ps[k]? = some (x, y) → w.cell? ⟨v.pb, v.po + k * 2, none⟩ = some (.int .i64 x) ∧ w.cell? ⟨v.pb, v.po + k * 2 + 1, none⟩ = some (.int .i64 y)

theorem room_none' {F : Fence} (hd : F.depth = none) (k : Nat) : F.room k := fun d h => by rw [hd] at h; cases h

attribute [local go_sem] Oper.semAt_some

section
variable (ok : Nat → Prop) (G : FV → Prop) (T l N : Nat) (x : Bx) (J Jx : List { v : FV // G v } → World → Prop)

/-- A round of the caller's loop. -/
def Rounds : Prop := ∀ m pre v W, J pre W → pre.length < N → YieldAt Fence.wide m Tryz.prog l #[encF v.1] W fun e W' =>
  (e = .returned (.bool true) ∧ J (pre ++ [v]) W' ∧ KeepC T W W') ∨ (e = .returned (.bool false) ∧ Jx (pre ++ [v]) W')

/-- What each says. -/
def EachPost (pre : List { v : FV // G v }) (vs : List FV) (W : World) (e : Ending) (W' : World) : Prop :=
  (e = .returned (.bool true) ∧ (∃ ys : List { v : FV // G v }, ys.map Subtype.val = vs.filter (meetF x) ∧ J (pre ++ ys) W') ∧ KeepC T W W') ∨ (e = .returned (.bool false) ∧ ∃ zs, Jx (pre ++ zs) W')

set_option maxRecDepth 100000 in
set_option maxHeartbeats 2000000 in
theorem each_leaf (hY : Rounds G T l N J Jx) (hJ : ∀ pre A B, J pre A → Below A.heap.size A B → J pre B) (hT : ∀ b, ok b → b ≠ T) (q : Nat) (v : FV) (pre : List { v : FV // G v }) (W : World) (hg : G v) (hl : LeafAt ok W q v) (hq : q < W.heap.size) (h0 : J pre W) (hN : pre.length < N) :
    Calls Tryz.prog 126 #[.pointer (some ⟨q, 0, none⟩), .agg #[.int .i64 x.l, .int .i64 x.t, .int .i64 x.r, .int .i64 x.b], .func (.yield l) #[] #[]] W (EachPost G T x J Jx pre [v] W) := by
  have hB : ∀ o : Obj, Below W.heap.size W (W.alloc o) := fun o => (Below.refl _ _).alloc (Nat.le_refl _) o
  have HL : Hid (LeafAt ok W q v) := hl
  obtain ⟨c0, c1, c2, c3⟩ := hl.box
  have hqT := hT q hl.lt
  have Hqok : Hid (ok q) := hl.lt
  have HJ0 : Hid (J pre W) := h0
  clear hl h0
  generalize hbl : (boxZ v.f.ps).l = bl at *
  generalize hbt : (boxZ v.f.ps).t = bt at *
  generalize hbr : (boxZ v.f.ps).r = br at *
  generalize hbb : (boxZ v.f.ps).b = bb at *
  have HM : Hid (meetF x v = meetsB bl bt br bb x.l x.t x.r x.b) := by show meetF x v = _; rw [← hbl, ← hbt, ← hbr, ← hbb]; rfl
  clear hbl hbt hbr hbb
  obtain ⟨xl, xt, xr, xb⟩ := x
  dsimp only at HM ⊢
  go_enter Tryz.func126, Tryz.ntmps126
  go_upto_region 1 with fail
  go_cut [15] (fun u wc => u = .bool (!meetsB bl bt br bb xl xt xr xb) ∧ KeepC T W wc ∧ Below W.heap.size W wc)
  case first =>
    go_region_held3 (fun w' => w'.cell? ⟨q, 0, none⟩ = some (.int .i64 bl) ∧ w'.cell? ⟨q, 1, none⟩ = some (.int .i64 bt) ∧ w'.cell? ⟨q, 2, none⟩ = some (.int .i64 br) ∧ w'.cell? ⟨q, 3, none⟩ = some (.int .i64 bb) ∧ w'.cell? ⟨W.heap.size, 0, none⟩ = some (.int .i64 xl) ∧ w'.cell? ⟨W.heap.size, 1, none⟩ = some (.int .i64 xt) ∧ w'.cell? ⟨W.heap.size, 2, none⟩ = some (.int .i64 xr) ∧ w'.cell? ⟨W.heap.size, 3, none⟩ = some (.int .i64 xb)) (first | (simp [go_sem, *]; done) | exact s2)
      (first
      | (go_at_call 158; refine (Meets_any bl bt br bb xl xt xr xb _).mono ?_; rintro e w2 ⟨rfl, hb2⟩; obtain ⟨hc2, hf2⟩ := bcell hb2; have s2 := And.intro ((hc2 q 0 (by simp <;> omega)).trans (show _ = some (Value.int .i64 bl) from (by simp [go_sem, *]))) (And.intro ((hc2 q 1 (by simp <;> omega)).trans (show _ = some (Value.int .i64 bt) from (by simp [go_sem, *]))) (And.intro ((hc2 q 2 (by simp <;> omega)).trans (show _ = some (Value.int .i64 br) from (by simp [go_sem, *]))) (And.intro ((hc2 q 3 (by simp <;> omega)).trans (show _ = some (Value.int .i64 bb) from (by simp [go_sem, *]))) (And.intro ((hc2 W.heap.size 0 (by simp <;> omega)).trans (show _ = some (Value.int .i64 xl) from (by simp [go_sem]))) (And.intro ((hc2 W.heap.size 1 (by simp <;> omega)).trans (show _ = some (Value.int .i64 xt) from (by simp [go_sem]))) (And.intro ((hc2 W.heap.size 2 (by simp <;> omega)).trans (show _ = some (Value.int .i64 xr) from (by simp [go_sem]))) ((hc2 W.heap.size 3 (by simp <;> omega)).trans (show _ = some (Value.int .i64 xb) from (by simp [go_sem]))))))))); have hB2 : Below W.heap.size W w2 := (hB _).drew.trans (hb2.mono (by simp <;> omega)); clear hc2 hf2 hb2))
    all_goals
      go_wp2_with fail
      go_meet
      exact ⟨rfl, KeepC.of_below hB2, hB2⟩
  case rest =>
    obtain ⟨rfl, hK, hB1⟩ := hcut
    by_cases hm : meetsB bl bt br bb xl xt xr xb = true
    · rw [hm, Bool.not_true]
      have hl1 : LeafAt ok wc q v := HL.out.same (hK.same hT)
      have d4 := hl1.kids
      have d5 := hl1.id
      have d6 := hl1.kd
      have d7 := hl1.ht
      have d8 := hl1.col
      have d9 := hl1.sl
      have hnn := eql_nil
      obtain ⟨fn, tmps, assign, body, hy, hR⟩ := hY 0 pre ⟨v, hg⟩ wc (hJ pre W wc HJ0.out hB1) hN
      dsimp only [encF] at hy
      clear hl1 c0 c1 c2 c3
      go_upto_region 4 with fail
      refine (wpIn_wide (n := 1)).1 ?_
      gi_wp2
      refine hR.mono ?_
      rintro e W3 (⟨rfl, hJ3, hk3⟩ | ⟨rfl, hJx3⟩)
      · gi_wp2
        go_wp2
        go_ret
        exact .inl ⟨rfl, ⟨[⟨v, hg⟩], by simp [HM.out, hm], hJ3⟩, hK.trans hk3⟩
      · gi_wp2
        go_wp2
        go_ret
        exact .inr ⟨rfl, [⟨v, hg⟩], hJx3⟩
    · have hm' : meetsB bl bt br bb xl xt xr xb = false := by simpa using hm
      rw [hm', Bool.not_false]
      have Hfin : Hid (J pre wc) := hJ pre W wc HJ0.out hB1
      go_wp2
      go_ret
      exact .inl ⟨rfl, ⟨[], by simp [HM.out, hm'], by simpa using Hfin.out⟩, hK⟩

/-- One box lies in another. -/
def BxIn (y x : Bx) : Prop := x.l ≤ y.l ∧ x.t ≤ y.t ∧ y.r ≤ x.r ∧ y.b ≤ x.b
theorem BxIn.refl (x : Bx) : BxIn x x := ⟨Int.le_refl _, Int.le_refl _, Int.le_refl _, Int.le_refl _⟩
theorem BxIn.trans {a b c : Bx} (h : BxIn a b) (k : BxIn b c) : BxIn a c := by unfold BxIn at *; omega
theorem BxIn.left (a b : Bx) : BxIn a (a.join b) := by simp only [BxIn, Bx.join, mnZ, mxZ]; omega
theorem BxIn.right (a b : Bx) : BxIn b (a.join b) := by simp only [BxIn, Bx.join, mnZ, mxZ]; omega
theorem foldl_in (ks : Kids) : ∀ (a : Bx), BxIn a (ks.foldl (fun b q => b.join q.2) a) ∧ ∀ k ∈ ks, BxIn k.2 (ks.foldl (fun b q => b.join q.2) a) := by
  induction ks with
  | nil => exact fun a => ⟨BxIn.refl a, fun k hk => by cases hk⟩
  | cons k r ih =>
    intro a
    have h := ih (a.join k.2)
    refine ⟨(BxIn.left a k.2).trans h.1, fun k' hk' => ?_⟩
    rcases List.mem_cons.1 hk' with rfl | hk'
    · exact (BxIn.right a k'.2).trans h.1
    · exact h.2 k' hk'
theorem joinK_in {ks : Kids} {k : Nat × Bx} (h : k ∈ ks) : BxIn k.2 (joinK ks) := by
  cases ks with
  | nil => cases h
  | cons p r =>
    rcases List.mem_cons.1 h with rfl | h
    · exact (foldl_in r k.2).1
    · exact (foldl_in r p.2).2 k h
theorem meet_mono {y z x : Bx} (h : BxIn y z) (hm : meetBx y x = true) : meetBx z x = true := by
  simp only [meetBx, meetsB, decide_eq_true_eq] at *; unfold BxIn at h; omega
theorem IsT.boxIn {ok : Nat → Prop} {w : World} : ∀ {d q : Nat} {fs : List FV} {x : Bx}, IsT ok w d q fs x → ∀ v ∈ fs, BxIn (boxZ v.f.ps) x
  | 0, _, _, _, ⟨f, e, ex, _⟩ => fun v hv => by subst e ex; simp at hv; subst hv; exact BxIn.refl _
  | _ + 1, _, _, _, ⟨_, _, _, _, _, ks, ts, _, _, _, _, _, hl, ht, hf, hx⟩ => fun v hv => by
    subst hf hx
    obtain ⟨t, ht', hv'⟩ := List.mem_flatten.1 hv
    obtain ⟨i, hi, rfl⟩ := List.mem_iff_getElem.1 ht'
    have h1 := IsT.boxIn (ht i (ks[i]'(by omega)).1 (ks[i]'(by omega)).2 ts[i] (List.getElem?_eq_getElem _) (List.getElem?_eq_getElem _)) v hv'
    exact h1.trans (joinK_in (List.getElem_mem (by omega)))
theorem IsT.none {ok : Nat → Prop} {w : World} {d q : Nat} {fs : List FV} {y x : Bx} (h : IsT ok w d q fs y) (hm : meetBx y x = false) : fs.filter (meetF x) = [] := by
  rw [List.filter_eq_nil_iff]
  intro v hv hc
  have := meet_mono (h.boxIn v hv) (show meetBx (boxZ v.f.ps) x = true from hc)
  rw [hm] at this
  cases this

end

end Go.Proofs.YtenaepdmlknlcaaGreatDoor

namespace Go.Proofs.YtenaepdmlknlcaaGreatDoor

theorem line_eq (ps : Pts) (x y p : Int) (hp : 0 ≤ p) : ∀ k : Nat, rlineTo ps x y p k = lineTo ps x y (x + p) (y + p) (k + 1)
  | 0 => rfl
  | k + 1 => by
    rw [rlineTo, line_eq ps x y p hp k, crosses_seg _ _ _ _ _ _ _ hp]
    show _ = (lineTo ps x y (x + p) (y + p) (k + 1) || segAt ps x y (x + p) (y + p) (k + 1))
    simp [segAt]

theorem side_eq (ax ay bx by' x y : Int) : sideB ax ay bx by' x y = crossB ax ay bx by' x y := by
  simp only [sideB, crossB]
  split
  · rfl
  · rename_i hne
    have hn : ¬ (by' - ay = 0) := by
      intro h
      have : by' = ay := by omega
      subst this
      exact hne rfl
    split
    · rename_i hlt
      rw [Bool.eq_iff_iff]
      simp only [decide_eq_true_eq]
      have i1 : (y - ay) * (bx - ax) = -((y - ay) * (ax - bx)) := by rw [← Int.mul_neg]; congr 1; omega
      have i2 : (ax - x) * (by' - ay) = -((ax - x) * (ay - by')) := by rw [← Int.mul_neg]; congr 1; omega
      have i3 : (y - by') * (ax - bx) = (y - ay) * (ax - bx) + (ay - by') * (ax - bx) := by rw [← Int.add_mul]; congr 1; omega
      have i4 : (x - bx) * (ay - by') = (ay - by') * (ax - bx) - (ax - x) * (ay - by') := by
        rw [Int.mul_comm (ay - by') (ax - bx), ← Int.sub_mul]; congr 1; omega
      rw [i1, i2, i3, i4]
      omega
    · rename_i hlt
      rw [Bool.eq_iff_iff]
      simp only [decide_eq_true_eq]
      have i2 : (ax - x) * (by' - ay) = -((x - ax) * (by' - ay)) := by rw [← Int.neg_mul]; congr 1; omega
      rw [i2]
      omega

/-- The sides from each vertex to the next, ahead of k, that are crossed: is their number odd? -/
def sidesX (ps : Pts) (x y : Int) : Nat → Bool
  | 0 => false
  | k + 1 => Bool.xor (sidesX ps x y k) (crossB (pg ps k).1 (pg ps k).2 (pg ps (k + 1)).1 (pg ps (k + 1)).2 x y)
def lastX (ps : Pts) (x y : Int) : Bool := crossB (pg ps (ps.length - 1)).1 (pg ps (ps.length - 1)).2 (pg ps 0).1 (pg ps 0).2 x y

theorem par_step (b c : Bool) : (if c = true then !b else b) = Bool.xor b c := by cases b <;> cases c <;> rfl
theorem par_sides (ps : Pts) (x y : Int) : ∀ k : Nat, parTo ps x y (k + 1) = Bool.xor (lastX ps x y) (sidesX ps x y k)
  | 0 => by
    simp only [parTo, fromAt, sidesX, if_true]
    rw [par_step]
    simp [lastX]
  | k + 1 => by
    rw [parTo, par_step, par_sides ps x y k, fromAt, if_neg (by omega), sidesX, Bool.xor_assoc]
    rfl
theorem cnt_step (c : Int) (b : Bool) (_h : 0 ≤ c) : decide ((c + if b = true then 1 else 0) % 2 = 1) = Bool.xor (decide (c % 2 = 1)) b := by
  cases b
  · simp
  · rw [if_pos rfl, Bool.xor_true, Bool.eq_iff_iff]
    simp only [decide_eq_true_eq, Bool.not_eq_true', decide_eq_false_iff_not]
    omega
theorem cnt_sides (ps : Pts) (x y : Int) : ∀ k : Nat, k + 1 ≤ ps.length → decide (cntIn ps x y k % 2 = 1) = sidesX ps x y k
  | 0, _ => rfl
  | k + 1, h => by
    rw [cntIn, cnt_step _ _ (cntIn_bd ps x y k).1, cnt_sides ps x y k (by omega), side_eq, Nat.mod_eq_of_lt (by omega), sidesX]

theorem inside_eq (ps : Pts) (x y : Int) (h : 1 ≤ ps.length) : insideB ps x y = areaB ps x y := by
  obtain ⟨m, hm⟩ : ∃ m, ps.length = m + 1 := ⟨ps.length - 1, by omega⟩
  unfold insideB areaB
  rw [hm, par_sides, cntIn, cnt_step _ _ (cntIn_bd ps x y m).1, cnt_sides ps x y m (by omega), side_eq, hm, Nat.mod_self, Bool.xor_comm]
  congr 1
  simp [lastX, hm]

theorem cover_eq (kd : Int) (ps : Pts) (x y p : Int) (hp : 0 ≤ p) (hm : mayB kd ps.length = true) : rcoverB kd ps x y p = coverB kd ps x y (x + p) (y + p) := by
  simp only [mayB, decide_eq_true_eq] at hm
  unfold rcoverB coverB
  rcases hm with ⟨rfl, _⟩ | ⟨rfl, h1, h2⟩ | ⟨rfl, h1, h2⟩
  · simp
  · rw [if_neg (by decide), if_pos rfl, if_neg (by decide), if_pos rfl, line_eq ps x y p hp, lineB, show ps.length - 1 + 1 = ps.length from by omega]
  · rw [if_neg (by decide), if_neg (by decide), if_neg (by decide), if_neg (by decide), if_pos rfl, inside_eq _ _ _ (by omega)]
    congr 1 <;> omega

theorem pts_fold (r : Pts) : ∀ (a : Bx), BxIn a (r.foldl (fun b q => b.join (bxAt q)) a) ∧ ∀ q ∈ r, BxIn (bxAt q) (r.foldl (fun b q => b.join (bxAt q)) a) := by
  induction r with
  | nil => exact fun a => ⟨BxIn.refl a, fun q h => by cases h⟩
  | cons p r ih =>
    intro a
    obtain ⟨h1, h2⟩ := ih (a.join (bxAt p))
    refine ⟨(BxIn.left a _).trans h1, fun q h => ?_⟩
    rcases List.mem_cons.1 h with rfl | h
    · exact (BxIn.right a _).trans h1
    · exact h2 q h
theorem pts_in {ps : Pts} {q : Int × Int} (h : q ∈ ps) : BxIn (bxAt q) (boxZ ps) := by
  cases ps with
  | nil => cases h
  | cons p r =>
    rcases List.mem_cons.1 h with rfl | h
    · exact (pts_fold r (bxAt q)).1
    · exact (pts_fold r (bxAt p)).2 q h
theorem pg_mem {ps : Pts} {k : Nat} (h : k < ps.length) : pg ps k ∈ ps := by
  have : pg ps k = ps[k] := pg_of (List.getElem?_eq_getElem h)
  rw [this]
  exact List.getElem_mem h
theorem pg_in {ps : Pts} {k : Nat} (h : k < ps.length) : (boxZ ps).l ≤ (pg ps k).1 ∧ (pg ps k).1 ≤ (boxZ ps).r ∧ (boxZ ps).t ≤ (pg ps k).2 ∧ (pg ps k).2 ≤ (boxZ ps).b := by
  obtain ⟨h1, h2, h3, h4⟩ := pts_in (pg_mem h)
  exact ⟨h1, h3, h2, h4⟩
theorem from_in {ps : Pts} {k : Nat} (h : k < ps.length) : (boxZ ps).l ≤ (fromAt ps k).1 ∧ (fromAt ps k).1 ≤ (boxZ ps).r ∧ (boxZ ps).t ≤ (fromAt ps k).2 ∧ (fromAt ps k).2 ≤ (boxZ ps).b := by
  unfold fromAt
  split
  · exact pg_in (by omega)
  · exact pg_in (by omega)

/-- With both ends to the right of the place a side is crossed just if it lies on both sides of the level. -/
theorem cross_left {ax ay bx by' x y : Int} (h1 : x < ax) (h2 : x < bx) : crossB ax ay bx by' x y = Bool.xor (decide (y < ay)) (decide (y < by')) := by
  unfold crossB
  by_cases c1 : y < ay <;> by_cases c2 : y < by'
  · simp [c1, c2]
  · rw [if_neg (by simp [c1, c2]), if_pos (by omega)]
    have k1 := Int.mul_nonneg (show 0 ≤ y - by' by omega) (show 0 ≤ ax - x by omega)
    have k2 := Int.mul_pos (show 0 < bx - x by omega) (show 0 < ay - y by omega)
    have i1 : (x - bx) * (ay - by') = -((bx - x) * (ay - y)) - (bx - x) * (y - by') := by
      rw [show x - bx = -(bx - x) by omega, show ay - by' = (ay - y) + (y - by') by omega, Int.mul_add, Int.neg_mul, Int.neg_mul]
      omega
    have i2 : (y - by') * (ax - bx) = (y - by') * (ax - x) - (bx - x) * (y - by') := by
      rw [Int.mul_comm (bx - x) (y - by'), ← Int.mul_sub]; congr 1; omega
    simp only [c1, c2, decide_true, decide_false, Bool.xor_false, decide_eq_true_eq]
    rw [i1, i2]
    omega
  · rw [if_neg (by simp [c1, c2]), if_neg (by omega)]
    have k1 := Int.mul_nonneg (show 0 ≤ y - ay by omega) (show 0 ≤ bx - x by omega)
    have k2 := Int.mul_pos (show 0 < ax - x by omega) (show 0 < by' - y by omega)
    have i1 : (x - ax) * (by' - ay) = -((ax - x) * (by' - y)) - (ax - x) * (y - ay) := by
      rw [show x - ax = -(ax - x) by omega, show by' - ay = (by' - y) + (y - ay) by omega, Int.mul_add, Int.neg_mul, Int.neg_mul]
      omega
    have i2 : (y - ay) * (bx - ax) = (y - ay) * (bx - x) - (ax - x) * (y - ay) := by
      rw [Int.mul_comm (ax - x) (y - ay), ← Int.mul_sub]; congr 1; omega
    simp only [c1, c2, decide_true, decide_false, Bool.false_xor, decide_eq_true_eq]
    rw [i1, i2]
    omega
  · simp [c1, c2]

/-- With both ends not to the right of the place no side is crossed. -/
theorem cross_right {ax ay bx by' x y : Int} (h1 : ax ≤ x) (h2 : bx ≤ x) : crossB ax ay bx by' x y = false := by
  unfold crossB
  by_cases c1 : y < ay <;> by_cases c2 : y < by'
  · simp [c1, c2]
  · rw [if_neg (by simp [c1, c2]), if_pos (by omega)]
    have k1 := Int.mul_nonneg (show 0 ≤ y - by' by omega) (show 0 ≤ x - ax by omega)
    have k2 := Int.mul_nonneg (show 0 ≤ x - bx by omega) (show 0 ≤ ay - y by omega)
    have i1 : (x - bx) * (ay - by') = (x - bx) * (ay - y) + (x - bx) * (y - by') := by rw [← Int.mul_add]; congr 1; omega
    have i2 : (y - by') * (ax - bx) = (x - bx) * (y - by') - (y - by') * (x - ax) := by rw [Int.mul_comm (x - bx) (y - by'), ← Int.mul_sub]; congr 1; omega
    rw [decide_eq_false_iff_not, i1, i2]
    omega
  · rw [if_neg (by simp [c1, c2]), if_neg (by omega)]
    have k1 := Int.mul_nonneg (show 0 ≤ y - ay by omega) (show 0 ≤ x - bx by omega)
    have k2 := Int.mul_nonneg (show 0 ≤ x - ax by omega) (show 0 ≤ by' - y by omega)
    have i1 : (x - ax) * (by' - ay) = (x - ax) * (by' - y) + (x - ax) * (y - ay) := by rw [← Int.mul_add]; congr 1; omega
    have i2 : (y - ay) * (bx - ax) = (x - ax) * (y - ay) - (y - ay) * (x - bx) := by rw [Int.mul_comm (x - ax) (y - ay), ← Int.mul_sub]; congr 1; omega
    rw [decide_eq_false_iff_not, i1, i2]
    omega
  · simp [c1, c2]
theorem cross_flat {ax ay bx by' x y : Int} (h : decide (y < ay) = decide (y < by')) : crossB ax ay bx by' x y = false := by
  unfold crossB
  rw [if_pos h]

theorem par_none (ps : Pts) (x y : Int) : ∀ k : Nat, k ≤ ps.length → (∀ j, j < ps.length → crossB (fromAt ps j).1 (fromAt ps j).2 (pg ps j).1 (pg ps j).2 x y = false) → parTo ps x y k = false
  | 0, _, _ => rfl
  | k + 1, h, hj => by
    rw [parTo, hj k (by omega), if_neg (by simp)]
    exact par_none ps x y k (by omega) hj
theorem par_left (ps : Pts) (x y : Int) (hx : ∀ j, j < ps.length → x < (pg ps j).1) : ∀ k : Nat, k + 1 ≤ ps.length → parTo ps x y (k + 1) = Bool.xor (decide (y < (pg ps (ps.length - 1)).2)) (decide (y < (pg ps k).2))
  | 0, h => by
    have h1 : parTo ps x y 1 = if crossB (pg ps (ps.length - 1)).1 (pg ps (ps.length - 1)).2 (pg ps 0).1 (pg ps 0).2 x y then true else false := rfl
    rw [h1, cross_left (hx _ (by omega)) (hx _ (by omega))]
    cases Bool.xor (decide (y < (pg ps (ps.length - 1)).2)) (decide (y < (pg ps 0).2)) <;> rfl
  | k + 1, h => by
    rw [parTo, par_step, par_left ps x y hx k (by omega), fromAt, if_neg (by omega), Nat.add_sub_cancel, cross_left (hx _ (by omega)) (hx _ (by omega))]
    cases decide (y < (pg ps (ps.length - 1)).2) <;> cases decide (y < (pg ps k).2) <;> cases decide (y < (pg ps (k + 1)).2) <;> rfl

theorem area_meets (ps : Pts) (x y : Int) (hn : 1 ≤ ps.length) (h : areaB ps x y = true) : (boxZ ps).l ≤ x ∧ x ≤ (boxZ ps).r ∧ (boxZ ps).t ≤ y ∧ y ≤ (boxZ ps).b := by
  have ne : ∀ {P : Prop}, ¬ P → (∀ j, j < ps.length → crossB (fromAt ps j).1 (fromAt ps j).2 (pg ps j).1 (pg ps j).2 x y = false) → P := by
    intro P _ hj
    have := par_none ps x y ps.length (Nat.le_refl _) hj
    rw [areaB, this] at h
    cases h
  refine ⟨?_, ?_, ?_, ?_⟩
  · apply Classical.byContradiction
    intro hl
    have := par_left ps x y (fun j hj => by have := pg_in hj; omega) (ps.length - 1) (by omega)
    rw [show ps.length - 1 + 1 = ps.length from by omega, Bool.xor_self] at this
    rw [areaB, this] at h
    cases h
  · apply Classical.byContradiction
    intro hl
    exact hl (ne hl fun j hj => cross_right (by have := from_in hj; omega) (by have := pg_in hj; omega))
  · apply Classical.byContradiction
    intro hl
    exact hl (ne hl fun j hj => cross_flat (by have h1 := from_in hj; have h2 := pg_in hj; rw [decide_eq_true (by omega), decide_eq_true (by omega)]))
  · apply Classical.byContradiction
    intro hl
    exact hl (ne hl fun j hj => cross_flat (by have h1 := from_in hj; have h2 := pg_in hj; rw [decide_eq_false (by omega), decide_eq_false (by omega)]))

theorem seg_meets (ps : Pts) (l t r b : Int) : ∀ k : Nat, k ≤ ps.length → lineTo ps l t r b k = true → meetBx (boxZ ps) ⟨l, t, r, b⟩ = true
  | 0, _, h => by cases h
  | 1, _, h => by cases h
  | k + 2, hk, h => by
    have h' : (lineTo ps l t r b (k + 1) || segAt ps l t r b (k + 1)) = true := h
    rcases Bool.or_eq_true_iff.1 h' with h | h
    · exact seg_meets ps l t r b (k + 1) (by omega) h
    · simp only [segAt, segB, Bool.and_eq_true] at h
      have h1 := h.1
      have a1 := pg_in (ps := ps) (k := k) (by omega)
      have a2 := pg_in (ps := ps) (k := k + 1) (by omega)
      simp only [Nat.add_sub_cancel, segMeets, meetsB, boxZ, List.foldl_cons, List.foldl_nil, bxAt, Bx.join, mnZ, mxZ, decide_eq_true_eq] at h1
      simp only [meetBx, meetsB, decide_eq_true_eq]
      omega

/-- What a feature covers, its box meets. -/
theorem cover_meets (v : FV) (x : Bx) (hv : validF v.f = true) (hx : x.l ≤ x.r) (hy : x.t ≤ x.b) (h : coverB v.f.kd v.f.ps x.l x.t x.r x.b = true) : meetF x v = true := by
  simp only [validF, Bool.and_eq_true] at hv
  have hm := hv.1.2
  simp only [mayB, decide_eq_true_eq] at hm
  show meetBx (boxZ v.f.ps) ⟨x.l, x.t, x.r, x.b⟩ = true
  unfold coverB at h
  rcases hm with ⟨e, h1⟩ | ⟨e, h1, h2⟩ | ⟨e, h1, h2⟩
  · rw [e, if_pos rfl] at h
    have := pg_in (ps := v.f.ps) (k := 0) (by omega)
    simp only [pointB, decide_eq_true_eq] at h
    simp only [meetBx, meetsB, decide_eq_true_eq]
    omega
  · rw [e, if_neg (by decide), if_pos rfl] at h
    exact seg_meets _ _ _ _ _ _ (Nat.le_refl _) h
  · rw [e, if_neg (by decide), if_neg (by decide), if_pos rfl] at h
    have := area_meets _ _ _ (by omega) h
    simp only [meetBx, meetsB, decide_eq_true_eq]
    omega

end Go.Proofs.YtenaepdmlknlcaaGreatDoor

namespace Go.Proofs.YtenaepdmlknlcaaGreatDoor
open Go.RowKit

set_option maxHeartbeats 400000 in
theorem side_any (z p c r : Int) (w : World) (hz : ZP z p) :
    Calls Tryz.prog 94 #[.agg #[.int .i64 z, .int .i64 c, .int .i64 r]] w fun e w' => e = .returned (.int .i64 (8 * p)) ∧ Below w.heap.size w w' := by
  have hB : ∀ (o1 : Obj), Below w.heap.size w (w.alloc o1) := fun o1 => (Below.refl _ _).alloc (Nat.le_refl _) _
  rcases hz with ⟨rfl, rfl⟩ | ⟨rfl, rfl⟩ | ⟨rfl, rfl⟩ | ⟨rfl, rfl⟩ <;>
  · go_enter Tryz.func94, Tryz.ntmps94
    go_wp2
    go_ret
    exact ⟨rfl, hB _⟩

set_option maxHeartbeats 400000 in
theorem square_any (l t s : Int) (w : World) (h1 : -100000 ≤ l) (h2 : l ≤ 100000) (h3 : -100000 ≤ t) (h4 : t ≤ 100000) (h5 : -100000 ≤ s) (h6 : s ≤ 100000) :
    Calls Tryz.prog 95 #[.int .i64 l, .int .i64 t, .int .i64 s] w fun e w' => e = .returned (.agg #[.int .i64 l, .int .i64 t, .int .i64 (l + s), .int .i64 (t + s)]) ∧ Below w.heap.size w w' := by
  have hB : ∀ (o1 : Obj), Below w.heap.size w (w.alloc o1) := fun o1 => (Below.refl _ _).alloc (Nat.le_refl _) _
  go_enter Tryz.func95, Tryz.ntmps95
  go_wp2
  exact bodyPost_ret (v := .agg #[.int .i64 _, .int .i64 _, .int .i64 _, .int .i64 _]) (by simp [results, Tryz.results95, go_sem]) rfl ⟨rfl, hB _⟩

/-- Four cells of a block, none of them frozen. -/
structure K4 (w : World) (b : Nat) (v0 v1 v2 v3 : Value) : Prop where
  c0 : w.cell? ⟨b, 0, none⟩ = some v0
  c1 : w.cell? ⟨b, 1, none⟩ = some v1
  c2 : w.cell? ⟨b, 2, none⟩ = some v2
  c3 : w.cell? ⟨b, 3, none⟩ = some v3
  f0 : w.frozen? ⟨b, 0, none⟩ = false
  f1 : w.frozen? ⟨b, 1, none⟩ = false
  f2 : w.frozen? ⟨b, 2, none⟩ = false
  f3 : w.frozen? ⟨b, 3, none⟩ = false
theorem K4.below {n : Nat} {A B : World} (h : Below n A B) {b : Nat} (hb : b < n) {v0 v1 v2 v3 : Value} (q : K4 A b v0 v1 v2 v3) : K4 B b v0 v1 v2 v3 :=
  have hc := fun o => h.cell (p := ⟨b, o, none⟩) hb
  have hf := fun o => h.frozen (p := ⟨b, o, none⟩) hb
  ⟨(hc 0).trans q.c0, (hc 1).trans q.c1, (hc 2).trans q.c2, (hc 3).trans q.c3, (hf 0).trans q.f0, (hf 1).trans q.f1, (hf 2).trans q.f2, (hf 3).trans q.f3⟩
theorem K4.new (w : World) (v0 v1 v2 v3 : Value) (t : TypeId) : K4 (w.alloc (.cells #[v0, v1, v2, v3] t)) w.heap.size v0 v1 v2 v3 := by
  constructor <;> simp [go_sem]
theorem K4.new2 (w : World) (o : Obj) (v0 v1 v2 v3 : Value) (t : TypeId) : K4 ((w.alloc o).alloc (.cells #[v0, v1, v2, v3] t)) (w.heap.size + 1) v0 v1 v2 v3 := by
  have := K4.new (w.alloc o) v0 v1 v2 v3 t
  rwa [World.size_alloc] at this

set_option maxHeartbeats 1000000 in
theorem Square_any (z p c r : Int) (w : World) (hz : ZP z p) (h1 : 0 ≤ c) (h2 : c ≤ 7) (h3 : 0 ≤ r) (h4 : r ≤ 7) :
    Calls Tryz.prog 93 #[.agg #[.int .i64 z, .int .i64 c, .int .i64 r]] w fun e w' => e = .returned (.agg #[.int .i64 (8 * p * c), .int .i64 (8 * p * r), .int .i64 (8 * p * c + 8 * p), .int .i64 (8 * p * r + 8 * p)]) ∧ Below w.heap.size w w' := by
  have hB : ∀ (o1 o2 : Obj), Below w.heap.size w ((w.alloc o1).alloc o2) := fun o1 o2 => ((Below.refl _ _).alloc (Nat.le_refl _) _).alloc (by simp) _
  have Hz : ZP z p := hz
  rcases hz with ⟨rfl, rfl⟩ | ⟨rfl, rfl⟩ | ⟨rfl, rfl⟩ | ⟨rfl, rfl⟩ <;>
  · go_enter Tryz.func93, Tryz.ntmps93
    go_wp2_with (first
      | (go_at_call 94; refine (side_any _ _ c r _ Hz).mono ?_; rintro e w1 ⟨rfl, hb1⟩; dsimp only; have q1 := (hb1.cell (p := ⟨w.heap.size, 1, none⟩) (by simp <;> omega)).trans (show _ = some (Value.int .i64 c) from (by simp [go_sem])); have q2 := (hb1.cell (p := ⟨w.heap.size, 2, none⟩) (by simp <;> omega)).trans (show _ = some (Value.int .i64 r) from (by simp [go_sem])); have hB1 : Below w.heap.size w w1 := (hB _ _).trans (hb1.mono (by simp <;> omega)); have hs1 : w.heap.size + 1 < w1.heap.size := (by have := hb1.size; simp at this; omega); have Q1 : Hid (K4 w1 (w.heap.size + 1) (.int .i64 0) (.int .i64 0) (.int .i64 0) (.int .i64 0)) := K4.below hb1 (by simp) (K4.new2 _ _ _ _ _ _ _))
      | (go_at_call 95; refine (square_any _ _ _ _ (by omega) (by omega) (by omega) (by omega) (by omega) (by omega)).mono ?_; rintro e w2 ⟨rfl, hb2⟩; dsimp only; obtain ⟨k0, k1, k2, k3, f0, f1, f2, f3⟩ := K4.below hb2 hs1 Q1.out))
    exact bodyPost_ret (v := .agg #[.int .i64 _, .int .i64 _, .int .i64 _, .int .i64 _]) (by simp [results, Tryz.results93, go_sem, k0, k1, k2, k3]) rfl ⟨rfl, (hB1.trans (hb2.mono hB1.size)).trans (((((Below.refl _ _).setCell (by simp) _).setCell (by simp) _).setCell (by simp) _).setCell (by simp) _)⟩

/-- A tile, as it lies in a block. -/
def T3 (w : World) (b : Nat) (z c r : Int) : Prop := w.cell? ⟨b, 0, none⟩ = some (.int .i64 z) ∧ w.cell? ⟨b, 1, none⟩ = some (.int .i64 c) ∧ w.cell? ⟨b, 2, none⟩ = some (.int .i64 r)
theorem T3.below {n : Nat} {A B : World} (h : Below n A B) {b : Nat} (hb : b < n) {z c r : Int} (q : T3 A b z c r) : T3 B b z c r :=
  have hc := fun o => h.cell (p := ⟨b, o, none⟩) hb
  ⟨(hc 0).trans q.1, (hc 1).trans q.2.1, (hc 2).trans q.2.2⟩

end Go.Proofs.YtenaepdmlknlcaaGreatDoor
