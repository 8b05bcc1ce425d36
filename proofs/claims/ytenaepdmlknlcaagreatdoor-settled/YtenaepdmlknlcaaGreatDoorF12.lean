import Derived.Test.YtenaepdmlknlcaaGreatDoorF11
import Derived.Test.YtenaepdmlknlcaaGreatDoorF01
import Derived.Test.YtenaepdmlknlcaaGreatDoorF04
import Derived.Test.YtenaepdmlknlcaaGreatDoorF06
import Derived.Deep.RegionHeld3
import Derived.Deep.Cut
namespace Go.Proofs.YtenaepdmlknlcaaGreatDoor
open Go.RowKit Go.Shelf

def dropT (t : Tl) (ks : List Kp) : List Kp := match tileIx t ks with | none => ks | some i => ks.eraseIdx i
/-- A tile is kept, as the one that was used last. -/
def keepK (room : Int) (t : Tl) (body : ByteArray) (ks : List Kp) : List Kp := if room < ((dropT t ks).length : Int) + 1 then (dropT t ks ++ [(⟨t, body⟩ : Kp)]).drop 1 else dropT t ks ++ [(⟨t, body⟩ : Kp)]

theorem dropT_len (t : Tl) (ks : List Kp) : (dropT t ks).length ≤ ks.length := by
  unfold dropT
  split
  · exact Nat.le_refl _
  · exact List.length_eraseIdx_le _ _

theorem take_any (A o : Nat) (t : Tl) (v : Value) (ks : List Kp) (w : World) (h : ShAt w A o v ks) :
    Calls Tryz.prog 203 #[.pointer (some ⟨A, o, none⟩), .agg #[.int .i64 t.z, .int .i64 t.c, .int .i64 t.r]] w fun e w' => ∃ s q, e = .returned (.tuple #[.string s, .bool q]) ∧ ∃ v', ShAt w' A o v' (dropT t ks) ∧ v'.ownBlock = v.ownBlock ∧ Fr (ShM A o v) w w' := by
  match hx : tileIx t ks with
  | none =>
    refine (take_none A o t v ks w h hx).mono ?_
    rintro e w' ⟨rfl, hb⟩
    exact ⟨_, _, rfl, v, by rw [dropT, hx]; exact h.below hb, rfl, Fr.of_below hb⟩
  | some i =>
    obtain ⟨hi, _⟩ := List.findIdx?_eq_some_iff_getElem.1 hx
    refine (take_some A o t v ks i ks[i] w h hx (List.getElem?_eq_getElem hi)).mono ?_
    rintro e w' ⟨rfl, v', hs, ho, hf⟩
    exact ⟨_, _, rfl, v', by rw [dropT, hx]; exact hs, ho, hf⟩

theorem Delete0_any (g m cap : Nat) (ks : List Kp) (w : World) (own : w.ownsRow 0 178 4 (.slice (some ⟨g, 0, none⟩) (m + 1) cap) (m + 1) (flatK ks)) (hn : m + 1 ≤ 1000000) :
    Calls Tryz.prog 220 #[.slice (some ⟨g, 0, none⟩) (m + 1) cap, .int .i64 0, .int .i64 1] w fun e w' => e = .returned (.slice (some ⟨g, 0, none⟩) m cap) ∧ w'.ownsRow 0 178 4 (.slice (some ⟨g, 0, none⟩) m cap) m (flatK (ks.drop 1)) ∧ Fr (OfB g) w w' := by
  refine Calls.mono (Delete1_any 0 g m cap 0 (flatK ks) w own (flatK_one ks) (by omega) hn) ?_
  rintro e w' ⟨rfl, ho, hf⟩
  refine ⟨rfl, ?_, hf⟩
  rw [flatK_drop]
  simpa using ho

set_option maxRecDepth 100000 in
set_option maxHeartbeats 1000000 in
theorem Keep_other (A so : Nat) (t : Tl) (ht : t.ok) (body : ByteArray) (age : Int) (vs : Nat → Value) (S : Shs) (w : World) (h : ShsAt w A so vs S) (hage : ¬ S.age (shN t) = age) :
    Calls Tryz.prog 221 #[.pointer (some ⟨A, so, none⟩), .agg #[.int .i64 t.z, .int .i64 t.c, .int .i64 t.r], .string body, .int .i64 age] w fun e w' => e = .returned (.tuple #[]) ∧ Below w.heap.size w w' := by
  have ha := (h.age (shN t) (shN_lt t)).1
  have hA : A < w.heap.size := World.block_lt_of_cell? w _ ha
  obtain ⟨q, hq⟩ : ∃ q : Nat, shN t = q := ⟨_, rfl⟩
  have HO : Hid (∀ W, Calls Tryz.prog 202 #[.pointer (some ⟨A, so, none⟩), .agg #[.int .i64 t.z, .int .i64 t.c, .int .i64 t.r]] W fun e w' => e = .returned (.pointer (some ⟨A, so + 1 + q * 2, none⟩)) ∧ Below W.heap.size W w') := fun W => hq ▸ of_any A so t ht W
  rw [hq] at ha hage
  have hb : (S.age q == age) = false := by rw [beq_eq_false_iff_ne]; exact hage
  clear hq h
  go_enter Tryz.func221, Tryz.ntmps221
  go_wp2_with (go_at_call 202; refine Calls.mono (HO.out _) ?_; rintro e w1 ⟨rfl, hb1⟩; dsimp only; have c1 : w1.cell? ⟨A, so + 1 + q * 2 + 1, none⟩ = some (.int .i64 (S.age q)) := (hb1.cell (p := ⟨A, so + 1 + q * 2 + 1, none⟩) (by simp; omega)).trans (by simp [go_sem, hA, ha]))
  exact bodyPost_ret (v := .tuple #[]) (by simp [results, Tryz.results221, go_sem]) rfl ⟨rfl, ((Below.refl _ _).alloc (Nat.le_refl _) _).trans (hb1.mono (by simp))⟩

set_option maxRecDepth 100000 in
set_option maxHeartbeats 2000000 in
theorem Keep_core (A so q : Nat) (t : Tl) (body : ByteArray) (v : Value) (ks : List Kp) (ag rm : Int) (w : World) (h : ShAt w A (so + 1 + q * 2) v ks) (hr : w.cell? ⟨A, so, none⟩ = some (.int .i64 rm)) (ha : w.cell? ⟨A, so + 1 + q * 2 + 1, none⟩ = some (.int .i64 ag)) (hl : ks.length + 1 ≤ 1000)
    (hof : ∀ W : World, Calls Tryz.prog 202 #[.pointer (some ⟨A, so, none⟩), .agg #[.int .i64 t.z, .int .i64 t.c, .int .i64 t.r]] W fun e w' => e = .returned (.pointer (some ⟨A, so + 1 + q * 2, none⟩)) ∧ Below W.heap.size W w') :
    Calls Tryz.prog 221 #[.pointer (some ⟨A, so, none⟩), .agg #[.int .i64 t.z, .int .i64 t.c, .int .i64 t.r], .string body, .int .i64 ag] w fun e w' => e = .returned (.tuple #[]) ∧ ∃ v', ShAt w' A (so + 1 + q * 2) v' (keepK rm t body ks) ∧ (∀ g, v'.ownBlock = some g → v.ownBlock = some g ∨ w.heap.size ≤ g) ∧ Fr (ShM A (so + 1 + q * 2) v) w w' := by
  have HSh : Hid (ShAt w A (so + 1 + q * 2) v ks) := h
  have HOf : Hid (∀ W : World, Calls Tryz.prog 202 #[.pointer (some ⟨A, so, none⟩), .agg #[.int .i64 t.z, .int .i64 t.c, .int .i64 t.r]] W fun e w' => e = .returned (.pointer (some ⟨A, so + 1 + q * 2, none⟩)) ∧ Below W.heap.size W w') := hof
  have hA : A < w.heap.size := World.block_lt_of_cell? w _ hr
  have HOwn : Hid (∀ g, v.ownBlock = some g → g < w.heap.size) := h.ownLt
  have HNe : Hid (v.ownBlock ≠ some A) := h.ne
  have HL : Hid ((dropT t ks).length + 1 ≤ 1000) := Nat.le_trans (Nat.succ_le_succ (dropT_len _ _)) hl
  clear h hl hof
  go_enter Tryz.func221, Tryz.ntmps221
  go_wp2_with (first
    | (go_at_call 202; refine Calls.mono (HOf.out _) ?_; rintro e w1 ⟨rfl, hb1⟩; dsimp only; have hB1 : Below w.heap.size w w1 := (((Below.refl _ _).alloc (Nat.le_refl _) _).trans (hb1.mono (by simp))); have hz1 : w.heap.size < w1.heap.size := (by have := hb1.size; simp at this; omega); have HT1 : Hid _ := (K3.new w (.int .i64 t.z) (.int .i64 t.c) (.int .i64 t.r) 24).below hb1 (Nat.le_refl _); obtain ⟨t10, t11, t12, _, _, _⟩ := HT1.out; have c1 : w1.cell? ⟨A, so + 1 + q * 2 + 1, none⟩ = some (.int .i64 ag) := (hB1.cell (p := ⟨A, so + 1 + q * 2 + 1, none⟩) hA).trans ha)
    | (go_at_call 203; refine Calls.mono (take_any A _ t _ _ _ (HSh.out.below hB1)) ?_; rintro e w2 ⟨s2, q2, rfl, v2, hs2, ho2, hf2⟩; dsimp only; have HS2 : Hid _ := hs2; clear hs2; have hne2 : ∀ j, ¬ ShM A (so + 1 + q * 2) v w.heap.size j := (fun j e => e.elim (fun e => (by omega)) (fun e => (by have := HOwn.out _ e; omega))); obtain ⟨t20, t21, t22, _, _, _⟩ := HT1.out.fr hf2 hne2)
    | (go_at_call 204; refine Calls.mono (add_any A _ t body v2 _ _ HS2.out HL.out) ?_; rintro e w3 ⟨rfl, v3, hs3, ho3, hf3⟩; dsimp only; have HS3 : Hid _ := hs3; have hF3 : Fr (ShM A (so + 1 + q * 2) v) w w3 := ((Fr.of_below hB1).trans hf2).trans (hf3.mono fun c j e => e.imp id (fun e => ho2 ▸ e)); have r3 : w3.cell? ⟨A, so, none⟩ = some (.int .i64 rm) := (hF3.cell A so hA (fun e => e.elim (fun e => (by omega)) HNe.out)).trans hr; obtain ⟨g3, cap3, rfl, _, hcap3⟩ := ownsRow_more (show w3.ownsRow 0 178 4 v3 ((dropT t ks).length + 1) (flatK (dropT t ks ++ [⟨t, body⟩])) from (by have := hs3.own; rw [List.length_append] at this; exact this)); have c3 := hs3.c; have f3 := hs3.f; clear hs3))
  obtain ⟨m, hm⟩ : ∃ m, (dropT t ks).length = m := ⟨_, rfl⟩
  have Hm : Hid ((dropT t ks).length = m) := hm
  rw [hm] at c3 hcap3
  have hm3 : m + 1 ≤ 1000 := by have := HL.out; omega
  have HO3 : Hid (w3.ownsRow 0 178 4 (.slice (some ⟨g3, 0, none⟩) (m + 1) cap3) (m + 1) (flatK (dropT t ks ++ [⟨t, body⟩]))) := by
    have := HS3.out.own
    rw [List.length_append, hm] at this
    exact this
  have HN3 : Hid (g3 ≠ A) := fun e => HS3.out.ne (by rw [e]; rfl)
  have HFr : Hid (∀ g, g3 = g → v.ownBlock = some g ∨ w.heap.size ≤ g) := fun g hg => (ho3 g (by rw [← hg]; rfl)).elim (fun h => .inl (ho2 ▸ h)) (fun h => .inr (by have := hf2.size; have := hB1.size; omega))
  have hz3 : A < w3.heap.size := Nat.lt_of_lt_of_le hA hF3.size
  clear hm ho2 ho3 hf2 hf3
  by_cases hgt : rm < (m : Int) + 1
  · have HK : Hid (keepK rm t body ks = (dropT t ks ++ [(⟨t, body⟩ : Kp)]).drop 1) := by show keepK rm t body ks = _; rw [keepK, if_pos (by rw [Hm.out]; exact hgt)]
    have hd : decide (rm < (m : Int) + 1) = true := decide_eq_true hgt
    go_quiet (fail)
    go_wp2_with (go_at_call 220; refine Calls.mono (Delete0_any g3 m cap3 _ _ (by first | exact HO3.out | exact ownsRow_fr' (M := fun _ _ => False) ((Fr.refl _ w3).drewN _) HO3.out (fun _ _ _ e => e)) (by omega)) ?_; rintro e w4 ⟨rfl, hown4, hf4⟩; have HO4 : Hid _ := hown4; clear hown4; have hgA3 : A ≠ g3 := (fun e => HN3.out e.symm); have c4 : w4.cell? ⟨A, so + 1 + q * 2, none⟩ = some (.slice (some ⟨g3, 0, none⟩) (m + 1) cap3) := (hf4.cell A _ hz3 hgA3).trans c3; have f4 : w4.frozen? ⟨A, so + 1 + q * 2, none⟩ = false := (hf4.frozen A _ hz3 hgA3).trans f3; have hF4 : Fr (ShM A (so + 1 + q * 2) v) w w4 := (hF3.trans_new ((Fr.refl _ w3).drewN _) (fun _ _ _ e => e)).trans_new hf4 (fun c i hc e => (by have h1 : c = g3 := e; exact (HFr.out c h1.symm).elim .inr (fun h => (by omega)))); dsimp only)
    go_end0
    rw [HK.out]
    refine ⟨rfl, .slice (some ⟨g3, 0, none⟩) m cap3, ⟨cell_eq c4 _, by rw [World.frozen?_setCell]; exact f4, ?_, fun e => HN3.out (Option.some.inj e), ?_⟩, fun g hg => HFr.out g (Option.some.inj hg), hF4.setCell (b := A) (i := so + 1 + q * 2) (.inl (.inl ⟨rfl, rfl⟩)) _⟩
    · have hl : ((dropT t ks ++ [(⟨t, body⟩ : Kp)]).drop 1).length = m := by rw [List.length_drop, List.length_append, Hm.out]; rfl
      rw [hl]
      exact ownsRow_fr' (frB A w4 _ _) HO4.out (fun c _ hc e => by have h1 : g3 = c := Option.some.inj hc; have h2 : c = A := e; exact HN3.out (h1.trans h2))
    · rw [List.length_drop, List.length_append, Hm.out]
      simp
      omega
  · have HK : Hid (keepK rm t body ks = dropT t ks ++ [⟨t, body⟩]) := by show keepK rm t body ks = _; rw [keepK, if_neg (by rw [Hm.out]; exact hgt)]
    have hd : decide (rm < (m : Int) + 1) = false := decide_eq_false hgt
    go_quiet (fail)
    go_wp2
    go_end0
    rw [HK.out]
    exact ⟨rfl, _, HS3.out.fr (M := fun _ _ => False) ((Fr.refl _ w3).drewN _) id (fun _ _ _ e => e), fun g hg => HFr.out g (Option.some.inj hg), hF3.trans_new ((Fr.refl (fun _ _ => False) w3).drewN _) (fun _ _ _ e => e.elim)⟩

end Go.Proofs.YtenaepdmlknlcaaGreatDoor

namespace Go.Proofs.YtenaepdmlknlcaaGreatDoor
open Go.RowKit

end Go.Proofs.YtenaepdmlknlcaaGreatDoor

namespace Go.Proofs.YtenaepdmlknlcaaGreatDoor
open Go.RowKit

end Go.Proofs.YtenaepdmlknlcaaGreatDoor

namespace Go.Proofs.YtenaepdmlknlcaaGreatDoor
open Go.RowKit

end Go.Proofs.YtenaepdmlknlcaaGreatDoor

namespace Go.Proofs.YtenaepdmlknlcaaGreatDoor
open Go.RowKit

def sideB (ax ay bx by' x y : Int) : Bool :=
  if decide (y < ay) = decide (y < by') then false
  else decide ((0 < by' - ay ∧ 0 < (y - ay) * (bx - ax) + (ax - x) * (by' - ay)) ∨ (by' - ay < 0 ∧ (y - ay) * (bx - ax) + (ax - x) * (by' - ay) < 0))
def cntIn (ps : Pts) (x y : Int) : Nat → Int
  | 0 => 0
  | k + 1 => cntIn ps x y k + if sideB (pg ps k).1 (pg ps k).2 (pg ps ((k + 1) % ps.length)).1 (pg ps ((k + 1) % ps.length)).2 x y = true then 1 else 0
theorem cntIn_bd (ps : Pts) (x y : Int) : ∀ k : Nat, 0 ≤ cntIn ps x y k ∧ cntIn ps x y k ≤ k
  | 0 => ⟨Int.le_refl _, Int.le_refl _⟩
  | k + 1 => by have := cntIn_bd ps x y k; simp only [cntIn]; split <;> omega
end Go.Proofs.YtenaepdmlknlcaaGreatDoor

namespace Go.Proofs.YtenaepdmlknlcaaGreatDoor
open Go.RowKit

end Go.Proofs.YtenaepdmlknlcaaGreatDoor

namespace Go.Proofs.YtenaepdmlknlcaaGreatDoor

/-! Plain mathematics: the document's cover of a line is the program's. -/

end Go.Proofs.YtenaepdmlknlcaaGreatDoor

namespace Go.Proofs.YtenaepdmlknlcaaGreatDoor

end Go.Proofs.YtenaepdmlknlcaaGreatDoor

namespace Go.Proofs.YtenaepdmlknlcaaGreatDoor

theorem side_eq (ax ay bx by' x y : Int) : sideB ax ay bx by' x y = crossB ax ay bx by' x y := by
  simp only [sideB, crossB]
  split
  · rfl
  · rename_i hne
    have hn : ¬ (by' - ay = 0) := by
      intro h
      have : by' = ay := by omega
      subst this
      exact hne rfl
    split
    · rename_i hlt
      rw [Bool.eq_iff_iff]
      simp only [decide_eq_true_eq]
      have i1 : (y - ay) * (bx - ax) = -((y - ay) * (ax - bx)) := by rw [← Int.mul_neg]; congr 1; omega
      have i2 : (ax - x) * (by' - ay) = -((ax - x) * (ay - by')) := by rw [← Int.mul_neg]; congr 1; omega
      have i3 : (y - by') * (ax - bx) = (y - ay) * (ax - bx) + (ay - by') * (ax - bx) := by rw [← Int.add_mul]; congr 1; omega
      have i4 : (x - bx) * (ay - by') = (ay - by') * (ax - bx) - (ax - x) * (ay - by') := by
        rw [Int.mul_comm (ay - by') (ax - bx), ← Int.sub_mul]; congr 1; omega
      rw [i1, i2, i3, i4]
      omega
    · rename_i hlt
      rw [Bool.eq_iff_iff]
      simp only [decide_eq_true_eq]
      have i2 : (ax - x) * (by' - ay) = -((x - ax) * (by' - ay)) := by rw [← Int.neg_mul]; congr 1; omega
      rw [i2]
      omega

/-- The sides from each vertex to the next, ahead of k, that are crossed: is their number odd? -/
def sidesX (ps : Pts) (x y : Int) : Nat → Bool
  | 0 => false
  | k + 1 => Bool.xor (sidesX ps x y k) (crossB (pg ps k).1 (pg ps k).2 (pg ps (k + 1)).1 (pg ps (k + 1)).2 x y)
theorem par_step (b c : Bool) : (if c = true then !b else b) = Bool.xor b c := by cases b <;> cases c <;> rfl
theorem cnt_step (c : Int) (b : Bool) (_h : 0 ≤ c) : decide ((c + if b = true then 1 else 0) % 2 = 1) = Bool.xor (decide (c % 2 = 1)) b := by
  cases b
  · simp
  · rw [if_pos rfl, Bool.xor_true, Bool.eq_iff_iff]
    simp only [decide_eq_true_eq, Bool.not_eq_true', decide_eq_false_iff_not]
    omega
theorem cnt_sides (ps : Pts) (x y : Int) : ∀ k : Nat, k + 1 ≤ ps.length → decide (cntIn ps x y k % 2 = 1) = sidesX ps x y k
  | 0, _ => rfl
  | k + 1, h => by
    rw [cntIn, cnt_step _ _ (cntIn_bd ps x y k).1, cnt_sides ps x y k (by omega), side_eq, Nat.mod_eq_of_lt (by omega), sidesX]

theorem pts_fold (r : Pts) : ∀ (a : Bx), BxIn a (r.foldl (fun b q => b.join (bxAt q)) a) ∧ ∀ q ∈ r, BxIn (bxAt q) (r.foldl (fun b q => b.join (bxAt q)) a) := by
  induction r with
  | nil => exact fun a => ⟨BxIn.refl a, fun q h => by cases h⟩
  | cons p r ih =>
    intro a
    obtain ⟨h1, h2⟩ := ih (a.join (bxAt p))
    refine ⟨(BxIn.left a _).trans h1, fun q h => ?_⟩
    rcases List.mem_cons.1 h with rfl | h
    · exact (BxIn.right a _).trans h1
    · exact h2 q h
theorem pts_in {ps : Pts} {q : Int × Int} (h : q ∈ ps) : BxIn (bxAt q) (boxZ ps) := by
  cases ps with
  | nil => cases h
  | cons p r =>
    rcases List.mem_cons.1 h with rfl | h
    · exact (pts_fold r (bxAt q)).1
    · exact (pts_fold r (bxAt p)).2 q h
theorem pg_mem {ps : Pts} {k : Nat} (h : k < ps.length) : pg ps k ∈ ps := by
  have : pg ps k = ps[k] := pg_of (List.getElem?_eq_getElem h)
  rw [this]
  exact List.getElem_mem h
theorem pg_in {ps : Pts} {k : Nat} (h : k < ps.length) : (boxZ ps).l ≤ (pg ps k).1 ∧ (pg ps k).1 ≤ (boxZ ps).r ∧ (boxZ ps).t ≤ (pg ps k).2 ∧ (pg ps k).2 ≤ (boxZ ps).b := by
  obtain ⟨h1, h2, h3, h4⟩ := pts_in (pg_mem h)
  exact ⟨h1, h3, h2, h4⟩
theorem from_in {ps : Pts} {k : Nat} (h : k < ps.length) : (boxZ ps).l ≤ (fromAt ps k).1 ∧ (fromAt ps k).1 ≤ (boxZ ps).r ∧ (boxZ ps).t ≤ (fromAt ps k).2 ∧ (fromAt ps k).2 ≤ (boxZ ps).b := by
  unfold fromAt
  split
  · exact pg_in (by omega)
  · exact pg_in (by omega)

/-- With both ends to the right of the place a side is crossed just if it lies on both sides of the level. -/
theorem cross_left {ax ay bx by' x y : Int} (h1 : x < ax) (h2 : x < bx) : crossB ax ay bx by' x y = Bool.xor (decide (y < ay)) (decide (y < by')) := by
  unfold crossB
  by_cases c1 : y < ay <;> by_cases c2 : y < by'
  · simp [c1, c2]
  · rw [if_neg (by simp [c1, c2]), if_pos (by omega)]
    have k1 := Int.mul_nonneg (show 0 ≤ y - by' by omega) (show 0 ≤ ax - x by omega)
    have k2 := Int.mul_pos (show 0 < bx - x by omega) (show 0 < ay - y by omega)
    have i1 : (x - bx) * (ay - by') = -((bx - x) * (ay - y)) - (bx - x) * (y - by') := by
      rw [show x - bx = -(bx - x) by omega, show ay - by' = (ay - y) + (y - by') by omega, Int.mul_add, Int.neg_mul, Int.neg_mul]
      omega
    have i2 : (y - by') * (ax - bx) = (y - by') * (ax - x) - (bx - x) * (y - by') := by
      rw [Int.mul_comm (bx - x) (y - by'), ← Int.mul_sub]; congr 1; omega
    simp only [c1, c2, decide_true, decide_false, Bool.xor_false, decide_eq_true_eq]
    rw [i1, i2]
    omega
  · rw [if_neg (by simp [c1, c2]), if_neg (by omega)]
    have k1 := Int.mul_nonneg (show 0 ≤ y - ay by omega) (show 0 ≤ bx - x by omega)
    have k2 := Int.mul_pos (show 0 < ax - x by omega) (show 0 < by' - y by omega)
    have i1 : (x - ax) * (by' - ay) = -((ax - x) * (by' - y)) - (ax - x) * (y - ay) := by
      rw [show x - ax = -(ax - x) by omega, show by' - ay = (by' - y) + (y - ay) by omega, Int.mul_add, Int.neg_mul, Int.neg_mul]
      omega
    have i2 : (y - ay) * (bx - ax) = (y - ay) * (bx - x) - (ax - x) * (y - ay) := by
      rw [Int.mul_comm (ax - x) (y - ay), ← Int.mul_sub]; congr 1; omega
    simp only [c1, c2, decide_true, decide_false, Bool.false_xor, decide_eq_true_eq]
    rw [i1, i2]
    omega
  · simp [c1, c2]

/-- With both ends not to the right of the place no side is crossed. -/
theorem cross_right {ax ay bx by' x y : Int} (h1 : ax ≤ x) (h2 : bx ≤ x) : crossB ax ay bx by' x y = false := by
  unfold crossB
  by_cases c1 : y < ay <;> by_cases c2 : y < by'
  · simp [c1, c2]
  · rw [if_neg (by simp [c1, c2]), if_pos (by omega)]
    have k1 := Int.mul_nonneg (show 0 ≤ y - by' by omega) (show 0 ≤ x - ax by omega)
    have k2 := Int.mul_nonneg (show 0 ≤ x - bx by omega) (show 0 ≤ ay - y by omega)
    have i1 : (x - bx) * (ay - by') = (x - bx) * (ay - y) + (x - bx) * (y - by') := by rw [← Int.mul_add]; congr 1; omega
    have i2 : (y - by') * (ax - bx) = (x - bx) * (y - by') - (y - by') * (x - ax) := by rw [Int.mul_comm (x - bx) (y - by'), ← Int.mul_sub]; congr 1; omega
    rw [decide_eq_false_iff_not, i1, i2]
    omega
  · rw [if_neg (by simp [c1, c2]), if_neg (by omega)]
    have k1 := Int.mul_nonneg (show 0 ≤ y - ay by omega) (show 0 ≤ x - bx by omega)
    have k2 := Int.mul_nonneg (show 0 ≤ x - ax by omega) (show 0 ≤ by' - y by omega)
    have i1 : (x - ax) * (by' - ay) = (x - ax) * (by' - y) + (x - ax) * (y - ay) := by rw [← Int.mul_add]; congr 1; omega
    have i2 : (y - ay) * (bx - ax) = (x - ax) * (y - ay) - (y - ay) * (x - bx) := by rw [Int.mul_comm (x - ax) (y - ay), ← Int.mul_sub]; congr 1; omega
    rw [decide_eq_false_iff_not, i1, i2]
    omega
  · simp [c1, c2]
theorem cross_flat {ax ay bx by' x y : Int} (h : decide (y < ay) = decide (y < by')) : crossB ax ay bx by' x y = false := by
  unfold crossB
  rw [if_pos h]

theorem par_none (ps : Pts) (x y : Int) : ∀ k : Nat, k ≤ ps.length → (∀ j, j < ps.length → crossB (fromAt ps j).1 (fromAt ps j).2 (pg ps j).1 (pg ps j).2 x y = false) → parTo ps x y k = false
  | 0, _, _ => rfl
  | k + 1, h, hj => by
    rw [parTo, hj k (by omega), if_neg (by simp)]
    exact par_none ps x y k (by omega) hj
theorem par_left (ps : Pts) (x y : Int) (hx : ∀ j, j < ps.length → x < (pg ps j).1) : ∀ k : Nat, k + 1 ≤ ps.length → parTo ps x y (k + 1) = Bool.xor (decide (y < (pg ps (ps.length - 1)).2)) (decide (y < (pg ps k).2))
  | 0, h => by
    have h1 : parTo ps x y 1 = if crossB (pg ps (ps.length - 1)).1 (pg ps (ps.length - 1)).2 (pg ps 0).1 (pg ps 0).2 x y then true else false := rfl
    rw [h1, cross_left (hx _ (by omega)) (hx _ (by omega))]
    cases Bool.xor (decide (y < (pg ps (ps.length - 1)).2)) (decide (y < (pg ps 0).2)) <;> rfl
  | k + 1, h => by
    rw [parTo, par_step, par_left ps x y hx k (by omega), fromAt, if_neg (by omega), Nat.add_sub_cancel, cross_left (hx _ (by omega)) (hx _ (by omega))]
    cases decide (y < (pg ps (ps.length - 1)).2) <;> cases decide (y < (pg ps k).2) <;> cases decide (y < (pg ps (k + 1)).2) <;> rfl

theorem area_meets (ps : Pts) (x y : Int) (hn : 1 ≤ ps.length) (h : areaB ps x y = true) : (boxZ ps).l ≤ x ∧ x ≤ (boxZ ps).r ∧ (boxZ ps).t ≤ y ∧ y ≤ (boxZ ps).b := by
  have ne : ∀ {P : Prop}, ¬ P → (∀ j, j < ps.length → crossB (fromAt ps j).1 (fromAt ps j).2 (pg ps j).1 (pg ps j).2 x y = false) → P := by
    intro P _ hj
    have := par_none ps x y ps.length (Nat.le_refl _) hj
    rw [areaB, this] at h
    cases h
  refine ⟨?_, ?_, ?_, ?_⟩
  · apply Classical.byContradiction
    intro hl
    have := par_left ps x y (fun j hj => by have := pg_in hj; omega) (ps.length - 1) (by omega)
    rw [show ps.length - 1 + 1 = ps.length from by omega, Bool.xor_self] at this
    rw [areaB, this] at h
    cases h
  · apply Classical.byContradiction
    intro hl
    exact hl (ne hl fun j hj => cross_right (by have := from_in hj; omega) (by have := pg_in hj; omega))
  · apply Classical.byContradiction
    intro hl
    exact hl (ne hl fun j hj => cross_flat (by have h1 := from_in hj; have h2 := pg_in hj; rw [decide_eq_true (by omega), decide_eq_true (by omega)]))
  · apply Classical.byContradiction
    intro hl
    exact hl (ne hl fun j hj => cross_flat (by have h1 := from_in hj; have h2 := pg_in hj; rw [decide_eq_false (by omega), decide_eq_false (by omega)]))

theorem seg_meets (ps : Pts) (l t r b : Int) : ∀ k : Nat, k ≤ ps.length → lineTo ps l t r b k = true → meetBx (boxZ ps) ⟨l, t, r, b⟩ = true
  | 0, _, h => by cases h
  | 1, _, h => by cases h
  | k + 2, hk, h => by
    have h' : (lineTo ps l t r b (k + 1) || segAt ps l t r b (k + 1)) = true := h
    rcases Bool.or_eq_true_iff.1 h' with h | h
    · exact seg_meets ps l t r b (k + 1) (by omega) h
    · simp only [segAt, segB, Bool.and_eq_true] at h
      have h1 := h.1
      have a1 := pg_in (ps := ps) (k := k) (by omega)
      have a2 := pg_in (ps := ps) (k := k + 1) (by omega)
      simp only [Nat.add_sub_cancel, segMeets, meetsB, boxZ, List.foldl_cons, List.foldl_nil, bxAt, Bx.join, mnZ, mxZ, decide_eq_true_eq] at h1
      simp only [meetBx, meetsB, decide_eq_true_eq]
      omega

/-- What a feature covers, its box meets. -/
theorem cover_meets (v : FV) (x : Bx) (hv : validF v.f = true) (hx : x.l ≤ x.r) (hy : x.t ≤ x.b) (h : coverB v.f.kd v.f.ps x.l x.t x.r x.b = true) : meetF x v = true := by
  simp only [validF, Bool.and_eq_true] at hv
  have hm := hv.1.2
  simp only [mayB, decide_eq_true_eq] at hm
  show meetBx (boxZ v.f.ps) ⟨x.l, x.t, x.r, x.b⟩ = true
  unfold coverB at h
  rcases hm with ⟨e, h1⟩ | ⟨e, h1, h2⟩ | ⟨e, h1, h2⟩
  · rw [e, if_pos rfl] at h
    have := pg_in (ps := v.f.ps) (k := 0) (by omega)
    simp only [pointB, decide_eq_true_eq] at h
    simp only [meetBx, meetsB, decide_eq_true_eq]
    omega
  · rw [e, if_neg (by decide), if_pos rfl] at h
    exact seg_meets _ _ _ _ _ _ (Nat.le_refl _) h
  · rw [e, if_neg (by decide), if_neg (by decide), if_pos rfl] at h
    have := area_meets _ _ _ (by omega) h
    simp only [meetBx, meetsB, decide_eq_true_eq]
    omega

end Go.Proofs.YtenaepdmlknlcaaGreatDoor

namespace Go.Proofs.YtenaepdmlknlcaaGreatDoor
open Go.RowKit

set_option maxHeartbeats 400000 in
theorem side_any (z p c r : Int) (w : World) (hz : ZP z p) :
    Calls Tryz.prog 94 #[.agg #[.int .i64 z, .int .i64 c, .int .i64 r]] w fun e w' => e = .returned (.int .i64 (8 * p)) ∧ Below w.heap.size w w' := by
  have hB : ∀ (o1 : Obj), Below w.heap.size w (w.alloc o1) := fun o1 => (Below.refl _ _).alloc (Nat.le_refl _) _
  rcases hz with ⟨rfl, rfl⟩ | ⟨rfl, rfl⟩ | ⟨rfl, rfl⟩ | ⟨rfl, rfl⟩ <;>
  · go_enter Tryz.func94, Tryz.ntmps94
    go_wp2
    go_ret
    exact ⟨rfl, hB _⟩

set_option maxHeartbeats 400000 in
theorem square_any (l t s : Int) (w : World) (h1 : -100000 ≤ l) (h2 : l ≤ 100000) (h3 : -100000 ≤ t) (h4 : t ≤ 100000) (h5 : -100000 ≤ s) (h6 : s ≤ 100000) :
    Calls Tryz.prog 95 #[.int .i64 l, .int .i64 t, .int .i64 s] w fun e w' => e = .returned (.agg #[.int .i64 l, .int .i64 t, .int .i64 (l + s), .int .i64 (t + s)]) ∧ Below w.heap.size w w' := by
  have hB : ∀ (o1 : Obj), Below w.heap.size w (w.alloc o1) := fun o1 => (Below.refl _ _).alloc (Nat.le_refl _) _
  go_enter Tryz.func95, Tryz.ntmps95
  go_wp2
  exact bodyPost_ret (v := .agg #[.int .i64 _, .int .i64 _, .int .i64 _, .int .i64 _]) (by simp [results, Tryz.results95, go_sem]) rfl ⟨rfl, hB _⟩

/-- Four cells of a block, none of them frozen. -/
structure K4 (w : World) (b : Nat) (v0 v1 v2 v3 : Value) : Prop where
  c0 : w.cell? ⟨b, 0, none⟩ = some v0
  c1 : w.cell? ⟨b, 1, none⟩ = some v1
  c2 : w.cell? ⟨b, 2, none⟩ = some v2
  c3 : w.cell? ⟨b, 3, none⟩ = some v3
  f0 : w.frozen? ⟨b, 0, none⟩ = false
  f1 : w.frozen? ⟨b, 1, none⟩ = false
  f2 : w.frozen? ⟨b, 2, none⟩ = false
  f3 : w.frozen? ⟨b, 3, none⟩ = false
theorem K4.below {n : Nat} {A B : World} (h : Below n A B) {b : Nat} (hb : b < n) {v0 v1 v2 v3 : Value} (q : K4 A b v0 v1 v2 v3) : K4 B b v0 v1 v2 v3 :=
  have hc := fun o => h.cell (p := ⟨b, o, none⟩) hb
  have hf := fun o => h.frozen (p := ⟨b, o, none⟩) hb
  ⟨(hc 0).trans q.c0, (hc 1).trans q.c1, (hc 2).trans q.c2, (hc 3).trans q.c3, (hf 0).trans q.f0, (hf 1).trans q.f1, (hf 2).trans q.f2, (hf 3).trans q.f3⟩
theorem K4.new (w : World) (v0 v1 v2 v3 : Value) (t : TypeId) : K4 (w.alloc (.cells #[v0, v1, v2, v3] t)) w.heap.size v0 v1 v2 v3 := by
  constructor <;> simp [go_sem]
theorem K4.new2 (w : World) (o : Obj) (v0 v1 v2 v3 : Value) (t : TypeId) : K4 ((w.alloc o).alloc (.cells #[v0, v1, v2, v3] t)) (w.heap.size + 1) v0 v1 v2 v3 := by
  have := K4.new (w.alloc o) v0 v1 v2 v3 t
  rwa [World.size_alloc] at this

set_option maxHeartbeats 1000000 in
theorem Square_any (z p c r : Int) (w : World) (hz : ZP z p) (h1 : 0 ≤ c) (h2 : c ≤ 7) (h3 : 0 ≤ r) (h4 : r ≤ 7) :
    Calls Tryz.prog 93 #[.agg #[.int .i64 z, .int .i64 c, .int .i64 r]] w fun e w' => e = .returned (.agg #[.int .i64 (8 * p * c), .int .i64 (8 * p * r), .int .i64 (8 * p * c + 8 * p), .int .i64 (8 * p * r + 8 * p)]) ∧ Below w.heap.size w w' := by
  have hB : ∀ (o1 o2 : Obj), Below w.heap.size w ((w.alloc o1).alloc o2) := fun o1 o2 => ((Below.refl _ _).alloc (Nat.le_refl _) _).alloc (by simp) _
  have Hz : ZP z p := hz
  rcases hz with ⟨rfl, rfl⟩ | ⟨rfl, rfl⟩ | ⟨rfl, rfl⟩ | ⟨rfl, rfl⟩ <;>
  · go_enter Tryz.func93, Tryz.ntmps93
    go_wp2_with (first
      | (go_at_call 94; refine (side_any _ _ c r _ Hz).mono ?_; rintro e w1 ⟨rfl, hb1⟩; dsimp only; have q1 := (hb1.cell (p := ⟨w.heap.size, 1, none⟩) (by simp <;> omega)).trans (show _ = some (Value.int .i64 c) from (by simp [go_sem])); have q2 := (hb1.cell (p := ⟨w.heap.size, 2, none⟩) (by simp <;> omega)).trans (show _ = some (Value.int .i64 r) from (by simp [go_sem])); have hB1 : Below w.heap.size w w1 := (hB _ _).trans (hb1.mono (by simp <;> omega)); have hs1 : w.heap.size + 1 < w1.heap.size := (by have := hb1.size; simp at this; omega); have Q1 : Hid (K4 w1 (w.heap.size + 1) (.int .i64 0) (.int .i64 0) (.int .i64 0) (.int .i64 0)) := K4.below hb1 (by simp) (K4.new2 _ _ _ _ _ _ _))
      | (go_at_call 95; refine (square_any _ _ _ _ (by omega) (by omega) (by omega) (by omega) (by omega) (by omega)).mono ?_; rintro e w2 ⟨rfl, hb2⟩; dsimp only; obtain ⟨k0, k1, k2, k3, f0, f1, f2, f3⟩ := K4.below hb2 hs1 Q1.out))
    exact bodyPost_ret (v := .agg #[.int .i64 _, .int .i64 _, .int .i64 _, .int .i64 _]) (by simp [results, Tryz.results93, go_sem, k0, k1, k2, k3]) rfl ⟨rfl, (hB1.trans (hb2.mono hB1.size)).trans (((((Below.refl _ _).setCell (by simp) _).setCell (by simp) _).setCell (by simp) _).setCell (by simp) _)⟩

/-- A tile, as it lies in a block. -/
def T3 (w : World) (b : Nat) (z c r : Int) : Prop := w.cell? ⟨b, 0, none⟩ = some (.int .i64 z) ∧ w.cell? ⟨b, 1, none⟩ = some (.int .i64 c) ∧ w.cell? ⟨b, 2, none⟩ = some (.int .i64 r)
theorem T3.below {n : Nat} {A B : World} (h : Below n A B) {b : Nat} (hb : b < n) {z c r : Int} (q : T3 A b z c r) : T3 B b z c r :=
  have hc := fun o => h.cell (p := ⟨b, o, none⟩) hb
  ⟨(hc 0).trans q.1, (hc 1).trans q.2.1, (hc 2).trans q.2.2⟩

end Go.Proofs.YtenaepdmlknlcaaGreatDoor
