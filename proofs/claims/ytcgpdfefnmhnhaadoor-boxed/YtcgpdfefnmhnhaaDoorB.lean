import Derived.Test.YtcgpdfefnmhnhaaDoorA
import Derived.Deep.QuietTactic
import Derived.BigQuiet
namespace Go.Proofs.YtcgpdfefnmhnhaaDoor
open Go.RowKit

def mayB (k n : Int) : Bool := decide ((k = 1 ∧ n = 1) ∨ (k = 2 ∧ 2 ≤ n ∧ n ≤ 6) ∨ (k = 3 ∧ 3 ≤ n ∧ n ≤ 6))

set_option maxHeartbeats 400000 in
theorem mayHave_any (k n : Int) (w : World) :
    Calls Tryd.prog 23 #[.int .i64 k, .int .i64 n] w fun e w' => e = .returned (.bool (mayB k n)) ∧ w' = w := by
  by_cases h1 : k = 1
  · subst h1
    go_enter Tryd.func23, Tryd.ntmps23
    go_wp2_with (first | (go_at_call 22; refine (within_any _ _ _ _).mono ?_; rintro e w' ⟨rfl, rfl⟩))
    go_ret
    exact ⟨ret_bool (by rw [Bool.eq_iff_iff]; simp [mayB]), rfl⟩
  · by_cases h2 : k = 2
    · subst h2
      go_enter Tryd.func23, Tryd.ntmps23
      go_wp2_with (first | (go_at_call 22; refine (within_any _ _ _ _).mono ?_; rintro e w' ⟨rfl, rfl⟩))
      go_ret
      exact ⟨ret_bool (by rw [Bool.eq_iff_iff]; simp [mayB, inB]), rfl⟩
    · by_cases h3 : k = 3
      · subst h3
        go_enter Tryd.func23, Tryd.ntmps23
        go_wp2_with (first | (go_at_call 22; refine (within_any _ _ _ _).mono ?_; rintro e w' ⟨rfl, rfl⟩))
        go_ret
        exact ⟨ret_bool (by rw [Bool.eq_iff_iff]; simp [mayB, inB]), rfl⟩
      · have g1 : (k == 1) = false := by simp [h1]
        have g2 : (k == 2) = false := by simp [h2]
        have g3 : (k == 3) = false := by simp [h3]
        go_enter Tryd.func23, Tryd.ntmps23
        go_wp2_with (first | (go_at_call 22; refine (within_any _ _ _ _).mono ?_; rintro e w' ⟨rfl, rfl⟩))
        go_ret
        exact ⟨ret_bool (by rw [Bool.eq_iff_iff]; simp [mayB, h1, h2, h3]), rfl⟩

set_option maxHeartbeats 400000 in
theorem middle_any (l t r b : Int) (w : World) (h1 : 0 ≤ l) (h2 : 0 ≤ t) (h3 : 0 ≤ r) (h4 : 0 ≤ b) (g1 : l ≤ 1000) (g2 : t ≤ 1000) (g3 : r ≤ 1000) (g4 : b ≤ 1000) :
    Calls Tryd.prog 52 #[.agg #[.int .i64 l, .int .i64 t, .int .i64 r, .int .i64 b]] w fun e w' => e = .returned (.agg #[.int .i64 ((l + r) / 2), .int .i64 ((t + b) / 2)]) ∧ Below w.heap.size w w' := by
  go_enter Tryd.func52, Tryd.ntmps52
  go_wp2
  exact bodyPost_ret (v := .agg #[.int .i64 ((l + r) / 2), .int .i64 ((t + b) / 2)]) (by simp [results, Tryd.results52, go_sem]) rfl ⟨rfl, ((Below.refl _ _).alloc (Nat.le_refl _) _).alloc (by simp) _⟩

def turnZ (ax ay bx by' cx cy : Int) : Int := (bx - ax) * (cy - ay) - (by' - ay) * (cx - ax)

theorem mul_bd {a b A B : Int} (ha : -A ≤ a) (ha' : a ≤ A) (hb : -B ≤ b) (hb' : b ≤ B) : -(A * B) ≤ a * b ∧ a * b ≤ A * B := by
  have hA : 0 ≤ A := by omega
  have hB : 0 ≤ B := by omega
  have h : (a * b).natAbs ≤ (A * B).natAbs := by
    rw [Int.natAbs_mul, Int.natAbs_mul]
    exact Nat.mul_le_mul (by omega) (by omega)
  have h2 : 0 ≤ A * B := Int.mul_nonneg hA hB
  omega

set_option maxHeartbeats 400000 in
theorem turnOf_any (ax ay bx by' cx cy : Int) (w : World) (h1 : 0 ≤ ax) (h2 : 0 ≤ ay) (h3 : 0 ≤ bx) (h4 : 0 ≤ by') (h5 : 0 ≤ cx) (h6 : 0 ≤ cy) (g1 : ax ≤ 1000) (g2 : ay ≤ 1000) (g3 : bx ≤ 1000) (g4 : by' ≤ 1000) (g5 : cx ≤ 1000) (g6 : cy ≤ 1000) :
    Calls Tryd.prog 83 #[.agg #[.int .i64 ax, .int .i64 ay], .agg #[.int .i64 bx, .int .i64 by'], .agg #[.int .i64 cx, .int .i64 cy]] w fun e w' => e = .returned (.int .i64 (turnZ ax ay bx by' cx cy)) ∧ Below w.heap.size w w' := by
  have p1 := mul_bd (a := bx - ax) (b := cy - ay) (A := 1000) (B := 1000) (by omega) (by omega) (by omega) (by omega)
  have p2 := mul_bd (a := by' - ay) (b := cx - ax) (A := 1000) (B := 1000) (by omega) (by omega) (by omega) (by omega)
  obtain ⟨p1, p1'⟩ := p1
  obtain ⟨p2, p2'⟩ := p2
  go_enter Tryd.func83, Tryd.ntmps83
  go_wp2
  go_ret
  exact ⟨rfl, (((Below.refl _ _).alloc (Nat.le_refl _) _).alloc (by simp) _).alloc (by simp; omega) _⟩

set_option maxHeartbeats 400000 in
theorem corners_any (l t r b : Int) (w : World) :
    Calls Tryd.prog 82 #[.agg #[.int .i64 l, .int .i64 t, .int .i64 r, .int .i64 b]] w fun e w' => e = .returned (.agg #[.int .i64 l, .int .i64 t, .int .i64 r, .int .i64 t, .int .i64 r, .int .i64 b, .int .i64 l, .int .i64 b]) ∧ Below w.heap.size w w' := by
  go_enter Tryd.func82, Tryd.ntmps82
  go_wp2
  exact bodyPost_ret (v := .agg #[.int .i64 l, .int .i64 t, .int .i64 r, .int .i64 t, .int .i64 r, .int .i64 b, .int .i64 l, .int .i64 b]) (by simp [results, Tryd.results82, go_sem]) rfl ⟨rfl, ((Below.refl _ _).alloc (Nat.le_refl _) _).alloc (by simp) _⟩

def pointB (x y l t r b : Int) : Bool := decide (l ≤ x ∧ x < r ∧ t ≤ y ∧ y < b)

set_option maxHeartbeats 1000000 in
theorem pointCovers_any (x y l t r b : Int) (w : World) :
    Calls Tryd.prog 49 #[.agg #[.int .i64 x, .int .i64 y], .agg #[.int .i64 l, .int .i64 t, .int .i64 r, .int .i64 b]] w fun e w' => e = .returned (.bool (pointB x y l t r b)) ∧ Below w.heap.size w w' := by
  have hB : ∀ o1 o2 : Obj, Below w.heap.size w ((w.alloc o1).alloc o2) := fun o1 o2 => ((Below.refl _ _).alloc (Nat.le_refl _) _).alloc (by simp) _
  by_cases h1 : l ≤ x
  · by_cases h2 : x < r
    · by_cases h3 : t ≤ y
      · by_cases h4 : y < b
        · go_enter Tryd.func49, Tryd.ntmps49
          go_wp2
          go_ret
          exact ⟨ret_bool (by simp [pointB]; omega), hB _ _⟩
        · go_enter Tryd.func49, Tryd.ntmps49
          go_wp2
          go_ret
          exact ⟨ret_bool (by simp [pointB]; omega), hB _ _⟩
      · go_enter Tryd.func49, Tryd.ntmps49
        go_wp2
        go_ret
        exact ⟨ret_bool (by simp [pointB]; omega), hB _ _⟩
    · go_enter Tryd.func49, Tryd.ntmps49
      go_wp2
      go_ret
      exact ⟨ret_bool (by simp [pointB]; omega), hB _ _⟩
  · go_enter Tryd.func49, Tryd.ntmps49
    go_wp2
    go_ret
    exact ⟨ret_bool (by simp [pointB]; omega), hB _ _⟩

end Go.Proofs.YtcgpdfefnmhnhaaDoor
