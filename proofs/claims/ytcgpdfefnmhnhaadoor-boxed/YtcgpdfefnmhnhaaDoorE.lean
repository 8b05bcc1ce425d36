import Derived.Test.YtcgpdfefnmhnhaaDoorD
namespace Go.Proofs.YtcgpdfefnmhnhaaDoor
open Go.RowKit

def ZP (z p : Int) : Prop := (z = 0 ∧ p = 32) ∨ (z = 1 ∧ p = 16) ∨ (z = 2 ∧ p = 8) ∨ (z = 3 ∧ p = 4)

/-- How many tiles there are along a side. -/
def manyZ (z : Int) : Int := if z = 0 then 1 else if z = 1 then 2 else if z = 2 then 4 else 8

def tileB (z c r : Int) : Bool := decide (0 ≤ z ∧ z ≤ 3 ∧ 0 ≤ c ∧ c < manyZ z ∧ 0 ≤ r ∧ r < manyZ z)

set_option maxHeartbeats 2000000 in
theorem IsTile_at (z m c r : Int) (w : World) (hz : (z = 0 ∧ m = 1) ∨ (z = 1 ∧ m = 2) ∨ (z = 2 ∧ m = 4) ∨ (z = 3 ∧ m = 8)) :
    Calls Tryd.prog 7 #[.agg #[.int .i64 z, .int .i64 c, .int .i64 r]] w fun e w' => e = .returned (.bool (decide (0 ≤ c ∧ c < m ∧ 0 ≤ r ∧ r < m))) ∧ Below w.heap.size w w' := by
  have hB : ∀ o1 : Obj, Below w.heap.size w (w.alloc o1) := fun o1 => (Below.refl _ _).alloc (Nat.le_refl _) _
  by_cases c1 : 0 ≤ c
  · by_cases c2 : c < m
    · by_cases c3 : 0 ≤ r
      · by_cases c4 : r < m
        · rcases hz with ⟨rfl, rfl⟩ | ⟨rfl, rfl⟩ | ⟨rfl, rfl⟩ | ⟨rfl, rfl⟩ <;>
          · go_enter Tryd.func7, Tryd.ntmps7
            go_wp2
            go_ret
            exact ⟨ret_bool (by simp; omega), hB _⟩
        · rcases hz with ⟨rfl, rfl⟩ | ⟨rfl, rfl⟩ | ⟨rfl, rfl⟩ | ⟨rfl, rfl⟩ <;>
          · go_enter Tryd.func7, Tryd.ntmps7
            go_wp2
            go_ret
            exact ⟨ret_bool (by simp; omega), hB _⟩
      · rcases hz with ⟨rfl, rfl⟩ | ⟨rfl, rfl⟩ | ⟨rfl, rfl⟩ | ⟨rfl, rfl⟩ <;>
        · go_enter Tryd.func7, Tryd.ntmps7
          go_wp2
          go_ret
          exact ⟨ret_bool (by simp; omega), hB _⟩
    · rcases hz with ⟨rfl, rfl⟩ | ⟨rfl, rfl⟩ | ⟨rfl, rfl⟩ | ⟨rfl, rfl⟩ <;>
      · go_enter Tryd.func7, Tryd.ntmps7
        go_wp2
        go_ret
        exact ⟨ret_bool (by simp; omega), hB _⟩
  · rcases hz with ⟨rfl, rfl⟩ | ⟨rfl, rfl⟩ | ⟨rfl, rfl⟩ | ⟨rfl, rfl⟩ <;>
    · go_enter Tryd.func7, Tryd.ntmps7
      go_wp2
      go_ret
      exact ⟨ret_bool (by simp; omega), hB _⟩

set_option maxHeartbeats 400000 in
theorem IsTile_no (z c r : Int) (w : World) (hz : z < 0 ∨ 3 < z) :
    Calls Tryd.prog 7 #[.agg #[.int .i64 z, .int .i64 c, .int .i64 r]] w fun e w' => e = .returned (.bool false) ∧ Below w.heap.size w w' := by
  have hB : ∀ o1 : Obj, Below w.heap.size w (w.alloc o1) := fun o1 => (Below.refl _ _).alloc (Nat.le_refl _) _
  by_cases c1 : z < 0
  · go_enter Tryd.func7, Tryd.ntmps7
    go_wp2
    go_ret
    exact ⟨rfl, hB _⟩
  · have c2 : 3 < z := by omega
    clear hz
    go_enter Tryd.func7, Tryd.ntmps7
    go_wp2
    go_ret
    exact ⟨rfl, hB _⟩

theorem IsTile_any (z c r : Int) (w : World) :
    Calls Tryd.prog 7 #[.agg #[.int .i64 z, .int .i64 c, .int .i64 r]] w fun e w' => e = .returned (.bool (tileB z c r)) ∧ Below w.heap.size w w' := by
  by_cases h : 0 ≤ z ∧ z ≤ 3
  · have hz : (z = 0 ∧ manyZ z = 1) ∨ (z = 1 ∧ manyZ z = 2) ∨ (z = 2 ∧ manyZ z = 4) ∨ (z = 3 ∧ manyZ z = 8) := by
      have : z = 0 ∨ z = 1 ∨ z = 2 ∨ z = 3 := by omega
      rcases this with rfl | rfl | rfl | rfl <;> simp [manyZ]
    refine (IsTile_at z (manyZ z) c r w hz).mono ?_
    rintro e w' ⟨rfl, hb⟩
    exact ⟨ret_bool (by simp [tileB, h]), hb⟩
  · refine (IsTile_no z c r w (by omega)).mono ?_
    rintro e w' ⟨rfl, hb⟩
    refine ⟨ret_bool ?_, hb⟩
    symm
    simp only [tileB, decide_eq_false_iff_not]
    omega

set_option maxHeartbeats 2000000 in
theorem pixel_any (z p c r i j : Int) (w : World) (hz : ZP z p) (h1 : 0 ≤ c) (h2 : c ≤ 7) (h3 : 0 ≤ r) (h4 : r ≤ 7) (h5 : 0 ≤ i) (h6 : i ≤ 7) (h7 : 0 ≤ j) (h8 : j ≤ 7) :
    Calls Tryd.prog 17 #[.agg #[.int .i64 z, .int .i64 c, .int .i64 r], .int .i64 i, .int .i64 j] w fun e w' => e = .returned (.agg #[.int .i64 (8 * p * c + i * p), .int .i64 (8 * p * r + j * p), .int .i64 (8 * p * c + i * p + p), .int .i64 (8 * p * r + j * p + p)]) ∧ Below w.heap.size w w' := by
  have hB : ∀ (o1 o2 : Obj) (nq : Nat), Below w.heap.size w (((w.alloc o1).alloc o2).drewN nq) := fun o1 o2 nq => below_drewN (((Below.refl _ _).alloc (Nat.le_refl _) _).alloc (by simp) _) nq
  rcases hz with ⟨rfl, rfl⟩ | ⟨rfl, rfl⟩ | ⟨rfl, rfl⟩ | ⟨rfl, rfl⟩ <;>
  · go_enter Tryd.func17, Tryd.ntmps17
    go_wp2
    go_quiet (fail)
    go_wp2
    refine bodyPost_ret (v := .agg #[.int .i64 _, .int .i64 _, .int .i64 _, .int .i64 _]) (by simp [results, Tryd.results17, go_sem]; exact ⟨rfl, rfl, rfl, rfl⟩) rfl ⟨?_, ((((hB _ _ _).setCell (by simp) _).setCell (by simp) _).setCell (by simp) _).setCell (by simp) _⟩
    first | rfl | (congr 1)

end Go.Proofs.YtcgpdfefnmhnhaaDoor
