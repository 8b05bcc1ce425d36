import Derived.Test.YtcgpdfefnmhnhaaDoorProg
import Derived.WalkKit
import Derived.WalkSpells
import Derived.WalkLawsBesides
namespace Go.Proofs.YtcgpdfefnmhnhaaDoor
open Go.RowKit

theorem ret_int {k : IntKind} {a b : Int} (h : a = b) : Ending.returned (.int k a) = .returned (.int k b) := by rw [h]
theorem ret_bool {a b : Bool} (h : a = b) : Ending.returned (.bool a) = .returned (.bool b) := by rw [h]

def inB (n l m : Int) : Bool := decide (l ≤ n ∧ n ≤ m)

set_option maxHeartbeats 400000 in
theorem within_any (n l m : Int) (w : World) :
    Calls Tryd.prog 22 #[.int .i64 n, .int .i64 l, .int .i64 m] w fun e w' => e = .returned (.bool (inB n l m)) ∧ w' = w := by
  by_cases h1 : l ≤ n
  · by_cases h2 : n ≤ m
    · go_enter Tryd.func22, Tryd.ntmps22
      go_wp2
      go_ret
      exact ⟨ret_bool (by simp [inB]; omega), rfl⟩
    · go_enter Tryd.func22, Tryd.ntmps22
      go_wp2
      go_ret
      exact ⟨ret_bool (by simp [inB]; omega), rfl⟩
  · go_enter Tryd.func22, Tryd.ntmps22
    go_wp2
    go_ret
    exact ⟨ret_bool (by simp [inB]; omega), rfl⟩

theorem tmod_neg_bd (c n : Int) (hn : 0 < n) (h1 : c < 0) : 0 ≤ -(c + 1).tmod n ∧ -(c + 1).tmod n < n := by
  have h2 : 0 ≤ (-(c + 1)).tmod n := Int.tmod_nonneg n (by omega)
  have h3 : (-(c + 1)).tmod n < n := Int.tmod_lt_of_pos _ hn
  rw [Int.neg_tmod] at h2 h3
  exact ⟨h2, h3⟩

set_option maxHeartbeats 400000 in
theorem pick_any (c n : Int) (w : World) (hn : 0 < n) (hn2 : n ≤ 1000) (hc : -9223372036854775808 ≤ c) (hc2 : c ≤ 9223372036854775807) :
    Calls Tryd.prog 4 #[.int .i64 c, .int .i64 n] w fun e w' => ∃ r : Int, e = .returned (.int .i64 r) ∧ 0 ≤ r ∧ r < n ∧ w' = w := by
  by_cases h1 : c < 0
  · have hb := tmod_neg_bd c n hn h1
    go_enter Tryd.func4, Tryd.ntmps4
    go_wp2
    go_ret
    exact ⟨_, rfl, hb.1, hb.2, rfl⟩
  · go_enter Tryd.func4, Tryd.ntmps4
    go_wp2
    go_ret
    exact ⟨_, rfl, Int.emod_nonneg _ (by omega), Int.emod_lt_of_pos _ hn, rfl⟩

abbrev bx (l t r b : Int) : Value := .agg #[.int .i64 l, .int .i64 t, .int .i64 r, .int .i64 b]
abbrev pt (x y : Int) : Value := .agg #[.int .i64 x, .int .i64 y]

set_option maxHeartbeats 400000 in
theorem boxAt_any (x y : Int) (w : World) :
    Calls Tryd.prog 25 #[.agg #[.int .i64 x, .int .i64 y]] w fun e w' => e = .returned (.agg #[.int .i64 x, .int .i64 y, .int .i64 x, .int .i64 y]) ∧ Below w.heap.size w w' := by
  go_enter Tryd.func25, Tryd.ntmps25
  go_wp2
  exact bodyPost_ret (v := .agg #[.int .i64 x, .int .i64 y, .int .i64 x, .int .i64 y]) (by simp [results, Tryd.results25, go_sem]) rfl ⟨rfl, ((Below.refl _ _).alloc (Nat.le_refl _) _).alloc (by simp) _⟩

def mnZ (a b : Int) : Int := min a b
def mxZ (a b : Int) : Int := max a b

set_option maxHeartbeats 400000 in
theorem Join_any (l t r b l' t' r' b' : Int) (w : World) :
    Calls Tryd.prog 26 #[.agg #[.int .i64 l, .int .i64 t, .int .i64 r, .int .i64 b], .agg #[.int .i64 l', .int .i64 t', .int .i64 r', .int .i64 b']] w fun e w' => e = .returned (.agg #[.int .i64 (mnZ l l'), .int .i64 (mnZ t t'), .int .i64 (mxZ r r'), .int .i64 (mxZ b b')]) ∧ Below w.heap.size w w' := by
  go_enter Tryd.func26, Tryd.ntmps26
  go_wp2
  all_goals exact bodyPost_ret (v := .agg #[.int .i64 (mnZ l l'), .int .i64 (mnZ t t'), .int .i64 (mxZ r r'), .int .i64 (mxZ b b')]) (by simp [results, Tryd.results26, go_sem, mnZ, mxZ]; omega) rfl ⟨rfl, (((Below.refl _ _).alloc (Nat.le_refl _) _).alloc (by simp) _).alloc (by simp; omega) _⟩

def meetsB (l t r b l' t' r' b' : Int) : Bool := decide (l ≤ r' ∧ l' ≤ r ∧ t ≤ b' ∧ t' ≤ b)

set_option maxHeartbeats 1000000 in
theorem Meets_any (l t r b l' t' r' b' : Int) (w : World) :
    Calls Tryd.prog 68 #[.agg #[.int .i64 l, .int .i64 t, .int .i64 r, .int .i64 b], .agg #[.int .i64 l', .int .i64 t', .int .i64 r', .int .i64 b']] w fun e w' => e = .returned (.bool (meetsB l t r b l' t' r' b')) ∧ Below w.heap.size w w' := by
  have hB : ∀ o1 o2 : Obj, Below w.heap.size w ((w.alloc o1).alloc o2) := fun o1 o2 => ((Below.refl _ _).alloc (Nat.le_refl _) _).alloc (by simp) _
  by_cases h1 : l ≤ r'
  · by_cases h2 : l' ≤ r
    · by_cases h3 : t ≤ b'
      · by_cases h4 : t' ≤ b
        · go_enter Tryd.func68, Tryd.ntmps68
          go_wp2
          go_ret
          exact ⟨ret_bool (by simp [meetsB]; omega), hB _ _⟩
        · go_enter Tryd.func68, Tryd.ntmps68
          go_wp2
          go_ret
          exact ⟨ret_bool (by simp [meetsB]; omega), hB _ _⟩
      · go_enter Tryd.func68, Tryd.ntmps68
        go_wp2
        go_ret
        exact ⟨ret_bool (by simp [meetsB]; omega), hB _ _⟩
    · go_enter Tryd.func68, Tryd.ntmps68
      go_wp2
      go_ret
      exact ⟨ret_bool (by simp [meetsB]; omega), hB _ _⟩
  · go_enter Tryd.func68, Tryd.ntmps68
    go_wp2
    go_ret
    exact ⟨ret_bool (by simp [meetsB]; omega), hB _ _⟩

end Go.Proofs.YtcgpdfefnmhnhaaDoor
