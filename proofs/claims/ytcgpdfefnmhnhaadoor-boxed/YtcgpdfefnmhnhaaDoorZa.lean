import Derived.Test.YtcgpdfefnmhnhaaDoorZ
namespace Go.Proofs.YtcgpdfefnmhnhaaDoor
open Go.RowKit Go.Shelf

theorem dig10 (d : Nat) (h : d < 10) : ({ data := #[48, 49, 50, 51, 52, 53, 54, 55, 56, 57] } : ByteArray).extract d (d + 1) = ⟨[UInt8.ofNat (48 + d)].toArray⟩ := by
  have hc : d = 0 ∨ d = 1 ∨ d = 2 ∨ d = 3 ∨ d = 4 ∨ d = 5 ∨ d = 6 ∨ d = 7 ∨ d = 8 ∨ d = 9 := by omega
  rcases hc with rfl | rfl | rfl | rfl | rfl | rfl | rfl | rfl | rfl | rfl <;> decide

theorem ret_str {a b : ByteArray} (h : a = b) : Ending.returned (.string a) = .returned (.string b) := by rw [h]

set_option maxRecDepth 100000 in
set_option maxHeartbeats 1000000 in
theorem decimal1 (n : Nat) (w : World) (h : n < 10) :
    Calls Tryd.prog 6 #[.int .i64 (n : Int)] w fun e w' => e = .returned (.string ⟨(Lib.decDigits n).toArray⟩) ∧ w' = w := by
  have h1 : ¬ ((n : Int) < 0) := by omega
  have h2 : (n : Int) < 10 := by omega
  have hm : (n : Int) % 10 = (n : Int) := by omega
  go_enter Tryd.func6, Tryd.ntmps6
  go_wp2
  go_ret
  refine ⟨ret_str ?_, rfl⟩
  rw [dig10 n h, ByteArray.mk_append_mk [] _, List.nil_append, Lib.decDigits, dif_pos h]

set_option maxRecDepth 100000 in
set_option maxHeartbeats 1000000 in
theorem decimal2 (n : Nat) (w : World) (h0 : 10 ≤ n) (h : n < 100) :
    Calls Tryd.prog 6 #[.int .i64 (n : Int)] w fun e w' => e = .returned (.string ⟨(Lib.decDigits n).toArray⟩) ∧ w' = w := by
  have h1 : ¬ ((n : Int) < 0) := by omega
  have h2 : 10 ≤ (n : Int) := by omega
  have hs := decDigits_short (n / 10) (by omega)
  have hA : (9223372036854775807 < (Lib.decDigits (n / 10)).length) = False := eq_false (by omega)
  have hB : (9223372036854775807 < (Lib.decDigits (n / 10)).length + (min (n % 10 + 1) 10 - n % 10)) = False := eq_false (by omega)
  clear hs
  go_enter Tryd.func6, Tryd.ntmps6
  go_wp2_with (go_at_call 6; rw [show (n : Int) / 10 = ((n / 10 : Nat) : Int) from by omega]; refine (decimal1 (n / 10) _ (by omega)).mono ?_; rintro e w' ⟨rfl, rfl⟩)
  go_ret
  refine ⟨ret_str ?_, rfl⟩
  rw [dig10 (n % 10) (by omega), ByteArray.mk_append_mk [] _, List.nil_append, ByteArray.mk_append_mk]
  conv => rhs; rw [Lib.decDigits, dif_neg (by omega)]

theorem decimal_any (n : Nat) (w : World) (h : n < 100) :
    Calls Tryd.prog 6 #[.int .i64 (n : Int)] w fun e w' => e = .returned (.string ⟨(Lib.decDigits n).toArray⟩) ∧ w' = w := by
  by_cases hn : n < 10
  · exact decimal1 n w hn
  · exact decimal2 n w (by omega) h

end Go.Proofs.YtcgpdfefnmhnhaaDoor
