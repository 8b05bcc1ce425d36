import Derived.Test.YtcgpdfefnmhnhaaDoorU
import Derived.OpenShut
namespace Go.Proofs.YtcgpdfefnmhnhaaDoor
open Go.RowKit Go.Shelf

theorem xor_bd (a b : Int) : 0 ≤ bits BinOp.xor IntKind.u32 a b ∧ bits BinOp.xor IntKind.u32 a b ≤ 4294967295 := by
  have h := bounds_u32 (wf_bits BinOp.xor IntKind.u32 a b)
  omega

set_option maxRecDepth 100000 in
set_option maxHeartbeats 2000000 in
theorem sum_any (s : ByteArray) (w : World) (hs : s.size ≤ 1000) :
    Calls Tryd.prog 20 #[.string s] w fun e w' => ∃ v : Int, e = .returned (.int .u32 v) ∧ 0 ≤ v ∧ v ≤ 4294967295 ∧ w' = w := by
  go_enter Tryd.func20, Tryd.ntmps20
  go_wp2
  go_loop [3, 8] (fun v i => ∃ (k : Nat) (u : Int), k ≤ s.size ∧ i = .int .i64 k ∧ v = .int .u32 u ∧ 0 ≤ u ∧ u ≤ 4294967295) (fun _ i => s.size - (intOf i).toNat)
  case atStart => exact ⟨0, 4294967295, by omega, rfl, rfl, by omega, by omega⟩
  case round =>
    obtain ⟨k, u, hk, rfl, rfl, hu0, hu1⟩ := hrel
    by_cases hlt : k < s.size
    · go_wp2
      go_loop [3, 17] (fun v i => ∃ (j : Nat) (u : Int), j ≤ 8 ∧ i = .int .i64 j ∧ v = .int .u32 u ∧ 0 ≤ u ∧ u ≤ 4294967295) (fun _ i => 8 - (intOf i).toNat)
      case atStart =>
        have hx := xor_bd u ((s[k].toNat : Int) % 4294967296)
        exact ⟨0, _, by omega, rfl, rfl, hx.1, hx.2⟩
      case round =>
        obtain ⟨j, u', hj, rfl, rfl, hu2, hu3⟩ := hrel
        by_cases hlt2 : j < 8
        · have hx := xor_bd (u' / 2) 3988292384
          have HX : Hid _ := hx
          clear hx
          go_wp2
          · exact ⟨⟨j + 1, _, by omega, by go_num, rfl, HX.out.1, HX.out.2⟩, by simp [intOf]; omega⟩
          · exact ⟨⟨j + 1, _, by omega, by go_num, rfl, by omega, by omega⟩, by simp [intOf]; omega⟩
        · go_wp2
          go_round
          case rel => exact ⟨k + 1, u', by omega, by go_num, rfl, hu2, hu3⟩
          case measure => simp [intOf]; omega
    · go_wp2
      go_ret
      have hx := xor_bd IntKind.u32.max u
      exact ⟨_, rfl, hx.1, hx.2, rfl⟩

end Go.Proofs.YtcgpdfefnmhnhaaDoor
