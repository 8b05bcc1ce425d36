import Derived.Test.YtcgpdfefnmhnhaaDoorW
namespace Go.Proofs.YtcgpdfefnmhnhaaDoor
open Go.RowKit Go.Shelf

def fbB (m : Nat) : Int := 4294967296 / 16 ^ m
theorem fb_step {m : Nat} {u : Int} (hm : m ≤ 7) (_h0 : 0 ≤ u) (h : u < fbB m) (h16 : 16 ≤ u) : m ≤ 6 ∧ u / 16 < fbB (m + 1) := by
  have hc : m = 0 ∨ m = 1 ∨ m = 2 ∨ m = 3 ∨ m = 4 ∨ m = 5 ∨ m = 6 ∨ m = 7 := by omega
  rcases hc with rfl | rfl | rfl | rfl | rfl | rfl | rfl | rfl <;> simp [fbB] at h ⊢ <;> omega

theorem and15 (u : Int) (h0 : 0 ≤ u) (h : u < 4294967296) : bits BinOp.and IntKind.u64 u 15 = u % 16 := by
  obtain ⟨n, rfl⟩ := Int.eq_ofNat_of_zero_le h0
  have e : (BitVec.ofInt 64 (n : Int) &&& BitVec.ofInt 64 15).toNat = n % 16 := by
    rw [BitVec.toNat_and]
    have h1 : (BitVec.ofInt 64 (n : Int)).toNat = n := by simp; omega
    rw [h1]
    show n &&& 15 = n % 16
    exact Nat.and_two_pow_sub_one_eq_mod n 4
  show IntKind.u64.wrap ((BitVec.ofInt 64 (n : Int) &&& BitVec.ofInt 64 15).toNat : Int) = _
  rw [e]
  simp [IntKind.wrap, IntKind.bits, IntKind.signed]
  omega

theorem bytes_set {W : World} {A : Nat} (h : ∀ j, j < 65 → ∃ c : Int, W.cell? ⟨A, j, none⟩ = some (.int .u8 c) ∧ 0 ≤ c ∧ c < 256) (i : Nat) (b : UInt8) :
    ∀ j, j < 65 → ∃ c : Int, (W.setCell ⟨A, i, none⟩ (.int .u8 (b.toNat : Int))).cell? ⟨A, j, none⟩ = some (.int .u8 c) ∧ 0 ≤ c ∧ c < 256 := fun j hj => by
  obtain ⟨c, hc, hc0, hc1⟩ := h j hj
  by_cases hij : j = i
  · subst hij
    exact ⟨b.toNat, World.cell?_setCell_same _ _ _ hc, by omega, by have := b.toNat_lt; omega⟩
  · exact ⟨c, (World.cell?_setCell_other _ _ _ _ (by intro e; injection e with _ e2 _; exact hij e2.symm)).trans hc, hc0, hc1⟩

theorem zero125 : Tryd.zeroCells125 = Array.replicate 65 (Value.int .u8 0) := by kernel_rfl

set_option maxRecDepth 100000 in
set_option maxHeartbeats 2000000 in
theorem formatBits16 (u : Int) (w : World) (h0 : 0 ≤ u) (h1 : u < 4294967296) (ht : w.cell? ⟨3, 15, none⟩ = some (.int .u8 4)) (h3 : 3 < w.heap.size) :
    Calls Tryd.prog 57 #[.slice none 0 0, .int .u64 u, .int .i64 16, .bool false, .bool false] w fun e w' => ∃ s : ByteArray, e = .returned (.tuple #[.slice none 0 0, .string s]) ∧ 1 ≤ s.size ∧ s.size ≤ 8 ∧ Below w.heap.size w w' := by
  go_enter Tryd.func57, Tryd.ntmps57
  go_wp2_with (first
    | (go_at_call 75; refine (pow16 _).mono ?_; rintro e w' ⟨rfl, rfl⟩)
    | (go_at_call 76; refine (tz16 _ (by simp [go_sem, *])).mono ?_; rintro e w' ⟨rfl, rfl⟩))
  have hcell : ∀ j, j < 65 → (w.alloc (.cells Tryd.zeroCells125 125)).cell? ⟨w.heap.size, j, none⟩ = some (.int .u8 0) := fun j hj => by
    rw [World.cell?_alloc_new]
    rw [zero125]
    simp [hj]
  have HC : Hid _ := hcell
  clear hcell
  go_loopw [1, 13] (fun uv iv wr => ∃ (m i : Nat) (v : Int), i + 1 + m = 65 ∧ m ≤ 7 ∧ uv = .int .u64 v ∧ iv = .int .i64 ((i : Int) + 1) ∧ 0 ≤ v ∧ v < fbB m ∧ v < 4294967296 ∧ (∀ j, j < 65 → ∃ c : Int, wr.cell? ⟨w.heap.size, j, none⟩ = some (.int .u8 c) ∧ 0 ≤ c ∧ c < 256) ∧ (∀ j, wr.frozen? ⟨w.heap.size, j, none⟩ = false) ∧ Below w.heap.size w wr ∧ w.heap.size < wr.heap.size) (fun uv _ _ => (intOf uv).toNat)
  case atStart => exact ⟨0, 64, u, rfl, by omega, rfl, rfl, h0, by simpa [fbB] using h1, h1, fun j hj => ⟨0, HC.out j hj, by omega, by omega⟩, fun j => by simp [go_sem], (Below.refl _ _).alloc (Nat.le_refl _) _, by simp⟩
  case round =>
    clear h0 h1
    obtain ⟨m, i, v, him, hm, rfl, rfl, hv0, hvB, hv1, hcs, hfz, hB, hs⟩ := hrel
    have Hcs : Hid (∀ j, j < 65 → ∃ c : Int, wr.cell? ⟨w.heap.size, j, none⟩ = some (.int .u8 c) ∧ 0 ≤ c ∧ c < 256) := hcs
    have HvB : Hid (v < fbB m) := hvB
    clear hcs hvB
    have hi65 : i < 65 := by omega
    have hiI : (i : Int) < 65 := by omega
    have hi0 : (0 : Int) ≤ (i : Int) := by omega
    obtain ⟨ci, hci, hci0, hci1⟩ := Hcs.out i hi65
    by_cases hge : 16 ≤ v
    · have hst := fb_step hm hv0 HvB.out hge
      have HST : Hid _ := hst
      clear hst
      obtain ⟨dd, hdd⟩ : ∃ dd : Nat, (dd : Int) = v % 16 := ⟨(v % 16).toNat, by omega⟩
      have hand : bits BinOp.and IntKind.u64 v 15 = (dd : Int) := by rw [and15 v hv0 hv1, hdd]
      have hdd16 : dd < 16 := by omega
      have hddI : (dd : Int) < 36 := by omega
      clear hdd
      have hfi := hfz i
      have Hfz : Hid (∀ j, wr.frozen? ⟨w.heap.size, j, none⟩ = false) := hfz
      clear hfz
      go_wp2
      refine ⟨⟨m + 1, i - 1, v / 16, by have := HST.out.1; omega, by have := HST.out.1; omega, rfl, ?_, by omega, HST.out.2, by omega, bytes_set Hcs.out i _, fun j => ?_, hB.trans (below_set1 w.heap.size wr w.heap.size i (Nat.le_refl _) _), Nat.lt_of_lt_of_le hs (below_set1 w.heap.size wr w.heap.size i (Nat.le_refl _) _).size⟩, ?_⟩
      · have h : (i : Int) = ((i - 1 : Nat) : Int) + 1 := by omega
        rw [← h]
      · rw [World.frozen?_setCell]; exact Hfz.out j
      · show (v / 16).toNat < v.toNat
        omega
    · obtain ⟨dd, rfl⟩ := Int.eq_ofNat_of_zero_le hv0
      have hdd16 : dd < 16 := by omega
      have hddI : (dd : Int) < 36 := by omega
      have hfi := hfz i
      obtain ⟨f, hf⟩ : ∃ f : Nat → Int, ∀ j, j < 65 → wr.cell? ⟨w.heap.size, j, none⟩ = some (.int .u8 (f j)) := ⟨fun j => if h : j < 65 then (Hcs.out j h).choose else 0, fun j hj => by
        simp only [dif_pos hj]
        exact (Hcs.out j hj).choose_spec.1⟩
      have hconv : ∀ x : Int, Sem.run Tryd.prog (convert 84 9 (.slice (some ⟨w.heap.size, i, none⟩) (65 - i) (65 - i))) (wr.setCell ⟨w.heap.size, i, none⟩ (.int .u8 x)) = .ok (.string (strOfNums (x :: (List.range (64 - i)).map fun t => f (i + 1 + t)))) (wr.setCell ⟨w.heap.size, i, none⟩ (.int .u8 x)) := fun x =>
        run_convert_bytes_arg _ 84 5 Tryd.underlying84 Tryd.underlying5 w.heap.size i (65 - i) (65 - i) _ (by simp; omega) (fun j hj => by
          cases j with
          | zero => simp; exact World.cell?_setCell_same _ _ _ hci
          | succ j =>
            rw [World.cell?_setCell_other _ _ _ _ (by intro e; injection e with _ e2 _; omega), hf _ (by omega)]
            simp only [List.getD_cons_succ]
            rw [List.getD_eq_getElem?_getD, List.getElem?_map, List.getElem?_range (by omega)]
            simp [Nat.add_comm, Nat.add_left_comm]) 9 Tryd.underlying9
      have hi1 : (i : Int) ≤ 65 := by omega
      clear hf hfz
      go_wp2
      go_ret2
      refine ⟨_, rfl, ?_, ?_, hB.trans (below_set1 w.heap.size wr w.heap.size i (Nat.le_refl _) _)⟩
      · rw [strOfNums_size]; simp
      · rw [strOfNums_size]; simp; omega

set_option maxHeartbeats 1000000 in
theorem FormatUint16 (u : Int) (w : World) (h0 : 0 ≤ u) (h1 : u < 4294967296) (ht : w.cell? ⟨3, 15, none⟩ = some (.int .u8 4)) (h3 : 3 < w.heap.size) :
    Calls Tryd.prog 19 #[.int .u64 u, .int .i64 16] w fun e w' => ∃ s : ByteArray, e = .returned (.string s) ∧ 1 ≤ s.size ∧ s.size ≤ 8 ∧ Below w.heap.size w w' := by
  have h35 : Calls Tryd.prog 35 #[.int .u64 u, .int .i64 16] w fun e w' => ∃ s : ByteArray, e = .returned (.string s) ∧ 1 ≤ s.size ∧ s.size ≤ 8 ∧ Below w.heap.size w w' := by
    go_enter Tryd.func35, Tryd.ntmps35
    go_wp2_with (go_at_call 57; refine (formatBits16 u _ h0 h1 ht h3).mono ?_; rintro e w1 ⟨s, rfl, hs1, hs2, hb1⟩)
    go_ret
    exact ⟨s, rfl, hs1, hs2, hb1⟩
  have H35 : Hid _ := h35
  clear h35
  go_enter Tryd.func19, Tryd.ntmps19
  go_wp2_with (go_at_call 35; refine Calls.mono H35.out ?_; rintro e w1 ⟨s, rfl, hs1, hs2, hb1⟩)
  go_ret
  exact ⟨s, rfl, hs1, hs2, hb1⟩

theorem repeat0 (c : Nat) (w : World) (hc : c ≤ 8) :
    Calls Tryd.prog 21 #[.string ⟨#[48]⟩, .int .i64 (c : Int)] w fun e w' => e = .returned (.string ⟨(Lib.repeatL [48] c).toArray⟩) ∧ Below w.heap.size w w' := by
  match c, hc with
  | 0, _ => exact (Tryd.strings_Repeat_zero ⟨#[48]⟩ w).mono fun e w' ⟨he, hw⟩ => ⟨he, hw ▸ Below.refl _ _⟩
  | 1, _ => exact (Tryd.strings_Repeat_one ⟨#[48]⟩ w).mono fun e w' ⟨he, hw⟩ => ⟨he, hw ▸ Below.refl _ _⟩
  | n + 2, hc => exact Tryd.strings_Repeat_main ⟨#[48]⟩ (n + 2) w (by omega) (by omega) (by show 1 * (n + 2) ≤ _; omega) (by show 0 < 1; omega)

set_option maxHeartbeats 1000000 in
theorem Mark_any (b : ByteArray) (w : World) (hb : b.size ≤ 1000) (ht : w.cell? ⟨3, 15, none⟩ = some (.int .u8 4)) (h3 : 3 < w.heap.size) :
    Calls Tryd.prog 11 #[.string b] w fun e w' => ∃ s : ByteArray, e = .returned (.string s) ∧ s.size = 8 ∧ Below w.heap.size w w' := by
  go_enter Tryd.func11, Tryd.ntmps11
  go_wp2_with (first
    | (go_at_call 20; refine (sum_any b _ hb).mono ?_; rintro e w1 ⟨v, rfl, hv0, hv1, rfl⟩)
    | (go_at_call 19; refine (FormatUint16 _ _ (by omega) (by omega) ht h3).mono ?_; rintro e w2 ⟨s, rfl, hs1, hs2, hb2⟩))
  rw [show (8 : Int) - (s.size : Int) = ((8 - s.size : Nat) : Int) from by omega]
  have hlen : (⟨(Lib.repeatL [48] (8 - s.size)).toArray⟩ : ByteArray).size = 8 - s.size := by
    show (Lib.repeatL [48] (8 - s.size)).toArray.size = _
    simp [Lib.repeatL_length]
  refine (repeat0 (8 - s.size) w2 (by omega)).mono ?_
  rintro e w3 ⟨rfl, hb3⟩
  generalize (⟨(Lib.repeatL [48] (8 - s.size)).toArray⟩ : ByteArray) = z at *
  have hno : (9223372036854775807 < z.size + s.size) = False := eq_false (by omega)
  have HL : Hid (z.size = 8 - s.size) := hlen
  clear hlen
  go_wp2
  go_ret
  refine ⟨_, rfl, ?_, hb2.trans (hb3.mono hb2.size)⟩
  have := HL.out
  rw [ByteArray.size_append]
  omega

end Go.Proofs.YtcgpdfefnmhnhaaDoor
