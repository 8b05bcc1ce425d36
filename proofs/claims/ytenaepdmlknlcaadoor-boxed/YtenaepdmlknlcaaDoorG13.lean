import Derived.Test.YtenaepdmlknlcaaDoorG03
import Derived.Test.YtenaepdmlknlcaaDoorG12
import Derived.OpenShut
namespace Go.Proofs.YtenaepdmlknlcaaDoor
open Go.RowKit Go.Shelf

/-- The box of pixel n of a tile. -/
def pixZ (p c r : Int) (n : Nat) : Bx := ⟨8 * p * c + ((n : Int) % 8) * p, 8 * p * r + ((n : Int) / 8) * p, 8 * p * c + ((n : Int) % 8) * p + p, 8 * p * r + ((n : Int) / 8) * p + p⟩
def colZ (vs : List FV) (p c r : Int) (n : Nat) : Int := tcol (topOf (pixZ p c r n) (vs.filter (meetF (pixZ p c r n))))

theorem pix_bd {z p c r : Int} (hz : ZP z p) (h1 : 0 ≤ c) (h3 : 0 ≤ r) (hc : 8 * p * c ≤ 256 - 8 * p) (hr : 8 * p * r ≤ 256 - 8 * p) (n : Nat) (hn : n < 64) :
    0 ≤ (pixZ p c r n).l ∧ 0 ≤ (pixZ p c r n).t ∧ 0 ≤ (pixZ p c r n).r ∧ 0 ≤ (pixZ p c r n).b ∧ (pixZ p c r n).l ≤ 1000 ∧ (pixZ p c r n).t ≤ 1000 ∧ (pixZ p c r n).r ≤ 1000 ∧ (pixZ p c r n).b ≤ 1000 := by
  simp only [pixZ]
  rcases hz with ⟨rfl, rfl⟩ | ⟨rfl, rfl⟩ | ⟨rfl, rfl⟩ | ⟨rfl, rfl⟩ <;> omega
theorem Good.below {ok : Nat → Prop} {A B : World} (h : Below A.heap.size A B) (hok : ∀ b, ok b → b < A.heap.size) {v : FV} (g : Good ok A v) : Good ok B v :=
  ⟨g.1, g.2.1, g.2.2.1, fun k x y e => ⟨(h.cell (p := ⟨v.pb, v.po + k * 2, none⟩) (hok _ g.2.1)).trans (g.2.2.2 k x y e).1, (h.cell (p := ⟨v.pb, v.po + k * 2 + 1, none⟩) (hok _ g.2.1)).trans (g.2.2.2 k x y e).2⟩⟩
theorem zeros64 (W : World) (C : Array Value) (hC : C = Array.replicate 64 (.int .i64 0)) (j : Nat) (hj : j < 64) : (W.alloc (.cells C 55)).cell? ⟨W.heap.size, j, none⟩ = some (.int .i64 0) := by
  subst hC
  simp [go_sem, hj]
theorem below_set1 (n : Nat) (w : World) (b o : Nat) (h : n ≤ b) (u : Value) : Below n w (w.setCell ⟨b, o, none⟩ u) := (Below.refl n w).setCell (p := ⟨b, o, none⟩) h u

set_option maxRecDepth 100000 in
set_option maxHeartbeats 2000000 in
theorem Body_any (ok : Nat → Prop) (d q : Nat) (vs : List FV) (y : Bx) (z p c r : Int) (w : World) (hok : ∀ b, ok b → b < w.heap.size) (hIT : IsT ok w d q vs y) (hg : ∀ v ∈ vs, Good ok w v) (hcol : ∀ n, 0 ≤ colZ vs p c r n ∧ colZ vs p c r n < 100)
    (hz : ZP z p) (h1 : 0 ≤ c) (h2 : c ≤ 7) (h3 : 0 ≤ r) (h4 : r ≤ 7) (hc : 8 * p * c ≤ 256 - 8 * p) (hr : 8 * p * r ≤ 256 - 8 * p) :
    Calls Tryd.prog 10 #[.agg #[.pointer (some ⟨q, 0, none⟩)], .agg #[.int .i64 z, .int .i64 c, .int .i64 r]] w fun e w' => e = .returned (.string ⟨(Lib.join ((txts ((List.range 64).map fun n => (colZ vs p c r n).toNat)).map (·.data.toList)) [44]).toArray⟩) ∧ Below w.heap.size w w' := by
  have Hok : Hid (∀ b, ok b → b < w.heap.size) := hok
  have HIT : Hid (IsT ok w d q vs y) := hIT
  have Hg : Hid (∀ v ∈ vs, Good ok w v) := hg
  have Hcol : Hid (∀ n, 0 ≤ colZ vs p c r n ∧ colZ vs p c r n < 100) := hcol
  clear hok hIT hg hcol
  have HC0 : Hid (∀ C : Array Value, C = Array.replicate 64 (.int .i64 0) → ∀ (W : World) j, j < 64 → (W.alloc (.cells C 55)).cell? ⟨W.heap.size, j, none⟩ = some (.int .i64 0)) := fun C hC W j hj => zeros64 W C hC j hj
  go_enter Tryd.func10, Tryd.ntmps10
  go_wp2
  go_loopw [7] (fun i wr => ∃ k : Nat, k ≤ 64 ∧ i = .int .i64 k ∧ (∀ j, j < 64 → wr.cell? ⟨w.heap.size + 1 + 1, j, none⟩ = some (.int .i64 (if j < k then colZ vs p c r j else 0))) ∧ (∀ j, wr.frozen? ⟨w.heap.size + 1 + 1, j, none⟩ = false) ∧ wr.cell? ⟨w.heap.size, 0, none⟩ = some (.pointer (some ⟨q, 0, none⟩)) ∧ wr.cell? ⟨w.heap.size + 1, 0, none⟩ = some (.int .i64 z) ∧ wr.cell? ⟨w.heap.size + 1, 1, none⟩ = some (.int .i64 c) ∧ wr.cell? ⟨w.heap.size + 1, 2, none⟩ = some (.int .i64 r) ∧ Below w.heap.size w wr ∧ w.heap.size + 3 ≤ wr.heap.size) (fun i _ => 64 - (intOf i).toNat)
  case atStart =>
    refine ⟨0, by omega, rfl, fun j hj => ?_, fun j => by simp [go_sem], by simp [go_sem], by simp [go_sem], by simp [go_sem], by simp [go_sem], (((Below.refl _ _).alloc (Nat.le_refl _) _).alloc (by simp) _).alloc (by simp <;> omega) _, by simp⟩
    rw [if_neg (by omega)]
    have h := HC0.out _ (show _ = Array.replicate 64 (Value.int .i64 0) from rfl) ((w.alloc (.cells #[.pointer (some ⟨q, 0, none⟩)] 41)).alloc (.cells #[.int .i64 z, .int .i64 c, .int .i64 r] 25)) j hj
    rw [World.size_alloc, World.size_alloc] at h
    exact h
  case round =>
    obtain ⟨k, hk, rfl, hcs, hfz, t0, t1, t2, t3, hB, hs⟩ := hrel
    have Hcs : Hid (∀ j, j < 64 → wr.cell? ⟨w.heap.size + 1 + 1, j, none⟩ = some (.int .i64 (if j < k then colZ vs p c r j else 0))) := hcs
    have Hfz : Hid (∀ j, wr.frozen? ⟨w.heap.size + 1 + 1, j, none⟩ = false) := hfz
    clear hcs hfz
    by_cases hlt : k < 64
    · have hkI : (k : Int) < 64 := by omega
      have hk0 : (0 : Int) ≤ (k : Int) := by omega
      obtain ⟨p1, p2, p3, p4, p5, p6, p7, p8⟩ := pix_bd hz h1 h3 hc hr k hlt
      have HP : Hid (0 ≤ (pixZ p c r k).l ∧ 0 ≤ (pixZ p c r k).t ∧ 0 ≤ (pixZ p c r k).r ∧ 0 ≤ (pixZ p c r k).b ∧ (pixZ p c r k).l ≤ 1000 ∧ (pixZ p c r k).t ≤ 1000 ∧ (pixZ p c r k).r ≤ 1000 ∧ (pixZ p c r k).b ≤ 1000) := ⟨p1, p2, p3, p4, p5, p6, p7, p8⟩
      clear p1 p2 p3 p4 p5 p6 p7 p8
      have HZ : Hid (ZP z p) := hz
      have hmod : (k : Int).tmod 8 = (k : Int) % 8 := Int.tmod_eq_emod_of_nonneg hk0
      have hdiv : (k : Int).tdiv 8 = (k : Int) / 8 := Int.tdiv_eq_ediv_of_nonneg hk0
      have hw8 : IntKind.i64.wrap ((k : Int) / 8) = (k : Int) / 8 := by rw [IntKind.wrap_i64]; omega
      go_upto_region 5 with fail
      go_region_held3 (fun w' => w'.cell? ⟨w.heap.size, 0, none⟩ = some (.pointer (some ⟨q, 0, none⟩)) ∧ w'.cell? ⟨w.heap.size + 1, 0, none⟩ = some (.int .i64 z) ∧ w'.cell? ⟨w.heap.size + 1, 1, none⟩ = some (.int .i64 c) ∧ w'.cell? ⟨w.heap.size + 1, 2, none⟩ = some (.int .i64 r)) (first | exact s4 | exact s3 | exact s2 | (simp [go_sem, *]; done))
        (first
        | (go_at_call 17; refine (pixel_any z p c r _ _ _ HZ.out h1 h2 h3 h4 (by omega) (by omega) (by omega) (by omega)).mono ?_; rintro e w2 ⟨rfl, hb2⟩; obtain ⟨hc2, hf2⟩ := bcell hb2; have s2 := And.intro ((hc2 w.heap.size 0 (by simp <;> omega)).trans t0) (And.intro ((hc2 (w.heap.size + 1) 0 (by simp <;> omega)).trans t1) (And.intro ((hc2 (w.heap.size + 1) 1 (by simp <;> omega)).trans t2) ((hc2 (w.heap.size + 1) 2 (by simp <;> omega)).trans t3))); have hz2 : wr.heap.size ≤ w2.heap.size := (by have := hb2.size; simp at this; omega); have hB2 : Below wr.heap.size wr w2 := (Below.refl _ _).drew.trans (hb2.mono (by simp)); clear hc2 hf2 hb2)
        | (go_at_call 16; refine (colour_any ok d q vs (pixZ p c r k) y _ (fun b hb => Nat.lt_of_lt_of_le (Hok.out b hb) (by omega)) (HIT.out.same (Same.of_below (hB.trans (hB2.mono hB.size)) Hok.out)) (fun v hv => Good.below (hB.trans (hB2.mono hB.size)) Hok.out (Hg.out v hv)) HP.out.1 HP.out.2.1 HP.out.2.2.1 HP.out.2.2.2.1 HP.out.2.2.2.2.1 HP.out.2.2.2.2.2.1 HP.out.2.2.2.2.2.2.1 HP.out.2.2.2.2.2.2.2).mono ?_; rintro e w3 ⟨rfl, hb3⟩; have hB3 : Below wr.heap.size wr w3 := hB2.trans (hb3.mono hz2); obtain ⟨hc3, hf3⟩ := bcell hB3; have s3 := And.intro ((hc3 w.heap.size 0 (by omega)).trans t0) (And.intro ((hc3 (w.heap.size + 1) 0 (by omega)).trans t1) (And.intro ((hc3 (w.heap.size + 1) 1 (by omega)).trans t2) ((hc3 (w.heap.size + 1) 2 (by omega)).trans t3))); have st1 := (hc3 (w.heap.size + 1 + 1) k (by omega)).trans (Hcs.out k hlt); have st2 := (hf3 (w.heap.size + 1 + 1) k (by omega)).trans (Hfz.out k); clear hc3 hf3))
      all_goals
        have HB3 : Hid (Below wr.heap.size wr w3) := hB3
        have HS1 : Hid (w3.cell? ⟨w.heap.size + 1 + 1, k, none⟩ = some (.int .i64 (if k < k then colZ vs p c r k else 0))) := st1
        clear st1 st2 s2 s3 hb3 hB2 hB3
        go_wp2
        go_roundw
        case rel =>
          have hB3 := HB3.out
          obtain ⟨hc3, hf3⟩ := bcell hB3
          have hset : ∀ u, Below (w.heap.size + 1 + 1) w3 (w3.setCell ⟨w.heap.size + 1 + 1, k, none⟩ u) := fun u => below_set1 _ w3 _ k (Nat.le_refl _) u
          refine ⟨k + 1, by omega, by go_num, fun j hj => ?_, fun j => ?_, ((hset _).cell (p := ⟨w.heap.size, 0, none⟩) (show w.heap.size < w.heap.size + 1 + 1 by omega)).trans ((hc3 _ _ (by omega)).trans t0), ((hset _).cell (p := ⟨w.heap.size + 1, 0, none⟩) (show w.heap.size + 1 < w.heap.size + 1 + 1 by omega)).trans ((hc3 _ _ (by omega)).trans t1), ((hset _).cell (p := ⟨w.heap.size + 1, 1, none⟩) (show w.heap.size + 1 < w.heap.size + 1 + 1 by omega)).trans ((hc3 _ _ (by omega)).trans t2), ((hset _).cell (p := ⟨w.heap.size + 1, 2, none⟩) (show w.heap.size + 1 < w.heap.size + 1 + 1 by omega)).trans ((hc3 _ _ (by omega)).trans t3), (hB.trans (hB3.mono hB.size)).trans ((hset _).mono (by omega)), Nat.le_trans (Nat.le_trans hs hB3.size) (hset _).size⟩
          · by_cases hjk : j = k
            · subst hjk
              rw [if_pos (by omega)]
              exact World.cell?_setCell_same _ _ _ HS1.out
            · rw [World.cell?_setCell_other _ _ _ _ (by intro e; exact hjk (by injection e with _ e2 _; exact e2.symm)), hc3 _ _ (by omega), Hcs.out j hj]
              by_cases hjl : j < k
              · rw [if_pos hjl, if_pos (by omega)]
              · rw [if_neg hjl, if_neg (by omega)]
          · rw [World.frozen?_setCell, hf3 _ _ (by omega)]
            exact Hfz.out j
        case measure => simp [intOf]; omega
    · obtain rfl : k = 64 := by omega
      have hruns := runs_any (w.heap.size + 1 + 1) 0 64 64 ((List.range 64).map fun n => (colZ vs p c r n).toNat) wr (by omega) (fun j x hj => by
        rw [List.getElem?_map, Option.map_eq_some_iff] at hj
        obtain ⟨n, hn, rfl⟩ := hj
        obtain ⟨hj1, hj2⟩ := List.getElem?_eq_some_iff.1 hn
        simp at hj1 hj2
        subst hj2
        rw [Nat.zero_add, Hcs.out j hj1, if_pos hj1, Int.toNat_of_nonneg (Hcol.out j).1]) (fun x hx => by
        simp only [List.mem_map, List.mem_range] at hx
        obtain ⟨n, _, rfl⟩ := hx
        have := Hcol.out n
        omega) (by simp) (by omega) (by omega) (by omega) (by omega)
      have HR : Hid _ := hruns
      clear hruns
      go_wp2_with (go_at_call 18; refine Calls.mono HR.out ?_; rintro e w2 ⟨rfl, hb2⟩)
      go_ret
      exact ⟨rfl, hB.trans (hb2.mono hB.size)⟩

end Go.Proofs.YtenaepdmlknlcaaDoor
namespace Go.Proofs.YtenaepdmlknlcaaDoor
open Go.RowKit Go.Shelf

theorem xor_bd (a b : Int) : 0 ≤ bits BinOp.xor IntKind.u32 a b ∧ bits BinOp.xor IntKind.u32 a b ≤ 4294967295 := by
  have h := bounds_u32 (wf_bits BinOp.xor IntKind.u32 a b)
  omega

set_option maxRecDepth 100000 in
set_option maxHeartbeats 2000000 in
theorem sum_any (s : ByteArray) (w : World) (hs : s.size ≤ 1000) :
    Calls Tryd.prog 20 #[.string s] w fun e w' => ∃ v : Int, e = .returned (.int .u32 v) ∧ 0 ≤ v ∧ v ≤ 4294967295 ∧ w' = w := by
  go_enter Tryd.func20, Tryd.ntmps20
  go_wp2
  go_loop [3, 8] (fun v i => ∃ (k : Nat) (u : Int), k ≤ s.size ∧ i = .int .i64 k ∧ v = .int .u32 u ∧ 0 ≤ u ∧ u ≤ 4294967295) (fun _ i => s.size - (intOf i).toNat)
  case atStart => exact ⟨0, 4294967295, by omega, rfl, rfl, by omega, by omega⟩
  case round =>
    obtain ⟨k, u, hk, rfl, rfl, hu0, hu1⟩ := hrel
    by_cases hlt : k < s.size
    · go_wp2
      go_loop [3, 17] (fun v i => ∃ (j : Nat) (u : Int), j ≤ 8 ∧ i = .int .i64 j ∧ v = .int .u32 u ∧ 0 ≤ u ∧ u ≤ 4294967295) (fun _ i => 8 - (intOf i).toNat)
      case atStart =>
        have hx := xor_bd u ((s[k].toNat : Int) % 4294967296)
        exact ⟨0, _, by omega, rfl, rfl, hx.1, hx.2⟩
      case round =>
        obtain ⟨j, u', hj, rfl, rfl, hu2, hu3⟩ := hrel
        by_cases hlt2 : j < 8
        · have hx := xor_bd (u' / 2) 3988292384
          have HX : Hid _ := hx
          clear hx
          go_wp2
          · exact ⟨⟨j + 1, _, by omega, by go_num, rfl, HX.out.1, HX.out.2⟩, by simp [intOf]; omega⟩
          · exact ⟨⟨j + 1, _, by omega, by go_num, rfl, by omega, by omega⟩, by simp [intOf]; omega⟩
        · go_wp2
          go_round
          case rel => exact ⟨k + 1, u', by omega, by go_num, rfl, hu2, hu3⟩
          case measure => simp [intOf]; omega
    · go_wp2
      go_ret
      have hx := xor_bd IntKind.u32.max u
      exact ⟨_, rfl, hx.1, hx.2, rfl⟩

end Go.Proofs.YtenaepdmlknlcaaDoor
namespace Go.Proofs.YtenaepdmlknlcaaDoor
open Go.RowKit Go.Shelf

set_option maxRecDepth 100000 in
set_option maxHeartbeats 1000000 in
theorem tz16 (w : World) (h : w.cell? ⟨3, 15, none⟩ = some (.int .u8 4)) :
    Calls Tryd.prog 80 #[.int .u64 16] w fun e w' => e = .returned (.int .i64 4) ∧ w' = w := by
  have h2 : w.cell? ⟨3, (IntKind.u64.wrap (bits BinOp.and IntKind.u64 16 (IntKind.u64.wrap (-16)) * 285870213051353865) / 288230376151711744).toNat, none⟩ = some (.int .u8 4) := by
    rw [show (IntKind.u64.wrap (bits BinOp.and IntKind.u64 16 (IntKind.u64.wrap (-16)) * 285870213051353865) / 288230376151711744).toNat = 15 from by decide +kernel]; exact h
  clear h
  go_enter Tryd.func80, Tryd.ntmps80
  go_wp2
  go_ret
  exact ⟨rfl, rfl⟩

set_option maxHeartbeats 1000000 in
theorem pow16 (w : World) :
    Calls Tryd.prog 79 #[.int .i64 16] w fun e w' => e = .returned (.bool true) ∧ w' = w := by
  go_enter Tryd.func79, Tryd.ntmps79
  go_wp2
  go_ret
  exact ⟨rfl, rfl⟩

end Go.Proofs.YtenaepdmlknlcaaDoor
namespace Go.Proofs.YtenaepdmlknlcaaDoor
open Go.RowKit Go.Shelf

def fbB (m : Nat) : Int := 4294967296 / 16 ^ m
theorem fb_step {m : Nat} {u : Int} (hm : m ≤ 7) (_h0 : 0 ≤ u) (h : u < fbB m) (h16 : 16 ≤ u) : m ≤ 6 ∧ u / 16 < fbB (m + 1) := by
  have hc : m = 0 ∨ m = 1 ∨ m = 2 ∨ m = 3 ∨ m = 4 ∨ m = 5 ∨ m = 6 ∨ m = 7 := by omega
  rcases hc with rfl | rfl | rfl | rfl | rfl | rfl | rfl | rfl <;> simp [fbB] at h ⊢ <;> omega

theorem and15 (u : Int) (h0 : 0 ≤ u) (h : u < 4294967296) : bits BinOp.and IntKind.u64 u 15 = u % 16 := by
  obtain ⟨n, rfl⟩ := Int.eq_ofNat_of_zero_le h0
  have e : (BitVec.ofInt 64 (n : Int) &&& BitVec.ofInt 64 15).toNat = n % 16 := by
    rw [BitVec.toNat_and]
    have h1 : (BitVec.ofInt 64 (n : Int)).toNat = n := by simp; omega
    rw [h1]
    show n &&& 15 = n % 16
    exact Nat.and_two_pow_sub_one_eq_mod n 4
  show IntKind.u64.wrap ((BitVec.ofInt 64 (n : Int) &&& BitVec.ofInt 64 15).toNat : Int) = _
  rw [e]
  simp [IntKind.wrap, IntKind.bits, IntKind.signed]
  omega

theorem bytes_set {W : World} {A : Nat} (h : ∀ j, j < 65 → ∃ c : Int, W.cell? ⟨A, j, none⟩ = some (.int .u8 c) ∧ 0 ≤ c ∧ c < 256) (i : Nat) (b : UInt8) :
    ∀ j, j < 65 → ∃ c : Int, (W.setCell ⟨A, i, none⟩ (.int .u8 (b.toNat : Int))).cell? ⟨A, j, none⟩ = some (.int .u8 c) ∧ 0 ≤ c ∧ c < 256 := fun j hj => by
  obtain ⟨c, hc, hc0, hc1⟩ := h j hj
  by_cases hij : j = i
  · subst hij
    exact ⟨b.toNat, World.cell?_setCell_same _ _ _ hc, by omega, by have := b.toNat_lt; omega⟩
  · exact ⟨c, (World.cell?_setCell_other _ _ _ _ (by intro e; injection e with _ e2 _; exact hij e2.symm)).trans hc, hc0, hc1⟩

theorem zero125 : Tryd.zeroCells129 = Array.replicate 65 (Value.int .u8 0) := by kernel_rfl

set_option maxRecDepth 100000 in
set_option maxHeartbeats 2000000 in
theorem formatBits16 (u : Int) (w : World) (h0 : 0 ≤ u) (h1 : u < 4294967296) (ht : w.cell? ⟨3, 15, none⟩ = some (.int .u8 4)) (h3 : 3 < w.heap.size) :
    Calls Tryd.prog 61 #[.slice none 0 0, .int .u64 u, .int .i64 16, .bool false, .bool false] w fun e w' => ∃ s : ByteArray, e = .returned (.tuple #[.slice none 0 0, .string s]) ∧ 1 ≤ s.size ∧ s.size ≤ 8 ∧ Below w.heap.size w w' := by
  go_enter Tryd.func61, Tryd.ntmps61
  go_wp2_with (first
    | (go_at_call 79; refine (pow16 _).mono ?_; rintro e w' ⟨rfl, rfl⟩)
    | (go_at_call 80; refine (tz16 _ (by simp [go_sem, *])).mono ?_; rintro e w' ⟨rfl, rfl⟩))
  have hcell : ∀ j, j < 65 → (w.alloc (.cells Tryd.zeroCells129 129)).cell? ⟨w.heap.size, j, none⟩ = some (.int .u8 0) := fun j hj => by
    rw [World.cell?_alloc_new]
    rw [zero125]
    simp [hj]
  have HC : Hid _ := hcell
  clear hcell
  go_loopw [1, 13] (fun uv iv wr => ∃ (m i : Nat) (v : Int), i + 1 + m = 65 ∧ m ≤ 7 ∧ uv = .int .u64 v ∧ iv = .int .i64 ((i : Int) + 1) ∧ 0 ≤ v ∧ v < fbB m ∧ v < 4294967296 ∧ (∀ j, j < 65 → ∃ c : Int, wr.cell? ⟨w.heap.size, j, none⟩ = some (.int .u8 c) ∧ 0 ≤ c ∧ c < 256) ∧ (∀ j, wr.frozen? ⟨w.heap.size, j, none⟩ = false) ∧ Below w.heap.size w wr ∧ w.heap.size < wr.heap.size) (fun uv _ _ => (intOf uv).toNat)
  case atStart => exact ⟨0, 64, u, rfl, by omega, rfl, rfl, h0, by simpa [fbB] using h1, h1, fun j hj => ⟨0, HC.out j hj, by omega, by omega⟩, fun j => by simp [go_sem], (Below.refl _ _).alloc (Nat.le_refl _) _, by simp⟩
  case round =>
    clear h0 h1
    obtain ⟨m, i, v, him, hm, rfl, rfl, hv0, hvB, hv1, hcs, hfz, hB, hs⟩ := hrel
    have Hcs : Hid (∀ j, j < 65 → ∃ c : Int, wr.cell? ⟨w.heap.size, j, none⟩ = some (.int .u8 c) ∧ 0 ≤ c ∧ c < 256) := hcs
    have HvB : Hid (v < fbB m) := hvB
    clear hcs hvB
    have hi65 : i < 65 := by omega
    have hiI : (i : Int) < 65 := by omega
    have hi0 : (0 : Int) ≤ (i : Int) := by omega
    obtain ⟨ci, hci, hci0, hci1⟩ := Hcs.out i hi65
    by_cases hge : 16 ≤ v
    · have hst := fb_step hm hv0 HvB.out hge
      have HST : Hid _ := hst
      clear hst
      obtain ⟨dd, hdd⟩ : ∃ dd : Nat, (dd : Int) = v % 16 := ⟨(v % 16).toNat, by omega⟩
      have hand : bits BinOp.and IntKind.u64 v 15 = (dd : Int) := by rw [and15 v hv0 hv1, hdd]
      have hdd16 : dd < 16 := by omega
      have hddI : (dd : Int) < 36 := by omega
      clear hdd
      have hfi := hfz i
      have Hfz : Hid (∀ j, wr.frozen? ⟨w.heap.size, j, none⟩ = false) := hfz
      clear hfz
      go_wp2
      refine ⟨⟨m + 1, i - 1, v / 16, by have := HST.out.1; omega, by have := HST.out.1; omega, rfl, ?_, by omega, HST.out.2, by omega, bytes_set Hcs.out i _, fun j => ?_, hB.trans (below_set1 w.heap.size wr w.heap.size i (Nat.le_refl _) _), Nat.lt_of_lt_of_le hs (below_set1 w.heap.size wr w.heap.size i (Nat.le_refl _) _).size⟩, ?_⟩
      · have h : (i : Int) = ((i - 1 : Nat) : Int) + 1 := by omega
        rw [← h]
      · rw [World.frozen?_setCell]; exact Hfz.out j
      · show (v / 16).toNat < v.toNat
        omega
    · obtain ⟨dd, rfl⟩ := Int.eq_ofNat_of_zero_le hv0
      have hdd16 : dd < 16 := by omega
      have hddI : (dd : Int) < 36 := by omega
      have hfi := hfz i
      obtain ⟨f, hf⟩ : ∃ f : Nat → Int, ∀ j, j < 65 → wr.cell? ⟨w.heap.size, j, none⟩ = some (.int .u8 (f j)) := ⟨fun j => if h : j < 65 then (Hcs.out j h).choose else 0, fun j hj => by
        simp only [dif_pos hj]
        exact (Hcs.out j hj).choose_spec.1⟩
      have hconv : ∀ x : Int, Sem.run Tryd.prog (convert 88 9 (.slice (some ⟨w.heap.size, i, none⟩) (65 - i) (65 - i))) (wr.setCell ⟨w.heap.size, i, none⟩ (.int .u8 x)) = .ok (.string (strOfNums (x :: (List.range (64 - i)).map fun t => f (i + 1 + t)))) (wr.setCell ⟨w.heap.size, i, none⟩ (.int .u8 x)) := fun x =>
        run_convert_bytes_arg _ 88 5 Tryd.underlying88 Tryd.underlying5 w.heap.size i (65 - i) (65 - i) _ (by simp; omega) (fun j hj => by
          cases j with
          | zero => simp; exact World.cell?_setCell_same _ _ _ hci
          | succ j =>
            rw [World.cell?_setCell_other _ _ _ _ (by intro e; injection e with _ e2 _; omega), hf _ (by omega)]
            simp only [List.getD_cons_succ]
            rw [List.getD_eq_getElem?_getD, List.getElem?_map, List.getElem?_range (by omega)]
            simp [Nat.add_comm, Nat.add_left_comm]) 9 Tryd.underlying9
      have hi1 : (i : Int) ≤ 65 := by omega
      clear hf hfz
      go_wp2
      go_ret2
      refine ⟨_, rfl, ?_, ?_, hB.trans (below_set1 w.heap.size wr w.heap.size i (Nat.le_refl _) _)⟩
      · rw [strOfNums_size]; simp
      · rw [strOfNums_size]; simp; omega

set_option maxHeartbeats 1000000 in
theorem FormatUint16 (u : Int) (w : World) (h0 : 0 ≤ u) (h1 : u < 4294967296) (ht : w.cell? ⟨3, 15, none⟩ = some (.int .u8 4)) (h3 : 3 < w.heap.size) :
    Calls Tryd.prog 19 #[.int .u64 u, .int .i64 16] w fun e w' => ∃ s : ByteArray, e = .returned (.string s) ∧ 1 ≤ s.size ∧ s.size ≤ 8 ∧ Below w.heap.size w w' := by
  have h35 : Calls Tryd.prog 39 #[.int .u64 u, .int .i64 16] w fun e w' => ∃ s : ByteArray, e = .returned (.string s) ∧ 1 ≤ s.size ∧ s.size ≤ 8 ∧ Below w.heap.size w w' := by
    go_enter Tryd.func39, Tryd.ntmps39
    go_wp2_with (go_at_call 61; refine (formatBits16 u _ h0 h1 ht h3).mono ?_; rintro e w1 ⟨s, rfl, hs1, hs2, hb1⟩)
    go_ret
    exact ⟨s, rfl, hs1, hs2, hb1⟩
  have H35 : Hid _ := h35
  clear h35
  go_enter Tryd.func19, Tryd.ntmps19
  go_wp2_with (go_at_call 39; refine Calls.mono H35.out ?_; rintro e w1 ⟨s, rfl, hs1, hs2, hb1⟩)
  go_ret
  exact ⟨s, rfl, hs1, hs2, hb1⟩

theorem repeat0 (c : Nat) (w : World) (hc : c ≤ 8) :
    Calls Tryd.prog 21 #[.string ⟨#[48]⟩, .int .i64 (c : Int)] w fun e w' => e = .returned (.string ⟨(Lib.repeatL [48] c).toArray⟩) ∧ Below w.heap.size w w' := by
  match c, hc with
  | 0, _ => exact (Tryd.strings_Repeat_zero ⟨#[48]⟩ w).mono fun e w' ⟨he, hw⟩ => ⟨he, hw ▸ Below.refl _ _⟩
  | 1, _ => exact (Tryd.strings_Repeat_one ⟨#[48]⟩ w).mono fun e w' ⟨he, hw⟩ => ⟨he, hw ▸ Below.refl _ _⟩
  | n + 2, hc => exact Tryd.strings_Repeat_main ⟨#[48]⟩ (n + 2) w (by omega) (by omega) (by show 1 * (n + 2) ≤ _; omega) (by show 0 < 1; omega)

set_option maxHeartbeats 1000000 in
theorem Mark_any (b : ByteArray) (w : World) (hb : b.size ≤ 1000) (ht : w.cell? ⟨3, 15, none⟩ = some (.int .u8 4)) (h3 : 3 < w.heap.size) :
    Calls Tryd.prog 11 #[.string b] w fun e w' => ∃ s : ByteArray, e = .returned (.string s) ∧ s.size = 8 ∧ Below w.heap.size w w' := by
  go_enter Tryd.func11, Tryd.ntmps11
  go_wp2_with (first
    | (go_at_call 20; refine (sum_any b _ hb).mono ?_; rintro e w1 ⟨v, rfl, hv0, hv1, rfl⟩)
    | (go_at_call 19; refine (FormatUint16 _ _ (by omega) (by omega) ht h3).mono ?_; rintro e w2 ⟨s, rfl, hs1, hs2, hb2⟩))
  rw [show (8 : Int) - (s.size : Int) = ((8 - s.size : Nat) : Int) from by omega]
  have hlen : (⟨(Lib.repeatL [48] (8 - s.size)).toArray⟩ : ByteArray).size = 8 - s.size := by
    show (Lib.repeatL [48] (8 - s.size)).toArray.size = _
    simp [Lib.repeatL_length]
  refine (repeat0 (8 - s.size) w2 (by omega)).mono ?_
  rintro e w3 ⟨rfl, hb3⟩
  generalize (⟨(Lib.repeatL [48] (8 - s.size)).toArray⟩ : ByteArray) = z at *
  have hno : (9223372036854775807 < z.size + s.size) = False := eq_false (by omega)
  have HL : Hid (z.size = 8 - s.size) := hlen
  clear hlen
  go_wp2
  go_ret
  refine ⟨_, rfl, ?_, hb2.trans (hb3.mono hb2.size)⟩
  have := HL.out
  rw [ByteArray.size_append]
  omega

end Go.Proofs.YtenaepdmlknlcaaDoor
