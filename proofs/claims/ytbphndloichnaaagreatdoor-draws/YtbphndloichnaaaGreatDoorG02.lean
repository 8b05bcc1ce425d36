import Derived.Test.YtbphndloichnaaaGreatDoorG01
import Derived.Deep.RegionWith
import Derived.Deep.DeepFit
namespace Go.Proofs.YtbphndloichnaaaGreatDoor
open Go.RowKit

def ZP (z p : Int) : Prop := (z = 0 ∧ p = 32) ∨ (z = 1 ∧ p = 16) ∨ (z = 2 ∧ p = 8) ∨ (z = 3 ∧ p = 4)

/-- How many tiles there are along a side. -/
def manyZ (z : Int) : Int := if z = 0 then 1 else if z = 1 then 2 else if z = 2 then 4 else 8

def tileB (z c r : Int) : Bool := decide (0 ≤ z ∧ z ≤ 3 ∧ 0 ≤ c ∧ c < manyZ z ∧ 0 ≤ r ∧ r < manyZ z)

set_option maxHeartbeats 2000000 in
theorem IsTile_at (z m c r : Int) (w : World) (hz : (z = 0 ∧ m = 1) ∨ (z = 1 ∧ m = 2) ∨ (z = 2 ∧ m = 4) ∨ (z = 3 ∧ m = 8)) :
    Calls Tryz.prog 29 #[.agg #[.int .i64 z, .int .i64 c, .int .i64 r]] w fun e w' => e = .returned (.bool (decide (0 ≤ c ∧ c < m ∧ 0 ≤ r ∧ r < m))) ∧ Below w.heap.size w w' := by
  have hB : ∀ o1 : Obj, Below w.heap.size w (w.alloc o1) := fun o1 => (Below.refl _ _).alloc (Nat.le_refl _) _
  by_cases c1 : 0 ≤ c
  · by_cases c2 : c < m
    · by_cases c3 : 0 ≤ r
      · by_cases c4 : r < m
        · rcases hz with ⟨rfl, rfl⟩ | ⟨rfl, rfl⟩ | ⟨rfl, rfl⟩ | ⟨rfl, rfl⟩ <;>
          · go_enter Tryz.func29, Tryz.ntmps29
            go_wp2
            go_ret
            exact ⟨ret_bool (by simp; omega), hB _⟩
        · rcases hz with ⟨rfl, rfl⟩ | ⟨rfl, rfl⟩ | ⟨rfl, rfl⟩ | ⟨rfl, rfl⟩ <;>
          · go_enter Tryz.func29, Tryz.ntmps29
            go_wp2
            go_ret
            exact ⟨ret_bool (by simp; omega), hB _⟩
      · rcases hz with ⟨rfl, rfl⟩ | ⟨rfl, rfl⟩ | ⟨rfl, rfl⟩ | ⟨rfl, rfl⟩ <;>
        · go_enter Tryz.func29, Tryz.ntmps29
          go_wp2
          go_ret
          exact ⟨ret_bool (by simp; omega), hB _⟩
    · rcases hz with ⟨rfl, rfl⟩ | ⟨rfl, rfl⟩ | ⟨rfl, rfl⟩ | ⟨rfl, rfl⟩ <;>
      · go_enter Tryz.func29, Tryz.ntmps29
        go_wp2
        go_ret
        exact ⟨ret_bool (by simp; omega), hB _⟩
  · rcases hz with ⟨rfl, rfl⟩ | ⟨rfl, rfl⟩ | ⟨rfl, rfl⟩ | ⟨rfl, rfl⟩ <;>
    · go_enter Tryz.func29, Tryz.ntmps29
      go_wp2
      go_ret
      exact ⟨ret_bool (by simp; omega), hB _⟩

set_option maxHeartbeats 400000 in
theorem IsTile_no (z c r : Int) (w : World) (hz : z < 0 ∨ 3 < z) :
    Calls Tryz.prog 29 #[.agg #[.int .i64 z, .int .i64 c, .int .i64 r]] w fun e w' => e = .returned (.bool false) ∧ Below w.heap.size w w' := by
  have hB : ∀ o1 : Obj, Below w.heap.size w (w.alloc o1) := fun o1 => (Below.refl _ _).alloc (Nat.le_refl _) _
  by_cases c1 : z < 0
  · go_enter Tryz.func29, Tryz.ntmps29
    go_wp2
    go_ret
    exact ⟨rfl, hB _⟩
  · have c2 : 3 < z := by omega
    clear hz
    go_enter Tryz.func29, Tryz.ntmps29
    go_wp2
    go_ret
    exact ⟨rfl, hB _⟩

theorem IsTile_any (z c r : Int) (w : World) :
    Calls Tryz.prog 29 #[.agg #[.int .i64 z, .int .i64 c, .int .i64 r]] w fun e w' => e = .returned (.bool (tileB z c r)) ∧ Below w.heap.size w w' := by
  by_cases h : 0 ≤ z ∧ z ≤ 3
  · have hz : (z = 0 ∧ manyZ z = 1) ∨ (z = 1 ∧ manyZ z = 2) ∨ (z = 2 ∧ manyZ z = 4) ∨ (z = 3 ∧ manyZ z = 8) := by
      have : z = 0 ∨ z = 1 ∨ z = 2 ∨ z = 3 := by omega
      rcases this with rfl | rfl | rfl | rfl <;> simp [manyZ]
    refine (IsTile_at z (manyZ z) c r w hz).mono ?_
    rintro e w' ⟨rfl, hb⟩
    exact ⟨ret_bool (by simp [tileB, h]), hb⟩
  · refine (IsTile_no z c r w (by omega)).mono ?_
    rintro e w' ⟨rfl, hb⟩
    refine ⟨ret_bool ?_, hb⟩
    symm
    simp only [tileB, decide_eq_false_iff_not]
    omega

end Go.Proofs.YtbphndloichnaaaGreatDoor
namespace Go.Proofs.YtbphndloichnaaaGreatDoor
open Go.RowKit

theorem rin_any (n l m : Int) (w : World) :
    Calls Tryz.prog 105 #[.int .i64 n, .int .i64 l, .int .i64 m] w fun e w' => e = .returned (.bool (inB n l m)) ∧ w' = w := by
  by_cases h1 : l ≤ n
  · by_cases h2 : n ≤ m
    · go_enter Tryz.func105, Tryz.ntmps105
      go_wp2
      go_ret
      exact ⟨ret_bool (by simp [inB]; omega), rfl⟩
    · go_enter Tryz.func105, Tryz.ntmps105
      go_wp2
      go_ret
      exact ⟨ret_bool (by simp [inB]; omega), rfl⟩
  · go_enter Tryz.func105, Tryz.ntmps105
    go_wp2
    go_ret
    exact ⟨ret_bool (by simp [inB]; omega), rfl⟩

theorem power_any (z : Int) (w : World) (h : 0 ≤ z ∧ z ≤ 3) :
    Calls Tryz.prog 106 #[.int .i64 z] w fun e w' => e = .returned (.int .i64 (manyZ z)) ∧ w' = w := by
  obtain ⟨h1, h2⟩ := h
  go_enter Tryz.func106, Tryz.ntmps106
  go_wp2
  go_loopw [0, 3] (fun n p wr => ∃ k q : Int, n = .int .i64 k ∧ p = .int .i64 q ∧ 0 ≤ k ∧ k ≤ z ∧ 1 ≤ q ∧ q ≤ 8 ∧ q * manyZ k = manyZ z ∧ wr = w) (fun n _ _ => (intOf n).toNat)
  case atStart => exact ⟨z, 1, rfl, rfl, h1, by omega, by omega, by omega, by omega, by first | trivial | rfl⟩
  case round =>
    obtain ⟨k, q, rfl, rfl, k0, kz, q0, q8, hq, rfl⟩ := hrel
    by_cases hk : 0 < k
    · have hz : k = 1 ∨ k = 2 ∨ k = 3 := by omega
      have hm : manyZ k = 2 * manyZ (k - 1) := by rcases hz with rfl | rfl | rfl <;> rfl
      have hm1 : 1 ≤ manyZ (k - 1) := by rcases hz with rfl | rfl | rfl <;> decide
      have hm8 : manyZ z ≤ 8 := by simp only [manyZ]; split <;> (try split) <;> (try split) <;> omega
      have hq2 : 2 * q ≤ 8 := by
        rw [hm] at hq
        have := Int.mul_le_mul_of_nonneg_left hm1 (show 0 ≤ 2 * q by omega)
        have e : q * (2 * manyZ (k - 1)) = 2 * q * manyZ (k - 1) := by rw [← Int.mul_assoc, Int.mul_comm q 2]
        omega
      have Hq : Hid (2 * q * manyZ (k - 1) = manyZ z) := by
        show 2 * q * manyZ (k - 1) = manyZ z
        rw [← hq, hm, ← Int.mul_assoc, Int.mul_comm q 2]
      clear hz hm hm1 hm8 hq
      go_wp2
      go_roundw
      case rel => exact ⟨k - 1, 2 * q, by go_num, by go_num, by omega, by omega, by omega, by omega, Hq.out, by first | trivial | rfl⟩
      case measure => simp [intOf]; omega
    · have Hq : Hid (q = manyZ z) := by
        show q = manyZ z
        have : k = 0 := by omega
        subst this
        simp [manyZ] at hq ⊢
        exact hq
      clear hq
      go_wp2
      go_ret
      exact ⟨ret_int Hq.out, rfl⟩

theorem rIsTile_any (z c r : Int) (w : World) :
    Calls Tryz.prog 62 #[.agg #[.int .i64 z, .int .i64 c, .int .i64 r]] w fun e w' => e = .returned (.bool (tileB z c r)) ∧ Below w.heap.size w w' := by
  have hB : ∀ o1 : Obj, Below w.heap.size w (w.alloc o1) := fun o1 => (Below.refl _ _).alloc (Nat.le_refl _) _
  by_cases h : inB z 0 3 = true
  · have hz : 0 ≤ z ∧ z ≤ 3 := by simpa [inB] using h
    obtain ⟨m, hm⟩ : ∃ m, manyZ z = m := ⟨_, rfl⟩
    have hp : ∀ W : World, Calls Tryz.prog 106 #[.int .i64 z] W fun e w' => e = .returned (.int .i64 m) ∧ w' = W := fun W => hm ▸ power_any z W hz
    have HP : Hid _ := hp
    have ht : tileB z c r = decide (0 ≤ c ∧ 0 ≤ r ∧ c < m ∧ r < m) := by
      simp only [tileB, hm]
      congr 1
      rw [eq_iff_iff]
      omega
    clear hm hp
    rw [ht]
    clear ht
    by_cases c1 : 0 ≤ c
    · by_cases c2 : 0 ≤ r
      · by_cases c3 : c < m
        · by_cases c4 : r < m
          · go_enter Tryz.func62, Tryz.ntmps62
            go_wp2_with (first | (go_at_call 105; refine (rin_any _ _ _ _).mono ?_; rintro e w' ⟨rfl, rfl⟩) | (go_at_call 106; refine Calls.mono (HP.out _) ?_; rintro e w' ⟨rfl, rfl⟩))
            go_ret
            exact ⟨ret_bool (by rw [Bool.eq_iff_iff]; simp; omega), hB _⟩
          · go_enter Tryz.func62, Tryz.ntmps62
            go_wp2_with (first | (go_at_call 105; refine (rin_any _ _ _ _).mono ?_; rintro e w' ⟨rfl, rfl⟩) | (go_at_call 106; refine Calls.mono (HP.out _) ?_; rintro e w' ⟨rfl, rfl⟩))
            go_ret
            exact ⟨ret_bool (by rw [Bool.eq_iff_iff]; simp; omega), hB _⟩
        · go_enter Tryz.func62, Tryz.ntmps62
          go_wp2_with (first | (go_at_call 105; refine (rin_any _ _ _ _).mono ?_; rintro e w' ⟨rfl, rfl⟩) | (go_at_call 106; refine Calls.mono (HP.out _) ?_; rintro e w' ⟨rfl, rfl⟩))
          go_ret
          exact ⟨ret_bool (by rw [Bool.eq_iff_iff]; simp; omega), hB _⟩
      · go_enter Tryz.func62, Tryz.ntmps62
        go_wp2_with (first | (go_at_call 105; refine (rin_any _ _ _ _).mono ?_; rintro e w' ⟨rfl, rfl⟩) | (go_at_call 106; refine Calls.mono (HP.out _) ?_; rintro e w' ⟨rfl, rfl⟩))
        go_ret
        exact ⟨ret_bool (by rw [Bool.eq_iff_iff]; simp; omega), hB _⟩
    · go_enter Tryz.func62, Tryz.ntmps62
      go_wp2_with (first | (go_at_call 105; refine (rin_any _ _ _ _).mono ?_; rintro e w' ⟨rfl, rfl⟩) | (go_at_call 106; refine Calls.mono (HP.out _) ?_; rintro e w' ⟨rfl, rfl⟩))
      go_ret
      exact ⟨ret_bool (by rw [Bool.eq_iff_iff]; simp; omega), hB _⟩
  · have h' : inB z 0 3 = false := by simpa using h
    have ht : tileB z c r = false := by
      simp only [inB, decide_eq_false_iff_not] at h'
      simp only [tileB, decide_eq_false_iff_not]
      omega
    rw [ht]
    clear h ht
    go_enter Tryz.func62, Tryz.ntmps62
    go_wp2_with (go_at_call 105; refine (rin_any _ _ _ _).mono ?_; rintro e w' ⟨rfl, rfl⟩)
    go_ret
    exact ⟨rfl, hB _⟩

end Go.Proofs.YtbphndloichnaaaGreatDoor
namespace Go.Proofs.YtbphndloichnaaaGreatDoor
open Go.RowKit

/-- Four cells of a block, which may be written. -/
structure Q4 (w : World) (b : Nat) (v0 v1 v2 v3 : Value) : Prop where
  c0 : w.cell? ⟨b, 0, none⟩ = some v0
  c1 : w.cell? ⟨b, 1, none⟩ = some v1
  c2 : w.cell? ⟨b, 2, none⟩ = some v2
  c3 : w.cell? ⟨b, 3, none⟩ = some v3
  f0 : w.frozen? ⟨b, 0, none⟩ = false
  f1 : w.frozen? ⟨b, 1, none⟩ = false
  f2 : w.frozen? ⟨b, 2, none⟩ = false
  f3 : w.frozen? ⟨b, 3, none⟩ = false

theorem bcell {W w1 : World} {n : Nat} (hb : Below n W w1) : (∀ b o, b < n → w1.cell? ⟨b, o, none⟩ = W.cell? ⟨b, o, none⟩) ∧ (∀ b o, b < n → w1.frozen? ⟨b, o, none⟩ = W.frozen? ⟨b, o, none⟩) :=
  ⟨fun b o h => hb.cell (p := ⟨b, o, none⟩) h, fun b o h => hb.frozen (p := ⟨b, o, none⟩) h⟩

theorem Q4.below {n : Nat} {A B : World} (h : Below n A B) {b : Nat} (hb : b < n) {v0 v1 v2 v3 : Value} (q : Q4 A b v0 v1 v2 v3) : Q4 B b v0 v1 v2 v3 := by
  obtain ⟨hc, hf⟩ := bcell h
  exact ⟨(hc _ _ hb).trans q.c0, (hc _ _ hb).trans q.c1, (hc _ _ hb).trans q.c2, (hc _ _ hb).trans q.c3, (hf _ _ hb).trans q.f0, (hf _ _ hb).trans q.f1, (hf _ _ hb).trans q.f2, (hf _ _ hb).trans q.f3⟩

theorem Q4.new (w : World) (v0 v1 v2 v3 : Value) (t : TypeId) : Q4 (w.alloc (.cells #[v0, v1, v2, v3] t)) w.heap.size v0 v1 v2 v3 := by
  constructor <;> simp [go_sem]

theorem Q4.set {w : World} {b : Nat} {v0 v1 v2 v3 : Value} (q : Q4 w b v0 v1 v2 v3) (x0 x1 x2 x3 : Value) :
    Q4 ((((w.setCell ⟨b, 0, none⟩ x0).setCell ⟨b, 1, none⟩ x1).setCell ⟨b, 2, none⟩ x2).setCell ⟨b, 3, none⟩ x3) b x0 x1 x2 x3 := by
  obtain ⟨c0, c1, c2, c3, f0, f1, f2, f3⟩ := q
  constructor <;> simp [go_sem, c0, c1, c2, c3, f0, f1, f2, f3]

theorem Q4.drew {w : World} {b : Nat} {v0 v1 v2 v3 : Value} (q : Q4 w b v0 v1 v2 v3) : Q4 w.drew b v0 v1 v2 v3 := ⟨q.c0, q.c1, q.c2, q.c3, q.f0, q.f1, q.f2, q.f3⟩

structure Bx where
  l : Int
  t : Int
  r : Int
  b : Int
def Bx.join (a b : Bx) : Bx := ⟨mnZ a.l b.l, mnZ a.t b.t, mxZ a.r b.r, mxZ a.b b.b⟩
def bxAt (p : Int × Int) : Bx := ⟨p.1, p.2, p.1, p.2⟩
def boxZ : Pts → Bx
  | [] => ⟨0, 0, 0, 0⟩
  | p :: ps => ps.foldl (fun b q => b.join (bxAt q)) (bxAt p)
theorem boxZ_snoc (ps : Pts) (q : Int × Int) (h : ps ≠ []) : boxZ (ps ++ [q]) = (boxZ ps).join (bxAt q) := by
  cases ps with
  | nil => exact absurd rfl h
  | cons p r => simp [boxZ, List.foldl_append]

theorem below_set4 (n : Nat) (w : World) (b : Nat) (h : n ≤ b) (u0 u1 u2 u3 : Value) : Below n w ((((w.setCell ⟨b, 0, none⟩ u0).setCell ⟨b, 1, none⟩ u1).setCell ⟨b, 2, none⟩ u2).setCell ⟨b, 3, none⟩ u3) :=
  ((((Below.refl n w).setCell (p := ⟨b, 0, none⟩) h u0).setCell (p := ⟨b, 1, none⟩) h u1).setCell (p := ⟨b, 2, none⟩) h u2).setCell (p := ⟨b, 3, none⟩) h u3

theorem take_succ_pts {ps : Pts} {k : Nat} {p : Int × Int} (h : ps[k]? = some p) : ps.take (k + 1) = ps.take k ++ [p] := by
  rw [List.take_add_one, h]; rfl

set_option maxHeartbeats 2000000 in
theorem BoxOf_any (b off n cap : Nat) (ps : Pts) (w : World) (hp : Places w.heap.size w b off ps) (hn : n = ps.length) (hn1 : 1 ≤ n) (hn2 : n ≤ 1000000000000) (hcap : n ≤ cap) :
    Calls Tryz.prog 53 #[.slice (some ⟨b, off, none⟩) n cap] w fun e w' => e = .returned (.agg #[.int .i64 (boxZ ps).l, .int .i64 (boxZ ps).t, .int .i64 (boxZ ps).r, .int .i64 (boxZ ps).b]) ∧ Below w.heap.size w w' := by
  have Hn : Hid (n = ps.length) := hn
  clear hn
  obtain ⟨x0, y0, hxy0, hx0, hy0⟩ := hp.at (k := 0) (by rw [← Hn.out]; exact hn1)
  simp only [Nat.zero_mul, Nat.add_zero] at hx0 hy0
  have H0 : Hid (ps[0]? = some (x0, y0)) := hxy0
  clear hxy0
  have hbl := hp.1
  have Hp : Hid (Places w.heap.size w b off ps) := hp
  clear hp
  go_enter Tryz.func53, Tryz.ntmps53
  go_wp2_with (go_at_call 85; refine (boxAt_any _ _ _).mono ?_; rintro e w1 ⟨rfl, hb1⟩)
  all_goals
    have hsz1 := hb1.size
    simp at hsz1
    have hb1' : Below w.heap.size w w1 := ((Below.refl _ _).alloc (Nat.le_refl _) _).trans (hb1.mono (by simp))
    have hq1 : Q4 w1 w.heap.size (.int .i64 0) (.int .i64 0) (.int .i64 0) (.int .i64 0) := (Q4.new _ _ _ _ _ _).below hb1 (by simp)
    go_loopw [13] (fun i wr => ∃ k : Nat, k ≤ n - 1 ∧ i = .int .i64 k ∧ Q4 wr w1.heap.size (.int .i64 (boxZ (ps.take (k + 1))).l) (.int .i64 (boxZ (ps.take (k + 1))).t) (.int .i64 (boxZ (ps.take (k + 1))).r) (.int .i64 (boxZ (ps.take (k + 1))).b) ∧ Q4 wr w.heap.size (.int .i64 0) (.int .i64 0) (.int .i64 0) (.int .i64 0) ∧ Below w.heap.size w wr ∧ w1.heap.size < wr.heap.size) (fun i _ => n - 1 - (intOf i).toNat)
    case atStart =>
      refine ⟨0, Nat.zero_le _, rfl, ?_, hq1.below ((Below.refl _ _).alloc (Nat.le_refl _) _) (by omega), hb1'.alloc (by omega) _, by simp⟩
      rw [take_succ_pts H0.out]
      exact Q4.new _ _ _ _ _ _
    case round =>
      obtain ⟨k, hk, rfl, hq, hq0, hb, hz⟩ := hrel
      by_cases hlt : k < n - 1
      · first
        | (exfalso; omega)
        | (
          generalize hl : (boxZ (ps.take (k + 1))).l = l at hq
          generalize ht : (boxZ (ps.take (k + 1))).t = t at hq
          generalize hr : (boxZ (ps.take (k + 1))).r = r at hq
          generalize hbb : (boxZ (ps.take (k + 1))).b = bb at hq
          obtain ⟨x, y, hxy, hx, hy⟩ := (Hp.out.below hb).at (k := k + 1) (by rw [← Hn.out]; omega)
          rw [show off + (k + 1) * 2 = off + 2 + k * 2 from by omega] at hx hy
          have HJ : Hid (boxZ (ps.take (k + 1 + 1)) = (⟨mnZ l x, mnZ t y, mxZ r x, mxZ bb y⟩ : Bx)) := by
            show boxZ (ps.take (k + 1 + 1)) = _
            rw [take_succ_pts hxy, boxZ_snoc _ _ (by have := Hn.out; intro e; have h2 := congrArg List.length e; rw [List.length_take] at h2; simp only [List.length_nil] at h2; omega), ← hl, ← ht, ← hr, ← hbb]; rfl
          clear hxy hl ht hr hbb hx0 hy0
          have hQ : ∀ o : Obj, Q4 ((wr.alloc o).drew) w1.heap.size (.int .i64 l) (.int .i64 t) (.int .i64 r) (.int .i64 bb) := fun o => (hq.below ((Below.refl _ _).alloc (Nat.le_refl _) o) hz).drew
          obtain ⟨c0, c1, c2, c3, f0, f1, f2, f3⟩ := hq
          go_wp2
          go_region_with (first
            | (go_at_call 85; refine (boxAt_any _ _ _).mono ?_; rintro e w2 ⟨rfl, hb2⟩; have hs2 : wr.heap.size < w2.heap.size := (by have := hb2.size; (try simp at this); omega); have q2 := (hQ _).below hb2 (by simp; omega); obtain ⟨d0, d1, d2, d3, g0, g1, g2, g3⟩ := q2)
            | (go_at_call 86; refine (Join_any _ _ _ _ _ _ _ _ _).mono ?_; rintro e w3 ⟨rfl, hb3⟩; have hs3 : wr.heap.size < w3.heap.size := (by have := hb3.size; (try simp at this); omega); have q3 := (Q4.mk d0 d1 d2 d3 g0 g1 g2 g3).below hb3 (by omega); obtain ⟨k0, k1, k2, k3, m0, m1, m2, m3⟩ := q3))
          all_goals
            have HQ3 : Hid (Q4 w3 w1.heap.size (.int .i64 l) (.int .i64 t) (.int .i64 r) (.int .i64 bb)) := ⟨k0, k1, k2, k3, m0, m1, m2, m3⟩
            clear k0 k1 k2 k3 m0 m1 m2 m3 d0 d1 d2 d3 g0 g1 g2 g3 c0 c1 c2 c3 f0 f1 f2 f3 hQ
            go_wp2
            go_roundw
            case rel =>
              have hB3 : Below w.heap.size w w3 := ((hb.alloc (by omega) _).drew.trans (hb2.mono (by simp; omega))).trans (hb3.mono (by omega))
              have hz3 : Q4 w3 w.heap.size (.int .i64 0) (.int .i64 0) (.int .i64 0) (.int .i64 0) := ((hq0.below ((Below.refl _ _).alloc (Nat.le_refl _) _) (by omega)).drew.below hb2 (by simp; omega)).below hb3 (by omega)
              refine ⟨k + 1, by omega, by go_num, ?_, hz3.below (below_set4 w1.heap.size _ _ (Nat.le_refl _) _ _ _ _) (by omega), hB3.trans (below_set4 w.heap.size _ _ (by omega) _ _ _ _), ?_⟩
              · rw [HJ.out]
                exact HQ3.out.set _ _ _ _
              · exact Nat.lt_of_lt_of_le (by omega) (below_set4 w1.heap.size w3 w1.heap.size (Nat.le_refl _) _ _ _ _).size
            case measure => simp [intOf]; omega)
      · have HK : Hid (boxZ (ps.take (k + 1)) = boxZ ps) := by
          show boxZ (ps.take (k + 1)) = boxZ ps
          rw [show k + 1 = ps.length from by have := Hn.out; omega, List.take_length]
        rw [HK.out] at hq
        obtain ⟨c0, c1, c2, c3, f0, f1, f2, f3⟩ := hq
        have hq0' := hq0
        obtain ⟨z0, z1, z2, z3, e0, e1, e2, e3⟩ := hq0'
        go_wp2
        obtain ⟨y0', y1', y2', y3', _, _, _, _⟩ := hq0.set (.int .i64 (boxZ ps).l) (.int .i64 (boxZ ps).t) (.int .i64 (boxZ ps).r) (.int .i64 (boxZ ps).b)
        exact bodyPost_ret (v := .agg #[.int .i64 (boxZ ps).l, .int .i64 (boxZ ps).t, .int .i64 (boxZ ps).r, .int .i64 (boxZ ps).b]) (by simp [results, Tryz.results53, go_sem, y0', y1', y2', y3']) rfl ⟨rfl, hb.trans (below_set4 w.heap.size _ _ (Nat.le_refl _) _ _ _ _)⟩

end Go.Proofs.YtbphndloichnaaaGreatDoor
