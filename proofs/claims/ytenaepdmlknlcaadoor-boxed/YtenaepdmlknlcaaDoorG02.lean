import Derived.Test.YtenaepdmlknlcaaDoorG01
import Derived.Deep.RegionHeld3
import Derived.Deep.Cut
namespace Go.Proofs.YtenaepdmlknlcaaDoor
open Go.RowKit

def ZP (z p : Int) : Prop := (z = 0 ∧ p = 32) ∨ (z = 1 ∧ p = 16) ∨ (z = 2 ∧ p = 8) ∨ (z = 3 ∧ p = 4)

/-- How many tiles there are along a side. -/
def manyZ (z : Int) : Int := if z = 0 then 1 else if z = 1 then 2 else if z = 2 then 4 else 8

def tileB (z c r : Int) : Bool := decide (0 ≤ z ∧ z ≤ 3 ∧ 0 ≤ c ∧ c < manyZ z ∧ 0 ≤ r ∧ r < manyZ z)

set_option maxHeartbeats 2000000 in
theorem IsTile_at (z m c r : Int) (w : World) (hz : (z = 0 ∧ m = 1) ∨ (z = 1 ∧ m = 2) ∨ (z = 2 ∧ m = 4) ∨ (z = 3 ∧ m = 8)) :
    Calls Tryd.prog 7 #[.agg #[.int .i64 z, .int .i64 c, .int .i64 r]] w fun e w' => e = .returned (.bool (decide (0 ≤ c ∧ c < m ∧ 0 ≤ r ∧ r < m))) ∧ Below w.heap.size w w' := by
  have hB : ∀ o1 : Obj, Below w.heap.size w (w.alloc o1) := fun o1 => (Below.refl _ _).alloc (Nat.le_refl _) _
  by_cases c1 : 0 ≤ c
  · by_cases c2 : c < m
    · by_cases c3 : 0 ≤ r
      · by_cases c4 : r < m
        · rcases hz with ⟨rfl, rfl⟩ | ⟨rfl, rfl⟩ | ⟨rfl, rfl⟩ | ⟨rfl, rfl⟩ <;>
          · go_enter Tryd.func7, Tryd.ntmps7
            go_wp2
            go_ret
            exact ⟨ret_bool (by simp; omega), hB _⟩
        · rcases hz with ⟨rfl, rfl⟩ | ⟨rfl, rfl⟩ | ⟨rfl, rfl⟩ | ⟨rfl, rfl⟩ <;>
          · go_enter Tryd.func7, Tryd.ntmps7
            go_wp2
            go_ret
            exact ⟨ret_bool (by simp; omega), hB _⟩
      · rcases hz with ⟨rfl, rfl⟩ | ⟨rfl, rfl⟩ | ⟨rfl, rfl⟩ | ⟨rfl, rfl⟩ <;>
        · go_enter Tryd.func7, Tryd.ntmps7
          go_wp2
          go_ret
          exact ⟨ret_bool (by simp; omega), hB _⟩
    · rcases hz with ⟨rfl, rfl⟩ | ⟨rfl, rfl⟩ | ⟨rfl, rfl⟩ | ⟨rfl, rfl⟩ <;>
      · go_enter Tryd.func7, Tryd.ntmps7
        go_wp2
        go_ret
        exact ⟨ret_bool (by simp; omega), hB _⟩
  · rcases hz with ⟨rfl, rfl⟩ | ⟨rfl, rfl⟩ | ⟨rfl, rfl⟩ | ⟨rfl, rfl⟩ <;>
    · go_enter Tryd.func7, Tryd.ntmps7
      go_wp2
      go_ret
      exact ⟨ret_bool (by simp; omega), hB _⟩

set_option maxHeartbeats 400000 in
theorem IsTile_no (z c r : Int) (w : World) (hz : z < 0 ∨ 3 < z) :
    Calls Tryd.prog 7 #[.agg #[.int .i64 z, .int .i64 c, .int .i64 r]] w fun e w' => e = .returned (.bool false) ∧ Below w.heap.size w w' := by
  have hB : ∀ o1 : Obj, Below w.heap.size w (w.alloc o1) := fun o1 => (Below.refl _ _).alloc (Nat.le_refl _) _
  by_cases c1 : z < 0
  · go_enter Tryd.func7, Tryd.ntmps7
    go_wp2
    go_ret
    exact ⟨rfl, hB _⟩
  · have c2 : 3 < z := by omega
    clear hz
    go_enter Tryd.func7, Tryd.ntmps7
    go_wp2
    go_ret
    exact ⟨rfl, hB _⟩

theorem IsTile_any (z c r : Int) (w : World) :
    Calls Tryd.prog 7 #[.agg #[.int .i64 z, .int .i64 c, .int .i64 r]] w fun e w' => e = .returned (.bool (tileB z c r)) ∧ Below w.heap.size w w' := by
  by_cases h : 0 ≤ z ∧ z ≤ 3
  · have hz : (z = 0 ∧ manyZ z = 1) ∨ (z = 1 ∧ manyZ z = 2) ∨ (z = 2 ∧ manyZ z = 4) ∨ (z = 3 ∧ manyZ z = 8) := by
      have : z = 0 ∨ z = 1 ∨ z = 2 ∨ z = 3 := by omega
      rcases this with rfl | rfl | rfl | rfl <;> simp [manyZ]
    refine (IsTile_at z (manyZ z) c r w hz).mono ?_
    rintro e w' ⟨rfl, hb⟩
    exact ⟨ret_bool (by simp [tileB, h]), hb⟩
  · refine (IsTile_no z c r w (by omega)).mono ?_
    rintro e w' ⟨rfl, hb⟩
    refine ⟨ret_bool ?_, hb⟩
    symm
    simp only [tileB, decide_eq_false_iff_not]
    omega

end Go.Proofs.YtenaepdmlknlcaaDoor
namespace Go.Proofs.YtenaepdmlknlcaaDoor
open Go.RowKit

set_option maxHeartbeats 400000 in
theorem side_any (z p c r : Int) (w : World) (hz : ZP z p) :
    Calls Tryd.prog 35 #[.agg #[.int .i64 z, .int .i64 c, .int .i64 r]] w fun e w' => e = .returned (.int .i64 (8 * p)) ∧ Below w.heap.size w w' := by
  have hB : ∀ (o1 : Obj), Below w.heap.size w (w.alloc o1) := fun o1 => (Below.refl _ _).alloc (Nat.le_refl _) _
  rcases hz with ⟨rfl, rfl⟩ | ⟨rfl, rfl⟩ | ⟨rfl, rfl⟩ | ⟨rfl, rfl⟩ <;>
  · go_enter Tryd.func35, Tryd.ntmps35
    go_wp2
    go_ret
    exact ⟨rfl, hB _⟩

set_option maxHeartbeats 400000 in
theorem square_any (l t s : Int) (w : World) (h1 : -100000 ≤ l) (h2 : l ≤ 100000) (h3 : -100000 ≤ t) (h4 : t ≤ 100000) (h5 : -100000 ≤ s) (h6 : s ≤ 100000) :
    Calls Tryd.prog 36 #[.int .i64 l, .int .i64 t, .int .i64 s] w fun e w' => e = .returned (.agg #[.int .i64 l, .int .i64 t, .int .i64 (l + s), .int .i64 (t + s)]) ∧ Below w.heap.size w w' := by
  have hB : ∀ (o1 : Obj), Below w.heap.size w (w.alloc o1) := fun o1 => (Below.refl _ _).alloc (Nat.le_refl _) _
  go_enter Tryd.func36, Tryd.ntmps36
  go_wp2
  exact bodyPost_ret (v := .agg #[.int .i64 _, .int .i64 _, .int .i64 _, .int .i64 _]) (by simp [results, Tryd.results36, go_sem]) rfl ⟨rfl, hB _⟩

/-- Four cells of a block, none of them frozen. -/
structure K4 (w : World) (b : Nat) (v0 v1 v2 v3 : Value) : Prop where
  c0 : w.cell? ⟨b, 0, none⟩ = some v0
  c1 : w.cell? ⟨b, 1, none⟩ = some v1
  c2 : w.cell? ⟨b, 2, none⟩ = some v2
  c3 : w.cell? ⟨b, 3, none⟩ = some v3
  f0 : w.frozen? ⟨b, 0, none⟩ = false
  f1 : w.frozen? ⟨b, 1, none⟩ = false
  f2 : w.frozen? ⟨b, 2, none⟩ = false
  f3 : w.frozen? ⟨b, 3, none⟩ = false
theorem K4.below {n : Nat} {A B : World} (h : Below n A B) {b : Nat} (hb : b < n) {v0 v1 v2 v3 : Value} (q : K4 A b v0 v1 v2 v3) : K4 B b v0 v1 v2 v3 :=
  have hc := fun o => h.cell (p := ⟨b, o, none⟩) hb
  have hf := fun o => h.frozen (p := ⟨b, o, none⟩) hb
  ⟨(hc 0).trans q.c0, (hc 1).trans q.c1, (hc 2).trans q.c2, (hc 3).trans q.c3, (hf 0).trans q.f0, (hf 1).trans q.f1, (hf 2).trans q.f2, (hf 3).trans q.f3⟩
theorem K4.new (w : World) (v0 v1 v2 v3 : Value) (t : TypeId) : K4 (w.alloc (.cells #[v0, v1, v2, v3] t)) w.heap.size v0 v1 v2 v3 := by
  constructor <;> simp [go_sem]
theorem K4.new2 (w : World) (o : Obj) (v0 v1 v2 v3 : Value) (t : TypeId) : K4 ((w.alloc o).alloc (.cells #[v0, v1, v2, v3] t)) (w.heap.size + 1) v0 v1 v2 v3 := by
  have := K4.new (w.alloc o) v0 v1 v2 v3 t
  rwa [World.size_alloc] at this

set_option maxHeartbeats 1000000 in
theorem Square_any (z p c r : Int) (w : World) (hz : ZP z p) (h1 : 0 ≤ c) (h2 : c ≤ 7) (h3 : 0 ≤ r) (h4 : r ≤ 7) :
    Calls Tryd.prog 34 #[.agg #[.int .i64 z, .int .i64 c, .int .i64 r]] w fun e w' => e = .returned (.agg #[.int .i64 (8 * p * c), .int .i64 (8 * p * r), .int .i64 (8 * p * c + 8 * p), .int .i64 (8 * p * r + 8 * p)]) ∧ Below w.heap.size w w' := by
  have hB : ∀ (o1 o2 : Obj), Below w.heap.size w ((w.alloc o1).alloc o2) := fun o1 o2 => ((Below.refl _ _).alloc (Nat.le_refl _) _).alloc (by simp) _
  have Hz : ZP z p := hz
  rcases hz with ⟨rfl, rfl⟩ | ⟨rfl, rfl⟩ | ⟨rfl, rfl⟩ | ⟨rfl, rfl⟩ <;>
  · go_enter Tryd.func34, Tryd.ntmps34
    go_wp2_with (first
      | (go_at_call 35; refine (side_any _ _ c r _ Hz).mono ?_; rintro e w1 ⟨rfl, hb1⟩; dsimp only; have q1 := (hb1.cell (p := ⟨w.heap.size, 1, none⟩) (by simp <;> omega)).trans (show _ = some (Value.int .i64 c) from (by simp [go_sem])); have q2 := (hb1.cell (p := ⟨w.heap.size, 2, none⟩) (by simp <;> omega)).trans (show _ = some (Value.int .i64 r) from (by simp [go_sem])); have hB1 : Below w.heap.size w w1 := (hB _ _).trans (hb1.mono (by simp <;> omega)); have hs1 : w.heap.size + 1 < w1.heap.size := (by have := hb1.size; simp at this; omega); have Q1 : Hid (K4 w1 (w.heap.size + 1) (.int .i64 0) (.int .i64 0) (.int .i64 0) (.int .i64 0)) := K4.below hb1 (by simp) (K4.new2 _ _ _ _ _ _ _))
      | (go_at_call 36; refine (square_any _ _ _ _ (by omega) (by omega) (by omega) (by omega) (by omega) (by omega)).mono ?_; rintro e w2 ⟨rfl, hb2⟩; dsimp only; obtain ⟨k0, k1, k2, k3, f0, f1, f2, f3⟩ := K4.below hb2 hs1 Q1.out))
    exact bodyPost_ret (v := .agg #[.int .i64 _, .int .i64 _, .int .i64 _, .int .i64 _]) (by simp [results, Tryd.results34, go_sem, k0, k1, k2, k3]) rfl ⟨rfl, (hB1.trans (hb2.mono hB1.size)).trans (((((Below.refl _ _).setCell (by simp) _).setCell (by simp) _).setCell (by simp) _).setCell (by simp) _)⟩

/-- A tile, as it lies in a block. -/
def T3 (w : World) (b : Nat) (z c r : Int) : Prop := w.cell? ⟨b, 0, none⟩ = some (.int .i64 z) ∧ w.cell? ⟨b, 1, none⟩ = some (.int .i64 c) ∧ w.cell? ⟨b, 2, none⟩ = some (.int .i64 r)
theorem T3.below {n : Nat} {A B : World} (h : Below n A B) {b : Nat} (hb : b < n) {z c r : Int} (q : T3 A b z c r) : T3 B b z c r :=
  have hc := fun o => h.cell (p := ⟨b, o, none⟩) hb
  ⟨(hc 0).trans q.1, (hc 1).trans q.2.1, (hc 2).trans q.2.2⟩

end Go.Proofs.YtenaepdmlknlcaaDoor
