import Derived.Test.YtbphndloichnaaaGreatDoorG21
import Derived.Deep.RegionHeld3
import Derived.Deep.QuietTactic
import Derived.BigQuiet
namespace Go.Proofs.YtbphndloichnaaaGreatDoor
open Go.RowKit

/-- A box within the world. -/
structure BxW (x : Bx) : Prop where
  l0 : 0 ≤ x.l
  t0 : 0 ≤ x.t
  r0 : 0 ≤ x.r
  b0 : 0 ≤ x.b
  l1 : x.l ≤ 300
  t1 : x.t ≤ 300
  r1 : x.r ≤ 300
  b1 : x.b ≤ 300
theorem BxW.join {x y : Bx} (h : BxW x) (k : BxW y) : BxW (x.join y) := by
  obtain ⟨a1, a2, a3, a4, a5, a6, a7, a8⟩ := h
  obtain ⟨b1, b2, b3, b4, b5, b6, b7, b8⟩ := k
  constructor <;> simp only [Bx.join, mnZ, mxZ] <;> omega

theorem keep8 {A B : World} {N n m : Nat} (hb : Below N A B) (hn : n < N) (hm : m < N) {v0 v1 v2 v3 u0 u1 u2 u3 : Value}
    (s : A.cell? ⟨n, 0, none⟩ = some v0 ∧ A.cell? ⟨n, 1, none⟩ = some v1 ∧ A.cell? ⟨n, 2, none⟩ = some v2 ∧ A.cell? ⟨n, 3, none⟩ = some v3 ∧ A.cell? ⟨m, 0, none⟩ = some u0 ∧ A.cell? ⟨m, 1, none⟩ = some u1 ∧ A.cell? ⟨m, 2, none⟩ = some u2 ∧ A.cell? ⟨m, 3, none⟩ = some u3) :
    B.cell? ⟨n, 0, none⟩ = some v0 ∧ B.cell? ⟨n, 1, none⟩ = some v1 ∧ B.cell? ⟨n, 2, none⟩ = some v2 ∧ B.cell? ⟨n, 3, none⟩ = some v3 ∧ B.cell? ⟨m, 0, none⟩ = some u0 ∧ B.cell? ⟨m, 1, none⟩ = some u1 ∧ B.cell? ⟨m, 2, none⟩ = some u2 ∧ B.cell? ⟨m, 3, none⟩ = some u3 := by
  obtain ⟨hc, _⟩ := bcell hb
  obtain ⟨a0, a1, a2, a3, a4, a5, a6, a7⟩ := s
  exact ⟨(hc _ _ hn).trans a0, (hc _ _ hn).trans a1, (hc _ _ hn).trans a2, (hc _ _ hn).trans a3, (hc _ _ hm).trans a4, (hc _ _ hm).trans a5, (hc _ _ hm).trans a6, (hc _ _ hm).trans a7⟩

set_option maxRecDepth 100000 in
set_option maxHeartbeats 2000000 in
theorem Growth_any (x y : Bx) (w : World) (hx : BxW x) (hy : BxW y) :
    Calls Tryz.prog 124 #[.agg #[.int .i64 x.l, .int .i64 x.t, .int .i64 x.r, .int .i64 x.b], .agg #[.int .i64 y.l, .int .i64 y.t, .int .i64 y.r, .int .i64 y.b]] w fun e w' => (∃ f, e = .returned (.float .f32 f)) ∧ Below w.heap.size w w' := by
  have hB : ∀ o1 o2 : Obj, Below w.heap.size w ((w.alloc o1).alloc o2) := fun o1 o2 => ((Below.refl _ _).alloc (Nat.le_refl _) _).alloc (by simp) _
  obtain ⟨l, t, r, b⟩ := x
  obtain ⟨l', t', r', b'⟩ := y
  have hj : BxW ⟨mnZ l l', mnZ t t', mxZ r r', mxZ b b'⟩ := hx.join hy
  have HS : Hid (∀ (l t r b : Int) (W : World), BxW ⟨l, t, r, b⟩ → Calls Tryz.prog 157 #[.agg #[.int .i64 l, .int .i64 t, .int .i64 r, .int .i64 b]] W fun e w' => (∃ f, e = .returned (.float .f32 f) ∧ Fin32 2 f) ∧ Below W.heap.size W w') := fun l t r b W h => size_any _ _ _ _ W h.1 h.2 h.3 h.4 h.5 h.6 h.7 h.8
  dsimp only
  clear hy
  go_enter Tryz.func124, Tryz.ntmps124
  go_upto_region 1 with fail
  go_region_held3 (fun w' => w'.cell? ⟨w.heap.size, 0, none⟩ = some (.int .i64 l) ∧ w'.cell? ⟨w.heap.size, 1, none⟩ = some (.int .i64 t) ∧ w'.cell? ⟨w.heap.size, 2, none⟩ = some (.int .i64 r) ∧ w'.cell? ⟨w.heap.size, 3, none⟩ = some (.int .i64 b) ∧ w'.cell? ⟨w.heap.size + 1, 0, none⟩ = some (.int .i64 l') ∧ w'.cell? ⟨w.heap.size + 1, 1, none⟩ = some (.int .i64 t') ∧ w'.cell? ⟨w.heap.size + 1, 2, none⟩ = some (.int .i64 r') ∧ w'.cell? ⟨w.heap.size + 1, 3, none⟩ = some (.int .i64 b')) (first | exact s4 | exact s3 | exact s2 | (simp [go_sem, *]; done))
    (first
    | (go_at_call 86; refine (Join_any l t r b l' t' r' b' _).mono ?_; rintro e w2 ⟨rfl, hb2⟩; have hz2 : w.heap.size + 2 ≤ w2.heap.size := (by have := hb2.size; simp at this; omega); have s2 := keep8 (n := w.heap.size) (m := w.heap.size + 1) hb2 (by simp <;> omega) (by simp <;> omega) (by assumption))
    | (go_at_call 157; refine Calls.mono (HS.out _ _ _ _ _ hj) ?_; rintro e w3 ⟨⟨f1, rfl, hf1⟩, hb3⟩; have hz3 : w.heap.size + 2 ≤ w3.heap.size := (by have := hb3.size; omega); have s3 := keep8 (n := w.heap.size) (m := w.heap.size + 1) hb3 (by omega) (by omega) (by assumption))
    | (go_at_call 157; refine Calls.mono (HS.out _ _ _ _ _ hx) ?_; rintro e w4 ⟨⟨f2, rfl, hf2⟩, hb4⟩; have s4 := keep8 (n := w.heap.size) (m := w.heap.size + 1) hb4 (by omega) (by omega) (by assumption); obtain ⟨y, hy⟩ := sub_some hf1 hf2; have hrun : ∀ W : World, Sem.run Tryz.prog (binOp BinOp.sub 237 (.float .f32 f1) (.float .f32 f2)) W = .ok (.float .f32 y) W := (fun W => run_float_arith W BinOp.sub 114 .f32 _ _ y hy)))
  go_wp2
  go_ret
  exact ⟨⟨y, rfl⟩, (((hB _ _).drew.trans (hb2.mono (by simp; omega))).trans (hb3.mono (by omega))).trans (hb4.mono (by omega))⟩

theorem keep9 {A B : World} {N n m k o : Nat} (hb : Below N A B) (hn : n < N) (hm : m < N) (hk : k < N) {v0 v1 v2 v3 u0 u1 u2 u3 x : Value}
    (s : A.cell? ⟨n, 0, none⟩ = some v0 ∧ A.cell? ⟨n, 1, none⟩ = some v1 ∧ A.cell? ⟨n, 2, none⟩ = some v2 ∧ A.cell? ⟨n, 3, none⟩ = some v3 ∧ A.cell? ⟨m, 0, none⟩ = some u0 ∧ A.cell? ⟨m, 1, none⟩ = some u1 ∧ A.cell? ⟨m, 2, none⟩ = some u2 ∧ A.cell? ⟨m, 3, none⟩ = some u3 ∧ A.cell? ⟨k, o, none⟩ = some x) :
    B.cell? ⟨n, 0, none⟩ = some v0 ∧ B.cell? ⟨n, 1, none⟩ = some v1 ∧ B.cell? ⟨n, 2, none⟩ = some v2 ∧ B.cell? ⟨n, 3, none⟩ = some v3 ∧ B.cell? ⟨m, 0, none⟩ = some u0 ∧ B.cell? ⟨m, 1, none⟩ = some u1 ∧ B.cell? ⟨m, 2, none⟩ = some u2 ∧ B.cell? ⟨m, 3, none⟩ = some u3 ∧ B.cell? ⟨k, o, none⟩ = some x := by
  obtain ⟨hc, _⟩ := bcell hb
  obtain ⟨a0, a1, a2, a3, a4, a5, a6, a7, a8⟩ := s
  exact ⟨(hc _ _ hn).trans a0, (hc _ _ hn).trans a1, (hc _ _ hn).trans a2, (hc _ _ hn).trans a3, (hc _ _ hm).trans a4, (hc _ _ hm).trans a5, (hc _ _ hm).trans a6, (hc _ _ hm).trans a7, (hc _ _ hk).trans a8⟩

set_option maxRecDepth 100000 in
set_option maxHeartbeats 2000000 in
theorem leastGrowth_any (kb ko n cap : Nat) (ks : Kids) (y : Bx) (w : World) (hk : KidsAt w.heap.size w kb ko ks) (hn : n = ks.length) (hn1 : 1 ≤ n) (hn2 : n ≤ 1000) (hw : ∀ k ∈ ks, BxW k.2) (hy : BxW y) :
    Calls Tryz.prog 89 #[.slice (some ⟨kb, ko, none⟩) n cap, .agg #[.int .i64 y.l, .int .i64 y.t, .int .i64 y.r, .int .i64 y.b]] w fun e w' => (∃ i : Nat, i < n ∧ e = .returned (.int .i64 (i : Int))) ∧ Below w.heap.size w w' := by
  have hB : ∀ o1 : Obj, Below w.heap.size w (w.alloc o1) := fun o1 => (Below.refl _ _).alloc (Nat.le_refl _) _
  obtain ⟨l', t', r', b'⟩ := y
  have Hk : Hid (KidsAt w.heap.size w kb ko ks) := hk
  have Hn : Hid (n = ks.length) := hn
  have HG : Hid (∀ (l t r b : Int) (W : World), BxW ⟨l, t, r, b⟩ → Calls Tryz.prog 124 #[.agg #[.int .i64 l, .int .i64 t, .int .i64 r, .int .i64 b], .agg #[.int .i64 l', .int .i64 t', .int .i64 r', .int .i64 b']] W fun e w' => (∃ f, e = .returned (.float .f32 f)) ∧ Below W.heap.size W w') := fun l t r b W h => Growth_any ⟨l, t, r, b⟩ ⟨l', t', r', b'⟩ W h hy
  have HW : Hid (∀ k ∈ ks, BxW k.2) := hw
  have hkb := hk.1
  obtain ⟨q0, x0, he0, hp0, hq0, hc0⟩ := hk.at (i := 0) (by omega)
  have hx0 : BxW x0 := hw _ (List.mem_of_getElem? he0)
  obtain ⟨l, t, r, b⟩ := x0
  obtain ⟨a0, a1, a2, a3⟩ := hc0
  dsimp only at a0 a1 a2 a3
  simp only [Nat.add_zero] at hp0
  clear hk hn hw hy he0
  dsimp only
  have hnI : 0 < n := by omega
  go_enter Tryz.func89, Tryz.ntmps89
  go_upto_region 1 with fail
  go_region_held3 (fun w' => w'.cell? ⟨w.heap.size, 0, none⟩ = some (.int .i64 l') ∧ w'.cell? ⟨w.heap.size, 1, none⟩ = some (.int .i64 t') ∧ w'.cell? ⟨w.heap.size, 2, none⟩ = some (.int .i64 r') ∧ w'.cell? ⟨w.heap.size, 3, none⟩ = some (.int .i64 b') ∧ w'.cell? ⟨q0, 0, none⟩ = some (.int .i64 l) ∧ w'.cell? ⟨q0, 1, none⟩ = some (.int .i64 t) ∧ w'.cell? ⟨q0, 2, none⟩ = some (.int .i64 r) ∧ w'.cell? ⟨q0, 3, none⟩ = some (.int .i64 b) ∧ w'.cell? ⟨kb, ko, none⟩ = some (.pointer (some ⟨q0, 0, none⟩))) (first | exact s2 | (simp [go_sem, *]; done))
    (first
    | (go_at_call 124; refine Calls.mono (HG.out _ _ _ _ _ hx0) ?_; rintro e w2 ⟨⟨f1, rfl⟩, hb2⟩; have hz2 : w.heap.size + 1 ≤ w2.heap.size := (by have := hb2.size; simp at this; omega); have s2 := keep9 (n := w.heap.size) (m := q0) (k := kb) (o := ko) hb2 (by simp <;> omega) (by simp <;> omega) (by simp <;> omega) (by assumption)))
  have hB2 : Below w.heap.size w w2 := (hB _).drew.trans (hb2.mono (by simp))
  obtain ⟨e0, e1, e2, e3, _⟩ := s2
  clear a0 a1 a2 a3 hp0 hq0 hx0
  go_wp2
  go_loopw [5, 6, 20] (fun bv lv iv wr => ∃ (i j f : Nat), i ≤ n ∧ j < n ∧ iv = .int .i64 (i : Int) ∧ bv = .int .i64 (j : Int) ∧ lv = .float .f32 f ∧ wr.cell? ⟨w.heap.size, 0, none⟩ = some (.int .i64 l') ∧ wr.cell? ⟨w.heap.size, 1, none⟩ = some (.int .i64 t') ∧ wr.cell? ⟨w.heap.size, 2, none⟩ = some (.int .i64 r') ∧ wr.cell? ⟨w.heap.size, 3, none⟩ = some (.int .i64 b') ∧ Below w.heap.size w wr ∧ w.heap.size < wr.heap.size) (fun _ _ iv _ => n - (intOf iv).toNat)
  case atStart => exact ⟨0, 0, f1, by omega, by omega, rfl, rfl, rfl, e0, e1, e2, e3, hB2, by omega⟩
  case round =>
    clear e0 e1 e2 e3 hB2 hb2 hz2
    obtain ⟨i, j, f, hi, hj, rfl, rfl, rfl, e0, e1, e2, e3, hBw, hs⟩ := hrel
    by_cases hlt : i < n
    · have HkR := Hk.out.below hBw
      obtain ⟨q, x, hqx, hp, hq, hc⟩ := HkR.at (i := i) (by rw [← Hn.out]; exact hlt)
      have hx : BxW x := HW.out _ (List.mem_of_getElem? hqx)
      obtain ⟨l, t, r, b⟩ := x
      obtain ⟨a0, a1, a2, a3⟩ := hc
      dsimp only at a0 a1 a2 a3
      clear HkR hqx
      have hi3 : (i : Int) < (n : Int) := by omega
      go_upto_region 5 with fail
      go_region_held3 (fun w' => w'.cell? ⟨w.heap.size, 0, none⟩ = some (.int .i64 l') ∧ w'.cell? ⟨w.heap.size, 1, none⟩ = some (.int .i64 t') ∧ w'.cell? ⟨w.heap.size, 2, none⟩ = some (.int .i64 r') ∧ w'.cell? ⟨w.heap.size, 3, none⟩ = some (.int .i64 b') ∧ w'.cell? ⟨q, 0, none⟩ = some (.int .i64 l) ∧ w'.cell? ⟨q, 1, none⟩ = some (.int .i64 t) ∧ w'.cell? ⟨q, 2, none⟩ = some (.int .i64 r) ∧ w'.cell? ⟨q, 3, none⟩ = some (.int .i64 b) ∧ w'.cell? ⟨kb, ko + i, none⟩ = some (.pointer (some ⟨q, 0, none⟩))) (first | exact s2 | (simp [go_sem, *]; done))
        (first
        | (go_at_call 124; refine Calls.mono (HG.out _ _ _ _ _ hx) ?_; rintro e w2 ⟨⟨f2, rfl⟩, hb2⟩; have hz2 : wr.heap.size ≤ w2.heap.size := (by have := hb2.size; simp at this; omega); have s2 := keep9 (n := w.heap.size) (m := q) (k := kb) (o := ko + i) hb2 (by simp <;> omega) (by simp <;> omega) (by simp <;> omega) (by assumption)))
      have hB3 : Below w.heap.size w w2 := hBw.drew.trans (hb2.mono (by simp; omega))
      obtain ⟨z0, z1, z2, z3, _⟩ := s2
      clear a0 a1 a2 a3 hp hq hx e0 e1 e2 e3
      go_wp2
      all_goals first
        | exact ⟨⟨i + 1, i, f2, by omega, by omega, by go_num, by go_num, rfl, z0, z1, z2, z3, hB3, by omega⟩, by simp [intOf]; omega⟩
        | exact ⟨⟨i + 1, j, f, by omega, by omega, by go_num, by go_num, rfl, z0, z1, z2, z3, hB3, by omega⟩, by simp [intOf]; omega⟩
        | trace_state
    · go_wp2
      go_ret
      exact ⟨⟨j, hj, rfl⟩, hBw⟩

end Go.Proofs.YtbphndloichnaaaGreatDoor
namespace Go.Proofs.YtbphndloichnaaaGreatDoor
open Go.RowKit

def cmpV (a b : Int) : Int := if a < b then -1 else if b < a then 1 else 0

set_option maxHeartbeats 400000 in
theorem isNaN_any (a : Int) (w : World) : Calls Tryz.prog 181 #[.int .i64 a] w fun e w' => e = .returned (.bool false) ∧ w' = w := by
  go_enter Tryz.func181, Tryz.ntmps181
  go_wp2
  go_ret
  exact ⟨ret_bool (by simp), rfl⟩

set_option maxHeartbeats 400000 in
theorem Compare_any (a b : Int) (w : World) : Calls Tryz.prog 155 #[.int .i64 a, .int .i64 b] w fun e w' => e = .returned (.int .i64 (cmpV a b)) ∧ w' = w := by
  by_cases h1 : a < b
  · go_enter Tryz.func155, Tryz.ntmps155
    go_wp2_with (go_at_call 181; refine (isNaN_any _ _).mono ?_; rintro e w2 ⟨rfl, rfl⟩)
    go_ret
    exact ⟨ret_int (by simp [cmpV, h1]), rfl⟩
  · by_cases h2 : b < a
    · go_enter Tryz.func155, Tryz.ntmps155
      go_wp2_with (go_at_call 181; refine (isNaN_any _ _).mono ?_; rintro e w2 ⟨rfl, rfl⟩)
      go_ret
      exact ⟨ret_int (by simp [cmpV, h1, h2]), rfl⟩
    · go_enter Tryz.func155, Tryz.ntmps155
      go_wp2_with (go_at_call 181; refine (isNaN_any _ _).mono ?_; rintro e w2 ⟨rfl, rfl⟩)
      go_ret
      exact ⟨ret_int (by unfold cmpV; rw [if_neg (by omega), if_neg (by omega)]), rfl⟩

/-- The order along a side: across, or down. -/
def sideV (d : Bool) (x y : Bx) : Int := if d then cmpV (x.l + x.r) (y.l + y.r) else cmpV (x.t + x.b) (y.t + y.b)

set_option maxRecDepth 100000 in
set_option maxHeartbeats 1000000 in
theorem along1_any (p q : Nat) (x y : Bx) (w : World) (hp : C4 w p x) (hq : C4 w q y) (hx : BxW x) (hy : BxW y) :
    Calls Tryz.prog 154 #[.pointer (some ⟨p, 0, none⟩), .pointer (some ⟨q, 0, none⟩)] w fun e w' => e = .returned (.int .i64 (sideV true x y)) ∧ ∃ n, w' = w.drewN n := by
  obtain ⟨l, t, r, b⟩ := x
  obtain ⟨l', t', r', b'⟩ := y
  obtain ⟨a0, a1, a2, a3⟩ := hp
  obtain ⟨c0, c1, c2, c3⟩ := hq
  obtain ⟨p1, p2, p3, p4, p5, p6, p7, p8⟩ := hx
  obtain ⟨q1, q2, q3, q4, q5, q6, q7, q8⟩ := hy
  dsimp only at *
  go_enter Tryz.func154, Tryz.ntmps154
  go_wp2
  go_quiet (first | (go_at_call 155; refine Calls.quiet_of_same (Compare_any _ _ _)))
  go_wp2
  go_ret
  exact ⟨ret_int (by simp [sideV]), _, rfl⟩

set_option maxRecDepth 100000 in
set_option maxHeartbeats 1000000 in
theorem along2_any (p q : Nat) (x y : Bx) (w : World) (hp : C4 w p x) (hq : C4 w q y) (hx : BxW x) (hy : BxW y) :
    Calls Tryz.prog 156 #[.pointer (some ⟨p, 0, none⟩), .pointer (some ⟨q, 0, none⟩)] w fun e w' => e = .returned (.int .i64 (sideV false x y)) ∧ ∃ n, w' = w.drewN n := by
  obtain ⟨l, t, r, b⟩ := x
  obtain ⟨l', t', r', b'⟩ := y
  obtain ⟨a0, a1, a2, a3⟩ := hp
  obtain ⟨c0, c1, c2, c3⟩ := hq
  obtain ⟨p1, p2, p3, p4, p5, p6, p7, p8⟩ := hx
  obtain ⟨q1, q2, q3, q4, q5, q6, q7, q8⟩ := hy
  dsimp only at *
  go_enter Tryz.func156, Tryz.ntmps156
  go_wp2
  go_quiet (first | (go_at_call 155; refine Calls.quiet_of_same (Compare_any _ _ _)))
  go_wp2
  go_ret
  exact ⟨ret_int (by simp [sideV]), _, rfl⟩

def alongV (d : Bool) : Value := .func (.func (if d then 154 else 156)) #[] #[]

set_option maxHeartbeats 1000000 in
theorem along_any (x : Bx) (w : World) (hx : BxW x) :
    Calls Tryz.prog 121 #[.agg #[.int .i64 x.l, .int .i64 x.t, .int .i64 x.r, .int .i64 x.b]] w fun e w' => (∃ d, e = .returned (alongV d)) ∧ Below w.heap.size w w' := by
  obtain ⟨l, t, r, b⟩ := x
  obtain ⟨p1, p2, p3, p4, p5, p6, p7, p8⟩ := hx
  dsimp only at *
  by_cases h : b - t ≤ r - l
  · go_enter Tryz.func121, Tryz.ntmps121
    go_wp2
    go_ret
    exact ⟨⟨true, rfl⟩, (Below.refl _ _).alloc (Nat.le_refl _) _⟩
  · go_enter Tryz.func121, Tryz.ntmps121
    go_wp2
    go_ret
    exact ⟨Or.inl rfl, (Below.refl _ _).alloc (Nat.le_refl _) _⟩

end Go.Proofs.YtbphndloichnaaaGreatDoor
