import Derived.Test.YtenaepdmlknlcaaGreatDoorE12
import Derived.Test.YtenaepdmlknlcaaGreatDoorE08
import Derived.OpenShut
import Derived.Deep.QuietTactic
import Derived.BigQuiet
namespace Go.Proofs.YtenaepdmlknlcaaGreatDoor
open Go.RowKit

set_option maxHeartbeats 2000000 in
theorem pixel_any (z p c r i j : Int) (w : World) (hz : ZP z p) (h1 : 0 ≤ c) (h2 : c ≤ 7) (h3 : 0 ≤ r) (h4 : r ≤ 7) (h5 : 0 ≤ i) (h6 : i ≤ 7) (h7 : 0 ≤ j) (h8 : j ≤ 7) :
    Calls Tryz.prog 57 #[.agg #[.int .i64 z, .int .i64 c, .int .i64 r], .int .i64 i, .int .i64 j] w fun e w' => e = .returned (.agg #[.int .i64 (8 * p * c + i * p), .int .i64 (8 * p * r + j * p), .int .i64 (8 * p * c + i * p + p), .int .i64 (8 * p * r + j * p + p)]) ∧ Below w.heap.size w w' := by
  have hB : ∀ (o1 o2 : Obj), Below w.heap.size w ((w.alloc o1).alloc o2) := fun o1 o2 => ((Below.refl _ _).alloc (Nat.le_refl _) _).alloc (by simp) _
  have hB' : ∀ (o1 o2 o3 : Obj), Below w.heap.size w (((w.alloc o1).alloc o2).alloc o3) := fun o1 o2 o3 => (hB o1 o2).alloc (by simp; omega) _
  have Hz : ZP z p := hz
  rcases hz with ⟨rfl, rfl⟩ | ⟨rfl, rfl⟩ | ⟨rfl, rfl⟩ | ⟨rfl, rfl⟩
  · go_enter Tryz.func57, Tryz.ntmps57
    go_upto_region 1 with fail
    go_region_held3 (fun w' => w'.cell? ⟨w.heap.size, 0, none⟩ = some (.int .i64 0) ∧ w'.cell? ⟨w.heap.size, 1, none⟩ = some (.int .i64 c) ∧ w'.cell? ⟨w.heap.size, 2, none⟩ = some (.int .i64 r)) (first | with_reducible exact s2 | with_reducible exact s1 | (simp [go_sem, hz2, u0, u1, u2]; done) | (simp [go_sem, hz1, t0, t1, t2]; done) | (simp [go_sem]; done))
      (first
      | (go_at_call 93; refine (Square_any _ _ c r _ Hz h1 h2 h3 h4).mono ?_; rintro e w1 ⟨rfl, hb1⟩; dsimp only; have s1 := T3.below hb1 (b := w.heap.size) (c := c) (r := r) (by simp <;> omega) (by simp [T3, go_sem] <;> rfl); unfold T3 at s1; obtain ⟨t0, t1, t2⟩ := id s1; have hz1 : w.heap.size < w1.heap.size := (by have := hb1.size; simp at this; omega); have hB1 : Below w.heap.size w w1 := (by first | exact (hB _ _).drew.trans (hb1.mono (by simp <;> omega)) | exact (hB' _ _ _).drew.trans (hb1.mono (by simp <;> omega)) | exact (hB _ _).trans (hb1.mono (by simp <;> omega)) | exact (hB' _ _ _).trans (hb1.mono (by simp <;> omega))); (first | (have kk : K4 w1 (w.heap.size + 1 + 1) (.int .i64 0) (.int .i64 0) (.int .i64 0) (.int .i64 0) := (by first | exact K4.below hb1 (by simp) (by constructor <;> simp [go_sem])); have hz3 : w.heap.size + 1 + 1 < w1.heap.size := (by have := hb1.size; simp at this; omega); obtain ⟨k0, k1, k2, k3, f0, f1, f2, f3⟩ := id kk) | skip); have hzr : w.heap.size + 1 < w1.heap.size := (by have := hb1.size; simp at this; omega); have KR : Hid (K4 w1 (w.heap.size + 1) (.int .i64 0) (.int .i64 0) (.int .i64 0) (.int .i64 0)) := K4.below hb1 (by simp <;> omega) (by constructor <;> simp [go_sem]))
      | (go_at_call 94; refine (side_any _ _ c r _ Hz).mono ?_; rintro e w2 ⟨rfl, hb2⟩; dsimp only; have hz2 : w.heap.size < w2.heap.size := (by have := hb2.size; (try simp at this); omega); have s2 := T3.below hb2 (b := w.heap.size) (c := c) (r := r) (by (try simp) <;> omega) (by first | exact s1 | (simp [T3, go_sem, hz1, t0, t1, t2] <;> rfl)); unfold T3 at s2; obtain ⟨u0, u1, u2⟩ := id s2; (first | (have kk : K4 w2 (w.heap.size + 1 + 1) (.int .i64 0) (.int .i64 0) (.int .i64 0) (.int .i64 0) := (by first | exact K4.below hb2 hz3 kk); obtain ⟨k0, k1, k2, k3, f0, f1, f2, f3⟩ := kk) | (have kk : K4 w2 w1.heap.size (.int .i64 0) (.int .i64 0) (.int .i64 0) (.int .i64 0) := (by first | exact K4.below hb2 (by simp) (K4.new w1 _ _ _ _ _)); obtain ⟨k0, k1, k2, k3, f0, f1, f2, f3⟩ := kk) | skip); have hB2 : Below w.heap.size w w2 := (by first | exact hB1.trans (hb2.mono hB1.size) | exact (hB1.alloc hB1.size _).trans (hb2.mono (Nat.le_trans hB1.size (by simp)))); have hzq : w.heap.size + 1 < w2.heap.size := (by have := hb2.size; (try simp at this); omega); have KQ : Hid (K4 w2 (w.heap.size + 1) (.int .i64 0) (.int .i64 0) (.int .i64 0) (.int .i64 0)) := K4.below hb2 (by (try simp) <;> omega) (by first | exact KR.out | exact K4.below ((Below.refl _ w1).alloc (Nat.le_refl _) _) hzr KR.out)))
    all_goals
      go_wp2_with (go_at_call 95; go_loud (refine (square_any _ _ _ _ (by omega) (by omega) (by omega) (by omega) (by omega) (by omega)).mono ?_; rintro e w3 ⟨rfl, hb3⟩; dsimp only; have hB3 : Below w.heap.size w w3 := (Below.trans (by repeat (first | exact hB2 | refine Below.setCell ?_ (by (try simp) <;> omega) _ | refine Below.alloc ?_ (by (try simp) <;> omega) _)) (hb3.mono (by (try simp) <;> omega))); obtain ⟨r0, r1, r2, r3, g0, g1, g2, g3⟩ := KQ.out; have kr3 := K4.below hb3 (b := w.heap.size + 1) (v0 := .int .i64 0) (v1 := .int .i64 0) (v2 := .int .i64 0) (v3 := .int .i64 0) (by (try simp) <;> omega) (by constructor <;> simp [go_sem, r0, r1, r2, r3, g0, g1, g2, g3, hzq]); clear r0 r1 r2 r3 g0 g1 g2 g3; obtain ⟨r0, r1, r2, r3, g0, g1, g2, g3⟩ := kr3))
      exact bodyPost_ret (v := .agg #[.int .i64 _, .int .i64 _, .int .i64 _, .int .i64 _]) (by simp [results, Tryz.results57, go_sem, r0, r1, r2, r3]) rfl ⟨rfl, hB3.trans ((((((Below.refl _ _).setCell (by simp) _).setCell (by simp) _).setCell (by simp) _).setCell (by simp) _))⟩
  · go_enter Tryz.func57, Tryz.ntmps57
    go_upto_region 1 with fail
    go_region_held3 (fun w' => w'.cell? ⟨w.heap.size, 0, none⟩ = some (.int .i64 1) ∧ w'.cell? ⟨w.heap.size, 1, none⟩ = some (.int .i64 c) ∧ w'.cell? ⟨w.heap.size, 2, none⟩ = some (.int .i64 r)) (first | with_reducible exact s2 | with_reducible exact s1 | (simp [go_sem, hz2, u0, u1, u2]; done) | (simp [go_sem, hz1, t0, t1, t2]; done) | (simp [go_sem]; done))
      (first
      | (go_at_call 93; refine (Square_any _ _ c r _ Hz h1 h2 h3 h4).mono ?_; rintro e w1 ⟨rfl, hb1⟩; dsimp only; have s1 := T3.below hb1 (b := w.heap.size) (c := c) (r := r) (by simp <;> omega) (by simp [T3, go_sem] <;> rfl); unfold T3 at s1; obtain ⟨t0, t1, t2⟩ := id s1; have hz1 : w.heap.size < w1.heap.size := (by have := hb1.size; simp at this; omega); have hB1 : Below w.heap.size w w1 := (by first | exact (hB _ _).drew.trans (hb1.mono (by simp <;> omega)) | exact (hB' _ _ _).drew.trans (hb1.mono (by simp <;> omega)) | exact (hB _ _).trans (hb1.mono (by simp <;> omega)) | exact (hB' _ _ _).trans (hb1.mono (by simp <;> omega))); (first | (have kk : K4 w1 (w.heap.size + 1 + 1) (.int .i64 0) (.int .i64 0) (.int .i64 0) (.int .i64 0) := (by first | exact K4.below hb1 (by simp) (by constructor <;> simp [go_sem])); have hz3 : w.heap.size + 1 + 1 < w1.heap.size := (by have := hb1.size; simp at this; omega); obtain ⟨k0, k1, k2, k3, f0, f1, f2, f3⟩ := id kk) | skip); have hzr : w.heap.size + 1 < w1.heap.size := (by have := hb1.size; simp at this; omega); have KR : Hid (K4 w1 (w.heap.size + 1) (.int .i64 0) (.int .i64 0) (.int .i64 0) (.int .i64 0)) := K4.below hb1 (by simp <;> omega) (by constructor <;> simp [go_sem]))
      | (go_at_call 94; refine (side_any _ _ c r _ Hz).mono ?_; rintro e w2 ⟨rfl, hb2⟩; dsimp only; have hz2 : w.heap.size < w2.heap.size := (by have := hb2.size; (try simp at this); omega); have s2 := T3.below hb2 (b := w.heap.size) (c := c) (r := r) (by (try simp) <;> omega) (by first | exact s1 | (simp [T3, go_sem, hz1, t0, t1, t2] <;> rfl)); unfold T3 at s2; obtain ⟨u0, u1, u2⟩ := id s2; (first | (have kk : K4 w2 (w.heap.size + 1 + 1) (.int .i64 0) (.int .i64 0) (.int .i64 0) (.int .i64 0) := (by first | exact K4.below hb2 hz3 kk); obtain ⟨k0, k1, k2, k3, f0, f1, f2, f3⟩ := kk) | (have kk : K4 w2 w1.heap.size (.int .i64 0) (.int .i64 0) (.int .i64 0) (.int .i64 0) := (by first | exact K4.below hb2 (by simp) (K4.new w1 _ _ _ _ _)); obtain ⟨k0, k1, k2, k3, f0, f1, f2, f3⟩ := kk) | skip); have hB2 : Below w.heap.size w w2 := (by first | exact hB1.trans (hb2.mono hB1.size) | exact (hB1.alloc hB1.size _).trans (hb2.mono (Nat.le_trans hB1.size (by simp)))); have hzq : w.heap.size + 1 < w2.heap.size := (by have := hb2.size; (try simp at this); omega); have KQ : Hid (K4 w2 (w.heap.size + 1) (.int .i64 0) (.int .i64 0) (.int .i64 0) (.int .i64 0)) := K4.below hb2 (by (try simp) <;> omega) (by first | exact KR.out | exact K4.below ((Below.refl _ w1).alloc (Nat.le_refl _) _) hzr KR.out)))
    all_goals
      go_wp2_with (go_at_call 95; go_loud (refine (square_any _ _ _ _ (by omega) (by omega) (by omega) (by omega) (by omega) (by omega)).mono ?_; rintro e w3 ⟨rfl, hb3⟩; dsimp only; have hB3 : Below w.heap.size w w3 := (Below.trans (by repeat (first | exact hB2 | refine Below.setCell ?_ (by (try simp) <;> omega) _ | refine Below.alloc ?_ (by (try simp) <;> omega) _)) (hb3.mono (by (try simp) <;> omega))); obtain ⟨r0, r1, r2, r3, g0, g1, g2, g3⟩ := KQ.out; have kr3 := K4.below hb3 (b := w.heap.size + 1) (v0 := .int .i64 0) (v1 := .int .i64 0) (v2 := .int .i64 0) (v3 := .int .i64 0) (by (try simp) <;> omega) (by constructor <;> simp [go_sem, r0, r1, r2, r3, g0, g1, g2, g3, hzq]); clear r0 r1 r2 r3 g0 g1 g2 g3; obtain ⟨r0, r1, r2, r3, g0, g1, g2, g3⟩ := kr3))
      exact bodyPost_ret (v := .agg #[.int .i64 _, .int .i64 _, .int .i64 _, .int .i64 _]) (by simp [results, Tryz.results57, go_sem, r0, r1, r2, r3]) rfl ⟨rfl, hB3.trans ((((((Below.refl _ _).setCell (by simp) _).setCell (by simp) _).setCell (by simp) _).setCell (by simp) _))⟩
  · go_enter Tryz.func57, Tryz.ntmps57
    go_upto_region 1 with fail
    go_region_held3 (fun w' => w'.cell? ⟨w.heap.size, 0, none⟩ = some (.int .i64 2) ∧ w'.cell? ⟨w.heap.size, 1, none⟩ = some (.int .i64 c) ∧ w'.cell? ⟨w.heap.size, 2, none⟩ = some (.int .i64 r)) (first | with_reducible exact s2 | with_reducible exact s1 | (simp [go_sem, hz2, u0, u1, u2]; done) | (simp [go_sem, hz1, t0, t1, t2]; done) | (simp [go_sem]; done))
      (first
      | (go_at_call 93; refine (Square_any _ _ c r _ Hz h1 h2 h3 h4).mono ?_; rintro e w1 ⟨rfl, hb1⟩; dsimp only; have s1 := T3.below hb1 (b := w.heap.size) (c := c) (r := r) (by simp <;> omega) (by simp [T3, go_sem] <;> rfl); unfold T3 at s1; obtain ⟨t0, t1, t2⟩ := id s1; have hz1 : w.heap.size < w1.heap.size := (by have := hb1.size; simp at this; omega); have hB1 : Below w.heap.size w w1 := (by first | exact (hB _ _).drew.trans (hb1.mono (by simp <;> omega)) | exact (hB' _ _ _).drew.trans (hb1.mono (by simp <;> omega)) | exact (hB _ _).trans (hb1.mono (by simp <;> omega)) | exact (hB' _ _ _).trans (hb1.mono (by simp <;> omega))); (first | (have kk : K4 w1 (w.heap.size + 1 + 1) (.int .i64 0) (.int .i64 0) (.int .i64 0) (.int .i64 0) := (by first | exact K4.below hb1 (by simp) (by constructor <;> simp [go_sem])); have hz3 : w.heap.size + 1 + 1 < w1.heap.size := (by have := hb1.size; simp at this; omega); obtain ⟨k0, k1, k2, k3, f0, f1, f2, f3⟩ := id kk) | skip); have hzr : w.heap.size + 1 < w1.heap.size := (by have := hb1.size; simp at this; omega); have KR : Hid (K4 w1 (w.heap.size + 1) (.int .i64 0) (.int .i64 0) (.int .i64 0) (.int .i64 0)) := K4.below hb1 (by simp <;> omega) (by constructor <;> simp [go_sem]))
      | (go_at_call 94; refine (side_any _ _ c r _ Hz).mono ?_; rintro e w2 ⟨rfl, hb2⟩; dsimp only; have hz2 : w.heap.size < w2.heap.size := (by have := hb2.size; (try simp at this); omega); have s2 := T3.below hb2 (b := w.heap.size) (c := c) (r := r) (by (try simp) <;> omega) (by first | exact s1 | (simp [T3, go_sem, hz1, t0, t1, t2] <;> rfl)); unfold T3 at s2; obtain ⟨u0, u1, u2⟩ := id s2; (first | (have kk : K4 w2 (w.heap.size + 1 + 1) (.int .i64 0) (.int .i64 0) (.int .i64 0) (.int .i64 0) := (by first | exact K4.below hb2 hz3 kk); obtain ⟨k0, k1, k2, k3, f0, f1, f2, f3⟩ := kk) | (have kk : K4 w2 w1.heap.size (.int .i64 0) (.int .i64 0) (.int .i64 0) (.int .i64 0) := (by first | exact K4.below hb2 (by simp) (K4.new w1 _ _ _ _ _)); obtain ⟨k0, k1, k2, k3, f0, f1, f2, f3⟩ := kk) | skip); have hB2 : Below w.heap.size w w2 := (by first | exact hB1.trans (hb2.mono hB1.size) | exact (hB1.alloc hB1.size _).trans (hb2.mono (Nat.le_trans hB1.size (by simp)))); have hzq : w.heap.size + 1 < w2.heap.size := (by have := hb2.size; (try simp at this); omega); have KQ : Hid (K4 w2 (w.heap.size + 1) (.int .i64 0) (.int .i64 0) (.int .i64 0) (.int .i64 0)) := K4.below hb2 (by (try simp) <;> omega) (by first | exact KR.out | exact K4.below ((Below.refl _ w1).alloc (Nat.le_refl _) _) hzr KR.out)))
    all_goals
      go_wp2_with (go_at_call 95; go_loud (refine (square_any _ _ _ _ (by omega) (by omega) (by omega) (by omega) (by omega) (by omega)).mono ?_; rintro e w3 ⟨rfl, hb3⟩; dsimp only; have hB3 : Below w.heap.size w w3 := (Below.trans (by repeat (first | exact hB2 | refine Below.setCell ?_ (by (try simp) <;> omega) _ | refine Below.alloc ?_ (by (try simp) <;> omega) _)) (hb3.mono (by (try simp) <;> omega))); obtain ⟨r0, r1, r2, r3, g0, g1, g2, g3⟩ := KQ.out; have kr3 := K4.below hb3 (b := w.heap.size + 1) (v0 := .int .i64 0) (v1 := .int .i64 0) (v2 := .int .i64 0) (v3 := .int .i64 0) (by (try simp) <;> omega) (by constructor <;> simp [go_sem, r0, r1, r2, r3, g0, g1, g2, g3, hzq]); clear r0 r1 r2 r3 g0 g1 g2 g3; obtain ⟨r0, r1, r2, r3, g0, g1, g2, g3⟩ := kr3))
      exact bodyPost_ret (v := .agg #[.int .i64 _, .int .i64 _, .int .i64 _, .int .i64 _]) (by simp [results, Tryz.results57, go_sem, r0, r1, r2, r3]) rfl ⟨rfl, hB3.trans ((((((Below.refl _ _).setCell (by simp) _).setCell (by simp) _).setCell (by simp) _).setCell (by simp) _))⟩
  · go_enter Tryz.func57, Tryz.ntmps57
    go_upto_region 1 with fail
    go_region_held3 (fun w' => w'.cell? ⟨w.heap.size, 0, none⟩ = some (.int .i64 3) ∧ w'.cell? ⟨w.heap.size, 1, none⟩ = some (.int .i64 c) ∧ w'.cell? ⟨w.heap.size, 2, none⟩ = some (.int .i64 r)) (first | with_reducible exact s2 | with_reducible exact s1 | (simp [go_sem, hz2, u0, u1, u2]; done) | (simp [go_sem, hz1, t0, t1, t2]; done) | (simp [go_sem]; done))
      (first
      | (go_at_call 93; refine (Square_any _ _ c r _ Hz h1 h2 h3 h4).mono ?_; rintro e w1 ⟨rfl, hb1⟩; dsimp only; have s1 := T3.below hb1 (b := w.heap.size) (c := c) (r := r) (by simp <;> omega) (by simp [T3, go_sem] <;> rfl); unfold T3 at s1; obtain ⟨t0, t1, t2⟩ := id s1; have hz1 : w.heap.size < w1.heap.size := (by have := hb1.size; simp at this; omega); have hB1 : Below w.heap.size w w1 := (by first | exact (hB _ _).drew.trans (hb1.mono (by simp <;> omega)) | exact (hB' _ _ _).drew.trans (hb1.mono (by simp <;> omega)) | exact (hB _ _).trans (hb1.mono (by simp <;> omega)) | exact (hB' _ _ _).trans (hb1.mono (by simp <;> omega))); (first | (have kk : K4 w1 (w.heap.size + 1 + 1) (.int .i64 0) (.int .i64 0) (.int .i64 0) (.int .i64 0) := (by first | exact K4.below hb1 (by simp) (by constructor <;> simp [go_sem])); have hz3 : w.heap.size + 1 + 1 < w1.heap.size := (by have := hb1.size; simp at this; omega); obtain ⟨k0, k1, k2, k3, f0, f1, f2, f3⟩ := id kk) | skip); have hzr : w.heap.size + 1 < w1.heap.size := (by have := hb1.size; simp at this; omega); have KR : Hid (K4 w1 (w.heap.size + 1) (.int .i64 0) (.int .i64 0) (.int .i64 0) (.int .i64 0)) := K4.below hb1 (by simp <;> omega) (by constructor <;> simp [go_sem]))
      | (go_at_call 94; refine (side_any _ _ c r _ Hz).mono ?_; rintro e w2 ⟨rfl, hb2⟩; dsimp only; have hz2 : w.heap.size < w2.heap.size := (by have := hb2.size; (try simp at this); omega); have s2 := T3.below hb2 (b := w.heap.size) (c := c) (r := r) (by (try simp) <;> omega) (by first | exact s1 | (simp [T3, go_sem, hz1, t0, t1, t2] <;> rfl)); unfold T3 at s2; obtain ⟨u0, u1, u2⟩ := id s2; (first | (have kk : K4 w2 (w.heap.size + 1 + 1) (.int .i64 0) (.int .i64 0) (.int .i64 0) (.int .i64 0) := (by first | exact K4.below hb2 hz3 kk); obtain ⟨k0, k1, k2, k3, f0, f1, f2, f3⟩ := kk) | (have kk : K4 w2 w1.heap.size (.int .i64 0) (.int .i64 0) (.int .i64 0) (.int .i64 0) := (by first | exact K4.below hb2 (by simp) (K4.new w1 _ _ _ _ _)); obtain ⟨k0, k1, k2, k3, f0, f1, f2, f3⟩ := kk) | skip); have hB2 : Below w.heap.size w w2 := (by first | exact hB1.trans (hb2.mono hB1.size) | exact (hB1.alloc hB1.size _).trans (hb2.mono (Nat.le_trans hB1.size (by simp)))); have hzq : w.heap.size + 1 < w2.heap.size := (by have := hb2.size; (try simp at this); omega); have KQ : Hid (K4 w2 (w.heap.size + 1) (.int .i64 0) (.int .i64 0) (.int .i64 0) (.int .i64 0)) := K4.below hb2 (by (try simp) <;> omega) (by first | exact KR.out | exact K4.below ((Below.refl _ w1).alloc (Nat.le_refl _) _) hzr KR.out)))
    all_goals
      go_wp2_with (go_at_call 95; go_loud (refine (square_any _ _ _ _ (by omega) (by omega) (by omega) (by omega) (by omega) (by omega)).mono ?_; rintro e w3 ⟨rfl, hb3⟩; dsimp only; have hB3 : Below w.heap.size w w3 := (Below.trans (by repeat (first | exact hB2 | refine Below.setCell ?_ (by (try simp) <;> omega) _ | refine Below.alloc ?_ (by (try simp) <;> omega) _)) (hb3.mono (by (try simp) <;> omega))); obtain ⟨r0, r1, r2, r3, g0, g1, g2, g3⟩ := KQ.out; have kr3 := K4.below hb3 (b := w.heap.size + 1) (v0 := .int .i64 0) (v1 := .int .i64 0) (v2 := .int .i64 0) (v3 := .int .i64 0) (by (try simp) <;> omega) (by constructor <;> simp [go_sem, r0, r1, r2, r3, g0, g1, g2, g3, hzq]); clear r0 r1 r2 r3 g0 g1 g2 g3; obtain ⟨r0, r1, r2, r3, g0, g1, g2, g3⟩ := kr3))
      exact bodyPost_ret (v := .agg #[.int .i64 _, .int .i64 _, .int .i64 _, .int .i64 _]) (by simp [results, Tryz.results57, go_sem, r0, r1, r2, r3]) rfl ⟨rfl, hB3.trans ((((((Below.refl _ _).setCell (by simp) _).setCell (by simp) _).setCell (by simp) _).setCell (by simp) _))⟩

end Go.Proofs.YtenaepdmlknlcaaGreatDoor

namespace Go.Proofs.YtenaepdmlknlcaaGreatDoor
open Go.RowKit Go.Shelf

/-- The box of pixel n of a tile. -/
def pixZ (p c r : Int) (n : Nat) : Bx := ⟨8 * p * c + ((n : Int) % 8) * p, 8 * p * r + ((n : Int) / 8) * p, 8 * p * c + ((n : Int) % 8) * p + p, 8 * p * r + ((n : Int) / 8) * p + p⟩
def colZ (vs : List FV) (p c r : Int) (n : Nat) : Int := tcol (topOf (pixZ p c r n) (vs.filter (meetF (pixZ p c r n))))

theorem pix_bd {z p c r : Int} (hz : ZP z p) (h1 : 0 ≤ c) (h3 : 0 ≤ r) (hc : 8 * p * c ≤ 256 - 8 * p) (hr : 8 * p * r ≤ 256 - 8 * p) (n : Nat) (hn : n < 64) :
    0 ≤ (pixZ p c r n).l ∧ 0 ≤ (pixZ p c r n).t ∧ 0 ≤ (pixZ p c r n).r ∧ 0 ≤ (pixZ p c r n).b ∧ (pixZ p c r n).l ≤ 1000 ∧ (pixZ p c r n).t ≤ 1000 ∧ (pixZ p c r n).r ≤ 1000 ∧ (pixZ p c r n).b ≤ 1000 := by
  simp only [pixZ]
  rcases hz with ⟨rfl, rfl⟩ | ⟨rfl, rfl⟩ | ⟨rfl, rfl⟩ | ⟨rfl, rfl⟩ <;> omega
theorem Good.below {ok : Nat → Prop} {A B : World} (h : Below A.heap.size A B) (hok : ∀ b, ok b → b < A.heap.size) {v : FV} (g : Good ok A v) : Good ok B v :=
  ⟨g.1, g.2.1, g.2.2.1, fun k x y e => ⟨(h.cell (p := ⟨v.pb, v.po + k * 2, none⟩) (hok _ g.2.1)).trans (g.2.2.2 k x y e).1, (h.cell (p := ⟨v.pb, v.po + k * 2 + 1, none⟩) (hok _ g.2.1)).trans (g.2.2.2 k x y e).2⟩⟩
theorem zeros64 (W : World) (C : Array Value) (hC : C = Array.replicate 64 (.int .i64 0)) (j : Nat) (hj : j < 64) : (W.alloc (.cells C 148)).cell? ⟨W.heap.size, j, none⟩ = some (.int .i64 0) := by
  subst hC
  simp [go_sem, hj]
theorem below_set1 (n : Nat) (w : World) (b o : Nat) (h : n ≤ b) (u : Value) : Below n w (w.setCell ⟨b, o, none⟩ u) := (Below.refl n w).setCell (p := ⟨b, o, none⟩) h u

end Go.Proofs.YtenaepdmlknlcaaGreatDoor

namespace Go.Proofs.YtenaepdmlknlcaaGreatDoor
open Go.RowKit Go.Shelf

end Go.Proofs.YtenaepdmlknlcaaGreatDoor

namespace Go.Proofs.YtenaepdmlknlcaaGreatDoor
open Go.RowKit Go.Shelf

set_option maxRecDepth 100000 in
set_option maxHeartbeats 1000000 in
theorem tz16 (w : World) (h : w.cell? ⟨3, 15, none⟩ = some (.int .u8 4)) :
    Calls Tryz.prog 166 #[.int .u64 16] w fun e w' => e = .returned (.int .i64 4) ∧ w' = w := by
  have h2 : w.cell? ⟨3, (IntKind.u64.wrap (bits BinOp.and IntKind.u64 16 (IntKind.u64.wrap (-16)) * 285870213051353865) / 288230376151711744).toNat, none⟩ = some (.int .u8 4) := by
    rw [show (IntKind.u64.wrap (bits BinOp.and IntKind.u64 16 (IntKind.u64.wrap (-16)) * 285870213051353865) / 288230376151711744).toNat = 15 from by decide +kernel]; exact h
  clear h
  go_enter Tryz.func166, Tryz.ntmps166
  go_wp2
  go_ret
  exact ⟨rfl, rfl⟩

set_option maxHeartbeats 1000000 in
theorem pow16 (w : World) :
    Calls Tryz.prog 165 #[.int .i64 16] w fun e w' => e = .returned (.bool true) ∧ w' = w := by
  go_enter Tryz.func165, Tryz.ntmps165
  go_wp2
  go_ret
  exact ⟨rfl, rfl⟩

end Go.Proofs.YtenaepdmlknlcaaGreatDoor

namespace Go.Proofs.YtenaepdmlknlcaaGreatDoor
open Go.RowKit Go.Shelf

def fbB (m : Nat) : Int := 4294967296 / 16 ^ m
theorem fb_step {m : Nat} {u : Int} (hm : m ≤ 7) (_h0 : 0 ≤ u) (h : u < fbB m) (h16 : 16 ≤ u) : m ≤ 6 ∧ u / 16 < fbB (m + 1) := by
  have hc : m = 0 ∨ m = 1 ∨ m = 2 ∨ m = 3 ∨ m = 4 ∨ m = 5 ∨ m = 6 ∨ m = 7 := by omega
  rcases hc with rfl | rfl | rfl | rfl | rfl | rfl | rfl | rfl <;> simp [fbB] at h ⊢ <;> omega

theorem and15 (u : Int) (h0 : 0 ≤ u) (h : u < 4294967296) : bits BinOp.and IntKind.u64 u 15 = u % 16 := by
  obtain ⟨n, rfl⟩ := Int.eq_ofNat_of_zero_le h0
  have e : (BitVec.ofInt 64 (n : Int) &&& BitVec.ofInt 64 15).toNat = n % 16 := by
    rw [BitVec.toNat_and]
    have h1 : (BitVec.ofInt 64 (n : Int)).toNat = n := by simp; omega
    rw [h1]
    show n &&& 15 = n % 16
    exact Nat.and_two_pow_sub_one_eq_mod n 4
  show IntKind.u64.wrap ((BitVec.ofInt 64 (n : Int) &&& BitVec.ofInt 64 15).toNat : Int) = _
  rw [e]
  simp [IntKind.wrap, IntKind.bits, IntKind.signed]
  omega

theorem bytes_set {W : World} {A : Nat} (h : ∀ j, j < 65 → ∃ c : Int, W.cell? ⟨A, j, none⟩ = some (.int .u8 c) ∧ 0 ≤ c ∧ c < 256) (i : Nat) (b : UInt8) :
    ∀ j, j < 65 → ∃ c : Int, (W.setCell ⟨A, i, none⟩ (.int .u8 (b.toNat : Int))).cell? ⟨A, j, none⟩ = some (.int .u8 c) ∧ 0 ≤ c ∧ c < 256 := fun j hj => by
  obtain ⟨c, hc, hc0, hc1⟩ := h j hj
  by_cases hij : j = i
  · subst hij
    exact ⟨b.toNat, World.cell?_setCell_same _ _ _ hc, by omega, by have := b.toNat_lt; omega⟩
  · exact ⟨c, (World.cell?_setCell_other _ _ _ _ (by intro e; injection e with _ e2 _; exact hij e2.symm)).trans hc, hc0, hc1⟩

theorem zero125 : Tryz.zeroCells280 = Array.replicate 65 (Value.int .u8 0) := by kernel_rfl

theorem repeat0 (c : Nat) (w : World) (hc : c ≤ 8) :
    Calls Tryz.prog 61 #[.string ⟨#[48]⟩, .int .i64 (c : Int)] w fun e w' => e = .returned (.string ⟨(Lib.repeatL [48] c).toArray⟩) ∧ Below w.heap.size w w' := by
  match c, hc with
  | 0, _ => exact (Tryz.strings_Repeat_zero ⟨#[48]⟩ w).mono fun e w' ⟨he, hw⟩ => ⟨he, hw ▸ Below.refl _ _⟩
  | 1, _ => exact (Tryz.strings_Repeat_one ⟨#[48]⟩ w).mono fun e w' ⟨he, hw⟩ => ⟨he, hw ▸ Below.refl _ _⟩
  | n + 2, hc => exact Tryz.strings_Repeat_main ⟨#[48]⟩ (n + 2) w (by omega) (by omega) (by show 1 * (n + 2) ≤ _; omega) (by show 0 < 1; omega)

end Go.Proofs.YtenaepdmlknlcaaGreatDoor

namespace Go.Proofs.YtenaepdmlknlcaaGreatDoor
open Go.RowKit Go.Shelf

/-- A list of features in memory. -/
def FeatsAt (w : World) (b off : Nat) (vs : List FV) : Prop :=
  b < w.heap.size ∧ ∀ (i : Nat) v, vs[i]? = some v → (w.cell? ⟨b, off + i * 5, none⟩ = some (.int .i64 v.f.id) ∧ w.cell? ⟨b, off + i * 5 + 1, none⟩ = some (.int .i64 v.f.kd) ∧ w.cell? ⟨b, off + i * 5 + 2, none⟩ = some (.int .i64 v.f.ht) ∧ w.cell? ⟨b, off + i * 5 + 3, none⟩ = some (.int .i64 v.f.col) ∧ w.cell? ⟨b, off + i * 5 + 4, none⟩ = some (.slice (some ⟨v.pb, v.po, none⟩) v.f.ps.length v.cap)) ∧ Good (· < w.heap.size) w v

theorem zero45 : Tryz.zeroCells138 = Array.replicate 100 (Value.bool false) := by kernel_rfl

theorem tcol_bd (x : Bx) (vs : List FV) (h : ∀ z ∈ vs, validF z.f = true) : 0 ≤ tcol (topOf x vs) ∧ tcol (topOf x vs) < 100 := by
  cases ho : topOf x vs with
  | none => simp [tcol]
  | some u =>
    have := top_valid x vs h u ho
    simp only [validF, Bool.and_eq_true, inB, decide_eq_true_eq] at this
    simp only [tcol]
    omega

theorem FeatsAt.good {w : World} {b off : Nat} {vs : List FV} (h : FeatsAt w b off vs) : ∀ v ∈ vs, Good (· < w.heap.size) w v := fun v hv => by
  obtain ⟨i, hi, rfl⟩ := List.mem_iff_getElem.1 hv
  exact (h.2 i _ (List.getElem?_eq_getElem hi)).2

end Go.Proofs.YtenaepdmlknlcaaGreatDoor

namespace Go.Proofs.YtenaepdmlknlcaaGreatDoor
open Go.RowKit

def FeatsO (w : World) (a : Option Addr) (vs : List FV) : Prop := vs = [] ∨ ∃ b off, a = some ⟨b, off, none⟩ ∧ FeatsAt w b off vs

theorem FeatsAt.below {A B : World} (h : Below A.heap.size A B) {b off : Nat} {vs : List FV} (f : FeatsAt A b off vs) : FeatsAt B b off vs := by
  obtain ⟨hc, _⟩ := bcell h
  refine ⟨Nat.lt_of_lt_of_le f.1 h.size, fun i v e => ?_⟩
  obtain ⟨⟨c0, c1, c2, c3, c4⟩, g1, g2, g3, g4⟩ := f.2 i v e
  exact ⟨⟨(hc _ _ f.1).trans c0, (hc _ _ f.1).trans c1, (hc _ _ f.1).trans c2, (hc _ _ f.1).trans c3, (hc _ _ f.1).trans c4⟩, g1, Nat.lt_of_lt_of_le g2 h.size, g3, fun k x y q => ⟨(hc _ _ g2).trans (g4 k x y q).1, (hc _ _ g2).trans (g4 k x y q).2⟩⟩
theorem FeatsO.below {A B : World} (h : Below A.heap.size A B) {a : Option Addr} {vs : List FV} (f : FeatsO A a vs) : FeatsO B a vs :=
  f.elim .inl fun ⟨b, off, e, p⟩ => .inr ⟨b, off, e, p.below h⟩

theorem FeatsAt.get {w : World} {b off : Nat} {vs : List FV} (h : FeatsAt w b off vs) {k : Nat} {v : FV} (hv : vs[k]? = some v) :
    ∃ (id kd ht col : Int) (pb po n cap : Nat) (ps : Pts), v = ⟨⟨id, kd, ht, col, ps⟩, pb, po, cap⟩ ∧ n = ps.length ∧ w.cell? ⟨b, off + k * 5, none⟩ = some (.int .i64 id) ∧ w.cell? ⟨b, off + k * 5 + 1, none⟩ = some (.int .i64 kd) ∧ w.cell? ⟨b, off + k * 5 + 2, none⟩ = some (.int .i64 ht) ∧ w.cell? ⟨b, off + k * 5 + 3, none⟩ = some (.int .i64 col) ∧ w.cell? ⟨b, off + k * 5 + 4, none⟩ = some (.slice (some ⟨pb, po, none⟩) n cap) ∧ Places w.heap.size w pb po ps ∧ mayB kd n = true ∧ ps.all inW = true ∧ n ≤ cap := by
  obtain ⟨⟨c0, c1, c2, c3, c4⟩, g1, g2, g3, g4⟩ := h.2 k v hv
  obtain ⟨⟨id, kd, ht, col, ps⟩, pb, po, cap⟩ := v
  simp only [validF, Bool.and_eq_true] at g1
  exact ⟨id, kd, ht, col, pb, po, ps.length, cap, ps, rfl, rfl, c0, c1, c2, c3, c4, ⟨g2, g4⟩, g1.1.2, g1.2, g3⟩

end Go.Proofs.YtenaepdmlknlcaaGreatDoor

namespace Go.Proofs.YtenaepdmlknlcaaGreatDoor
open Go.RowKit

def dch (d : Nat) : UInt8 := UInt8.ofNat (if d < 10 then 48 + d else 87 + d)
/-- The digits of a number. -/
def digs (b n : Nat) : List UInt8 := if _h : n < b ∨ b < 2 then [dch n] else digs b (n / b) ++ [dch (n % b)]
termination_by n
decreasing_by exact Nat.div_lt_self (by omega) (by omega)
end Go.Proofs.YtenaepdmlknlcaaGreatDoor

namespace Go.Proofs.YtenaepdmlknlcaaGreatDoor
open Go.RowKit

theorem xor_u32 (a b : Nat) (ha : a < 4294967296) (hb : b < 4294967296) : bits BinOp.xor IntKind.u32 (a : Int) (b : Int) = ((a ^^^ b : Nat) : Int) := by
  have e : (BitVec.ofInt 32 (a : Int) ^^^ BitVec.ofInt 32 (b : Int)).toNat = a ^^^ b := by
    rw [BitVec.toNat_xor]
    have h1 : (BitVec.ofInt 32 (a : Int)).toNat = a := by simp; omega
    have h2 : (BitVec.ofInt 32 (b : Int)).toNat = b := by simp; omega
    rw [h1, h2]
  have hx : a ^^^ b < 4294967296 := Nat.xor_lt_two_pow (n := 32) ha hb
  show IntKind.u32.wrap ((BitVec.ofInt 32 (a : Int) ^^^ BitVec.ofInt 32 (b : Int)).toNat : Int) = _
  rw [e]
  simp [IntKind.wrap, IntKind.bits, IntKind.signed]
  omega
/-- One bit of the program's sum. -/
def pstep (v : Nat) : Nat := if v % 2 = 1 then (v / 2) ^^^ 3988292384 else v / 2
def psteps : Nat → Nat → Nat
  | 0, v => v
  | j + 1, v => pstep (psteps j v)
theorem pstep_lt {v : Nat} (h : v < 4294967296) : pstep v < 4294967296 := by
  unfold pstep
  split
  · exact Nat.xor_lt_two_pow (n := 32) (by omega) (by decide)
  · omega
theorem psteps_lt {v : Nat} (h : v < 4294967296) : ∀ j, psteps j v < 4294967296
  | 0 => h
  | j + 1 => pstep_lt (psteps_lt h j)
/-- The sum of the bytes so far. -/
def crcN (l : List UInt8) : Nat := l.foldl (fun v c => psteps 8 (v ^^^ c.toNat)) 4294967295
theorem crcN_snoc (l : List UInt8) (c : UInt8) : crcN (l ++ [c]) = psteps 8 (crcN l ^^^ c.toNat) := by simp [crcN, List.foldl_append]
theorem crcN_fold_lt (l : List UInt8) : ∀ v, v < 4294967296 → l.foldl (fun v c => psteps 8 (v ^^^ c.toNat)) v < 4294967296 := by
  induction l with
  | nil => exact fun v h => h
  | cons c r ih =>
    intro v h
    exact ih _ (psteps_lt (Nat.xor_lt_two_pow (n := 32) h (by have := c.toNat_lt; omega)) 8)
theorem crcN_lt (l : List UInt8) : crcN l < 4294967296 := crcN_fold_lt l _ (by decide)
def sumN (l : List UInt8) : Nat := 4294967295 - crcN l
theorem sumN_lt (l : List UInt8) : sumN l < 4294967296 := by unfold sumN; omega
theorem xor_ones (v : Nat) (h : v < 4294967296) : 4294967295 ^^^ v = 4294967295 - v := by
  have e : (~~~ (BitVec.ofNat 32 v)).toNat = 4294967295 - v := by
    rw [BitVec.toNat_not, BitVec.toNat_ofNat, Nat.mod_eq_of_lt (by simpa using h)]
  rw [← e, ← BitVec.allOnes_xor, BitVec.toNat_xor, BitVec.toNat_ofNat, Nat.mod_eq_of_lt (by simpa using h)]
  rfl

end Go.Proofs.YtenaepdmlknlcaaGreatDoor

namespace Go.Proofs.YtenaepdmlknlcaaGreatDoor
open Go.RowKit Go.Shelf

theorem and_u32 (a : Nat) (ha : a < 4294967296) : bits BinOp.and IntKind.u32 (a : Int) 1 = ((a % 2 : Nat) : Int) := by
  have e : (BitVec.ofInt 32 (a : Int) &&& BitVec.ofInt 32 1).toNat = a % 2 := by
    rw [BitVec.toNat_and]
    have h1 : (BitVec.ofInt 32 (a : Int)).toNat = a := by simp; omega
    rw [h1]
    show a &&& 1 = a % 2
    exact Nat.and_two_pow_sub_one_eq_mod a 1
  show IntKind.u32.wrap ((BitVec.ofInt 32 (a : Int) &&& BitVec.ofInt 32 1).toNat : Int) = _
  rw [e]
  simp [IntKind.wrap, IntKind.bits, IntKind.signed]
  omega

theorem int_u32 {a b : Int} (h : a = b) : Value.int .u32 a = .int .u32 b := by rw [h]
theorem bytes_take (s : ByteArray) (k : Nat) (h : k < s.size) : s.data.toList.take (k + 1) = s.data.toList.take k ++ [s[k]] := by
  rw [List.take_add_one]
  have : s.data.toList[k]? = some s[k] := by
    rw [List.getElem?_eq_getElem (by simpa using h)]
    rfl
  rw [this]; rfl

set_option maxRecDepth 100000 in
set_option maxHeartbeats 2000000 in
theorem sum_ex (s : ByteArray) (w : World) (hs : s.size ≤ 1000000) :
    Calls Tryz.prog 60 #[.string s] w fun e w' => e = .returned (.int .u32 ((sumN s.data.toList : Nat) : Int)) ∧ w' = w := by
  go_enter Tryz.func60, Tryz.ntmps60
  go_wp2
  go_loop [3, 8] (fun v i => ∃ (k : Nat) (u : Nat), k ≤ s.size ∧ i = .int .i64 k ∧ v = .int .u32 (u : Int) ∧ Hid (u = crcN (s.data.toList.take k))) (fun _ i => s.size - (intOf i).toNat)
  case atStart => exact ⟨0, 4294967295, by omega, rfl, rfl, by show _ = crcN _; simp [crcN]⟩
  case round =>
    obtain ⟨k, u, hk, rfl, rfl, HU⟩ := hrel
    have hu : u < 4294967296 := by rw [HU.out]; exact crcN_lt _
    by_cases hlt : k < s.size
    · have HB : Hid (crcN (s.data.toList.take (k + 1)) = psteps 8 (u ^^^ s[k].toNat)) := by
        show crcN _ = _
        rw [bytes_take s k hlt, crcN_snoc, ← HU.out]
      have HX : Hid (bits BinOp.xor IntKind.u32 (u : Int) ((s[k].toNat : Int) % 4294967296) = ((u ^^^ s[k].toNat : Nat) : Int)) := by
        show bits _ _ _ _ = _
        have := s[k].toNat_lt
        rw [show (s[k].toNat : Int) % 4294967296 = ((s[k].toNat : Nat) : Int) by omega, xor_u32 _ _ hu (by omega)]
      have hv : u ^^^ s[k].toNat < 4294967296 := Nat.xor_lt_two_pow (n := 32) hu (by have := s[k].toNat_lt; omega)
      obtain ⟨v, hvv⟩ : ∃ v, u ^^^ s[k].toNat = v := ⟨_, rfl⟩
      rw [hvv] at HB HX hv
      clear hvv HU
      go_wp2
      go_loop [3, 17] (fun x i => ∃ (j : Nat) (y : Nat), j ≤ 8 ∧ i = .int .i64 j ∧ x = .int .u32 (y : Int) ∧ Hid (y = psteps j v)) (fun _ i => 8 - (intOf i).toNat)
      case atStart => exact ⟨0, v, by omega, rfl, int_u32 HX.out, rfl⟩
      case round =>
        obtain ⟨j, y, hj, rfl, rfl, HY⟩ := hrel
        have hy : y < 4294967296 := by rw [HY.out]; exact psteps_lt hv _
        by_cases hlt2 : j < 8
        · have HS : Hid (psteps (j + 1) v = pstep y) := by show psteps (j + 1) v = _; rw [psteps, HY.out]
          have hand := and_u32 y hy
          by_cases hp : y % 2 = 1
          · rw [hp] at hand
            have HS2 : Hid (bits BinOp.xor IntKind.u32 ((y : Int) / 2) 3988292384 = ((psteps (j + 1) v : Nat) : Int)) := by
              show bits _ _ _ _ = _
              rw [HS.out, pstep, if_pos hp, show (y : Int) / 2 = ((y / 2 : Nat) : Int) by omega, show (3988292384 : Int) = ((3988292384 : Nat) : Int) by rfl, xor_u32 _ _ (by omega) (by decide)]
            clear HY HS hp
            go_wp2
            exact ⟨⟨j + 1, _, by omega, by go_num, int_u32 HS2.out, rfl⟩, by simp [intOf]; omega⟩
          · rw [show y % 2 = 0 by omega] at hand
            have HS2 : Hid (((y : Int) / 2) = ((psteps (j + 1) v : Nat) : Int)) := by
              show _ = _
              rw [HS.out, pstep, if_neg hp]
              omega
            clear HY HS hp
            go_wp2
            exact ⟨⟨j + 1, _, by omega, by go_num, int_u32 HS2.out, rfl⟩, by simp [intOf]; omega⟩
        · have HE : Hid (y = crcN (s.data.toList.take (k + 1))) := by
            show y = _
            rw [HB.out, HY.out, show j = 8 by omega]
          go_wp2
          go_round
          case rel => exact ⟨k + 1, y, by omega, by go_num, rfl, HE⟩
          case measure => simp [intOf]; omega
    · have HE : Hid (bits BinOp.xor IntKind.u32 IntKind.u32.max (u : Int) = ((sumN s.data.toList : Nat) : Int)) := by
        show bits _ _ _ _ = _
        have h1 : u = crcN s.data.toList := by
          rw [HU.out, show k = s.data.toList.length by simp only [Array.length_toList]; show k = s.size; omega, List.take_length]
        rw [show IntKind.u32.max = ((4294967295 : Nat) : Int) by rfl, xor_u32 _ _ (by decide) hu, xor_ones u hu, sumN, h1]
      clear HU
      go_wp2
      go_ret
      exact ⟨congrArg Ending.returned (int_u32 HE.out), rfl⟩

end Go.Proofs.YtenaepdmlknlcaaGreatDoor

namespace Go.Proofs.YtenaepdmlknlcaaGreatDoor
open Go.RowKit Go.Shelf

end Go.Proofs.YtenaepdmlknlcaaGreatDoor

namespace Go.Proofs.YtenaepdmlknlcaaGreatDoor
open Go.RowKit Go.Shelf

/-- Eight digits at least. -/
def padN (d : List UInt8) : List UInt8 := List.replicate (8 - d.length) 48 ++ d
def markN (l : List UInt8) : List UInt8 := padN (digs 16 (sumN l))

theorem ret_str {a b : List UInt8} (h : a = b) : Ending.returned (.string ⟨a.toArray⟩) = .returned (.string ⟨b.toArray⟩) := by rw [h]

end Go.Proofs.YtenaepdmlknlcaaGreatDoor
