import Derived.Test.YtenaepdmlknlcaaGreatDoorF06
import Derived.WalkLawsBesides
import Derived.Laws.FloatArith
import Derived.Deep.RegionHeld3
import Derived.Deep.QuietTactic
import Derived.BigQuiet
import Derived.Test.YtenaepdmlknlcaaGreatDoorF13
namespace Go.Proofs.YtenaepdmlknlcaaGreatDoor
open Go.RowKit

/-- A finite number that is not too great: what stands before 2 ^ place has 24 digits at most, and place is P at most. -/
def Fin32 (P : Int) (b : Nat) : Prop := ∃ s m p, Ieee.single.read b = .number s m p ∧ m < 2 ^ 24 ∧ p ≤ P

theorem cut_le (neg : Bool) (n drop k : Nat) (h : n < 2 ^ (k + drop)) : Ieee.Toward.even.cut neg n drop ≤ 2 ^ k := by
  unfold Ieee.Toward.cut
  simp only [Nat.one_shiftLeft]
  have hlow : n / 2 ^ min drop (n.log2 + 2) < 2 ^ k ∨ n / 2 ^ min drop (n.log2 + 2) = 0 := by
    by_cases hd : drop ≤ n.log2 + 2
    · rw [Nat.min_eq_left hd]
      left
      rw [Nat.div_lt_iff_lt_mul (Nat.two_pow_pos _), ← Nat.pow_add]
      exact h
    · rw [Nat.min_eq_right (by omega)]
      right
      apply Nat.div_eq_of_lt
      exact Nat.lt_of_lt_of_le Nat.lt_log2_self (Nat.pow_le_pow_right (by decide) (by omega))
  have hpos := Nat.two_pow_pos k
  have hb : ∀ b : Bool, b.toNat ≤ 1 := fun b => by cases b <;> decide
  have := hb (decide (2 ^ min drop (n.log2 + 2) < 2 * (n % 2 ^ min drop (n.log2 + 2))) || (2 ^ min drop (n.log2 + 2) == 2 * (n % 2 ^ min drop (n.log2 + 2)) && n / 2 ^ min drop (n.log2 + 2) % 2 == 1))
  omega

theorem read_word (neg : Bool) (rung : Nat) (h : rung < 255 * 2 ^ 23) : Ieee.single.read (Ieee.single.word neg rung) = if rung < 2 ^ 23 then .number neg rung (-149) else .number neg (2 ^ 23 + rung % 2 ^ 23) (-149 + (rung / 2 ^ 23 - 1 : Nat)) := by
  have e1 : Ieee.single.signWeight = 2147483648 := by rfl
  have e2 : Ieee.single.binade = 2 ^ 23 := by rfl
  have e3 : Ieee.single.infRung = 255 * 2 ^ 23 := by rfl
  have e4 : Ieee.single.leastPlace = -149 := by rfl
  have hr : rung < 2147483648 := Nat.lt_trans h (by decide)
  have a1 : (Ieee.single.word neg rung) / Ieee.single.signWeight % 2 = if neg then 1 else 0 := by
    unfold Ieee.Format.word
    rw [e1]
    cases neg
    · simp; omega
    · simp; omega
  have a2 : (Ieee.single.word neg rung) % Ieee.single.signWeight = rung := by
    unfold Ieee.Format.word
    rw [e1]
    cases neg
    · simp; omega
    · simp; omega
  have a3 : ((Ieee.single.word neg rung) / Ieee.single.signWeight % 2 == 1) = neg := by rw [a1]; cases neg <;> rfl
  unfold Ieee.Format.read
  simp only [a2, a3, e2, e3, e4, if_pos h]

theorem nearest_fin (neg : Bool) (mag : Nat) (place : Int) (L : Int) (hL : place + mag.log2 ≤ L) (hL2 : L ≤ 100) (hL3 : -100 ≤ L) : Fin32 (L - 21) (Ieee.single.nearest neg mag place) := by
  unfold Ieee.Format.nearest
  by_cases h0 : mag = 0
  · rw [if_pos h0]
    have := read_word neg 0 (by decide)
    rw [if_pos (by decide)] at this
    exact ⟨neg, 0, -149, this, by decide, by omega⟩
  rw [if_neg h0]
  have e2 : Ieee.single.binade = 2 ^ 23 := by rfl
  have e3 : Ieee.single.infRung = 255 * 2 ^ 23 := by rfl
  have e4 : Ieee.single.leastPlace = -149 := by rfl
  have e5 : (Ieee.single.fractionBits : Int) = 23 := by rfl
  simp only [e2, e3, e4, e5]
  obtain ⟨last, hlast⟩ : ∃ last, last = max (place + (mag.log2 : Int) - 23) (-149) := ⟨_, rfl⟩
  rw [← hlast]
  have hmag : mag < 2 ^ (mag.log2 + 1) := Nat.lt_log2_self
  have hkept : Ieee.Toward.even.cut neg (mag <<< (place - last).toNat) (last - place).toNat ≤ 2 ^ 24 := by
    apply cut_le
    rw [Nat.shiftLeft_eq]
    by_cases hc : last ≤ place
    · have : (last - place).toNat = 0 := by omega
      rw [this, Nat.add_zero]
      calc mag * 2 ^ (place - last).toNat < 2 ^ (mag.log2 + 1) * 2 ^ (place - last).toNat := Nat.mul_lt_mul_of_pos_right hmag (Nat.two_pow_pos _)
        _ = 2 ^ (mag.log2 + 1 + (place - last).toNat) := (Nat.pow_add 2 _ _).symm
        _ ≤ 2 ^ 24 := Nat.pow_le_pow_right (by decide) (by omega)
    · have : (place - last).toNat = 0 := by omega
      rw [this, Nat.pow_zero, Nat.mul_one]
      exact Nat.lt_of_lt_of_le hmag (Nat.pow_le_pow_right (by decide) (by omega))
  generalize Ieee.Toward.even.cut neg (mag <<< (place - last).toNat) (last - place).toNat = kept at *
  obtain ⟨A, hA⟩ : ∃ A : Nat, A = (last - -149).toNat := ⟨_, rfl⟩
  have hA2 : (A : Int) ≤ max (L + 126) 0 := by omega
  rw [← hA]
  have hk : kept ≤ 2 * 2 ^ 23 := by simpa using hkept
  have hrung : A * 2 ^ 23 + kept ≤ (A + 2) * 2 ^ 23 := by rw [Nat.add_mul]; omega
  have hA3 : A + 2 ≤ 228 := by omega
  have hlt : A * 2 ^ 23 + kept < 255 * 2 ^ 23 := Nat.lt_of_le_of_lt hrung (Nat.lt_of_le_of_lt (Nat.mul_le_mul_right _ hA3) (by decide))
  rw [Nat.min_eq_left (Nat.le_of_lt hlt)]
  obtain ⟨R, hR⟩ : ∃ R, R = A * 2 ^ 23 + kept := ⟨_, rfl⟩
  rw [← hR] at hlt hrung ⊢
  have hq : R / 2 ^ 23 ≤ A + 2 := Nat.div_le_of_le_mul (by rw [Nat.mul_comm]; exact hrung)
  have hm := Nat.mod_lt R (Nat.two_pow_pos 23)
  rw [Fin32, read_word neg R hlt]
  by_cases hr : R < 2 ^ 23
  · rw [if_pos hr]
    exact ⟨neg, R, -149, rfl, Nat.lt_trans hr (by decide), by omega⟩
  · rw [if_neg hr]
    refine ⟨neg, _, _, rfl, ?_, ?_⟩
    · have : (2 : Nat) ^ 24 = 2 ^ 23 + 2 ^ 23 := by decide
      omega
    · omega

theorem log2_le {n k : Nat} (h : n < 2 ^ (k + 1)) : n.log2 ≤ k := by
  by_cases h0 : n = 0
  · subst h0; simp [Nat.log2_zero]
  · exact Nat.le_of_lt_succ ((Nat.log2_lt h0).2 h)

theorem ofInt_fin (n : Int) (h1 : -1000 ≤ n) (h2 : n ≤ 1000) : Fin32 (-12) (floatOfInt .f32 n) := by
  have : n.natAbs.log2 ≤ 9 := log2_le (by omega)
  exact nearest_fin (n < 0) n.natAbs 0 9 (by omega) (by decide) (by decide)

theorem mul_fin {x y : Nat} (hx : Fin32 (-12) x) (hy : Fin32 (-12) y) : ∃ r, Ieee.single.mul x y = some r ∧ Fin32 2 r := by
  obtain ⟨s, m, p, e, hm, hp⟩ := hx
  obtain ⟨s', m', p', e', hm', hp'⟩ := hy
  refine ⟨_, by unfold Ieee.Format.mul; rw [e, e']; rfl, ?_⟩
  have h48 : m * m' < 2 ^ (47 + 1) := by
    rw [show (2 : Nat) ^ (47 + 1) = 2 ^ 24 * 2 ^ 24 by decide]
    exact Nat.mul_lt_mul'' hm hm'
  have := log2_le h48
  exact nearest_fin _ (m * m') (p + p') 23 (by omega) (by decide) (by decide)
theorem sub_some {P Q : Int} {x y : Nat} (hx : Fin32 P x) (hy : Fin32 Q y) : ∃ r, Ieee.single.sub x y = some r := by
  obtain ⟨s, m, p, e, hm, hp⟩ := hx
  obtain ⟨s', m', p', e', hm', hp'⟩ := hy
  exact ⟨_, by unfold Ieee.Format.sub; rw [e, e']; rfl⟩

set_option maxHeartbeats 1000000 in
theorem size_any (l t r b : Int) (w : World) (h1 : 0 ≤ l) (h2 : 0 ≤ t) (h3 : 0 ≤ r) (h4 : 0 ≤ b) (g1 : l ≤ 300) (g2 : t ≤ 300) (g3 : r ≤ 300) (g4 : b ≤ 300) :
    Calls Tryz.prog 157 #[.agg #[.int .i64 l, .int .i64 t, .int .i64 r, .int .i64 b]] w fun e w' => (∃ f, e = .returned (.float .f32 f) ∧ Fin32 2 f) ∧ Below w.heap.size w w' := by
  obtain ⟨x, hx, HX⟩ := mul_fin (ofInt_fin (r - l + 1) (by omega) (by omega)) (ofInt_fin (b - t + 1) (by omega) (by omega))
  have hrun : ∀ W : World, Sem.run Tryz.prog (binOp BinOp.mul 237 (.float .f32 (floatOfInt .f32 (r - l + 1))) (.float .f32 (floatOfInt .f32 (b - t + 1)))) W = .ok (.float .f32 x) W := fun W => run_float_arith W BinOp.mul 114 .f32 _ _ x hx
  have HF : Hid (Fin32 2 x) := HX
  clear HX hx
  go_enter Tryz.func157, Tryz.ntmps157
  go_wp2
  go_ret
  exact ⟨⟨x, rfl, HF.out⟩, (Below.refl _ _).alloc (Nat.le_refl _) _⟩

end Go.Proofs.YtenaepdmlknlcaaGreatDoor

namespace Go.Proofs.YtenaepdmlknlcaaGreatDoor
open Go.RowKit

/-- A box within the world. -/
structure BxW (x : Bx) : Prop where
  l0 : 0 ≤ x.l
  t0 : 0 ≤ x.t
  r0 : 0 ≤ x.r
  b0 : 0 ≤ x.b
  l1 : x.l ≤ 300
  t1 : x.t ≤ 300
  r1 : x.r ≤ 300
  b1 : x.b ≤ 300
theorem BxW.join {x y : Bx} (h : BxW x) (k : BxW y) : BxW (x.join y) := by
  obtain ⟨a1, a2, a3, a4, a5, a6, a7, a8⟩ := h
  obtain ⟨b1, b2, b3, b4, b5, b6, b7, b8⟩ := k
  constructor <;> simp only [Bx.join, mnZ, mxZ] <;> omega

theorem keep8 {A B : World} {N n m : Nat} (hb : Below N A B) (hn : n < N) (hm : m < N) {v0 v1 v2 v3 u0 u1 u2 u3 : Value}
    (s : A.cell? ⟨n, 0, none⟩ = some v0 ∧ A.cell? ⟨n, 1, none⟩ = some v1 ∧ A.cell? ⟨n, 2, none⟩ = some v2 ∧ A.cell? ⟨n, 3, none⟩ = some v3 ∧ A.cell? ⟨m, 0, none⟩ = some u0 ∧ A.cell? ⟨m, 1, none⟩ = some u1 ∧ A.cell? ⟨m, 2, none⟩ = some u2 ∧ A.cell? ⟨m, 3, none⟩ = some u3) :
    B.cell? ⟨n, 0, none⟩ = some v0 ∧ B.cell? ⟨n, 1, none⟩ = some v1 ∧ B.cell? ⟨n, 2, none⟩ = some v2 ∧ B.cell? ⟨n, 3, none⟩ = some v3 ∧ B.cell? ⟨m, 0, none⟩ = some u0 ∧ B.cell? ⟨m, 1, none⟩ = some u1 ∧ B.cell? ⟨m, 2, none⟩ = some u2 ∧ B.cell? ⟨m, 3, none⟩ = some u3 := by
  obtain ⟨hc, _⟩ := bcell hb
  obtain ⟨a0, a1, a2, a3, a4, a5, a6, a7⟩ := s
  exact ⟨(hc _ _ hn).trans a0, (hc _ _ hn).trans a1, (hc _ _ hn).trans a2, (hc _ _ hn).trans a3, (hc _ _ hm).trans a4, (hc _ _ hm).trans a5, (hc _ _ hm).trans a6, (hc _ _ hm).trans a7⟩

set_option maxRecDepth 100000 in
set_option maxHeartbeats 2000000 in
theorem Growth_any (x y : Bx) (w : World) (hx : BxW x) (hy : BxW y) :
    Calls Tryz.prog 124 #[.agg #[.int .i64 x.l, .int .i64 x.t, .int .i64 x.r, .int .i64 x.b], .agg #[.int .i64 y.l, .int .i64 y.t, .int .i64 y.r, .int .i64 y.b]] w fun e w' => (∃ f, e = .returned (.float .f32 f)) ∧ Below w.heap.size w w' := by
  have hB : ∀ o1 o2 : Obj, Below w.heap.size w ((w.alloc o1).alloc o2) := fun o1 o2 => ((Below.refl _ _).alloc (Nat.le_refl _) _).alloc (by simp) _
  obtain ⟨l, t, r, b⟩ := x
  obtain ⟨l', t', r', b'⟩ := y
  have hj : BxW ⟨mnZ l l', mnZ t t', mxZ r r', mxZ b b'⟩ := hx.join hy
  have HS : Hid (∀ (l t r b : Int) (W : World), BxW ⟨l, t, r, b⟩ → Calls Tryz.prog 157 #[.agg #[.int .i64 l, .int .i64 t, .int .i64 r, .int .i64 b]] W fun e w' => (∃ f, e = .returned (.float .f32 f) ∧ Fin32 2 f) ∧ Below W.heap.size W w') := fun l t r b W h => size_any _ _ _ _ W h.1 h.2 h.3 h.4 h.5 h.6 h.7 h.8
  dsimp only
  clear hy
  go_enter Tryz.func124, Tryz.ntmps124
  go_upto_region 1 with fail
  go_region_held3 (fun w' => w'.cell? ⟨w.heap.size, 0, none⟩ = some (.int .i64 l) ∧ w'.cell? ⟨w.heap.size, 1, none⟩ = some (.int .i64 t) ∧ w'.cell? ⟨w.heap.size, 2, none⟩ = some (.int .i64 r) ∧ w'.cell? ⟨w.heap.size, 3, none⟩ = some (.int .i64 b) ∧ w'.cell? ⟨w.heap.size + 1, 0, none⟩ = some (.int .i64 l') ∧ w'.cell? ⟨w.heap.size + 1, 1, none⟩ = some (.int .i64 t') ∧ w'.cell? ⟨w.heap.size + 1, 2, none⟩ = some (.int .i64 r') ∧ w'.cell? ⟨w.heap.size + 1, 3, none⟩ = some (.int .i64 b')) (first | exact s4 | exact s3 | exact s2 | (simp [go_sem, *]; done))
    (first
    | (go_at_call 86; refine (Join_any l t r b l' t' r' b' _).mono ?_; rintro e w2 ⟨rfl, hb2⟩; have hz2 : w.heap.size + 2 ≤ w2.heap.size := (by have := hb2.size; simp at this; omega); have s2 := keep8 (n := w.heap.size) (m := w.heap.size + 1) hb2 (by simp <;> omega) (by simp <;> omega) (by assumption))
    | (go_at_call 157; refine Calls.mono (HS.out _ _ _ _ _ hj) ?_; rintro e w3 ⟨⟨f1, rfl, hf1⟩, hb3⟩; have hz3 : w.heap.size + 2 ≤ w3.heap.size := (by have := hb3.size; omega); have s3 := keep8 (n := w.heap.size) (m := w.heap.size + 1) hb3 (by omega) (by omega) (by assumption))
    | (go_at_call 157; refine Calls.mono (HS.out _ _ _ _ _ hx) ?_; rintro e w4 ⟨⟨f2, rfl, hf2⟩, hb4⟩; have s4 := keep8 (n := w.heap.size) (m := w.heap.size + 1) hb4 (by omega) (by omega) (by assumption); obtain ⟨y, hy⟩ := sub_some hf1 hf2; have hrun : ∀ W : World, Sem.run Tryz.prog (binOp BinOp.sub 237 (.float .f32 f1) (.float .f32 f2)) W = .ok (.float .f32 y) W := (fun W => run_float_arith W BinOp.sub 114 .f32 _ _ y hy)))
  go_wp2
  go_ret
  exact ⟨⟨y, rfl⟩, (((hB _ _).drew.trans (hb2.mono (by simp; omega))).trans (hb3.mono (by omega))).trans (hb4.mono (by omega))⟩

theorem keep9 {A B : World} {N n m k o : Nat} (hb : Below N A B) (hn : n < N) (hm : m < N) (hk : k < N) {v0 v1 v2 v3 u0 u1 u2 u3 x : Value}
    (s : A.cell? ⟨n, 0, none⟩ = some v0 ∧ A.cell? ⟨n, 1, none⟩ = some v1 ∧ A.cell? ⟨n, 2, none⟩ = some v2 ∧ A.cell? ⟨n, 3, none⟩ = some v3 ∧ A.cell? ⟨m, 0, none⟩ = some u0 ∧ A.cell? ⟨m, 1, none⟩ = some u1 ∧ A.cell? ⟨m, 2, none⟩ = some u2 ∧ A.cell? ⟨m, 3, none⟩ = some u3 ∧ A.cell? ⟨k, o, none⟩ = some x) :
    B.cell? ⟨n, 0, none⟩ = some v0 ∧ B.cell? ⟨n, 1, none⟩ = some v1 ∧ B.cell? ⟨n, 2, none⟩ = some v2 ∧ B.cell? ⟨n, 3, none⟩ = some v3 ∧ B.cell? ⟨m, 0, none⟩ = some u0 ∧ B.cell? ⟨m, 1, none⟩ = some u1 ∧ B.cell? ⟨m, 2, none⟩ = some u2 ∧ B.cell? ⟨m, 3, none⟩ = some u3 ∧ B.cell? ⟨k, o, none⟩ = some x := by
  obtain ⟨hc, _⟩ := bcell hb
  obtain ⟨a0, a1, a2, a3, a4, a5, a6, a7, a8⟩ := s
  exact ⟨(hc _ _ hn).trans a0, (hc _ _ hn).trans a1, (hc _ _ hn).trans a2, (hc _ _ hn).trans a3, (hc _ _ hm).trans a4, (hc _ _ hm).trans a5, (hc _ _ hm).trans a6, (hc _ _ hm).trans a7, (hc _ _ hk).trans a8⟩

set_option maxRecDepth 100000 in
set_option maxHeartbeats 2000000 in
theorem leastGrowth_any (kb ko n cap : Nat) (ks : Kids) (y : Bx) (w : World) (hk : KidsAt w.heap.size w kb ko ks) (hn : n = ks.length) (hn1 : 1 ≤ n) (hn2 : n ≤ 1000) (hw : ∀ k ∈ ks, BxW k.2) (hy : BxW y) :
    Calls Tryz.prog 89 #[.slice (some ⟨kb, ko, none⟩) n cap, .agg #[.int .i64 y.l, .int .i64 y.t, .int .i64 y.r, .int .i64 y.b]] w fun e w' => (∃ i : Nat, i < n ∧ e = .returned (.int .i64 (i : Int))) ∧ Below w.heap.size w w' := by
  have hB : ∀ o1 : Obj, Below w.heap.size w (w.alloc o1) := fun o1 => (Below.refl _ _).alloc (Nat.le_refl _) _
  obtain ⟨l', t', r', b'⟩ := y
  have Hk : Hid (KidsAt w.heap.size w kb ko ks) := hk
  have Hn : Hid (n = ks.length) := hn
  have HG : Hid (∀ (l t r b : Int) (W : World), BxW ⟨l, t, r, b⟩ → Calls Tryz.prog 124 #[.agg #[.int .i64 l, .int .i64 t, .int .i64 r, .int .i64 b], .agg #[.int .i64 l', .int .i64 t', .int .i64 r', .int .i64 b']] W fun e w' => (∃ f, e = .returned (.float .f32 f)) ∧ Below W.heap.size W w') := fun l t r b W h => Growth_any ⟨l, t, r, b⟩ ⟨l', t', r', b'⟩ W h hy
  have HW : Hid (∀ k ∈ ks, BxW k.2) := hw
  have hkb := hk.1
  obtain ⟨q0, x0, he0, hp0, hq0, hc0⟩ := hk.at (i := 0) (by omega)
  have hx0 : BxW x0 := hw _ (List.mem_of_getElem? he0)
  obtain ⟨l, t, r, b⟩ := x0
  obtain ⟨a0, a1, a2, a3⟩ := hc0
  dsimp only at a0 a1 a2 a3
  simp only [Nat.add_zero] at hp0
  clear hk hn hw hy he0
  dsimp only
  have hnI : 0 < n := by omega
  go_enter Tryz.func89, Tryz.ntmps89
  go_upto_region 1 with fail
  go_region_held3 (fun w' => w'.cell? ⟨w.heap.size, 0, none⟩ = some (.int .i64 l') ∧ w'.cell? ⟨w.heap.size, 1, none⟩ = some (.int .i64 t') ∧ w'.cell? ⟨w.heap.size, 2, none⟩ = some (.int .i64 r') ∧ w'.cell? ⟨w.heap.size, 3, none⟩ = some (.int .i64 b') ∧ w'.cell? ⟨q0, 0, none⟩ = some (.int .i64 l) ∧ w'.cell? ⟨q0, 1, none⟩ = some (.int .i64 t) ∧ w'.cell? ⟨q0, 2, none⟩ = some (.int .i64 r) ∧ w'.cell? ⟨q0, 3, none⟩ = some (.int .i64 b) ∧ w'.cell? ⟨kb, ko, none⟩ = some (.pointer (some ⟨q0, 0, none⟩))) (first | exact s2 | (simp [go_sem, *]; done))
    (first
    | (go_at_call 124; refine Calls.mono (HG.out _ _ _ _ _ hx0) ?_; rintro e w2 ⟨⟨f1, rfl⟩, hb2⟩; have hz2 : w.heap.size + 1 ≤ w2.heap.size := (by have := hb2.size; simp at this; omega); have s2 := keep9 (n := w.heap.size) (m := q0) (k := kb) (o := ko) hb2 (by simp <;> omega) (by simp <;> omega) (by simp <;> omega) (by assumption)))
  have hB2 : Below w.heap.size w w2 := (hB _).drew.trans (hb2.mono (by simp))
  obtain ⟨e0, e1, e2, e3, _⟩ := s2
  clear a0 a1 a2 a3 hp0 hq0 hx0
  go_wp2
  go_loopw [5, 6, 20] (fun bv lv iv wr => ∃ (i j f : Nat), i ≤ n ∧ j < n ∧ iv = .int .i64 (i : Int) ∧ bv = .int .i64 (j : Int) ∧ lv = .float .f32 f ∧ wr.cell? ⟨w.heap.size, 0, none⟩ = some (.int .i64 l') ∧ wr.cell? ⟨w.heap.size, 1, none⟩ = some (.int .i64 t') ∧ wr.cell? ⟨w.heap.size, 2, none⟩ = some (.int .i64 r') ∧ wr.cell? ⟨w.heap.size, 3, none⟩ = some (.int .i64 b') ∧ Below w.heap.size w wr ∧ w.heap.size < wr.heap.size) (fun _ _ iv _ => n - (intOf iv).toNat)
  case atStart => exact ⟨0, 0, f1, by omega, by omega, rfl, rfl, rfl, e0, e1, e2, e3, hB2, by omega⟩
  case round =>
    clear e0 e1 e2 e3 hB2 hb2 hz2
    obtain ⟨i, j, f, hi, hj, rfl, rfl, rfl, e0, e1, e2, e3, hBw, hs⟩ := hrel
    by_cases hlt : i < n
    · have HkR := Hk.out.below hBw
      obtain ⟨q, x, hqx, hp, hq, hc⟩ := HkR.at (i := i) (by rw [← Hn.out]; exact hlt)
      have hx : BxW x := HW.out _ (List.mem_of_getElem? hqx)
      obtain ⟨l, t, r, b⟩ := x
      obtain ⟨a0, a1, a2, a3⟩ := hc
      dsimp only at a0 a1 a2 a3
      clear HkR hqx
      have hi3 : (i : Int) < (n : Int) := by omega
      go_upto_region 5 with fail
      go_region_held3 (fun w' => w'.cell? ⟨w.heap.size, 0, none⟩ = some (.int .i64 l') ∧ w'.cell? ⟨w.heap.size, 1, none⟩ = some (.int .i64 t') ∧ w'.cell? ⟨w.heap.size, 2, none⟩ = some (.int .i64 r') ∧ w'.cell? ⟨w.heap.size, 3, none⟩ = some (.int .i64 b') ∧ w'.cell? ⟨q, 0, none⟩ = some (.int .i64 l) ∧ w'.cell? ⟨q, 1, none⟩ = some (.int .i64 t) ∧ w'.cell? ⟨q, 2, none⟩ = some (.int .i64 r) ∧ w'.cell? ⟨q, 3, none⟩ = some (.int .i64 b) ∧ w'.cell? ⟨kb, ko + i, none⟩ = some (.pointer (some ⟨q, 0, none⟩))) (first | exact s2 | (simp [go_sem, *]; done))
        (first
        | (go_at_call 124; refine Calls.mono (HG.out _ _ _ _ _ hx) ?_; rintro e w2 ⟨⟨f2, rfl⟩, hb2⟩; have hz2 : wr.heap.size ≤ w2.heap.size := (by have := hb2.size; simp at this; omega); have s2 := keep9 (n := w.heap.size) (m := q) (k := kb) (o := ko + i) hb2 (by simp <;> omega) (by simp <;> omega) (by simp <;> omega) (by assumption)))
      have hB3 : Below w.heap.size w w2 := hBw.drew.trans (hb2.mono (by simp; omega))
      obtain ⟨z0, z1, z2, z3, _⟩ := s2
      clear a0 a1 a2 a3 hp hq hx e0 e1 e2 e3
      go_wp2
      all_goals first
        | exact ⟨⟨i + 1, i, f2, by omega, by omega, by go_num, by go_num, rfl, z0, z1, z2, z3, hB3, by omega⟩, by simp [intOf]; omega⟩
        | exact ⟨⟨i + 1, j, f, by omega, by omega, by go_num, by go_num, rfl, z0, z1, z2, z3, hB3, by omega⟩, by simp [intOf]; omega⟩
        | trace_state
    · go_wp2
      go_ret
      exact ⟨⟨j, hj, rfl⟩, hBw⟩

end Go.Proofs.YtenaepdmlknlcaaGreatDoor

namespace Go.Proofs.YtenaepdmlknlcaaGreatDoor
open Go.RowKit

def cmpV (a b : Int) : Int := if a < b then -1 else if b < a then 1 else 0

set_option maxHeartbeats 400000 in
theorem isNaN_any (a : Int) (w : World) : Calls Tryz.prog 181 #[.int .i64 a] w fun e w' => e = .returned (.bool false) ∧ w' = w := by
  go_enter Tryz.func181, Tryz.ntmps181
  go_wp2
  go_ret
  exact ⟨ret_bool (by simp), rfl⟩

set_option maxHeartbeats 400000 in
theorem Compare_any (a b : Int) (w : World) : Calls Tryz.prog 155 #[.int .i64 a, .int .i64 b] w fun e w' => e = .returned (.int .i64 (cmpV a b)) ∧ w' = w := by
  by_cases h1 : a < b
  · go_enter Tryz.func155, Tryz.ntmps155
    go_wp2_with (go_at_call 181; refine (isNaN_any _ _).mono ?_; rintro e w2 ⟨rfl, rfl⟩)
    go_ret
    exact ⟨ret_int (by simp [cmpV, h1]), rfl⟩
  · by_cases h2 : b < a
    · go_enter Tryz.func155, Tryz.ntmps155
      go_wp2_with (go_at_call 181; refine (isNaN_any _ _).mono ?_; rintro e w2 ⟨rfl, rfl⟩)
      go_ret
      exact ⟨ret_int (by simp [cmpV, h1, h2]), rfl⟩
    · go_enter Tryz.func155, Tryz.ntmps155
      go_wp2_with (go_at_call 181; refine (isNaN_any _ _).mono ?_; rintro e w2 ⟨rfl, rfl⟩)
      go_ret
      exact ⟨ret_int (by unfold cmpV; rw [if_neg (by omega), if_neg (by omega)]), rfl⟩

/-- The order along a side: across, or down. -/
def sideV (d : Bool) (x y : Bx) : Int := if d then cmpV (x.l + x.r) (y.l + y.r) else cmpV (x.t + x.b) (y.t + y.b)

set_option maxRecDepth 100000 in
set_option maxHeartbeats 1000000 in
theorem along1_any (p q : Nat) (x y : Bx) (w : World) (hp : C4 w p x) (hq : C4 w q y) (hx : BxW x) (hy : BxW y) :
    Calls Tryz.prog 154 #[.pointer (some ⟨p, 0, none⟩), .pointer (some ⟨q, 0, none⟩)] w fun e w' => e = .returned (.int .i64 (sideV true x y)) ∧ ∃ n, w' = w.drewN n := by
  obtain ⟨l, t, r, b⟩ := x
  obtain ⟨l', t', r', b'⟩ := y
  obtain ⟨a0, a1, a2, a3⟩ := hp
  obtain ⟨c0, c1, c2, c3⟩ := hq
  obtain ⟨p1, p2, p3, p4, p5, p6, p7, p8⟩ := hx
  obtain ⟨q1, q2, q3, q4, q5, q6, q7, q8⟩ := hy
  dsimp only at *
  go_enter Tryz.func154, Tryz.ntmps154
  go_wp2
  go_quiet (first | (go_at_call 155; refine Calls.quiet_of_same (Compare_any _ _ _)))
  go_wp2
  go_ret
  exact ⟨ret_int (by simp [sideV]), _, rfl⟩

set_option maxRecDepth 100000 in
set_option maxHeartbeats 1000000 in
theorem along2_any (p q : Nat) (x y : Bx) (w : World) (hp : C4 w p x) (hq : C4 w q y) (hx : BxW x) (hy : BxW y) :
    Calls Tryz.prog 156 #[.pointer (some ⟨p, 0, none⟩), .pointer (some ⟨q, 0, none⟩)] w fun e w' => e = .returned (.int .i64 (sideV false x y)) ∧ ∃ n, w' = w.drewN n := by
  obtain ⟨l, t, r, b⟩ := x
  obtain ⟨l', t', r', b'⟩ := y
  obtain ⟨a0, a1, a2, a3⟩ := hp
  obtain ⟨c0, c1, c2, c3⟩ := hq
  obtain ⟨p1, p2, p3, p4, p5, p6, p7, p8⟩ := hx
  obtain ⟨q1, q2, q3, q4, q5, q6, q7, q8⟩ := hy
  dsimp only at *
  go_enter Tryz.func156, Tryz.ntmps156
  go_wp2
  go_quiet (first | (go_at_call 155; refine Calls.quiet_of_same (Compare_any _ _ _)))
  go_wp2
  go_ret
  exact ⟨ret_int (by simp [sideV]), _, rfl⟩

def alongV (d : Bool) : Value := .func (.func (if d then 154 else 156)) #[] #[]

set_option maxHeartbeats 1000000 in
theorem along_any (x : Bx) (w : World) (hx : BxW x) :
    Calls Tryz.prog 121 #[.agg #[.int .i64 x.l, .int .i64 x.t, .int .i64 x.r, .int .i64 x.b]] w fun e w' => (∃ d, e = .returned (alongV d)) ∧ Below w.heap.size w w' := by
  obtain ⟨l, t, r, b⟩ := x
  obtain ⟨p1, p2, p3, p4, p5, p6, p7, p8⟩ := hx
  dsimp only at *
  by_cases h : b - t ≤ r - l
  · go_enter Tryz.func121, Tryz.ntmps121
    go_wp2
    go_ret
    exact ⟨⟨true, rfl⟩, (Below.refl _ _).alloc (Nat.le_refl _) _⟩
  · go_enter Tryz.func121, Tryz.ntmps121
    go_wp2
    go_ret
    exact ⟨Or.inl rfl, (Below.refl _ _).alloc (Nat.le_refl _) _⟩

end Go.Proofs.YtenaepdmlknlcaaGreatDoor

namespace Go.Proofs.YtenaepdmlknlcaaGreatDoor
open Go.RowKit

/-- A row of nodes that may be written. -/
def RowAt (w : World) (g : Nat) (ks : Kids) : Prop := ∀ (i : Nat) k, ks[i]? = some k → w.cell? ⟨g, i, none⟩ = some (.pointer (some ⟨k.1, 0, none⟩)) ∧ w.frozen? ⟨g, i, none⟩ = false

theorem swap_perm {α : Type} : ∀ (l : List α) (j : Nat) (a b : α), l[j]? = some a → l[j + 1]? = some b → ((l.set (j + 1) a).set j b).Perm l
  | c :: d :: r, 0, a, b, h1, h2 => by
    simp at h1 h2
    subst h1 h2
    exact List.Perm.swap _ _ _
  | c :: r, j + 1, a, b, h1, h2 => by
    simp at h1 h2
    simpa using swap_perm r j a b h1 h2
  | [], _, _, _, h1, _ => by simp at h1
  | [c], 0, _, _, _, h2 => by simp at h2

abbrev swapW (W : World) (g j j' p q : Nat) : World := (W.setCell ⟨g, j, none⟩ (.pointer (some ⟨q, 0, none⟩))).setCell ⟨g, j', none⟩ (.pointer (some ⟨p, 0, none⟩))
theorem row_swap {W : World} {g j j' p q : Nat} {x y : Bx} {ks : Kids} (h : RowAt W g ks) (hp : ks[j]? = some (p, x)) (hq : ks[j']? = some (q, y)) (hj : j' + 1 = j) :
    RowAt (swapW W g j j' p q) g ((ks.set j (q, y)).set j' (p, x)) ∧ ((ks.set j (q, y)).set j' (p, x)).Perm ks := by
  refine ⟨fun i k hk => ?_, ?_⟩
  · have hjl : j < ks.length := (List.getElem?_eq_some_iff.1 hp).1
    have hjl' : j' < ks.length := (List.getElem?_eq_some_iff.1 hq).1
    rw [World.frozen?_setCell, World.frozen?_setCell]
    by_cases h1 : i = j'
    · subst h1
      rw [List.getElem?_set_self (by rw [List.length_set]; exact hjl')] at hk
      simp at hk
      subst hk
      refine ⟨World.cell?_setCell_same _ _ _ (u := .pointer (some ⟨q, 0, none⟩)) ?_, (h _ _ hq).2⟩
      rw [World.cell?_setCell_other _ _ _ _ (by intro e; injection e with _ e2 _; omega)]
      exact (h _ _ hq).1
    · rw [List.getElem?_set_ne (by omega)] at hk
      rw [World.cell?_setCell_other _ _ _ _ (by intro e; injection e with _ e2 _; omega)]
      by_cases h2 : i = j
      · subst h2
        rw [List.getElem?_set_self hjl] at hk
        simp at hk
        subst hk
        exact ⟨World.cell?_setCell_same _ _ _ (h _ _ hp).1, (h _ _ hp).2⟩
      · rw [List.getElem?_set_ne (by omega)] at hk
        rw [World.cell?_setCell_other _ _ _ _ (by intro e; injection e with _ e2 _; omega)]
        exact h _ _ hk
  · subst hj
    exact swap_perm ks j' (q, y) (p, x) hq hp
theorem keep_swap (W : World) (g j j' p q : Nat) : KeepC g W (swapW W g j j' p q) :=
  ⟨((below_set1 g W g j (Nat.le_refl _) _).trans (below_set1 g _ g j' (Nat.le_refl _) _)).size, fun b o v hb e => by
    rw [World.cell?_setCell_far _ _ _ _ (fun h => hb h.symm), World.cell?_setCell_far _ _ _ _ (fun h => hb h.symm)]
    exact e⟩
theorem below_swap (W : World) (g j j' p q : Nat) : Below g W (swapW W g j j' p q) := (below_set1 g W g j (Nat.le_refl _) _).trans (below_set1 g _ g j' (Nat.le_refl _) _)

set_option maxRecDepth 100000 in
set_option maxHeartbeats 2000000 in
theorem insertion79 (g n cap : Nat) (ks : Kids) (w : World) (hn : n = ks.length) (hn2 : n ≤ 20) (hrow : RowAt w g ks) (hks : ∀ k ∈ ks, k.1 ≠ g ∧ C4 w k.1 k.2 ∧ BxW k.2) :
    Calls Tryz.prog 179 #[.slice (some ⟨g, 0, none⟩) n cap, .int .i64 0, .int .i64 n, .func (.func 154) #[] #[]] w fun e w' => e = .returned (.tuple #[]) ∧ ∃ ks' : Kids, ks'.Perm ks ∧ RowAt w' g ks' ∧ KeepC g w w' ∧ Below g w w' := by
  have Hks : Hid (∀ k ∈ ks, k.1 ≠ g ∧ C4 w k.1 k.2 ∧ BxW k.2) := hks
  have Hn : Hid (n = ks.length) := hn
  have HA : Hid (∀ (W : World) (p q : Nat) (x y : Bx), C4 W p x → C4 W q y → BxW x → BxW y → Calls Tryz.prog 154 #[.pointer (some ⟨p, 0, none⟩), .pointer (some ⟨q, 0, none⟩)] W fun e w' => e = .returned (.int .i64 (sideV true x y)) ∧ ∃ m, w' = W.drewN m) := fun W p q x y hp hq hx hy => along1_any p q x y W hp hq hx hy
  go_enter Tryz.func179, Tryz.ntmps179
  go_wp2
  go_loopw [8] (fun iv wr => ∃ (i : Nat) (ks' : Kids), 1 ≤ i ∧ i ≤ n + 1 ∧ iv = .int .i64 (i : Int) ∧ Hid (ks'.Perm ks ∧ RowAt wr g ks' ∧ KeepC g w wr ∧ Below g w wr)) (fun iv _ => n + 1 - (intOf iv).toNat)
  case atStart => exact ⟨1, ks, by omega, by omega, rfl, List.Perm.refl _, hrow, KeepC.refl _ _, Below.refl _ _⟩
  case round =>
    clear hrow hks hn
    obtain ⟨i, ks', hi1, hi2, rfl, HI⟩ := hrel
    by_cases hlt : i < n
    · go_wp2
      go_loopw [9] (fun jv wq => ∃ (j : Nat) (ks'' : Kids), j ≤ i ∧ jv = .int .i64 (j : Int) ∧ Hid (ks''.Perm ks ∧ RowAt wq g ks'' ∧ KeepC g w wq ∧ Below g w wq)) (fun jv _ => (intOf jv).toNat)
      case atStart => exact ⟨i, ks', by omega, rfl, HI.out⟩
      case round =>
        obtain ⟨j, ks2, hj, rfl, HJ⟩ := hrel
        by_cases hj0 : 0 < j
        · have hlen : ks2.length = n := by rw [HJ.out.1.length_eq, Hn.out]
          obtain ⟨⟨p, x⟩, hp⟩ : ∃ k, ks2[j]? = some k := ⟨ks2[j]'(by omega), List.getElem?_eq_getElem _⟩
          obtain ⟨⟨q, y⟩, hq⟩ : ∃ k, ks2[j - 1]? = some k := ⟨ks2[j - 1]'(by omega), List.getElem?_eq_getElem _⟩
          obtain ⟨r1, f1⟩ := HJ.out.2.1 j _ hp
          obtain ⟨r2, f2⟩ := HJ.out.2.1 (j - 1) _ hq
          obtain ⟨hpg, hpc, hpw⟩ := Hks.out _ (HJ.out.1.mem_iff.1 (List.mem_of_getElem? hp))
          obtain ⟨hqg, hqc, hqw⟩ := Hks.out _ (HJ.out.1.mem_iff.1 (List.mem_of_getElem? hq))
          dsimp only at *
          have hpc2 := HJ.out.2.2.1.q4 hpg hpc
          have hqc2 := HJ.out.2.2.1.q4 hqg hqc
          have HP : Hid (ks2[j]? = some (p, x) ∧ ks2[j - 1]? = some (q, y)) := ⟨hp, hq⟩
          have HC : Hid (∀ m, Calls Tryz.prog 154 #[.pointer (some ⟨p, 0, none⟩), .pointer (some ⟨q, 0, none⟩)] (wr.drewN m) fun e w' => e = .returned (.int .i64 (sideV true x y)) ∧ ∃ k, w' = (wr.drewN m).drewN k) := fun m => HA.out _ p q x y ⟨hpc2.c0, hpc2.c1, hpc2.c2, hpc2.c3⟩ ⟨hqc2.c0, hqc2.c1, hqc2.c2, hqc2.c3⟩ hpw hqw
          clear hp hq hpc hqc hpc2 hqc2 hpw hqw HA
          obtain ⟨s, hs⟩ : ∃ s, sideV true x y = s := ⟨_, rfl⟩
          rw [hs] at HC
          clear hs
          have hji : (j : Int) - 1 = ((j - 1 : Nat) : Int) := by omega
          have hjn : (j : Int) < (n : Int) := by omega
          have hjn' : ((j - 1 : Nat) : Int) < (n : Int) := by omega
          have hj0' : (0 : Int) < (j : Int) := by omega
          obtain ⟨j', hj'⟩ : ∃ j', j - 1 = j' := ⟨_, rfl⟩
          rw [hj'] at hji hjn' r2 f2 HP
          by_cases hs0 : s < 0
          · go_wp2
            go_quiet (first | (go_at_call 154; refine Calls.quiet_of (HC.out _)))
            go_wp2
            go_region
            go_wp2
            go_roundw
            case rel =>
              obtain ⟨hR, hP⟩ := row_swap (W := wr.drewN (nq + 1)) HJ.out.2.1 HP.out.1 HP.out.2 (by omega)
              exact ⟨j', _, by omega, by first | rfl | go_num, hP.trans HJ.out.1, hR, HJ.out.2.2.1.trans ((show KeepC g wr (wr.drewN (nq + 1)) from ⟨Nat.le_refl _, fun _ _ _ _ h => h⟩).trans (keep_swap _ g j j' p q)), (below_drewN HJ.out.2.2.2 _).trans (below_swap _ g j j' p q)⟩
            case measure => simp [intOf]; omega
          · have hs1 : decide (s < 0) = false := decide_eq_false hs0
            go_wp2
            go_quiet (first | (go_at_call 154; refine Calls.quiet_of (HC.out _)))
            go_wp2
            go_roundw
            case rel => exact ⟨i + 1, ks2, by omega, by omega, by go_num, HJ.out.1, HJ.out.2.1, HJ.out.2.2.1, below_drewN HJ.out.2.2.2 _⟩
            case measure => simp [intOf]; omega
        · go_wp2
          go_quiet (fail)
          go_wp2
          go_roundw
          case rel => exact ⟨i + 1, ks2, by omega, by omega, by go_num, HJ.out.1, HJ.out.2.1, HJ.out.2.2.1, below_drewN HJ.out.2.2.2 _⟩
          case measure => simp [intOf]; omega
    · go_wp2
      go_end0
      exact ⟨rfl, ks', HI.out⟩

set_option maxRecDepth 100000 in
set_option maxHeartbeats 2000000 in
theorem insertion81 (g n cap : Nat) (ks : Kids) (w : World) (hn : n = ks.length) (hn2 : n ≤ 20) (hrow : RowAt w g ks) (hks : ∀ k ∈ ks, k.1 ≠ g ∧ C4 w k.1 k.2 ∧ BxW k.2) :
    Calls Tryz.prog 179 #[.slice (some ⟨g, 0, none⟩) n cap, .int .i64 0, .int .i64 n, .func (.func 156) #[] #[]] w fun e w' => e = .returned (.tuple #[]) ∧ ∃ ks' : Kids, ks'.Perm ks ∧ RowAt w' g ks' ∧ KeepC g w w' ∧ Below g w w' := by
  have Hks : Hid (∀ k ∈ ks, k.1 ≠ g ∧ C4 w k.1 k.2 ∧ BxW k.2) := hks
  have Hn : Hid (n = ks.length) := hn
  have HA : Hid (∀ (W : World) (p q : Nat) (x y : Bx), C4 W p x → C4 W q y → BxW x → BxW y → Calls Tryz.prog 156 #[.pointer (some ⟨p, 0, none⟩), .pointer (some ⟨q, 0, none⟩)] W fun e w' => e = .returned (.int .i64 (sideV false x y)) ∧ ∃ m, w' = W.drewN m) := fun W p q x y hp hq hx hy => along2_any p q x y W hp hq hx hy
  go_enter Tryz.func179, Tryz.ntmps179
  go_wp2
  go_loopw [8] (fun iv wr => ∃ (i : Nat) (ks' : Kids), 1 ≤ i ∧ i ≤ n + 1 ∧ iv = .int .i64 (i : Int) ∧ Hid (ks'.Perm ks ∧ RowAt wr g ks' ∧ KeepC g w wr ∧ Below g w wr)) (fun iv _ => n + 1 - (intOf iv).toNat)
  case atStart => exact ⟨1, ks, by omega, by omega, rfl, List.Perm.refl _, hrow, KeepC.refl _ _, Below.refl _ _⟩
  case round =>
    clear hrow hks hn
    obtain ⟨i, ks', hi1, hi2, rfl, HI⟩ := hrel
    by_cases hlt : i < n
    · go_wp2
      go_loopw [9] (fun jv wq => ∃ (j : Nat) (ks'' : Kids), j ≤ i ∧ jv = .int .i64 (j : Int) ∧ Hid (ks''.Perm ks ∧ RowAt wq g ks'' ∧ KeepC g w wq ∧ Below g w wq)) (fun jv _ => (intOf jv).toNat)
      case atStart => exact ⟨i, ks', by omega, rfl, HI.out⟩
      case round =>
        obtain ⟨j, ks2, hj, rfl, HJ⟩ := hrel
        by_cases hj0 : 0 < j
        · have hlen : ks2.length = n := by rw [HJ.out.1.length_eq, Hn.out]
          obtain ⟨⟨p, x⟩, hp⟩ : ∃ k, ks2[j]? = some k := ⟨ks2[j]'(by omega), List.getElem?_eq_getElem _⟩
          obtain ⟨⟨q, y⟩, hq⟩ : ∃ k, ks2[j - 1]? = some k := ⟨ks2[j - 1]'(by omega), List.getElem?_eq_getElem _⟩
          obtain ⟨r1, f1⟩ := HJ.out.2.1 j _ hp
          obtain ⟨r2, f2⟩ := HJ.out.2.1 (j - 1) _ hq
          obtain ⟨hpg, hpc, hpw⟩ := Hks.out _ (HJ.out.1.mem_iff.1 (List.mem_of_getElem? hp))
          obtain ⟨hqg, hqc, hqw⟩ := Hks.out _ (HJ.out.1.mem_iff.1 (List.mem_of_getElem? hq))
          dsimp only at *
          have hpc2 := HJ.out.2.2.1.q4 hpg hpc
          have hqc2 := HJ.out.2.2.1.q4 hqg hqc
          have HP : Hid (ks2[j]? = some (p, x) ∧ ks2[j - 1]? = some (q, y)) := ⟨hp, hq⟩
          have HC : Hid (∀ m, Calls Tryz.prog 156 #[.pointer (some ⟨p, 0, none⟩), .pointer (some ⟨q, 0, none⟩)] (wr.drewN m) fun e w' => e = .returned (.int .i64 (sideV false x y)) ∧ ∃ k, w' = (wr.drewN m).drewN k) := fun m => HA.out _ p q x y ⟨hpc2.c0, hpc2.c1, hpc2.c2, hpc2.c3⟩ ⟨hqc2.c0, hqc2.c1, hqc2.c2, hqc2.c3⟩ hpw hqw
          clear hp hq hpc hqc hpc2 hqc2 hpw hqw HA
          obtain ⟨s, hs⟩ : ∃ s, sideV false x y = s := ⟨_, rfl⟩
          rw [hs] at HC
          clear hs
          have hji : (j : Int) - 1 = ((j - 1 : Nat) : Int) := by omega
          have hjn : (j : Int) < (n : Int) := by omega
          have hjn' : ((j - 1 : Nat) : Int) < (n : Int) := by omega
          have hj0' : (0 : Int) < (j : Int) := by omega
          obtain ⟨j', hj'⟩ : ∃ j', j - 1 = j' := ⟨_, rfl⟩
          rw [hj'] at hji hjn' r2 f2 HP
          by_cases hs0 : s < 0
          · go_wp2
            go_quiet (first | (go_at_call 156; refine Calls.quiet_of (HC.out _)))
            go_wp2
            go_region
            go_wp2
            go_roundw
            case rel =>
              obtain ⟨hR, hP⟩ := row_swap (W := wr.drewN (nq + 1)) HJ.out.2.1 HP.out.1 HP.out.2 (by omega)
              exact ⟨j', _, by omega, by first | rfl | go_num, hP.trans HJ.out.1, hR, HJ.out.2.2.1.trans ((show KeepC g wr (wr.drewN (nq + 1)) from ⟨Nat.le_refl _, fun _ _ _ _ h => h⟩).trans (keep_swap _ g j j' p q)), (below_drewN HJ.out.2.2.2 _).trans (below_swap _ g j j' p q)⟩
            case measure => simp [intOf]; omega
          · have hs1 : decide (s < 0) = false := decide_eq_false hs0
            go_wp2
            go_quiet (first | (go_at_call 156; refine Calls.quiet_of (HC.out _)))
            go_wp2
            go_roundw
            case rel => exact ⟨i + 1, ks2, by omega, by omega, by go_num, HJ.out.1, HJ.out.2.1, HJ.out.2.2.1, below_drewN HJ.out.2.2.2 _⟩
            case measure => simp [intOf]; omega
        · go_wp2
          go_quiet (fail)
          go_wp2
          go_roundw
          case rel => exact ⟨i + 1, ks2, by omega, by omega, by go_num, HJ.out.1, HJ.out.2.1, HJ.out.2.2.1, below_drewN HJ.out.2.2.2 _⟩
          case measure => simp [intOf]; omega
    · go_wp2
      go_end0
      exact ⟨rfl, ks', HI.out⟩

end Go.Proofs.YtenaepdmlknlcaaGreatDoor
