import Derived.Test.YtenaepdmlknlcaaGreatDoorG19
namespace Go.Proofs.YtenaepdmlknlcaaGreatDoor
open Go.RowKit Go.Shelf

set_option maxRecDepth 100000 in
set_option maxHeartbeats 2000000 in
theorem same_any (id kd ht col : Int) (a1 a2 : Option Addr) (n c1 c2 : Nat) (w : World) :
    Calls Tryz.prog 66 #[.agg #[.int .i64 id, .int .i64 kd, .int .i64 ht, .int .i64 col, .slice a1 n c1], .agg #[.int .i64 id, .int .i64 kd, .int .i64 ht, .int .i64 col, .slice a2 n c2]] w fun e w' => e = .returned (.bool true) ∧ Below w.heap.size w w' := by
  go_enter Tryz.func66, Tryz.ntmps66
  go_wp2
  go_ret
  exact ⟨rfl, ((Below.refl _ _).alloc (Nat.le_refl _) _).alloc (by simp) _⟩

/-- Places that their owner has written over. -/
def InkP (W : World) (P k : Nat) : Prop := ∀ j, j < k + 2 → W.cell? ⟨P, j * 2, none⟩ = some ink ∧ W.cell? ⟨P, j * 2 + 1, none⟩ = some (.int .i64 0)
theorem InkP.but {S : Nat → Prop} {A B : World} {P k : Nat} (h : InkP A P k) (hb : But S A B) (hP : P < A.heap.size) (hS : ¬ S P) : InkP B P k := fun j hj => ⟨(hb.cell hP hS).trans (h j hj).1, (hb.cell hP hS).trans (h j hj).2⟩

/-- Half way: j places are written over. -/
structure HalfP (W : World) (P : Nat) (ps : Pts) (j : Nat) : Prop where
  ink : ∀ t, t < j → W.cell? ⟨P, t * 2, none⟩ = some (.int .i64 (-77000000)) ∧ W.cell? ⟨P, t * 2 + 1, none⟩ = some (.int .i64 0)
  pts : ∀ (t : Nat) x y, j ≤ t → ps[t]? = some (x, y) → W.cell? ⟨P, t * 2, none⟩ = some (.int .i64 x) ∧ W.cell? ⟨P, t * 2 + 1, none⟩ = some (.int .i64 y)
  e0 : W.cell? ⟨P, ps.length * 2, none⟩ = some (.int .i64 (-77000000))
  e1 : W.cell? ⟨P, ps.length * 2 + 1, none⟩ = some (.int .i64 0)
  e2 : W.cell? ⟨P, (ps.length + 1) * 2, none⟩ = some (.int .i64 (-77000000))
  e3 : W.cell? ⟨P, (ps.length + 1) * 2 + 1, none⟩ = some (.int .i64 0)
  fz : ∀ j, W.frozen? ⟨P, j, none⟩ = false

end Go.Proofs.YtenaepdmlknlcaaGreatDoor

namespace Go.Proofs.YtenaepdmlknlcaaGreatDoor
open Go.RowKit Go.Shelf

theorem LentP.c0 {W : World} {P : Nat} {ps : Pts} (h : LentP W P ps) : ∃ x : Int, W.cell? ⟨P, 0, none⟩ = some (.int .i64 x) := by
  cases hps : ps with
  | nil => have := h.e0; rw [hps] at this; exact ⟨_, by simpa using this⟩
  | cons p r => have := (h.pts 0 p.1 p.2 (by rw [hps]; rfl)).1; exact ⟨_, by simpa using this⟩
theorem Lent.not_mem {N : Nat} {W : World} {o X n : Nat} {Ps : List Nat} {gs : List FG} (h : Lent N W o X n Ps gs) {b : Nat} {a : Option Addr} {m c : Nat} (hb : W.cell? ⟨b, 0, none⟩ = some (.slice a m c)) : b ∉ Ps := by
  intro hm
  obtain ⟨j, hj⟩ := List.mem_iff_getElem?.1 hm
  have hjl := (List.getElem?_eq_some_iff.1 hj).1
  obtain ⟨g, hg⟩ : ∃ g, gs[j]? = some g := ⟨gs[j]'(by rw [← h.len]; exact hjl), List.getElem?_eq_getElem _⟩
  obtain ⟨x, hx⟩ := (h.lp j b g hj hg).c0
  rw [hb] at hx
  cases hx

/-- Behind i rounds of whole. -/
structure WInv (w : World) (Ps : List Nat) (gs : List FG) (i : Nat) (wr : World) : Prop where
  but : But (fun b => b ∈ Ps) w wr
  inked : ∀ (j : Nat) P g, j < i → Ps[j]? = some P → gs[j]? = some g → InkP wr P g.f.ps.length
  rest : ∀ (j : Nat) P g, i ≤ j → Ps[j]? = some P → gs[j]? = some g → LentP wr P g.f.ps

theorem keep10 {A B : World} {N n m o1 o2 : Nat} (hb : Below N A B) (hn : n < N) (hm : m < N) {v0 v1 v2 v3 v4 u0 u1 u2 u3 u4 : Value}
    (s : A.cell? ⟨n, o1, none⟩ = some v0 ∧ A.cell? ⟨n, o1 + 1, none⟩ = some v1 ∧ A.cell? ⟨n, o1 + 2, none⟩ = some v2 ∧ A.cell? ⟨n, o1 + 3, none⟩ = some v3 ∧ A.cell? ⟨n, o1 + 4, none⟩ = some v4 ∧ A.cell? ⟨m, o2, none⟩ = some u0 ∧ A.cell? ⟨m, o2 + 1, none⟩ = some u1 ∧ A.cell? ⟨m, o2 + 2, none⟩ = some u2 ∧ A.cell? ⟨m, o2 + 3, none⟩ = some u3 ∧ A.cell? ⟨m, o2 + 4, none⟩ = some u4) :
    B.cell? ⟨n, o1, none⟩ = some v0 ∧ B.cell? ⟨n, o1 + 1, none⟩ = some v1 ∧ B.cell? ⟨n, o1 + 2, none⟩ = some v2 ∧ B.cell? ⟨n, o1 + 3, none⟩ = some v3 ∧ B.cell? ⟨n, o1 + 4, none⟩ = some v4 ∧ B.cell? ⟨m, o2, none⟩ = some u0 ∧ B.cell? ⟨m, o2 + 1, none⟩ = some u1 ∧ B.cell? ⟨m, o2 + 2, none⟩ = some u2 ∧ B.cell? ⟨m, o2 + 3, none⟩ = some u3 ∧ B.cell? ⟨m, o2 + 4, none⟩ = some u4 := by
  obtain ⟨hc, _⟩ := bcell hb
  obtain ⟨a0, a1, a2, a3, a4, a5, a6, a7, a8, a9⟩ := s
  exact ⟨(hc _ _ hn).trans a0, (hc _ _ hn).trans a1, (hc _ _ hn).trans a2, (hc _ _ hn).trans a3, (hc _ _ hn).trans a4, (hc _ _ hm).trans a5, (hc _ _ hm).trans a6, (hc _ _ hm).trans a7, (hc _ _ hm).trans a8, (hc _ _ hm).trans a9⟩

/-- What is written over reads as its owner wrote it. -/
structure Stilled (N : Nat) (W : World) (o X n : Nat) (Ps : List Nat) (gs : List FG) : Prop where
  len : Ps.length = gs.length
  num : n = gs.length
  olt : o < W.heap.size
  pl : ∃ ra rc, W.cell? ⟨o, 0, none⟩ = some (.slice ra gs.length rc) ∧ (gs = [] ∨ ∃ R, ra = some ⟨R, 0, none⟩ ∧ N ≤ R ∧ R < W.heap.size ∧ ∀ (j : Nat) P g, Ps[j]? = some P → gs[j]? = some g → W.cell? ⟨R, j, none⟩ = some (slP P g))
  fl : ∃ F fc, W.cell? ⟨o, 1, none⟩ = some (.slice (some ⟨F, 0, none⟩) 1 fc) ∧ N ≤ F ∧ F < W.heap.size ∧ W.cell? ⟨F, 0, none⟩ = some (.slice (some ⟨X, 0, none⟩) (n + 2) (n + 2))
  xz : ∀ j, j < n + 2 → XZ W X j ink
  xn : N ≤ X
  xlt : X < W.heap.size
  ps : ∀ (j : Nat) P g, Ps[j]? = some P → gs[j]? = some g → N ≤ P ∧ P < W.heap.size ∧ InkP W P g.f.ps.length

theorem pw_ne {Ps : List Nat} (h : Ps.Pairwise (· < ·)) {i j a b : Nat} (hi : Ps[i]? = some a) (hj : Ps[j]? = some b) (hij : i ≠ j) : a ≠ b := by
  obtain ⟨li, rfl⟩ := List.getElem?_eq_some_iff.1 hi
  obtain ⟨lj, rfl⟩ := List.getElem?_eq_some_iff.1 hj
  rw [List.pairwise_iff_getElem] at h
  rcases Nat.lt_or_gt_of_ne hij with h1 | h1
  · have := h i j li lj h1; omega
  · have := h j i lj li h1; omega
theorem WInv.below {w : World} {Ps : List Nat} {gs : List FG} {i : Nat} {A B : World} (h : WInv w Ps gs i A) (hb : Below A.heap.size A B) (hP : ∀ (j : Nat) P, Ps[j]? = some P → P < A.heap.size) : WInv w Ps gs i B :=
  ⟨h.but.trans (But.of_below hb), fun j P g hj e e' => (h.inked j P g hj e e').but (S := fun _ => False) (But.of_below hb) (hP j P e) (fun h => h), fun j P g hj e e' => (h.rest j P g hj e e').but (S := fun _ => False) (But.of_below hb) (hP j P e) (fun h => h)⟩
theorem winv_step {w : World} {Ps : List Nat} {gs : List FG} {i P : Nat} {g : FG} {A B : World} (h : WInv w Ps gs i A) (hb : But (fun x => x = P) A B) (hI : InkP B P g.f.ps.length) (hP : Ps[i]? = some P) (hg : gs[i]? = some g) (hpw : Ps.Pairwise (· < ·)) (hlt : ∀ (j : Nat) P, Ps[j]? = some P → P < A.heap.size) : WInv w Ps gs (i + 1) B := by
  refine ⟨h.but.trans (hb.mono (fun b e => by rw [e]; exact List.mem_of_getElem? hP)), fun j Q g' hj e e' => ?_, fun j Q g' hj e e' => (h.rest j Q g' (by omega) e e').but hb (hlt j Q e) (pw_ne hpw e hP (by omega))⟩
  by_cases hji : j = i
  · subst hji
    rw [hP] at e; cases e
    rw [hg] at e'; cases e'
    exact hI
  · exact (h.inked j Q g' (by omega) e e').but hb (hlt j Q e) (pw_ne hpw e hP hji)

abbrev set5X (W : World) (X j : Nat) : World := ((((W.setCell ⟨X, j * 5, none⟩ ink).setCell ⟨X, j * 5 + 1, none⟩ (.int .i64 0)).setCell ⟨X, j * 5 + 2, none⟩ (.int .i64 0)).setCell ⟨X, j * 5 + 3, none⟩ (.int .i64 0)).setCell ⟨X, j * 5 + 4, none⟩ (.slice none 0 0)
theorem set5X_far (W : World) (X j c : Nat) (h : c < j * 5 ∨ j * 5 + 5 ≤ c) : (set5X W X j).cell? ⟨X, c, none⟩ = W.cell? ⟨X, c, none⟩ := by
  unfold set5X
  rw [set_off _ _ _ _ _ (by omega), set_off _ _ _ _ _ (by omega), set_off _ _ _ _ _ (by omega), set_off _ _ _ _ _ (by omega), set_off _ _ _ _ _ (by omega)]
theorem set5X_at {W : World} {X j : Nat} {v0 v1 v2 v3 v4 : Value} (c0 : W.cell? ⟨X, j * 5, none⟩ = some v0) (c1 : W.cell? ⟨X, j * 5 + 1, none⟩ = some v1) (c2 : W.cell? ⟨X, j * 5 + 2, none⟩ = some v2) (c3 : W.cell? ⟨X, j * 5 + 3, none⟩ = some v3) (c4 : W.cell? ⟨X, j * 5 + 4, none⟩ = some v4) : XZ (set5X W X j) X j ink := by
  unfold set5X
  refine ⟨?_, ?_, ?_, ?_, ?_⟩
  · rw [set_off _ _ _ _ _ (by omega), set_off _ _ _ _ _ (by omega), set_off _ _ _ _ _ (by omega), set_off _ _ _ _ _ (by omega)]
    exact World.cell?_setCell_same _ _ _ c0
  · rw [set_off _ _ _ _ _ (by omega), set_off _ _ _ _ _ (by omega), set_off _ _ _ _ _ (by omega)]
    exact World.cell?_setCell_same _ _ _ ((set_off _ _ _ _ _ (by omega)).trans c1)
  · rw [set_off _ _ _ _ _ (by omega), set_off _ _ _ _ _ (by omega)]
    exact World.cell?_setCell_same _ _ _ ((set_off _ _ _ _ _ (by omega)).trans ((set_off _ _ _ _ _ (by omega)).trans c2))
  · rw [set_off _ _ _ _ _ (by omega)]
    exact World.cell?_setCell_same _ _ _ ((set_off _ _ _ _ _ (by omega)).trans ((set_off _ _ _ _ _ (by omega)).trans ((set_off _ _ _ _ _ (by omega)).trans c3)))
  · exact World.cell?_setCell_same _ _ _ ((set_off _ _ _ _ _ (by omega)).trans ((set_off _ _ _ _ _ (by omega)).trans ((set_off _ _ _ _ _ (by omega)).trans ((set_off _ _ _ _ _ (by omega)).trans c4))))
theorem set5X_fz (W : World) (X j : Nat) (a : Addr) : (set5X W X j).frozen? a = W.frozen? a := by
  unfold set5X
  iterate 5 rw [World.frozen?_setCell]
theorem set5X_but (W : World) (X j : Nat) : But (fun b => b = X) W (set5X W X j) :=
  (((((But.refl (fun b => b = X) W).setCell (p := ⟨X, j * 5, none⟩) (.inl rfl) _).setCell (p := ⟨X, j * 5 + 1, none⟩) (.inl rfl) _).setCell (p := ⟨X, j * 5 + 2, none⟩) (.inl rfl) _).setCell (p := ⟨X, j * 5 + 3, none⟩) (.inl rfl) _).setCell (p := ⟨X, j * 5 + 4, none⟩) (.inl rfl) _
theorem Lent.x0 {N : Nat} {W : World} {o X n : Nat} {Ps : List Nat} {gs : List FG} (h : Lent N W o X n Ps gs) (hn : n = gs.length) : ∃ x : Int, W.cell? ⟨X, 0, none⟩ = some (.int .i64 x) := by
  by_cases h0 : n = 0
  · have := h.t0.c0
    rw [h0] at this
    exact ⟨_, by simpa using this⟩
  · obtain ⟨P, hP⟩ : ∃ P, Ps[0]? = some P := ⟨Ps[0]'(by rw [h.len]; omega), List.getElem?_eq_getElem _⟩
    obtain ⟨g, hg⟩ : ∃ g, gs[0]? = some g := ⟨gs[0]'(by omega), List.getElem?_eq_getElem _⟩
    have := (h.xs 0 P g hP hg).c0
    exact ⟨_, by simpa using this⟩

theorem half_step {W : World} {P j : Nat} {ps : Pts} {x y : Int} (h : HalfP W P ps j) (hj : j < ps.length) (hx : ps[j]? = some (x, y)) : HalfP ((W.setCell ⟨P, j * 2, none⟩ ink).setCell ⟨P, j * 2 + 1, none⟩ (.int .i64 0)) P ps (j + 1) := by
  obtain ⟨c1, c2⟩ := h.pts j x y (Nat.le_refl _) hx
  refine ⟨fun t ht => ?_, fun t x' y' ht e => ?_, ?_, ?_, ?_, ?_, fun t => ?_⟩
  · by_cases e : t = j
    · subst e
      refine ⟨?_, World.cell?_setCell_same _ _ _ ((set_off _ _ _ _ _ (by omega)).trans c2)⟩
      rw [set_off _ _ _ _ _ (by omega)]
      exact World.cell?_setCell_same _ _ _ c1
    · rw [set_off _ _ _ _ _ (by omega), set_off _ _ _ _ _ (by omega), set_off _ _ _ _ _ (by omega), set_off _ _ _ _ _ (by omega)]
      exact h.ink t (by omega)
  · rw [set_off _ _ _ _ _ (by omega), set_off _ _ _ _ _ (by omega), set_off _ _ _ _ _ (by omega), set_off _ _ _ _ _ (by omega)]
    exact h.pts t x' y' (by omega) e
  · rw [set_off _ _ _ _ _ (by omega), set_off _ _ _ _ _ (by omega)]; exact h.e0
  · rw [set_off _ _ _ _ _ (by omega), set_off _ _ _ _ _ (by omega)]; exact h.e1
  · rw [set_off _ _ _ _ _ (by omega), set_off _ _ _ _ _ (by omega)]; exact h.e2
  · rw [set_off _ _ _ _ _ (by omega), set_off _ _ _ _ _ (by omega)]; exact h.e3
  · rw [World.frozen?_setCell, World.frozen?_setCell]; exact h.fz t
theorem half_done {W : World} {P : Nat} {ps : Pts} (h : HalfP W P ps ps.length) : InkP W P ps.length := fun j hj => by
  by_cases h1 : j < ps.length
  · exact h.ink j h1
  · by_cases h2 : j = ps.length
    · subst h2; exact ⟨h.e0, h.e1⟩
    · obtain rfl : j = ps.length + 1 := by omega
      exact ⟨h.e2, h.e3⟩

set_option maxRecDepth 100000 in
set_option maxHeartbeats 4000000 in
theorem whole_any (N o X n cap : Nat) (a : Option Addr) (Ps : List Nat) (gs : List FG) (w0 w : World) (hw0 : Below w0.heap.size w0 w) (hf : FeatsGO w0 a gs) (hn : n = gs.length) (hn2 : n ≤ 2600000000000) (hk : ∀ g ∈ gs, g.f.ps.length ≤ 8800000000000) (hL : Lent N w o X n Ps gs) (ho : w0.heap.size ≤ o) (hoN : o < N) :
    Calls Tryz.prog 36 #[.pointer (some ⟨o, 0, none⟩), .slice a n cap] w fun e w' => e = .returned (.bool true) ∧ Stilled N w' o X n Ps gs ∧ But (fun b => b = X ∨ b ∈ Ps) w w' := by
  have HL : Hid (Lent N w o X n Ps gs) := hL
  have Hf : Hid (∀ W : World, Below w0.heap.size w0 W → FeatsGO W a gs) := fun W hW => hf.below hW
  have Hn : Hid (n = gs.length) := hn
  have Hk : Hid (∀ g ∈ gs, g.f.ps.length ≤ 8800000000000) := hk
  obtain ⟨F, fc, f1, hFN, hFl, f0⟩ := hL.fl
  obtain ⟨ra, rc, p0, hpl⟩ := hL.pl
  have Hpl : Hid _ := hpl
  rw [← hn] at p0
  obtain ⟨t00, t01, t02, t03, t04⟩ := hL.t0
  obtain ⟨t10, t11, t12, t13, t14⟩ := hL.t1
  have hXN := hL.xn
  have hXl := hL.xlt
  have hxP : ∀ P ∈ Ps, X < P := fun P hP => by obtain ⟨j, hj⟩ := List.mem_iff_getElem?.1 hP; exact (hL.inc j P hj).1
  have nX : X ∉ Ps := fun h => by have := hxP X h; omega
  have no : o ∉ Ps := fun h => by have := hxP o h; omega
  have nF : F ∉ Ps := hL.not_mem f0
  have HxP : Hid (∀ P ∈ Ps, X < P) := hxP
  have HnX : Hid (X ∉ Ps ∧ o ∉ Ps ∧ F ∉ Ps) := ⟨nX, no, nF⟩
  have hn1 : (n : Int) < (n : Int) + 2 := by omega
  have hn3 : (n : Int) + 1 < (n : Int) + 2 := by omega
  clear hL hf hn hk hpl hxP nX no nF
  go_enter Tryz.func36, Tryz.ntmps36
  go_wp2
  go_loopw [7, 8] (fun okv iv wr => ∃ i : Nat, i ≤ n ∧ iv = .int .i64 (i : Int) ∧ okv = .bool true ∧ Hid (WInv w Ps gs i wr)) (fun _ iv _ => n - (intOf iv).toNat)
  case atStart => exact ⟨0, by omega, rfl, by first | rfl | simp, But.refl _ _, fun j P g h => by omega, fun j P g _ hP hg => HL.out.lp j P g hP hg⟩
  case round =>
    obtain ⟨i, hi, rfl, rfl, HI⟩ := hrel
    by_cases hlt : i < n
    · obtain ⟨g, hg⟩ : ∃ g, gs[i]? = some g := ⟨gs[i]'(by rw [← Hn.out]; exact hlt), List.getElem?_eq_getElem _⟩
      obtain ⟨P, hP⟩ : ∃ P, Ps[i]? = some P := ⟨Ps[i]'(by rw [HL.out.len, ← Hn.out]; exact hlt), List.getElem?_eq_getElem _⟩
      have hX : XF w X i P g := HL.out.xs i P g hP hg
      have hPl := HL.out.inc i P hP
      have hzr := HI.out.but.size
      have hPm : P ∈ Ps := List.mem_of_getElem? hP
      have hBr : Below w0.heap.size w0 wr := hw0.trans (HI.out.but.below hw0.size (fun b hb => by have := HxP.out b hb; omega))
      obtain ⟨b, off, rfl, hF⟩ := (Hf.out wr hBr).resolve_left (fun e => by rw [e] at hg; simp at hg)
      obtain ⟨b', off', e', hF0⟩ := (Hf.out w0 (Below.refl _ _)).resolve_left (fun e => by rw [e] at hg; simp at hg)
      cases e'
      have hb0 : b < w0.heap.size := hF0.1
      have hpl0 := (hF0.2 i g hg).pts
      obtain ⟨R, rfl, hRN, hRl, hRc⟩ := Hpl.out.resolve_left (fun e => by rw [e] at hg; simp at hg)
      have hRi := hRc i P g hP hg
      obtain ⟨P0, hP0⟩ : ∃ P0, Ps[0]? = some P0 := ⟨Ps[0]'(by have := (List.getElem?_eq_some_iff.1 hP).1; omega), List.getElem?_eq_getElem _⟩
      obtain ⟨g0, hg0⟩ : ∃ g0, gs[0]? = some g0 := ⟨gs[0]'(by have := Hn.out; omega), List.getElem?_eq_getElem _⟩
      have nR : R ∉ Ps := HL.out.not_mem (hRc 0 P0 g0 hP0 hg0)
      obtain ⟨d0, d1, d2, d3, d4, hpts, _, _⟩ := hF.2 i g hg
      have hkl : g.f.ps.length ≤ 8800000000000 := Hk.out g (List.mem_of_getElem? hg)
      have x0 := (HI.out.but.cell hXl HnX.out.1).trans hX.c0
      have x1 := (HI.out.but.cell hXl HnX.out.1).trans hX.c1
      have x2 := (HI.out.but.cell hXl HnX.out.1).trans hX.c2
      have x3 := (HI.out.but.cell hXl HnX.out.1).trans hX.c3
      have x4 := (HI.out.but.cell hXl HnX.out.1).trans hX.c4
      obtain ⟨k, hkk⟩ : ∃ k, k = g.f.ps.length := ⟨_, rfl⟩
      have HLP : Hid (LentP wr P g.f.ps) := HI.out.rest i P g (Nat.le_refl _) hP hg
      have Hgi : Hid (gs[i]? = some g ∧ Ps[i]? = some P ∧ k = g.f.ps.length) := ⟨hg, hP, hkk⟩
      have o0 := (HI.out.but.cell (by omega) HnX.out.2.1).trans p0
      have r0 := (HI.out.but.cell hRl nR).trans hRi
      rw [slP] at r0
      rw [← hkk] at x4 d4 hkl r0
      have hbr : b < wr.heap.size := by omega
      have Hpts : Hid (PtsAt w0.heap.size w0 g.a g.f.ps) := hpl0
      clear hF hF0 hg hP hX hpl0 hRc hRi hP0 hg0 hpts hkk t00 t01 t02 t03 t04 t10 t11 t12 t13 t14 f0 f1 p0
      have hiI : (i : Int) < (n : Int) := by omega
      have hiX : (i : Int) < (n : Int) + 2 := by omega
      go_upto_region 7 with fail
      go_region_held3 (fun w' => w'.cell? ⟨X, i * 5, none⟩ = some (.int .i64 g.f.id) ∧ w'.cell? ⟨X, i * 5 + 1, none⟩ = some (.int .i64 g.f.kd) ∧ w'.cell? ⟨X, i * 5 + 2, none⟩ = some (.int .i64 g.f.ht) ∧ w'.cell? ⟨X, i * 5 + 3, none⟩ = some (.int .i64 g.f.col) ∧ w'.cell? ⟨X, i * 5 + 4, none⟩ = some (.slice (some ⟨P, 0, none⟩) k (k + 2)) ∧ w'.cell? ⟨b, off + i * 5, none⟩ = some (.int .i64 g.f.id) ∧ w'.cell? ⟨b, off + i * 5 + 1, none⟩ = some (.int .i64 g.f.kd) ∧ w'.cell? ⟨b, off + i * 5 + 2, none⟩ = some (.int .i64 g.f.ht) ∧ w'.cell? ⟨b, off + i * 5 + 3, none⟩ = some (.int .i64 g.f.col) ∧ w'.cell? ⟨b, off + i * 5 + 4, none⟩ = some (.slice g.a k g.cap)) (first | exact s2 | (simp [go_sem, *]; done))
        (first
        | (go_at_call 66; refine (same_any g.f.id g.f.kd g.f.ht g.f.col _ _ k _ _ _).mono ?_; rintro e w2 ⟨rfl, hb2⟩; have hB2 : Below wr.heap.size wr w2 := (Below.refl _ _).drew.trans (hb2.mono (by simp)); have s2 := keep10 (n := X) (m := b) (o1 := i * 5) (o2 := off + i * 5) hB2 (by omega) (by omega) (And.intro x0 (And.intro x1 (And.intro x2 (And.intro x3 (And.intro x4 (And.intro d0 (And.intro d1 (And.intro d2 (And.intro d3 d4))))))))); clear hb2))
      have hz2 := hB2.size
      have HB2 : Hid (Below wr.heap.size wr w2) := hB2
      have hPlt : ∀ (j : Nat) P, Ps[j]? = some P → P < wr.heap.size := fun j P h => by have := (HL.out.inc j P h).2; omega
      have HI2 : Hid (WInv w Ps gs i w2 ∧ ∀ (j : Nat) P, Ps[j]? = some P → P < w2.heap.size) := ⟨HI.out.below hB2 hPlt, fun j P h => by have := hPlt j P h; omega⟩
      clear hPlt
      have HBw2 : Hid (Below w0.heap.size w0 w2) := hBr.trans (hB2.mono hBr.size)
      obtain ⟨_, _, _, _, sx4, _, _, _, _, sd4⟩ := s2
      have q0 := (hB2.cell (p := ⟨o, 0, none⟩) (show o < wr.heap.size by omega)).trans o0
      have q1 := (hB2.cell (p := ⟨R, i, none⟩) (show R < wr.heap.size by omega)).trans r0
      have hL2 : LentP w2 P g.f.ps := HLP.out.but (S := fun _ => False) (But.of_below hB2) (by omega) (fun h => h)
      have HL2 : Hid (LentP w2 P g.f.ps) := hL2
      have t0 := hL2.e0
      have t1 := hL2.e1
      have t2 := hL2.e2
      have t3 := hL2.e3
      rw [← Hgi.out.2.2] at t0 t1 t2 t3
      have hk0 : (k : Int) < (k : Int) + 2 := by omega
      have hk1 : (k : Int) + 1 < (k : Int) + 2 := by omega
      have hbP : ¬ b = P := by omega
      have hPb : ¬ P = b := by omega
      clear hL2 hB2 x0 x1 x2 x3 x4 d0 d1 d2 d3 d4 o0 r0 HLP
      go_wp2
      go_loopw [7, 12] (fun okv jv wq => ∃ j : Nat, j ≤ k ∧ jv = .int .i64 (j : Int) ∧ okv = .bool true ∧ Hid (HalfP wq P g.f.ps j ∧ But (fun x => x = P) w2 wq)) (fun _ jv _ => k - (intOf jv).toNat)
      case atStart =>
        have h := HL2.out
        exact ⟨0, by omega, rfl, by first | rfl | simp, ⟨fun t ht => by omega, fun t x y _ e => h.pts t x y e, h.e0, h.e1, h.e2, h.e3, h.fz⟩, But.refl _ _⟩
      case round =>
        clear t0 t1 t2 t3
        obtain ⟨j, hj, rfl, rfl, HH⟩ := hrel
        have hz3 := HH.out.2.size
        by_cases hjk : j < k
        · obtain ⟨x, y, hxy⟩ : ∃ x y, g.f.ps[j]? = some (x, y) := ⟨_, _, List.getElem?_eq_getElem (by rw [← Hgi.out.2.2]; exact hjk)⟩
          obtain ⟨pb, po, x', y', ea, hpb, hxy', c1, c2⟩ := Hpts.out.at (k := j) (by rw [← Hgi.out.2.2]; exact hjk)
          rw [hxy] at hxy'
          cases hxy'
          have hBq : Below w0.heap.size w0 wr := HBw2.out.trans (HH.out.2.below (by have := HBw2.out.size; omega) (fun b hb => by omega))
          have u1 := (hBq.cell (p := ⟨pb, po + j * 2, none⟩) hpb).trans c1
          have u2 := (hBq.cell (p := ⟨pb, po + j * 2 + 1, none⟩) hpb).trans c2
          obtain ⟨v1, v2⟩ := HH.out.1.pts j x y (Nat.le_refl _) hxy
          have v3 := HH.out.1.fz (j * 2)
          have v4 := HH.out.1.fz (j * 2 + 1)
          have u3 := (HH.out.2.cell (o := off + i * 5 + 4) (show b < w2.heap.size by omega) hbP).trans sd4
          rw [ea] at u3
          have hbq : b < wr.heap.size := by omega
          have hpbP : ¬ pb = P := by omega
          have hPpb : ¬ P = pb := by omega
          have Hxy : Hid (g.f.ps[j]? = some (x, y)) := hxy
          have hjI : (j : Int) < (k : Int) := by omega
          have hjI2 : (j : Int) < (k : Int) + 2 := by omega
          clear hxy c1 c2 hBq
          go_wp2
          go_quiet (fail)
          go_wp2
          go_roundw
          case rel =>
            refine ⟨j + 1, by omega, by go_num, by first | rfl | simp, ?_, ?_⟩
            · exact half_step (W := wr.drewN nq) ⟨HH.out.1.ink, HH.out.1.pts, HH.out.1.e0, HH.out.1.e1, HH.out.1.e2, HH.out.1.e3, HH.out.1.fz⟩ (by rw [← Hgi.out.2.2]; exact hjk) Hxy.out
            · exact ((HH.out.2.drewN nq).setCell (p := ⟨P, j * 2, none⟩) (.inl rfl) _).setCell (p := ⟨P, j * 2 + 1, none⟩) (.inl rfl) _
          case measure => simp [intOf]; omega
        · obtain rfl : j = k := by omega
          have HD : Hid (InkP wr P g.f.ps.length) := half_done (by rw [← Hgi.out.2.2]; exact HH.out.1)
          have HBq : Hid (But (fun x => x = P) w2 wr) := HH.out.2
          have x4' := (HH.out.2.cell (o := i * 5 + 4) (show X < w2.heap.size by omega) (by omega)).trans sx4
          have hXq : X < wr.heap.size := by omega
          clear HH
          go_wp2
          go_loopw [7, 13] (fun okv jv wq => ∃ t q : Nat, t ≤ j ∧ jv = .int .i64 (t : Int) ∧ okv = .bool true ∧ wq = wr.drewN q) (fun _ jv _ => j - (intOf jv).toNat)
          case atStart => exact ⟨0, 0, by omega, rfl, rfl, rfl⟩
          case round =>
            obtain ⟨t, q, ht, rfl, rfl, rfl⟩ := hrel
            by_cases htj : t < j
            · obtain ⟨v1, v2⟩ := HD.out t (by rw [← Hgi.out.2.2]; omega)
              have htI : (t : Int) < (j : Int) := by omega
              go_wp2
              exact ⟨⟨t + 1, q, by omega, by go_num, rfl, rfl⟩, by simp [intOf]; omega⟩
            · go_wp2
              go_roundw
              case rel => exact ⟨i + 1, by omega, by go_num, rfl, winv_step HI2.out.1 (HBq.out.drewN q) (fun t ht => HD.out t ht) Hgi.out.2.1 Hgi.out.1 HL.out.pw HI2.out.2⟩
              case measure => simp [intOf]; omega
    · obtain rfl : i = n := by omega
      -- what the owner writes over at last
      have hzr := HI.out.but.size
      have HBX : Hid (∀ c, wr.cell? ⟨X, c, none⟩ = w.cell? ⟨X, c, none⟩) := fun c => HI.out.but.cell hXl HnX.out.1
      have HFX : Hid (∀ c, wr.frozen? ⟨X, c, none⟩ = false) := fun c => (HI.out.but.frozen hXl HnX.out.1).trans (HL.out.xf c)
      have HXa : Hid (∀ j, j < i + 2 → ∃ v0 v1 v2 v3 v4, wr.cell? ⟨X, j * 5, none⟩ = some v0 ∧ wr.cell? ⟨X, j * 5 + 1, none⟩ = some v1 ∧ wr.cell? ⟨X, j * 5 + 2, none⟩ = some v2 ∧ wr.cell? ⟨X, j * 5 + 3, none⟩ = some v3 ∧ wr.cell? ⟨X, j * 5 + 4, none⟩ = some v4) := fun j hj => by
        rcases Nat.lt_trichotomy j i with h1 | h1 | h1
        · obtain ⟨P, hP⟩ : ∃ P, Ps[j]? = some P := ⟨Ps[j]'(by rw [HL.out.len, ← Hn.out]; exact h1), List.getElem?_eq_getElem _⟩
          obtain ⟨g, hg⟩ : ∃ g, gs[j]? = some g := ⟨gs[j]'(by rw [← Hn.out]; exact h1), List.getElem?_eq_getElem _⟩
          have := HL.out.xs j P g hP hg
          exact ⟨_, _, _, _, _, (HBX.out _).trans this.c0, (HBX.out _).trans this.c1, (HBX.out _).trans this.c2, (HBX.out _).trans this.c3, (HBX.out _).trans this.c4⟩
        · subst h1
          have := HL.out.t0
          exact ⟨_, _, _, _, _, (HBX.out _).trans this.c0, (HBX.out _).trans this.c1, (HBX.out _).trans this.c2, (HBX.out _).trans this.c3, (HBX.out _).trans this.c4⟩
        · obtain rfl : j = i + 1 := by omega
          have := HL.out.t1
          exact ⟨_, _, _, _, _, (HBX.out _).trans this.c0, (HBX.out _).trans this.c1, (HBX.out _).trans this.c2, (HBX.out _).trans this.c3, (HBX.out _).trans this.c4⟩
      go_wp2
      go_loopw [14] (fun jv wq => ∃ j : Nat, j ≤ i + 2 ∧ jv = .int .i64 (j : Int) ∧ Hid ((∀ t, t < j → XZ wq X t ink) ∧ (∀ t, j ≤ t → t < i + 2 → ∃ v0 v1 v2 v3 v4, wq.cell? ⟨X, t * 5, none⟩ = some v0 ∧ wq.cell? ⟨X, t * 5 + 1, none⟩ = some v1 ∧ wq.cell? ⟨X, t * 5 + 2, none⟩ = some v2 ∧ wq.cell? ⟨X, t * 5 + 3, none⟩ = some v3 ∧ wq.cell? ⟨X, t * 5 + 4, none⟩ = some v4) ∧ (∀ c, wq.frozen? ⟨X, c, none⟩ = false) ∧ But (fun b => b = X) wr wq)) (fun jv _ => i + 2 - (intOf jv).toNat)
      case atStart => exact ⟨0, by omega, rfl, fun t ht => by omega, fun t _ ht => HXa.out t ht, HFX.out, But.refl _ _⟩
      case round =>
        obtain ⟨j, hj, rfl, HJ⟩ := hrel
        by_cases hjn : j < i + 2
        · obtain ⟨v0, v1, v2, v3, v4, c0, c1, c2, c3, c4⟩ := HJ.out.2.1 j (Nat.le_refl _) hjn
          have y0 := HJ.out.2.2.1 (j * 5)
          have y1 := HJ.out.2.2.1 (j * 5 + 1)
          have y2 := HJ.out.2.2.1 (j * 5 + 2)
          have y3 := HJ.out.2.2.1 (j * 5 + 3)
          have y4 := HJ.out.2.2.1 (j * 5 + 4)
          have hjI : (j : Int) < (i : Int) + 2 := by omega
          go_wp2
          refine ⟨⟨j + 1, by omega, by go_num, ?_⟩, by simp [intOf]; omega⟩
          show (∀ t, t < j + 1 → XZ (set5X wr X j) X t ink) ∧ _
          refine ⟨fun t ht => ?_, fun t h1 h2 => ?_, fun c => (set5X_fz _ _ _ _).trans (HJ.out.2.2.1 c), HJ.out.2.2.2.trans (set5X_but wr X j)⟩
          · by_cases e : t = j
            · subst e; exact set5X_at c0 c1 c2 c3 c4
            · exact (HJ.out.1 t (by omega)).congr (fun c hc => set5X_far _ _ _ _ (by omega))
          · obtain ⟨w0', w1', w2', w3', w4', e0, e1, e2, e3, e4⟩ := HJ.out.2.1 t (by omega) h2
            exact ⟨w0', w1', w2', w3', w4', (set5X_far _ _ _ _ (by omega)).trans e0, (set5X_far _ _ _ _ (by omega)).trans e1, (set5X_far _ _ _ _ (by omega)).trans e2, (set5X_far _ _ _ _ (by omega)).trans e3, (set5X_far _ _ _ _ (by omega)).trans e4⟩
        · have HFin : Hid (Stilled N wr o X i Ps gs ∧ But (fun b => b = X ∨ b ∈ Ps) w wr) := by
            have hb1 := HI.out.but
            have hb2 := HJ.out.2.2.2
            have hzz := hb2.size
            obtain ⟨x, hx⟩ := HL.out.x0 Hn.out
            have hFX : F ≠ X := fun e => by rw [e, hx] at f0; cases f0
            have hbt : But (fun b => b = X ∨ b ∈ Ps) w wr := (hb1.mono (fun b h => .inr h)).trans (hb2.mono (fun b h => .inl h))
            refine ⟨⟨HL.out.len, Hn.out, by omega, ?_, ⟨F, fc, (hbt.cell (by omega) (fun h => by rcases h with h | h; omega; exact HnX.out.2.1 h)).trans f1, hFN, by omega, (hbt.cell hFl (fun h => by rcases h with h | h; exact hFX h; exact HnX.out.2.2 h)).trans f0⟩, fun t ht => HJ.out.1 t (by omega), hXN, by omega, fun t P g hP hg => ?_⟩, hbt⟩
            · refine ⟨ra, rc, ?_, ?_⟩
              · rw [← Hn.out]
                exact (hbt.cell (by omega) (fun h => by rcases h with h | h; omega; exact HnX.out.2.1 h)).trans p0
              · rcases Hpl.out with h | ⟨R, h1, h2, h3, h4⟩
                · exact .inl h
                · by_cases hge : gs = []
                  · exact .inl hge
                  · have hpos := List.length_pos_iff.2 hge
                    obtain ⟨P0, hP0⟩ : ∃ P0, Ps[0]? = some P0 := ⟨Ps[0]'(by rw [HL.out.len]; exact hpos), List.getElem?_eq_getElem _⟩
                    obtain ⟨g0, hg0⟩ : ∃ g0, gs[0]? = some g0 := ⟨gs[0]'hpos, List.getElem?_eq_getElem _⟩
                    have hR0 := h4 0 P0 g0 hP0 hg0
                    have hRX : R ≠ X := fun e => by rw [e, hx] at hR0; cases hR0
                    have hRP : R ∉ Ps := HL.out.not_mem hR0
                    exact .inr ⟨R, h1, h2, by omega, fun t P g hP hg => (hbt.cell h3 (fun h => by rcases h with h | h; exact hRX h; exact hRP h)).trans (h4 t P g hP hg)⟩
            · have hi := HL.out.inc t P hP
              have htl := (List.getElem?_eq_some_iff.1 hP).1
              exact ⟨by omega, by omega, (HI.out.inked t P g (by rw [HL.out.len, ← Hn.out] at htl; exact htl) hP hg).but hb2 (by omega) (by omega)⟩
          go_wp2
          go_ret
          exact ⟨rfl, HFin.out.1, HFin.out.2⟩

end Go.Proofs.YtenaepdmlknlcaaGreatDoor

namespace Go.Proofs.YtenaepdmlknlcaaGreatDoor
open Go.RowKit Go.Shelf

theorem Stilled.but {N : Nat} {S : Nat → Prop} {A B : World} {o X n : Nat} {Ps : List Nat} {gs : List FG} (h : Stilled N A o X n Ps gs) (hb : But S A B) (hS : ∀ b, S b → b ≠ o ∧ (b < N ∨ A.heap.size ≤ b)) : Stilled N B o X n Ps gs := by
  obtain ⟨h1, h2, h3, ⟨ra, rc, p0, hp⟩, ⟨F, fc, f1, fN, f2, f3⟩, h6, hxN, h7, h8⟩ := h
  have hz := hb.size
  have ho : ¬ S o := fun h => (hS o h).1 rfl
  have hn : ∀ b, N ≤ b → b < A.heap.size → ¬ S b := fun b hb hl h => by have := (hS b h).2; omega
  have hc : ∀ b c, N ≤ b → b < A.heap.size → B.cell? ⟨b, c, none⟩ = A.cell? ⟨b, c, none⟩ := fun b c h1 h2 => hb.cell h2 (hn b h1 h2)
  exact ⟨h1, h2, by omega, ⟨ra, rc, (hb.cell h3 ho).trans p0, hp.imp id (fun ⟨R, e, hN, hR, hj⟩ => ⟨R, e, hN, by omega, fun j P g hP hg => (hc _ _ hN hR).trans (hj j P g hP hg)⟩)⟩, ⟨F, fc, (hb.cell h3 ho).trans f1, fN, by omega, (hc _ _ fN f2).trans f3⟩, fun j hj => (h6 j hj).congr (fun c _ => hc _ _ hxN h7), hxN, by omega, fun j P g hP hg => ⟨(h8 j P g hP hg).1, by have := (h8 j P g hP hg).2.1; omega, fun t ht => ⟨(hc _ _ (h8 j P g hP hg).1 (h8 j P g hP hg).2.1).trans ((h8 j P g hP hg).2.2 t ht).1, (hc _ _ (h8 j P g hP hg).1 (h8 j P g hP hg).2.1).trans ((h8 j P g hP hg).2.2 t ht).2⟩⟩⟩

set_option maxRecDepth 100000 in
set_option maxHeartbeats 4000000 in
theorem still_any (o X n : Nat) (Ps : List Nat) (gs : List FG) (w : World) {N : Nat} (hS : Stilled N w o X n Ps gs) (hn2 : n ≤ 2600000000000) (hk : ∀ g ∈ gs, g.f.ps.length ≤ 8800000000000) :
    Calls Tryz.prog 13 #[.pointer (some ⟨o, 0, none⟩)] w fun e w' => e = .returned (.bool true) ∧ Below w.heap.size w w' := by
  have HS : Hid (Stilled N w o X n Ps gs) := hS
  have Hk : Hid (∀ g ∈ gs, g.f.ps.length ≤ 8800000000000) := hk
  have Hn : Hid (n = gs.length) := hS.num
  obtain ⟨ra, rc, p0, hpl⟩ := hS.pl
  obtain ⟨F, fc, f1, _, hFl, f0⟩ := hS.fl
  have hol := hS.olt
  have hXl := hS.xlt
  have Hpl : Hid _ := hpl
  rw [← hS.num] at p0
  clear hS hk hpl
  go_enter Tryz.func13, Tryz.ntmps13
  go_wp2
  go_loop [3] (fun iv => ∃ i : Nat, i ≤ n ∧ iv = .int .i64 (i : Int)) (fun iv => n - (intOf iv).toNat)
  case atStart => exact ⟨0, by omega, rfl⟩
  case round =>
    obtain ⟨i, hi, rfl⟩ := hrel
    by_cases hlt : i < n
    · obtain ⟨g, hg⟩ : ∃ g, gs[i]? = some g := ⟨gs[i]'(by rw [← Hn.out]; exact hlt), List.getElem?_eq_getElem _⟩
      obtain ⟨P, hP⟩ : ∃ P, Ps[i]? = some P := ⟨Ps[i]'(by rw [HS.out.len, ← Hn.out]; exact hlt), List.getElem?_eq_getElem _⟩
      obtain ⟨R, rfl, _, hRl, hRc⟩ := Hpl.out.resolve_left (fun e => by rw [e] at hg; simp at hg)
      have r0 := hRc i P g hP hg
      rw [slP] at r0
      have hkl := Hk.out g (List.mem_of_getElem? hg)
      obtain ⟨_, hPl, hIn⟩ := HS.out.ps i P g hP hg
      obtain ⟨k, hkk⟩ : ∃ k, k = g.f.ps.length := ⟨_, rfl⟩
      rw [← hkk] at r0 hkl hIn
      have HIn : Hid (InkP w P k) := hIn
      clear hRc hg hP hIn hkk
      have hiI : (i : Int) < (n : Int) := by omega
      go_wp2
      go_loop [4] (fun jv => ∃ j : Nat, j ≤ k + 2 ∧ jv = .int .i64 (j : Int)) (fun jv => k + 2 - (intOf jv).toNat)
      case atStart => exact ⟨0, by omega, rfl⟩
      case round =>
        obtain ⟨j, hj, rfl⟩ := hrel
        by_cases hjk : j < k + 2
        · obtain ⟨v1, v2⟩ := HIn.out j hjk
          have hjI : (j : Int) < (k : Int) + 2 := by omega
          go_wp2
          all_goals first
            | (go_round; case rel => exact ⟨j + 1, by omega, by go_num⟩; case measure => simp [intOf]; omega)
            | exact ⟨⟨j + 1, by omega, by go_num⟩, by simp [intOf]; omega⟩
        · go_wp2
          all_goals first
            | (go_round; case rel => exact ⟨i + 1, by omega, by go_num⟩; case measure => simp [intOf]; omega)
            | exact ⟨⟨i + 1, by omega, by go_num⟩, by simp [intOf]; omega⟩
    · go_wp2
      go_loopw [5] (fun iv wr => ∃ t : Nat, t ≤ 1 ∧ iv = .int .i64 (t : Int) ∧ Below w.heap.size w wr) (fun iv _ => 1 - (intOf iv).toNat)
      case atStart => exact ⟨0, by omega, rfl, Below.refl _ _⟩
      case round =>
        obtain ⟨t, ht, rfl, hB⟩ := hrel
        have q1 := (hB.cell (p := ⟨o, 1, none⟩) hol).trans f1
        have q0 := (hB.cell (p := ⟨F, 0, none⟩) hFl).trans f0
        by_cases ht0 : t < 1
        · obtain rfl : t = 0 := by omega
          go_wp2
          go_loopw [6] (fun kv wq => ∃ k : Nat, k ≤ n + 2 ∧ kv = .int .i64 (k : Int) ∧ Below w.heap.size w wq) (fun kv _ => n + 2 - (intOf kv).toNat)
          case atStart => exact ⟨0, by omega, rfl, hB⟩
          case round =>
            clear q1 q0
            obtain ⟨k, hk, rfl, hB2⟩ := hrel
            have q1 := (hB2.cell (p := ⟨o, 1, none⟩) hol).trans f1
            have q0 := (hB2.cell (p := ⟨F, 0, none⟩) hFl).trans f0
            have hz2 := hB2.size
            by_cases hkn : k < n + 2
            · obtain ⟨x0, x1, x2, x3, x4⟩ := HS.out.xz k hkn
              have y0 := (hB2.cell (p := ⟨X, k * 5, none⟩) hXl).trans x0
              have y1 := (hB2.cell (p := ⟨X, k * 5 + 1, none⟩) hXl).trans x1
              have y2 := (hB2.cell (p := ⟨X, k * 5 + 2, none⟩) hXl).trans x2
              have y3 := (hB2.cell (p := ⟨X, k * 5 + 3, none⟩) hXl).trans x3
              have y4 := (hB2.cell (p := ⟨X, k * 5 + 4, none⟩) hXl).trans x4
              have hkI : (k : Int) < (n : Int) + 2 := by omega
              clear x0 x1 x2 x3 x4
              go_wp2
              exact ⟨⟨k + 1, by omega, by go_num, hB2.alloc hB2.size _⟩, by simp [intOf]; omega⟩
            · go_wp2
              go_roundw
              case rel => exact ⟨1, by omega, by go_num, hB2⟩
              case measure => simp [intOf]
        · go_wp2
          go_ret
          exact ⟨rfl, hB⟩

end Go.Proofs.YtenaepdmlknlcaaGreatDoor
