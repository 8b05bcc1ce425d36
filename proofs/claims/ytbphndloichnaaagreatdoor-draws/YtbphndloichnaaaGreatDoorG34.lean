import Derived.Test.YtbphndloichnaaaGreatDoorG33
namespace Go.Proofs.YtbphndloichnaaaGreatDoor
open Go.RowKit Go.Shelf

/-- The example lies in memory. -/
theorem feats_g0 (W : World) : FeatsGO ((W.alloc (.cells #[.int .i64 40, .int .i64 0] 29)).alloc (.cells #[.int .i64 1, .int .i64 1, .int .i64 0, .int .i64 3, .slice (some ⟨W.heap.size, 0, none⟩) 1 1] 32)) (some ⟨W.heap.size + 1, 0, none⟩) [g0 W.heap.size] := by
  refine .inr ⟨W.heap.size + 1, 0, rfl, by simp, fun i g e => ?_⟩
  have hi : i = 0 := by
    cases i with
    | zero => rfl
    | succ i => simp at e
  subst hi
  obtain rfl : g0 W.heap.size = g := by simpa using e
  refine ⟨by simp [go_sem, g0], by simp [go_sem, g0], by simp [go_sem, g0], by simp [go_sem, g0], by simp [go_sem, g0], .inr ⟨W.heap.size, 0, rfl, by simp; omega, fun k x y e => ?_⟩, by simp [g0], by simp [g0]⟩
  have hk : k = 0 := by
    cases k with
    | zero => rfl
    | succ k => simp [g0] at e
  subst hk
  obtain ⟨rfl, rfl⟩ : (40 : Int) = x ∧ (0 : Int) = y := by simpa [g0] using e
  exact ⟨by simp [go_sem], by simp [go_sem]⟩

/-- A box of its own, as it lies when it is new. -/
structure OwnNew (W : World) (o : Nat) : Prop where
  lt : o < W.heap.size
  c0 : W.cell? ⟨o, 0, none⟩ = some (.slice none 0 0)
  c1 : W.cell? ⟨o, 1, none⟩ = some (.slice none 0 0)
  fo : ∀ j, W.frozen? ⟨o, j, none⟩ = false
theorem OwnNew.but {S : Nat → Prop} {A B : World} {o : Nat} (h : OwnNew A o) (hb : But S A B) (hs : ¬ S o) : OwnNew B o :=
  ⟨Nat.lt_of_lt_of_le h.lt hb.size, (hb.cell h.lt hs).trans h.c0, (hb.cell h.lt hs).trans h.c1, fun j => (hb.frozen h.lt hs).trans (h.fo j)⟩
theorem OwnNew.mk' (W : World) : OwnNew (W.alloc (.cells #[.slice none 0 0, .slice none 0 0, .slice none 0 0] 37)) W.heap.size :=
  ⟨by simp, by simp [go_sem], by simp [go_sem], fun j => by simp [go_sem]⟩
/-- A tile in its box. -/
structure TileIn (W : World) (b : Nat) (z c r : Int) : Prop where
  lt : b < W.heap.size
  c0 : W.cell? ⟨b, 0, none⟩ = some (.int .i64 z)
  c1 : W.cell? ⟨b, 1, none⟩ = some (.int .i64 c)
  c2 : W.cell? ⟨b, 2, none⟩ = some (.int .i64 r)
theorem TileIn.but {S : Nat → Prop} {A B : World} {b : Nat} {z c r : Int} (h : TileIn A b z c r) (hb : But S A B) (hs : ¬ S b) : TileIn B b z c r :=
  ⟨Nat.lt_of_lt_of_le h.lt hb.size, (hb.cell h.lt hs).trans h.c0, (hb.cell h.lt hs).trans h.c1, (hb.cell h.lt hs).trans h.c2⟩
theorem TileIn.mk' (W : World) (z c r : Int) : TileIn (W.alloc (.cells #[.int .i64 z, .int .i64 c, .int .i64 r] 24)) W.heap.size z c r :=
  ⟨by simp, by simp [go_sem], by simp [go_sem], by simp [go_sem]⟩

set_option maxRecDepth 100000 in
set_option maxHeartbeats 4000000 in
theorem Draws_any (a a' : Option Addr) (n n' cap cap' : Nat) (gs gs' : List FG) (z c r z' c' r' : Int) (w : World) (hf : FeatsGO w a gs) (hn : n = gs.length) (hn2 : n ≤ 2600000000000) (hk : ∀ g ∈ gs, g.f.ps.length ≤ 8800000000000)
    (hf' : FeatsGO w a' gs') (hn' : n' = gs'.length) (hn2' : n' ≤ 2600000000000) (hk' : ∀ g ∈ gs', g.f.ps.length ≤ 8800000000000)
    (htab : w.cell? ⟨3, 15, none⟩ = some (.int .u8 4)) (hw3 : 3 < w.heap.size) :
    Calls Tryz.prog 3 #[.slice a n cap, .agg #[.int .i64 z, .int .i64 c, .int .i64 r], .slice a' n' cap', .agg #[.int .i64 z', .int .i64 c', .int .i64 r']] w fun e w' => e = .returned (.bool true) ∧ Below w.heap.size w w' := by
  have Hf : Hid (FeatsGO w a gs) := hf
  have Hn : Hid (n = gs.length) := hn
  have Hk : Hid (∀ g ∈ gs, g.f.ps.length ≤ 8800000000000) := hk
  have Hf' : Hid (FeatsGO w a' gs') := hf'
  have Hn' : Hid (n' = gs'.length) := hn'
  have Hk' : Hid (∀ g ∈ gs', g.f.ps.length ≤ 8800000000000) := hk'
  have Htab : Hid (w.cell? ⟨3, 15, none⟩ = some (.int .u8 4)) := htab
  clear hf hn hk hf' hn' hk' htab
  obtain ⟨m, hm⟩ := drawV_g0 (w.heap.size + 1 + 1)
  have HDraw : Hid (Calls Tryz.prog 11 #[.slice (some ⟨w.heap.size + 1 + 1 + 1, 0, none⟩) 1 1, .agg #[.int .i64 0, .int .i64 0, .int .i64 0]] ((((w.alloc (.cells #[.int .i64 z, .int .i64 c, .int .i64 r] 24)).alloc (.cells #[.int .i64 z', .int .i64 c', .int .i64 r'] 24)).alloc (.cells #[.int .i64 40, .int .i64 0] 29)).alloc (.cells #[.int .i64 1, .int .i64 1, .int .i64 0, .int .i64 3, .slice (some ⟨w.heap.size + 1 + 1, 0, none⟩) 1 1] 32)) fun e w' => e = .returned (.tuple #[.string m, .string ⟨#[49, 120, 48, 44, 49, 120, 51, 44, 54, 50, 120, 48]⟩, .int .i64 0]) ∧ Below w.heap.size w w' ∧ TileIn w' w.heap.size z c r ∧ TileIn w' (w.heap.size + 1) z' c' r' ∧ w.heap.size + 4 ≤ w'.heap.size) := by
    have hB : Below w.heap.size w (w.alloc (.cells #[.int .i64 z, .int .i64 c, .int .i64 r] 24)) := (Below.refl _ _).alloc (Nat.le_refl _) _
    have hB2 := hB.alloc (by simp) (.cells #[.int .i64 z', .int .i64 c', .int .i64 r'] 24)
    have hB3 := hB2.alloc (by simp; omega) (.cells #[.int .i64 40, .int .i64 0] 29)
    have hB4 := hB3.alloc (by simp; omega) (.cells #[.int .i64 1, .int .i64 1, .int .i64 0, .int .i64 3, .slice (some ⟨w.heap.size + 1 + 1, 0, none⟩) 1 1] 32)
    have hT := TileIn.mk' w z c r
    have hf := feats_g0 ((w.alloc (.cells #[.int .i64 z, .int .i64 c, .int .i64 r] 24)).alloc (.cells #[.int .i64 z', .int .i64 c', .int .i64 r'] 24))
    have hT' := TileIn.mk' (w.alloc (.cells #[.int .i64 z, .int .i64 c, .int .i64 r] 24)) z' c' r'
    simp only [World.size_alloc] at hf hT'
    have := Draw_any (some ⟨w.heap.size + 1 + 1 + 1, 0, none⟩) 1 1 [g0 (w.heap.size + 1 + 1)] 0 0 0 _ hf rfl (by omega) ((hB4.cell (p := ⟨3, 15, none⟩) hw3).trans Htab.out) (by simp only [World.size_alloc]; omega)
    rw [hm] at this
    refine this.mono fun e w' ⟨he, hb⟩ => ?_
    have hz := hb.size
    simp at hz
    have hN : ∀ (A : World) (o1 : Obj), But (fun _ => False) A (A.alloc o1) := fun A o1 => But.of_below ((Below.refl _ _).alloc (Nat.le_refl _) _)
    refine ⟨he, hB4.trans (hb.mono (by simp; omega)), ?_, ?_, by omega⟩
    · exact ((((hT.but (hN _ _) (fun h => h)).but (hN _ _) (fun h => h)).but (hN _ _) (fun h => h)).but (But.of_below (S := fun _ => False) hb) (fun h => h))
    · exact ((((hT'.but (hN _ _) (fun h => h)).but (hN _ _) (fun h => h))).but (But.of_below (S := fun _ => False) hb) (fun h => h))
  clear hm
  go_enter Tryz.func3, Tryz.ntmps3
  go_upto_region 3 with (go_at_call 11; refine Calls.mono HDraw.out ?_; rintro e w1 ⟨rfl, hb1, hT, hT', hz1⟩)
  have hbA : Below w1.heap.size w1 (((w1.alloc (.cells #[.slice none 0 0, .slice none 0 0, .slice none 0 0] 37)).alloc (.cells #[.slice none 0 0, .slice none 0 0, .slice none 0 0] 37)).alloc (.cells #[.slice none 0 0, .slice none 0 0, .slice none 0 0] 37)) := by
    have h1 : Below w1.heap.size w1 (w1.alloc (.cells #[.slice none 0 0, .slice none 0 0, .slice none 0 0] 37)) := (Below.refl _ _).alloc (Nat.le_refl _) _
    have h2 := h1.alloc (by simp) (.cells #[.slice none 0 0, .slice none 0 0, .slice none 0 0] 37)
    exact h2.alloc (by simp; omega) (.cells #[.slice none 0 0, .slice none 0 0, .slice none 0 0] 37)
  have hN : ∀ (A : World) (o1 : Obj), But (fun _ => False) A (A.alloc o1) := fun A o1 => But.of_below ((Below.refl _ _).alloc (Nat.le_refl _) _)
  have hO1 : OwnNew (((w1.alloc (.cells #[.slice none 0 0, .slice none 0 0, .slice none 0 0] 37)).alloc (.cells #[.slice none 0 0, .slice none 0 0, .slice none 0 0] 37)).alloc (.cells #[.slice none 0 0, .slice none 0 0, .slice none 0 0] 37)) w1.heap.size := ((OwnNew.mk' w1).but (hN _ _) (fun h => h)).but (hN _ _) (fun h => h)
  have hO2 : OwnNew (((w1.alloc (.cells #[.slice none 0 0, .slice none 0 0, .slice none 0 0] 37)).alloc (.cells #[.slice none 0 0, .slice none 0 0, .slice none 0 0] 37)).alloc (.cells #[.slice none 0 0, .slice none 0 0, .slice none 0 0] 37)) (w1.heap.size + 1) := by
    have := ((OwnNew.mk' (w1.alloc (.cells #[.slice none 0 0, .slice none 0 0, .slice none 0 0] 37))).but (hN _ (.cells #[.slice none 0 0, .slice none 0 0, .slice none 0 0] 37)) (fun h => h))
    rwa [World.size_alloc] at this
  have hO3 : OwnNew (((w1.alloc (.cells #[.slice none 0 0, .slice none 0 0, .slice none 0 0] 37)).alloc (.cells #[.slice none 0 0, .slice none 0 0, .slice none 0 0] 37)).alloc (.cells #[.slice none 0 0, .slice none 0 0, .slice none 0 0] 37)) (w1.heap.size + 1 + 1) := by
    have := OwnNew.mk' ((w1.alloc (.cells #[.slice none 0 0, .slice none 0 0, .slice none 0 0] 37)).alloc (.cells #[.slice none 0 0, .slice none 0 0, .slice none 0 0] 37))
    rwa [World.size_alloc, World.size_alloc] at this
  have HT : Hid (TileIn (((w1.alloc (.cells #[.slice none 0 0, .slice none 0 0, .slice none 0 0] 37)).alloc (.cells #[.slice none 0 0, .slice none 0 0, .slice none 0 0] 37)).alloc (.cells #[.slice none 0 0, .slice none 0 0, .slice none 0 0] 37)) w.heap.size z c r) := hT.but (But.of_below (S := fun _ => False) hbA) (fun h => h)
  have HT' : Hid (TileIn (((w1.alloc (.cells #[.slice none 0 0, .slice none 0 0, .slice none 0 0] 37)).alloc (.cells #[.slice none 0 0, .slice none 0 0, .slice none 0 0] 37)).alloc (.cells #[.slice none 0 0, .slice none 0 0, .slice none 0 0] 37)) (w.heap.size + 1) z' c' r') := hT'.but (But.of_below (S := fun _ => False) hbA) (fun h => h)
  have hz2 : (((w1.alloc (.cells #[.slice none 0 0, .slice none 0 0, .slice none 0 0] 37)).alloc (.cells #[.slice none 0 0, .slice none 0 0, .slice none 0 0] 37)).alloc (.cells #[.slice none 0 0, .slice none 0 0, .slice none 0 0] 37)).heap.size = w1.heap.size + 3 := by simp only [World.size_alloc]
  have HB2 : Hid (Below w.heap.size w (((w1.alloc (.cells #[.slice none 0 0, .slice none 0 0, .slice none 0 0] 37)).alloc (.cells #[.slice none 0 0, .slice none 0 0, .slice none 0 0] 37)).alloc (.cells #[.slice none 0 0, .slice none 0 0, .slice none 0 0] 37))) := hb1.trans (hbA.mono (by omega))
  have HO2 : Hid (OwnNew (((w1.alloc (.cells #[.slice none 0 0, .slice none 0 0, .slice none 0 0] 37)).alloc (.cells #[.slice none 0 0, .slice none 0 0, .slice none 0 0] 37)).alloc (.cells #[.slice none 0 0, .slice none 0 0, .slice none 0 0] 37)) (w1.heap.size + 1)) := hO2
  have HO3 : Hid (OwnNew (((w1.alloc (.cells #[.slice none 0 0, .slice none 0 0, .slice none 0 0] 37)).alloc (.cells #[.slice none 0 0, .slice none 0 0, .slice none 0 0] 37)).alloc (.cells #[.slice none 0 0, .slice none 0 0, .slice none 0 0] 37)) (w1.heap.size + 1 + 1)) := hO3
  have HD1 : Hid (Calls Tryz.prog 12 #[.pointer (some ⟨w1.heap.size, 0, none⟩), .slice a n cap, .agg #[.int .i64 z, .int .i64 c, .int .i64 r]] (((w1.alloc (.cells #[.slice none 0 0, .slice none 0 0, .slice none 0 0] 37)).alloc (.cells #[.slice none 0 0, .slice none 0 0, .slice none 0 0] 37)).alloc (.cells #[.slice none 0 0, .slice none 0 0, .slice none 0 0] 37)) fun e w' => e = .returned (.bool true) ∧ (∃ (X : Nat) (Ps : List Nat), Stilled (w1.heap.size + 1 + 1 + 1 + 1) w' w1.heap.size X n Ps gs) ∧ But (fun b => b = w1.heap.size) (((w1.alloc (.cells #[.slice none 0 0, .slice none 0 0, .slice none 0 0] 37)).alloc (.cells #[.slice none 0 0, .slice none 0 0, .slice none 0 0] 37)).alloc (.cells #[.slice none 0 0, .slice none 0 0, .slice none 0 0] 37)) w') := by
    have := draw_any w1.heap.size n cap a gs z c r w (((w1.alloc (.cells #[.slice none 0 0, .slice none 0 0, .slice none 0 0] 37)).alloc (.cells #[.slice none 0 0, .slice none 0 0, .slice none 0 0] 37)).alloc (.cells #[.slice none 0 0, .slice none 0 0, .slice none 0 0] 37)) HB2.out (by omega) hO1.lt Hf.out Hn.out hn2 Hk.out Htab.out hw3 hO1.c0 hO1.c1 hO1.fo
    have e : (((w1.alloc (.cells #[.slice none 0 0, .slice none 0 0, .slice none 0 0] 37)).alloc (.cells #[.slice none 0 0, .slice none 0 0, .slice none 0 0] 37)).alloc (.cells #[.slice none 0 0, .slice none 0 0, .slice none 0 0] 37)).heap.size + 1 = w1.heap.size + 1 + 1 + 1 + 1 := by simp only [World.size_alloc]
    rw [e] at this
    exact this
  have s0 := HT.out.c0
  have s1 := HT.out.c1
  have s2 := HT.out.c2
  have t0 := hT.c0
  have t1 := hT.c1
  have t2 := hT.c2
  clear hO1 hO2 hO3 hT hT' hbA hN
  go_upto_region 9 with (go_at_call 12; refine Calls.mono HD1.out ?_; rintro e w3 ⟨rfl, ⟨X1, Ps1, hS1⟩, hb3⟩)
  have hz3 : w1.heap.size + 3 ≤ w3.heap.size := by have := hb3.size; omega
  have HT3 : Hid (TileIn w3 w.heap.size z c r) := HT.out.but hb3 (by omega)
  have hT3' : TileIn w3 (w.heap.size + 1) z' c' r' := HT'.out.but hb3 (by omega)
  have HB3 : Hid (Below w.heap.size w w3) := HB2.out.trans (hb3.below (by omega) (fun b hb => by omega))
  have hO2 : OwnNew w3 (w1.heap.size + 1) := HO2.out.but hb3 (by omega)
  have HO3' : Hid (OwnNew w3 (w1.heap.size + 1 + 1)) := HO3.out.but hb3 (by omega)
  have HS1 : Hid (Stilled (w1.heap.size + 1 + 1 + 1 + 1) w3 w1.heap.size X1 n Ps1 gs) := hS1
  have HD2 : Hid (Calls Tryz.prog 12 #[.pointer (some ⟨w1.heap.size + 1, 0, none⟩), .slice a' n' cap', .agg #[.int .i64 z', .int .i64 c', .int .i64 r']] w3 fun e w' => e = .returned (.bool true) ∧ (∃ (X : Nat) (Ps : List Nat), Stilled (w3.heap.size + 1) w' (w1.heap.size + 1) X n' Ps gs') ∧ But (fun b => b = w1.heap.size + 1) w3 w') :=
    draw_any (w1.heap.size + 1) n' cap' a' gs' z' c' r' w w3 HB3.out (by omega) hO2.lt Hf'.out Hn'.out hn2' Hk'.out Htab.out hw3 hO2.c0 hO2.c1 hO2.fo
  have u0 := hT3'.c0
  have u1 := hT3'.c1
  have u2 := hT3'.c2
  have hT3l := hT3'.lt
  clear hO2 hT3' s0 s1 s2 t0 t1 t2 HT HT' HO2 HO3 hS1 hb3 HD1 HB2
  go_upto_region 10 with (go_at_call 12; refine Calls.mono HD2.out ?_; rintro e w4 ⟨rfl, ⟨X2, Ps2, hS2⟩, hb4⟩)
  have hz4 := hb4.size
  have hT4 : TileIn w4 w.heap.size z c r := HT3.out.but hb4 (by omega)
  have HB4 : Hid (Below w.heap.size w w4) := HB3.out.trans (hb4.below (by omega) (fun b hb => by omega))
  have hO3 : OwnNew w4 (w1.heap.size + 1 + 1) := HO3'.out.but hb4 (by omega)
  have HS2 : Hid (Stilled (w3.heap.size + 1) w4 (w1.heap.size + 1) X2 n' Ps2 gs') := hS2
  have HS1' : Hid (Stilled (w1.heap.size + 1 + 1 + 1 + 1) w4 w1.heap.size X1 n Ps1 gs) := HS1.out.but hb4 (fun b hb => by omega)
  have HD3 : Hid (Calls Tryz.prog 12 #[.pointer (some ⟨w1.heap.size + 1 + 1, 0, none⟩), .slice a n cap, .agg #[.int .i64 z, .int .i64 c, .int .i64 r]] w4 fun e w' => e = .returned (.bool true) ∧ (∃ (X : Nat) (Ps : List Nat), Stilled (w4.heap.size + 1) w' (w1.heap.size + 1 + 1) X n Ps gs) ∧ But (fun b => b = w1.heap.size + 1 + 1) w4 w') :=
    draw_any (w1.heap.size + 1 + 1) n cap a gs z c r w w4 HB4.out (by omega) hO3.lt Hf.out Hn.out hn2 Hk.out Htab.out hw3 hO3.c0 hO3.c1 hO3.fo
  have s0 := hT4.c0
  have s1 := hT4.c1
  have s2 := hT4.c2
  have hT4l := hT4.lt
  clear hO3 hT4 u0 u1 u2 HT3 HO3' hS2 hb4 HD2 HB3 HS1
  go_upto_region 11 with (go_at_call 12; refine Calls.mono HD3.out ?_; rintro e w5 ⟨rfl, ⟨X3, Ps3, hS3⟩, hb5⟩)
  have hz5 := hb5.size
  have HB5 : Hid (Below w.heap.size w w5) := HB4.out.trans (hb5.below (by omega) (fun b hb => by omega))
  have HS3 : Hid (Stilled (w4.heap.size + 1) w5 (w1.heap.size + 1 + 1) X3 n Ps3 gs) := hS3
  have HS2' : Hid (Stilled (w3.heap.size + 1) w5 (w1.heap.size + 1) X2 n' Ps2 gs') := HS2.out.but hb5 (fun b hb => by omega)
  have HE1 : Hid (Calls Tryz.prog 13 #[.pointer (some ⟨w1.heap.size, 0, none⟩)] w5 fun e w' => e = .returned (.bool true) ∧ Below w5.heap.size w5 w') :=
    still_any w1.heap.size X1 n Ps1 gs w5 (HS1'.out.but hb5 (fun b hb => by omega)) hn2 Hk.out
  clear s0 s1 s2 hS3 hb5 HD3 HB4 HS1' HS2
  go_upto_region 12 with (go_at_call 13; refine Calls.mono HE1.out ?_; rintro e w6 ⟨rfl, hb6⟩)
  have HS3' : Hid (Stilled (w4.heap.size + 1) w6 (w1.heap.size + 1 + 1) X3 n Ps3 gs) := HS3.out.but (But.of_below (S := fun _ => False) hb6) (fun b hb => hb.elim)
  have HE2 : Hid (Calls Tryz.prog 13 #[.pointer (some ⟨w1.heap.size + 1, 0, none⟩)] w6 fun e w' => e = .returned (.bool true) ∧ Below w6.heap.size w6 w') :=
    still_any (w1.heap.size + 1) X2 n' Ps2 gs' w6 (HS2'.out.but (But.of_below (S := fun _ => False) hb6) (fun b hb => hb.elim)) hn2' Hk'.out
  have hz6 := hb6.size
  have HB6 : Hid (Below w.heap.size w w6) := HB5.out.trans (hb6.mono (by omega))
  clear hb6 HE1 HS3 HS2' HB5
  go_upto_region 13 with (go_at_call 13; refine Calls.mono HE2.out ?_; rintro e w7 ⟨rfl, hb7⟩)
  have HE3 : Hid (Calls Tryz.prog 13 #[.pointer (some ⟨w1.heap.size + 1 + 1, 0, none⟩)] w7 fun e w' => e = .returned (.bool true) ∧ Below w7.heap.size w7 w') :=
    still_any (w1.heap.size + 1 + 1) X3 n Ps3 gs w7 (HS3'.out.but (But.of_below (S := fun _ => False) hb7) (fun b hb => hb.elim)) hn2 Hk.out
  have hz7 := hb7.size
  have HB7 : Hid (Below w.heap.size w w7) := HB6.out.trans (hb7.mono (by omega))
  clear hb7 HE2 HS3' HB6
  go_upto_region 14 with (go_at_call 13; refine Calls.mono HE3.out ?_; rintro e w8 ⟨rfl, hb8⟩)
  have HB8 : Hid (Below w.heap.size w w8) := HB7.out.trans (hb8.mono (by omega))
  go_wp2
  go_ret
  exact ⟨rfl, HB8.out⟩

end Go.Proofs.YtbphndloichnaaaGreatDoor
