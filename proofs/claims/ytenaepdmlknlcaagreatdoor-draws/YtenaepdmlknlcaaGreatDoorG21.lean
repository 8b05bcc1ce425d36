import Derived.Test.YtenaepdmlknlcaaGreatDoorG20
import Derived.Test.YtenaepdmlknlcaaGreatDoorG12
import Derived.Test.YtenaepdmlknlcaaGreatDoorCards
import Derived.Deep.SlicePairs
import Derived.Lib.SmallJoins
import Derived.KernelRfl
namespace Go.Proofs.YtenaepdmlknlcaaGreatDoor
open Go.RowKit Go.Shelf

theorem fold_congr (x : Bx) : ∀ (vs us : List FV) (o p : Option FV), vs.map FV.f = us.map FV.f → o.map FV.f = p.map FV.f → (vs.foldl (pickV x) o).map FV.f = (us.foldl (pickV x) p).map FV.f
  | [], us, o, p, h, ho => by
    have : us = [] := by simpa using h.symm
    subst this
    exact ho
  | v :: r, us, o, p, h, ho => by
    cases us with
    | nil => simp at h
    | cons u s =>
      simp only [List.map_cons, List.cons.injEq] at h
      rw [List.foldl_cons, List.foldl_cons]
      refine fold_congr x r s _ _ h.2 ?_
      unfold pickV
      rw [h.1]
      split
      · cases o with
        | none =>
          cases p with
          | none => simp [h.1]
          | some q => simp at ho
        | some a =>
          cases p with
          | none => simp at ho
          | some q =>
            simp only [Option.map_some, Option.some.injEq] at ho
            simp only [ho]
            split <;> simp [h.1, ho]
      · exact ho
theorem tcol_map (o : Option FV) : tcol o = match o.map FV.f with | none => 0 | some f => f.col := by cases o <;> rfl
theorem body_congr {vs us : List FV} (h : vs.map FV.f = us.map FV.f) (p c r : Int) : bodyR vs p c r = bodyR us p c r := by
  have : colR vs p c r = colR us p c r := by
    funext k
    unfold colR
    rw [tcol_map, tcol_map]
    have := fold_congr (pixZ p c r k) vs us none none h rfl
    unfold topOf
    rw [this]
  unfold bodyR
  rw [this]
theorem seen_congr {gs hs : List FG} (h : gs.map FG.f = hs.map FG.f) (i : Nat) (id : Int) : seenG gs i id = seenG hs i id := by
  have e : ∀ l : List FG, seenG l i id = ((l.map FG.f).take i).any fun f => f.id == id := fun l => by
    rw [seenG, ← List.map_take, List.any_map]; rfl
  rw [e, e, h]
theorem okTo_congr {gs hs : List FG} (h : gs.map FG.f = hs.map FG.f) : ∀ i, okTo gs i = okTo hs i
  | 0 => rfl
  | i + 1 => by
    rw [okTo, okTo, okTo_congr h i]
    have e : (gs[i]?).map FG.f = (hs[i]?).map FG.f := by rw [← List.getElem?_map, ← List.getElem?_map, h]
    cases h1 : gs[i]? with
    | none => cases h2 : hs[i]? with
      | none => rfl
      | some b => rw [h1, h2] at e; simp at e
    | some a => cases h2 : hs[i]? with
      | none => rw [h1, h2] at e; simp at e
      | some b =>
        rw [h1, h2] at e
        simp only [Option.map_some, Option.some.injEq] at e
        simp only [e, seen_congr h]
theorem drawV_congr {gs hs : List FG} (h : gs.map FG.f = hs.map FG.f) (z c r : Int) : drawV gs z c r = drawV hs z c r := by
  have hl : gs.length = hs.length := by have := congrArg List.length h; simpa using this
  have hv : (gs.map FG.fv).map FV.f = (hs.map FG.fv).map FV.f := by
    rw [List.map_map, List.map_map]
    have : FV.f ∘ FG.fv = FG.f := by funext g; exact g.fv_f
    rw [this, h]
  unfold drawV
  rw [okTo_congr h, hl, body_congr hv]
theorem drawV_form (gs : List FG) (z c r : Int) : ∃ (m b : ByteArray) (e : Int), drawV gs z c r = .tuple #[.string m, .string b, .int .i64 e] := by
  unfold drawV
  split
  · exact ⟨_, _, _, rfl⟩
  · exact ⟨_, _, _, rfl⟩

/-- The list that was lent. -/
def lentL (Ps : List Nat) (gs : List FG) : List FG := List.zipWith (fun P g => ⟨g.f, some ⟨P, 0, none⟩, g.f.ps.length + 2⟩) Ps gs
theorem lentL_f : ∀ (Ps : List Nat) (gs : List FG), Ps.length = gs.length → (lentL Ps gs).map FG.f = gs.map FG.f
  | [], [], _ => rfl
  | P :: r, g :: s, h => by
    have := lentL_f r s (by simpa using h)
    simp only [lentL, List.zipWith_cons_cons, List.map_cons] at *
    rw [this]
  | [], _ :: _, h => by simp at h
  | _ :: _, [], h => by simp at h
theorem lentL_get {Ps : List Nat} {gs : List FG} {j : Nat} {g' : FG} (h : (lentL Ps gs)[j]? = some g') : ∃ P g, Ps[j]? = some P ∧ gs[j]? = some g ∧ g' = ⟨g.f, some ⟨P, 0, none⟩, g.f.ps.length + 2⟩ := by
  rw [lentL, List.getElem?_zipWith] at h
  cases h1 : Ps[j]? with
  | none => rw [h1] at h; simp at h
  | some P => cases h2 : gs[j]? with
    | none => rw [h1, h2] at h; simp at h
    | some g => rw [h1, h2] at h; simp at h; exact ⟨P, g, rfl, rfl, h.symm⟩
theorem Lent.feats {N : Nat} {W : World} {o X n : Nat} {Ps : List Nat} {gs : List FG} (h : Lent N W o X n Ps gs) (hk : ∀ g ∈ gs, g.f.ps.length ≤ 8800000000000) : FeatsGO W (some ⟨X, 0, none⟩) (lentL Ps gs) := by
  refine .inr ⟨X, 0, rfl, h.xlt, fun i g' e => ?_⟩
  obtain ⟨P, g, hP, hg, rfl⟩ := lentL_get e
  have hX := h.xs i P g hP hg
  have hL := h.lp i P g hP hg
  have hkg := hk g (List.mem_of_getElem? hg)
  rw [Nat.zero_add]
  refine ⟨hX.c0, hX.c1, hX.c2, hX.c3, hX.c4, .inr ⟨P, 0, rfl, (h.inc i P hP).2, fun k x y e => ?_⟩, by simp, by show g.f.ps.length ≤ _; omega⟩
  rw [Nat.zero_add]
  exact hL.pts k x y e
theorem Lent.below {N : Nat} {A B : World} {o X n : Nat} {Ps : List Nat} {gs : List FG} (h : Lent N A o X n Ps gs) (ho : o < A.heap.size) (hb : Below A.heap.size A B) : Lent N B o X n Ps gs := by
  obtain ⟨hc, hf⟩ := bcell hb
  have hz := hb.size
  obtain ⟨ra, rc, p0, hp⟩ := h.pl
  obtain ⟨F, fc, f1, f2, f3, f4⟩ := h.fl
  exact ⟨h.len, ⟨ra, rc, (hc _ _ ho).trans p0, hp.imp id (fun ⟨R, e, h1, h2, h3⟩ => ⟨R, e, h1, by omega, fun j P g hP hg => (hc _ _ h2).trans (h3 j P g hP hg)⟩)⟩, ⟨F, fc, (hc _ _ ho).trans f1, f2, by omega, (hc _ _ f3).trans f4⟩, fun j P g hP hg => (h.xs j P g hP hg).congr (fun c _ => hc _ _ h.xlt), h.t0.congr (fun c _ => hc _ _ h.xlt), h.t1.congr (fun c _ => hc _ _ h.xlt), fun j => (hf _ _ h.xlt).trans (h.xf j), fun j P g hP hg => (h.lp j P g hP hg).but (S := fun _ => False) (But.of_below hb) (h.inc j P hP).2 (fun h => h), fun j P hP => by have := h.inc j P hP; omega, h.pw, h.xn, by have := h.xlt; omega⟩

set_option maxHeartbeats 400000 in
theorem num_any (e : Int) (w : World) : Calls Tryz.prog 37 #[.int .i64 e] w fun r w' => r = .returned (.int .i64 e) ∧ w' = w := by
  go_enter Tryz.func37, Tryz.ntmps37
  go_wp2
  go_ret
  exact ⟨rfl, rfl⟩

set_option maxRecDepth 100000 in
set_option maxHeartbeats 4000000 in
theorem draw_any (o n cap : Nat) (a : Option Addr) (gs : List FG) (z c r : Int) (w0 w : World) (hw0 : Below w0.heap.size w0 w) (ho : w0.heap.size ≤ o) (ho2 : o < w.heap.size) (hf : FeatsGO w0 a gs) (hn : n = gs.length) (hn2 : n ≤ 2600000000000) (hk : ∀ g ∈ gs, g.f.ps.length ≤ 8800000000000)
    (htab : w0.cell? ⟨3, 15, none⟩ = some (.int .u8 4)) (hw3 : 3 < w0.heap.size)
    (c0 : w.cell? ⟨o, 0, none⟩ = some (.slice none 0 0)) (c1 : w.cell? ⟨o, 1, none⟩ = some (.slice none 0 0)) (fo : ∀ j, w.frozen? ⟨o, j, none⟩ = false) :
    Calls Tryz.prog 12 #[.pointer (some ⟨o, 0, none⟩), .slice a n cap, .agg #[.int .i64 z, .int .i64 c, .int .i64 r]] w fun e w' => e = .returned (.bool true) ∧ (∃ (X : Nat) (Ps : List Nat), Stilled (w.heap.size + 1) w' o X n Ps gs) ∧ But (fun b => b = o) w w' := by
  have hA : Below w.heap.size w (w.alloc (.cells #[.int .i64 z, .int .i64 c, .int .i64 r] 24)) := (Below.refl _ _).alloc (Nat.le_refl _) _
  have HLend : Hid (Calls Tryz.prog 34 #[.pointer (some ⟨o, 0, none⟩), .slice a n cap] (w.alloc (.cells #[.int .i64 z, .int .i64 c, .int .i64 r] 24)) fun e w' => ∃ (X : Nat) (Ps : List Nat), e = .returned (.slice (some ⟨X, 0, none⟩) n (n + 2)) ∧ Lent (w.heap.size + 1) w' o X n Ps gs ∧ But (· = o) (w.alloc (.cells #[.int .i64 z, .int .i64 c, .int .i64 r] 24)) w') := by
    have := lend_any o n cap a gs w0 (w.alloc (.cells #[.int .i64 z, .int .i64 c, .int .i64 r] 24)) (hw0.trans (hA.mono hw0.size)) ho (by simp; omega) hf hn hn2 hk ((hA.cell (p := ⟨o, 0, none⟩) ho2).trans c0) ((hA.cell (p := ⟨o, 1, none⟩) ho2).trans c1) (fun j => (hA.frozen (p := ⟨o, j, none⟩) ho2).trans (fo j))
    rwa [World.size_alloc] at this
  have Hf : Hid (FeatsGO w0 a gs) := hf
  have Hn : Hid (n = gs.length) := hn
  have Hk : Hid (∀ g ∈ gs, g.f.ps.length ≤ 8800000000000) := hk
  have Htab : Hid (w0.cell? ⟨3, 15, none⟩ = some (.int .u8 4)) := htab
  have hsz0 := hw0.size
  obtain ⟨mm, bb, ee, hV⟩ := drawV_form gs z c r
  have HV : Hid (drawV gs z c r = .tuple #[.string mm, .string bb, .int .i64 ee]) := hV
  clear hf hn hk htab c0 c1 fo hV
  go_enter Tryz.func12, Tryz.ntmps12
  go_upto_region 2 with (go_at_call 34; refine Calls.mono HLend.out ?_; rintro e w2 ⟨X, Ps, rfl, hLe, hb2⟩)
  have HLe : Hid (Lent (w.heap.size + 1) w2 o X n Ps gs) := hLe
  have HB2 : Hid (But (fun b => b = o) w w2) := (But.of_below hA).trans hb2
  have hz2 : w.heap.size + 1 ≤ w2.heap.size := by have := hb2.size; simp at this; exact this
  have t0 : w2.cell? ⟨w.heap.size, 0, none⟩ = some (.int .i64 z) := (hb2.cell (by simp) (by omega)).trans (by simp [go_sem])
  have t1 : w2.cell? ⟨w.heap.size, 1, none⟩ = some (.int .i64 c) := (hb2.cell (by simp) (by omega)).trans (by simp [go_sem])
  have t2 : w2.cell? ⟨w.heap.size, 2, none⟩ = some (.int .i64 r) := (hb2.cell (by simp) (by omega)).trans (by simp [go_sem])
  have HBw2 : Hid (Below w0.heap.size w0 w2) := hw0.trans (HB2.out.below hsz0 (fun b hb => by omega))
  have HDraw : Hid (Calls Tryz.prog 11 #[.slice (some ⟨X, 0, none⟩) n (n + 2), .agg #[.int .i64 z, .int .i64 c, .int .i64 r]] w2 fun e w' => e = .returned (.tuple #[.string mm, .string bb, .int .i64 ee]) ∧ Below w2.heap.size w2 w') := by
    have hl := hLe.len
    have := Draw_any (some ⟨X, 0, none⟩) n (n + 2) (lentL Ps gs) z c r w2 (hLe.feats Hk.out) (by rw [lentL, List.length_zipWith, hl, Nat.min_self]; exact Hn.out) (by omega) ((HBw2.out.cell (p := ⟨3, 15, none⟩) hw3).trans Htab.out) (by omega)
    rwa [drawV_congr (lentL_f Ps gs hl), HV.out] at this
  clear hLe hb2 HLend
  go_upto_region 3 with (go_at_call 11; refine Calls.mono HDraw.out ?_; rintro e w3 ⟨rfl, hb3⟩)
  have hz3 := hb3.size
  have HB3 : Hid (Below w2.heap.size w2 w3) := hb3
  have s0 := (hb3.cell (p := ⟨w.heap.size, 0, none⟩) (show w.heap.size < w2.heap.size by omega)).trans t0
  have s1 := (hb3.cell (p := ⟨w.heap.size, 1, none⟩) (show w.heap.size < w2.heap.size by omega)).trans t1
  have s2 := (hb3.cell (p := ⟨w.heap.size, 2, none⟩) (show w.heap.size < w2.heap.size by omega)).trans t2
  have HRef : Hid (Calls Tryz.prog 35 #[.slice a n cap, .agg #[.int .i64 z, .int .i64 c, .int .i64 r]] w3 fun e w' => e = .returned (.tuple #[.string mm, .string bb, .int .i64 ee]) ∧ Below w3.heap.size w3 w') := by
    have := rDraw_any a n cap gs z c r w3 (Hf.out.below (HBw2.out.trans (hb3.mono (by omega)))) Hn.out (by omega)
    rwa [HV.out] at this
  clear hb3 HDraw t0 t1 t2
  go_upto_region 4 with (go_at_call 35; refine Calls.mono HRef.out ?_; rintro e w4 ⟨rfl, hb4⟩)
  have hz4 := hb4.size
  have HB24 : Hid (Below w2.heap.size w2 w4) := HB3.out.trans (hb4.mono hz3)
  have HWh : Hid (Calls Tryz.prog 36 #[.pointer (some ⟨o, 0, none⟩), .slice a n cap] w4 fun e w' => e = .returned (.bool true) ∧ Stilled (w.heap.size + 1) w' o X n Ps gs ∧ But (fun b => b = X ∨ b ∈ Ps) w4 w') :=
    whole_any (w.heap.size + 1) o X n cap a Ps gs w0 w4 (HBw2.out.trans (HB24.out.mono (by omega))) Hf.out Hn.out hn2 Hk.out (HLe.out.below (by omega) HB24.out) ho (by omega)
  clear hb4 HRef s0 s1 s2
  go_wp2_with (first
    | (go_at_call 36; refine Calls.mono HWh.out ?_; rintro e w5 ⟨rfl, hSt, hb5⟩)
    | (go_at_call 37; refine (num_any _ _).mono ?_; rintro e w6 ⟨rfl, rfl⟩))
  go_ret
  refine ⟨rfl, ⟨X, Ps, hSt⟩, (HB2.out.trans (But.of_below HB24.out)).trans_new hb5 (fun b hb h => ?_)⟩
  have hxn := HLe.out.xn
  rcases h with h | h
  · omega
  · obtain ⟨j, hj⟩ := List.mem_iff_getElem?.1 h
    have := (HLe.out.inc j b hj).1
    omega

end Go.Proofs.YtenaepdmlknlcaaGreatDoor

namespace Go.Proofs.YtenaepdmlknlcaaGreatDoor
open Go.RowKit Go.Shelf

/-- The document's own example: one place. -/
def g0 (b : Nat) : FG := ⟨⟨1, 1, 0, 3, [(40, 0)]⟩, some ⟨b, 0, none⟩, 1⟩
def f0 (k : Nat) : Nat := if k = 1 then 3 else 0
theorem colR_g0 (b : Nat) : ∀ k, k < 64 → colR [(g0 b).fv] 32 0 0 k = f0 k := by
  intro k hk
  have e : topOf (pixZ 32 0 0 k) [(g0 b).fv] = if pointB 40 0 (pixZ 32 0 0 k).l (pixZ 32 0 0 k).t (pixZ 32 0 0 k).r (pixZ 32 0 0 k).b then some (g0 b).fv else none := rfl
  have e2 : ∀ k, k < 64 → pointB 40 0 (pixZ 32 0 0 k).l (pixZ 32 0 0 k).t (pixZ 32 0 0 k).r (pixZ 32 0 0 k).b = decide (k = 1) := by decide
  rw [colR, e, e2 k hk, f0]
  by_cases h : k = 1
  · simp only [h, decide_true, if_true]; rfl
  · simp only [h, decide_false, if_false]; rfl
theorem stN_congr {f g : Nat → Nat} : ∀ n, (∀ k, k ≤ n → f k = g k) → stN f n = stN g n
  | 0, h => by rw [stN, stN, h 0 (by omega)]
  | n + 1, h => by rw [stN, stN, stN_congr n (fun k hk => h k (by omega)), h (n + 1) (by omega)]
theorem stN_f0 : ∀ k, stN f0 (k + 2) = ((runT 1 0 ++ [44]) ++ runT 1 3 ++ [44], k + 1, 0)
  | 0 => by simp [stN, f0, stp]
  | k + 1 => by
    rw [show k + 1 + 2 = (k + 2) + 1 by omega, stN, stN_f0 k]
    simp [f0, stp]
theorem bodyR_g0 (b : Nat) : bodyR [(g0 b).fv] 32 0 0 = [49, 120, 48, 44, 49, 120, 51, 44, 54, 50, 120, 48] := by
  have d : ∀ n, n < 10 → digs 10 n = [dch n] := fun n h => by rw [digs, dif_pos (.inl h)]
  have d2 : digs 10 62 = [54, 50] := by rw [digs, dif_neg (by omega), d _ (by omega)]; rfl
  rw [bodyR, stN_congr 63 (g := f0) (fun k hk => colR_g0 b k (by omega)), show 63 = 61 + 2 by omega, stN_f0]
  simp only [fin, runT, d 1 (by omega), d 0 (by omega), d 3 (by omega)]
  rw [d2]
  rfl
theorem drawV_g0 (b : Nat) : ∃ m : ByteArray, drawV [g0 b] 0 0 0 = .tuple #[.string m, .string ⟨#[49, 120, 48, 44, 49, 120, 51, 44, 54, 50, 120, 48]⟩, .int .i64 0] := by
  have ht : tileB 0 0 0 = true := by decide
  have ho : okTo [g0 b] [g0 b].length = true := by
    rw [show [g0 b].length = 0 + 1 from rfl, okTo_succ (g := g0 b) rfl, okTo]
    have : validF (g0 b).f = true := by show validF ⟨1, 1, 0, 3, [(40, 0)]⟩ = true; decide
    rw [this]
    rfl
  refine ⟨⟨(markN (bodyR [(g0 b).fv] 32 0 0)).toArray⟩, ?_⟩
  rw [drawV, ht, ho]
  show Value.tuple #[.string ⟨(markN (bodyR [(g0 b).fv] 32 0 0)).toArray⟩, .string ⟨(bodyR [(g0 b).fv] 32 0 0).toArray⟩, .int .i64 0] = _
  rw [bodyR_g0]

end Go.Proofs.YtenaepdmlknlcaaGreatDoor

namespace Go.Proofs.YtenaepdmlknlcaaGreatDoor
open Go.RowKit Go.Shelf

/-- The example lies in memory. -/
theorem feats_g0 (W : World) : FeatsGO ((W.alloc (.cells #[.int .i64 40, .int .i64 0] 29)).alloc (.cells #[.int .i64 1, .int .i64 1, .int .i64 0, .int .i64 3, .slice (some ⟨W.heap.size, 0, none⟩) 1 1] 32)) (some ⟨W.heap.size + 1, 0, none⟩) [g0 W.heap.size] := by
  refine .inr ⟨W.heap.size + 1, 0, rfl, by simp, fun i g e => ?_⟩
  have hi : i = 0 := by
    cases i with
    | zero => rfl
    | succ i => simp at e
  subst hi
  obtain rfl : g0 W.heap.size = g := by simpa using e
  refine ⟨by simp [go_sem, g0], by simp [go_sem, g0], by simp [go_sem, g0], by simp [go_sem, g0], by simp [go_sem, g0], .inr ⟨W.heap.size, 0, rfl, by simp; omega, fun k x y e => ?_⟩, by simp [g0], by simp [g0]⟩
  have hk : k = 0 := by
    cases k with
    | zero => rfl
    | succ k => simp [g0] at e
  subst hk
  obtain ⟨rfl, rfl⟩ : (40 : Int) = x ∧ (0 : Int) = y := by simpa [g0] using e
  exact ⟨by simp [go_sem], by simp [go_sem]⟩

/-- A box of its own, as it lies when it is new. -/
structure OwnNew (W : World) (o : Nat) : Prop where
  lt : o < W.heap.size
  c0 : W.cell? ⟨o, 0, none⟩ = some (.slice none 0 0)
  c1 : W.cell? ⟨o, 1, none⟩ = some (.slice none 0 0)
  fo : ∀ j, W.frozen? ⟨o, j, none⟩ = false
theorem OwnNew.but {S : Nat → Prop} {A B : World} {o : Nat} (h : OwnNew A o) (hb : But S A B) (hs : ¬ S o) : OwnNew B o :=
  ⟨Nat.lt_of_lt_of_le h.lt hb.size, (hb.cell h.lt hs).trans h.c0, (hb.cell h.lt hs).trans h.c1, fun j => (hb.frozen h.lt hs).trans (h.fo j)⟩
theorem OwnNew.mk' (W : World) : OwnNew (W.alloc (.cells #[.slice none 0 0, .slice none 0 0, .slice none 0 0] 37)) W.heap.size :=
  ⟨by simp, by simp [go_sem], by simp [go_sem], fun j => by simp [go_sem]⟩
/-- A tile in its box. -/
structure TileIn (W : World) (b : Nat) (z c r : Int) : Prop where
  lt : b < W.heap.size
  c0 : W.cell? ⟨b, 0, none⟩ = some (.int .i64 z)
  c1 : W.cell? ⟨b, 1, none⟩ = some (.int .i64 c)
  c2 : W.cell? ⟨b, 2, none⟩ = some (.int .i64 r)
theorem TileIn.but {S : Nat → Prop} {A B : World} {b : Nat} {z c r : Int} (h : TileIn A b z c r) (hb : But S A B) (hs : ¬ S b) : TileIn B b z c r :=
  ⟨Nat.lt_of_lt_of_le h.lt hb.size, (hb.cell h.lt hs).trans h.c0, (hb.cell h.lt hs).trans h.c1, (hb.cell h.lt hs).trans h.c2⟩
theorem TileIn.mk' (W : World) (z c r : Int) : TileIn (W.alloc (.cells #[.int .i64 z, .int .i64 c, .int .i64 r] 24)) W.heap.size z c r :=
  ⟨by simp, by simp [go_sem], by simp [go_sem], by simp [go_sem]⟩

set_option maxRecDepth 100000 in
set_option maxHeartbeats 4000000 in
theorem Draws_any (a a' : Option Addr) (n n' cap cap' : Nat) (gs gs' : List FG) (z c r z' c' r' : Int) (w : World) (hf : FeatsGO w a gs) (hn : n = gs.length) (hn2 : n ≤ 2600000000000) (hk : ∀ g ∈ gs, g.f.ps.length ≤ 8800000000000)
    (hf' : FeatsGO w a' gs') (hn' : n' = gs'.length) (hn2' : n' ≤ 2600000000000) (hk' : ∀ g ∈ gs', g.f.ps.length ≤ 8800000000000)
    (htab : w.cell? ⟨3, 15, none⟩ = some (.int .u8 4)) (hw3 : 3 < w.heap.size) :
    Calls Tryz.prog 3 #[.slice a n cap, .agg #[.int .i64 z, .int .i64 c, .int .i64 r], .slice a' n' cap', .agg #[.int .i64 z', .int .i64 c', .int .i64 r']] w fun e w' => e = .returned (.bool true) ∧ Below w.heap.size w w' := by
  have Hf : Hid (FeatsGO w a gs) := hf
  have Hn : Hid (n = gs.length) := hn
  have Hk : Hid (∀ g ∈ gs, g.f.ps.length ≤ 8800000000000) := hk
  have Hf' : Hid (FeatsGO w a' gs') := hf'
  have Hn' : Hid (n' = gs'.length) := hn'
  have Hk' : Hid (∀ g ∈ gs', g.f.ps.length ≤ 8800000000000) := hk'
  have Htab : Hid (w.cell? ⟨3, 15, none⟩ = some (.int .u8 4)) := htab
  clear hf hn hk hf' hn' hk' htab
  obtain ⟨m, hm⟩ := drawV_g0 (w.heap.size + 1 + 1)
  have HDraw : Hid (Calls Tryz.prog 11 #[.slice (some ⟨w.heap.size + 1 + 1 + 1, 0, none⟩) 1 1, .agg #[.int .i64 0, .int .i64 0, .int .i64 0]] ((((w.alloc (.cells #[.int .i64 z, .int .i64 c, .int .i64 r] 24)).alloc (.cells #[.int .i64 z', .int .i64 c', .int .i64 r'] 24)).alloc (.cells #[.int .i64 40, .int .i64 0] 29)).alloc (.cells #[.int .i64 1, .int .i64 1, .int .i64 0, .int .i64 3, .slice (some ⟨w.heap.size + 1 + 1, 0, none⟩) 1 1] 32)) fun e w' => e = .returned (.tuple #[.string m, .string ⟨#[49, 120, 48, 44, 49, 120, 51, 44, 54, 50, 120, 48]⟩, .int .i64 0]) ∧ Below w.heap.size w w' ∧ TileIn w' w.heap.size z c r ∧ TileIn w' (w.heap.size + 1) z' c' r' ∧ w.heap.size + 4 ≤ w'.heap.size) := by
    have hB : Below w.heap.size w (w.alloc (.cells #[.int .i64 z, .int .i64 c, .int .i64 r] 24)) := (Below.refl _ _).alloc (Nat.le_refl _) _
    have hB2 := hB.alloc (by simp) (.cells #[.int .i64 z', .int .i64 c', .int .i64 r'] 24)
    have hB3 := hB2.alloc (by simp; omega) (.cells #[.int .i64 40, .int .i64 0] 29)
    have hB4 := hB3.alloc (by simp; omega) (.cells #[.int .i64 1, .int .i64 1, .int .i64 0, .int .i64 3, .slice (some ⟨w.heap.size + 1 + 1, 0, none⟩) 1 1] 32)
    have hT := TileIn.mk' w z c r
    have hf := feats_g0 ((w.alloc (.cells #[.int .i64 z, .int .i64 c, .int .i64 r] 24)).alloc (.cells #[.int .i64 z', .int .i64 c', .int .i64 r'] 24))
    have hT' := TileIn.mk' (w.alloc (.cells #[.int .i64 z, .int .i64 c, .int .i64 r] 24)) z' c' r'
    simp only [World.size_alloc] at hf hT'
    have := Draw_any (some ⟨w.heap.size + 1 + 1 + 1, 0, none⟩) 1 1 [g0 (w.heap.size + 1 + 1)] 0 0 0 _ hf rfl (by omega) ((hB4.cell (p := ⟨3, 15, none⟩) hw3).trans Htab.out) (by simp only [World.size_alloc]; omega)
    rw [hm] at this
    refine this.mono fun e w' ⟨he, hb⟩ => ?_
    have hz := hb.size
    simp at hz
    have hN : ∀ (A : World) (o1 : Obj), But (fun _ => False) A (A.alloc o1) := fun A o1 => But.of_below ((Below.refl _ _).alloc (Nat.le_refl _) _)
    refine ⟨he, hB4.trans (hb.mono (by simp; omega)), ?_, ?_, by omega⟩
    · exact ((((hT.but (hN _ _) (fun h => h)).but (hN _ _) (fun h => h)).but (hN _ _) (fun h => h)).but (But.of_below (S := fun _ => False) hb) (fun h => h))
    · exact ((((hT'.but (hN _ _) (fun h => h)).but (hN _ _) (fun h => h))).but (But.of_below (S := fun _ => False) hb) (fun h => h))
  clear hm
  go_enter Tryz.func3, Tryz.ntmps3
  go_upto_region 3 with (go_at_call 11; refine Calls.mono HDraw.out ?_; rintro e w1 ⟨rfl, hb1, hT, hT', hz1⟩)
  have hbA : Below w1.heap.size w1 (((w1.alloc (.cells #[.slice none 0 0, .slice none 0 0, .slice none 0 0] 37)).alloc (.cells #[.slice none 0 0, .slice none 0 0, .slice none 0 0] 37)).alloc (.cells #[.slice none 0 0, .slice none 0 0, .slice none 0 0] 37)) := by
    have h1 : Below w1.heap.size w1 (w1.alloc (.cells #[.slice none 0 0, .slice none 0 0, .slice none 0 0] 37)) := (Below.refl _ _).alloc (Nat.le_refl _) _
    have h2 := h1.alloc (by simp) (.cells #[.slice none 0 0, .slice none 0 0, .slice none 0 0] 37)
    exact h2.alloc (by simp; omega) (.cells #[.slice none 0 0, .slice none 0 0, .slice none 0 0] 37)
  have hN : ∀ (A : World) (o1 : Obj), But (fun _ => False) A (A.alloc o1) := fun A o1 => But.of_below ((Below.refl _ _).alloc (Nat.le_refl _) _)
  have hO1 : OwnNew (((w1.alloc (.cells #[.slice none 0 0, .slice none 0 0, .slice none 0 0] 37)).alloc (.cells #[.slice none 0 0, .slice none 0 0, .slice none 0 0] 37)).alloc (.cells #[.slice none 0 0, .slice none 0 0, .slice none 0 0] 37)) w1.heap.size := ((OwnNew.mk' w1).but (hN _ _) (fun h => h)).but (hN _ _) (fun h => h)
  have hO2 : OwnNew (((w1.alloc (.cells #[.slice none 0 0, .slice none 0 0, .slice none 0 0] 37)).alloc (.cells #[.slice none 0 0, .slice none 0 0, .slice none 0 0] 37)).alloc (.cells #[.slice none 0 0, .slice none 0 0, .slice none 0 0] 37)) (w1.heap.size + 1) := by
    have := ((OwnNew.mk' (w1.alloc (.cells #[.slice none 0 0, .slice none 0 0, .slice none 0 0] 37))).but (hN _ (.cells #[.slice none 0 0, .slice none 0 0, .slice none 0 0] 37)) (fun h => h))
    rwa [World.size_alloc] at this
  have hO3 : OwnNew (((w1.alloc (.cells #[.slice none 0 0, .slice none 0 0, .slice none 0 0] 37)).alloc (.cells #[.slice none 0 0, .slice none 0 0, .slice none 0 0] 37)).alloc (.cells #[.slice none 0 0, .slice none 0 0, .slice none 0 0] 37)) (w1.heap.size + 1 + 1) := by
    have := OwnNew.mk' ((w1.alloc (.cells #[.slice none 0 0, .slice none 0 0, .slice none 0 0] 37)).alloc (.cells #[.slice none 0 0, .slice none 0 0, .slice none 0 0] 37))
    rwa [World.size_alloc, World.size_alloc] at this
  have HT : Hid (TileIn (((w1.alloc (.cells #[.slice none 0 0, .slice none 0 0, .slice none 0 0] 37)).alloc (.cells #[.slice none 0 0, .slice none 0 0, .slice none 0 0] 37)).alloc (.cells #[.slice none 0 0, .slice none 0 0, .slice none 0 0] 37)) w.heap.size z c r) := hT.but (But.of_below (S := fun _ => False) hbA) (fun h => h)
  have HT' : Hid (TileIn (((w1.alloc (.cells #[.slice none 0 0, .slice none 0 0, .slice none 0 0] 37)).alloc (.cells #[.slice none 0 0, .slice none 0 0, .slice none 0 0] 37)).alloc (.cells #[.slice none 0 0, .slice none 0 0, .slice none 0 0] 37)) (w.heap.size + 1) z' c' r') := hT'.but (But.of_below (S := fun _ => False) hbA) (fun h => h)
  have hz2 : (((w1.alloc (.cells #[.slice none 0 0, .slice none 0 0, .slice none 0 0] 37)).alloc (.cells #[.slice none 0 0, .slice none 0 0, .slice none 0 0] 37)).alloc (.cells #[.slice none 0 0, .slice none 0 0, .slice none 0 0] 37)).heap.size = w1.heap.size + 3 := by simp only [World.size_alloc]
  have HB2 : Hid (Below w.heap.size w (((w1.alloc (.cells #[.slice none 0 0, .slice none 0 0, .slice none 0 0] 37)).alloc (.cells #[.slice none 0 0, .slice none 0 0, .slice none 0 0] 37)).alloc (.cells #[.slice none 0 0, .slice none 0 0, .slice none 0 0] 37))) := hb1.trans (hbA.mono (by omega))
  have HO2 : Hid (OwnNew (((w1.alloc (.cells #[.slice none 0 0, .slice none 0 0, .slice none 0 0] 37)).alloc (.cells #[.slice none 0 0, .slice none 0 0, .slice none 0 0] 37)).alloc (.cells #[.slice none 0 0, .slice none 0 0, .slice none 0 0] 37)) (w1.heap.size + 1)) := hO2
  have HO3 : Hid (OwnNew (((w1.alloc (.cells #[.slice none 0 0, .slice none 0 0, .slice none 0 0] 37)).alloc (.cells #[.slice none 0 0, .slice none 0 0, .slice none 0 0] 37)).alloc (.cells #[.slice none 0 0, .slice none 0 0, .slice none 0 0] 37)) (w1.heap.size + 1 + 1)) := hO3
  have HD1 : Hid (Calls Tryz.prog 12 #[.pointer (some ⟨w1.heap.size, 0, none⟩), .slice a n cap, .agg #[.int .i64 z, .int .i64 c, .int .i64 r]] (((w1.alloc (.cells #[.slice none 0 0, .slice none 0 0, .slice none 0 0] 37)).alloc (.cells #[.slice none 0 0, .slice none 0 0, .slice none 0 0] 37)).alloc (.cells #[.slice none 0 0, .slice none 0 0, .slice none 0 0] 37)) fun e w' => e = .returned (.bool true) ∧ (∃ (X : Nat) (Ps : List Nat), Stilled (w1.heap.size + 1 + 1 + 1 + 1) w' w1.heap.size X n Ps gs) ∧ But (fun b => b = w1.heap.size) (((w1.alloc (.cells #[.slice none 0 0, .slice none 0 0, .slice none 0 0] 37)).alloc (.cells #[.slice none 0 0, .slice none 0 0, .slice none 0 0] 37)).alloc (.cells #[.slice none 0 0, .slice none 0 0, .slice none 0 0] 37)) w') := by
    have := draw_any w1.heap.size n cap a gs z c r w (((w1.alloc (.cells #[.slice none 0 0, .slice none 0 0, .slice none 0 0] 37)).alloc (.cells #[.slice none 0 0, .slice none 0 0, .slice none 0 0] 37)).alloc (.cells #[.slice none 0 0, .slice none 0 0, .slice none 0 0] 37)) HB2.out (by omega) hO1.lt Hf.out Hn.out hn2 Hk.out Htab.out hw3 hO1.c0 hO1.c1 hO1.fo
    have e : (((w1.alloc (.cells #[.slice none 0 0, .slice none 0 0, .slice none 0 0] 37)).alloc (.cells #[.slice none 0 0, .slice none 0 0, .slice none 0 0] 37)).alloc (.cells #[.slice none 0 0, .slice none 0 0, .slice none 0 0] 37)).heap.size + 1 = w1.heap.size + 1 + 1 + 1 + 1 := by simp only [World.size_alloc]
    rw [e] at this
    exact this
  have s0 := HT.out.c0
  have s1 := HT.out.c1
  have s2 := HT.out.c2
  have t0 := hT.c0
  have t1 := hT.c1
  have t2 := hT.c2
  clear hO1 hO2 hO3 hT hT' hbA hN
  go_upto_region 9 with (go_at_call 12; refine Calls.mono HD1.out ?_; rintro e w3 ⟨rfl, ⟨X1, Ps1, hS1⟩, hb3⟩)
  have hz3 : w1.heap.size + 3 ≤ w3.heap.size := by have := hb3.size; omega
  have HT3 : Hid (TileIn w3 w.heap.size z c r) := HT.out.but hb3 (by omega)
  have hT3' : TileIn w3 (w.heap.size + 1) z' c' r' := HT'.out.but hb3 (by omega)
  have HB3 : Hid (Below w.heap.size w w3) := HB2.out.trans (hb3.below (by omega) (fun b hb => by omega))
  have hO2 : OwnNew w3 (w1.heap.size + 1) := HO2.out.but hb3 (by omega)
  have HO3' : Hid (OwnNew w3 (w1.heap.size + 1 + 1)) := HO3.out.but hb3 (by omega)
  have HS1 : Hid (Stilled (w1.heap.size + 1 + 1 + 1 + 1) w3 w1.heap.size X1 n Ps1 gs) := hS1
  have HD2 : Hid (Calls Tryz.prog 12 #[.pointer (some ⟨w1.heap.size + 1, 0, none⟩), .slice a' n' cap', .agg #[.int .i64 z', .int .i64 c', .int .i64 r']] w3 fun e w' => e = .returned (.bool true) ∧ (∃ (X : Nat) (Ps : List Nat), Stilled (w3.heap.size + 1) w' (w1.heap.size + 1) X n' Ps gs') ∧ But (fun b => b = w1.heap.size + 1) w3 w') :=
    draw_any (w1.heap.size + 1) n' cap' a' gs' z' c' r' w w3 HB3.out (by omega) hO2.lt Hf'.out Hn'.out hn2' Hk'.out Htab.out hw3 hO2.c0 hO2.c1 hO2.fo
  have u0 := hT3'.c0
  have u1 := hT3'.c1
  have u2 := hT3'.c2
  have hT3l := hT3'.lt
  clear hO2 hT3' s0 s1 s2 t0 t1 t2 HT HT' HO2 HO3 hS1 hb3 HD1 HB2
  go_upto_region 10 with (go_at_call 12; refine Calls.mono HD2.out ?_; rintro e w4 ⟨rfl, ⟨X2, Ps2, hS2⟩, hb4⟩)
  have hz4 := hb4.size
  have hT4 : TileIn w4 w.heap.size z c r := HT3.out.but hb4 (by omega)
  have HB4 : Hid (Below w.heap.size w w4) := HB3.out.trans (hb4.below (by omega) (fun b hb => by omega))
  have hO3 : OwnNew w4 (w1.heap.size + 1 + 1) := HO3'.out.but hb4 (by omega)
  have HS2 : Hid (Stilled (w3.heap.size + 1) w4 (w1.heap.size + 1) X2 n' Ps2 gs') := hS2
  have HS1' : Hid (Stilled (w1.heap.size + 1 + 1 + 1 + 1) w4 w1.heap.size X1 n Ps1 gs) := HS1.out.but hb4 (fun b hb => by omega)
  have HD3 : Hid (Calls Tryz.prog 12 #[.pointer (some ⟨w1.heap.size + 1 + 1, 0, none⟩), .slice a n cap, .agg #[.int .i64 z, .int .i64 c, .int .i64 r]] w4 fun e w' => e = .returned (.bool true) ∧ (∃ (X : Nat) (Ps : List Nat), Stilled (w4.heap.size + 1) w' (w1.heap.size + 1 + 1) X n Ps gs) ∧ But (fun b => b = w1.heap.size + 1 + 1) w4 w') :=
    draw_any (w1.heap.size + 1 + 1) n cap a gs z c r w w4 HB4.out (by omega) hO3.lt Hf.out Hn.out hn2 Hk.out Htab.out hw3 hO3.c0 hO3.c1 hO3.fo
  have s0 := hT4.c0
  have s1 := hT4.c1
  have s2 := hT4.c2
  have hT4l := hT4.lt
  clear hO3 hT4 u0 u1 u2 HT3 HO3' hS2 hb4 HD2 HB3 HS1
  go_upto_region 11 with (go_at_call 12; refine Calls.mono HD3.out ?_; rintro e w5 ⟨rfl, ⟨X3, Ps3, hS3⟩, hb5⟩)
  have hz5 := hb5.size
  have HB5 : Hid (Below w.heap.size w w5) := HB4.out.trans (hb5.below (by omega) (fun b hb => by omega))
  have HS3 : Hid (Stilled (w4.heap.size + 1) w5 (w1.heap.size + 1 + 1) X3 n Ps3 gs) := hS3
  have HS2' : Hid (Stilled (w3.heap.size + 1) w5 (w1.heap.size + 1) X2 n' Ps2 gs') := HS2.out.but hb5 (fun b hb => by omega)
  have HE1 : Hid (Calls Tryz.prog 13 #[.pointer (some ⟨w1.heap.size, 0, none⟩)] w5 fun e w' => e = .returned (.bool true) ∧ Below w5.heap.size w5 w') :=
    still_any w1.heap.size X1 n Ps1 gs w5 (HS1'.out.but hb5 (fun b hb => by omega)) hn2 Hk.out
  clear s0 s1 s2 hS3 hb5 HD3 HB4 HS1' HS2
  go_upto_region 12 with (go_at_call 13; refine Calls.mono HE1.out ?_; rintro e w6 ⟨rfl, hb6⟩)
  have HS3' : Hid (Stilled (w4.heap.size + 1) w6 (w1.heap.size + 1 + 1) X3 n Ps3 gs) := HS3.out.but (But.of_below (S := fun _ => False) hb6) (fun b hb => hb.elim)
  have HE2 : Hid (Calls Tryz.prog 13 #[.pointer (some ⟨w1.heap.size + 1, 0, none⟩)] w6 fun e w' => e = .returned (.bool true) ∧ Below w6.heap.size w6 w') :=
    still_any (w1.heap.size + 1) X2 n' Ps2 gs' w6 (HS2'.out.but (But.of_below (S := fun _ => False) hb6) (fun b hb => hb.elim)) hn2' Hk'.out
  have hz6 := hb6.size
  have HB6 : Hid (Below w.heap.size w w6) := HB5.out.trans (hb6.mono (by omega))
  clear hb6 HE1 HS3 HS2' HB5
  go_upto_region 13 with (go_at_call 13; refine Calls.mono HE2.out ?_; rintro e w7 ⟨rfl, hb7⟩)
  have HE3 : Hid (Calls Tryz.prog 13 #[.pointer (some ⟨w1.heap.size + 1 + 1, 0, none⟩)] w7 fun e w' => e = .returned (.bool true) ∧ Below w7.heap.size w7 w') :=
    still_any (w1.heap.size + 1 + 1) X3 n Ps3 gs w7 (HS3'.out.but (But.of_below (S := fun _ => False) hb7) (fun b hb => hb.elim)) hn2 Hk.out
  have hz7 := hb7.size
  have HB7 : Hid (Below w.heap.size w w7) := HB6.out.trans (hb7.mono (by omega))
  clear hb7 HE2 HS3' HB6
  go_upto_region 14 with (go_at_call 13; refine Calls.mono HE3.out ?_; rintro e w8 ⟨rfl, hb8⟩)
  have HB8 : Hid (Below w.heap.size w w8) := HB7.out.trans (hb8.mono (by omega))
  go_wp2
  go_ret
  exact ⟨rfl, HB8.out⟩

end Go.Proofs.YtenaepdmlknlcaaGreatDoor

namespace Go.Proofs.YtenaepdmlknlcaaGreatDoor
open Go.ChangeShapes Go.WideShapes Go.RowKit Go.Deep

theorem cells3 : Tryz.prog.cellsOf 3 = 1 := by kernel_rfl
theorem cells29 : Tryz.prog.cellsOf 29 = 2 := by kernel_rfl
theorem cells30 : Tryz.prog.cellsOf 30 = 1 := by kernel_rfl
theorem cells32 : Tryz.prog.cellsOf 32 = 5 := by kernel_rfl

section
variable {H : Type} {enc : TypeId × Value → H} {W : World}

theorem add_none (b off k : Nat) : (⟨b, off, none⟩ : Addr).add k = ⟨b, off + k, none⟩ := by
  unfold Addr.add
  split
  · rename_i h; subst h; rfl
  · rfl
/-- An address that is read has no spot. -/
theorem addr_none {a : Addr} {v : Value} (h : W.cell? a = some v) : a = ⟨a.block, a.off, none⟩ := by
  obtain ⟨b, o, s⟩ := a
  cases s with
  | none => rfl
  | some x =>
    unfold World.cell? at h
    split at h <;> simp at h

instance : Inhabited FG := ⟨⟨⟨0, 0, 0, 0, []⟩, none, 0⟩⟩
end
end Go.Proofs.YtenaepdmlknlcaaGreatDoor
