import Derived.Test.YtbphndloichnaaaGreatDoorG32
import Derived.Test.YtbphndloichnaaaGreatDoorG20
namespace Go.Proofs.YtbphndloichnaaaGreatDoor
open Go.RowKit Go.Shelf

theorem Stilled.but {N : Nat} {S : Nat → Prop} {A B : World} {o X n : Nat} {Ps : List Nat} {gs : List FG} (h : Stilled N A o X n Ps gs) (hb : But S A B) (hS : ∀ b, S b → b ≠ o ∧ (b < N ∨ A.heap.size ≤ b)) : Stilled N B o X n Ps gs := by
  obtain ⟨h1, h2, h3, ⟨ra, rc, p0, hp⟩, ⟨F, fc, f1, fN, f2, f3⟩, h6, hxN, h7, h8⟩ := h
  have hz := hb.size
  have ho : ¬ S o := fun h => (hS o h).1 rfl
  have hn : ∀ b, N ≤ b → b < A.heap.size → ¬ S b := fun b hb hl h => by have := (hS b h).2; omega
  have hc : ∀ b c, N ≤ b → b < A.heap.size → B.cell? ⟨b, c, none⟩ = A.cell? ⟨b, c, none⟩ := fun b c h1 h2 => hb.cell h2 (hn b h1 h2)
  exact ⟨h1, h2, by omega, ⟨ra, rc, (hb.cell h3 ho).trans p0, hp.imp id (fun ⟨R, e, hN, hR, hj⟩ => ⟨R, e, hN, by omega, fun j P g hP hg => (hc _ _ hN hR).trans (hj j P g hP hg)⟩)⟩, ⟨F, fc, (hb.cell h3 ho).trans f1, fN, by omega, (hc _ _ fN f2).trans f3⟩, fun j hj => (h6 j hj).congr (fun c _ => hc _ _ hxN h7), hxN, by omega, fun j P g hP hg => ⟨(h8 j P g hP hg).1, by have := (h8 j P g hP hg).2.1; omega, fun t ht => ⟨(hc _ _ (h8 j P g hP hg).1 (h8 j P g hP hg).2.1).trans ((h8 j P g hP hg).2.2 t ht).1, (hc _ _ (h8 j P g hP hg).1 (h8 j P g hP hg).2.1).trans ((h8 j P g hP hg).2.2 t ht).2⟩⟩⟩

set_option maxRecDepth 100000 in
set_option maxHeartbeats 4000000 in
theorem still_any (o X n : Nat) (Ps : List Nat) (gs : List FG) (w : World) {N : Nat} (hS : Stilled N w o X n Ps gs) (hn2 : n ≤ 2600000000000) (hk : ∀ g ∈ gs, g.f.ps.length ≤ 8800000000000) :
    Calls Tryz.prog 13 #[.pointer (some ⟨o, 0, none⟩)] w fun e w' => e = .returned (.bool true) ∧ Below w.heap.size w w' := by
  have HS : Hid (Stilled N w o X n Ps gs) := hS
  have Hk : Hid (∀ g ∈ gs, g.f.ps.length ≤ 8800000000000) := hk
  have Hn : Hid (n = gs.length) := hS.num
  obtain ⟨ra, rc, p0, hpl⟩ := hS.pl
  obtain ⟨F, fc, f1, _, hFl, f0⟩ := hS.fl
  have hol := hS.olt
  have hXl := hS.xlt
  have Hpl : Hid _ := hpl
  rw [← hS.num] at p0
  clear hS hk hpl
  go_enter Tryz.func13, Tryz.ntmps13
  go_wp2
  go_loop [3] (fun iv => ∃ i : Nat, i ≤ n ∧ iv = .int .i64 (i : Int)) (fun iv => n - (intOf iv).toNat)
  case atStart => exact ⟨0, by omega, rfl⟩
  case round =>
    obtain ⟨i, hi, rfl⟩ := hrel
    by_cases hlt : i < n
    · obtain ⟨g, hg⟩ : ∃ g, gs[i]? = some g := ⟨gs[i]'(by rw [← Hn.out]; exact hlt), List.getElem?_eq_getElem _⟩
      obtain ⟨P, hP⟩ : ∃ P, Ps[i]? = some P := ⟨Ps[i]'(by rw [HS.out.len, ← Hn.out]; exact hlt), List.getElem?_eq_getElem _⟩
      obtain ⟨R, rfl, _, hRl, hRc⟩ := Hpl.out.resolve_left (fun e => by rw [e] at hg; simp at hg)
      have r0 := hRc i P g hP hg
      rw [slP] at r0
      have hkl := Hk.out g (List.mem_of_getElem? hg)
      obtain ⟨_, hPl, hIn⟩ := HS.out.ps i P g hP hg
      obtain ⟨k, hkk⟩ : ∃ k, k = g.f.ps.length := ⟨_, rfl⟩
      rw [← hkk] at r0 hkl hIn
      have HIn : Hid (InkP w P k) := hIn
      clear hRc hg hP hIn hkk
      have hiI : (i : Int) < (n : Int) := by omega
      go_wp2
      go_loop [4] (fun jv => ∃ j : Nat, j ≤ k + 2 ∧ jv = .int .i64 (j : Int)) (fun jv => k + 2 - (intOf jv).toNat)
      case atStart => exact ⟨0, by omega, rfl⟩
      case round =>
        obtain ⟨j, hj, rfl⟩ := hrel
        by_cases hjk : j < k + 2
        · obtain ⟨v1, v2⟩ := HIn.out j hjk
          have hjI : (j : Int) < (k : Int) + 2 := by omega
          go_wp2
          all_goals first
            | (go_round; case rel => exact ⟨j + 1, by omega, by go_num⟩; case measure => simp [intOf]; omega)
            | exact ⟨⟨j + 1, by omega, by go_num⟩, by simp [intOf]; omega⟩
        · go_wp2
          all_goals first
            | (go_round; case rel => exact ⟨i + 1, by omega, by go_num⟩; case measure => simp [intOf]; omega)
            | exact ⟨⟨i + 1, by omega, by go_num⟩, by simp [intOf]; omega⟩
    · go_wp2
      go_loopw [5] (fun iv wr => ∃ t : Nat, t ≤ 1 ∧ iv = .int .i64 (t : Int) ∧ Below w.heap.size w wr) (fun iv _ => 1 - (intOf iv).toNat)
      case atStart => exact ⟨0, by omega, rfl, Below.refl _ _⟩
      case round =>
        obtain ⟨t, ht, rfl, hB⟩ := hrel
        have q1 := (hB.cell (p := ⟨o, 1, none⟩) hol).trans f1
        have q0 := (hB.cell (p := ⟨F, 0, none⟩) hFl).trans f0
        by_cases ht0 : t < 1
        · obtain rfl : t = 0 := by omega
          go_wp2
          go_loopw [6] (fun kv wq => ∃ k : Nat, k ≤ n + 2 ∧ kv = .int .i64 (k : Int) ∧ Below w.heap.size w wq) (fun kv _ => n + 2 - (intOf kv).toNat)
          case atStart => exact ⟨0, by omega, rfl, hB⟩
          case round =>
            clear q1 q0
            obtain ⟨k, hk, rfl, hB2⟩ := hrel
            have q1 := (hB2.cell (p := ⟨o, 1, none⟩) hol).trans f1
            have q0 := (hB2.cell (p := ⟨F, 0, none⟩) hFl).trans f0
            have hz2 := hB2.size
            by_cases hkn : k < n + 2
            · obtain ⟨x0, x1, x2, x3, x4⟩ := HS.out.xz k hkn
              have y0 := (hB2.cell (p := ⟨X, k * 5, none⟩) hXl).trans x0
              have y1 := (hB2.cell (p := ⟨X, k * 5 + 1, none⟩) hXl).trans x1
              have y2 := (hB2.cell (p := ⟨X, k * 5 + 2, none⟩) hXl).trans x2
              have y3 := (hB2.cell (p := ⟨X, k * 5 + 3, none⟩) hXl).trans x3
              have y4 := (hB2.cell (p := ⟨X, k * 5 + 4, none⟩) hXl).trans x4
              have hkI : (k : Int) < (n : Int) + 2 := by omega
              clear x0 x1 x2 x3 x4
              go_wp2
              exact ⟨⟨k + 1, by omega, by go_num, hB2.alloc hB2.size _⟩, by simp [intOf]; omega⟩
            · go_wp2
              go_roundw
              case rel => exact ⟨1, by omega, by go_num, hB2⟩
              case measure => simp [intOf]
        · go_wp2
          go_ret
          exact ⟨rfl, hB⟩

end Go.Proofs.YtbphndloichnaaaGreatDoor
namespace Go.Proofs.YtbphndloichnaaaGreatDoor
open Go.RowKit Go.Shelf

theorem fold_congr (x : Bx) : ∀ (vs us : List FV) (o p : Option FV), vs.map FV.f = us.map FV.f → o.map FV.f = p.map FV.f → (vs.foldl (pickV x) o).map FV.f = (us.foldl (pickV x) p).map FV.f
  | [], us, o, p, h, ho => by
    have : us = [] := by simpa using h.symm
    subst this
    exact ho
  | v :: r, us, o, p, h, ho => by
    cases us with
    | nil => simp at h
    | cons u s =>
      simp only [List.map_cons, List.cons.injEq] at h
      rw [List.foldl_cons, List.foldl_cons]
      refine fold_congr x r s _ _ h.2 ?_
      unfold pickV
      rw [h.1]
      split
      · cases o with
        | none =>
          cases p with
          | none => simp [h.1]
          | some q => simp at ho
        | some a =>
          cases p with
          | none => simp at ho
          | some q =>
            simp only [Option.map_some, Option.some.injEq] at ho
            simp only [ho]
            split <;> simp [h.1, ho]
      · exact ho
theorem tcol_map (o : Option FV) : tcol o = match o.map FV.f with | none => 0 | some f => f.col := by cases o <;> rfl
theorem body_congr {vs us : List FV} (h : vs.map FV.f = us.map FV.f) (p c r : Int) : bodyR vs p c r = bodyR us p c r := by
  have : colR vs p c r = colR us p c r := by
    funext k
    unfold colR
    rw [tcol_map, tcol_map]
    have := fold_congr (pixZ p c r k) vs us none none h rfl
    unfold topOf
    rw [this]
  unfold bodyR
  rw [this]
theorem seen_congr {gs hs : List FG} (h : gs.map FG.f = hs.map FG.f) (i : Nat) (id : Int) : seenG gs i id = seenG hs i id := by
  have e : ∀ l : List FG, seenG l i id = ((l.map FG.f).take i).any fun f => f.id == id := fun l => by
    rw [seenG, ← List.map_take, List.any_map]; rfl
  rw [e, e, h]
theorem okTo_congr {gs hs : List FG} (h : gs.map FG.f = hs.map FG.f) : ∀ i, okTo gs i = okTo hs i
  | 0 => rfl
  | i + 1 => by
    rw [okTo, okTo, okTo_congr h i]
    have e : (gs[i]?).map FG.f = (hs[i]?).map FG.f := by rw [← List.getElem?_map, ← List.getElem?_map, h]
    cases h1 : gs[i]? with
    | none => cases h2 : hs[i]? with
      | none => rfl
      | some b => rw [h1, h2] at e; simp at e
    | some a => cases h2 : hs[i]? with
      | none => rw [h1, h2] at e; simp at e
      | some b =>
        rw [h1, h2] at e
        simp only [Option.map_some, Option.some.injEq] at e
        simp only [e, seen_congr h]
theorem drawV_congr {gs hs : List FG} (h : gs.map FG.f = hs.map FG.f) (z c r : Int) : drawV gs z c r = drawV hs z c r := by
  have hl : gs.length = hs.length := by have := congrArg List.length h; simpa using this
  have hv : (gs.map FG.fv).map FV.f = (hs.map FG.fv).map FV.f := by
    rw [List.map_map, List.map_map]
    have : FV.f ∘ FG.fv = FG.f := by funext g; exact g.fv_f
    rw [this, h]
  unfold drawV
  rw [okTo_congr h, hl, body_congr hv]
theorem drawV_form (gs : List FG) (z c r : Int) : ∃ (m b : ByteArray) (e : Int), drawV gs z c r = .tuple #[.string m, .string b, .int .i64 e] := by
  unfold drawV
  split
  · exact ⟨_, _, _, rfl⟩
  · exact ⟨_, _, _, rfl⟩

/-- The list that was lent. -/
def lentL (Ps : List Nat) (gs : List FG) : List FG := List.zipWith (fun P g => ⟨g.f, some ⟨P, 0, none⟩, g.f.ps.length + 2⟩) Ps gs
theorem lentL_f : ∀ (Ps : List Nat) (gs : List FG), Ps.length = gs.length → (lentL Ps gs).map FG.f = gs.map FG.f
  | [], [], _ => rfl
  | P :: r, g :: s, h => by
    have := lentL_f r s (by simpa using h)
    simp only [lentL, List.zipWith_cons_cons, List.map_cons] at *
    rw [this]
  | [], _ :: _, h => by simp at h
  | _ :: _, [], h => by simp at h
theorem lentL_get {Ps : List Nat} {gs : List FG} {j : Nat} {g' : FG} (h : (lentL Ps gs)[j]? = some g') : ∃ P g, Ps[j]? = some P ∧ gs[j]? = some g ∧ g' = ⟨g.f, some ⟨P, 0, none⟩, g.f.ps.length + 2⟩ := by
  rw [lentL, List.getElem?_zipWith] at h
  cases h1 : Ps[j]? with
  | none => rw [h1] at h; simp at h
  | some P => cases h2 : gs[j]? with
    | none => rw [h1, h2] at h; simp at h
    | some g => rw [h1, h2] at h; simp at h; exact ⟨P, g, rfl, rfl, h.symm⟩
theorem Lent.feats {N : Nat} {W : World} {o X n : Nat} {Ps : List Nat} {gs : List FG} (h : Lent N W o X n Ps gs) (hk : ∀ g ∈ gs, g.f.ps.length ≤ 8800000000000) : FeatsGO W (some ⟨X, 0, none⟩) (lentL Ps gs) := by
  refine .inr ⟨X, 0, rfl, h.xlt, fun i g' e => ?_⟩
  obtain ⟨P, g, hP, hg, rfl⟩ := lentL_get e
  have hX := h.xs i P g hP hg
  have hL := h.lp i P g hP hg
  have hkg := hk g (List.mem_of_getElem? hg)
  rw [Nat.zero_add]
  refine ⟨hX.c0, hX.c1, hX.c2, hX.c3, hX.c4, .inr ⟨P, 0, rfl, (h.inc i P hP).2, fun k x y e => ?_⟩, by simp, by show g.f.ps.length ≤ _; omega⟩
  rw [Nat.zero_add]
  exact hL.pts k x y e
theorem Lent.below {N : Nat} {A B : World} {o X n : Nat} {Ps : List Nat} {gs : List FG} (h : Lent N A o X n Ps gs) (ho : o < A.heap.size) (hb : Below A.heap.size A B) : Lent N B o X n Ps gs := by
  obtain ⟨hc, hf⟩ := bcell hb
  have hz := hb.size
  obtain ⟨ra, rc, p0, hp⟩ := h.pl
  obtain ⟨F, fc, f1, f2, f3, f4⟩ := h.fl
  exact ⟨h.len, ⟨ra, rc, (hc _ _ ho).trans p0, hp.imp id (fun ⟨R, e, h1, h2, h3⟩ => ⟨R, e, h1, by omega, fun j P g hP hg => (hc _ _ h2).trans (h3 j P g hP hg)⟩)⟩, ⟨F, fc, (hc _ _ ho).trans f1, f2, by omega, (hc _ _ f3).trans f4⟩, fun j P g hP hg => (h.xs j P g hP hg).congr (fun c _ => hc _ _ h.xlt), h.t0.congr (fun c _ => hc _ _ h.xlt), h.t1.congr (fun c _ => hc _ _ h.xlt), fun j => (hf _ _ h.xlt).trans (h.xf j), fun j P g hP hg => (h.lp j P g hP hg).but (S := fun _ => False) (But.of_below hb) (h.inc j P hP).2 (fun h => h), fun j P hP => by have := h.inc j P hP; omega, h.pw, h.xn, by have := h.xlt; omega⟩

set_option maxHeartbeats 400000 in
theorem num_any (e : Int) (w : World) : Calls Tryz.prog 37 #[.int .i64 e] w fun r w' => r = .returned (.int .i64 e) ∧ w' = w := by
  go_enter Tryz.func37, Tryz.ntmps37
  go_wp2
  go_ret
  exact ⟨rfl, rfl⟩

set_option maxRecDepth 100000 in
set_option maxHeartbeats 4000000 in
theorem draw_any (o n cap : Nat) (a : Option Addr) (gs : List FG) (z c r : Int) (w0 w : World) (hw0 : Below w0.heap.size w0 w) (ho : w0.heap.size ≤ o) (ho2 : o < w.heap.size) (hf : FeatsGO w0 a gs) (hn : n = gs.length) (hn2 : n ≤ 2600000000000) (hk : ∀ g ∈ gs, g.f.ps.length ≤ 8800000000000)
    (htab : w0.cell? ⟨3, 15, none⟩ = some (.int .u8 4)) (hw3 : 3 < w0.heap.size)
    (c0 : w.cell? ⟨o, 0, none⟩ = some (.slice none 0 0)) (c1 : w.cell? ⟨o, 1, none⟩ = some (.slice none 0 0)) (fo : ∀ j, w.frozen? ⟨o, j, none⟩ = false) :
    Calls Tryz.prog 12 #[.pointer (some ⟨o, 0, none⟩), .slice a n cap, .agg #[.int .i64 z, .int .i64 c, .int .i64 r]] w fun e w' => e = .returned (.bool true) ∧ (∃ (X : Nat) (Ps : List Nat), Stilled (w.heap.size + 1) w' o X n Ps gs) ∧ But (fun b => b = o) w w' := by
  have hA : Below w.heap.size w (w.alloc (.cells #[.int .i64 z, .int .i64 c, .int .i64 r] 24)) := (Below.refl _ _).alloc (Nat.le_refl _) _
  have HLend : Hid (Calls Tryz.prog 34 #[.pointer (some ⟨o, 0, none⟩), .slice a n cap] (w.alloc (.cells #[.int .i64 z, .int .i64 c, .int .i64 r] 24)) fun e w' => ∃ (X : Nat) (Ps : List Nat), e = .returned (.slice (some ⟨X, 0, none⟩) n (n + 2)) ∧ Lent (w.heap.size + 1) w' o X n Ps gs ∧ But (· = o) (w.alloc (.cells #[.int .i64 z, .int .i64 c, .int .i64 r] 24)) w') := by
    have := lend_any o n cap a gs w0 (w.alloc (.cells #[.int .i64 z, .int .i64 c, .int .i64 r] 24)) (hw0.trans (hA.mono hw0.size)) ho (by simp; omega) hf hn hn2 hk ((hA.cell (p := ⟨o, 0, none⟩) ho2).trans c0) ((hA.cell (p := ⟨o, 1, none⟩) ho2).trans c1) (fun j => (hA.frozen (p := ⟨o, j, none⟩) ho2).trans (fo j))
    rwa [World.size_alloc] at this
  have Hf : Hid (FeatsGO w0 a gs) := hf
  have Hn : Hid (n = gs.length) := hn
  have Hk : Hid (∀ g ∈ gs, g.f.ps.length ≤ 8800000000000) := hk
  have Htab : Hid (w0.cell? ⟨3, 15, none⟩ = some (.int .u8 4)) := htab
  have hsz0 := hw0.size
  obtain ⟨mm, bb, ee, hV⟩ := drawV_form gs z c r
  have HV : Hid (drawV gs z c r = .tuple #[.string mm, .string bb, .int .i64 ee]) := hV
  clear hf hn hk htab c0 c1 fo hV
  go_enter Tryz.func12, Tryz.ntmps12
  go_upto_region 2 with (go_at_call 34; refine Calls.mono HLend.out ?_; rintro e w2 ⟨X, Ps, rfl, hLe, hb2⟩)
  have HLe : Hid (Lent (w.heap.size + 1) w2 o X n Ps gs) := hLe
  have HB2 : Hid (But (fun b => b = o) w w2) := (But.of_below hA).trans hb2
  have hz2 : w.heap.size + 1 ≤ w2.heap.size := by have := hb2.size; simp at this; exact this
  have t0 : w2.cell? ⟨w.heap.size, 0, none⟩ = some (.int .i64 z) := (hb2.cell (by simp) (by omega)).trans (by simp [go_sem])
  have t1 : w2.cell? ⟨w.heap.size, 1, none⟩ = some (.int .i64 c) := (hb2.cell (by simp) (by omega)).trans (by simp [go_sem])
  have t2 : w2.cell? ⟨w.heap.size, 2, none⟩ = some (.int .i64 r) := (hb2.cell (by simp) (by omega)).trans (by simp [go_sem])
  have HBw2 : Hid (Below w0.heap.size w0 w2) := hw0.trans (HB2.out.below hsz0 (fun b hb => by omega))
  have HDraw : Hid (Calls Tryz.prog 11 #[.slice (some ⟨X, 0, none⟩) n (n + 2), .agg #[.int .i64 z, .int .i64 c, .int .i64 r]] w2 fun e w' => e = .returned (.tuple #[.string mm, .string bb, .int .i64 ee]) ∧ Below w2.heap.size w2 w') := by
    have hl := hLe.len
    have := Draw_any (some ⟨X, 0, none⟩) n (n + 2) (lentL Ps gs) z c r w2 (hLe.feats Hk.out) (by rw [lentL, List.length_zipWith, hl, Nat.min_self]; exact Hn.out) (by omega) ((HBw2.out.cell (p := ⟨3, 15, none⟩) hw3).trans Htab.out) (by omega)
    rwa [drawV_congr (lentL_f Ps gs hl), HV.out] at this
  clear hLe hb2 HLend
  go_upto_region 3 with (go_at_call 11; refine Calls.mono HDraw.out ?_; rintro e w3 ⟨rfl, hb3⟩)
  have hz3 := hb3.size
  have HB3 : Hid (Below w2.heap.size w2 w3) := hb3
  have s0 := (hb3.cell (p := ⟨w.heap.size, 0, none⟩) (show w.heap.size < w2.heap.size by omega)).trans t0
  have s1 := (hb3.cell (p := ⟨w.heap.size, 1, none⟩) (show w.heap.size < w2.heap.size by omega)).trans t1
  have s2 := (hb3.cell (p := ⟨w.heap.size, 2, none⟩) (show w.heap.size < w2.heap.size by omega)).trans t2
  have HRef : Hid (Calls Tryz.prog 35 #[.slice a n cap, .agg #[.int .i64 z, .int .i64 c, .int .i64 r]] w3 fun e w' => e = .returned (.tuple #[.string mm, .string bb, .int .i64 ee]) ∧ Below w3.heap.size w3 w') := by
    have := rDraw_any a n cap gs z c r w3 (Hf.out.below (HBw2.out.trans (hb3.mono (by omega)))) Hn.out (by omega)
    rwa [HV.out] at this
  clear hb3 HDraw t0 t1 t2
  go_upto_region 4 with (go_at_call 35; refine Calls.mono HRef.out ?_; rintro e w4 ⟨rfl, hb4⟩)
  have hz4 := hb4.size
  have HB24 : Hid (Below w2.heap.size w2 w4) := HB3.out.trans (hb4.mono hz3)
  have HWh : Hid (Calls Tryz.prog 36 #[.pointer (some ⟨o, 0, none⟩), .slice a n cap] w4 fun e w' => e = .returned (.bool true) ∧ Stilled (w.heap.size + 1) w' o X n Ps gs ∧ But (fun b => b = X ∨ b ∈ Ps) w4 w') :=
    whole_any (w.heap.size + 1) o X n cap a Ps gs w0 w4 (HBw2.out.trans (HB24.out.mono (by omega))) Hf.out Hn.out hn2 Hk.out (HLe.out.below (by omega) HB24.out) ho (by omega)
  clear hb4 HRef s0 s1 s2
  go_wp2_with (first
    | (go_at_call 36; refine Calls.mono HWh.out ?_; rintro e w5 ⟨rfl, hSt, hb5⟩)
    | (go_at_call 37; refine (num_any _ _).mono ?_; rintro e w6 ⟨rfl, rfl⟩))
  go_ret
  refine ⟨rfl, ⟨X, Ps, hSt⟩, (HB2.out.trans (But.of_below HB24.out)).trans_new hb5 (fun b hb h => ?_)⟩
  have hxn := HLe.out.xn
  rcases h with h | h
  · omega
  · obtain ⟨j, hj⟩ := List.mem_iff_getElem?.1 h
    have := (HLe.out.inc j b hj).1
    omega

end Go.Proofs.YtbphndloichnaaaGreatDoor
namespace Go.Proofs.YtbphndloichnaaaGreatDoor
open Go.RowKit Go.Shelf

/-- The document's own example: one place. -/
def g0 (b : Nat) : FG := ⟨⟨1, 1, 0, 3, [(40, 0)]⟩, some ⟨b, 0, none⟩, 1⟩
def f0 (k : Nat) : Nat := if k = 1 then 3 else 0
theorem colR_g0 (b : Nat) : ∀ k, k < 64 → colR [(g0 b).fv] 32 0 0 k = f0 k := by
  intro k hk
  have e : topOf (pixZ 32 0 0 k) [(g0 b).fv] = if pointB 40 0 (pixZ 32 0 0 k).l (pixZ 32 0 0 k).t (pixZ 32 0 0 k).r (pixZ 32 0 0 k).b then some (g0 b).fv else none := rfl
  have e2 : ∀ k, k < 64 → pointB 40 0 (pixZ 32 0 0 k).l (pixZ 32 0 0 k).t (pixZ 32 0 0 k).r (pixZ 32 0 0 k).b = decide (k = 1) := by decide
  rw [colR, e, e2 k hk, f0]
  by_cases h : k = 1
  · simp only [h, decide_true, if_true]; rfl
  · simp only [h, decide_false, if_false]; rfl
theorem stN_congr {f g : Nat → Nat} : ∀ n, (∀ k, k ≤ n → f k = g k) → stN f n = stN g n
  | 0, h => by rw [stN, stN, h 0 (by omega)]
  | n + 1, h => by rw [stN, stN, stN_congr n (fun k hk => h k (by omega)), h (n + 1) (by omega)]
theorem stN_f0 : ∀ k, stN f0 (k + 2) = ((runT 1 0 ++ [44]) ++ runT 1 3 ++ [44], k + 1, 0)
  | 0 => by simp [stN, f0, stp]
  | k + 1 => by
    rw [show k + 1 + 2 = (k + 2) + 1 by omega, stN, stN_f0 k]
    simp [f0, stp]
theorem bodyR_g0 (b : Nat) : bodyR [(g0 b).fv] 32 0 0 = [49, 120, 48, 44, 49, 120, 51, 44, 54, 50, 120, 48] := by
  have d : ∀ n, n < 10 → digs 10 n = [dch n] := fun n h => by rw [digs, dif_pos (.inl h)]
  have d2 : digs 10 62 = [54, 50] := by rw [digs, dif_neg (by omega), d _ (by omega)]; rfl
  rw [bodyR, stN_congr 63 (g := f0) (fun k hk => colR_g0 b k (by omega)), show 63 = 61 + 2 by omega, stN_f0]
  simp only [fin, runT, d 1 (by omega), d 0 (by omega), d 3 (by omega)]
  rw [d2]
  rfl
theorem drawV_g0 (b : Nat) : ∃ m : ByteArray, drawV [g0 b] 0 0 0 = .tuple #[.string m, .string ⟨#[49, 120, 48, 44, 49, 120, 51, 44, 54, 50, 120, 48]⟩, .int .i64 0] := by
  have ht : tileB 0 0 0 = true := by decide
  have ho : okTo [g0 b] [g0 b].length = true := by
    rw [show [g0 b].length = 0 + 1 from rfl, okTo_succ (g := g0 b) rfl, okTo]
    have : validF (g0 b).f = true := by show validF ⟨1, 1, 0, 3, [(40, 0)]⟩ = true; decide
    rw [this]
    rfl
  refine ⟨⟨(markN (bodyR [(g0 b).fv] 32 0 0)).toArray⟩, ?_⟩
  rw [drawV, ht, ho]
  show Value.tuple #[.string ⟨(markN (bodyR [(g0 b).fv] 32 0 0)).toArray⟩, .string ⟨(bodyR [(g0 b).fv] 32 0 0).toArray⟩, .int .i64 0] = _
  rw [bodyR_g0]

end Go.Proofs.YtbphndloichnaaaGreatDoor
