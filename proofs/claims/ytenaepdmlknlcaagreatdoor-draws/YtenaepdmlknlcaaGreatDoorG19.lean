import Derived.Test.YtenaepdmlknlcaaGreatDoorG18
namespace Go.Proofs.YtenaepdmlknlcaaGreatDoor
open Go.RowKit Go.Shelf

abbrev ink : Value := .int .i64 (-77000000)
/-- Places that are lent, and the two behind them. -/
structure LentP (W : World) (P : Nat) (ps : Pts) : Prop where
  pts : ∀ (j : Nat) x y, ps[j]? = some (x, y) → W.cell? ⟨P, j * 2, none⟩ = some (.int .i64 x) ∧ W.cell? ⟨P, j * 2 + 1, none⟩ = some (.int .i64 y)
  e0 : W.cell? ⟨P, ps.length * 2, none⟩ = some ink
  e1 : W.cell? ⟨P, ps.length * 2 + 1, none⟩ = some (.int .i64 0)
  e2 : W.cell? ⟨P, (ps.length + 1) * 2, none⟩ = some ink
  e3 : W.cell? ⟨P, (ps.length + 1) * 2 + 1, none⟩ = some (.int .i64 0)
  fz : ∀ j, W.frozen? ⟨P, j, none⟩ = false
theorem LentP.but {S : Nat → Prop} {A B : World} {P : Nat} {ps : Pts} (h : LentP A P ps) (hb : But S A B) (hP : P < A.heap.size) (hS : ¬ S P) : LentP B P ps :=
  ⟨fun j x y e => ⟨(hb.cell hP hS).trans (h.pts j x y e).1, (hb.cell hP hS).trans (h.pts j x y e).2⟩, (hb.cell hP hS).trans h.e0, (hb.cell hP hS).trans h.e1, (hb.cell hP hS).trans h.e2, (hb.cell hP hS).trans h.e3, fun j => (hb.frozen hP hS).trans (h.fz j)⟩

structure XF (W : World) (X j P : Nat) (g : FG) : Prop where
  c0 : W.cell? ⟨X, j * 5, none⟩ = some (.int .i64 g.f.id)
  c1 : W.cell? ⟨X, j * 5 + 1, none⟩ = some (.int .i64 g.f.kd)
  c2 : W.cell? ⟨X, j * 5 + 2, none⟩ = some (.int .i64 g.f.ht)
  c3 : W.cell? ⟨X, j * 5 + 3, none⟩ = some (.int .i64 g.f.col)
  c4 : W.cell? ⟨X, j * 5 + 4, none⟩ = some (.slice (some ⟨P, 0, none⟩) g.f.ps.length (g.f.ps.length + 2))
structure XZ (W : World) (X j : Nat) (v : Value) : Prop where
  c0 : W.cell? ⟨X, j * 5, none⟩ = some v
  c1 : W.cell? ⟨X, j * 5 + 1, none⟩ = some (.int .i64 0)
  c2 : W.cell? ⟨X, j * 5 + 2, none⟩ = some (.int .i64 0)
  c3 : W.cell? ⟨X, j * 5 + 3, none⟩ = some (.int .i64 0)
  c4 : W.cell? ⟨X, j * 5 + 4, none⟩ = some (.slice none 0 0)
theorem XF.congr {A B : World} {X j P : Nat} {g : FG} (h : XF A X j P g) (e : ∀ c, c < 5 → B.cell? ⟨X, j * 5 + c, none⟩ = A.cell? ⟨X, j * 5 + c, none⟩) : XF B X j P g :=
  ⟨(e 0 (by decide)).trans h.c0, (e 1 (by decide)).trans h.c1, (e 2 (by decide)).trans h.c2, (e 3 (by decide)).trans h.c3, (e 4 (by decide)).trans h.c4⟩
theorem XZ.congr {A B : World} {X j : Nat} {v : Value} (h : XZ A X j v) (e : ∀ c, c < 5 → B.cell? ⟨X, j * 5 + c, none⟩ = A.cell? ⟨X, j * 5 + c, none⟩) : XZ B X j v :=
  ⟨(e 0 (by decide)).trans h.c0, (e 1 (by decide)).trans h.c1, (e 2 (by decide)).trans h.c2, (e 3 (by decide)).trans h.c3, (e 4 (by decide)).trans h.c4⟩

def slP (P : Nat) (g : FG) : Value := .slice (some ⟨P, 0, none⟩) (g.f.ps.length + 2) (g.f.ps.length + 2)

/-- Behind i rounds of lend. -/
structure LendInv (w : World) (o X n : Nat) (gs : List FG) (i : Nat) (Ps : List Nat) (ls : List Value) (rv : Value) (wr : World) : Prop where
  len : Ps.length = i
  c0 : wr.cell? ⟨o, 0, none⟩ = some rv
  own : wr.ownsRow (X + 1) 30 1 rv i ls
  lsl : ∀ (j : Nat) P g, Ps[j]? = some P → gs[j]? = some g → ls[j]? = some (slP P g)
  c1 : wr.cell? ⟨o, 1, none⟩ = some (.slice none 0 0)
  fo : ∀ j, wr.frozen? ⟨o, j, none⟩ = false
  xs : ∀ (j : Nat) P g, Ps[j]? = some P → gs[j]? = some g → XF wr X j P g
  xz : ∀ j, i ≤ j → j < n + 2 → XZ wr X j (.int .i64 0)
  xf : ∀ j, wr.frozen? ⟨X, j, none⟩ = false
  lp : ∀ (j : Nat) P g, Ps[j]? = some P → gs[j]? = some g → LentP wr P g.f.ps
  inc : ∀ (j : Nat) P, Ps[j]? = some P → X < P ∧ P < wr.heap.size
  pw : Ps.Pairwise (· < ·)
  but : But (· = o) w wr
  xlt : X < wr.heap.size

theorem LendInv.row_ne {w : World} {o X n i : Nat} {gs : List FG} {Ps : List Nat} {ls : List Value} {rv : Value} {wr : World} (h : LendInv w o X n gs i Ps ls rv wr) (hn : gs.length = n) (hi : i ≤ n) {j P R : Nat} (hj : Ps[j]? = some P) (hR : rv.ownBlock = some R) : R ≠ P := by
  intro e
  subst e
  have hjl : j < Ps.length := (List.getElem?_eq_some_iff.1 hj).1
  have hi0 : 0 < i := by have := h.len; omega
  obtain ⟨P0, hP0⟩ : ∃ P0, Ps[0]? = some P0 := ⟨Ps[0]'(by omega), List.getElem?_eq_getElem _⟩
  obtain ⟨g0, hg0⟩ : ∃ g0, gs[0]? = some g0 := ⟨gs[0]'(by omega), List.getElem?_eq_getElem _⟩
  obtain ⟨g, hg⟩ : ∃ g, gs[j]? = some g := ⟨gs[j]'(by have := h.len; omega), List.getElem?_eq_getElem _⟩
  have hc := h.own.cells hR 0 _ (h.lsl 0 P0 g0 hP0 hg0)
  rw [addr_add, Nat.zero_add] at hc
  have hL := h.lp j R g hj hg
  cases hps : g.f.ps with
  | nil =>
    have := hL.e0
    rw [hps] at this
    simp at this
    rw [hc] at this
    cases this
  | cons p r =>
    have := (hL.pts 0 p.1 p.2 (by rw [hps]; rfl)).1
    simp at this
    rw [hc] at this
    cases this

theorem lend_step {w : World} {o X n i : Nat} {gs : List FG} {Ps : List Nat} {ls : List Value} {rv rv' : Value} {wr wh : World} {g : FG} (h : LendInv w o X n gs i Ps ls rv wr) (hn : gs.length = n) (hi : i < n) (hg : gs[i]? = some g) (hoX : o < X) (hwX : w.heap.size ≤ X)
    (hb : But (fun b => b = o ∨ b = X ∨ rv.ownBlock = some b) wr wh) (hc0 : wh.cell? ⟨o, 0, none⟩ = some rv') (hown : wh.ownsRow (X + 1) 30 1 rv' (i + 1) (ls ++ [slP wr.heap.size g])) (hc1 : wh.cell? ⟨o, 1, none⟩ = some (.slice none 0 0)) (hfo : ∀ j, wh.frozen? ⟨o, j, none⟩ = false)
    (hx : XF wh X i wr.heap.size g) (hxo : ∀ c, c < i * 5 ∨ i * 5 + 5 ≤ c → wh.cell? ⟨X, c, none⟩ = wr.cell? ⟨X, c, none⟩) (hxf : ∀ j, wh.frozen? ⟨X, j, none⟩ = false) (hlp : LentP wh wr.heap.size g.f.ps) (hlt : wr.heap.size < wh.heap.size) :
    LendInv w o X n gs (i + 1) (Ps ++ [wr.heap.size]) (ls ++ [slP wr.heap.size g]) rv' wh := by
  have hls : ls.length = i := by rw [h.own.1, Nat.mul_one]
  have hnR : ∀ (j : Nat) P, Ps[j]? = some P → ¬ (P = o ∨ P = X ∨ rv.ownBlock = some P) := fun j P hj hS => by
    have := h.inc j P hj
    rcases hS with e | e | e
    · omega
    · omega
    · exact h.row_ne hn (by omega) hj e rfl
  refine ⟨by rw [List.length_append, h.len]; rfl, hc0, hown, fun j P g' hP hg' => ?_, hc1, hfo, fun j P g' hP hg' => ?_, fun j hj1 hj2 => (h.xz j (by omega) hj2).congr (fun c hc => hxo _ (by omega)), hxf, fun j P g' hP hg' => ?_, fun j P hP => ?_, ?_, ?_, by have := h.xlt; omega⟩
  · rcases getElem?_snoc hP with hP' | ⟨e1, e2⟩
    · rw [List.getElem?_append_left (by have := (List.getElem?_eq_some_iff.1 hP').1; have := h.len; omega)]
      exact h.lsl j P g' hP' hg'
    · rw [h.len] at e1
      subst e1 e2
      rw [hg] at hg'; cases hg'
      rw [List.getElem?_append_right (by omega), hls]; simp
  · rcases getElem?_snoc hP with hP' | ⟨e1, e2⟩
    · have := (List.getElem?_eq_some_iff.1 hP').1
      have := h.len
      exact (h.xs j P g' hP' hg').congr (fun c hc => hxo _ (by omega))
    · rw [h.len] at e1
      subst e1 e2
      rw [hg] at hg'; cases hg'
      exact hx
  · rcases getElem?_snoc hP with hP' | ⟨e1, e2⟩
    · exact (h.lp j P g' hP' hg').but hb (h.inc j P hP').2 (hnR j P hP')
    · rw [h.len] at e1
      subst e1 e2
      rw [hg] at hg'; cases hg'
      exact hlp
  · rcases getElem?_snoc hP with hP' | ⟨e1, e2⟩
    · have := h.inc j P hP'
      omega
    · subst e2
      have := h.xlt
      omega
  · rw [List.pairwise_append]
    refine ⟨h.pw, by simp, fun a ha b hb' => ?_⟩
    simp at hb'
    subst hb'
    obtain ⟨j, hj⟩ := List.mem_iff_getElem?.1 ha
    exact (h.inc j a hj).2
  · refine h.but.trans_new hb (fun b hbl hS => ?_)
    rcases hS with e | e | e
    · exact e
    · omega
    · have := (h.own.lt b e).1
      omega

/-- Behind a copy of places into a block. -/
structure CopyPost (w : World) (b : Nat) (ps : Pts) (w' : World) : Prop where
  pts : ∀ (j : Nat) x y, ps[j]? = some (x, y) → w'.cell? ⟨b, j * 2, none⟩ = some (.int .i64 x) ∧ w'.cell? ⟨b, j * 2 + 1, none⟩ = some (.int .i64 y)
  rest : ∀ j, ps.length * 2 ≤ j → w'.cell? ⟨b, j, none⟩ = w.cell? ⟨b, j, none⟩
  fz : ∀ j, w'.frozen? ⟨b, j, none⟩ = w.frozen? ⟨b, j, none⟩
  but : But (· = b) w w'
theorem setCells_but (b : Nat) : ∀ (vs : List Value) (o : Nat) (w : World), But (· = b) w (w.setCells b o vs)
  | [], _, _ => But.refl _ _
  | v :: r, o, w => But.trans (B := w.setCell ⟨b, o, none⟩ v) ((But.refl (· = b) w).setCell (p := ⟨b, o, none⟩) (.inl rfl) v) (setCells_but b r (o + 1) _)
theorem flatP_get {ps : Pts} {j : Nat} {x y : Int} (h : ps[j]? = some (x, y)) : (flatP ps)[j * 2]? = some (.int .i64 x) ∧ (flatP ps)[j * 2 + 1]? = some (.int .i64 y) := by
  induction ps generalizing j with
  | nil => simp at h
  | cons p r ih =>
    have e : flatP (p :: r) = .int .i64 p.1 :: .int .i64 p.2 :: flatP r := rfl
    cases j with
    | zero => simp at h; subst h; simp [e]
    | succ j =>
      have := ih (by simpa using h)
      rw [e, show (j + 1) * 2 = j * 2 + 2 by omega]
      simpa using this
theorem copy_post (w : World) (b : Nat) (ps : Pts) (hc : ∀ j, j < ps.length * 2 → (w.cell? ⟨b, j, none⟩).isSome = true) : CopyPost w b ps (w.setCells b 0 (flatP ps)) := by
  have hl := flatP_length ps
  have hin := World.cell?_setCells_in b (flatP ps) 0 w (fun j hj => by rw [Nat.zero_add]; exact hc j (by omega))
  refine ⟨fun j x y e => ?_, fun j hj => World.cell?_setCells_out b (flatP ps) 0 w ⟨b, j, none⟩ (fun _ _ => by simp only; omega), fun j => World.frozen?_setCells b (flatP ps) 0 w ⟨b, j, none⟩, setCells_but b _ _ w⟩
  have hj : j < ps.length := (List.getElem?_eq_some_iff.1 e).1
  obtain ⟨h1, h2⟩ := flatP_get e
  obtain ⟨l1, g1⟩ := List.getElem?_eq_some_iff.1 h1
  obtain ⟨l2, g2⟩ := List.getElem?_eq_some_iff.1 h2
  have a1 := hin (j * 2) l1
  have a2 := hin (j * 2 + 1) l2
  rw [Nat.zero_add] at a1 a2
  rw [g1] at a1
  rw [g2] at a2
  exact ⟨a1, a2⟩
theorem own_below {w w' : World} {B : Nat} {e : TypeId} {k : Nat} {v : Value} {n : Nat} {xs : List Value} (h : w.ownsRow B e k v n xs) (hb : Below w.heap.size w w') : w'.ownsRow B e k v n xs := by
  refine ⟨h.1, ?_⟩
  rcases h.2 with h0 | ⟨g, cap, cur, h1, h2, h3, h4⟩
  · exact .inl h0
  · refine .inr ⟨g, cap, cur, h1, h2, ?_, h4⟩
    rw [hb.block g (by have := Array.getElem?_eq_some_iff.1 h3; exact this.1)]
    exact h3

/-- What the caller has lent. -/
structure Lent (N : Nat) (W : World) (o X n : Nat) (Ps : List Nat) (gs : List FG) : Prop where
  len : Ps.length = gs.length
  pl : ∃ ra rc, W.cell? ⟨o, 0, none⟩ = some (.slice ra gs.length rc) ∧ (gs = [] ∨ ∃ R, ra = some ⟨R, 0, none⟩ ∧ N ≤ R ∧ R < W.heap.size ∧ ∀ (j : Nat) P g, Ps[j]? = some P → gs[j]? = some g → W.cell? ⟨R, j, none⟩ = some (slP P g))
  fl : ∃ F fc, W.cell? ⟨o, 1, none⟩ = some (.slice (some ⟨F, 0, none⟩) 1 fc) ∧ N ≤ F ∧ F < W.heap.size ∧ W.cell? ⟨F, 0, none⟩ = some (.slice (some ⟨X, 0, none⟩) (n + 2) (n + 2))
  xs : ∀ (j : Nat) P g, Ps[j]? = some P → gs[j]? = some g → XF W X j P g
  t0 : XZ W X n ink
  t1 : XZ W X (n + 1) ink
  xf : ∀ j, W.frozen? ⟨X, j, none⟩ = false
  lp : ∀ (j : Nat) P g, Ps[j]? = some P → gs[j]? = some g → LentP W P g.f.ps
  inc : ∀ (j : Nat) P, Ps[j]? = some P → X < P ∧ P < W.heap.size
  pw : Ps.Pairwise (· < ·)
  xn : N ≤ X
  xlt : X < W.heap.size

abbrev lendW (we : World) (o X i : Nat) (rv : Value) (id kd ht col : Int) (s1 s2 : Value) : World :=
  ((((((we.setCell ⟨o, 0, none⟩ rv).setCell ⟨X, i * 5, none⟩ (.int .i64 id)).setCell ⟨X, i * 5 + 1, none⟩ (.int .i64 kd)).setCell ⟨X, i * 5 + 2, none⟩ (.int .i64 ht)).setCell ⟨X, i * 5 + 3, none⟩ (.int .i64 col)).setCell ⟨X, i * 5 + 4, none⟩ s1).setCell ⟨X, i * 5 + 4, none⟩ s2
theorem lendW_but (we : World) (o X i : Nat) (rv : Value) (id kd ht col : Int) (s1 s2 : Value) : But (fun b => b = o ∨ b = X) we (lendW we o X i rv id kd ht col s1 s2) :=
  (((((((But.refl _ we).setCell (p := ⟨o, 0, none⟩) (.inl (.inl rfl)) _).setCell (p := ⟨X, i * 5, none⟩) (.inl (.inr rfl)) _).setCell (p := ⟨X, i * 5 + 1, none⟩) (.inl (.inr rfl)) _).setCell (p := ⟨X, i * 5 + 2, none⟩) (.inl (.inr rfl)) _).setCell (p := ⟨X, i * 5 + 3, none⟩) (.inl (.inr rfl)) _).setCell (p := ⟨X, i * 5 + 4, none⟩) (.inl (.inr rfl)) _).setCell (p := ⟨X, i * 5 + 4, none⟩) (.inl (.inr rfl)) _
theorem lendW_o (we : World) (o X i : Nat) (rv : Value) (id kd ht col : Int) (s1 s2 : Value) (h : X ≠ o) (j : Nat) : (lendW we o X i rv id kd ht col s1 s2).cell? ⟨o, j, none⟩ = (we.setCell ⟨o, 0, none⟩ rv).cell? ⟨o, j, none⟩ := by
  unfold lendW
  iterate 6 rw [World.cell?_setCell_far _ _ _ _ h]
theorem lendW_fz (we : World) (o X i : Nat) (rv : Value) (id kd ht col : Int) (s1 s2 : Value) (a : Addr) : (lendW we o X i rv id kd ht col s1 s2).frozen? a = we.frozen? a := by
  unfold lendW
  iterate 7 rw [World.frozen?_setCell]
theorem set_off (W : World) (X j c : Nat) (v : Value) (h : j ≠ c) : (W.setCell ⟨X, j, none⟩ v).cell? ⟨X, c, none⟩ = W.cell? ⟨X, c, none⟩ := World.cell?_setCell_other _ _ _ _ (by intro e; injection e with _ e2 _; exact h e2)
theorem lendW_x (we : World) (o X i : Nat) (rv : Value) (id kd ht col : Int) (s1 s2 : Value) (h : o ≠ X) (c : Nat) (hc : c < i * 5 ∨ i * 5 + 5 ≤ c) : (lendW we o X i rv id kd ht col s1 s2).cell? ⟨X, c, none⟩ = we.cell? ⟨X, c, none⟩ := by
  unfold lendW
  rw [set_off _ _ _ _ _ (by omega), set_off _ _ _ _ _ (by omega), set_off _ _ _ _ _ (by omega), set_off _ _ _ _ _ (by omega), set_off _ _ _ _ _ (by omega), set_off _ _ _ _ _ (by omega), World.cell?_setCell_far _ _ _ _ h]
theorem lendW_xf {we : World} {o X i P : Nat} {rv s1 : Value} {g : FG} (h : o ≠ X) {v0 v1 v2 v3 v4 : Value} (x0 : we.cell? ⟨X, i * 5, none⟩ = some v0) (x1 : we.cell? ⟨X, i * 5 + 1, none⟩ = some v1) (x2 : we.cell? ⟨X, i * 5 + 2, none⟩ = some v2) (x3 : we.cell? ⟨X, i * 5 + 3, none⟩ = some v3) (x4 : we.cell? ⟨X, i * 5 + 4, none⟩ = some v4) :
    XF (lendW we o X i rv g.f.id g.f.kd g.f.ht g.f.col s1 (.slice (some ⟨P, 0, none⟩) g.f.ps.length (g.f.ps.length + 2))) X i P g := by
  have hf : ∀ (W : World) (c : Nat), (W.setCell ⟨o, 0, none⟩ rv).cell? ⟨X, c, none⟩ = W.cell? ⟨X, c, none⟩ := fun W c => World.cell?_setCell_far _ _ _ _ h
  unfold lendW
  refine ⟨?_, ?_, ?_, ?_, ?_⟩
  · rw [set_off _ _ _ _ _ (by omega), set_off _ _ _ _ _ (by omega), set_off _ _ _ _ _ (by omega), set_off _ _ _ _ _ (by omega), set_off _ _ _ _ _ (by omega)]
    exact World.cell?_setCell_same _ _ _ ((hf _ _).trans x0)
  · rw [set_off _ _ _ _ _ (by omega), set_off _ _ _ _ _ (by omega), set_off _ _ _ _ _ (by omega), set_off _ _ _ _ _ (by omega)]
    exact World.cell?_setCell_same _ _ _ ((set_off _ _ _ _ _ (by omega)).trans ((hf _ _).trans x1))
  · rw [set_off _ _ _ _ _ (by omega), set_off _ _ _ _ _ (by omega), set_off _ _ _ _ _ (by omega)]
    exact World.cell?_setCell_same _ _ _ ((set_off _ _ _ _ _ (by omega)).trans ((set_off _ _ _ _ _ (by omega)).trans ((hf _ _).trans x2)))
  · rw [set_off _ _ _ _ _ (by omega), set_off _ _ _ _ _ (by omega)]
    exact World.cell?_setCell_same _ _ _ ((set_off _ _ _ _ _ (by omega)).trans ((set_off _ _ _ _ _ (by omega)).trans ((set_off _ _ _ _ _ (by omega)).trans ((hf _ _).trans x3))))
  · exact World.cell?_setCell_same _ _ _ (World.cell?_setCell_same _ _ _ ((set_off _ _ _ _ _ (by omega)).trans ((set_off _ _ _ _ _ (by omega)).trans ((set_off _ _ _ _ _ (by omega)).trans ((set_off _ _ _ _ _ (by omega)).trans ((hf _ _).trans x4))))))

set_option maxRecDepth 100000 in
set_option maxHeartbeats 4000000 in
theorem lend_any (o n cap : Nat) (a : Option Addr) (gs : List FG) (w0 w : World) (hw0 : Below w0.heap.size w0 w) (ho : w0.heap.size ≤ o) (ho2 : o < w.heap.size) (hf : FeatsGO w0 a gs) (hn : n = gs.length) (hn2 : n ≤ 2600000000000) (hk : ∀ g ∈ gs, g.f.ps.length ≤ 8800000000000)
    (c0 : w.cell? ⟨o, 0, none⟩ = some (.slice none 0 0)) (c1 : w.cell? ⟨o, 1, none⟩ = some (.slice none 0 0)) (fo : ∀ j, w.frozen? ⟨o, j, none⟩ = false) :
    Calls Tryz.prog 34 #[.pointer (some ⟨o, 0, none⟩), .slice a n cap] w fun e w' => ∃ (X : Nat) (Ps : List Nat), e = .returned (.slice (some ⟨X, 0, none⟩) n (n + 2)) ∧ Lent w.heap.size w' o X n Ps gs ∧ But (· = o) w w' := by
  obtain ⟨ZX, hZX, hmX⟩ := makeX (n + 2) (by omega)
  have HZX : Hid (∀ i c, i < n + 2 → c < 5 → ZX[i * 5 + c]? = some (if c = 4 then .slice none 0 0 else .int .i64 0)) := hZX
  have Hf : Hid (∀ W : World, Below w0.heap.size w0 W → FeatsGO W a gs) := fun W hW => hf.below hW
  have Hn : Hid (n = gs.length) := hn
  have Hk : Hid (∀ g ∈ gs, g.f.ps.length ≤ 8800000000000) := hk
  have Hfo : Hid (∀ j, w.frozen? ⟨o, j, none⟩ = false) := fo
  have hmX' : ∀ W : World, Sem.run Tryz.prog (Instr.makeSlice 22 (.int .i64 ((n : Int) + 2)) (.int .i64 ((n : Int) + 2))) W = .ok (.slice (some ⟨W.heap.size, 0, none⟩) (n + 2) (n + 2)) (W.alloc (.cells ZX 32)) := fun W => hmX W
  have hf0 := fo 0
  have hf1 := fo 1
  clear hZX hf hn hk fo hmX
  obtain ⟨i30, hi30, hz30, hs30, hb30⟩ := info_parts info30
  have HI30 : Hid (Tryz.prog.info? 30 = some i30 ∧ i30.zero = some (.slice none 0 0) ∧ i30.size = 1 ∧ i30.bytes = 24) := ⟨hi30, hz30, hs30, hb30⟩
  clear hi30 hz30 hs30 hb30
  go_enter Tryz.func34, Tryz.ntmps34
  go_wp2
  go_loopw [7] (fun iv wr => ∃ (i : Nat) (Ps : List Nat) (ls : List Value) (rv : Value), i ≤ n ∧ iv = .int .i64 (i : Int) ∧ Hid (LendInv w o w.heap.size n gs i Ps ls rv wr)) (fun iv _ => n - (intOf iv).toNat)
  case atStart =>
    have hA : ∀ ob : Obj, Below w.heap.size w (w.alloc ob) := fun ob => (Below.refl _ _).alloc (Nat.le_refl _) ob
    refine ⟨0, [], [], .slice none 0 0, by omega, rfl, rfl, ((hA _).cell (p := ⟨o, 0, none⟩) ho2).trans c0, World.ownsRow_nil _ _ _ _, fun j P g h => by simp at h, ((hA _).cell (p := ⟨o, 1, none⟩) ho2).trans c1, fun j => ((hA _).frozen (p := ⟨o, j, none⟩) ho2).trans (Hfo.out j), fun j P g h => by simp at h, fun j _ hj => ?_, fun j => by simp [go_sem], fun j P g h => by simp at h, fun j P h => by simp at h, List.Pairwise.nil, (But.refl _ _).alloc _, by simp⟩
    have hz := fun c hc => HZX.out j c hj hc
    refine ⟨?_, ?_, ?_, ?_, ?_⟩ <;> rw [World.cell?_alloc_new] <;> first | exact hz 0 (by decide) | exact hz 1 (by decide) | exact hz 2 (by decide) | exact hz 3 (by decide) | exact hz 4 (by decide)
  case round =>
    obtain ⟨i, Ps, ls, rv, hi, rfl, HL⟩ := hrel
    by_cases hlt : i < n
    · obtain ⟨g, hg⟩ : ∃ g, gs[i]? = some g := ⟨gs[i]'(by rw [← Hn.out]; exact hlt), List.getElem?_eq_getElem _⟩
      have hBr : Below w0.heap.size w0 wr := hw0.trans (HL.out.but.below hw0.size (fun b hb => by rw [hb]; exact ho))
      obtain ⟨b, off, rfl, hF⟩ := (Hf.out wr hBr).resolve_left (fun e => by rw [e] at hg; simp at hg)
      obtain ⟨b', off', e', hF0⟩ := (Hf.out w0 (Below.refl _ _)).resolve_left (fun e => by rw [e] at hg; simp at hg)
      cases e'
      have hb0 : b < w0.heap.size := hF0.1
      have hFA := hF.2 i g hg
      have Hg : Hid (gs[i]? = some g) := hg
      have hkl : g.f.ps.length ≤ 8800000000000 := Hk.out g (List.mem_of_getElem? hg)
      obtain ⟨ZP, hZP, hmP⟩ := makeP (g.f.ps.length + 2) (by omega)
      have HFA : Hid (FeatAt wr b (off + i * 5) g) := hFA
      obtain ⟨d0, d1, d2, d3, d4, hpts, _, _⟩ := hFA
      have hwsz : w.heap.size < wr.heap.size := HL.out.xlt
      have hbr : b < wr.heap.size := by have := hBr.size; omega
      obtain ⟨k, hk⟩ : ∃ k, k = g.f.ps.length := ⟨_, rfl⟩
      have Hpts : Hid (PtsAt wr.heap.size wr g.a g.f.ps ∧ k = g.f.ps.length) := ⟨hpts, hk⟩
      rw [← hk] at d4 hkl hZP hmP
      have HZP : Hid (∀ j, j < (k + 2) * 2 → ZP[j]? = some (.int .i64 0)) := hZP
      have hmP' : ∀ W : World, Sem.run Tryz.prog (Instr.makeSlice 30 (.int .i64 ((k : Int) + 2)) (.int .i64 ((k : Int) + 2))) W = .ok (.slice (some ⟨W.heap.size, 0, none⟩) (k + 2) (k + 2)) (W.alloc (.cells ZP 29)) := fun W => hmP W
      clear hF hF0 hg hpts hZP hmP hk
      have hiI : (i : Int) < (n : Int) := by omega
      have hiX : (i : Int) < (n : Int) + 2 := by omega
      have hA1 : Below wr.heap.size wr (wr.alloc (.cells ZP 29)) := (Below.refl _ _).alloc (Nat.le_refl _) _
      have HA1 : Hid (∀ j, j < (k + 2) * 2 → (wr.alloc (.cells ZP 29)).cell? ⟨wr.heap.size, j, none⟩ = some (.int .i64 0)) := fun j hj => by rw [World.cell?_alloc_new]; exact HZP.out j hj
      obtain ⟨wb, hcopy, HC⟩ : ∃ wb, Sem.run Tryz.prog (Builtin.copy_ #[30, 30] 3 #[.slice (some ⟨wr.heap.size, 0, none⟩) (k + 2) (k + 2), .slice g.a k g.cap]) (wr.alloc (.cells ZP 29)) = .ok (.int .i64 (k : Int)) wb ∧ Hid (CopyPost (wr.alloc (.cells ZP 29)) wr.heap.size g.f.ps wb) :=
        ⟨_, run_copy2 (wr.alloc (.cells ZP 29)) wr.heap.size k (k + 2) g.a g.cap wr.heap.size g.f.ps (Hpts.out.1.below hA1) Hpts.out.2 (fun j hj => by rw [HA1.out j (by omega)]; rfl) (fun j => by simp [go_sem]), copy_post _ _ _ (fun j hj => by rw [HA1.out j (by have := Hpts.out.2; omega)]; rfl)⟩
      have hB1 : Below wr.heap.size wr wb := hA1.trans (HC.out.but.below (by simp) (fun b hb => by rw [hb]; exact Nat.le_refl _))
      have q0 : wb.cell? ⟨wr.heap.size, k * 2, none⟩ = some (.int .i64 0) := (HC.out.rest _ (by have := Hpts.out.2; omega)).trans (HA1.out _ (by omega))
      have q1 : wb.cell? ⟨wr.heap.size, k * 2 + 1, none⟩ = some (.int .i64 0) := (HC.out.rest _ (by have := Hpts.out.2; omega)).trans (HA1.out _ (by omega))
      have q2 : wb.cell? ⟨wr.heap.size, (k + 1) * 2, none⟩ = some (.int .i64 0) := (HC.out.rest _ (by have := Hpts.out.2; omega)).trans (HA1.out _ (by omega))
      have q3 : wb.cell? ⟨wr.heap.size, (k + 1) * 2 + 1, none⟩ = some (.int .i64 0) := (HC.out.rest _ (by have := Hpts.out.2; omega)).trans (HA1.out _ (by omega))
      have qf : ∀ j, wb.frozen? ⟨wr.heap.size, j, none⟩ = false := fun j => (HC.out.fz j).trans (by simp [go_sem])
      have zb : wr.heap.size < wb.heap.size := by have := HC.out.but.size; simp at this; omega
      -- behind the two stores
      obtain ⟨wc, hwc⟩ : ∃ wc, wc = (wb.setCell ⟨wr.heap.size, k * 2, none⟩ ink).setCell ⟨wr.heap.size, (k + 1) * 2, none⟩ ink := ⟨_, rfl⟩
      have HwcB : Hid (Below wr.heap.size wr wc ∧ wr.heap.size < wc.heap.size) := by
        show _ ∧ _
        rw [hwc]
        exact ⟨(hB1.setCell (p := ⟨wr.heap.size, k * 2, none⟩) (Nat.le_refl _) _).setCell (p := ⟨wr.heap.size, (k + 1) * 2, none⟩) (Nat.le_refl _) _, by simp [World.setCell]; exact zb⟩
      have HLP : Hid (LentP wc wr.heap.size g.f.ps) := by
        show LentP _ _ _
        have hkk := Hpts.out.2
        have hne : ∀ (W : World) (j x : Nat) (v : Value), x ≠ j → (W.setCell ⟨wr.heap.size, j, none⟩ v).cell? ⟨wr.heap.size, x, none⟩ = W.cell? ⟨wr.heap.size, x, none⟩ := fun W j x v h => World.cell?_setCell_other _ _ _ _ (by intro e; injection e with _ e2 _; exact h e2.symm)
        rw [hwc]
        refine ⟨fun j x y e => ?_, ?_, ?_, ?_, ?_, fun j => ?_⟩
        · have hj : j < g.f.ps.length := (List.getElem?_eq_some_iff.1 e).1
          rw [hne _ _ _ _ (by omega), hne _ _ _ _ (by omega), hne _ _ _ _ (by omega), hne _ _ _ _ (by omega)]
          exact HC.out.pts j x y e
        · rw [← hkk, hne _ _ _ _ (by omega)]
          exact World.cell?_setCell_same _ _ _ q0
        · rw [← hkk, hne _ _ _ _ (by omega), hne _ _ _ _ (by omega)]
          exact q1
        · rw [← hkk]
          exact World.cell?_setCell_same _ _ _ ((hne _ _ _ _ (by omega)).trans q2)
        · rw [← hkk, hne _ _ _ _ (by omega), hne _ _ _ _ (by omega)]
          exact q3
        · rw [World.frozen?_setCell, World.frozen?_setCell]
          exact qf j
      have qf0 := qf (k * 2)
      have qf2 := qf ((k + 1) * 2)
      have oc : ∀ j, wc.cell? ⟨o, j, none⟩ = wr.cell? ⟨o, j, none⟩ := fun j => HwcB.out.1.cell (p := ⟨o, j, none⟩) (show o < wr.heap.size by omega)
      have hor : o < wr.heap.size := by omega
      have oc0 : wc.cell? ⟨o, 0, none⟩ = some rv := (oc 0).trans HL.out.c0
      have of0 : wc.frozen? ⟨o, 0, none⟩ = false := (HwcB.out.1.frozen (p := ⟨o, 0, none⟩) hor).trans (HL.out.fo 0)
      have hAd : Below wc.heap.size wc (wc.alloc (.cells #[.slice (some ⟨wr.heap.size, 0, none⟩) (k + 2) (k + 2)] 30)) := (Below.refl _ _).alloc (Nat.le_refl _) _
      have hBd : Below wr.heap.size wr (wc.alloc (.cells #[.slice (some ⟨wr.heap.size, 0, none⟩) (k + 2) (k + 2)] 30)) := HwcB.out.1.trans (hAd.mono (Nat.le_of_lt HwcB.out.2))
      have HNews : Hid (∀ j u, [Value.slice (some ⟨wr.heap.size, 0, none⟩) (k + 2) (k + 2)][j]? = some u → (wc.alloc (.cells #[.slice (some ⟨wr.heap.size, 0, none⟩) (k + 2) (k + 2)] 30)).cell? ((⟨wc.heap.size, 0, none⟩ : Addr).add j) = some u) := fun j u e => by
        rw [addr_add]
        match j, e with
        | 0, e => simp at e; subst e; simp [go_sem]
        | j + 1, e => simp at e
      have HOne : Hid (∀ u ∈ [Value.slice (some ⟨wr.heap.size, 0, none⟩) (k + 2) (k + 2)], u.oneCell' = true) := by intro u hu; simp at hu; subst hu; rfl
      have HOwn : Hid ((wc.alloc (.cells #[.slice (some ⟨wr.heap.size, 0, none⟩) (k + 2) (k + 2)] 30)).ownsRow (w.heap.size + 1) 30 1 rv i ls) := own_below HL.out.own hBd
      have HSz : Hid (w.heap.size + 1 ≤ (wc.alloc (.cells #[.slice (some ⟨wr.heap.size, 0, none⟩) (k + 2) (k + 2)] 30)).heap.size) := by show _ ≤ _; have := HwcB.out.2; simp; omega
      have HR : Hid (∀ R, rv.ownBlock = some R → w.heap.size + 1 ≤ R ∧ R < wr.heap.size) := fun R hR => HL.out.own.lt R hR
      have nS : ∀ x, x ≤ w.heap.size → ¬ (rv.ownBlock = some x) := fun x hx e => by have := (HR.out x e).1; omega
      have hsz0 := hw0.size
      have hAll : ∀ we : World, (wc.alloc (.cells #[.slice (some ⟨wr.heap.size, 0, none⟩) (k + 2) (k + 2)] 30)).grownBy we rv.ownBlock → But (fun b => rv.ownBlock = some b) wr we ∧ But (fun b => rv.ownBlock = some b) wc we := fun we hgrow => ⟨(But.of_below hBd).grown hgrow (fun R hR => .inl hR), ((But.refl _ wc).alloc _).grown hgrow (fun R hR => .inl hR)⟩
      have HAll : Hid _ := hAll
      have hxz := HL.out.xz i (Nat.le_refl _) (by omega)
      have hAll2 : ∀ we : World, But (fun b => rv.ownBlock = some b) wr we → (we.cell? ⟨o, 0, none⟩ = some rv ∧ we.frozen? ⟨o, 0, none⟩ = false) ∧ (we.cell? ⟨b, off + i * 5, none⟩ = some (.int .i64 g.f.id) ∧ we.cell? ⟨b, off + i * 5 + 1, none⟩ = some (.int .i64 g.f.kd) ∧ we.cell? ⟨b, off + i * 5 + 2, none⟩ = some (.int .i64 g.f.ht) ∧ we.cell? ⟨b, off + i * 5 + 3, none⟩ = some (.int .i64 g.f.col) ∧ we.cell? ⟨b, off + i * 5 + 4, none⟩ = some (.slice g.a k g.cap)) ∧ (we.cell? ⟨w.heap.size, i * 5, none⟩ = some (.int .i64 0) ∧ we.cell? ⟨w.heap.size, i * 5 + 1, none⟩ = some (.int .i64 0) ∧ we.cell? ⟨w.heap.size, i * 5 + 2, none⟩ = some (.int .i64 0) ∧ we.cell? ⟨w.heap.size, i * 5 + 3, none⟩ = some (.int .i64 0) ∧ we.cell? ⟨w.heap.size, i * 5 + 4, none⟩ = some (.slice none 0 0)) ∧ (we.frozen? ⟨w.heap.size, i * 5, none⟩ = false ∧ we.frozen? ⟨w.heap.size, i * 5 + 1, none⟩ = false ∧ we.frozen? ⟨w.heap.size, i * 5 + 2, none⟩ = false ∧ we.frozen? ⟨w.heap.size, i * 5 + 3, none⟩ = false ∧ we.frozen? ⟨w.heap.size, i * 5 + 4, none⟩ = false) := fun we hbe => by
        have no := nS o (by omega)
        have nb := nS b (by omega)
        have nX := nS w.heap.size (Nat.le_refl _)
        exact ⟨⟨(hbe.cell hor no).trans HL.out.c0, (hbe.frozen hor no).trans (HL.out.fo 0)⟩, ⟨(hbe.cell hbr nb).trans d0, (hbe.cell hbr nb).trans d1, (hbe.cell hbr nb).trans d2, (hbe.cell hbr nb).trans d3, (hbe.cell hbr nb).trans d4⟩, ⟨(hbe.cell hwsz nX).trans hxz.c0, (hbe.cell hwsz nX).trans hxz.c1, (hbe.cell hwsz nX).trans hxz.c2, (hbe.cell hwsz nX).trans hxz.c3, (hbe.cell hwsz nX).trans hxz.c4⟩, (hbe.frozen hwsz nX).trans (HL.out.xf _), (hbe.frozen hwsz nX).trans (HL.out.xf _), (hbe.frozen hwsz nX).trans (HL.out.xf _), (hbe.frozen hwsz nX).trans (HL.out.xf _), (hbe.frozen hwsz nX).trans (HL.out.xf _)⟩
      have HAll2 : Hid _ := hAll2
      clear hAll hAll2
      have hne1 : ¬ o = b := by omega
      have hne2 : ¬ b = o := by omega
      have hne3 : ¬ o = w.heap.size := by omega
      have hne4 : ¬ w.heap.size = o := by omega
      have hne5 : ¬ b = w.heap.size := by omega
      have hne6 : ¬ w.heap.size = b := by omega
      go_upto_region 11 with fail
      rw [← hwc]
      clear hcopy q0 q1 q2 q3 qf0 qf2 qf oc d0 d1 d2 d3 d4 hmX' hmP' hxz hwc nS hAd hBd hB1 hA1
      go_wp2_with (at_builtin; refine wpList_append_own _ rfl _ _ 34 rfl (w.heap.size + 1) 30 i30 (.slice none 0 0) 1 24 Tryz.underlying34 HI30.out.1 HI30.out.2.1 HI30.out.2.2.1 HI30.out.2.2.2 rfl (by decide) rv i ls rfl HOwn.out ⟨wc.heap.size, 0, none⟩ 1 1 [.slice (some ⟨wr.heap.size, 0, none⟩) (k + 2) (k + 2)] rfl (by simp) HNews.out HOne.out (by unfold maxLen; omega) (by omega) HSz.out ?_; intro rv' we hown' hgrow _; obtain ⟨R', rc', rfl⟩ := ownsRow_succ (show we.ownsRow (w.heap.size + 1) 30 1 rv' (i + 1) (ls ++ [.slice (some ⟨wr.heap.size, 0, none⟩) (k + 2) (k + 2)]) from hown'); obtain ⟨hbe1, hbe2⟩ := HAll.out we hgrow; obtain ⟨⟨eo0, ef0⟩, ⟨l0, l1, l2, l3, l4⟩, ⟨x0, x1, x2, x3, x4⟩, y0, y1, y2, y3, y4⟩ := HAll2.out we hbe1; have Hown' : Hid (we.ownsRow (w.heap.size + 1) 30 1 (.slice (some ⟨R', 0, none⟩) (i + 1) rc') (i + 1) (ls ++ [.slice (some ⟨wr.heap.size, 0, none⟩) (k + 2) (k + 2)])) := hown'; have HBe : Hid (But (fun b => rv.ownBlock = some b) wr we) := hbe1; have HBde : Hid (But (fun b => rv.ownBlock = some b) wc we) := hbe2; clear hown' hgrow hbe1 hbe2)
      have hkk := Hpts.out.2
      have hb7 := lendW_but we o w.heap.size i (.slice (some ⟨R', 0, none⟩) (i + 1) rc') g.f.id g.f.kd g.f.ht g.f.col (.slice g.a k g.cap) (.slice (some ⟨wr.heap.size, 0, none⟩) k (k + 2))
      have hz7 := hb7.size
      have hzd := HBde.out.size
      have hzc := HwcB.out.2
      have nR : ¬ (rv.ownBlock = some wr.heap.size) := fun e => by have := (HR.out _ e).2; omega
      have no : ¬ (rv.ownBlock = some o) := fun e => by have := (HR.out _ e).1; omega
      have nX : ¬ (rv.ownBlock = some w.heap.size) := fun e => by have := (HR.out _ e).1; omega
      refine ⟨⟨i + 1, Ps ++ [wr.heap.size], ls ++ [slP wr.heap.size g], .slice (some ⟨R', 0, none⟩) (i + 1) rc', by omega, by go_num, ?_⟩, by simp [intOf]; omega⟩
      refine lend_step (wh := lendW we o w.heap.size i (.slice (some ⟨R', 0, none⟩) (i + 1) rc') g.f.id g.f.kd g.f.ht g.f.col (.slice g.a k g.cap) (.slice (some ⟨wr.heap.size, 0, none⟩) k (k + 2))) HL.out Hn.out.symm hlt Hg.out (by omega) (Nat.le_refl _) ?_ ?_ ?_ ?_ ?_ ?_ ?_ ?_ ?_ ?_
      · exact (HBe.out.mono (fun b h => .inr (.inr h))).trans (hb7.mono (fun b h => h.elim .inl (fun h => .inr (.inl h))))
      · rw [lendW_o _ _ _ _ _ _ _ _ _ _ _ (by omega)]
        exact World.cell?_setCell_same _ _ _ eo0
      · have hown := Hown'.out
        rw [show slP wr.heap.size g = .slice (some ⟨wr.heap.size, 0, none⟩) (k + 2) (k + 2) by rw [slP, ← hkk]]
        exact ownsRow_setCell_below (ownsRow_setCell_below (ownsRow_setCell_below (ownsRow_setCell_below (ownsRow_setCell_below (ownsRow_setCell_below (ownsRow_setCell_below hown (a := ⟨o, 0, none⟩) (show o < w.heap.size + 1 by omega) _) (a := ⟨w.heap.size, i * 5, none⟩) (Nat.lt_succ_self _) _) (a := ⟨w.heap.size, i * 5 + 1, none⟩) (Nat.lt_succ_self _) _) (a := ⟨w.heap.size, i * 5 + 2, none⟩) (Nat.lt_succ_self _) _) (a := ⟨w.heap.size, i * 5 + 3, none⟩) (Nat.lt_succ_self _) _) (a := ⟨w.heap.size, i * 5 + 4, none⟩) (Nat.lt_succ_self _) _) (a := ⟨w.heap.size, i * 5 + 4, none⟩) (Nat.lt_succ_self _) _
      · rw [lendW_o _ _ _ _ _ _ _ _ _ _ _ (by omega), set_off _ _ _ _ _ (by decide)]
        exact (HBe.out.cell hor no).trans HL.out.c1
      · intro j
        rw [lendW_fz]
        exact (HBe.out.frozen hor no).trans (HL.out.fo j)
      · have := lendW_xf (P := wr.heap.size) (rv := .slice (some ⟨R', 0, none⟩) (i + 1) rc') (s1 := .slice g.a k g.cap) (g := g) (show o ≠ w.heap.size by omega) x0 x1 x2 x3 x4
        rwa [← hkk] at this
      · intro c hc
        rw [lendW_x _ _ _ _ _ _ _ _ _ _ _ (by omega) c hc]
        exact HBe.out.cell hwsz nX
      · intro j
        rw [lendW_fz]
        exact (HBe.out.frozen hwsz nX).trans (HL.out.xf j)
      · exact ((HLP.out).but HBde.out hzc nR).but hb7 (by omega) (fun h => by rcases h with h | h <;> omega)
      · omega
    · obtain rfl : i = n := by omega
      obtain ⟨i22, hi22, hz22, hs22, hb22⟩ := info_parts info22
      have HI22 : Hid (Tryz.prog.info? 22 = some i22 ∧ i22.zero = some (.slice none 0 0) ∧ i22.size = 1 ∧ i22.bytes = 24) := ⟨hi22, hz22, hs22, hb22⟩
      clear hi22 hz22 hs22 hb22
      have hwsz : w.heap.size < wr.heap.size := HL.out.xlt
      have hor : o < wr.heap.size := by omega
      have z0 := HL.out.xz i (by omega) (by omega)
      have z1 := HL.out.xz (i + 1) (by omega) (by omega)
      have x0 := z0.c0
      have x1 := z1.c0
      have y0 := HL.out.xf (i * 5)
      have y1 := HL.out.xf ((i + 1) * 5)
      have hiX : (i : Int) < (i : Int) + 2 := by omega
      have hiX1 : (i : Int) + 1 < (i : Int) + 2 := by omega
      obtain ⟨w1, hw1⟩ : ∃ w1, w1 = (wr.setCell ⟨w.heap.size, i * 5, none⟩ ink).setCell ⟨w.heap.size, (i + 1) * 5, none⟩ ink := ⟨_, rfl⟩
      have hb1 : But (fun b => b = w.heap.size) wr w1 := by
        rw [hw1]; exact ((But.refl (fun b => b = w.heap.size) wr).setCell (p := ⟨w.heap.size, i * 5, none⟩) (.inl rfl) _).setCell (p := ⟨w.heap.size, (i + 1) * 5, none⟩) (.inl rfl) _
      have HB1 : Hid (But (fun b => b = w.heap.size) wr w1) := hb1
      have HX1 : Hid ((∀ c, c ≠ i * 5 → c ≠ (i + 1) * 5 → w1.cell? ⟨w.heap.size, c, none⟩ = wr.cell? ⟨w.heap.size, c, none⟩) ∧ w1.cell? ⟨w.heap.size, i * 5, none⟩ = some ink ∧ w1.cell? ⟨w.heap.size, (i + 1) * 5, none⟩ = some ink ∧ ∀ j, w1.frozen? ⟨w.heap.size, j, none⟩ = wr.frozen? ⟨w.heap.size, j, none⟩) := by
        show _ ∧ _
        rw [hw1]
        refine ⟨fun c h1 h2 => by rw [set_off _ _ _ _ _ (by omega), set_off _ _ _ _ _ (by omega)], ?_, ?_, fun j => by rw [World.frozen?_setCell, World.frozen?_setCell]⟩
        · rw [set_off _ _ _ _ _ (by omega)]
          exact World.cell?_setCell_same _ _ _ x0
        · exact World.cell?_setCell_same _ _ _ ((set_off _ _ _ _ _ (by omega)).trans x1)
      have hz1 := hb1.size
      have oc1 : w1.cell? ⟨o, 1, none⟩ = some (.slice none 0 0) := (hb1.cell hor (by omega)).trans HL.out.c1
      have HNews : Hid (∀ j u, [Value.slice (some ⟨w.heap.size, 0, none⟩) (i + 2) (i + 2)][j]? = some u → (w1.alloc (.cells #[.slice (some ⟨w.heap.size, 0, none⟩) (i + 2) (i + 2)] 22)).cell? ((⟨w1.heap.size, 0, none⟩ : Addr).add j) = some u) := fun j u e => by
        rw [addr_add]
        match j, e with
        | 0, e => simp at e; subst e; simp [go_sem]
        | j + 1, e => simp at e
      have HOne : Hid (∀ u ∈ [Value.slice (some ⟨w.heap.size, 0, none⟩) (i + 2) (i + 2)], u.oneCell' = true) := by intro u hu; simp at hu; subst hu; rfl
      have hAll : ∀ we : World, (w1.alloc (.cells #[.slice (some ⟨w.heap.size, 0, none⟩) (i + 2) (i + 2)] 22)).grownBy we (Value.slice none 0 0).ownBlock → But (fun _ => False) w1 we := fun we hgrow => ((But.refl _ w1).alloc _).grown hgrow (fun R hR => by cases hR)
      have HAll : Hid _ := hAll
      have HO1 : Hid (∀ we : World, But (fun _ => False) w1 we → we.cell? ⟨o, 1, none⟩ = some (.slice none 0 0) ∧ we.frozen? ⟨o, 1, none⟩ = false) := fun we hbe => ⟨(hbe.cell (by omega) (fun h => h)).trans oc1, (hbe.frozen (by omega) (fun h => h)).trans ((hb1.frozen hor (by omega)).trans (HL.out.fo 1))⟩
      have hic : (i : Int) ≤ (i : Int) + 2 := by omega
      have hic' : i ≤ i + 2 := by omega
      clear hAll z0 z1 hb1
      go_upto_region 16 with fail
      rw [← hw1]
      clear x0 x1 y0 y1 hw1 hmX'
      go_wp2_with (at_builtin; refine wpList_append_own _ rfl _ _ 35 rfl (w1.alloc (.cells #[.slice (some ⟨w.heap.size, 0, none⟩) (i + 2) (i + 2)] 22)).heap.size 22 i22 (.slice none 0 0) 1 24 Tryz.underlying35 HI22.out.1 HI22.out.2.1 HI22.out.2.2.1 HI22.out.2.2.2 rfl (by decide) (.slice none 0 0) 0 [] rfl (World.ownsRow_nil _ _ _ _) ⟨w1.heap.size, 0, none⟩ 1 1 [.slice (some ⟨w.heap.size, 0, none⟩) (i + 2) (i + 2)] rfl (by simp) HNews.out HOne.out (by unfold maxLen; omega) (by omega) (Nat.le_refl _) ?_; intro rv2 we hown' hgrow _; obtain ⟨F, fc, rfl⟩ := ownsRow_succ (show we.ownsRow _ 22 1 rv2 (0 + 1) ([] ++ [.slice (some ⟨w.heap.size, 0, none⟩) (i + 2) (i + 2)]) from hown'); have HBe : Hid (But (fun _ => False) w1 we) := HAll.out we hgrow; obtain ⟨eo1, ef1⟩ := HO1.out we HBe.out; have Hown' : Hid (we.ownsRow (w1.alloc (.cells #[.slice (some ⟨w.heap.size, 0, none⟩) (i + 2) (i + 2)] 22)).heap.size 22 1 (.slice (some ⟨F, 0, none⟩) (0 + 1) fc) (0 + 1) ([] ++ [.slice (some ⟨w.heap.size, 0, none⟩) (i + 2) (i + 2)])) := hown'; clear hown' hgrow)
      go_ret
      have hoX : ¬ o = w.heap.size := by omega
      have hown := Hown'.out
      have hF := hown.lt F rfl
      simp only [World.size_alloc] at hF
      have hWe : But (fun b => b = o) we (we.setCell ⟨o, 1, none⟩ (.slice (some ⟨F, 0, none⟩) 1 fc)) := (But.refl (fun b => b = o) we).setCell (p := ⟨o, 1, none⟩) (.inl rfl) _
      have hz2 := HBe.out.size
      have hz3 := hWe.size
      have hW : But (fun b => b = w.heap.size ∨ b = o) wr (we.setCell ⟨o, 1, none⟩ (.slice (some ⟨F, 0, none⟩) 1 fc)) := ((HB1.out.mono (fun b h => .inl h)).trans (HBe.out.mono (fun b h => h.elim))).trans (hWe.mono (fun b h => .inr h))
      have hcX : ∀ c, (we.setCell ⟨o, 1, none⟩ (.slice (some ⟨F, 0, none⟩) 1 fc)).cell? ⟨w.heap.size, c, none⟩ = w1.cell? ⟨w.heap.size, c, none⟩ := fun c => (hWe.cell (by omega) (fun e => hoX e.symm)).trans (HBe.out.cell (by omega) (fun h => h))
      have hfX : ∀ c, (we.setCell ⟨o, 1, none⟩ (.slice (some ⟨F, 0, none⟩) 1 fc)).frozen? ⟨w.heap.size, c, none⟩ = w1.frozen? ⟨w.heap.size, c, none⟩ := fun c => (hWe.frozen (by omega) (fun e => hoX e.symm)).trans (HBe.out.frozen (by omega) (fun h => h))
      have hcl : ∀ c, c ≠ i * 5 → c ≠ (i + 1) * 5 → (we.setCell ⟨o, 1, none⟩ (.slice (some ⟨F, 0, none⟩) 1 fc)).cell? ⟨w.heap.size, c, none⟩ = wr.cell? ⟨w.heap.size, c, none⟩ := fun c h1 h2 => (hcX c).trans (HX1.out.1 c h1 h2)
      have z0 := HL.out.xz i (by omega) (by omega)
      have z1 := HL.out.xz (i + 1) (by omega) (by omega)
      have hlen := HL.out.len
      refine ⟨w.heap.size, rfl, ⟨Ps, ?_, ?_, ?_, ?_, ?_, ?_, ?_, ?_, ?_, HL.out.pw, Nat.le_refl _, by omega⟩, HL.out.but.trans_new hW (fun b hb h => by rcases h with h | h; omega; exact h)⟩
      · rw [hlen]; exact Hn.out
      · have hc : (we.setCell ⟨o, 1, none⟩ (.slice (some ⟨F, 0, none⟩) 1 fc)).cell? ⟨o, 0, none⟩ = some rv := by
          rw [set_off _ _ _ _ _ (by decide), HBe.out.cell (by omega) (fun h => h), HB1.out.cell hor hoX]
          exact HL.out.c0
        rcases HL.out.own.2 with ⟨h1, h2⟩ | ⟨R, rc, cur, h1, h2, h3, h4⟩
        · refine ⟨none, 0, ?_, .inl ?_⟩
          · rw [hc, h1, ← Hn.out, h2]
          · exact List.eq_nil_of_length_eq_zero (by rw [← Hn.out]; exact h2)
        · refine ⟨some ⟨R, 0, none⟩, rc, by rw [hc, h1, ← Hn.out], .inr ⟨R, rfl, by omega, ?_, fun j P g hP hg => ?_⟩⟩
          · have := (Array.getElem?_eq_some_iff.1 h3).1
            have := hW.size
            omega
          · have hRl := (Array.getElem?_eq_some_iff.1 h3).1
            rw [hW.cell hRl (fun h => by rcases h with h | h <;> omega)]
            have := HL.out.own.cells (g := R) (by rw [h1]; rfl) j _ (HL.out.lsl j P g hP hg)
            rwa [addr_add, Nat.zero_add] at this
      · refine ⟨F, fc, World.cell?_setCell_same _ _ _ eo1, by omega, by omega, ?_⟩
        have h0 := hown.cellAt 0 (by decide)
        rw [hWe.cell (by omega) (by omega), h0]; rfl
      · intro j P g hP hg
        have hj := (List.getElem?_eq_some_iff.1 hP).1
        exact (HL.out.xs j P g hP hg).congr (fun c hc => hcl _ (by omega) (by omega))
      · exact ⟨(hcX _).trans HX1.out.2.1, (hcl _ (by omega) (by omega)).trans z0.c1, (hcl _ (by omega) (by omega)).trans z0.c2, (hcl _ (by omega) (by omega)).trans z0.c3, (hcl _ (by omega) (by omega)).trans z0.c4⟩
      · exact ⟨(hcX _).trans HX1.out.2.2.1, (hcl _ (by omega) (by omega)).trans z1.c1, (hcl _ (by omega) (by omega)).trans z1.c2, (hcl _ (by omega) (by omega)).trans z1.c3, (hcl _ (by omega) (by omega)).trans z1.c4⟩
      · intro j
        exact (hfX j).trans ((HX1.out.2.2.2 j).trans (HL.out.xf j))
      · intro j P g hP hg
        have := HL.out.inc j P hP
        exact (HL.out.lp j P g hP hg).but hW this.2 (fun h => by rcases h with h | h <;> omega)
      · intro j P hP
        have := HL.out.inc j P hP
        have := hW.size
        omega

end Go.Proofs.YtenaepdmlknlcaaGreatDoor
