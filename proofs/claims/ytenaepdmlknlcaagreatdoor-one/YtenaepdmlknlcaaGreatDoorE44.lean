import Derived.Test.YtenaepdmlknlcaaGreatDoorE42
import Derived.Test.YtenaepdmlknlcaaGreatDoorE43
namespace Go.Proofs.YtenaepdmlknlcaaGreatDoor
open Go.RowKit Go.Shelf

theorem lin_step {x : Pl × Int} {T : Int} {H : List Ev} (hs : Seen x.1 T) (h : Lin x.1 H) (s : Stt) : ∃ H', Lin (stepP x s).1 H' := by
  unfold stepP
  split
  · exact lin_pickP h hs.ok.t hs.inv.kept hs.ok.a.an (ses_lt s)
  · dsimp only
    split
    · exact ⟨H, lin_send h (ses_lt s) rfl rfl⟩
    · exact ⟨H, h⟩
theorem lin_play (r : Int) (most : Int) (l : List Stt) (hl : l.length ≤ 2199023255488) : ∀ k, k ≤ l.length → ∃ H, Lin (playP (newP r) most (l.take k)).1 H
  | 0, _ => ⟨[], by simpa [playP] using lin_new r⟩
  | k + 1, hk => by
    obtain ⟨s, hs⟩ : ∃ s, l[k]? = some s := ⟨_, List.getElem?_eq_getElem (by omega)⟩
    obtain ⟨H, h⟩ := lin_play r most l hl k (by omega)
    rw [play_snoc hs]
    exact lin_step (seen_play (newP r) most (seen_new r) l hl k (by omega)) h s
/-- Whatever is sent and picked, a row is found. -/
theorem one_row (r : Int) (most : Int) (l : List Stt) (hl : l.length ≤ 2199023255488) : ∃ K, ∀ k, K ≤ k → rowB k (flatP4 (playP (newP r) most l).1) (List.replicate (flatP4 (playP (newP r) most l).1).length false) [] = true := by
  obtain ⟨H, h⟩ := lin_play r most l hl l.length (Nat.le_refl _)
  have hs := seen_play (newP r) most (seen_new r) l hl l.length (Nat.le_refl _)
  rw [List.take_of_length_le (Nat.le_refl _)] at h hs
  exact lin_row h hs.ok.un

/-! The search, step by step. -/
def overT (l : List Dn) (g : List Bool) (k : Nat) : Bool := (List.range k).all fun i => goneAt g i || (match l[i]? with | some d => d.un == 0 | none => true)
theorem over_succ {l : List Dn} {g : List Bool} {k : Nat} {d : Dn} (h : l[k]? = some d) : overT l g (k + 1) = (overT l g k && (goneAt g k || d.un == 0)) := by
  unfold overT
  rw [List.range_succ, List.all_append, List.all_cons, List.all_nil, Bool.and_true, h]
def firstT (l : List Dn) (g : List Bool) (i : Nat) (fr : Int) (k : Nat) : Bool := (List.range k).all fun k => !(k != i && !goneAt g k && (match l[k]? with | some d => decide (0 < d.un) && decide (d.un < fr) | none => false))
theorem first_succ {l : List Dn} {g : List Bool} {i k : Nat} {fr : Int} {d : Dn} (h : l[k]? = some d) : firstT l g i fr (k + 1) = (firstT l g i fr k && !(k != i && !goneAt g k && (decide (0 < d.un) && decide (d.un < fr)))) := by
  unfold firstT
  rw [List.range_succ, List.all_append, List.all_cons, List.all_nil, Bool.and_true, h]
/-- What was tried so far has not led to a row. -/
def noneT (j : Nat) (l : List Dn) (g : List Bool) (fs : List Feat) (k : Nat) : Prop := ∀ i, i < k → (candB l g fs i && rowB j l (g.set i true) (askAt l i fs)) = false
theorem none_succ {j : Nat} {l : List Dn} {g : List Bool} {fs : List Feat} {k : Nat} (h : noneT j l g fs k) (hk : (candB l g fs k && rowB j l (g.set k true) (askAt l k fs)) = false) : noneT j l g fs (k + 1) := fun i hi => by
  by_cases e : i = k
  · rw [e]; exact hk
  · exact h i (by omega)
theorem row_found {j : Nat} {l : List Dn} {g : List Bool} {fs : List Feat} {k : Nat} (hk : k < l.length) (h1 : candB l g fs k = true) (h2 : rowB j l (g.set k true) (askAt l k fs) = true) : rowB (j + 1) l g fs = true := by
  unfold rowB
  rw [Bool.or_eq_true]
  right
  rw [List.any_eq_true]
  exact ⟨k, List.mem_range.2 hk, by rw [h1, h2]; rfl⟩
theorem row_none {j : Nat} {l : List Dn} {g : List Bool} {fs : List Feat} (ho : overB l g = false) (h : noneT j l g fs l.length) : rowB (j + 1) l g fs = false := by
  unfold rowB
  rw [ho, Bool.false_or, List.any_eq_false]
  intro i hi
  rw [h i (List.mem_range.1 hi)]
  decide
theorem row_over {j : Nat} {l : List Dn} {g : List Bool} {fs : List Feat} (ho : overB l g = true) : rowB j l g fs = true := by
  cases j with
  | zero => exact ho
  | succ j => unfold rowB; rw [ho]; rfl
/-- How many are not in the row. -/
def leftG (g : List Bool) : Nat := (g.filter fun b => !b).length
theorem left_set : ∀ {g : List Bool} {i : Nat}, g[i]? = some false → leftG (g.set i true) + 1 = leftG g
  | [], i, h => by simp at h
  | b :: g, 0, h => by simp at h; subst h; simp [leftG]
  | b :: g, i + 1, h => by
    have := left_set (g := g) (i := i) (by simpa using h)
    unfold leftG at this ⊢
    cases b <;> simp at this ⊢ <;> omega
theorem left_pos {g : List Bool} {i : Nat} (h : g[i]? = some false) : 0 < leftG g := by have := left_set h; omega
/-- Where nothing is left nothing may be tried. -/
theorem row_zero {l : List Dn} {g : List Bool} {fs : List Feat} (hl : leftG g = 0) (hlen : g.length = l.length) : ∀ i, candB l g fs i = false := fun i => by
  unfold candB
  cases hd : l[i]? with
  | none => rfl
  | some d =>
    dsimp only
    have hi : i < g.length := by rw [hlen]; exact (List.getElem?_eq_some_iff.1 hd).1
    obtain ⟨b, hb⟩ : ∃ b, g[i]? = some b := ⟨_, List.getElem?_eq_getElem hi⟩
    cases b with
    | true =>
      have : goneAt g i = true := by unfold goneAt; rw [hb]; rfl
      rw [this]; rfl
    | false => have := left_pos hb; omega
end Go.Proofs.YtenaepdmlknlcaaGreatDoor

namespace Go.Proofs.YtenaepdmlknlcaaGreatDoor
open Go.RowKit Go.Shelf

/-- The requests and the marks 'gone', in memory. -/
structure RowM (w : World) (b0 lb gb : Nat) (L : List Dn) (g : List Bool) : Prop where
  len : g.length = L.length
  lb_lt : lb < w.heap.size
  gb_lt : gb < w.heap.size
  ne : lb ≠ gb
  b1 : b0 ≤ gb
  b2 : b0 ≤ w.heap.size
  cl : ∀ (i : Nat) (d : Dn), L[i]? = some d → ∀ (j : Nat) (u : Value), (dnV d)[j]? = some u → w.cell? ⟨lb, i * 9 + j, none⟩ = some u
  cg : ∀ (i : Nat) (b : Bool), g[i]? = some b → w.cell? ⟨gb, i, none⟩ = some (.bool b) ∧ w.frozen? ⟨gb, i, none⟩ = false
  rq : ∀ d ∈ L, RqOk d.q ∧ RawU w b0 d.pa d.pn d.q.ps
  gl : Gl w
theorem RowM.grow {w w' : World} {b0 lb gb : Nat} {L : List Dn} {g : List Bool} (h : RowM w b0 lb gb L g) (hb : Below w.heap.size w w') : RowM w' b0 lb gb L g :=
  ⟨h.len, Nat.lt_of_lt_of_le h.lb_lt hb.size, Nat.lt_of_lt_of_le h.gb_lt hb.size, h.ne, h.b1, Nat.le_trans h.b2 hb.size, fun i d hd j u hj => (hb.cell (p := ⟨lb, i * 9 + j, none⟩) h.lb_lt).trans (h.cl i d hd j u hj),
    fun i b hi => ⟨(hb.cell (p := ⟨gb, i, none⟩) h.gb_lt).trans (h.cg i b hi).1, ((Fr.of_below (M := fun _ _ => False) hb).frozen gb i h.gb_lt id).trans (h.cg i b hi).2⟩,
    fun d hd => ⟨(h.rq d hd).1, (h.rq d hd).2.below (hb.mono h.b2)⟩, h.gl.fr (M := fun _ _ => False) (Fr.of_below hb) (fun _ _ _ e => e)⟩
theorem fsR_ok {fs : List Feat} (h : FsOk fs) (q : Rq) : FsOk (fsR fs (askZ q)) := by
  unfold askZ
  split
  · exact h.finish (id := (featZ q).id) (p := some (featZ q)) ⟨featZ_valid q, rfl⟩
  · split
    · exact h.finish (p := none) trivial
    · exact h
theorem gone_false {g : List Bool} {i : Nat} (h : goneAt g i = false) : g[i]? = some false := by
  unfold goneAt at h
  cases e : g[i]? with
  | none => rw [e] at h; cases h
  | some b => rw [e] at h; simp at h; rw [h]
theorem cand_gone {l : List Dn} {g : List Bool} {fs : List Feat} {i : Nat} (h : candB l g fs i = true) : g[i]? = some false := by
  unfold candB at h
  split at h
  · cases h
  · simp only [Bool.and_eq_true, Bool.not_eq_true'] at h
    exact gone_false h.1.1.1.1
/-- The fuel does not tell. -/
theorem row_fuel : ∀ (k : Nat) {l : List Dn} {g : List Bool} {fs : List Feat}, g.length = l.length → leftG g ≤ k → rowB k l g fs = rowB (leftG g) l g fs
  | 0, l, g, fs, _, h => by rw [show leftG g = 0 by omega]
  | k + 1, l, g, fs, hl, h => by
    cases hm : leftG g with
    | zero =>
      unfold rowB
      have : ((List.range l.length).any fun i => candB l g fs i && rowB k l (g.set i true) (askAt l i fs)) = false := by
        rw [List.any_eq_false]
        intro i _
        rw [row_zero hm hl i]
        simp
      rw [this, Bool.or_false]
    | succ j =>
      have he : ∀ i, (candB l g fs i && rowB k l (g.set i true) (askAt l i fs)) = (candB l g fs i && rowB j l (g.set i true) (askAt l i fs)) := fun i => by
        cases hc : candB l g fs i with
        | false => rfl
        | true =>
          have h1 := left_set (cand_gone hc)
          have h2 := row_fuel k (l := l) (g := g.set i true) (fs := askAt l i fs) (by rw [List.length_set]; exact hl) (by omega)
          rw [h2, show leftG (g.set i true) = j by omega]
      unfold rowB
      simp only [he]
theorem row_none' {l : List Dn} {g : List Bool} {fs : List Feat} (ho : overB l g = false) (h : noneT (leftG g - 1) l g fs l.length) : rowB (leftG g) l g fs = false := by
  cases hm : leftG g with
  | zero => exact ho
  | succ j => rw [hm] at h; exact row_none ho h
theorem row_found' {l : List Dn} {g : List Bool} {fs : List Feat} {k : Nat} (hk : k < l.length) (h1 : candB l g fs k = true) (h2 : rowB (leftG (g.set k true)) l (g.set k true) (askAt l k fs) = true) : rowB (leftG g) l g fs = true := by
  have := left_set (cand_gone h1)
  rw [← this]; exact row_found hk h1 h2
end Go.Proofs.YtenaepdmlknlcaaGreatDoor

namespace Go.Proofs.YtenaepdmlknlcaaGreatDoor
open Go.RowKit Go.Shelf

theorem RowM.set {w : World} {b0 lb gb : Nat} {L : List Dn} {g : List Bool} (h : RowM w b0 lb gb L g) {i : Nat} (hi : i < L.length) (b : Bool) (h8 : 8 ≤ b0) : RowM (w.setCell ⟨gb, i, none⟩ (.bool b)) b0 lb gb L (g.set i b) := by
  have hf : Fr (fun c _ => c = gb) w (w.setCell ⟨gb, i, none⟩ (.bool b)) := (Fr.refl (fun c _ => c = gb) w).setCell (b := gb) (i := i) (.inl rfl) _
  have hb : Below gb w (w.setCell ⟨gb, i, none⟩ (.bool b)) := (Below.refl _ w).setCell (p := ⟨gb, i, none⟩) (Nat.le_refl _) _
  obtain ⟨x, hx⟩ : ∃ x, g[i]? = some x := ⟨_, List.getElem?_eq_getElem (by rw [h.len]; exact hi)⟩
  have hc := (h.cg i x hx).1
  refine ⟨by rw [List.length_set]; exact h.len, Nat.lt_of_lt_of_le h.lb_lt hf.size, Nat.lt_of_lt_of_le h.gb_lt hf.size, h.ne, h.b1, Nat.le_trans h.b2 hf.size, fun k d hd j u hj => (hf.cell lb _ h.lb_lt h.ne).trans (h.cl k d hd j u hj), fun k y hy => ?_, fun d hd => ⟨(h.rq d hd).1, (h.rq d hd).2.below (hb.mono h.b1)⟩, h.gl.fr hf (fun c _ hc e => by subst e; have := h.b1; omega)⟩
  rw [List.getElem?_set] at hy
  have hfz : ∀ k, (w.setCell ⟨gb, i, none⟩ (.bool b)).frozen? ⟨gb, k, none⟩ = w.frozen? ⟨gb, k, none⟩ := fun k => World.frozen?_setCell _ _ _ _
  rw [hfz]
  by_cases e : i = k
  · subst e
    rw [if_pos rfl, if_pos (by rw [h.len]; exact hi)] at hy
    obtain rfl := Option.some.inj hy
    exact ⟨by simp [go_sem, hc], (h.cg i x hx).2⟩
  · rw [if_neg e] at hy
    exact ⟨(World.cell?_setCell_other _ _ _ _ (by intro e'; injection e' with e1 e2 _; exact e e2)).trans (h.cg k y hy).1, (h.cg k y hy).2⟩
/-- What row leaves. -/
def RowPost (b0 lb gb : Nat) (L : List Dn) (g : List Bool) (fs : List Feat) (w : World) (e : Ending) (w' : World) : Prop :=
  e = .returned (.bool (rowB (leftG g) L g fs)) ∧ RowM w' b0 lb gb L g ∧ Fr (fun c _ => c = gb) w w'
theorem Below.drewK {B : Nat} {w w' : World} (h : Below B w w') (n : Nat) : Below B w (w'.drewN n) := ⟨h.os, h.tape, h.output, h.size, h.block⟩
end Go.Proofs.YtenaepdmlknlcaaGreatDoor
