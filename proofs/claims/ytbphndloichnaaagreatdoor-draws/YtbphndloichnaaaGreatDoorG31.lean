import Derived.Test.YtbphndloichnaaaGreatDoorG30
namespace Go.Proofs.YtbphndloichnaaaGreatDoor
open Go.RowKit Go.Shelf

set_option maxRecDepth 100000 in
set_option maxHeartbeats 2000000 in
theorem same_any (id kd ht col : Int) (a1 a2 : Option Addr) (n c1 c2 : Nat) (w : World) :
    Calls Tryz.prog 66 #[.agg #[.int .i64 id, .int .i64 kd, .int .i64 ht, .int .i64 col, .slice a1 n c1], .agg #[.int .i64 id, .int .i64 kd, .int .i64 ht, .int .i64 col, .slice a2 n c2]] w fun e w' => e = .returned (.bool true) ∧ Below w.heap.size w w' := by
  go_enter Tryz.func66, Tryz.ntmps66
  go_wp2
  go_ret
  exact ⟨rfl, ((Below.refl _ _).alloc (Nat.le_refl _) _).alloc (by simp) _⟩

/-- Places that their owner has written over. -/
def InkP (W : World) (P k : Nat) : Prop := ∀ j, j < k + 2 → W.cell? ⟨P, j * 2, none⟩ = some ink ∧ W.cell? ⟨P, j * 2 + 1, none⟩ = some (.int .i64 0)
theorem InkP.but {S : Nat → Prop} {A B : World} {P k : Nat} (h : InkP A P k) (hb : But S A B) (hP : P < A.heap.size) (hS : ¬ S P) : InkP B P k := fun j hj => ⟨(hb.cell hP hS).trans (h j hj).1, (hb.cell hP hS).trans (h j hj).2⟩

/-- Half way: j places are written over. -/
structure HalfP (W : World) (P : Nat) (ps : Pts) (j : Nat) : Prop where
  ink : ∀ t, t < j → W.cell? ⟨P, t * 2, none⟩ = some (.int .i64 (-77000000)) ∧ W.cell? ⟨P, t * 2 + 1, none⟩ = some (.int .i64 0)
  pts : ∀ (t : Nat) x y, j ≤ t → ps[t]? = some (x, y) → W.cell? ⟨P, t * 2, none⟩ = some (.int .i64 x) ∧ W.cell? ⟨P, t * 2 + 1, none⟩ = some (.int .i64 y)
  e0 : W.cell? ⟨P, ps.length * 2, none⟩ = some (.int .i64 (-77000000))
  e1 : W.cell? ⟨P, ps.length * 2 + 1, none⟩ = some (.int .i64 0)
  e2 : W.cell? ⟨P, (ps.length + 1) * 2, none⟩ = some (.int .i64 (-77000000))
  e3 : W.cell? ⟨P, (ps.length + 1) * 2 + 1, none⟩ = some (.int .i64 0)
  fz : ∀ j, W.frozen? ⟨P, j, none⟩ = false

end Go.Proofs.YtbphndloichnaaaGreatDoor
