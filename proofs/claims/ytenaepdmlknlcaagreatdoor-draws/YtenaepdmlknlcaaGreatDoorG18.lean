import Derived.Test.YtenaepdmlknlcaaGreatDoorG17
import Derived.Laws.CopyOwn
import Derived.Laws.MakeOwn
namespace Go.Proofs.YtenaepdmlknlcaaGreatDoor
open Go.RowKit Go.Shelf

/-- All blocks that were there are as they were, but those in S. -/
structure But (S : Nat → Prop) (A B : World) : Prop where
  os : B.os = A.os
  tape : B.tape = A.tape
  output : B.output = A.output
  size : A.heap.size ≤ B.heap.size
  block : ∀ k, k < A.heap.size → ¬ S k → B.heap[k]? = A.heap[k]?
theorem But.refl (S : Nat → Prop) (A : World) : But S A A := ⟨rfl, rfl, rfl, Nat.le_refl _, fun _ _ _ => rfl⟩
theorem But.trans {S : Nat → Prop} {A B C : World} (h : But S A B) (k : But S B C) : But S A C :=
  ⟨k.os.trans h.os, k.tape.trans h.tape, k.output.trans h.output, Nat.le_trans h.size k.size, fun i hi hs => (k.block i (Nat.lt_of_lt_of_le hi h.size) hs).trans (h.block i hi hs)⟩
theorem But.trans_new {S S' : Nat → Prop} {A B C : World} (h : But S A B) (k : But S' B C) (hs : ∀ b, b < A.heap.size → S' b → S b) : But S A C :=
  ⟨k.os.trans h.os, k.tape.trans h.tape, k.output.trans h.output, Nat.le_trans h.size k.size, fun i hi hn => (k.block i (Nat.lt_of_lt_of_le hi h.size) (fun e => hn (hs i hi e))).trans (h.block i hi hn)⟩
theorem But.of_below {S : Nat → Prop} {A B : World} (h : Below A.heap.size A B) : But S A B := ⟨h.os, h.tape, h.output, h.size, fun k hk _ => h.block k hk⟩
theorem But.mono {S S' : Nat → Prop} {A B : World} (h : But S A B) (hs : ∀ b, S b → S' b) : But S' A B := ⟨h.os, h.tape, h.output, h.size, fun k hk hn => h.block k hk (fun e => hn (hs k e))⟩
theorem But.cell {S : Nat → Prop} {A B : World} (h : But S A B) {b o : Nat} (hb : b < A.heap.size) (hs : ¬ S b) : B.cell? ⟨b, o, none⟩ = A.cell? ⟨b, o, none⟩ := World.cell?_of_block (w := A) (h.block b hb hs)
theorem But.frozen {S : Nat → Prop} {A B : World} (h : But S A B) {b o : Nat} (hb : b < A.heap.size) (hs : ¬ S b) : B.frozen? ⟨b, o, none⟩ = A.frozen? ⟨b, o, none⟩ := World.frozen?_of_block (w := A) (h.block b hb hs)
theorem But.setCell {S : Nat → Prop} {A B : World} (h : But S A B) {p : Addr} (hp : S p.block ∨ A.heap.size ≤ p.block) (u : Value) : But S A (B.setCell p u) :=
  ⟨h.os, h.tape, h.output, by simpa [World.setCell] using h.size, fun k hk hs => (Below.heap_setCell B p u k (fun e => by rcases hp with hp | hp; exact hs (e ▸ hp); omega)).trans (h.block k hk hs)⟩
theorem But.alloc {S : Nat → Prop} {A B : World} (h : But S A B) (o : Obj) : But S A (B.alloc o) := h.trans (But.of_below ((Below.refl _ _).alloc (Nat.le_refl _) o))
theorem But.drewN {S : Nat → Prop} {A B : World} (h : But S A B) (n : Nat) : But S A (B.drewN n) := ⟨h.os, h.tape, h.output, h.size, h.block⟩
theorem But.below {S : Nat → Prop} {A B : World} (h : But S A B) {n : Nat} (hn : n ≤ A.heap.size) (hs : ∀ b, S b → n ≤ b) : Below n A B := ⟨h.os, h.tape, h.output, h.size, fun k hk => h.block k (by omega) (fun e => by have := hs k e; omega)⟩
theorem But.grown {S : Nat → Prop} {A B C : World} {row : Option Nat} (h : But S A B) (hg : B.grownBy C row) (hr : ∀ k, row = some k → S k ∨ A.heap.size ≤ k) : But S A C :=
  ⟨hg.os.trans h.os, hg.tape.trans h.tape, hg.output.trans h.output, Nat.le_trans h.size hg.size, fun k hk hs => (hg.block k (by have := h.size; omega) (fun e => by rcases hr k e.symm with h1 | h1; exact hs h1; omega)).trans (h.block k hk hs)⟩

theorem info29 : (Tryz.prog.info? 29).map (fun i => (i.zero, i.size, i.bytes)) = some (some (.agg #[.int .i64 0, .int .i64 0]), 2, 16) := by kernel_rfl
theorem info32 : (Tryz.prog.info? 32).map (fun i => (i.zero, i.size, i.bytes)) = some (some (.agg #[.int .i64 0, .int .i64 0, .int .i64 0, .int .i64 0, .slice none 0 0]), 5, 56) := by kernel_rfl
theorem info30 : (Tryz.prog.info? 30).map (fun i => (i.zero, i.size, i.bytes)) = some (some (.slice none 0 0), 1, 24) := by kernel_rfl
theorem info22 : (Tryz.prog.info? 22).map (fun i => (i.zero, i.size, i.bytes)) = some (some (.slice none 0 0), 1, 24) := by kernel_rfl

theorem made2 (m j : Nat) (hj : j < m * 2) : (madeCells #[.int .i64 0, .int .i64 0] (m * 2))[j]? = some (.int .i64 0) := by
  simp only [madeCells, Array.getElem?_map, Array.getElem?_range, if_pos hj, Option.map_some]
  have : j % 2 = 0 ∨ j % 2 = 1 := by omega
  rcases this with h | h <;> simp [h]
theorem made5 (m i c : Nat) (hi : i < m) (hc : c < 5) : (madeCells #[.int .i64 0, .int .i64 0, .int .i64 0, .int .i64 0, .slice none 0 0] (m * 5))[i * 5 + c]? = some (if c = 4 then .slice none 0 0 else .int .i64 0) := by
  have hj : i * 5 + c < m * 5 := by omega
  simp only [madeCells, Array.getElem?_map, Array.getElem?_range, if_pos hj, Option.map_some]
  have e : (i * 5 + c) % 5 = c := by omega
  have : c = 0 ∨ c = 1 ∨ c = 2 ∨ c = 3 ∨ c = 4 := by omega
  rcases this with h | h | h | h | h <;> subst h <;> simp [e]

/-- What make lays down for places. -/
theorem makeP (m : Nat) (hm : m ≤ 9000000000000) : ∃ Z : Array Value, (∀ j, j < m * 2 → Z[j]? = some (.int .i64 0)) ∧ ∀ W : World, Sem.run Tryz.prog (Instr.makeSlice 30 (.int .i64 (m : Int)) (.int .i64 (m : Int))) W = .ok (.slice (some ⟨W.heap.size, 0, none⟩) m m) (W.alloc (.cells Z 29)) := by
  obtain ⟨i, hi, hz, hs, hb⟩ := info_parts info29
  refine ⟨madeCells #[.int .i64 0, .int .i64 0] (m * 2), made2 m, fun W => ?_⟩
  have := run_make (P := Tryz.prog) W 30 29 i _ Tryz.underlying30 hi hz .i64 .i64 m m (by omega) (by omega) (by rw [hb]; omega) (by omega)
  rw [hs, show (Value.agg #[.int .i64 0, .int .i64 0]).cells = #[.int .i64 0, .int .i64 0] by kernel_rfl] at this
  simpa using this
theorem makeX (m : Nat) (hm : m ≤ 3000000000000) : ∃ Z : Array Value, (∀ i c, i < m → c < 5 → Z[i * 5 + c]? = some (if c = 4 then .slice none 0 0 else .int .i64 0)) ∧ ∀ W : World, Sem.run Tryz.prog (Instr.makeSlice 22 (.int .i64 (m : Int)) (.int .i64 (m : Int))) W = .ok (.slice (some ⟨W.heap.size, 0, none⟩) m m) (W.alloc (.cells Z 32)) := by
  obtain ⟨i, hi, hz, hs, hb⟩ := info_parts info32
  refine ⟨madeCells #[.int .i64 0, .int .i64 0, .int .i64 0, .int .i64 0, .slice none 0 0] (m * 5), made5 m, fun W => ?_⟩
  have := run_make (P := Tryz.prog) W 22 32 i _ Tryz.underlying22 hi hz .i64 .i64 m m (by omega) (by omega) (by rw [hb]; omega) (by omega)
  rw [hs, show (Value.agg #[.int .i64 0, .int .i64 0, .int .i64 0, .int .i64 0, .slice none 0 0]).cells = #[.int .i64 0, .int .i64 0, .int .i64 0, .int .i64 0, .slice none 0 0] by kernel_rfl] at this
  simpa using this

/-- The cells of places. -/
def flatP (ps : Pts) : List Value := ps.flatMap fun p => [.int .i64 p.1, .int .i64 p.2]
theorem flatP_length (ps : Pts) : (flatP ps).length = ps.length * 2 := by
  induction ps with
  | nil => rfl
  | cons p r ih =>
    have : flatP (p :: r) = [.int .i64 p.1, .int .i64 p.2] ++ flatP r := rfl
    rw [this, List.length_append, ih]; simp; omega
theorem flatP_at : ∀ (ps : Pts) (j : Nat) (v : Value), (flatP ps)[j]? = some v → ∃ x y, ps[j / 2]? = some (x, y) ∧ v = if j % 2 = 0 then .int .i64 x else .int .i64 y
  | [], j, v, h => by simp [flatP] at h
  | (x, y) :: r, 0, v, h => by simp [flatP] at h; exact ⟨x, y, by simp, by simp [h]⟩
  | (x, y) :: r, 1, v, h => by simp [flatP] at h; exact ⟨x, y, by simp, by simp [h]⟩
  | (x, y) :: r, j + 2, v, h => by
    have h' : (flatP r)[j]? = some v := by simpa [flatP] using h
    obtain ⟨a, b, h1, h2⟩ := flatP_at r j v h'
    exact ⟨a, b, by rw [show (j + 2) / 2 = j / 2 + 1 by omega]; simpa using h1, by rw [show (j + 2) % 2 = j % 2 by omega]; exact h2⟩
theorem flatP_one (ps : Pts) : ∀ v ∈ flatP ps, v.oneCell' = true := fun v hv => by
  simp only [flatP, List.mem_flatMap] at hv
  obtain ⟨p, _, hp⟩ := hv
  simp at hp
  rcases hp with rfl | rfl <;> rfl

theorem run_copy2 (w : World) (b k dCap : Nat) (sp : Option Addr) (sCap n0 : Nat) (ps : Pts) (hp : PtsAt n0 w sp ps) (hk : k = ps.length) (hc : ∀ j, j < k * 2 → (w.cell? ⟨b, j, none⟩).isSome = true) (hf : ∀ j, w.frozen? ⟨b, j, none⟩ = false) :
    Sem.run Tryz.prog (Builtin.copy_ #[30, 30] 3 #[.slice (some ⟨b, 0, none⟩) (k + 2) dCap, .slice sp k sCap]) w = .ok (.int .i64 (k : Int)) (w.setCells b 0 (flatP ps)) := by
  have hl := flatP_length ps
  have hst := run_storeCells_cells (P := Tryz.prog) b 0 (flatP ps) 0 w (fun j hj => by simp only [Nat.zero_add]; exact hc j (by omega)) (fun j hj => by simp only [Nat.zero_add]; exact hf j) (flatP_one ps)
  have hmin : Nat.min k (k + 2) = k := by simp
  have hsz : (Tryz.prog.info? 29).map (·.size) = some 2 := by kernel_rfl
  have hu := Tryz.underlying30
  cases hq : Tryz.prog.info? 29 with
  | none => simp [hq] at hsz
  | some i =>
    have hi : i.size = 2 := by simpa [hq] using hsz
    rcases hp with rfl | ⟨pb, po, rfl, hpl⟩
    · have hk0 : k = 0 := by simpa using hk
      subst hk0
      have hl0 : ∀ (x : Addr), (loadCells x 0).run Tryz.prog w = .ok #[] w := fun x => by simpa using run_loadCells_list (P := Tryz.prog) w x [] (by simp)
      cases sp <;> simp [Builtin.copy_, run_underlying hu, Builtin.lenOf, Builtin.firstCells, sizeOf, typeInfo, hq, storeCells, hl0, flatP, World.setCells, goInt]
    · have hld := run_loadCells_list (P := Tryz.prog) w ⟨pb, po, none⟩ (flatP ps) (fun j v e => by
        obtain ⟨x, y, h1, h2⟩ := flatP_at ps j v e
        have := hpl.2 _ _ _ h1
        rw [addr_add, h2]
        split
        · rename_i h0
          rw [show po + j = po + j / 2 * 2 by omega]; exact this.1
        · rw [show po + j = po + j / 2 * 2 + 1 by omega]; exact this.2)
      rw [hl, ← hk] at hld
      simp [Builtin.copy_, run_underlying hu, Builtin.lenOf, Builtin.firstCells, sizeOf, typeInfo, hq, hi, hmin, hld, hst, goInt]

end Go.Proofs.YtenaepdmlknlcaaGreatDoor
