import Derived.Test.YtenaepdmlknlcaaGreatDoorG21
import Derived.Test.YtenaepdmlknlcaaGreatDoorCards
import Derived.Lib.SmallJoins
import Derived.KernelRfl
import Derived.Test.YtenaepdmlknlcaaGreatDoorTie
import Derived.ProofKit
import Derived.OpenShut
import Derived.Carry
import Derived.Deep.DeepHandedRow
import Derived.Lib.LaidTab
namespace Go.Proofs.YtenaepdmlknlcaaGreatDoor
open Go.ChangeShapes Go.WideShapes Go.RowKit Go.Deep

theorem bytes29 : Tryz.prog.bytesOf 29 = 16 := by kernel_rfl
theorem bytes32 : Tryz.prog.bytesOf 32 = 56 := by kernel_rfl

section
variable {H : Type} {enc : TypeId × Value → H} {W : World}

theorem weights_mem {P : Program} {e : TypeId} {d : DataW H} {y : Nat} : ∀ {l : List (DataW H)}, d ∈ l → y ∈ d.weights P e → y ∈ DataW.weightsAll P e l
  | [], h, _ => by cases h
  | c :: r, h, hy => by
    rw [List.mem_cons] at h
    simp only [DataW.weightsAll, List.mem_append]
    rcases h with rfl | h
    · exact .inl hy
    · exact .inr (weights_mem h hy)

/-- The places of a feature, as they are read. -/
theorem openW_places {fuel : Nat} {v : Value} {x : DataW H × List MemPlace} (h : DataW.trod enc Tryz.prog W 0 (fun _ => true) true fuel 30 [v] = some x) (hw : ∀ y ∈ x.1.weights Tryz.prog 30, y ≤ reachBytes) :
    ∃ (a : Option Addr) (cap : Nat) (ps : Pts), v = .slice a ps.length cap ∧ ps.length ≤ cap ∧ PtsAt W.heap.size W a ps ∧ ps.length ≤ 8800000000000 := by
  rcases open_slice_pairs Tryz.underlying30 Tryz.underlying29 cells29 rfl rfl cells3 cells3 h with ⟨hcs, hx⟩ | ⟨a, len, cap, m, n, V0, V1, D0, D1, P0, P1, hcs, _, hl, _, hmm, hx, hall⟩
  · simp only [List.cons.injEq, and_true] at hcs
    exact ⟨none, 0, [], hcs, by simp, .inl rfl, by simp⟩
  · simp only [List.cons.injEq, and_true] at hcs
    simp only [if_true] at hmm
    obtain ⟨q, hq⟩ := choose_lt (α := Int × Int) (n := len) (p := fun i q => W.cell? (a.add (i * 2)) = some (.int .i64 q.1) ∧ W.cell? (a.add (i * 2 + 1)) = some (.int .i64 q.2)) (fun i hi => by
      obtain ⟨c0, c1, h0, h1⟩ := hall i (by omega)
      obtain ⟨z0, e0, _⟩ := DataW.trod_int Tryz.underlying3 h0
      obtain ⟨z1, e1, _⟩ := DataW.trod_int Tryz.underlying3 h1
      simp only [List.cons.injEq, and_true] at e0 e1
      exact ⟨(z0, z1), by rw [c0, e0], by rw [c1, e1]⟩)
    have hlen : ((List.range len).map q).length = len := by simp
    refine ⟨some a, cap, (List.range len).map q, by rw [hlen]; exact hcs, by omega, ?_, ?_⟩
    · by_cases h0 : len = 0
      · subst h0; exact .inl rfl
      · have c0 := (hq 0 (by omega)).1
        simp only [Nat.zero_mul] at c0
        have ea : a = ⟨a.block, a.off, none⟩ := addr_none (by simpa [Addr.add] using c0)
        generalize a.block = b at ea
        generalize a.off = o at ea
        subst ea
        rw [add_none] at c0
        refine .inr ⟨b, o, rfl, cell_lt c0, fun k x y e => ?_⟩
        rw [List.getElem?_map, Option.map_eq_some_iff] at e
        obtain ⟨i, hi, e⟩ := e
        have hk : k < len := by
          have := List.getElem?_eq_some_iff.1 hi
          simpa using this.1
        obtain rfl : k = i := by rw [List.getElem?_range hk] at hi; exact Option.some.inj hi
        have := hq k hk
        rw [e, add_none, add_none, ← Nat.add_assoc] at this
        exact this
    · rw [hlen]
      have := hw (((List.range len).map fun i => DataW.agg [D0 i, D1 i]).length * 16 + ((List.range (m - len)).map fun j => DataW.agg [D0 (len + j), D1 (len + j)]).length * 16) (by
        rw [hx]
        simp only [DataW.weights, Tryz.underlying30, bytes29, Nat.add_mul]
        exact List.mem_cons_self)
      simp only [List.length_map, List.length_range, reachBytes] at this
      omega

set_option maxRecDepth 100000 in
/-- A list of features, as it is read. -/
theorem openW_feats {v : Value} {d : DataW H} {p : List MemPlace} {r : Reach} {b0 : Nat} (hv : Value.okWide Tryz.prog W r b0 22 v) (h : DataW.Trod enc Tryz.prog W 0 (fun _ => true) true 22 v d p) (hw : ∀ y ∈ d.weights Tryz.prog 22, y ≤ reachBytes) :
    ∃ (a : Option Addr) (cap : Nat) (gs : List FG), v = .slice a gs.length cap ∧ FeatsGO W a gs ∧ gs.length ≤ 2600000000000 ∧ ∀ g ∈ gs, g.f.ps.length ≤ 8800000000000 := by
  obtain ⟨a, len, cap, rfl⟩ := okWide_slice Tryz.underlying22 hv
  obtain ⟨fuel, h⟩ := h
  rcases open_slice Tryz.underlying22 h with ⟨hcs, hx⟩ | ⟨a', len', cap', m, n, D, Pl, hcs, _, hl, _, hmm, hx, hall⟩
  · simp only [Value.cells, List.cons.injEq, and_true, Value.slice.injEq] at hcs
    obtain ⟨rfl, rfl, rfl⟩ := hcs
    exact ⟨none, 0, [], rfl, .inl rfl, by simp, fun g hg => by cases hg⟩
  · simp only [Value.cells, List.cons.injEq, and_true, Value.slice.injEq] at hcs
    obtain ⟨rfl, rfl, rfl⟩ := hcs
    simp only [if_true] at hmm
    simp only [Prod.mk.injEq] at hx
    obtain ⟨rfl, _⟩ := hx
    simp only [DataW.weights, Tryz.underlying22, bytes32] at hw
    have hdl := hw _ List.mem_cons_self
    simp only [List.length_map, List.length_range, reachBytes] at hdl
    have hwi : ∀ i, i < len → ∀ y ∈ (D i).weights Tryz.prog 32, y ≤ reachBytes := fun i hi y hy =>
      hw y (List.mem_cons_of_mem _ (List.mem_append_left _ (weights_mem (List.mem_map.2 ⟨i, by simpa using hi, rfl⟩) hy)))
    obtain ⟨q, hq⟩ := choose_lt (α := FG) (n := len) (p := fun i g => W.cells? 0 (a'.add (i * 5)) 5 = some [.int .i64 g.f.id, .int .i64 g.f.kd, .int .i64 g.f.ht, .int .i64 g.f.col, .slice g.a g.f.ps.length g.cap] ∧ PtsAt W.heap.size W g.a g.f.ps ∧ g.f.ps.length ≤ g.cap ∧ g.f.ps.length ≤ 8800000000000) (fun i hi => by
      obtain ⟨cs', h1, h2⟩ := hall i (by omega)
      rw [cells32] at h1
      obtain ⟨_, hlen, _⟩ := World.cells?_some h1
      obtain ⟨xs, k, _, hxy, _, hxl, hf⟩ := DataW.trod_struct Tryz.underlying32 h2
      match xs, hxl, cs', hlen with
      | [y0, y1, y2, y3, y4], _, [v0, v1, v2, v3, v4], _ =>
        have g0 := hf 0 _ rfl
        have g1 := hf 1 _ rfl
        have g2 := hf 2 _ rfl
        have g3 := hf 3 _ rfl
        have g4 := hf 4 _ rfl
        simp [cells3, cells30] at g0 g1 g2 g3 g4
        obtain ⟨z0, e0, _⟩ := DataW.trod_int Tryz.underlying3 g0
        obtain ⟨z1, e1, _⟩ := DataW.trod_int Tryz.underlying3 g1
        obtain ⟨z2, e2, _⟩ := DataW.trod_int Tryz.underlying3 g2
        obtain ⟨z3, e3, _⟩ := DataW.trod_int Tryz.underlying3 g3
        simp only [Prod.mk.injEq] at hxy
        have hwp : ∀ y ∈ y4.1.weights Tryz.prog 30, y ≤ reachBytes := fun y hy => hwi i hi y (by
          rw [hxy.1]
          simp only [List.map_cons, List.map_nil, DataW.weights, Tryz.underlying32, DataW.weightsEach, List.mem_append]
          exact .inr (.inr (.inr (.inr (.inl hy)))))
        obtain ⟨pa, pc, ps, e4, hpc, hP, hb⟩ := openW_places g4 hwp
        simp only [List.cons.injEq, and_true] at e0 e1 e2 e3
        subst e0 e1 e2 e3 e4
        exact ⟨⟨⟨z0, z1, z2, z3, ps⟩, pa, pc⟩, h1, hP, hpc, hb⟩)
    have hlen : ((List.range len).map q).length = len := by simp
    refine ⟨some a', cap, (List.range len).map q, by rw [hlen], ?_, ?_, ?_⟩
    · by_cases h0 : len = 0
      · subst h0; exact .inl rfl
      · obtain ⟨c0, _⟩ := hq 0 (by omega)
        have hz := (World.cells?_some c0).2.2 0 (by omega)
        simp only [Nat.zero_mul, List.getElem?_cons_zero] at hz
        have ea : a' = ⟨a'.block, a'.off, none⟩ := addr_none (by simpa [Addr.add] using hz)
        generalize a'.block = b at ea
        generalize a'.off = o at ea
        subst ea
        rw [add_none, add_none] at hz
        refine .inr ⟨b, o, rfl, cell_lt hz, fun i g e => ?_⟩
        rw [List.getElem?_map, Option.map_eq_some_iff] at e
        obtain ⟨j, hj, e⟩ := e
        have hk : i < len := by
          have := List.getElem?_eq_some_iff.1 hj
          simpa using this.1
        obtain rfl : i = j := by rw [List.getElem?_range hk] at hj; exact Option.some.inj hj
        obtain ⟨hc, hP, hcap, hb⟩ := hq i hk
        rw [e] at hc hP hcap hb
        rw [add_none] at hc
        obtain ⟨_, _, hc⟩ := World.cells?_some hc
        have k0 := hc 0 (by omega)
        have k1 := hc 1 (by omega)
        have k2 := hc 2 (by omega)
        have k3 := hc 3 (by omega)
        have k4 := hc 4 (by omega)
        rw [add_none] at k0 k1 k2 k3 k4
        exact ⟨by simpa using k0, by simpa using k1, by simpa using k2, by simpa using k3, by simpa using k4, hP, hcap, by omega⟩
    · rw [hlen]
      omega
    · intro g hg
      obtain ⟨i, hi, rfl⟩ := List.mem_map.1 hg
      exact (hq i (by simpa using hi)).2.2.2

end
end Go.Proofs.YtenaepdmlknlcaaGreatDoor

namespace Go.Proofs.YtenaepdmlknlcaaGreatDoor
open Go.ChangeShapes Go.WideShapes Go.ChangeAt Go.RowKit

theorem cellsTile : Tryz.prog.cellsOf 24 = 3 := by kernel_rfl
theorem own : ownKnob Tryz.prog.godebug = none := by kernel_rfl
theorem gTab : Tryz.prog.globalNamed "math/bits.deBruijn64tab" = some 3 := by kernel_rfl
theorem gTabType : (Tryz.prog.globals[3]?).map (·.type) = some 315 := by kernel_rfl
theorem cells159 : Tryz.prog.cellsOf 315 = 64 := by kernel_rfl
theorem cells5 : Tryz.prog.cellsOf 5 = 1 := by kernel_rfl
theorem laidOut : laidOutB Tryz.prog = true := by kernel_rfl

def tab64 : List Int := [0, 1, 56, 2, 57, 49, 28, 3, 61, 58, 42, 50, 38, 29, 17, 4, 62, 47, 59, 36, 45, 43, 51, 22, 53, 39, 33, 30, 24, 18, 12, 5, 63, 55, 48, 27, 60, 41, 37, 16, 46, 35, 44, 21, 52, 32, 23, 11, 54, 26, 40, 15, 34, 20, 31, 10, 25, 14, 19, 9, 13, 8, 7, 6]

/-- What the row's list gives: the table's cells hold its numbers. -/
theorem table {W : World} (h : laidMetH Tryz.prog Rows.drawsUptoRow.laid W) : Lib.TabIs Tryz.prog W "math/bits.deBruijn64tab" .u8 tab64 := by
  have h := laidMetH.filter (fun x => x.1 == "math/bits.deBruijn64tab") h
  exact Lib.tabIs_of_head (rest := []) gTab gTabType Tryz.underlying315 Tryz.underlying5 cells5 cells159 h
theorem tab15 : tab64.getD 15 0 = 4 := by kernel_rfl
theorem cell15 {W : World} (h : laidMetH Tryz.prog Rows.drawsUptoRow.laid W) : W.cell? ⟨3, 15, none⟩ = some (.int .u8 4) := by
  have t := (table h).cell gTab 15 (by simp [tab64])
  rw [tab15] at t
  exact t

set_option maxRecDepth 100000 in
/-- A tile, as it is read. -/
theorem open_tile {H : Type} {enc : TypeId × Value → H} {W : World} {v : Value} {d : DataW H} {p : List MemPlace} {r : Reach} {b0 : Nat} (hv : Value.okWide Tryz.prog W r b0 24 v) (h : DataW.Trod enc Tryz.prog W 0 (fun _ => true) true 24 v d p) :
    ∃ x y z : Int, v = .agg #[.int .i64 x, .int .i64 y, .int .i64 z] := by
  obtain ⟨v0, v1, v2, y0, y1, y2, n, rfl, _, _, h0, h1, h2⟩ := Joins.open_agg3 Tryz.underlying24 (by kernel_rfl) cellsTile hv h
  obtain ⟨z0, e0, _⟩ := DataW.trod_int Tryz.underlying3 h0
  obtain ⟨z1, e1, _⟩ := DataW.trod_int Tryz.underlying3 h1
  obtain ⟨z2, e2, _⟩ := DataW.trod_int Tryz.underlying3 h2
  simp only [List.cons.injEq, and_true] at e0 e1 e2
  subst e0 e1 e2
  exact ⟨z0, z1, z2, rfl⟩

def withTab (k : IntKind) (zs : List Int) : Obj → Obj
  | .cells _ t frozen => .cells (zs.map fun z => Value.int k z).toArray t frozen
  | o => o
/-- A world for the witness: the settled one, the three tables holding what their initialisers lay. -/
noncomputable def laidWorld (os : Os) : World :=
  { World.holding Tryz.prog os ⟨#[], #[], []⟩ with heap := (((World.holding Tryz.prog os ⟨#[], #[], []⟩).heap.modify 0 (withTab .u64 ((List.range 20).map fun i => 10 ^ i))).modify 2 (withTab .u8 [0, 1, 28, 2, 29, 14, 24, 3, 30, 22, 20, 15, 25, 17, 4, 8, 31, 27, 13, 23, 21, 19, 16, 7, 26, 12, 18, 6, 11, 5, 10, 9])).modify 3 (withTab .u8 tab64) }
def noughts : Array Value := #[.slice none 0 0, .agg #[.int .i64 0, .int .i64 0, .int .i64 0], .slice none 0 0, .agg #[.int .i64 0, .int .i64 0, .int .i64 0]]
theorem laid_met (os : Os) : laidMet Tryz.prog Rows.drawsUptoRow.laid ((laidWorld os).forCall (fun _ _ => 0) ⟨#[], noughts, []⟩).memory :=
  laidMet_of_run' 8 (by kernel_rfl) (by kernel_rfl)
theorem reads (os : Os) {H : Type} (enc : TypeId × Value → H) : ∃ places, DataW.whole enc Tryz.prog ((laidWorld os).forCall (fun _ _ => 0) ⟨#[], noughts, []⟩).memory Tryz.f3.params.toList Rows.drawsSpec.vars false noughts.toList 8 = some ([.nil, .agg [.lit (.int .i64 0), .lit (.int .i64 0), .lit (.int .i64 0)], .nil, .agg [.lit (.int .i64 0), .lit (.int .i64 0), .lit (.int .i64 0)]], [], places) :=
  ⟨[], by kernel_rfl⟩

theorem plain (f : FuncId) (fn : Func) (hf : Tryz.pinned.checked.prog.funcNamed "atlas/atlaslaw.Draws" = some f) (hfn : Tryz.pinned.checked.prog.funcs[f]? = some fn) :
    true = Tryz.pinned.checked.prog.looks [] ∧ ∀ (j : Nat) t, fn.params[j]? = some t → Tryz.pinned.checked.prog.wantsStandIn t = false := by
  obtain rfl : f = 3 := Option.some.inj ((show Tryz.prog.funcNamed "atlas/atlaslaw.Draws" = some 3 by kernel_rfl).symm.trans hf) |>.symm
  obtain rfl : fn = Tryz.f3 := (Option.some.inj (Tryz.func3.symm.trans hfn)).symm
  refine ⟨by kernel_rfl, fun j t ht => ?_⟩
  rw [Tryz.params3] at ht
  have hm : t ∈ [22, 24] := by
    have := Array.mem_of_getElem? ht
    simp only [List.mem_toArray, List.mem_cons, List.not_mem_nil, or_false] at this ⊢
    rcases this with h | h | h | h
    · exact .inl h
    · exact .inr h
    · exact .inl h
    · exact .inr h
  have hall : ([22, 24].all fun u => !Tryz.prog.wantsStandIn u) = true := by kernel_rfl
  exact (show Tryz.prog.wantsStandIn t = false by simpa using List.all_eq_true.1 hall t hm)

end Go.Proofs.YtenaepdmlknlcaaGreatDoor
