import Derived.Test.YtcgpdfefnmhnhaaGreatDoorG33
import Derived.Test.YtcgpdfefnmhnhaaGreatDoorCards
import Derived.Deep.SlicePairs
import Derived.Lib.SmallJoins
import Derived.KernelRfl
import Derived.Test.YtcgpdfefnmhnhaaGreatDoorTie
import Derived.ProofKit
import Derived.OpenShut
import Derived.Carry
import Derived.Deep.DeepHandedRow
import Derived.Lib.LaidTab
namespace Go.Proofs.YtcgpdfefnmhnhaaGreatDoor
open Go.ChangeShapes Go.WideShapes Go.RowKit Go.Deep

theorem cells3 : Tryz.prog.cellsOf 3 = 1 := by kernel_rfl
theorem cells24 : Tryz.prog.cellsOf 24 = 3 := by kernel_rfl
theorem cells29 : Tryz.prog.cellsOf 29 = 2 := by kernel_rfl
theorem cells30 : Tryz.prog.cellsOf 30 = 1 := by kernel_rfl
theorem cells32 : Tryz.prog.cellsOf 32 = 5 := by kernel_rfl

section
variable {H : Type} {enc : TypeId × Value → H} {W : World}

theorem bulk_pos (d : DataW H) : 1 ≤ Rows.uptoBulk d := by
  cases d with
  | lit l => cases l <;> simp [Rows.uptoBulk]
  | _ => simp [Rows.uptoBulk]
theorem bulk_len : ∀ l : List (DataW H), l.length ≤ Rows.uptoBulkAll l
  | [] => by simp
  | d :: r => by have := bulk_len r; have := bulk_pos d; simp only [Rows.uptoBulkAll, List.length_cons]; omega
theorem bulk_mem {d : DataW H} : ∀ {l : List (DataW H)}, d ∈ l → Rows.uptoBulk d ≤ Rows.uptoBulkAll l
  | [], h => by cases h
  | e :: r, h => by
    rw [List.mem_cons] at h
    simp only [Rows.uptoBulkAll]
    rcases h with rfl | h
    · omega
    · have := bulk_mem h; omega

theorem add_none (b off k : Nat) : (⟨b, off, none⟩ : Addr).add k = ⟨b, off + k, none⟩ := by
  unfold Addr.add
  split
  · rename_i h; subst h; rfl
  · rfl
/-- An address that is read has no spot. -/
theorem addr_none {a : Addr} {v : Value} (h : W.cell? a = some v) : a = ⟨a.block, a.off, none⟩ := by
  obtain ⟨b, o, s⟩ := a
  cases s with
  | none => rfl
  | some x =>
    unfold World.cell? at h
    split at h <;> simp at h

/-- The places of a feature, as they are read. -/
theorem open_places {fuel : Nat} {v : Value} {x : DataW H × List MemPlace} (h : DataW.trod enc Tryz.prog W 0 (fun _ => true) true fuel 30 [v] = some x) :
    ∃ (a : Option Addr) (cap : Nat) (ps : Pts), v = .slice a ps.length cap ∧ ps.length ≤ cap ∧ PtsAt W.heap.size W a ps ∧ ps.length ≤ Rows.uptoBulk x.1 := by
  rcases open_slice_pairs Tryz.underlying30 Tryz.underlying29 cells29 rfl rfl cells3 cells3 h with ⟨hcs, hx⟩ | ⟨a, len, cap, m, n, V0, V1, D0, D1, P0, P1, hcs, _, hl, _, hmm, hx, hall⟩
  · simp only [List.cons.injEq, and_true] at hcs
    exact ⟨none, 0, [], hcs, by simp, .inl rfl, by simp⟩
  · simp only [List.cons.injEq, and_true] at hcs
    simp only [if_true] at hmm
    obtain ⟨q, hq⟩ := choose_lt (α := Int × Int) (n := len) (p := fun i q => W.cell? (a.add (i * 2)) = some (.int .i64 q.1) ∧ W.cell? (a.add (i * 2 + 1)) = some (.int .i64 q.2)) (fun i hi => by
      obtain ⟨c0, c1, h0, h1⟩ := hall i (by omega)
      obtain ⟨z0, e0, _⟩ := DataW.trod_int Tryz.underlying3 h0
      obtain ⟨z1, e1, _⟩ := DataW.trod_int Tryz.underlying3 h1
      simp only [List.cons.injEq, and_true] at e0 e1
      exact ⟨(z0, z1), by rw [c0, e0], by rw [c1, e1]⟩)
    have hlen : ((List.range len).map q).length = len := by simp
    refine ⟨some a, cap, (List.range len).map q, by rw [hlen]; exact hcs, by omega, ?_, ?_⟩
    · by_cases h0 : len = 0
      · subst h0; exact .inl rfl
      · have c0 := (hq 0 (by omega)).1
        simp only [Nat.zero_mul] at c0
        have ea : a = ⟨a.block, a.off, none⟩ := addr_none (by simpa [Addr.add] using c0)
        generalize a.block = b at ea
        generalize a.off = o at ea
        subst ea
        rw [add_none] at c0
        refine .inr ⟨b, o, rfl, cell_lt c0, fun k x y e => ?_⟩
        rw [List.getElem?_map, Option.map_eq_some_iff] at e
        obtain ⟨i, hi, e⟩ := e
        have hk : k < len := by
          have := List.getElem?_eq_some_iff.1 hi
          simpa using this.1
        obtain rfl : k = i := by rw [List.getElem?_range hk] at hi; exact Option.some.inj hi
        have := hq k hk
        rw [e, add_none, add_none, ← Nat.add_assoc] at this
        exact this
    · rw [hlen, hx]
      have := bulk_len ((List.range len).map fun i => DataW.agg [D0 i, D1 i])
      simp only [List.length_map, List.length_range] at this
      simp only [Rows.uptoBulk]
      omega

instance : Inhabited FG := ⟨⟨⟨0, 0, 0, 0, []⟩, none, 0⟩⟩
set_option maxRecDepth 100000 in
/-- A list of features, as it is read. -/
theorem open_feats {v : Value} {d : DataW H} {p : List MemPlace} {r : Reach} {b0 : Nat} (hv : Value.okWide Tryz.prog W r b0 22 v) (h : DataW.Trod enc Tryz.prog W 0 (fun _ => true) true 22 v d p) (hd : Rows.uptoBulk d ≤ 1048576) :
    ∃ (a : Option Addr) (cap : Nat) (gs : List FG), v = .slice a gs.length cap ∧ FeatsGO W a gs ∧ gs.length ≤ Rows.uptoBulk d ∧ ∀ g ∈ gs, g.f.ps.length ≤ Rows.uptoBulk d ∧ g.f.ps.length ≤ g.cap := by
  obtain ⟨a, len, cap, rfl⟩ := okWide_slice Tryz.underlying22 hv
  obtain ⟨fuel, h⟩ := h
  rcases open_slice Tryz.underlying22 h with ⟨hcs, hx⟩ | ⟨a', len', cap', m, n, D, Pl, hcs, _, hl, _, hmm, hx, hall⟩
  · simp only [Value.cells, List.cons.injEq, and_true, Value.slice.injEq] at hcs
    obtain ⟨rfl, rfl, rfl⟩ := hcs
    exact ⟨none, 0, [], rfl, .inl rfl, by simp, fun g hg => by cases hg⟩
  · simp only [Value.cells, List.cons.injEq, and_true, Value.slice.injEq] at hcs
    obtain ⟨rfl, rfl, rfl⟩ := hcs
    simp only [if_true] at hmm
    simp only [Prod.mk.injEq] at hx
    obtain ⟨rfl, _⟩ := hx
    have hdl := bulk_len ((List.range len).map D)
    simp only [List.length_map, List.length_range] at hdl
    obtain ⟨q, hq⟩ := choose_lt (α := FG) (n := len) (p := fun i g => W.cells? 0 (a'.add (i * 5)) 5 = some [.int .i64 g.f.id, .int .i64 g.f.kd, .int .i64 g.f.ht, .int .i64 g.f.col, .slice g.a g.f.ps.length g.cap] ∧ PtsAt W.heap.size W g.a g.f.ps ∧ g.f.ps.length ≤ g.cap ∧ g.f.ps.length ≤ Rows.uptoBulk (D i)) (fun i hi => by
      obtain ⟨cs', h1, h2⟩ := hall i (by omega)
      rw [cells32] at h1
      obtain ⟨_, hlen, _⟩ := World.cells?_some h1
      obtain ⟨xs, k, _, hxy, _, hxl, hf⟩ := DataW.trod_struct Tryz.underlying32 h2
      match xs, hxl, cs', hlen with
      | [y0, y1, y2, y3, y4], _, [v0, v1, v2, v3, v4], _ =>
        have g0 := hf 0 _ rfl
        have g1 := hf 1 _ rfl
        have g2 := hf 2 _ rfl
        have g3 := hf 3 _ rfl
        have g4 := hf 4 _ rfl
        simp [cells3, cells30] at g0 g1 g2 g3 g4
        obtain ⟨z0, e0, _⟩ := DataW.trod_int Tryz.underlying3 g0
        obtain ⟨z1, e1, _⟩ := DataW.trod_int Tryz.underlying3 g1
        obtain ⟨z2, e2, _⟩ := DataW.trod_int Tryz.underlying3 g2
        obtain ⟨z3, e3, _⟩ := DataW.trod_int Tryz.underlying3 g3
        obtain ⟨pa, pc, ps, e4, hpc, hP, hb⟩ := open_places g4
        simp only [List.cons.injEq, and_true] at e0 e1 e2 e3
        subst e0 e1 e2 e3 e4
        simp only [Prod.mk.injEq] at hxy
        refine ⟨⟨⟨z0, z1, z2, z3, ps⟩, pa, pc⟩, h1, hP, hpc, ?_⟩
        rw [hxy.1]
        have := bulk_mem (d := y4.1) (l := [y0.1, y1.1, y2.1, y3.1, y4.1]) (by simp)
        simp only [List.map_cons, List.map_nil, Rows.uptoBulk]
        omega)
    have hlen : ((List.range len).map q).length = len := by simp
    refine ⟨some a', cap, (List.range len).map q, by rw [hlen], ?_, ?_, ?_⟩
    · by_cases h0 : len = 0
      · subst h0; exact .inl rfl
      · obtain ⟨c0, _⟩ := hq 0 (by omega)
        have hz := (World.cells?_some c0).2.2 0 (by omega)
        simp only [Nat.zero_mul, List.getElem?_cons_zero] at hz
        have ea : a' = ⟨a'.block, a'.off, none⟩ := addr_none (by simpa [Addr.add] using hz)
        generalize a'.block = b at ea
        generalize a'.off = o at ea
        subst ea
        rw [add_none, add_none] at hz
        refine .inr ⟨b, o, rfl, cell_lt hz, fun i g e => ?_⟩
        rw [List.getElem?_map, Option.map_eq_some_iff] at e
        obtain ⟨j, hj, e⟩ := e
        have hk : i < len := by
          have := List.getElem?_eq_some_iff.1 hj
          simpa using this.1
        obtain rfl : i = j := by rw [List.getElem?_range hk] at hj; exact Option.some.inj hj
        obtain ⟨hc, hP, hcap, hb⟩ := hq i hk
        rw [e] at hc hP hcap hb
        rw [add_none] at hc
        obtain ⟨_, _, hc⟩ := World.cells?_some hc
        have k0 := hc 0 (by omega)
        have k1 := hc 1 (by omega)
        have k2 := hc 2 (by omega)
        have k3 := hc 3 (by omega)
        have k4 := hc 4 (by omega)
        rw [add_none] at k0 k1 k2 k3 k4
        have hm := bulk_mem (d := D i) (l := (List.range len).map D) (List.mem_map.2 ⟨i, by simpa using hk, rfl⟩)
        simp only [Rows.uptoBulk] at hd
        exact ⟨by simpa using k0, by simpa using k1, by simpa using k2, by simpa using k3, by simpa using k4, hP, hcap, by omega⟩
    · rw [hlen]
      simp only [Rows.uptoBulk]
      omega
    · intro g hg
      obtain ⟨i, hi, rfl⟩ := List.mem_map.1 hg
      obtain ⟨_, _, hcap, hb⟩ := hq i (by simpa using hi)
      have := bulk_mem (d := D i) (l := (List.range len).map D) (List.mem_map.2 ⟨i, hi, rfl⟩)
      simp only [Rows.uptoBulk]
      omega

end
end Go.Proofs.YtcgpdfefnmhnhaaGreatDoor
namespace Go.Proofs.YtcgpdfefnmhnhaaGreatDoor
open Go.ChangeShapes Go.WideShapes Go.ChangeAt Go.RowKit

theorem own : ownKnob Tryz.prog.godebug = none := by kernel_rfl
theorem gTab : Tryz.prog.globalNamed "math/bits.deBruijn64tab" = some 3 := by kernel_rfl
theorem gTabType : (Tryz.prog.globals[3]?).map (·.type) = some 159 := by kernel_rfl
theorem cells159 : Tryz.prog.cellsOf 159 = 64 := by kernel_rfl
theorem cells5 : Tryz.prog.cellsOf 5 = 1 := by kernel_rfl
theorem laidOut : laidOutB Tryz.prog = true := by kernel_rfl

def tab64 : List Int := [0, 1, 56, 2, 57, 49, 28, 3, 61, 58, 42, 50, 38, 29, 17, 4, 62, 47, 59, 36, 45, 43, 51, 22, 53, 39, 33, 30, 24, 18, 12, 5, 63, 55, 48, 27, 60, 41, 37, 16, 46, 35, 44, 21, 52, 32, 23, 11, 54, 26, 40, 15, 34, 20, 31, 10, 25, 14, 19, 9, 13, 8, 7, 6]

/-- What the row's list gives: the table's cells hold its numbers. -/
theorem table {W : World} (h : laidMetH Tryz.prog Rows.drawsUptoRow.laid W) : Lib.TabIs Tryz.prog W "math/bits.deBruijn64tab" .u8 tab64 := by
  have h := laidMetH.filter (fun x => x.1 == "math/bits.deBruijn64tab") h
  exact Lib.tabIs_of_head (rest := []) gTab gTabType Tryz.underlying159 Tryz.underlying5 cells5 cells159 h
theorem tab15 : tab64.getD 15 0 = 4 := by kernel_rfl
theorem cell15 {W : World} (h : laidMetH Tryz.prog Rows.drawsUptoRow.laid W) : W.cell? ⟨3, 15, none⟩ = some (.int .u8 4) := by
  have t := (table h).cell gTab 15 (by simp [tab64])
  rw [tab15] at t
  exact t

set_option maxRecDepth 100000 in
/-- A tile, as it is read. -/
theorem open_tile {H : Type} {enc : TypeId × Value → H} {W : World} {v : Value} {d : DataW H} {p : List MemPlace} {r : Reach} {b0 : Nat} (hv : Value.okWide Tryz.prog W r b0 24 v) (h : DataW.Trod enc Tryz.prog W 0 (fun _ => true) true 24 v d p) :
    ∃ x y z : Int, v = .agg #[.int .i64 x, .int .i64 y, .int .i64 z] := by
  obtain ⟨v0, v1, v2, y0, y1, y2, n, rfl, _, _, h0, h1, h2⟩ := Joins.open_agg3 Tryz.underlying24 (by kernel_rfl) cells24 hv h
  obtain ⟨z0, e0, _⟩ := DataW.trod_int Tryz.underlying3 h0
  obtain ⟨z1, e1, _⟩ := DataW.trod_int Tryz.underlying3 h1
  obtain ⟨z2, e2, _⟩ := DataW.trod_int Tryz.underlying3 h2
  simp only [List.cons.injEq, and_true] at e0 e1 e2
  subst e0 e1 e2
  exact ⟨z0, z1, z2, rfl⟩

set_option maxRecDepth 100000 in
theorem contract (H : Type) (enc : TypeId × Value → H) (W : World) (base : Nat) (args : Array Value) (ds gs : List (DataW H)) (before : List MemPlace)
    (hval : ∀ (j : Nat) t v, Tryz.f3.params[j]? = some t → args[j]? = some v → Value.okWide Tryz.prog W .any base t v)
    (hW : DataW.Whole enc Tryz.prog Tryz.f3.params.toList Rows.drawsSpec.vars false W args.toList ds gs before) (hcond : Rows.uptoSmall H (ds ++ gs) = true) (hL : laidMetH Tryz.prog Rows.drawsUptoRow.laid W) :
    Calls Tryz.prog 3 args W fun e W' => ∃ v, e = .returned v ∧ Rows.drawsSpec.post enc Tryz.prog Tryz.f3 false true false false W args v W' := by
  have hW' := hW
  have hlt := hW.lt
  obtain ⟨p, q, hA0, hV, rfl, hfz, hnd⟩ := hW
  have hA : DataW.TrodAll enc Tryz.prog W 0 (fun _ => true) true Tryz.f3.params.toList args.toList ds p := hA0
  rw [Tryz.params3] at hA hval
  obtain ⟨v0, v1, v2, v3, d0, d1, d2, d3, p0, p1, p2, p3, rfl, rfl, rfl, h0, h1, h2, h3⟩ := trodAll_four hA
  obtain ⟨rfl, rfl⟩ := trodVars_none hV
  have hb : Rows.uptoBulk d0 ≤ 1048576 ∧ Rows.uptoBulk d2 ≤ 1048576 := by
    simp only [Rows.uptoSmall, List.cons_append, List.nil_append, Rows.uptoBulkAll, decide_eq_true_eq] at hcond
    omega
  obtain ⟨a, cap, l, rfl, hf, hn, hk⟩ := open_feats (hval 0 22 v0 rfl rfl) h0 hb.1
  obtain ⟨a', cap', l', rfl, hf', hn', hk'⟩ := open_feats (hval 2 22 v2 rfl rfl) h2 hb.2
  obtain ⟨z, c, r, rfl⟩ := open_tile (hval 1 24 v1 rfl rfl) h1
  obtain ⟨z', c', r', rfl⟩ := open_tile (hval 3 24 v3 rfl rfl) h3
  have ht := cell15 hL
  refine (Draws_any a a' l.length l'.length cap cap' l l' z c r z' c' r' W hf rfl (by omega) (fun g hg => by have := hk g hg; omega) hf' rfl (by omega) (fun g hg => by have := hk' g hg; omega) ht (cell_lt ht)).mono fun e W' ⟨he, hg⟩ => ?_
  subst he
  refine ⟨_, rfl, [d0, d1, d2, d3], [], _, [], p0 ++ (p1 ++ (p2 ++ p3)), [], hW', trodAll_cons_mk (shut_bool Tryz.underlying4 _) trodAll_mk0, ?_, rfl, hg.frame _, fun h => by cases h⟩
  have hl : ∀ x, x ∈ p0 ∨ x ∈ p1 ∨ x ∈ p2 ∨ x ∈ p3 → x.block < W.heap.size := fun x hx => hlt x (by rcases hx with h | h | h | h <;> simp [h])
  rw [Tryz.params3]
  exact trodAll_mk4 (Below.trod laidOut (by kernel_rfl) (of_decide_eq_true (by kernel_rfl)) h0 hg (fun x hx => hl x (.inl hx)))
    (Below.trod laidOut (by kernel_rfl) (of_decide_eq_true (by kernel_rfl)) h1 hg (fun x hx => hl x (.inr (.inl hx))))
    (Below.trod laidOut (by kernel_rfl) (of_decide_eq_true (by kernel_rfl)) h2 hg (fun x hx => hl x (.inr (.inr (.inl hx)))))
    (Below.trod laidOut (by kernel_rfl) (of_decide_eq_true (by kernel_rfl)) h3 hg (fun x hx => hl x (.inr (.inr (.inr hx)))))

def withTab (k : IntKind) (zs : List Int) : Obj → Obj
  | .cells _ t frozen => .cells (zs.map fun z => Value.int k z).toArray t frozen
  | o => o
/-- A world for the witness: the settled one, the three tables holding what their initialisers lay. -/
noncomputable def laidWorld (os : Os) : World :=
  { World.holding Tryz.prog os ⟨#[], #[], []⟩ with heap := (((World.holding Tryz.prog os ⟨#[], #[], []⟩).heap.modify 0 (withTab .u64 ((List.range 20).map fun i => 10 ^ i))).modify 2 (withTab .u8 [0, 1, 28, 2, 29, 14, 24, 3, 30, 22, 20, 15, 25, 17, 4, 8, 31, 27, 13, 23, 21, 19, 16, 7, 26, 12, 18, 6, 11, 5, 10, 9])).modify 3 (withTab .u8 tab64) }
def noughts : Array Value := #[.slice none 0 0, .agg #[.int .i64 0, .int .i64 0, .int .i64 0], .slice none 0 0, .agg #[.int .i64 0, .int .i64 0, .int .i64 0]]
theorem laid_met (os : Os) : laidMet Tryz.prog Rows.drawsUptoRow.laid ((laidWorld os).forCall (fun _ _ => 0) ⟨#[], noughts, []⟩).memory :=
  laidMet_of_run' 8 (by kernel_rfl) (by kernel_rfl)
theorem reads (os : Os) {H : Type} (enc : TypeId × Value → H) : ∃ places, DataW.whole enc Tryz.prog ((laidWorld os).forCall (fun _ _ => 0) ⟨#[], noughts, []⟩).memory Tryz.f3.params.toList Rows.drawsSpec.vars false noughts.toList 8 = some ([.nil, .agg [.lit (.int .i64 0), .lit (.int .i64 0), .lit (.int .i64 0)], .nil, .agg [.lit (.int .i64 0), .lit (.int .i64 0), .lit (.int .i64 0)]], [], places) :=
  ⟨[], by kernel_rfl⟩

set_option maxRecDepth 100000 in
theorem lifted (os : Os) (started : os.Started) (H : Type) (enc : TypeId × Value → H) (F : Stop.Interp) :
    ReturnsInHanded {} Tryz.checked os 3 .any ((Rows.OpenSpec.upto Rows.drawsSpec).preRow enc Tryz.prog Tryz.f3 Rows.drawsUptoRow.domain false Rows.drawsUptoRow.laid) (((Rows.OpenSpec.upto Rows.drawsSpec).at F).post enc Tryz.prog Tryz.f3 false true false false) := by
  obtain ⟨places, hx⟩ := reads os enc
  refine returnsInHanded_of_row (C := Tryz.checked) (s := Rows.OpenSpec.upto Rows.drawsSpec) own started (by kernel_rfl) Tryz.func3
    (witness_row_at (enc := enc) (C := Tryz.checked) false (laidWorld os) noughts rfl (by kernel_rfl) (by kernel_rfl) (by kernel_rfl)
      (OpenSpec.preRow_of_cond 8 hx (by kernel_rfl) (fun k hk => by cases hk; kernel_rfl) (by kernel_rfl) (laid_met os))) ?_
  intro W base args ds gs before hval hW _ hcond _ hL _ _
  exact contract H enc W base args ds gs before hval hW (hcond _ rfl) hL

theorem said : Rows.DrawsUptoSaid :=
  OpenClaim.holds_of_cond 3 Tryz.f3 rfl rfl rfl rfl rfl rfl rfl ⟨rfl, rfl, rfl, rfl, rfl⟩ rfl rfl rfl rfl rfl (by kernel_rfl) Tryz.func3 (by kernel_rfl)
    (of_decide_eq_true (by kernel_rfl)) (by unfold Func.isWrapper; first | (rw [if_pos (by decide +kernel)]; kernel_rfl) | (rw [if_neg (by decide +kernel)]; exact ⟨rfl, rfl⟩))
    (fun os started H enc _ F => by rw [OpenClaim.pre_eq_preRow]; exact lifted os started H enc F)

theorem plain (f : FuncId) (fn : Func) (hf : Tryz.pinned.checked.prog.funcNamed "atlas/atlaslaw.Draws" = some f) (hfn : Tryz.pinned.checked.prog.funcs[f]? = some fn) :
    false = Tryz.pinned.checked.prog.looks [] ∧ ∀ (j : Nat) t, fn.params[j]? = some t → Tryz.pinned.checked.prog.wantsStandIn t = false := by
  obtain rfl : f = 3 := Option.some.inj ((show Tryz.prog.funcNamed "atlas/atlaslaw.Draws" = some 3 by kernel_rfl).symm.trans hf) |>.symm
  obtain rfl : fn = Tryz.f3 := (Option.some.inj (Tryz.func3.symm.trans hfn)).symm
  refine ⟨by kernel_rfl, fun j t ht => ?_⟩
  rw [Tryz.params3] at ht
  have hm : t ∈ [22, 24] := by
    have := Array.mem_of_getElem? ht
    simp only [List.mem_toArray, List.mem_cons, List.not_mem_nil, or_false] at this ⊢
    rcases this with h | h | h | h
    · exact .inl h
    · exact .inr h
    · exact .inl h
    · exact .inr h
  have hall : ([22, 24].all fun u => !Tryz.prog.wantsStandIn u) = true := by kernel_rfl
  exact (show Tryz.prog.wantsStandIn t = false by simpa using List.all_eq_true.1 hall t hm)

theorem draws_card : Rows.DrawsUptoCardSaid :=
  Claim7.holds_tied_plain_at .later [] _ _ _ _ said (fun _ h => by cases h) (by kernel_rfl) (fun _ h => by cases h) drawsUpto_row_tie rfl ⟨rfl, rfl⟩ (by kernel_rfl) rfl plain (by kernel_rfl)
#print axioms draws_card

end Go.Proofs.YtcgpdfefnmhnhaaGreatDoor
