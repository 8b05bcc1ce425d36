import Derived.Test.YtenaepdmlknlcaaGreatDoorE37
import Derived.Test.YtenaepdmlknlcaaGreatDoorCards
import Derived.Test.YtenaepdmlknlcaaGreatDoorTie
import Derived.Deep.SlicePairs
import Derived.Lib.SmallJoins
import Derived.KernelRfl
import Derived.ProofKit
import Derived.OpenShut
import Derived.Carry
import Derived.Deep.DeepHandedRow
import Derived.Lib.LaidTab
import Derived.Test.YtenaepdmlknlcaaGreatDoorE22
import Derived.Test.YtenaepdmlknlcaaGreatDoorE24
namespace Go.Proofs.YtenaepdmlknlcaaGreatDoor
open Go.ChangeShapes Go.WideShapes Go.ChangeAt Go.RowKit Go.Deep

/-! What the rows' own lists say of the package-level variables. -/
theorem own : ownKnob Tryz.prog.godebug = none := by kernel_rfl
theorem laidOut : laidOutB Tryz.prog = true := by kernel_rfl
theorem gTab : Tryz.prog.globalNamed "math/bits.deBruijn64tab" = some 3 := by kernel_rfl
theorem gTabType : (Tryz.prog.globals[3]?).map (·.type) = some 315 := by kernel_rfl
theorem gPow : Tryz.prog.globalNamed "internal/strconv.uint64pow10" = some 0 := by kernel_rfl
theorem gPowType : (Tryz.prog.globals[0]?).map (·.type) = some 279 := by kernel_rfl
theorem gSyn : Tryz.prog.globalNamed "strconv.ErrSyntax" = some 6 := by kernel_rfl
theorem gSynType : (Tryz.prog.globals[6]?).map (·.type) = some 202 := by kernel_rfl
theorem gRng : Tryz.prog.globalNamed "strconv.ErrRange" = some 7 := by kernel_rfl
theorem gRngType : (Tryz.prog.globals[7]?).map (·.type) = some 202 := by kernel_rfl
theorem cells315 : Tryz.prog.cellsOf 315 = 64 := by kernel_rfl
theorem cells279 : Tryz.prog.cellsOf 279 = 20 := by kernel_rfl
theorem cells5 : Tryz.prog.cellsOf 5 = 1 := by kernel_rfl
def tab64 : List Int := [0, 1, 56, 2, 57, 49, 28, 3, 61, 58, 42, 50, 38, 29, 17, 4, 62, 47, 59, 36, 45, 43, 51, 22, 53, 39, 33, 30, 24, 18, 12, 5, 63, 55, 48, 27, 60, 41, 37, 16, 46, 35, 44, 21, 52, 32, 23, 11, 54, 26, 40, 15, 34, 20, 31, 10, 25, 14, 19, 9, 13, 8, 7, 6]
def tab20 : List Int := [1, 10, 100, 1000, 10000, 100000, 1000000, 10000000, 100000000, 1000000000, 10000000000, 100000000000, 1000000000000, 10000000000000, 100000000000000, 1000000000000000, 10000000000000000, 100000000000000000, 1000000000000000000, 10000000000000000000]
theorem tab20_eq : tab20 = Lib.pow10Tab := by decide +kernel
theorem tab15 : tab64.getD 15 0 = 4 := by kernel_rfl
theorem int_of_shape {P : Program} {w : World} {g : Nat} {t : TypeId} {zero : Array Value} (h : w.ShapedOpen P) (hg : g < P.globals.size)
    (h0 : ((begin P (fun _ _ => 0) default).world.heap[g]?).bind Obj.row? = some (zero, t)) (hz : zero.size = 1) (hb : P.buildable t = true) (hc : P.cellTypes P.depth t = some [t]) (hu : P.underlying t = some (.int .i64)) : ∃ m, w.cell? ⟨g, 0, none⟩ = some (.int .i64 m) := by
  obtain ⟨cs, h1, h2, h3⟩ := h.1 g zero t hg h0
  obtain ⟨ts, h4, _, h5⟩ := h3 hb
  obtain rfl : ts = [t] := Option.some.inj (h4.symm.trans hc)
  have hlt : 0 < cs.size := by omega
  obtain ⟨u, h6, h7⟩ := h5 0 cs[0] (Array.getElem?_eq_getElem hlt)
  obtain rfl : u = t := by simpa using h6.symm
  have hcell : w.cell? ⟨g, 0, none⟩ = some cs[0] := by simp [World.cell?, h1, hlt]
  rw [hcell]
  generalize cs[0] = c at h7
  unfold Cell.ok at h7
  rw [hu] at h7
  cases c <;> simp at h7
  exact ⟨_, by rw [h7.1]⟩
theorem iface_cell {W : World} {n : String} {g : Nat} {nm : String} {d : DataW Unit} (hg : Tryz.prog.globalNamed n = some g) (hty : (Tryz.prog.globals[g]?).map (·.type) = some 202) (h : laidMet Tryz.prog [(n, .iface nm d)] W) : ∃ te pe, W.cell? ⟨g, 0, none⟩ = some (.iface te pe) := by
  obtain ⟨ps, ⟨g', t', cs, fuel, p, q, hg', ht', hvar, hd, _, _⟩, _⟩ := h
  obtain rfl := Option.some.inj (hg.symm.trans hg')
  obtain rfl := Option.some.inj (hty.symm.trans ht')
  obtain ⟨_, u, v, e, _, _⟩ := iface_of_trod Tryz.underlying202 hd
  refine ⟨u, v, ?_⟩
  rw [World.var?_cell hg hvar 0]
  have : cs = #[.iface u v] := by
    apply Array.toList_inj.1
    rw [e]
  rw [this]; rfl
/-- The package-level variables, as every row of the sessions has them. -/
theorem gl_of {W : World} (h : laidMetH Tryz.prog Rows.fairUptoRow.laid W) (hsh : W.ShapedOpen Tryz.prog) : Gl W := by
  have h64 : Lib.TabIs Tryz.prog W "math/bits.deBruijn64tab" .u8 tab64 :=
    Lib.tabIs_of_head (rest := []) gTab gTabType Tryz.underlying315 Tryz.underlying5 cells5 cells315 (laidMetH.filter (fun x => x.1 == "math/bits.deBruijn64tab") h)
  have h20 : Lib.TabIs Tryz.prog W "internal/strconv.uint64pow10" .u64 tab20 :=
    Lib.tabIs_of_head (rest := []) gPow gPowType Tryz.underlying279 (by kernel_rfl) (by kernel_rfl) cells279 (laidMetH.filter (fun x => x.1 == "internal/strconv.uint64pow10") h)
  obtain ⟨te, pe, h6⟩ := iface_cell gSyn gSynType (laidMetH.filter (fun x => x.1 == "strconv.ErrSyntax") h)
  obtain ⟨te', pe', h7⟩ := iface_cell gRng gRngType (laidMetH.filter (fun x => x.1 == "strconv.ErrRange") h)
  have hm : ∃ m, W.cell? ⟨1, 0, none⟩ = some (.int .i64 m) := int_of_shape (zero := #[.int .i64 0]) hsh (of_decide_eq_true (by kernel_rfl)) (by kernel_rfl) rfl (by kernel_rfl) (by kernel_rfl) Tryz.underlying3
  have t := h64.cell gTab 15 (by simp [tab64])
  rw [tab15] at t
  rw [tab20_eq] at h20
  exact ⟨World.block_lt_of_cell? W ⟨7, 0, none⟩ h7, hm, t, ⟨te, pe, h6⟩, ⟨te', pe', h7⟩, h20⟩

/-! The arguments, opened. -/
section
variable {H : Type} {enc : TypeId × Value → H} {W : World}
theorem cells3 : Tryz.prog.cellsOf 3 = 1 := by kernel_rfl
theorem cells50 : Tryz.prog.cellsOf 50 = 1 := by kernel_rfl
theorem cells52 : Tryz.prog.cellsOf 52 = 6 := by kernel_rfl
theorem cells120 : Tryz.prog.cellsOf 120 = 8 := by kernel_rfl
theorem bytes120 : Tryz.prog.bytesOf 120 = 80 := by kernel_rfl
theorem add_none (b off k : Nat) : (⟨b, off, none⟩ : Addr).add k = ⟨b, off + k, none⟩ := by
  unfold Addr.add
  split
  · rename_i h; subst h; rfl
  · rfl
theorem addr_none {a : Addr} {v : Value} (h : W.cell? a = some v) : a = ⟨a.block, a.off, none⟩ := by
  obtain ⟨b, o, s⟩ := a
  cases s with
  | none => rfl
  | some x =>
    unfold World.cell? at h
    split at h <;> simp at h
theorem int_wf {n : Int} (h : (Lit.int .i64 n).wf = true) : i64 n := by
  unfold i64
  have e1 : IntKind.min .i64 = -9223372036854775808 := by decide +kernel
  have e2 : IntKind.max .i64 = 9223372036854775807 := by decide +kernel
  simp only [Lit.wf, Bool.and_eq_true, decide_eq_true_eq, e1, e2] at h
  exact h
instance : Inhabited Int := ⟨0⟩
/-- Raw places, as they are read. -/
theorem open_raw {fuel : Nat} {v : Value} {x : DataW H × List MemPlace} (h : DataW.trod enc Tryz.prog W 0 (fun _ => true) true fuel 50 [v] = some x) :
    ∃ (a : Option Addr) (cap : Nat) (ps : List Int), v = .slice a ps.length cap ∧ RawU W W.heap.size a ps.length ps ∧ ∀ x ∈ ps, i64 x := by
  rcases open_slice Tryz.underlying50 h with ⟨hcs, _⟩ | ⟨a, len, cap, m, n, D, Pl, hcs, _, hl, _, hmm, _, hall⟩
  · simp only [List.cons.injEq, and_true] at hcs
    exact ⟨none, 0, [], hcs, ⟨rfl, .inl rfl⟩, fun x hx => by cases hx⟩
  · simp only [List.cons.injEq, and_true] at hcs
    simp only [if_true] at hmm
    obtain ⟨q, hq⟩ := choose_lt (α := Int) (n := len) (p := fun i q => W.cell? (a.add i) = some (.int .i64 q) ∧ i64 q) (fun i hi => by
      obtain ⟨cs', h1, h2⟩ := hall i (by omega)
      rw [cells3] at h1
      obtain ⟨z, e, _, hwf⟩ := DataW.trod_int Tryz.underlying3 h2
      subst e
      have := (World.cells?_some h1).2.2 0 (by omega)
      simp only [Nat.mul_one, List.getElem?_cons_zero] at this
      exact ⟨z, by simpa [Addr.add] using this, int_wf hwf⟩)
    have hlen : ((List.range len).map q).length = len := by simp
    refine ⟨some a, cap, (List.range len).map q, by rw [hlen]; exact hcs, ⟨rfl, ?_⟩, fun x hx => ?_⟩
    · by_cases h0 : len = 0
      · subst h0; exact .inl rfl
      · have c0 := (hq 0 (by omega)).1
        have ea : a = ⟨a.block, a.off, none⟩ := addr_none (by simpa [Addr.add] using c0)
        generalize a.block = b at ea
        generalize a.off = o at ea
        subst ea
        rw [add_none] at c0
        refine .inr ⟨b, o, rfl, World.block_lt_of_cell? W _ c0, fun k x e => ?_⟩
        rw [List.getElem?_map, Option.map_eq_some_iff] at e
        obtain ⟨i, hi, e⟩ := e
        have hk : k < len := by
          have := List.getElem?_eq_some_iff.1 hi
          simpa using this.1
        obtain rfl : k = i := by rw [List.getElem?_range hk] at hi; exact Option.some.inj hi
        have := (hq k hk).1
        rw [e, add_none] at this
        exact this
    · obtain ⟨i, hi, rfl⟩ := List.mem_map.1 hx
      exact (hq i (by simpa using hi)).2
/-- A request, as it is read. -/
theorem open_req {fuel : Nat} {v0 v1 v2 v3 v4 v5 : Value} {x : DataW H × List MemPlace} (h : DataW.trod enc Tryz.prog W 0 (fun _ => true) true fuel 52 [v0, v1, v2, v3, v4, v5] = some x) :
    ∃ (q : Rq) (pa : Option Addr) (pc : Nat), v0 = .int .i64 q.k ∧ v1 = .int .i64 q.a ∧ v2 = .int .i64 q.b ∧ v3 = .int .i64 q.c ∧ v4 = .int .i64 q.d ∧ v5 = .slice pa q.ps.length pc ∧ RqOk q ∧ RawU W W.heap.size pa q.ps.length q.ps := by
  obtain ⟨xs, k, _, _, _, hxl, hf⟩ := DataW.trod_struct Tryz.underlying52 h
  match xs, hxl with
  | [y0, y1, y2, y3, y4, y5], _ =>
    have g0 := hf 0 _ rfl
    have g1 := hf 1 _ rfl
    have g2 := hf 2 _ rfl
    have g3 := hf 3 _ rfl
    have g4 := hf 4 _ rfl
    have g5 := hf 5 _ rfl
    simp [cells3, cells50] at g0 g1 g2 g3 g4 g5
    obtain ⟨z0, e0, _, w0⟩ := DataW.trod_int Tryz.underlying3 g0
    obtain ⟨z1, e1, _, w1⟩ := DataW.trod_int Tryz.underlying3 g1
    obtain ⟨z2, e2, _, w2⟩ := DataW.trod_int Tryz.underlying3 g2
    obtain ⟨z3, e3, _, w3⟩ := DataW.trod_int Tryz.underlying3 g3
    obtain ⟨z4, e4, _, w4⟩ := DataW.trod_int Tryz.underlying3 g4
    obtain ⟨pa, pc, ps, e5, hr, hi⟩ := open_raw g5
    simp only [List.cons.injEq, and_true] at e0 e1 e2 e3 e4
    exact ⟨⟨z0, z1, z2, z3, z4, ps⟩, pa, pc, e0, e1, e2, e3, e4, e5, ⟨int_wf w0, int_wf w1, int_wf w2, int_wf w3, int_wf w4, hi⟩, hr⟩
instance : Inhabited Stt := ⟨⟨0, 0, ⟨0, 0, 0, 0, 0, []⟩, none, 0, 0⟩⟩
set_option maxRecDepth 100000 in
/-- A script, as it is read. -/
theorem open_script {v : Value} {d : DataW H} {p : List MemPlace} {r : Reach} {b0 : Nat} (hv : Value.okWide Tryz.prog W r b0 71 v) (h : DataW.Trod enc Tryz.prog W 0 (fun _ => true) true 71 v d p) :
    ∃ (a : Option Addr) (cap : Nat) (l : List Stt), v = .slice a l.length cap ∧ ScrAt W W.heap.size a l ∧ ((∀ y ∈ d.weights Tryz.prog 71, y ≤ reachBytes) → l.length ≤ 2199023255488) ∧ l.length ≤ cap := by
  obtain ⟨a, len, cap, rfl⟩ := okWide_slice Tryz.underlying71 hv
  obtain ⟨fuel, h⟩ := h
  rcases open_slice Tryz.underlying71 h with ⟨hcs, hx⟩ | ⟨a', len', cap', m, n, D, Pl, hcs, _, hl, _, hmm, hx, hall⟩
  · simp only [Value.cells, List.cons.injEq, and_true, Value.slice.injEq] at hcs
    obtain ⟨rfl, rfl, rfl⟩ := hcs
    exact ⟨none, 0, [], rfl, .inl rfl, fun _ => by simp, by simp⟩
  · simp only [Value.cells, List.cons.injEq, and_true, Value.slice.injEq] at hcs
    obtain ⟨rfl, rfl, rfl⟩ := hcs
    simp only [if_true] at hmm
    simp only [Prod.mk.injEq] at hx
    obtain ⟨rfl, _⟩ := hx
    obtain ⟨q, hq⟩ := choose_lt (α := Stt) (n := len) (p := fun i s => W.cells? 0 (a'.add (i * 8)) 8 = some [.int .i64 s.snd, .int .i64 s.n, .int .i64 s.q.k, .int .i64 s.q.a, .int .i64 s.q.b, .int .i64 s.q.c, .int .i64 s.q.d, .slice s.pa s.pn s.pc] ∧ i64 s.snd ∧ i64 s.n ∧ RqOk s.q ∧ RawU W W.heap.size s.pa s.pn s.q.ps) (fun i hi => by
      obtain ⟨cs', h1, h2⟩ := hall i (by omega)
      rw [cells120] at h1
      obtain ⟨_, hlen, _⟩ := World.cells?_some h1
      obtain ⟨xs, k, _, _, _, hxl, hf⟩ := DataW.trod_struct Tryz.underlying120 h2
      match xs, hxl, cs', hlen with
      | [y0, y1, y2], _, [v0, v1, v2, v3, v4, v5, v6, v7], _ =>
        have g0 := hf 0 _ rfl
        have g1 := hf 1 _ rfl
        have g2 := hf 2 _ rfl
        simp [cells3, cells52] at g0 g1 g2
        obtain ⟨z0, e0, _, w0⟩ := DataW.trod_int Tryz.underlying3 g0
        obtain ⟨z1, e1, _, w1⟩ := DataW.trod_int Tryz.underlying3 g1
        obtain ⟨rq, pa, pc, e2, e3, e4, e5, e6, e7, hq, hr⟩ := open_req g2
        simp only [List.cons.injEq, and_true] at e0 e1
        subst e0 e1 e2 e3 e4 e5 e6 e7
        exact ⟨⟨z0, z1, rq, pa, rq.ps.length, pc⟩, h1, int_wf w0, int_wf w1, hq, hr⟩)
    have hlen : ((List.range len).map q).length = len := by simp
    refine ⟨some a', cap, (List.range len).map q, by rw [hlen], ?_, ?_, by rw [hlen]; exact hl⟩
    · by_cases h0 : len = 0
      · subst h0; exact .inl rfl
      · obtain ⟨c0, _⟩ := hq 0 (by omega)
        have hz := (World.cells?_some c0).2.2 0 (by omega)
        simp only [Nat.zero_mul, List.getElem?_cons_zero] at hz
        have ea : a' = ⟨a'.block, a'.off, none⟩ := addr_none (by simpa [Addr.add] using hz)
        generalize a'.block = b at ea
        generalize a'.off = o at ea
        subst ea
        rw [add_none, add_none] at hz
        refine .inr ⟨b, o, rfl, World.block_lt_of_cell? W _ hz, fun i s e => ?_⟩
        rw [List.getElem?_map, Option.map_eq_some_iff] at e
        obtain ⟨j, hj, e⟩ := e
        have hk : i < len := by
          have := List.getElem?_eq_some_iff.1 hj
          simpa using this.1
        obtain rfl : i = j := by rw [List.getElem?_range hk] at hj; exact Option.some.inj hj
        obtain ⟨hc, h1, h2, h3, h4⟩ := hq i hk
        rw [e] at hc h1 h2 h3 h4
        rw [add_none] at hc
        obtain ⟨_, _, hc⟩ := World.cells?_some hc
        have k0 := hc 0 (by omega)
        have k1 := hc 1 (by omega)
        have k2 := hc 2 (by omega)
        have k3 := hc 3 (by omega)
        have k4 := hc 4 (by omega)
        have k5 := hc 5 (by omega)
        have k6 := hc 6 (by omega)
        have k7 := hc 7 (by omega)
        rw [add_none] at k0 k1 k2 k3 k4 k5 k6 k7
        exact ⟨by simpa using k0, by simpa using k1, by simpa using k2, by simpa using k3, by simpa using k4, by simpa using k5, by simpa using k6, by simpa using k7, h1, h2, h3, h4⟩
    · intro hw
      rw [hlen]
      simp only [DataW.weights, Tryz.underlying71, bytes120] at hw
      have hdl := hw _ List.mem_cons_self
      simp only [List.length_map, List.length_range, reachBytes] at hdl
      omega
end

/-! A world in which the rows' lists hold. -/
def withTab (k : IntKind) (zs : List Int) : Obj → Obj
  | .cells _ t frozen => .cells (zs.map fun z => Value.int k z).toArray t frozen
  | o => o
def withOne (v : Value) : Obj → Obj
  | .cells _ t frozen => .cells #[v] t frozen
  | o => o
def intsD : DataW Unit → List Int
  | .agg l => l.flatMap fun
    | .lit (.int _ z) => [z]
    | .agg m => m.flatMap fun
      | .lit (.int _ z) => [z]
      | _ => []
    | _ => []
  | _ => []
noncomputable def baseW (os : Os) : World := World.holding Tryz.prog os ⟨#[], #[], []⟩
/-- The settled world, its tables and its two errors as their initialisers lay them. -/
noncomputable def laidWorld (os : Os) : World :=
  { baseW os with heap := (((((((((baseW os).heap.modify 0 (withTab .u64 (intsD Rows.laid_internal_strconv_uint64pow10))).modify 2 (withTab .u8 (intsD Rows.laid_math_bits_deBruijn32tab))).modify 3 (withTab .u8 (intsD Rows.laid_math_bits_deBruijn64tab))).modify 4 (withTab .u8 (intsD Rows.laid_unicode_utf8_first))).modify 5 (withTab .u8 (intsD Rows.laid_unicode_utf8_acceptRanges))).modify 6 (withOne (.iface 362 (.pointer (some ⟨(baseW os).heap.size, 0, none⟩))))).modify 7 (withOne (.iface 362 (.pointer (some ⟨(baseW os).heap.size + 1, 0, none⟩))))).push (.cells #[.string ⟨#[105, 110, 118, 97, 108, 105, 100, 32, 115, 121, 110, 116, 97, 120]⟩] 364)).push (.cells #[.string ⟨#[118, 97, 108, 117, 101, 32, 111, 117, 116, 32, 111, 102, 32, 114, 97, 110, 103, 101]⟩] 364) }

end Go.Proofs.YtenaepdmlknlcaaGreatDoor

namespace Go.Proofs.YtenaepdmlknlcaaGreatDoor
open Go.RowKit Go.Shelf

/-! What is seen in a tile: the features that meet its square, and no others. -/
theorem body_congr {us vs : List FV} {p c r : Int} (h : ∀ k, k < 64 → colR us p c r k = colR vs p c r k) : bodyR us p c r = bodyR vs p c r := by
  unfold bodyR
  rw [fin_stN, fin_stN]
  congr 3
  exact List.map_congr_left fun k hk => h k (by simpa using hk)
def sqF (t : Tl) (f : Feat) : Bool := meetBx (squareZ t) (boxZ f.ps)
theorem pix_square {t : Tl} (_h : t.good) {k : Nat} (hk : k < 64) {v : FV} (hm : meetF (pixZ (pZ t.z) t.c t.r k) v = true) : sqF t v.f = true := by
  have hp : 0 < pZ t.z := by unfold pZ; split <;> (try split) <;> (try split) <;> omega
  unfold meetF meetsB pixZ at hm
  unfold sqF meetBx meetsB squareZ
  rw [decide_eq_true_eq] at hm ⊢
  dsimp only at hm ⊢
  obtain ⟨h1, h2, h3, h4⟩ := hm
  have b1 : 0 ≤ (k : Int) % 8 * pZ t.z := Int.mul_nonneg (by omega) (by omega)
  have b2 : 0 ≤ (k : Int) / 8 * pZ t.z := Int.mul_nonneg (by omega) (by omega)
  have b3 : (k : Int) % 8 * pZ t.z ≤ 7 * pZ t.z := Int.mul_le_mul_of_nonneg_right (by omega) (by omega)
  have b4 : (k : Int) / 8 * pZ t.z ≤ 7 * pZ t.z := Int.mul_le_mul_of_nonneg_right (by omega) (by omega)
  refine ⟨by omega, by omega, by omega, by omega⟩
theorem pix_order {p c r : Int} (hp : 0 ≤ p) (k : Nat) : (pixZ p c r k).l ≤ (pixZ p c r k).r ∧ (pixZ p c r k).t ≤ (pixZ p c r k).b := by
  simp only [pixZ]; omega
theorem body_filter {fs : List Feat} (hv : ∀ f ∈ fs, validF f = true) {t : Tl} (h : t.good) : bodyF fs t = bodyF (fs.filter (sqF t)) t := by
  have hp : 0 ≤ pZ t.z := by unfold pZ; split <;> (try split) <;> (try split) <;> omega
  unfold bodyF bodyL
  congr 2
  apply body_congr
  intro k hk
  obtain ⟨o1, o2⟩ := pix_order (c := t.c) (r := t.r) hp k
  unfold colR
  rw [← top_filter _ (fs.map mkV) (fun v hv' => by obtain ⟨f, hf, rfl⟩ := List.mem_map.1 hv'; exact hv f hf) o1 o2,
    ← top_filter _ ((fs.filter (sqF t)).map mkV) (fun v hv' => by obtain ⟨f, hf, rfl⟩ := List.mem_map.1 hv'; exact hv f (List.mem_filter.1 hf).1) o1 o2]
  congr 3
  rw [List.filter_map, List.filter_map, List.filter_filter]
  congr 1
  apply List.filter_congr
  intro f _
  show meetF _ (mkV f) = (meetF _ (mkV f) && sqF t f)
  cases hm : meetF (pixZ (pZ t.z) t.c t.r k) (mkV f) with
  | false => rfl
  | true => rw [show sqF t f = true from pix_square h hk hm]; rfl
/-- Two lists show the same, if they have the same features over the tile. -/
theorem body_same {fs gs : List Feat} (hf : ∀ f ∈ fs, validF f = true) (hg : ∀ f ∈ gs, validF f = true) {t : Tl} (h : t.good) (e : fs.filter (sqF t) = gs.filter (sqF t)) : bodyF fs t = bodyF gs t := by
  rw [body_filter hf h, body_filter hg h, e]
def newFs (fs : List Feat) (id : Int) (p : Option Feat) : List Feat := (fs.filter fun f => !(f.id == id)) ++ p.toList
/-- A change is not seen in a tile that it doesn't hit. -/
theorem body_change {fs : List Feat} (hf : FsOk fs) {id : Int} {p : Option Feat} (hp : PutOk id p) {t : Tl} (h : t.good) (hh : hitT (boxesF p fs id) t = false) : bodyF (newFs fs id p) t = bodyF fs t := by
  have ha : ∀ f ∈ p.toList ++ (findF id fs).toList, sqF t f = false := by
    intro f hm
    unfold hitT boxesF at hh
    rw [List.any_eq_false] at hh
    have := hh (boxZ f.ps) (List.mem_map_of_mem hm)
    unfold sqF
    simpa using this
  have e1 : p.toList.filter (sqF t) = [] := by
    rw [List.filter_eq_nil_iff]
    intro f hm
    rw [ha f (List.mem_append_left _ hm)]; simp
  refine body_same (hf.finish hp).valid hf.valid h ?_
  rw [List.filter_append, e1, List.append_nil, List.filter_filter]
  apply List.filter_congr
  intro f hm
  by_cases e : f.id = id
  · have := ha f (List.mem_append_right _ (by rw [← e, find_mem hf.dist hm]; simp))
    rw [this]; rfl
  · simp [e]

/-! The tiles of a zoom. -/
theorem tile_mem {t : Tl} (h : t.good) {z : Nat} (hz : t.z = (z : Int)) (h3 : z ≤ 3) : t ∈ tilesZ z := by
  unfold Tl.good tileB at h
  rw [decide_eq_true_eq] at h
  obtain ⟨_, _, c0, c1, r0, r1⟩ := h
  have hm : manyZ t.z = (cntZ z : Int) := by
    rw [hz]
    match z, h3 with
    | 0, _ => rfl
    | 1, _ => rfl
    | 2, _ => rfl
    | 3, _ => rfl
  rw [hm] at c1 r1
  obtain ⟨tz, c, r⟩ := t
  dsimp only at *
  obtain ⟨cn, rfl⟩ : ∃ n : Nat, c = n := ⟨c.toNat, by omega⟩
  obtain ⟨rn, rfl⟩ : ∃ n : Nat, r = n := ⟨r.toNat, by omega⟩
  have hc : cn < cntZ z := by omega
  have hr : rn < cntZ z := by omega
  unfold tilesZ
  refine List.mem_map.2 ⟨rn * cntZ z + cn, ?_, ?_⟩
  · rw [List.mem_range]
    have : (rn + 1) * cntZ z ≤ cntZ z * cntZ z := Nat.mul_le_mul_right _ hr
    rw [Nat.add_mul] at this
    omega
  · unfold tilesN
    rw [hz, Nat.mul_comm, Nat.mul_add_mod, Nat.mod_eq_of_lt hc, Nat.mul_add_div (by omega), Nat.div_eq_of_lt hc, Nat.add_zero]
/-! What is kept. -/
def Uniq (ks : List Kp) : Prop := (ks.map (·.t)).Nodup
theorem tileIx_uniq {t : Tl} {ks : List Kp} (h : Uniq ks) {i : Nat} (e : tileIx t ks = some i) : ∀ x ∈ ks.eraseIdx i, x.t ≠ t := by
  obtain ⟨k, hk, hkt⟩ := tileIx_lt e
  obtain ⟨hi, hk'⟩ := List.getElem?_eq_some_iff.1 hk
  intro x hx hxt
  obtain ⟨j, hj, hne⟩ := List.mem_eraseIdx_iff_getElem?.1 hx
  have hd := h
  unfold Uniq at hd
  have h1 : (ks.map (·.t))[i]? = some t := by rw [List.getElem?_map, hk]; simp [hkt]
  have h2 : (ks.map (·.t))[j]? = some t := by rw [List.getElem?_map, hne]; simp [hxt]
  obtain ⟨l2, _⟩ := List.getElem?_eq_some_iff.1 h2
  exact hj ((List.getElem?_inj l2 hd).1 (h2.trans h1.symm))
theorem uniq_erase {ks : List Kp} (h : Uniq ks) (i : Nat) : Uniq (ks.eraseIdx i) := by
  unfold Uniq at h ⊢
  exact h.sublist ((List.eraseIdx_sublist ks i).map _)
theorem drop_uniq {t : Tl} {ks : List Kp} (h : Uniq ks) : Uniq (dropT t ks) ∧ ∀ x ∈ dropT t ks, x ∈ ks ∧ x.t ≠ t := by
  unfold dropT
  cases e : tileIx t ks with
  | none =>
    refine ⟨h, fun x hx => ⟨hx, fun ht => ?_⟩⟩
    unfold tileIx at e
    rw [List.findIdx?_eq_none_iff] at e
    have := e x hx
    simp [ht] at this
  | some i => exact ⟨uniq_erase h i, fun x hx => ⟨List.mem_of_mem_eraseIdx hx, tileIx_uniq h e x hx⟩⟩
theorem uniq_snoc {ks : List Kp} (h : Uniq ks) {t : Tl} {b : ByteArray} (hn : ∀ x ∈ ks, x.t ≠ t) : Uniq (ks ++ [⟨t, b⟩]) := by
  unfold Uniq at *
  rw [List.map_append, List.nodup_append]
  refine ⟨h, by simp, ?_⟩
  intro a ha b' hb e
  obtain ⟨x, hx, rfl⟩ := List.mem_map.1 ha
  simp at hb
  exact hn x hx (e.trans hb)
theorem keep_uniq {room : Int} {t : Tl} {b : ByteArray} {ks : List Kp} (h : Uniq ks) : Uniq (keepK room t b ks) := by
  obtain ⟨h1, h2⟩ := drop_uniq (t := t) h
  have h3 := uniq_snoc (b := b) h1 (fun x hx => (h2 x hx).2)
  unfold keepK
  split
  · unfold Uniq at h3 ⊢
    exact h3.sublist ((List.drop_sublist 1 _).map _)
  · exact h3
theorem use_uniq {t : Tl} {ks ks' : List Kp} {b : ByteArray} (h : Uniq ks) (e : useK t ks = some (b, ks')) : Uniq ks' ∧ (∀ x ∈ ks', x ∈ ks) ∧ ⟨t, b⟩ ∈ ks := by
  obtain ⟨i, k, h1, h2, rfl, rfl⟩ := useK_some e
  obtain ⟨k', h3, h4⟩ := tileIx_lt h1
  rw [h2] at h3
  obtain rfl := Option.some.inj h3
  have hk : (⟨t, k.body⟩ : Kp) = k := by rw [← h4]
  have hm : k ∈ ks := List.mem_of_getElem? h2
  refine ⟨uniq_snoc (uniq_erase h i) (tileIx_uniq h h1), fun x hx => ?_, by rw [hk]; exact hm⟩
  rcases List.mem_append.1 hx with hx | hx
  · exact List.mem_of_mem_eraseIdx hx
  · rw [List.mem_singleton.1 hx, hk]; exact hm
theorem forget_uniq (bs : List Bx) (k : Nat) : ∀ (ts : List Tl) (ks : List Kp), Uniq ks → Uniq (forgetK bs k ts ks) ∧ ∀ x ∈ forgetK bs k ts ks, x ∈ ks ∧ ∀ t ∈ ts, hitT bs t = true → shN t = k → x.t ≠ t
  | [], ks, h => ⟨h, fun x hx => ⟨hx, fun t ht => by cases ht⟩⟩
  | t :: ts, ks, h => by
    show Uniq (forgetK bs k ts (if hitT bs t = true ∧ shN t = k then dropT t ks else ks)) ∧ ∀ x ∈ forgetK bs k ts (if hitT bs t = true ∧ shN t = k then dropT t ks else ks), _
    by_cases hc : hitT bs t = true ∧ shN t = k
    · rw [if_pos hc]
      obtain ⟨d1, d2⟩ := drop_uniq (t := t) h
      obtain ⟨h1, h2⟩ := forget_uniq bs k ts _ d1
      refine ⟨h1, fun x hx => ?_⟩
      obtain ⟨a1, a2⟩ := h2 x hx
      obtain ⟨b1, b2⟩ := d2 x a1
      refine ⟨b1, fun u hu hh hs => ?_⟩
      rcases List.mem_cons.1 hu with rfl | hu
      · exact b2
      · exact a2 u hu hh hs
    · rw [if_neg hc]
      obtain ⟨h1, h2⟩ := forget_uniq bs k ts ks h
      refine ⟨h1, fun x hx => ?_⟩
      obtain ⟨a1, a2⟩ := h2 x hx
      refine ⟨a1, fun u hu hh hs => ?_⟩
      rcases List.mem_cons.1 hu with rfl | hu
      · exact absurd ⟨hh, hs⟩ hc
      · exact a2 u hu hh hs

/-! The invariant of sessions side by side. -/
/-- The change that a session is at, and how many zooms it has forgotten. -/
def chS : Option Stp → Option (Int × Option Feat × Nat)
  | some (.forget id p z) => some (id, p, z)
  | some (.finish id p) => some (id, p, 4)
  | _ => none
theorem chS_hold {s : Option Stp} {x : Int × Option Feat × Nat} (h : chS s = some x) : holdS s = true := by
  unfold chS at h
  split at h
  · rfl
  · rfl
  · cases h
/-- What is kept is what is drawn of the features as they are. -/
structure KeptOk (g : Gr) : Prop where
  u : ∀ k, k < 4 → Uniq (g.S.ks k)
  t : ∀ k x, k < 4 → x ∈ g.S.ks k → x.t.good ∧ shN x.t = k
  b : ∀ k x, k < 4 → x ∈ g.S.ks k → x.body = bodyF g.fs x.t
def GoneOk (g : Gr) (s : Option Stp) : Prop := ∀ id p z, chS s = some (id, p, z) → ∀ k x, k < 4 → x ∈ g.S.ks k → x.t.z < (z : Int) → hitT (boxesF p g.fs id) x.t = false
/-- What a get has noted is what is so, if no one has changed it. -/
def NoteOk (g : Gr) (ss : Nat → Option Stp) : Option Stp → Prop
  | some (.note t _ ag) => ag ≤ g.S.age (shN t)
  | some (.draw t _ ag fs) => ag ≤ g.S.age (shN t) ∧ (g.S.age (shN t) = ag → bodyF fs t = bodyF g.fs t ∧ ∀ m, m < 4 → ∀ id p z, chS (ss m) = some (id, p, z) → t.z < (z : Int) → hitT (boxesF p g.fs id) t = false)
  | _ => True
structure Inv (a : Atl) (T : Int) : Prop where
  age : ∀ k, k < 4 → 0 ≤ a.g.S.age k ∧ a.g.S.age k ≤ T
  kept : KeptOk a.g
  gone : ∀ n, n < 4 → GoneOk a.g (a.ss n).nx
  note : ∀ n, n < 4 → NoteOk a.g (fun m => (a.ss m).nx) (a.ss n).nx
theorem NoteOk.other {g : Gr} {ss ss' : Nat → Option Stp} {s : Option Stp} (h : NoteOk g ss s) (hc : ∀ m, m < 4 → ∀ id p z, chS (ss' m) = some (id, p, z) → 0 < z → chS (ss m) = some (id, p, z)) (hs : ∀ st, s = some st → StpOk st) : NoteOk g ss' s := by
  unfold NoteOk at *
  split
  · exact h
  · rename_i t m ag fs
    refine ⟨h.1, fun e => ⟨(h.2 e).1, fun m hm id p z hz hl => ?_⟩⟩
    have hg := (hs _ rfl).1
    unfold Tl.good tileB at hg
    rw [decide_eq_true_eq] at hg
    exact (h.2 e).2 m hm id p z (hc m hm id p z hz (by omega)) hl
  · trivial
theorem newM_inv (r : Int) : Inv (newM r) 0 :=
  ⟨fun k _ => ⟨Int.le_refl 0, Int.le_refl 0⟩, ⟨fun k _ => List.nodup_nil, fun k x _ h => (by cases h), fun k x _ h => (by cases h)⟩, fun n _ id p z h => (by cases h), fun n _ => trivial⟩

end Go.Proofs.YtenaepdmlknlcaaGreatDoor
