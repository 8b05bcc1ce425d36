import Derived.Test.YtenaepdmlknlcaaGreatDoorG01
import Derived.Deep.RegionWith
import Derived.Deep.DeepFit
import Derived.Deep.DeepCutAuto
import Derived.Deep.RegionHeld3
namespace Go.Proofs.YtenaepdmlknlcaaGreatDoor
open Go.RowKit

/-- Four cells of a block, which may be written. -/
structure Q4 (w : World) (b : Nat) (v0 v1 v2 v3 : Value) : Prop where
  c0 : w.cell? ⟨b, 0, none⟩ = some v0
  c1 : w.cell? ⟨b, 1, none⟩ = some v1
  c2 : w.cell? ⟨b, 2, none⟩ = some v2
  c3 : w.cell? ⟨b, 3, none⟩ = some v3
  f0 : w.frozen? ⟨b, 0, none⟩ = false
  f1 : w.frozen? ⟨b, 1, none⟩ = false
  f2 : w.frozen? ⟨b, 2, none⟩ = false
  f3 : w.frozen? ⟨b, 3, none⟩ = false

theorem bcell {W w1 : World} {n : Nat} (hb : Below n W w1) : (∀ b o, b < n → w1.cell? ⟨b, o, none⟩ = W.cell? ⟨b, o, none⟩) ∧ (∀ b o, b < n → w1.frozen? ⟨b, o, none⟩ = W.frozen? ⟨b, o, none⟩) :=
  ⟨fun b o h => hb.cell (p := ⟨b, o, none⟩) h, fun b o h => hb.frozen (p := ⟨b, o, none⟩) h⟩

theorem Q4.below {n : Nat} {A B : World} (h : Below n A B) {b : Nat} (hb : b < n) {v0 v1 v2 v3 : Value} (q : Q4 A b v0 v1 v2 v3) : Q4 B b v0 v1 v2 v3 := by
  obtain ⟨hc, hf⟩ := bcell h
  exact ⟨(hc _ _ hb).trans q.c0, (hc _ _ hb).trans q.c1, (hc _ _ hb).trans q.c2, (hc _ _ hb).trans q.c3, (hf _ _ hb).trans q.f0, (hf _ _ hb).trans q.f1, (hf _ _ hb).trans q.f2, (hf _ _ hb).trans q.f3⟩

theorem Q4.new (w : World) (v0 v1 v2 v3 : Value) (t : TypeId) : Q4 (w.alloc (.cells #[v0, v1, v2, v3] t)) w.heap.size v0 v1 v2 v3 := by
  constructor <;> simp [go_sem]

theorem Q4.set {w : World} {b : Nat} {v0 v1 v2 v3 : Value} (q : Q4 w b v0 v1 v2 v3) (x0 x1 x2 x3 : Value) :
    Q4 ((((w.setCell ⟨b, 0, none⟩ x0).setCell ⟨b, 1, none⟩ x1).setCell ⟨b, 2, none⟩ x2).setCell ⟨b, 3, none⟩ x3) b x0 x1 x2 x3 := by
  obtain ⟨c0, c1, c2, c3, f0, f1, f2, f3⟩ := q
  constructor <;> simp [go_sem, c0, c1, c2, c3, f0, f1, f2, f3]

theorem Q4.drew {w : World} {b : Nat} {v0 v1 v2 v3 : Value} (q : Q4 w b v0 v1 v2 v3) : Q4 w.drew b v0 v1 v2 v3 := ⟨q.c0, q.c1, q.c2, q.c3, q.f0, q.f1, q.f2, q.f3⟩

structure Bx where
  l : Int
  t : Int
  r : Int
  b : Int
def Bx.join (a b : Bx) : Bx := ⟨mnZ a.l b.l, mnZ a.t b.t, mxZ a.r b.r, mxZ a.b b.b⟩
def bxAt (p : Int × Int) : Bx := ⟨p.1, p.2, p.1, p.2⟩
def boxZ : Pts → Bx
  | [] => ⟨0, 0, 0, 0⟩
  | p :: ps => ps.foldl (fun b q => b.join (bxAt q)) (bxAt p)
theorem boxZ_snoc (ps : Pts) (q : Int × Int) (h : ps ≠ []) : boxZ (ps ++ [q]) = (boxZ ps).join (bxAt q) := by
  cases ps with
  | nil => exact absurd rfl h
  | cons p r => simp [boxZ, List.foldl_append]

theorem below_set4 (n : Nat) (w : World) (b : Nat) (h : n ≤ b) (u0 u1 u2 u3 : Value) : Below n w ((((w.setCell ⟨b, 0, none⟩ u0).setCell ⟨b, 1, none⟩ u1).setCell ⟨b, 2, none⟩ u2).setCell ⟨b, 3, none⟩ u3) :=
  ((((Below.refl n w).setCell (p := ⟨b, 0, none⟩) h u0).setCell (p := ⟨b, 1, none⟩) h u1).setCell (p := ⟨b, 2, none⟩) h u2).setCell (p := ⟨b, 3, none⟩) h u3

theorem take_succ_pts {ps : Pts} {k : Nat} {p : Int × Int} (h : ps[k]? = some p) : ps.take (k + 1) = ps.take k ++ [p] := by
  rw [List.take_add_one, h]; rfl

set_option maxHeartbeats 2000000 in
theorem BoxOf_any (b off n cap : Nat) (ps : Pts) (w : World) (hp : Places w.heap.size w b off ps) (hn : n = ps.length) (hn1 : 1 ≤ n) (hn2 : n ≤ 1000000000000) (hcap : n ≤ cap) :
    Calls Tryz.prog 53 #[.slice (some ⟨b, off, none⟩) n cap] w fun e w' => e = .returned (.agg #[.int .i64 (boxZ ps).l, .int .i64 (boxZ ps).t, .int .i64 (boxZ ps).r, .int .i64 (boxZ ps).b]) ∧ Below w.heap.size w w' := by
  have Hn : Hid (n = ps.length) := hn
  clear hn
  obtain ⟨x0, y0, hxy0, hx0, hy0⟩ := hp.at (k := 0) (by rw [← Hn.out]; exact hn1)
  simp only [Nat.zero_mul, Nat.add_zero] at hx0 hy0
  have H0 : Hid (ps[0]? = some (x0, y0)) := hxy0
  clear hxy0
  have hbl := hp.1
  have Hp : Hid (Places w.heap.size w b off ps) := hp
  clear hp
  go_enter Tryz.func53, Tryz.ntmps53
  go_wp2_with (go_at_call 85; refine (boxAt_any _ _ _).mono ?_; rintro e w1 ⟨rfl, hb1⟩)
  all_goals
    have hsz1 := hb1.size
    simp at hsz1
    have hb1' : Below w.heap.size w w1 := ((Below.refl _ _).alloc (Nat.le_refl _) _).trans (hb1.mono (by simp))
    have hq1 : Q4 w1 w.heap.size (.int .i64 0) (.int .i64 0) (.int .i64 0) (.int .i64 0) := (Q4.new _ _ _ _ _ _).below hb1 (by simp)
    go_loopw [13] (fun i wr => ∃ k : Nat, k ≤ n - 1 ∧ i = .int .i64 k ∧ Q4 wr w1.heap.size (.int .i64 (boxZ (ps.take (k + 1))).l) (.int .i64 (boxZ (ps.take (k + 1))).t) (.int .i64 (boxZ (ps.take (k + 1))).r) (.int .i64 (boxZ (ps.take (k + 1))).b) ∧ Q4 wr w.heap.size (.int .i64 0) (.int .i64 0) (.int .i64 0) (.int .i64 0) ∧ Below w.heap.size w wr ∧ w1.heap.size < wr.heap.size) (fun i _ => n - 1 - (intOf i).toNat)
    case atStart =>
      refine ⟨0, Nat.zero_le _, rfl, ?_, hq1.below ((Below.refl _ _).alloc (Nat.le_refl _) _) (by omega), hb1'.alloc (by omega) _, by simp⟩
      rw [take_succ_pts H0.out]
      exact Q4.new _ _ _ _ _ _
    case round =>
      obtain ⟨k, hk, rfl, hq, hq0, hb, hz⟩ := hrel
      by_cases hlt : k < n - 1
      · first
        | (exfalso; omega)
        | (
          generalize hl : (boxZ (ps.take (k + 1))).l = l at hq
          generalize ht : (boxZ (ps.take (k + 1))).t = t at hq
          generalize hr : (boxZ (ps.take (k + 1))).r = r at hq
          generalize hbb : (boxZ (ps.take (k + 1))).b = bb at hq
          obtain ⟨x, y, hxy, hx, hy⟩ := (Hp.out.below hb).at (k := k + 1) (by rw [← Hn.out]; omega)
          rw [show off + (k + 1) * 2 = off + 2 + k * 2 from by omega] at hx hy
          have HJ : Hid (boxZ (ps.take (k + 1 + 1)) = (⟨mnZ l x, mnZ t y, mxZ r x, mxZ bb y⟩ : Bx)) := by
            show boxZ (ps.take (k + 1 + 1)) = _
            rw [take_succ_pts hxy, boxZ_snoc _ _ (by have := Hn.out; intro e; have h2 := congrArg List.length e; rw [List.length_take] at h2; simp only [List.length_nil] at h2; omega), ← hl, ← ht, ← hr, ← hbb]; rfl
          clear hxy hl ht hr hbb hx0 hy0
          have hQ : ∀ o : Obj, Q4 ((wr.alloc o).drew) w1.heap.size (.int .i64 l) (.int .i64 t) (.int .i64 r) (.int .i64 bb) := fun o => (hq.below ((Below.refl _ _).alloc (Nat.le_refl _) o) hz).drew
          obtain ⟨c0, c1, c2, c3, f0, f1, f2, f3⟩ := hq
          go_wp2
          go_region_with (first
            | (go_at_call 85; refine (boxAt_any _ _ _).mono ?_; rintro e w2 ⟨rfl, hb2⟩; have hs2 : wr.heap.size < w2.heap.size := (by have := hb2.size; (try simp at this); omega); have q2 := (hQ _).below hb2 (by simp; omega); obtain ⟨d0, d1, d2, d3, g0, g1, g2, g3⟩ := q2)
            | (go_at_call 86; refine (Join_any _ _ _ _ _ _ _ _ _).mono ?_; rintro e w3 ⟨rfl, hb3⟩; have hs3 : wr.heap.size < w3.heap.size := (by have := hb3.size; (try simp at this); omega); have q3 := (Q4.mk d0 d1 d2 d3 g0 g1 g2 g3).below hb3 (by omega); obtain ⟨k0, k1, k2, k3, m0, m1, m2, m3⟩ := q3))
          all_goals
            have HQ3 : Hid (Q4 w3 w1.heap.size (.int .i64 l) (.int .i64 t) (.int .i64 r) (.int .i64 bb)) := ⟨k0, k1, k2, k3, m0, m1, m2, m3⟩
            clear k0 k1 k2 k3 m0 m1 m2 m3 d0 d1 d2 d3 g0 g1 g2 g3 c0 c1 c2 c3 f0 f1 f2 f3 hQ
            go_wp2
            go_roundw
            case rel =>
              have hB3 : Below w.heap.size w w3 := ((hb.alloc (by omega) _).drew.trans (hb2.mono (by simp; omega))).trans (hb3.mono (by omega))
              have hz3 : Q4 w3 w.heap.size (.int .i64 0) (.int .i64 0) (.int .i64 0) (.int .i64 0) := ((hq0.below ((Below.refl _ _).alloc (Nat.le_refl _) _) (by omega)).drew.below hb2 (by simp; omega)).below hb3 (by omega)
              refine ⟨k + 1, by omega, by go_num, ?_, hz3.below (below_set4 w1.heap.size _ _ (Nat.le_refl _) _ _ _ _) (by omega), hB3.trans (below_set4 w.heap.size _ _ (by omega) _ _ _ _), ?_⟩
              · rw [HJ.out]
                exact HQ3.out.set _ _ _ _
              · exact Nat.lt_of_lt_of_le (by omega) (below_set4 w1.heap.size w3 w1.heap.size (Nat.le_refl _) _ _ _ _).size
            case measure => simp [intOf]; omega)
      · have HK : Hid (boxZ (ps.take (k + 1)) = boxZ ps) := by
          show boxZ (ps.take (k + 1)) = boxZ ps
          rw [show k + 1 = ps.length from by have := Hn.out; omega, List.take_length]
        rw [HK.out] at hq
        obtain ⟨c0, c1, c2, c3, f0, f1, f2, f3⟩ := hq
        have hq0' := hq0
        obtain ⟨z0, z1, z2, z3, e0, e1, e2, e3⟩ := hq0'
        go_wp2
        obtain ⟨y0', y1', y2', y3', _, _, _, _⟩ := hq0.set (.int .i64 (boxZ ps).l) (.int .i64 (boxZ ps).t) (.int .i64 (boxZ ps).r) (.int .i64 (boxZ ps).b)
        exact bodyPost_ret (v := .agg #[.int .i64 (boxZ ps).l, .int .i64 (boxZ ps).t, .int .i64 (boxZ ps).r, .int .i64 (boxZ ps).b]) (by simp [results, Tryz.results53, go_sem, y0', y1', y2', y3']) rfl ⟨rfl, hb.trans (below_set4 w.heap.size _ _ (Nat.le_refl _) _ _ _ _)⟩

end Go.Proofs.YtenaepdmlknlcaaGreatDoor

namespace Go.Proofs.YtenaepdmlknlcaaGreatDoor
open Go.RowKit

/-- Two cells of a block, which may be written. -/
structure Q2 (w : World) (b : Nat) (v0 v1 : Value) : Prop where
  c0 : w.cell? ⟨b, 0, none⟩ = some v0
  c1 : w.cell? ⟨b, 1, none⟩ = some v1
  f0 : w.frozen? ⟨b, 0, none⟩ = false
  f1 : w.frozen? ⟨b, 1, none⟩ = false

theorem Q2.below {n : Nat} {A B : World} (h : Below n A B) {b : Nat} (hb : b < n) {v0 v1 : Value} (q : Q2 A b v0 v1) : Q2 B b v0 v1 := by
  obtain ⟨hc, hf⟩ := bcell h
  exact ⟨(hc _ _ hb).trans q.c0, (hc _ _ hb).trans q.c1, (hf _ _ hb).trans q.f0, (hf _ _ hb).trans q.f1⟩
theorem Q2.new (w : World) (v0 v1 : Value) (t : TypeId) : Q2 (w.alloc (.cells #[v0, v1] t)) w.heap.size v0 v1 := by
  constructor <;> simp [go_sem]
theorem Q2.set {w : World} {b : Nat} {v0 v1 : Value} (q : Q2 w b v0 v1) (x0 x1 : Value) : Q2 ((w.setCell ⟨b, 0, none⟩ x0).setCell ⟨b, 1, none⟩ x1) b x0 x1 := by
  obtain ⟨c0, c1, f0, f1⟩ := q
  constructor <;> simp [go_sem, c0, c1, f0, f1]
theorem Q2.drew {w : World} {b : Nat} {v0 v1 : Value} (q : Q2 w b v0 v1) : Q2 w.drew b v0 v1 := ⟨q.c0, q.c1, q.f0, q.f1⟩
theorem Q4.alloc {w : World} {b : Nat} {v0 v1 v2 v3 : Value} (q : Q4 w b v0 v1 v2 v3) (h : b < w.heap.size) (o : Obj) : Q4 (w.alloc o) b v0 v1 v2 v3 := q.below ((Below.refl w.heap.size w).alloc (Nat.le_refl _) o) h
theorem Q2.alloc {w : World} {b : Nat} {v0 v1 : Value} (q : Q2 w b v0 v1) (h : b < w.heap.size) (o : Obj) : Q2 (w.alloc o) b v0 v1 := q.below ((Below.refl w.heap.size w).alloc (Nat.le_refl _) o) h
theorem below_set2 (n : Nat) (w : World) (b : Nat) (h : n ≤ b) (u0 u1 : Value) : Below n w ((w.setCell ⟨b, 0, none⟩ u0).setCell ⟨b, 1, none⟩ u1) :=
  ((Below.refl n w).setCell (p := ⟨b, 0, none⟩) h u0).setCell (p := ⟨b, 1, none⟩) h u1

theorem places2 {W : World} {N : Nat} {x y x' y' : Int} (h : N < W.heap.size) (c0 : W.cell? ⟨N, 0, none⟩ = some (.int .i64 x)) (c1 : W.cell? ⟨N, 1, none⟩ = some (.int .i64 y)) (c2 : W.cell? ⟨N, 2, none⟩ = some (.int .i64 x')) (c3 : W.cell? ⟨N, 3, none⟩ = some (.int .i64 y')) : Places W.heap.size W N 0 [(x, y), (x', y')] := by
  refine ⟨h, fun k a b e => ?_⟩
  match k, e with
  | 0, e => simp at e; obtain ⟨rfl, rfl⟩ := e; exact ⟨c0, c1⟩
  | 1, e => simp at e; obtain ⟨rfl, rfl⟩ := e; exact ⟨c2, c3⟩
  | k + 2, e => simp at e


theorem run_idx0 (a0 a1 a2 a3 a4 a5 a6 a7 : Value) (w : World) : Sem.run Tryz.prog (Instr.index 301 (Value.agg #[a0, a1, a2, a3, a4, a5, a6, a7]) (Value.int IntKind.i64 0)) w = .ok (Value.agg #[a0, a1]) w := by kernel_rfl
theorem run_idx1 (a0 a1 a2 a3 a4 a5 a6 a7 : Value) (w : World) : Sem.run Tryz.prog (Instr.index 301 (Value.agg #[a0, a1, a2, a3, a4, a5, a6, a7]) (Value.int IntKind.i64 1)) w = .ok (Value.agg #[a2, a3]) w := by kernel_rfl
theorem run_idx2 (a0 a1 a2 a3 a4 a5 a6 a7 : Value) (w : World) : Sem.run Tryz.prog (Instr.index 301 (Value.agg #[a0, a1, a2, a3, a4, a5, a6, a7]) (Value.int IntKind.i64 2)) w = .ok (Value.agg #[a4, a5]) w := by kernel_rfl
theorem run_idx3 (a0 a1 a2 a3 a4 a5 a6 a7 : Value) (w : World) : Sem.run Tryz.prog (Instr.index 301 (Value.agg #[a0, a1, a2, a3, a4, a5, a6, a7]) (Value.int IntKind.i64 3)) w = .ok (Value.agg #[a6, a7]) w := by kernel_rfl

def cntL (T : Nat → Int) : Nat → Int
  | 0 => 0
  | k + 1 => cntL T k + (if T k < 0 then 1 else 0)
def cntR (T : Nat → Int) : Nat → Int
  | 0 => 0
  | k + 1 => cntR T k + (if 0 < T k then 1 else 0)
theorem cntL_bd (T : Nat → Int) : ∀ k : Nat, 0 ≤ cntL T k ∧ cntL T k ≤ k
  | 0 => by simp [cntL]
  | k + 1 => by have := cntL_bd T k; simp only [cntL]; split <;> omega
theorem cntR_bd (T : Nat → Int) : ∀ k : Nat, 0 ≤ cntR T k ∧ cntR T k ≤ k
  | 0 => by simp [cntR]
  | k + 1 => by have := cntR_bd T k; simp only [cntR]; split <;> omega

def cornX (l r : Int) : Nat → Int
  | 0 => l
  | 1 => r
  | 2 => r
  | _ => l
def cornY (t b : Int) : Nat → Int
  | 0 => t
  | 1 => t
  | _ => b
def turns (ax ay bx by' l t r b : Int) (k : Nat) : Int := turnZ ax ay bx by' (cornX l r k) (cornY t b k)

def segMeets (ax ay bx by' l t r b : Int) : Bool := meetsB (boxZ [(ax, ay), (bx, by')]).l (boxZ [(ax, ay), (bx, by')]).t (boxZ [(ax, ay), (bx, by')]).r (boxZ [(ax, ay), (bx, by')]).b l t r b
def segB (ax ay bx by' l t r b : Int) : Bool :=
  segMeets ax ay bx by' l t r b && (decide (cntL (turns ax ay bx by' l t r b) 4 < 4) && decide (cntR (turns ax ay bx by' l t r b) 4 < 4))

set_option maxRecDepth 100000 in
set_option maxHeartbeats 2000000 in
theorem segmentMeets_any (ax ay bx by' l t r b : Int) (w : World) (h1 : 0 ≤ ax) (h2 : 0 ≤ ay) (h3 : 0 ≤ bx) (h4 : 0 ≤ by') (h5 : 0 ≤ l) (h6 : 0 ≤ t) (h7 : 0 ≤ r) (h8 : 0 ≤ b) (g1 : ax ≤ 1000) (g2 : ay ≤ 1000) (g3 : bx ≤ 1000) (g4 : by' ≤ 1000) (g5 : l ≤ 1000) (g6 : t ≤ 1000) (g7 : r ≤ 1000) (g8 : b ≤ 1000) :
    Calls Tryz.prog 159 #[.agg #[.int .i64 ax, .int .i64 ay], .agg #[.int .i64 bx, .int .i64 by'], .agg #[.int .i64 l, .int .i64 t, .int .i64 r, .int .i64 b]] w fun e w' => e = .returned (.bool (segB ax ay bx by' l t r b)) ∧ Below w.heap.size w w' := by
  go_enter Tryz.func159, Tryz.ntmps159
  go_upto_region 1 with fail
  go_cut [18] (fun v wc => v = .bool (!segMeets ax ay bx by' l t r b) ∧ Q2 wc w.heap.size (.int .i64 ax) (.int .i64 ay) ∧ Q2 wc (w.heap.size + 1) (.int .i64 bx) (.int .i64 by') ∧ Q4 wc (w.heap.size + 1 + 1) (.int .i64 l) (.int .i64 t) (.int .i64 r) (.int .i64 b) ∧ Below w.heap.size w wc ∧ w.heap.size + 3 ≤ wc.heap.size)
  case first =>
    go_region_held3 (fun w' => w'.cell? ⟨w.heap.size, 0, none⟩ = some (.int .i64 ax) ∧ w'.cell? ⟨w.heap.size, 1, none⟩ = some (.int .i64 ay) ∧ w'.cell? ⟨w.heap.size + 1, 0, none⟩ = some (.int .i64 bx) ∧ w'.cell? ⟨w.heap.size + 1, 1, none⟩ = some (.int .i64 by') ∧ w'.cell? ⟨w.heap.size + 1 + 1, 0, none⟩ = some (.int .i64 l) ∧ w'.cell? ⟨w.heap.size + 1 + 1, 1, none⟩ = some (.int .i64 t) ∧ w'.cell? ⟨w.heap.size + 1 + 1, 2, none⟩ = some (.int .i64 r) ∧ w'.cell? ⟨w.heap.size + 1 + 1, 3, none⟩ = some (.int .i64 b)) (first | (simp [go_sem]; done) | exact ⟨q1.c0, q1.c1, q2.c0, q2.c1, q3.c0, q3.c1, q3.c2, q3.c3⟩)
      (first
      | (go_at_call 53; refine Calls.mono (BoxOf_any _ 0 2 2 [(ax, ay), (bx, by')] _ ?_ rfl (by omega) (by omega) (by omega)) ?_; (refine places2 ?_ ?_ ?_ ?_ ?_ <;> simp [go_sem]); rintro e w1 ⟨rfl, hb1⟩; have q1 : Q2 w1 w.heap.size (.int .i64 ax) (.int .i64 ay) := Q2.below hb1 (by simp <;> omega) (by constructor <;> simp [go_sem]); have q2 : Q2 w1 (w.heap.size + 1) (.int .i64 bx) (.int .i64 by') := Q2.below hb1 (by simp <;> omega) (by constructor <;> simp [go_sem]); have q3 : Q4 w1 (w.heap.size + 1 + 1) (.int .i64 l) (.int .i64 t) (.int .i64 r) (.int .i64 b) := Q4.below hb1 (by simp <;> omega) (by constructor <;> simp [go_sem]); have hs1 : w.heap.size + 3 ≤ w1.heap.size := (by have := hb1.size; simp at this; omega); have hB1 : Below w.heap.size w w1 := ((((Below.refl _ _).alloc (Nat.le_refl _) _).alloc (by simp <;> omega) _).alloc (by simp <;> omega) _).alloc (by simp <;> omega) _ |>.drew |>.trans (hb1.mono (by simp <;> omega)))
      | (go_at_call 158; refine (Meets_any _ _ _ _ _ _ _ _ _).mono ?_; rintro e w2 ⟨rfl, hb2⟩; replace q1 := q1.below hb2 (by omega); replace q2 := q2.below hb2 (by omega); replace q3 := q3.below hb2 (by omega)))
    all_goals
      go_wp2_with fail
      go_meet
      exact ⟨rfl, q1, q2, q3, hB1.trans (hb2.mono (by omega)), Nat.le_trans hs1 hb2.size⟩
  case rest =>
  obtain ⟨rfl, q1, q2, q3, hB, hs⟩ := hcut
  by_cases hm : segMeets ax ay bx by' l t r b = true
  · have Hv : Hid (segB ax ay bx by' l t r b = (decide (cntL (turns ax ay bx by' l t r b) 4 < 4) && decide (cntR (turns ax ay bx by' l t r b) 4 < 4))) := by
      show segB ax ay bx by' l t r b = _
      simp only [segB, hm, Bool.true_and]
    have q3' := q3
    obtain ⟨d0, d1, d2, d3, _, _, _, _⟩ := q3'
    rw [hm, Bool.not_true]
    go_wp2_with (go_at_call 182; refine (corners_any _ _ _ _ _).mono ?_; rintro e w2 ⟨rfl, hb2⟩)
    replace q1 := q1.below hb2 (by omega)
    replace q2 := q2.below hb2 (by omega)
    have hs2 := Nat.le_trans hs hb2.size
    have hB2 := hB.trans (hb2.mono (by omega))
    clear d0 d1 d2 d3 q3 hB hs hb2 hm
    go_loopw [7, 8, 21] (fun le ri i wr => ∃ k : Nat, k ≤ 4 ∧ i = .int .i64 k ∧ le = .int .i64 (cntL (turns ax ay bx by' l t r b) k) ∧ ri = .int .i64 (cntR (turns ax ay bx by' l t r b) k) ∧ Q2 wr w.heap.size (.int .i64 ax) (.int .i64 ay) ∧ Q2 wr (w.heap.size + 1) (.int .i64 bx) (.int .i64 by') ∧ Below w.heap.size w wr ∧ w.heap.size + 3 ≤ wr.heap.size) (fun _ _ i _ => 4 - (intOf i).toNat)
    case atStart => exact ⟨0, by omega, rfl, rfl, rfl, q1, q2, hB2, hs2⟩
    case round =>
      clear q1 q2 hB2 hs2
      obtain ⟨k, hk, rfl, rfl, rfl, q1, q2, hB, hs⟩ := hrel
      by_cases hlt : k < 4
      · have bl := cntL_bd (turns ax ay bx by' l t r b) k
        have br := cntR_bd (turns ax ay bx by' l t r b) k
        generalize hL : cntL (turns ax ay bx by' l t r b) k = cl at *
        generalize hR : cntR (turns ax ay bx by' l t r b) k = cr at *
        have HL : Hid (cntL (turns ax ay bx by' l t r b) (k + 1) = cl + (if turns ax ay bx by' l t r b k < 0 then 1 else 0)) := by show cntL _ (k + 1) = _; rw [cntL, hL]
        have HR : Hid (cntR (turns ax ay bx by' l t r b) (k + 1) = cr + (if 0 < turns ax ay bx by' l t r b k then 1 else 0)) := by show cntR _ (k + 1) = _; rw [cntR, hR]
        clear hL hR
        obtain ⟨bl1, bl2⟩ := bl
        obtain ⟨br1, br2⟩ := br
        have q1' := q1
        have q2' := q2
        obtain ⟨d0, d1, _, _⟩ := q1'
        obtain ⟨e0, e1, _, _⟩ := q2'
        have hz0 : w.heap.size < wr.heap.size := by omega
        have hz1 : w.heap.size + 1 < wr.heap.size := by omega
        have hk4 : k = 0 ∨ k = 1 ∨ k = 2 ∨ k = 3 := by omega
        rcases hk4 with rfl | rfl | rfl | rfl <;>
        · go_wp2_with fail
          simp only [run_idx0, run_idx1, run_idx2, run_idx3]
          go_wp2_with (go_at_call 183; refine (turnOf_any _ _ _ _ _ _ _ (by omega) (by omega) (by omega) (by omega) (by omega) (by omega) (by omega) (by omega) (by omega) (by omega) (by omega) (by omega)).mono ?_; rintro e w3 ⟨rfl, hb3⟩; have hs3 := hb3.size)
          all_goals
            go_roundw
            case rel =>
              simp at hs3
              first
                | refine ⟨0 + 1, by omega, by go_num, ?_, ?_, ?_, ?_, ?_, ?_⟩
                | refine ⟨1 + 1, by omega, by go_num, ?_, ?_, ?_, ?_, ?_, ?_⟩
                | refine ⟨2 + 1, by omega, by go_num, ?_, ?_, ?_, ?_, ?_, ?_⟩
                | refine ⟨3 + 1, by omega, by go_num, ?_, ?_, ?_, ?_, ?_, ?_⟩
              · rw [HL.out]; congr 1; simp only [turns, cornX, cornY]; split <;> omega
              · rw [HR.out]; congr 1; simp only [turns, cornX, cornY]; split <;> omega
              · exact (q1.alloc (by omega) _).below hb3 (by simp; omega)
              · exact (q2.alloc (by omega) _).below hb3 (by simp; omega)
              · exact (hB.alloc (by omega) _).trans (hb3.mono (by simp; omega))
              · omega
            case measure => simp [intOf]
      · obtain rfl : k = 4 := by omega
        have Hl := (cntL_bd (turns ax ay bx by' l t r b) 4)
        by_cases c1 : cntL (turns ax ay bx by' l t r b) 4 < 4
        · go_wp2
          all_goals
            go_ret
            exact ⟨ret_bool (by rw [Hv.out]; simp; omega), hB⟩
        · go_wp2
          all_goals
            go_ret
            exact ⟨ret_bool (by rw [Hv.out]; simp; omega), hB⟩
  · have hm' : segMeets ax ay bx by' l t r b = false := by simpa using hm
    clear hm
    have Hv : Hid (segB ax ay bx by' l t r b = false) := by
      show segB ax ay bx by' l t r b = false
      simp only [segB, hm', Bool.false_and]
    rw [hm', Bool.not_false]
    go_wp2
    go_ret
    exact ⟨ret_bool Hv.out.symm, hB⟩

end Go.Proofs.YtenaepdmlknlcaaGreatDoor

namespace Go.Proofs.YtenaepdmlknlcaaGreatDoor
open Go.RowKit

/-- A span of fractions. -/
structure Sp where
  a : Int
  b : Int
  c : Int
  d : Int
def cutZ (s : Sp) (v d lo : Int) : Sp :=
  if d = 0 ∧ 0 < lo - v then ⟨2, 1, -2, 1⟩
  else if 0 < d ∧ s.a * d < (lo - v) * s.b then ⟨lo - v, d, s.c, s.d⟩
  else if d < 0 ∧ -(lo - v) * s.d < s.c * -d then ⟨s.a, s.b, -(lo - v), -d⟩
  else s
def Sp.bd (s : Sp) : Prop := -2000 ≤ s.a ∧ s.a ≤ 2000 ∧ 1 ≤ s.b ∧ s.b ≤ 2000 ∧ -2000 ≤ s.c ∧ s.c ≤ 2000 ∧ 1 ≤ s.d ∧ s.d ≤ 2000

set_option maxHeartbeats 4000000 in
theorem cut_any (s : Sp) (v d lo : Int) (w : World) (hs : s.bd) (h1 : -1000 ≤ v) (h2 : v ≤ 1000) (h3 : -1000 ≤ d) (h4 : d ≤ 1000) (h5 : -1000 ≤ lo) (h6 : lo ≤ 1000) :
    Calls Tryz.prog 186 #[.agg #[.int .i64 s.a, .int .i64 s.b, .int .i64 s.c, .int .i64 s.d], .int .i64 v, .int .i64 d, .int .i64 lo] w fun e w' => e = .returned (.agg #[.int .i64 (cutZ s v d lo).a, .int .i64 (cutZ s v d lo).b, .int .i64 (cutZ s v d lo).c, .int .i64 (cutZ s v d lo).d]) ∧ Below w.heap.size w w' := by
  obtain ⟨sa, sb, sc, sd⟩ := s
  obtain ⟨b1, b2, b3, b4, b5, b6, b7, b8⟩ := hs
  dsimp only at b1 b2 b3 b4 b5 b6 b7 b8
  have m1 := mul_bd (a := sa) (b := d) (A := 2000) (B := 1000) (by omega) (by omega) (by omega) (by omega)
  have m2 := mul_bd (a := lo - v) (b := sb) (A := 2000) (B := 2000) (by omega) (by omega) (by omega) (by omega)
  have m3 := mul_bd (a := -(lo - v)) (b := sd) (A := 2000) (B := 2000) (by omega) (by omega) (by omega) (by omega)
  have m4 := mul_bd (a := sc) (b := -d) (A := 2000) (B := 1000) (by omega) (by omega) (by omega) (by omega)
  obtain ⟨m1, n1⟩ := m1
  obtain ⟨m2, n2⟩ := m2
  obtain ⟨m3, n3⟩ := m3
  obtain ⟨m4, n4⟩ := m4
  have hB : ∀ o1 o2 : Obj, Below w.heap.size w ((w.alloc o1).alloc o2) := fun o1 o2 => ((Below.refl _ _).alloc (Nat.le_refl _) _).alloc (by simp) _
  obtain ⟨r, hr⟩ : ∃ r, cutZ ⟨sa, sb, sc, sd⟩ v d lo = r := ⟨_, rfl⟩
  rw [hr]
  have HR : Hid (cutZ ⟨sa, sb, sc, sd⟩ v d lo = r) := hr
  clear hr
  go_enter Tryz.func186, Tryz.ntmps186
  go_wp2
  all_goals
    refine bodyPost_ret (v := .agg #[.int .i64 _, .int .i64 _, .int .i64 _, .int .i64 _]) (by simp [results, Tryz.results186, go_sem]; exact ⟨rfl, rfl, rfl, rfl⟩) rfl ⟨?_, hB _ _⟩
    have hr := HR.out
    simp only [cutZ] at hr
    split at hr
    · subst hr; first | rfl | (exfalso; omega)
    · split at hr
      · subst hr; first | rfl | (exfalso; omega)
      · split at hr
        · subst hr; first | rfl | (exfalso; omega)
        · subst hr; first | rfl | (exfalso; omega)

end Go.Proofs.YtenaepdmlknlcaaGreatDoor
