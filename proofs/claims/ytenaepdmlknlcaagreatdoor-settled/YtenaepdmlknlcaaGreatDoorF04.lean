import Derived.Test.YtenaepdmlknlcaaGreatDoorF01
import Derived.Deep.DeepCutAuto
import Derived.Deep.RegionHeld3
namespace Go.Proofs.YtenaepdmlknlcaaGreatDoor
open Go.RowKit

/-- Two cells of a block, which may be written. -/
structure Q2 (w : World) (b : Nat) (v0 v1 : Value) : Prop where
  c0 : w.cell? ⟨b, 0, none⟩ = some v0
  c1 : w.cell? ⟨b, 1, none⟩ = some v1
  f0 : w.frozen? ⟨b, 0, none⟩ = false
  f1 : w.frozen? ⟨b, 1, none⟩ = false

theorem Q2.below {n : Nat} {A B : World} (h : Below n A B) {b : Nat} (hb : b < n) {v0 v1 : Value} (q : Q2 A b v0 v1) : Q2 B b v0 v1 := by
  obtain ⟨hc, hf⟩ := bcell h
  exact ⟨(hc _ _ hb).trans q.c0, (hc _ _ hb).trans q.c1, (hf _ _ hb).trans q.f0, (hf _ _ hb).trans q.f1⟩
theorem Q2.new (w : World) (v0 v1 : Value) (t : TypeId) : Q2 (w.alloc (.cells #[v0, v1] t)) w.heap.size v0 v1 := by
  constructor <;> simp [go_sem]
theorem Q2.set {w : World} {b : Nat} {v0 v1 : Value} (q : Q2 w b v0 v1) (x0 x1 : Value) : Q2 ((w.setCell ⟨b, 0, none⟩ x0).setCell ⟨b, 1, none⟩ x1) b x0 x1 := by
  obtain ⟨c0, c1, f0, f1⟩ := q
  constructor <;> simp [go_sem, c0, c1, f0, f1]
theorem Q2.alloc {w : World} {b : Nat} {v0 v1 : Value} (q : Q2 w b v0 v1) (h : b < w.heap.size) (o : Obj) : Q2 (w.alloc o) b v0 v1 := q.below ((Below.refl w.heap.size w).alloc (Nat.le_refl _) o) h
theorem below_set2 (n : Nat) (w : World) (b : Nat) (h : n ≤ b) (u0 u1 : Value) : Below n w ((w.setCell ⟨b, 0, none⟩ u0).setCell ⟨b, 1, none⟩ u1) :=
  ((Below.refl n w).setCell (p := ⟨b, 0, none⟩) h u0).setCell (p := ⟨b, 1, none⟩) h u1

theorem places2 {W : World} {N : Nat} {x y x' y' : Int} (h : N < W.heap.size) (c0 : W.cell? ⟨N, 0, none⟩ = some (.int .i64 x)) (c1 : W.cell? ⟨N, 1, none⟩ = some (.int .i64 y)) (c2 : W.cell? ⟨N, 2, none⟩ = some (.int .i64 x')) (c3 : W.cell? ⟨N, 3, none⟩ = some (.int .i64 y')) : Places W.heap.size W N 0 [(x, y), (x', y')] := by
  refine ⟨h, fun k a b e => ?_⟩
  match k, e with
  | 0, e => simp at e; obtain ⟨rfl, rfl⟩ := e; exact ⟨c0, c1⟩
  | 1, e => simp at e; obtain ⟨rfl, rfl⟩ := e; exact ⟨c2, c3⟩
  | k + 2, e => simp at e


theorem run_idx0 (a0 a1 a2 a3 a4 a5 a6 a7 : Value) (w : World) : Sem.run Tryz.prog (Instr.index 301 (Value.agg #[a0, a1, a2, a3, a4, a5, a6, a7]) (Value.int IntKind.i64 0)) w = .ok (Value.agg #[a0, a1]) w := by kernel_rfl
theorem run_idx1 (a0 a1 a2 a3 a4 a5 a6 a7 : Value) (w : World) : Sem.run Tryz.prog (Instr.index 301 (Value.agg #[a0, a1, a2, a3, a4, a5, a6, a7]) (Value.int IntKind.i64 1)) w = .ok (Value.agg #[a2, a3]) w := by kernel_rfl
theorem run_idx2 (a0 a1 a2 a3 a4 a5 a6 a7 : Value) (w : World) : Sem.run Tryz.prog (Instr.index 301 (Value.agg #[a0, a1, a2, a3, a4, a5, a6, a7]) (Value.int IntKind.i64 2)) w = .ok (Value.agg #[a4, a5]) w := by kernel_rfl
theorem run_idx3 (a0 a1 a2 a3 a4 a5 a6 a7 : Value) (w : World) : Sem.run Tryz.prog (Instr.index 301 (Value.agg #[a0, a1, a2, a3, a4, a5, a6, a7]) (Value.int IntKind.i64 3)) w = .ok (Value.agg #[a6, a7]) w := by kernel_rfl

def cntL (T : Nat → Int) : Nat → Int
  | 0 => 0
  | k + 1 => cntL T k + (if T k < 0 then 1 else 0)
def cntR (T : Nat → Int) : Nat → Int
  | 0 => 0
  | k + 1 => cntR T k + (if 0 < T k then 1 else 0)
theorem cntL_bd (T : Nat → Int) : ∀ k : Nat, 0 ≤ cntL T k ∧ cntL T k ≤ k
  | 0 => by simp [cntL]
  | k + 1 => by have := cntL_bd T k; simp only [cntL]; split <;> omega
theorem cntR_bd (T : Nat → Int) : ∀ k : Nat, 0 ≤ cntR T k ∧ cntR T k ≤ k
  | 0 => by simp [cntR]
  | k + 1 => by have := cntR_bd T k; simp only [cntR]; split <;> omega

def cornX (l r : Int) : Nat → Int
  | 0 => l
  | 1 => r
  | 2 => r
  | _ => l
def cornY (t b : Int) : Nat → Int
  | 0 => t
  | 1 => t
  | _ => b
def turns (ax ay bx by' l t r b : Int) (k : Nat) : Int := turnZ ax ay bx by' (cornX l r k) (cornY t b k)

def segMeets (ax ay bx by' l t r b : Int) : Bool := meetsB (boxZ [(ax, ay), (bx, by')]).l (boxZ [(ax, ay), (bx, by')]).t (boxZ [(ax, ay), (bx, by')]).r (boxZ [(ax, ay), (bx, by')]).b l t r b
def segB (ax ay bx by' l t r b : Int) : Bool :=
  segMeets ax ay bx by' l t r b && (decide (cntL (turns ax ay bx by' l t r b) 4 < 4) && decide (cntR (turns ax ay bx by' l t r b) 4 < 4))

set_option maxRecDepth 100000 in
set_option maxHeartbeats 2000000 in
theorem segmentMeets_any (ax ay bx by' l t r b : Int) (w : World) (h1 : 0 ≤ ax) (h2 : 0 ≤ ay) (h3 : 0 ≤ bx) (h4 : 0 ≤ by') (h5 : 0 ≤ l) (h6 : 0 ≤ t) (h7 : 0 ≤ r) (h8 : 0 ≤ b) (g1 : ax ≤ 1000) (g2 : ay ≤ 1000) (g3 : bx ≤ 1000) (g4 : by' ≤ 1000) (g5 : l ≤ 1000) (g6 : t ≤ 1000) (g7 : r ≤ 1000) (g8 : b ≤ 1000) :
    Calls Tryz.prog 159 #[.agg #[.int .i64 ax, .int .i64 ay], .agg #[.int .i64 bx, .int .i64 by'], .agg #[.int .i64 l, .int .i64 t, .int .i64 r, .int .i64 b]] w fun e w' => e = .returned (.bool (segB ax ay bx by' l t r b)) ∧ Below w.heap.size w w' := by
  go_enter Tryz.func159, Tryz.ntmps159
  go_upto_region 1 with fail
  go_cut [18] (fun v wc => v = .bool (!segMeets ax ay bx by' l t r b) ∧ Q2 wc w.heap.size (.int .i64 ax) (.int .i64 ay) ∧ Q2 wc (w.heap.size + 1) (.int .i64 bx) (.int .i64 by') ∧ Q4 wc (w.heap.size + 1 + 1) (.int .i64 l) (.int .i64 t) (.int .i64 r) (.int .i64 b) ∧ Below w.heap.size w wc ∧ w.heap.size + 3 ≤ wc.heap.size)
  case first =>
    go_region_held3 (fun w' => w'.cell? ⟨w.heap.size, 0, none⟩ = some (.int .i64 ax) ∧ w'.cell? ⟨w.heap.size, 1, none⟩ = some (.int .i64 ay) ∧ w'.cell? ⟨w.heap.size + 1, 0, none⟩ = some (.int .i64 bx) ∧ w'.cell? ⟨w.heap.size + 1, 1, none⟩ = some (.int .i64 by') ∧ w'.cell? ⟨w.heap.size + 1 + 1, 0, none⟩ = some (.int .i64 l) ∧ w'.cell? ⟨w.heap.size + 1 + 1, 1, none⟩ = some (.int .i64 t) ∧ w'.cell? ⟨w.heap.size + 1 + 1, 2, none⟩ = some (.int .i64 r) ∧ w'.cell? ⟨w.heap.size + 1 + 1, 3, none⟩ = some (.int .i64 b)) (first | (simp [go_sem]; done) | exact ⟨q1.c0, q1.c1, q2.c0, q2.c1, q3.c0, q3.c1, q3.c2, q3.c3⟩)
      (first
      | (go_at_call 53; refine Calls.mono (BoxOf_any _ 0 2 2 [(ax, ay), (bx, by')] _ ?_ rfl (by omega) (by omega) (by omega)) ?_; (refine places2 ?_ ?_ ?_ ?_ ?_ <;> simp [go_sem]); rintro e w1 ⟨rfl, hb1⟩; have q1 : Q2 w1 w.heap.size (.int .i64 ax) (.int .i64 ay) := Q2.below hb1 (by simp <;> omega) (by constructor <;> simp [go_sem]); have q2 : Q2 w1 (w.heap.size + 1) (.int .i64 bx) (.int .i64 by') := Q2.below hb1 (by simp <;> omega) (by constructor <;> simp [go_sem]); have q3 : Q4 w1 (w.heap.size + 1 + 1) (.int .i64 l) (.int .i64 t) (.int .i64 r) (.int .i64 b) := Q4.below hb1 (by simp <;> omega) (by constructor <;> simp [go_sem]); have hs1 : w.heap.size + 3 ≤ w1.heap.size := (by have := hb1.size; simp at this; omega); have hB1 : Below w.heap.size w w1 := ((((Below.refl _ _).alloc (Nat.le_refl _) _).alloc (by simp <;> omega) _).alloc (by simp <;> omega) _).alloc (by simp <;> omega) _ |>.drew |>.trans (hb1.mono (by simp <;> omega)))
      | (go_at_call 158; refine (Meets_any _ _ _ _ _ _ _ _ _).mono ?_; rintro e w2 ⟨rfl, hb2⟩; replace q1 := q1.below hb2 (by omega); replace q2 := q2.below hb2 (by omega); replace q3 := q3.below hb2 (by omega)))
    all_goals
      go_wp2_with fail
      go_meet
      exact ⟨rfl, q1, q2, q3, hB1.trans (hb2.mono (by omega)), Nat.le_trans hs1 hb2.size⟩
  case rest =>
  obtain ⟨rfl, q1, q2, q3, hB, hs⟩ := hcut
  by_cases hm : segMeets ax ay bx by' l t r b = true
  · have Hv : Hid (segB ax ay bx by' l t r b = (decide (cntL (turns ax ay bx by' l t r b) 4 < 4) && decide (cntR (turns ax ay bx by' l t r b) 4 < 4))) := by
      show segB ax ay bx by' l t r b = _
      simp only [segB, hm, Bool.true_and]
    have q3' := q3
    obtain ⟨d0, d1, d2, d3, _, _, _, _⟩ := q3'
    rw [hm, Bool.not_true]
    go_wp2_with (go_at_call 182; refine (corners_any _ _ _ _ _).mono ?_; rintro e w2 ⟨rfl, hb2⟩)
    replace q1 := q1.below hb2 (by omega)
    replace q2 := q2.below hb2 (by omega)
    have hs2 := Nat.le_trans hs hb2.size
    have hB2 := hB.trans (hb2.mono (by omega))
    clear d0 d1 d2 d3 q3 hB hs hb2 hm
    go_loopw [7, 8, 21] (fun le ri i wr => ∃ k : Nat, k ≤ 4 ∧ i = .int .i64 k ∧ le = .int .i64 (cntL (turns ax ay bx by' l t r b) k) ∧ ri = .int .i64 (cntR (turns ax ay bx by' l t r b) k) ∧ Q2 wr w.heap.size (.int .i64 ax) (.int .i64 ay) ∧ Q2 wr (w.heap.size + 1) (.int .i64 bx) (.int .i64 by') ∧ Below w.heap.size w wr ∧ w.heap.size + 3 ≤ wr.heap.size) (fun _ _ i _ => 4 - (intOf i).toNat)
    case atStart => exact ⟨0, by omega, rfl, rfl, rfl, q1, q2, hB2, hs2⟩
    case round =>
      clear q1 q2 hB2 hs2
      obtain ⟨k, hk, rfl, rfl, rfl, q1, q2, hB, hs⟩ := hrel
      by_cases hlt : k < 4
      · have bl := cntL_bd (turns ax ay bx by' l t r b) k
        have br := cntR_bd (turns ax ay bx by' l t r b) k
        generalize hL : cntL (turns ax ay bx by' l t r b) k = cl at *
        generalize hR : cntR (turns ax ay bx by' l t r b) k = cr at *
        have HL : Hid (cntL (turns ax ay bx by' l t r b) (k + 1) = cl + (if turns ax ay bx by' l t r b k < 0 then 1 else 0)) := by show cntL _ (k + 1) = _; rw [cntL, hL]
        have HR : Hid (cntR (turns ax ay bx by' l t r b) (k + 1) = cr + (if 0 < turns ax ay bx by' l t r b k then 1 else 0)) := by show cntR _ (k + 1) = _; rw [cntR, hR]
        clear hL hR
        obtain ⟨bl1, bl2⟩ := bl
        obtain ⟨br1, br2⟩ := br
        have q1' := q1
        have q2' := q2
        obtain ⟨d0, d1, _, _⟩ := q1'
        obtain ⟨e0, e1, _, _⟩ := q2'
        have hz0 : w.heap.size < wr.heap.size := by omega
        have hz1 : w.heap.size + 1 < wr.heap.size := by omega
        have hk4 : k = 0 ∨ k = 1 ∨ k = 2 ∨ k = 3 := by omega
        rcases hk4 with rfl | rfl | rfl | rfl <;>
        · go_wp2_with fail
          simp only [run_idx0, run_idx1, run_idx2, run_idx3]
          go_wp2_with (go_at_call 183; refine (turnOf_any _ _ _ _ _ _ _ (by omega) (by omega) (by omega) (by omega) (by omega) (by omega) (by omega) (by omega) (by omega) (by omega) (by omega) (by omega)).mono ?_; rintro e w3 ⟨rfl, hb3⟩; have hs3 := hb3.size)
          all_goals
            go_roundw
            case rel =>
              simp at hs3
              first
                | refine ⟨0 + 1, by omega, by go_num, ?_, ?_, ?_, ?_, ?_, ?_⟩
                | refine ⟨1 + 1, by omega, by go_num, ?_, ?_, ?_, ?_, ?_, ?_⟩
                | refine ⟨2 + 1, by omega, by go_num, ?_, ?_, ?_, ?_, ?_, ?_⟩
                | refine ⟨3 + 1, by omega, by go_num, ?_, ?_, ?_, ?_, ?_, ?_⟩
              · rw [HL.out]; congr 1; simp only [turns, cornX, cornY]; split <;> omega
              · rw [HR.out]; congr 1; simp only [turns, cornX, cornY]; split <;> omega
              · exact (q1.alloc (by omega) _).below hb3 (by simp; omega)
              · exact (q2.alloc (by omega) _).below hb3 (by simp; omega)
              · exact (hB.alloc (by omega) _).trans (hb3.mono (by simp; omega))
              · omega
            case measure => simp [intOf]
      · obtain rfl : k = 4 := by omega
        have Hl := (cntL_bd (turns ax ay bx by' l t r b) 4)
        by_cases c1 : cntL (turns ax ay bx by' l t r b) 4 < 4
        · go_wp2
          all_goals
            go_ret
            exact ⟨ret_bool (by rw [Hv.out]; simp; omega), hB⟩
        · go_wp2
          all_goals
            go_ret
            exact ⟨ret_bool (by rw [Hv.out]; simp; omega), hB⟩
  · have hm' : segMeets ax ay bx by' l t r b = false := by simpa using hm
    clear hm
    have Hv : Hid (segB ax ay bx by' l t r b = false) := by
      show segB ax ay bx by' l t r b = false
      simp only [segB, hm', Bool.false_and]
    rw [hm', Bool.not_false]
    go_wp2
    go_ret
    exact ⟨ret_bool Hv.out.symm, hB⟩

end Go.Proofs.YtenaepdmlknlcaaGreatDoor

namespace Go.Proofs.YtenaepdmlknlcaaGreatDoor
open Go.RowKit

def pg (ps : Pts) (i : Nat) : Int × Int := ps.getD i (0, 0)
theorem pg_of {ps : Pts} {i : Nat} {p : Int × Int} (h : ps[i]? = some p) : pg ps i = p := by simp [pg, List.getD, h]

theorem inW_of {ps : Pts} (ha : ps.all inW = true) {k : Nat} {x y : Int} (h : ps[k]? = some (x, y)) : 0 ≤ x ∧ x ≤ 255 ∧ 0 ≤ y ∧ y ≤ 255 := by
  have := List.all_eq_true.1 ha (x, y) (List.mem_of_getElem? h)
  simp [inW, inB] at this
  omega

def segAt (ps : Pts) (l t r b : Int) (j : Nat) : Bool := segB (pg ps (j - 1)).1 (pg ps (j - 1)).2 (pg ps j).1 (pg ps j).2 l t r b
/-- Does one of the segments up to place k meet the box? -/
def lineTo (ps : Pts) (l t r b : Int) : Nat → Bool
  | 0 => false
  | 1 => false
  | k + 2 => lineTo ps l t r b (k + 1) || segAt ps l t r b (k + 1)
def lineB (ps : Pts) (l t r b : Int) : Bool := lineTo ps l t r b ps.length
theorem lineTo_mono (ps : Pts) (l t r b : Int) (k : Nat) : ∀ d : Nat, lineTo ps l t r b k = true → lineTo ps l t r b (k + d) = true
  | 0, h => h
  | d + 1, h => by
    have ih := lineTo_mono ps l t r b k d h
    match hk : k + d, ih with
    | 0, ih => simp [lineTo] at ih
    | m + 1, ih => rw [show k + (d + 1) = m + 2 from by omega, lineTo, ih]; rfl

set_option maxRecDepth 100000 in
set_option maxHeartbeats 2000000 in
theorem lineCovers_any (bl off n cap : Nat) (ps : Pts) (l t r b : Int) (w : World) (hp : Places w.heap.size w bl off ps) (hn : n = ps.length) (hn1 : 2 ≤ n) (hn2 : n ≤ 1000000000000) (hall : ps.all inW = true)
    (h5 : 0 ≤ l) (h6 : 0 ≤ t) (h7 : 0 ≤ r) (h8 : 0 ≤ b) (g5 : l ≤ 1000) (g6 : t ≤ 1000) (g7 : r ≤ 1000) (g8 : b ≤ 1000) :
    Calls Tryz.prog 128 #[.slice (some ⟨bl, off, none⟩) n cap, .agg #[.int .i64 l, .int .i64 t, .int .i64 r, .int .i64 b]] w fun e w' => e = .returned (.bool (lineB ps l t r b)) ∧ Below w.heap.size w w' := by
  have Hn : Hid (n = ps.length) := hn
  have Hp : Hid (Places w.heap.size w bl off ps) := hp
  have Hall : Hid (ps.all inW = true) := hall
  have hbl := hp.1
  clear hn hp hall
  go_enter Tryz.func128, Tryz.ntmps128
  go_wp2
  go_loopw [5] (fun i wr => ∃ m : Nat, m + 1 ≤ n ∧ i = .int .i64 ((m : Int) + 1) ∧ lineTo ps l t r b (m + 1) = false ∧ Q4 wr w.heap.size (.int .i64 l) (.int .i64 t) (.int .i64 r) (.int .i64 b) ∧ Below w.heap.size w wr ∧ w.heap.size < wr.heap.size) (fun i _ => n - (intOf i).toNat)
  case atStart => exact ⟨0, by omega, rfl, rfl, Q4.new _ _ _ _ _ _, (Below.refl _ _).alloc (Nat.le_refl _) _, by simp⟩
  case round =>
    obtain ⟨m, hk, rfl, hline, q, hB, hs⟩ := hrel
    have Hline : Hid (lineTo ps l t r b (m + 1) = false) := hline
    clear hline
    by_cases hlt : m + 1 < n
    · obtain ⟨x, y, hxy, hx, hy⟩ := (Hp.out.below hB).at (k := m + 1) (by rw [← Hn.out]; omega)
      obtain ⟨x', y', hxy', hx', hy'⟩ := (Hp.out.below hB).at (k := m) (by rw [← Hn.out]; omega)
      obtain ⟨b1, b2, b3, b4⟩ := inW_of Hall.out hxy
      obtain ⟨b1', b2', b3', b4'⟩ := inW_of Hall.out hxy'
      have Hseg : Hid (lineTo ps l t r b (m + 1 + 1) = segB x' y' x y l t r b) := by
        show lineTo ps l t r b (m + 2) = _
        rw [lineTo, Hline.out, Bool.false_or, segAt, pg_of hxy, show m + 1 - 1 = m from rfl, pg_of hxy']
      clear hxy hxy' Hline
      have q' := q
      obtain ⟨c0, c1, c2, c3, f0, f1, f2, f3⟩ := q
      have hk2 : ((m : Int) + 1).toNat = m + 1 := by omega
      have hk3 : (m : Int) + 1 < (n : Int) := by omega
      have hk4 : (m : Int) < (n : Int) := by omega
      have hk5 : (0 : Int) ≤ (m : Int) := by omega
      have hk6 : (0 : Int) ≤ (m : Int) + 1 := by omega
      have hk7 : IntKind.i64.wrap (m : Int) = (m : Int) := by rw [IntKind.wrap_i64]; omega
      have hk8 : IntKind.i64.wrap ((m : Int) + 1 - 1) = (m : Int) := by rw [IntKind.wrap_i64]; omega
      go_upto_region 4 with fail
      go_region_held3 (fun w' => w'.cell? ⟨bl, off + (m + 1) * 2, none⟩ = some (.int .i64 x) ∧ w'.cell? ⟨bl, off + (m + 1) * 2 + 1, none⟩ = some (.int .i64 y) ∧ w'.cell? ⟨bl, off + m * 2, none⟩ = some (.int .i64 x') ∧ w'.cell? ⟨bl, off + m * 2 + 1, none⟩ = some (.int .i64 y') ∧ w'.cell? ⟨w.heap.size, 0, none⟩ = some (.int .i64 l) ∧ w'.cell? ⟨w.heap.size, 1, none⟩ = some (.int .i64 t) ∧ w'.cell? ⟨w.heap.size, 2, none⟩ = some (.int .i64 r) ∧ w'.cell? ⟨w.heap.size, 3, none⟩ = some (.int .i64 b)) (first | (simp [go_sem, *]; done) | exact s2)
        (first
        | (go_at_call 159; refine (segmentMeets_any x' y' x y l t r b _ (by omega) (by omega) (by omega) (by omega) (by omega) (by omega) (by omega) (by omega) (by omega) (by omega) (by omega) (by omega) (by omega) (by omega) (by omega) (by omega)).mono ?_; rintro e w2 ⟨rfl, hb2⟩; obtain ⟨hc2, hf2⟩ := bcell hb2; have s2 := And.intro ((hc2 bl (off + (m + 1) * 2) (by simp <;> omega)).trans hx) (And.intro ((hc2 bl (off + (m + 1) * 2 + 1) (by simp <;> omega)).trans hy) (And.intro ((hc2 bl (off + m * 2) (by simp <;> omega)).trans hx') (And.intro ((hc2 bl (off + m * 2 + 1) (by simp <;> omega)).trans hy') (And.intro ((hc2 w.heap.size 0 (by simp <;> omega)).trans c0) (And.intro ((hc2 w.heap.size 1 (by simp <;> omega)).trans c1) (And.intro ((hc2 w.heap.size 2 (by simp <;> omega)).trans c2) ((hc2 w.heap.size 3 (by simp <;> omega)).trans c3))))))); clear hc2 hf2))
      have hs2 := hb2.size
      simp at hs2
      have q2 := q'.drew.below hb2 (by simp <;> omega)
      have hB2 : Below w.heap.size w w2 := hB.drew.trans (hb2.mono (by simp <;> omega))
      clear s2 c0 c1 c2 c3 f0 f1 f2 f3 hx hy hx' hy' q'
      by_cases hsg : segB x' y' x y l t r b = true
      · have Hv : Hid (lineB ps l t r b = true) := by
          show lineB ps l t r b = true
          have h := lineTo_mono ps l t r b (m + 1 + 1) (ps.length - (m + 1 + 1)) (by rw [Hseg.out]; exact hsg)
          rw [show m + 1 + 1 + (ps.length - (m + 1 + 1)) = ps.length from by have := Hn.out; omega] at h
          exact h
        rw [hsg]
        go_wp2
        go_ret
        exact ⟨ret_bool Hv.out.symm, hB2⟩
      · have hsg' : segB x' y' x y l t r b = false := by simpa using hsg
        clear hsg
        have Hv : Hid (lineTo ps l t r b (m + 1 + 1) = false) := by show lineTo ps l t r b (m + 1 + 1) = false; rw [Hseg.out]; exact hsg'
        rw [hsg']
        clear hsg'
        go_wp2
        go_roundw
        case rel => exact ⟨m + 1, by omega, by go_num, Hv.out, q2, hB2, by omega⟩
        case measure => simp [intOf]; omega
    · have Hv : Hid (lineB ps l t r b = false) := by
        show lineTo ps l t r b ps.length = false
        rw [← Hn.out, show n = m + 1 from by omega]; exact Hline.out
      go_wp2
      go_ret
      exact ⟨ret_bool Hv.out.symm, hB⟩

def fromAt (ps : Pts) (k : Nat) : Int × Int := if k = 0 then pg ps (ps.length - 1) else pg ps (k - 1)
def parTo (ps : Pts) (mx my : Int) : Nat → Bool
  | 0 => false
  | k + 1 => if crossB (fromAt ps k).1 (fromAt ps k).2 (pg ps k).1 (pg ps k).2 mx my then !parTo ps mx my k else parTo ps mx my k
def areaB (ps : Pts) (mx my : Int) : Bool := parTo ps mx my ps.length

set_option maxRecDepth 100000 in
set_option maxHeartbeats 2000000 in
theorem areaHas_any (bl off n cap : Nat) (ps : Pts) (mx my : Int) (w : World) (hp : Places w.heap.size w bl off ps) (hn : n = ps.length) (hn1 : 3 ≤ n) (hn2 : n ≤ 1000000000000) (hall : ps.all inW = true)
    (h5 : 0 ≤ mx) (h6 : 0 ≤ my) (g5 : mx ≤ 1000) (g6 : my ≤ 1000) :
    Calls Tryz.prog 129 #[.slice (some ⟨bl, off, none⟩) n cap, .agg #[.int .i64 mx, .int .i64 my]] w fun e w' => e = .returned (.bool (areaB ps mx my)) ∧ Below w.heap.size w w' := by
  have Hn : Hid (n = ps.length) := hn
  have Hp : Hid (Places w.heap.size w bl off ps) := hp
  have Hall : Hid (ps.all inW = true) := hall
  have hbl := hp.1
  obtain ⟨x0, y0, hxy0, hx0, hy0⟩ := hp.at (k := n - 1) (by omega)
  obtain ⟨b1, b2, b3, b4⟩ := inW_of hall hxy0
  have H0 : Hid (fromAt ps 0 = (x0, y0)) := by show (if 0 = 0 then pg ps (ps.length - 1) else _) = _; rw [if_pos rfl, ← hn]; exact pg_of hxy0
  clear hn hp hall hxy0
  have hk2 : ((n : Int) - 1).toNat = n - 1 := by omega
  go_enter Tryz.func129, Tryz.ntmps129
  go_wp2
  go_loopw [5, 17] (fun ins i wr => ∃ (k : Nat) (fx fy : Int), k ≤ n ∧ i = .int .i64 k ∧ ins = .bool (parTo ps mx my k) ∧ (k < n → fromAt ps k = (fx, fy)) ∧ 0 ≤ fx ∧ fx ≤ 255 ∧ 0 ≤ fy ∧ fy ≤ 255 ∧ Q2 wr w.heap.size (.int .i64 mx) (.int .i64 my) ∧ Q2 wr (w.heap.size + 1) (.int .i64 fx) (.int .i64 fy) ∧ Below w.heap.size w wr ∧ w.heap.size + 2 ≤ wr.heap.size) (fun _ i _ => n - (intOf i).toNat)
  case atStart =>
    refine ⟨0, x0, y0, by omega, rfl, rfl, fun _ => H0.out, b1, b2, b3, b4, (Q2.new w _ _ _).alloc (by simp) _, ?_, ((Below.refl _ _).alloc (Nat.le_refl _) _).alloc (by simp) _, by simp⟩
    have h := Q2.new (w.alloc (.cells #[.int .i64 mx, .int .i64 my] 29)) (.int .i64 x0) (.int .i64 y0) 29
    rw [World.size_alloc] at h
    exact h
  case round =>
    clear b1 b2 b3 b4
    obtain ⟨k, fx, fy, hk, rfl, rfl, hfr, f1, f2, f3, f4, q0, q1, hB, hs⟩ := hrel
    by_cases hlt : k < n
    · obtain ⟨x, y, hxy, hx, hy⟩ := (Hp.out.below hB).at (k := k) (by rw [← Hn.out]; omega)
      obtain ⟨b1, b2, b3, b4⟩ := inW_of Hall.out hxy
      have Hfr : Hid (fromAt ps k = (fx, fy)) := hfr hlt
      have Hpar : Hid (parTo ps mx my (k + 1) = if crossB fx fy x y mx my then !parTo ps mx my k else parTo ps mx my k) := by
        show parTo ps mx my (k + 1) = _
        rw [parTo, Hfr.out, pg_of hxy]
      have Hnext : Hid (fromAt ps (k + 1) = (x, y)) := by show (if k + 1 = 0 then _ else pg ps (k + 1 - 1)) = _; rw [if_neg (by omega)]; exact pg_of hxy
      clear hfr Hfr hxy
      generalize hg : parTo ps mx my k = pk at *
      clear hg
      have q0' := q0
      have q1' := q1
      obtain ⟨c0, c1, _, _⟩ := q0'
      obtain ⟨d0, d1, d2, d3⟩ := q1'
      have hz0 : w.heap.size < wr.heap.size := by omega
      have hz1 : w.heap.size + 1 < wr.heap.size := by omega
      have hz2 : bl < wr.heap.size := by omega
      by_cases hcr : crossB fx fy x y mx my = true
      · have Hp1 : Hid (parTo ps mx my (k + 1) = !pk) := by show parTo ps mx my (k + 1) = _; rw [Hpar.out, hcr, if_pos rfl]
        clear Hpar
        go_wp2_with (go_at_call 160; refine (crossed_any fx fy x y mx my _ (by omega) (by omega) (by omega) (by omega) (by omega) (by omega) (by omega) (by omega) (by omega) (by omega) (by omega) (by omega)).mono ?_; rintro e w2 ⟨rfl, hb2⟩; have hs2 := hb2.size; simp at hs2; have k0 := (q0.alloc hz0 _).below hb2 (by simp; omega); have k1 := (q1.alloc hz1 _).below hb2 (by simp; omega); have k2 := (Q2.new wr (.int .i64 x) (.int .i64 y) 29).below hb2 (by simp); have k3 := k1.c0; have k4 := k1.c1; have k5 := k1.f0; have k6 := k1.f1; have k7 := k2.c0; have k8 := k2.c1)
        refine ⟨⟨k + 1, x, y, by omega, by go_num, by rw [Hp1.out], fun _ => Hnext.out, by omega, by omega, by omega, by omega, k0.below (below_set2 (w.heap.size + 1) _ _ (Nat.le_refl _) _ _) (by omega), k1.set _ _, ((hB.alloc (by omega) _).trans (hb2.mono (by simp; omega))).trans (below_set2 w.heap.size _ _ (by omega) _ _), Nat.le_trans (by omega) (below_set2 w.heap.size w2 (w.heap.size + 1) (by omega) _ _).size⟩, by simp [intOf]; omega⟩
      · have hcr' : crossB fx fy x y mx my = false := by simpa using hcr
        clear hcr
        have Hp1 : Hid (parTo ps mx my (k + 1) = pk) := by show parTo ps mx my (k + 1) = _; rw [Hpar.out, hcr', if_neg (by simp)]
        clear Hpar
        go_wp2_with (go_at_call 160; refine (crossed_any fx fy x y mx my _ (by omega) (by omega) (by omega) (by omega) (by omega) (by omega) (by omega) (by omega) (by omega) (by omega) (by omega) (by omega)).mono ?_; rintro e w2 ⟨rfl, hb2⟩; have hs2 := hb2.size; simp at hs2; have k0 := (q0.alloc hz0 _).below hb2 (by simp; omega); have k1 := (q1.alloc hz1 _).below hb2 (by simp; omega); have k2 := (Q2.new wr (.int .i64 x) (.int .i64 y) 29).below hb2 (by simp); have k3 := k1.c0; have k4 := k1.c1; have k5 := k1.f0; have k6 := k1.f1; have k7 := k2.c0; have k8 := k2.c1)
        refine ⟨⟨k + 1, x, y, by omega, by go_num, by rw [Hp1.out], fun _ => Hnext.out, by omega, by omega, by omega, by omega, k0.below (below_set2 (w.heap.size + 1) _ _ (Nat.le_refl _) _ _) (by omega), k1.set _ _, ((hB.alloc (by omega) _).trans (hb2.mono (by simp; omega))).trans (below_set2 w.heap.size _ _ (by omega) _ _), Nat.le_trans (by omega) (below_set2 w.heap.size w2 (w.heap.size + 1) (by omega) _ _).size⟩, by simp [intOf]; omega⟩
    · have Hv : Hid (areaB ps mx my = parTo ps mx my k) := by
        show parTo ps mx my ps.length = _
        rw [← Hn.out, show n = k from by omega]
      go_wp2
      go_ret
      exact ⟨ret_bool Hv.out.symm, hB⟩

def coverB (kd : Int) (ps : Pts) (l t r b : Int) : Bool :=
  if kd = 1 then pointB (pg ps 0).1 (pg ps 0).2 l t r b
  else if kd = 2 then lineB ps l t r b
  else if kd = 3 then areaB ps ((l + r) / 2) ((t + b) / 2)
  else false

end Go.Proofs.YtenaepdmlknlcaaGreatDoor

namespace Go.Proofs.YtenaepdmlknlcaaGreatDoor
open Go.RowKit

set_option maxRecDepth 100000 in
set_option maxHeartbeats 2000000 in
theorem Covers_any (id kd ht col : Int) (bl off n cap : Nat) (ps : Pts) (l t r b : Int) (w : World) (hp : Places w.heap.size w bl off ps) (hn : n = ps.length) (hmay : mayB kd n = true) (hall : ps.all inW = true)
    (h5 : 0 ≤ l) (h6 : 0 ≤ t) (h7 : 0 ≤ r) (h8 : 0 ≤ b) (g5 : l ≤ 1000) (g6 : t ≤ 1000) (g7 : r ≤ 1000) (g8 : b ≤ 1000) :
    Calls Tryz.prog 91 #[.agg #[.int .i64 id, .int .i64 kd, .int .i64 ht, .int .i64 col, .slice (some ⟨bl, off, none⟩) n cap], .agg #[.int .i64 l, .int .i64 t, .int .i64 r, .int .i64 b]] w fun e w' => e = .returned (.bool (coverB kd ps l t r b)) ∧ Below w.heap.size w w' := by
  have hB : ∀ o1 o2 : Obj, Below w.heap.size w ((w.alloc o1).alloc o2) := fun o1 o2 => ((Below.refl _ _).alloc (Nat.le_refl _) _).alloc (by simp) _
  have hk : (kd = 1 ∧ n = 1) ∨ (kd = 2 ∧ 2 ≤ n ∧ n ≤ 6) ∨ (kd = 3 ∧ 3 ≤ n ∧ n ≤ 6) := by
    simp [mayB] at hmay; omega
  clear hmay
  have hbl := hp.1
  have Hp : Hid (Places w.heap.size w bl off ps) := hp
  have Hn : Hid (n = ps.length) := hn
  have Hall : Hid (ps.all inW = true) := hall
  clear hall
  rcases hk with ⟨rfl, rfl⟩ | ⟨rfl, hn1, hn2⟩ | ⟨rfl, hn1, hn2⟩
  · obtain ⟨x, y, hxy, hx, hy⟩ := hp.at (k := 0) (by omega)
    have Hv : Hid (coverB 1 ps l t r b = pointB x y l t r b) := by show coverB 1 ps l t r b = _; simp only [coverB, pg_of hxy, if_true]
    clear hxy hp hn
    simp only [Nat.zero_mul, Nat.add_zero] at hx hy
    go_enter Tryz.func91, Tryz.ntmps91
    go_upto_region 3 with fail
    go_region_held3 (fun w' => w'.cell? ⟨w.heap.size, 4, none⟩ = some (.slice (some ⟨bl, off, none⟩) 1 cap) ∧ w'.cell? ⟨bl, off, none⟩ = some (.int .i64 x) ∧ w'.cell? ⟨bl, off + 1, none⟩ = some (.int .i64 y) ∧ w'.cell? ⟨w.heap.size + 1, 0, none⟩ = some (.int .i64 l) ∧ w'.cell? ⟨w.heap.size + 1, 1, none⟩ = some (.int .i64 t) ∧ w'.cell? ⟨w.heap.size + 1, 2, none⟩ = some (.int .i64 r) ∧ w'.cell? ⟨w.heap.size + 1, 3, none⟩ = some (.int .i64 b)) (first | (simp [go_sem, *]; done) | exact s2)
      (first
      | (go_at_call 127; refine (pointCovers_any x y l t r b _).mono ?_; rintro e w2 ⟨rfl, hb2⟩; obtain ⟨hc2, hf2⟩ := bcell hb2; have s2 := And.intro ((hc2 w.heap.size 4 (by simp <;> omega)).trans (show _ = some (Value.slice (some ⟨bl, off, none⟩) 1 cap) from (by simp [go_sem]))) (And.intro ((hc2 bl off (by simp <;> omega)).trans (show _ = some (Value.int .i64 x) from (by simp [go_sem, *]))) (And.intro ((hc2 bl (off + 1) (by simp <;> omega)).trans (show _ = some (Value.int .i64 y) from (by simp [go_sem, *]))) (And.intro ((hc2 (w.heap.size + 1) 0 (by simp <;> omega)).trans (show _ = some (Value.int .i64 l) from (by simp [go_sem]))) (And.intro ((hc2 (w.heap.size + 1) 1 (by simp <;> omega)).trans (show _ = some (Value.int .i64 t) from (by simp [go_sem]))) (And.intro ((hc2 (w.heap.size + 1) 2 (by simp <;> omega)).trans (show _ = some (Value.int .i64 r) from (by simp [go_sem]))) ((hc2 (w.heap.size + 1) 3 (by simp <;> omega)).trans (show _ = some (Value.int .i64 b) from (by simp [go_sem])))))))); clear hc2 hf2))
    go_wp2
    go_ret
    exact ⟨ret_bool Hv.out.symm, (hB _ _).drew.trans (hb2.mono (by simp <;> omega))⟩
  · have Hv : Hid (coverB 2 ps l t r b = lineB ps l t r b) := by show coverB 2 ps l t r b = _; simp [coverB]
    clear hp hn
    go_enter Tryz.func91, Tryz.ntmps91
    go_wp2_with (go_at_call 128; refine (lineCovers_any bl off n cap ps l t r b _ ((Hp.out.below (hB _ _)).mono (by simp <;> omega)) Hn.out hn1 (by omega) Hall.out h5 h6 h7 h8 g5 g6 g7 g8).mono ?_; rintro e w2 ⟨rfl, hb2⟩)
    go_ret
    exact ⟨ret_bool Hv.out.symm, (hB _ _).trans (hb2.mono (by simp <;> omega))⟩
  · have Hv : Hid (coverB 3 ps l t r b = areaB ps ((l + r) / 2) ((t + b) / 2)) := by show coverB 3 ps l t r b = _; simp [coverB]
    clear hp hn
    go_enter Tryz.func91, Tryz.ntmps91
    go_upto_region 7 with fail
    go_region_held3 (fun w' => w'.cell? ⟨w.heap.size, 4, none⟩ = some (.slice (some ⟨bl, off, none⟩) n cap) ∧ w'.cell? ⟨w.heap.size + 1, 0, none⟩ = some (.int .i64 l) ∧ w'.cell? ⟨w.heap.size + 1, 1, none⟩ = some (.int .i64 t) ∧ w'.cell? ⟨w.heap.size + 1, 2, none⟩ = some (.int .i64 r) ∧ w'.cell? ⟨w.heap.size + 1, 3, none⟩ = some (.int .i64 b)) (first | (simp [go_sem, *]; done) | exact s3 | exact s2)
      (first
      | (go_at_call 130; refine (middle_any l t r b _ h5 h6 h7 h8 g5 g6 g7 g8).mono ?_; rintro e w2 ⟨rfl, hb2⟩; obtain ⟨hc2, hf2⟩ := bcell hb2; have s2 := And.intro ((hc2 w.heap.size 4 (by simp <;> omega)).trans (show _ = some (Value.slice (some ⟨bl, off, none⟩) n cap) from (by simp [go_sem]))) (And.intro ((hc2 (w.heap.size + 1) 0 (by simp <;> omega)).trans (show _ = some (Value.int .i64 l) from (by simp [go_sem]))) (And.intro ((hc2 (w.heap.size + 1) 1 (by simp <;> omega)).trans (show _ = some (Value.int .i64 t) from (by simp [go_sem]))) (And.intro ((hc2 (w.heap.size + 1) 2 (by simp <;> omega)).trans (show _ = some (Value.int .i64 r) from (by simp [go_sem]))) ((hc2 (w.heap.size + 1) 3 (by simp <;> omega)).trans (show _ = some (Value.int .i64 b) from (by simp [go_sem])))))); have hz2 : w.heap.size + 2 ≤ w2.heap.size := (by have := hb2.size; simp at this; omega); have hB2 : Below w.heap.size w w2 := (hB _ _).drew.trans (hb2.mono (by simp <;> omega)); clear hc2 hf2)
      | (go_at_call 129; refine (areaHas_any bl off n cap ps _ _ _ ((Hp.out.below hB2).mono (by omega)) Hn.out hn1 (by omega) Hall.out (by omega) (by omega) (by omega) (by omega)).mono ?_; rintro e w3 ⟨rfl, hb3⟩; obtain ⟨hc3, hf3⟩ := bcell hb3; have s3 := And.intro ((hc3 w.heap.size 4 (by omega)).trans s2.1) (And.intro ((hc3 (w.heap.size + 1) 0 (by omega)).trans s2.2.1) (And.intro ((hc3 (w.heap.size + 1) 1 (by omega)).trans s2.2.2.1) (And.intro ((hc3 (w.heap.size + 1) 2 (by omega)).trans s2.2.2.2.1) ((hc3 (w.heap.size + 1) 3 (by omega)).trans s2.2.2.2.2)))); clear hc3 hf3))
    go_wp2
    go_ret
    exact ⟨ret_bool Hv.out.symm, hB2.trans (hb3.mono (by omega))⟩

def aboveB (h i h' i' : Int) : Bool := if h = h' then decide (i' < i) else decide (h' < h)

set_option maxHeartbeats 1000000 in
theorem above_any (id kd ht col : Int) (v : Value) (id' kd' ht' col' : Int) (v' : Value) (w : World) (hv : ∃ a n c, v = .slice a n c) (hv' : ∃ a n c, v' = .slice a n c) :
    Calls Tryz.prog 92 #[.agg #[.int .i64 id, .int .i64 kd, .int .i64 ht, .int .i64 col, v], .agg #[.int .i64 id', .int .i64 kd', .int .i64 ht', .int .i64 col', v']] w fun e w' => e = .returned (.bool (aboveB ht id ht' id')) ∧ Below w.heap.size w w' := by
  obtain ⟨a, n, c, rfl⟩ := hv
  obtain ⟨a', n', c', rfl⟩ := hv'
  have hB : ∀ o1 o2 : Obj, Below w.heap.size w ((w.alloc o1).alloc o2) := fun o1 o2 => ((Below.refl _ _).alloc (Nat.le_refl _) _).alloc (by simp) _
  by_cases h : ht = ht'
  · have hh : (ht != ht') = false := by simp [h]
    have Hv : Hid (aboveB ht id ht' id' = decide (id' < id)) := by show aboveB ht id ht' id' = _; simp [aboveB, h]
    clear h
    go_enter Tryz.func92, Tryz.ntmps92
    go_wp2
    go_ret
    exact ⟨ret_bool Hv.out.symm, hB _ _⟩
  · have hh : (ht != ht') = true := by simp [h]
    have Hv : Hid (aboveB ht id ht' id' = decide (ht' < ht)) := by show aboveB ht id ht' id' = _; simp [aboveB, h]
    clear h
    go_enter Tryz.func92, Tryz.ntmps92
    go_wp2
    go_ret
    exact ⟨ret_bool Hv.out.symm, hB _ _⟩

end Go.Proofs.YtenaepdmlknlcaaGreatDoor
