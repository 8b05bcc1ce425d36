import Derived.Test.YtcgpdfefnmhnhaaDoorZa
namespace Go.Proofs.YtcgpdfefnmhnhaaDoor
open Go.RowKit Go.Shelf

def areaF (x0 y0 x1 p : Int) : Feat := ⟨4, 3, 0, 5, [(x0, y0), (x1, y0), (x1, y0 + p - 1), (x0, y0 + p - 1)]⟩
def lineF (h x0 y0 x1 : Int) : Feat := ⟨3, 2, h, 6, [(x0 + 1, y0 + 1), (x1, y0 + 1)]⟩

theorem box_area (x0 y0 x1 p : Int) (hx : x0 ≤ x1) (hp : 1 ≤ p) : boxZ [(x0, y0), (x1, y0), (x1, y0 + p - 1), (x0, y0 + p - 1)] = ⟨x0, y0, x1, y0 + p - 1⟩ := by
  simp only [boxZ, List.foldl_cons, List.foldl_nil, bxAt, Bx.join, mnZ, mxZ, Bx.mk.injEq]
  omega
theorem box_line (x0 y0 x1 : Int) (hx : x0 + 1 ≤ x1) : boxZ [(x0 + 1, y0 + 1), (x1, y0 + 1)] = ⟨x0 + 1, y0 + 1, x1, y0 + 1⟩ := by
  simp only [boxZ, List.foldl_cons, List.foldl_nil, bxAt, Bx.join, mnZ, mxZ, Bx.mk.injEq]
  omega

/-- A vertical side. -/
theorem cross_up (x ya yb mx my : Int) (h : yb < ya) : crossB x ya x yb mx my = decide (yb ≤ my ∧ my < ya ∧ mx < x) := by
  unfold crossB
  simp only [Int.sub_self, Int.mul_zero]
  by_cases h1 : my < ya
  · by_cases h2 : my < yb
    · simp [h1, h2]; omega
    · simp only [h1, h2, decide_true, decide_false, if_pos h]
      rw [if_neg (by simp)]
      have hpos : 0 < ya - yb := by omega
      rw [decide_eq_decide]
      constructor
      · intro hm
        refine ⟨by omega, trivial, ?_⟩
        have := Int.neg_of_mul_neg_left hm (by omega)
        omega
      · rintro ⟨_, _, hm⟩
        exact Int.mul_neg_of_neg_of_pos (by omega) hpos
  · have h2 : ¬ my < yb := by omega
    simp [h1, h2]
theorem cross_down (x ya yb mx my : Int) (h : ya < yb) : crossB x ya x yb mx my = decide (ya ≤ my ∧ my < yb ∧ mx < x) := by
  unfold crossB
  simp only [Int.sub_self, Int.mul_zero]
  by_cases h1 : my < ya
  · have h2 : my < yb := by omega
    simp [h1, h2]; omega
  · by_cases h2 : my < yb
    · simp only [h1, h2, decide_true, decide_false]
      rw [if_neg (by simp), if_neg (by omega)]
      have hpos : 0 < yb - ya := by omega
      rw [decide_eq_decide]
      constructor
      · intro hm
        refine ⟨by omega, trivial, ?_⟩
        have := Int.neg_of_mul_neg_left hm (by omega)
        omega
      · rintro ⟨_, _, hm⟩
        exact Int.mul_neg_of_neg_of_pos (by omega) hpos
    · simp [h1, h2]
theorem cross_level (x x' y mx my : Int) : crossB x y x' y mx my = false := by simp [crossB]

theorem area_covers (x0 y0 x1 p mx my : Int) (hp : 2 ≤ p) (hx : x0 ≤ x1) :
    areaB [(x0, y0), (x1, y0), (x1, y0 + p - 1), (x0, y0 + p - 1)] mx my = decide (y0 ≤ my ∧ my < y0 + p - 1 ∧ x0 ≤ mx ∧ mx < x1) := by
  simp only [areaB, parTo, fromAt, pg, List.length_cons, List.length_nil, Nat.zero_add, Nat.reduceAdd, Nat.reduceSub, List.getD_cons_zero, List.getD_cons_succ, if_true]
  simp only [show ((1 : Nat) = 0) = False from by simp, show ((2 : Nat) = 0) = False from by simp, show ((3 : Nat) = 0) = False from by simp, if_false]
  rw [cross_up x0 (y0 + p - 1) y0 mx my (by omega), cross_level, cross_down x1 y0 (y0 + p - 1) mx my (by omega), cross_level]
  by_cases h1 : y0 ≤ my <;> by_cases h2 : my < y0 + p - 1 <;> by_cases h3 : mx < x0 <;> by_cases h4 : mx < x1 <;> simp [h1, h2, h3, h4] <;> omega

theorem line_covers (xa xb y l t r b : Int) (hx : xa < xb) (hs : t ≤ y → y ≤ b → t < y ∧ y < b) :
    lineB [(xa, y), (xb, y)] l t r b = decide (t ≤ y ∧ y ≤ b ∧ xa ≤ r ∧ l ≤ xb) := by
  have e : lineB [(xa, y), (xb, y)] l t r b = segB xa y xb y l t r b := by
    simp [lineB, lineTo, segAt, pg]
  have hb : boxZ [(xa, y), (xb, y)] = ⟨xa, y, xb, y⟩ := by
    simp only [boxZ, List.foldl_cons, List.foldl_nil, bxAt, Bx.join, mnZ, mxZ, Bx.mk.injEq]; omega
  rw [e, segB]
  have hm : segMeets xa y xb y l t r b = decide (t ≤ y ∧ y ≤ b ∧ xa ≤ r ∧ l ≤ xb) := by
    simp only [segMeets, hb, meetsB, decide_eq_decide]; omega
  rw [hm]
  by_cases hc : t ≤ y ∧ y ≤ b ∧ xa ≤ r ∧ l ≤ xb
  · obtain ⟨h1, h2, _, _⟩ := hc
    obtain ⟨h3, h4⟩ := hs h1 h2
    have hd : 0 < xb - xa := by omega
    have n0 : (xb - xa) * (t - y) < 0 := Int.mul_neg_of_pos_of_neg hd (by omega)
    have p0 : 0 < (xb - xa) * (b - y) := Int.mul_pos hd (by omega)
    have hL : cntL (turns xa y xb y l t r b) 4 = 2 := by
      simp only [cntL, turns, turnZ, cornX, cornY, Int.sub_self, Int.zero_mul, Int.sub_zero]
      rw [if_pos n0, if_neg (by omega)]
      rfl
    have hR : cntR (turns xa y xb y l t r b) 4 = 2 := by
      simp only [cntR, turns, turnZ, cornX, cornY, Int.sub_self, Int.zero_mul, Int.sub_zero]
      rw [if_neg (by omega), if_pos p0]
      rfl
    rw [hL, hR]
    simp
  · simp [hc]

/-- Which pixels the two cover. -/
def inRunB (a n k : Nat) : Bool := decide (16 + a ≤ k ∧ k < 16 + a + n)

theorem cover_area (p c r : Int) (a n k : Nat) (hp : p = 32 ∨ p = 16 ∨ p = 8 ∨ p = 4) (_hk : k < 64) (hn : 1 ≤ n) (han : a + n ≤ 8) :
    coverB 3 [(c * (8 * p) + a * p, r * (8 * p) + 2 * p), (c * (8 * p) + a * p + n * p - 1, r * (8 * p) + 2 * p), (c * (8 * p) + a * p + n * p - 1, r * (8 * p) + 2 * p + p - 1), (c * (8 * p) + a * p, r * (8 * p) + 2 * p + p - 1)] (pixZ p c r k).l (pixZ p c r k).t (pixZ p c r k).r (pixZ p c r k).b = inRunB a n k := by
  simp only [coverB, show ((3 : Int) = 1) = False from by simp, show ((3 : Int) = 2) = False from by simp, if_false, if_true]
  rcases hp with rfl | rfl | rfl | rfl
  all_goals
    rw [area_covers _ _ _ _ _ _ (by omega) (by omega), inRunB, decide_eq_decide]
    simp only [pixZ]
    omega

theorem cover_line (p c r : Int) (a n k : Nat) (hp : p = 32 ∨ p = 16 ∨ p = 8 ∨ p = 4) (_hk : k < 64) (hn : 1 ≤ n) (han : a + n ≤ 8) :
    coverB 2 [(c * (8 * p) + a * p + 1, r * (8 * p) + 2 * p + 1), (c * (8 * p) + a * p + n * p - 1, r * (8 * p) + 2 * p + 1)] (pixZ p c r k).l (pixZ p c r k).t (pixZ p c r k).r (pixZ p c r k).b = inRunB a n k := by
  simp only [coverB, show ((2 : Int) = 1) = False from by simp, if_false, if_true]
  rcases hp with rfl | rfl | rfl | rfl
  all_goals
    rw [line_covers _ _ _ _ _ _ _ (by omega) (by simp only [pixZ]; omega), inRunB, decide_eq_decide]
    simp only [pixZ]
    omega

theorem meets_area (p c r : Int) (a n k : Nat) (_hk : k < 64) (hp : p = 32 ∨ p = 16 ∨ p = 8 ∨ p = 4) (hn : 1 ≤ n) (h : inRunB a n k = true) (han : a + n ≤ 8) :
    meetBx (boxZ [(c * (8 * p) + a * p, r * (8 * p) + 2 * p), (c * (8 * p) + a * p + n * p - 1, r * (8 * p) + 2 * p), (c * (8 * p) + a * p + n * p - 1, r * (8 * p) + 2 * p + p - 1), (c * (8 * p) + a * p, r * (8 * p) + 2 * p + p - 1)]) (pixZ p c r k) = true := by
  simp only [inRunB, decide_eq_true_eq] at h
  rcases hp with rfl | rfl | rfl | rfl
  all_goals
    rw [box_area _ _ _ _ (by omega) (by omega)]
    unfold meetBx meetsB
    refine decide_eq_true ?_
    simp only [pixZ]
    omega
theorem meets_line (p c r : Int) (a n k : Nat) (_hk : k < 64) (hp : p = 32 ∨ p = 16 ∨ p = 8 ∨ p = 4) (hn : 1 ≤ n) (h : inRunB a n k = true) (han : a + n ≤ 8) :
    meetBx (boxZ [(c * (8 * p) + a * p + 1, r * (8 * p) + 2 * p + 1), (c * (8 * p) + a * p + n * p - 1, r * (8 * p) + 2 * p + 1)]) (pixZ p c r k) = true := by
  simp only [inRunB, decide_eq_true_eq] at h
  rcases hp with rfl | rfl | rfl | rfl
  all_goals
    rw [box_line _ _ _ (by omega)]
    unfold meetBx meetsB
    refine decide_eq_true ?_
    simp only [pixZ]
    omega

theorem pick_skip {x : Bx} {o : Option FV} {v : FV} (h : coverB v.f.kd v.f.ps x.l x.t x.r x.b = false) : pickV x o v = o := by simp [pickV, h]

/-- The colour of a pixel of the two. -/
theorem col_two (x : Bx) (A L : FV) (hA : meetF x A = true) (hL : meetF x L = true) (cA : coverB A.f.kd A.f.ps x.l x.t x.r x.b = true) (cL : coverB L.f.kd L.f.ps x.l x.t x.r x.b = true) :
    tcol (topOf x ([A, L].filter (meetF x))) = if aboveB L.f.ht L.f.id A.f.ht A.f.id then L.f.col else A.f.col := by
  simp only [List.filter_cons, hA, hL, if_true, List.filter_nil, topOf, List.foldl_cons, List.foldl_nil]
  simp only [pickV, cA, cL, if_true]
  split <;> rfl
theorem col_none (x : Bx) (A L : FV) (cA : coverB A.f.kd A.f.ps x.l x.t x.r x.b = false) (cL : coverB L.f.kd L.f.ps x.l x.t x.r x.b = false) :
    tcol (topOf x ([A, L].filter (meetF x))) = 0 := by
  simp only [List.filter_cons, List.filter_nil]
  split <;> split <;> simp [topOf, pick_skip cA, pick_skip cL, tcol]

/-- Three runs. -/
theorem lead_rep (c m : Nat) (rest : List Nat) (h : rest[0]? ≠ some c) : lead c (List.replicate m c ++ rest) = m := by
  refine lead_spec c _ m (by simp) (fun j hj => ?_) ?_
  · rw [List.getElem?_append_left (by simpa using hj), List.getElem?_replicate, if_pos hj]
  · rw [List.getElem?_append_right (by simp), List.length_replicate, Nat.sub_self]; exact h
theorem rle_rep (c m : Nat) (rest : List Nat) (h : rest[0]? ≠ some c) : rle (List.replicate (m + 1) c ++ rest) = (m + 1, c) :: rle rest := by
  rw [List.replicate_succ, List.cons_append, rle, lead_rep c m rest h]
  congr 2
  rw [List.drop_append_of_le_length (by simp)]
  simp
theorem rle_three (a n b C : Nat) (hC : C ≠ 0) : rle (List.replicate (a + 1) 0 ++ (List.replicate (n + 1) C ++ List.replicate (b + 1) 0)) = [(a + 1, 0), (n + 1, C), (b + 1, 0)] := by
  rw [rle_rep 0 a _ (by rw [List.replicate_succ, List.cons_append]; simp [hC]), rle_rep C n _ (by rw [List.replicate_succ]; simp; omega)]
  have h := rle_rep 0 b [] (by simp)
  rw [List.append_nil] at h
  rw [h, rle]

theorem range_three (a n C : Nat) (han : a + n ≤ 8) :
    ((List.range 64).map fun k => if inRunB a n k then C else 0) = List.replicate (16 + a) 0 ++ (List.replicate n C ++ List.replicate (48 - a - n) 0) := by
  apply List.ext_getElem?
  intro k
  rw [List.getElem?_map]
  by_cases hk : k < 64
  · rw [List.getElem?_range hk, Option.map_some]
    by_cases h1 : k < 16 + a
    · have hin : inRunB a n k = false := by simp [inRunB]; omega
      rw [hin, List.getElem?_append_left (by simpa using h1), List.getElem?_replicate, if_pos h1]
      rfl
    · rw [List.getElem?_append_right (by simp; omega), List.length_replicate]
      by_cases h2 : k < 16 + a + n
      · have hin : inRunB a n k = true := by simp [inRunB]; omega
        rw [hin, List.getElem?_append_left (by simp; omega), List.getElem?_replicate, if_pos rfl, if_pos (by omega)]
      · have hin : inRunB a n k = false := by simp [inRunB]; omega
        rw [hin, List.getElem?_append_right (by simp; omega), List.length_replicate, List.getElem?_replicate, if_neg (by simp), if_pos (by omega)]
  · rw [List.getElem?_eq_none (by simp; omega), Option.map_none, List.getElem?_eq_none (by simp; omega)]

end Go.Proofs.YtcgpdfefnmhnhaaDoor
