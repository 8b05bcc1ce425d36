import Derived.Test.YtenaepdmlknlcaaDoorG14
namespace Go.Proofs.YtenaepdmlknlcaaDoor
open Go.RowKit Go.Shelf

theorem tmod_neg_bd (c n : Int) (hn : 0 < n) (h1 : c < 0) : 0 ≤ -(c + 1).tmod n ∧ -(c + 1).tmod n < n := by
  have h2 : 0 ≤ (-(c + 1)).tmod n := Int.tmod_nonneg n (by omega)
  have h3 : (-(c + 1)).tmod n < n := Int.tmod_lt_of_pos _ hn
  rw [Int.neg_tmod] at h2 h3
  exact ⟨h2, h3⟩
set_option maxHeartbeats 400000 in
theorem pick_any (c n : Int) (w : World) (hn : 0 < n) (hn2 : n ≤ 1000) (hc : -9223372036854775808 ≤ c) (hc2 : c ≤ 9223372036854775807) :
    Calls Tryd.prog 4 #[.int .i64 c, .int .i64 n] w fun e w' => ∃ r : Int, e = .returned (.int .i64 r) ∧ 0 ≤ r ∧ r < n ∧ w' = w := by
  by_cases h1 : c < 0
  · have hb := tmod_neg_bd c n hn h1
    go_enter Tryd.func4, Tryd.ntmps4
    go_wp2
    go_ret
    exact ⟨_, rfl, hb.1, hb.2, rfl⟩
  · go_enter Tryd.func4, Tryd.ntmps4
    go_wp2
    go_ret
    exact ⟨_, rfl, Int.emod_nonneg _ (by omega), Int.emod_lt_of_pos _ hn, rfl⟩



theorem dig10 (d : Nat) (h : d < 10) : ({ data := #[48, 49, 50, 51, 52, 53, 54, 55, 56, 57] } : ByteArray).extract d (d + 1) = ⟨[UInt8.ofNat (48 + d)].toArray⟩ := by
  have hc : d = 0 ∨ d = 1 ∨ d = 2 ∨ d = 3 ∨ d = 4 ∨ d = 5 ∨ d = 6 ∨ d = 7 ∨ d = 8 ∨ d = 9 := by omega
  rcases hc with rfl | rfl | rfl | rfl | rfl | rfl | rfl | rfl | rfl | rfl <;> decide

theorem ret_str {a b : ByteArray} (h : a = b) : Ending.returned (.string a) = .returned (.string b) := by rw [h]

set_option maxRecDepth 100000 in
set_option maxHeartbeats 1000000 in
theorem decimal1 (n : Nat) (w : World) (h : n < 10) :
    Calls Tryd.prog 6 #[.int .i64 (n : Int)] w fun e w' => e = .returned (.string ⟨(Lib.decDigits n).toArray⟩) ∧ w' = w := by
  have h1 : ¬ ((n : Int) < 0) := by omega
  have h2 : (n : Int) < 10 := by omega
  have hm : (n : Int) % 10 = (n : Int) := by omega
  go_enter Tryd.func6, Tryd.ntmps6
  go_wp2
  go_ret
  refine ⟨ret_str ?_, rfl⟩
  rw [dig10 n h, ByteArray.mk_append_mk [] _, List.nil_append, Lib.decDigits, dif_pos h]

set_option maxRecDepth 100000 in
set_option maxHeartbeats 1000000 in
theorem decimal2 (n : Nat) (w : World) (h0 : 10 ≤ n) (h : n < 100) :
    Calls Tryd.prog 6 #[.int .i64 (n : Int)] w fun e w' => e = .returned (.string ⟨(Lib.decDigits n).toArray⟩) ∧ w' = w := by
  have h1 : ¬ ((n : Int) < 0) := by omega
  have h2 : 10 ≤ (n : Int) := by omega
  have hs := decDigits_short (n / 10) (by omega)
  have hA : (9223372036854775807 < (Lib.decDigits (n / 10)).length) = False := eq_false (by omega)
  have hB : (9223372036854775807 < (Lib.decDigits (n / 10)).length + (min (n % 10 + 1) 10 - n % 10)) = False := eq_false (by omega)
  clear hs
  go_enter Tryd.func6, Tryd.ntmps6
  go_wp2_with (go_at_call 6; rw [show (n : Int) / 10 = ((n / 10 : Nat) : Int) from by omega]; refine (decimal1 (n / 10) _ (by omega)).mono ?_; rintro e w' ⟨rfl, rfl⟩)
  go_ret
  refine ⟨ret_str ?_, rfl⟩
  rw [dig10 (n % 10) (by omega), ByteArray.mk_append_mk [] _, List.nil_append, ByteArray.mk_append_mk]
  conv => rhs; rw [Lib.decDigits, dif_neg (by omega)]

theorem decimal_any (n : Nat) (w : World) (h : n < 100) :
    Calls Tryd.prog 6 #[.int .i64 (n : Int)] w fun e w' => e = .returned (.string ⟨(Lib.decDigits n).toArray⟩) ∧ w' = w := by
  by_cases hn : n < 10
  · exact decimal1 n w hn
  · exact decimal2 n w (by omega) h

end Go.Proofs.YtenaepdmlknlcaaDoor
namespace Go.Proofs.YtenaepdmlknlcaaDoor
open Go.RowKit Go.Shelf

def areaF (x0 y0 x1 p : Int) : Feat := ⟨4, 3, 0, 5, [(x0, y0), (x1, y0), (x1, y0 + p - 1), (x0, y0 + p - 1)]⟩
def lineF (h x0 y0 x1 : Int) : Feat := ⟨3, 2, h, 6, [(x0 + 1, y0 + 1), (x1, y0 + 1)]⟩

theorem box_area (x0 y0 x1 p : Int) (hx : x0 ≤ x1) (hp : 1 ≤ p) : boxZ [(x0, y0), (x1, y0), (x1, y0 + p - 1), (x0, y0 + p - 1)] = ⟨x0, y0, x1, y0 + p - 1⟩ := by
  simp only [boxZ, List.foldl_cons, List.foldl_nil, bxAt, Bx.join, mnZ, mxZ, Bx.mk.injEq]
  omega
theorem box_line (x0 y0 x1 : Int) (hx : x0 + 1 ≤ x1) : boxZ [(x0 + 1, y0 + 1), (x1, y0 + 1)] = ⟨x0 + 1, y0 + 1, x1, y0 + 1⟩ := by
  simp only [boxZ, List.foldl_cons, List.foldl_nil, bxAt, Bx.join, mnZ, mxZ, Bx.mk.injEq]
  omega

/-- A vertical side. -/
theorem cross_up (x ya yb mx my : Int) (h : yb < ya) : crossB x ya x yb mx my = decide (yb ≤ my ∧ my < ya ∧ mx < x) := by
  unfold crossB
  simp only [Int.sub_self, Int.mul_zero]
  by_cases h1 : my < ya
  · by_cases h2 : my < yb
    · simp [h1, h2]; omega
    · simp only [h1, h2, decide_true, decide_false, if_pos h]
      rw [if_neg (by simp)]
      have hpos : 0 < ya - yb := by omega
      rw [decide_eq_decide]
      constructor
      · intro hm
        refine ⟨by omega, trivial, ?_⟩
        have := Int.neg_of_mul_neg_left hm (by omega)
        omega
      · rintro ⟨_, _, hm⟩
        exact Int.mul_neg_of_neg_of_pos (by omega) hpos
  · have h2 : ¬ my < yb := by omega
    simp [h1, h2]
theorem cross_down (x ya yb mx my : Int) (h : ya < yb) : crossB x ya x yb mx my = decide (ya ≤ my ∧ my < yb ∧ mx < x) := by
  unfold crossB
  simp only [Int.sub_self, Int.mul_zero]
  by_cases h1 : my < ya
  · have h2 : my < yb := by omega
    simp [h1, h2]; omega
  · by_cases h2 : my < yb
    · simp only [h1, h2, decide_true, decide_false]
      rw [if_neg (by simp), if_neg (by omega)]
      have hpos : 0 < yb - ya := by omega
      rw [decide_eq_decide]
      constructor
      · intro hm
        refine ⟨by omega, trivial, ?_⟩
        have := Int.neg_of_mul_neg_left hm (by omega)
        omega
      · rintro ⟨_, _, hm⟩
        exact Int.mul_neg_of_neg_of_pos (by omega) hpos
    · simp [h1, h2]
theorem cross_level (x x' y mx my : Int) : crossB x y x' y mx my = false := by simp [crossB]

theorem area_covers (x0 y0 x1 p mx my : Int) (hp : 2 ≤ p) (hx : x0 ≤ x1) :
    areaB [(x0, y0), (x1, y0), (x1, y0 + p - 1), (x0, y0 + p - 1)] mx my = decide (y0 ≤ my ∧ my < y0 + p - 1 ∧ x0 ≤ mx ∧ mx < x1) := by
  simp only [areaB, parTo, fromAt, pg, List.length_cons, List.length_nil, Nat.zero_add, Nat.reduceAdd, Nat.reduceSub, List.getD_cons_zero, List.getD_cons_succ, if_true]
  simp only [show ((1 : Nat) = 0) = False from by simp, show ((2 : Nat) = 0) = False from by simp, show ((3 : Nat) = 0) = False from by simp, if_false]
  rw [cross_up x0 (y0 + p - 1) y0 mx my (by omega), cross_level, cross_down x1 y0 (y0 + p - 1) mx my (by omega), cross_level]
  by_cases h1 : y0 ≤ my <;> by_cases h2 : my < y0 + p - 1 <;> by_cases h3 : mx < x0 <;> by_cases h4 : mx < x1 <;> simp [h1, h2, h3, h4] <;> omega

theorem line_covers (xa xb y l t r b : Int) (hx : xa < xb) (hs : t ≤ y → y ≤ b → t < y ∧ y < b) :
    lineB [(xa, y), (xb, y)] l t r b = decide (t ≤ y ∧ y ≤ b ∧ xa ≤ r ∧ l ≤ xb) := by
  have e : lineB [(xa, y), (xb, y)] l t r b = segB xa y xb y l t r b := by
    simp [lineB, lineTo, segAt, pg]
  have hb : boxZ [(xa, y), (xb, y)] = ⟨xa, y, xb, y⟩ := by
    simp only [boxZ, List.foldl_cons, List.foldl_nil, bxAt, Bx.join, mnZ, mxZ, Bx.mk.injEq]; omega
  rw [e, segB]
  have hm : segMeets xa y xb y l t r b = decide (t ≤ y ∧ y ≤ b ∧ xa ≤ r ∧ l ≤ xb) := by
    simp only [segMeets, hb, meetsB, decide_eq_decide]; omega
  rw [hm]
  by_cases hc : t ≤ y ∧ y ≤ b ∧ xa ≤ r ∧ l ≤ xb
  · obtain ⟨h1, h2, _, _⟩ := hc
    obtain ⟨h3, h4⟩ := hs h1 h2
    have hd : 0 < xb - xa := by omega
    have n0 : (xb - xa) * (t - y) < 0 := Int.mul_neg_of_pos_of_neg hd (by omega)
    have p0 : 0 < (xb - xa) * (b - y) := Int.mul_pos hd (by omega)
    have hL : cntL (turns xa y xb y l t r b) 4 = 2 := by
      simp only [cntL, turns, turnZ, cornX, cornY, Int.sub_self, Int.zero_mul, Int.sub_zero]
      rw [if_pos n0, if_neg (by omega)]
      rfl
    have hR : cntR (turns xa y xb y l t r b) 4 = 2 := by
      simp only [cntR, turns, turnZ, cornX, cornY, Int.sub_self, Int.zero_mul, Int.sub_zero]
      rw [if_neg (by omega), if_pos p0]
      rfl
    rw [hL, hR]
    simp
  · simp [hc]

/-- Which pixels the two cover. -/
def inRunB (a n k : Nat) : Bool := decide (16 + a ≤ k ∧ k < 16 + a + n)

theorem cover_area (p c r : Int) (a n k : Nat) (hp : p = 32 ∨ p = 16 ∨ p = 8 ∨ p = 4) (_hk : k < 64) (hn : 1 ≤ n) (han : a + n ≤ 8) :
    coverB 3 [(c * (8 * p) + a * p, r * (8 * p) + 2 * p), (c * (8 * p) + a * p + n * p - 1, r * (8 * p) + 2 * p), (c * (8 * p) + a * p + n * p - 1, r * (8 * p) + 2 * p + p - 1), (c * (8 * p) + a * p, r * (8 * p) + 2 * p + p - 1)] (pixZ p c r k).l (pixZ p c r k).t (pixZ p c r k).r (pixZ p c r k).b = inRunB a n k := by
  simp only [coverB, show ((3 : Int) = 1) = False from by simp, show ((3 : Int) = 2) = False from by simp, if_false, if_true]
  rcases hp with rfl | rfl | rfl | rfl
  all_goals
    rw [area_covers _ _ _ _ _ _ (by omega) (by omega), inRunB, decide_eq_decide]
    simp only [pixZ]
    omega

theorem cover_line (p c r : Int) (a n k : Nat) (hp : p = 32 ∨ p = 16 ∨ p = 8 ∨ p = 4) (_hk : k < 64) (hn : 1 ≤ n) (han : a + n ≤ 8) :
    coverB 2 [(c * (8 * p) + a * p + 1, r * (8 * p) + 2 * p + 1), (c * (8 * p) + a * p + n * p - 1, r * (8 * p) + 2 * p + 1)] (pixZ p c r k).l (pixZ p c r k).t (pixZ p c r k).r (pixZ p c r k).b = inRunB a n k := by
  simp only [coverB, show ((2 : Int) = 1) = False from by simp, if_false, if_true]
  rcases hp with rfl | rfl | rfl | rfl
  all_goals
    rw [line_covers _ _ _ _ _ _ _ (by omega) (by simp only [pixZ]; omega), inRunB, decide_eq_decide]
    simp only [pixZ]
    omega

theorem meets_area (p c r : Int) (a n k : Nat) (_hk : k < 64) (hp : p = 32 ∨ p = 16 ∨ p = 8 ∨ p = 4) (hn : 1 ≤ n) (h : inRunB a n k = true) (han : a + n ≤ 8) :
    meetBx (boxZ [(c * (8 * p) + a * p, r * (8 * p) + 2 * p), (c * (8 * p) + a * p + n * p - 1, r * (8 * p) + 2 * p), (c * (8 * p) + a * p + n * p - 1, r * (8 * p) + 2 * p + p - 1), (c * (8 * p) + a * p, r * (8 * p) + 2 * p + p - 1)]) (pixZ p c r k) = true := by
  simp only [inRunB, decide_eq_true_eq] at h
  rcases hp with rfl | rfl | rfl | rfl
  all_goals
    rw [box_area _ _ _ _ (by omega) (by omega)]
    unfold meetBx meetsB
    refine decide_eq_true ?_
    simp only [pixZ]
    omega
theorem meets_line (p c r : Int) (a n k : Nat) (_hk : k < 64) (hp : p = 32 ∨ p = 16 ∨ p = 8 ∨ p = 4) (hn : 1 ≤ n) (h : inRunB a n k = true) (han : a + n ≤ 8) :
    meetBx (boxZ [(c * (8 * p) + a * p + 1, r * (8 * p) + 2 * p + 1), (c * (8 * p) + a * p + n * p - 1, r * (8 * p) + 2 * p + 1)]) (pixZ p c r k) = true := by
  simp only [inRunB, decide_eq_true_eq] at h
  rcases hp with rfl | rfl | rfl | rfl
  all_goals
    rw [box_line _ _ _ (by omega)]
    unfold meetBx meetsB
    refine decide_eq_true ?_
    simp only [pixZ]
    omega

theorem pick_skip {x : Bx} {o : Option FV} {v : FV} (h : coverB v.f.kd v.f.ps x.l x.t x.r x.b = false) : pickV x o v = o := by simp [pickV, h]

/-- The colour of a pixel of the two. -/
theorem col_two (x : Bx) (A L : FV) (hA : meetF x A = true) (hL : meetF x L = true) (cA : coverB A.f.kd A.f.ps x.l x.t x.r x.b = true) (cL : coverB L.f.kd L.f.ps x.l x.t x.r x.b = true) :
    tcol (topOf x ([A, L].filter (meetF x))) = if aboveB L.f.ht L.f.id A.f.ht A.f.id then L.f.col else A.f.col := by
  simp only [List.filter_cons, hA, hL, if_true, List.filter_nil, topOf, List.foldl_cons, List.foldl_nil]
  simp only [pickV, cA, cL, if_true]
  split <;> rfl
theorem col_none (x : Bx) (A L : FV) (cA : coverB A.f.kd A.f.ps x.l x.t x.r x.b = false) (cL : coverB L.f.kd L.f.ps x.l x.t x.r x.b = false) :
    tcol (topOf x ([A, L].filter (meetF x))) = 0 := by
  simp only [List.filter_cons, List.filter_nil]
  split <;> split <;> simp [topOf, pick_skip cA, pick_skip cL, tcol]

/-- Three runs. -/
theorem lead_rep (c m : Nat) (rest : List Nat) (h : rest[0]? ≠ some c) : lead c (List.replicate m c ++ rest) = m := by
  refine lead_spec c _ m (by simp) (fun j hj => ?_) ?_
  · rw [List.getElem?_append_left (by simpa using hj), List.getElem?_replicate, if_pos hj]
  · rw [List.getElem?_append_right (by simp), List.length_replicate, Nat.sub_self]; exact h
theorem rle_rep (c m : Nat) (rest : List Nat) (h : rest[0]? ≠ some c) : rle (List.replicate (m + 1) c ++ rest) = (m + 1, c) :: rle rest := by
  rw [List.replicate_succ, List.cons_append, rle, lead_rep c m rest h]
  congr 2
  rw [List.drop_append_of_le_length (by simp)]
  simp
theorem rle_three (a n b C : Nat) (hC : C ≠ 0) : rle (List.replicate (a + 1) 0 ++ (List.replicate (n + 1) C ++ List.replicate (b + 1) 0)) = [(a + 1, 0), (n + 1, C), (b + 1, 0)] := by
  rw [rle_rep 0 a _ (by rw [List.replicate_succ, List.cons_append]; simp [hC]), rle_rep C n _ (by rw [List.replicate_succ]; simp; omega)]
  have h := rle_rep 0 b [] (by simp)
  rw [List.append_nil] at h
  rw [h, rle]

theorem range_three (a n C : Nat) (han : a + n ≤ 8) :
    ((List.range 64).map fun k => if inRunB a n k then C else 0) = List.replicate (16 + a) 0 ++ (List.replicate n C ++ List.replicate (48 - a - n) 0) := by
  apply List.ext_getElem?
  intro k
  rw [List.getElem?_map]
  by_cases hk : k < 64
  · rw [List.getElem?_range hk, Option.map_some]
    by_cases h1 : k < 16 + a
    · have hin : inRunB a n k = false := by simp [inRunB]; omega
      rw [hin, List.getElem?_append_left (by simpa using h1), List.getElem?_replicate, if_pos h1]
      rfl
    · rw [List.getElem?_append_right (by simp; omega), List.length_replicate]
      by_cases h2 : k < 16 + a + n
      · have hin : inRunB a n k = true := by simp [inRunB]; omega
        rw [hin, List.getElem?_append_left (by simp; omega), List.getElem?_replicate, if_pos rfl, if_pos (by omega)]
      · have hin : inRunB a n k = false := by simp [inRunB]; omega
        rw [hin, List.getElem?_append_right (by simp; omega), List.length_replicate, List.getElem?_replicate, if_neg (by simp), if_pos (by omega)]
  · rw [List.getElem?_eq_none (by simp; omega), Option.map_none, List.getElem?_eq_none (by simp; omega)]

end Go.Proofs.YtenaepdmlknlcaaDoor
namespace Go.Proofs.YtenaepdmlknlcaaDoor
open Go.RowKit Go.Shelf

def aF (p c r : Int) (a n : Nat) : Feat := ⟨4, 3, 0, 5, [(c * (8 * p) + a * p, r * (8 * p) + 2 * p), (c * (8 * p) + a * p + n * p - 1, r * (8 * p) + 2 * p), (c * (8 * p) + a * p + n * p - 1, r * (8 * p) + 2 * p + p - 1), (c * (8 * p) + a * p, r * (8 * p) + 2 * p + p - 1)]⟩
def lF (h p c r : Int) (a n : Nat) : Feat := ⟨3, 2, h, 6, [(c * (8 * p) + a * p + 1, r * (8 * p) + 2 * p + 1), (c * (8 * p) + a * p + n * p - 1, r * (8 * p) + 2 * p + 1)]⟩

theorem body_two (h p c r : Int) (a n C pb po cap pb' po' cap' : Nat) (hp : p = 32 ∨ p = 16 ∨ p = 8 ∨ p = 4) (hn : 1 ≤ n) (han : a + n ≤ 8) (hC : (h = 0 ∧ C = 5) ∨ (h = 1 ∧ C = 6)) :
    bodyS [⟨aF p c r a n, pb, po, cap⟩, ⟨lF h p c r a n, pb', po', cap'⟩] p c r = ⟨(Lib.decDigits (16 + a) ++ [120, 48, 44] ++ Lib.decDigits n ++ [120] ++ Lib.decDigits C ++ [44] ++ Lib.decDigits (48 - a - n) ++ [120, 48]).toArray⟩ := by
  have hcol : ∀ k, k < 64 → (colZ [⟨aF p c r a n, pb, po, cap⟩, ⟨lF h p c r a n, pb', po', cap'⟩] p c r k).toNat = if inRunB a n k then C else 0 := by
    intro k hk
    have cA := cover_area p c r a n k hp hk hn han
    have cL := cover_line p c r a n k hp hk hn han
    unfold colZ
    cases hin : inRunB a n k with
    | false =>
      rw [hin] at cA cL
      rw [col_none (pixZ p c r k) ⟨aF p c r a n, pb, po, cap⟩ ⟨lF h p c r a n, pb', po', cap'⟩ cA cL]; rfl
    | true =>
      rw [hin] at cA cL
      rw [col_two (pixZ p c r k) ⟨aF p c r a n, pb, po, cap⟩ ⟨lF h p c r a n, pb', po', cap'⟩ (meets_area p c r a n k hk hp hn hin han) (meets_line p c r a n k hk hp hn hin han) cA cL]
      rcases hC with ⟨rfl, rfl⟩ | ⟨rfl, rfl⟩ <;> rfl
  have hlist : ((List.range 64).map fun k => (colZ [⟨aF p c r a n, pb, po, cap⟩, ⟨lF h p c r a n, pb', po', cap'⟩] p c r k).toNat) = List.replicate (15 + a + 1) 0 ++ (List.replicate (n - 1 + 1) C ++ List.replicate (47 - a - n + 1) 0) := by
    rw [show 15 + a + 1 = 16 + a from by omega, show n - 1 + 1 = n from by omega, show 47 - a - n + 1 = 48 - a - n from by omega, ← range_three a n C han]
    apply List.map_congr_left
    intro k hk
    exact hcol k (List.mem_range.1 hk)
  unfold bodyS
  rw [hlist, txts, rle_three _ _ _ _ (by omega), show 15 + a + 1 = 16 + a from by omega, show n - 1 + 1 = n from by omega, show 47 - a - n + 1 = 48 - a - n from by omega]
  have h0 : Lib.decDigits 0 = [48] := by rw [Lib.decDigits]; rfl
  simp [Lib.join, List.intercalate, txt, h0]

theorem valid_a (p c r : Int) (a n : Nat) (hp : p = 32 ∨ p = 16 ∨ p = 8 ∨ p = 4) (hn : 1 ≤ n) (han : a + n ≤ 8) (h1 : 0 ≤ c) (h3 : 0 ≤ r) (hc : 8 * p * c ≤ 256 - 8 * p) (hr : 8 * p * r ≤ 256 - 8 * p) : validF (aF p c r a n) = true := by
  unfold validF aF
  dsimp only
  simp only [List.all_cons, List.all_nil, inW, inB, mayB, List.length_cons, List.length_nil, Bool.and_eq_true, decide_eq_true_eq, and_true]
  rcases hp with rfl | rfl | rfl | rfl <;> refine ⟨⟨⟨⟨?_, ?_⟩, ?_⟩, ?_⟩, ?_⟩ <;> first | omega | (simp only [true_and]; omega)
theorem valid_l (h p c r : Int) (a n : Nat) (hh : h = 0 ∨ h = 1) (hp : p = 32 ∨ p = 16 ∨ p = 8 ∨ p = 4) (hn : 1 ≤ n) (han : a + n ≤ 8) (h1 : 0 ≤ c) (h3 : 0 ≤ r) (hc : 8 * p * c ≤ 256 - 8 * p) (hr : 8 * p * r ≤ 256 - 8 * p) : validF (lF h p c r a n) = true := by
  unfold validF lF
  dsimp only
  simp only [List.all_cons, List.all_nil, inW, inB, mayB, List.length_cons, List.length_nil, Bool.and_eq_true, decide_eq_true_eq, and_true]
  rcases hp with rfl | rfl | rfl | rfl <;> refine ⟨⟨⟨⟨?_, ?_⟩, ?_⟩, ?_⟩, ?_⟩ <;> first | omega | (simp only [true_and]; omega)

def wantS (a n C : Nat) : ByteArray := ⟨(Lib.decDigits (16 + a) ++ [120, 48, 44] ++ Lib.decDigits n ++ [120] ++ Lib.decDigits C ++ [44] ++ Lib.decDigits (48 - a - n) ++ [120, 48]).toArray⟩

theorem draw_two (W : World) (S PA PL : Nat) (z p c r h X0 Y0 X1 Y1 XL YL : Int) (a n C : Nat) (hz : ZP z p) (hp : p = 32 ∨ p = 16 ∨ p = 8 ∨ p = 4) (hn : 1 ≤ n) (han : a + n ≤ 8) (hC : (h = 0 ∧ C = 5) ∨ (h = 1 ∧ C = 6))
    (hX0 : X0 = c * (8 * p) + a * p) (hY0 : Y0 = r * (8 * p) + 2 * p) (hX1 : X1 = c * (8 * p) + a * p + n * p - 1) (hY1 : Y1 = r * (8 * p) + 2 * p + p - 1) (hXL : XL = c * (8 * p) + a * p + 1) (hYL : YL = r * (8 * p) + 2 * p + 1)
    (h1 : 0 ≤ c) (h2 : c ≤ 7) (h3 : 0 ≤ r) (h4 : r ≤ 7) (hc : 8 * p * c ≤ 256 - 8 * p) (hr : 8 * p * r ≤ 256 - 8 * p)
    (hS : S < W.heap.size) (hA : PA < W.heap.size) (hL : PL < W.heap.size) (hw3 : 3 < W.heap.size) (htab : W.cell? ⟨3, 15, none⟩ = some (.int .u8 4))
    (s0 : W.cell? ⟨S, 0, none⟩ = some (.int .i64 4)) (s1 : W.cell? ⟨S, 1, none⟩ = some (.int .i64 3)) (s2 : W.cell? ⟨S, 2, none⟩ = some (.int .i64 0)) (s3 : W.cell? ⟨S, 3, none⟩ = some (.int .i64 5)) (s4 : W.cell? ⟨S, 4, none⟩ = some (.slice (some ⟨PA, 0, none⟩) 4 4))
    (s5 : W.cell? ⟨S, 5, none⟩ = some (.int .i64 3)) (s6 : W.cell? ⟨S, 6, none⟩ = some (.int .i64 2)) (s7 : W.cell? ⟨S, 7, none⟩ = some (.int .i64 h)) (s8 : W.cell? ⟨S, 8, none⟩ = some (.int .i64 6)) (s9 : W.cell? ⟨S, 9, none⟩ = some (.slice (some ⟨PL, 0, none⟩) 2 2))
    (a0 : W.cell? ⟨PA, 0, none⟩ = some (.int .i64 X0)) (a1 : W.cell? ⟨PA, 1, none⟩ = some (.int .i64 Y0)) (a2 : W.cell? ⟨PA, 2, none⟩ = some (.int .i64 X1)) (a3 : W.cell? ⟨PA, 3, none⟩ = some (.int .i64 Y0)) (a4 : W.cell? ⟨PA, 4, none⟩ = some (.int .i64 X1)) (a5 : W.cell? ⟨PA, 5, none⟩ = some (.int .i64 Y1)) (a6 : W.cell? ⟨PA, 6, none⟩ = some (.int .i64 X0)) (a7 : W.cell? ⟨PA, 7, none⟩ = some (.int .i64 Y1))
    (l0 : W.cell? ⟨PL, 0, none⟩ = some (.int .i64 XL)) (l1 : W.cell? ⟨PL, 1, none⟩ = some (.int .i64 YL)) (l2 : W.cell? ⟨PL, 2, none⟩ = some (.int .i64 X1)) (l3 : W.cell? ⟨PL, 3, none⟩ = some (.int .i64 YL)) :
    Calls Tryd.prog 5 #[.slice (some ⟨S, 0, none⟩) 2 2, .agg #[.int .i64 z, .int .i64 c, .int .i64 r]] W fun e w' => ∃ m : ByteArray, e = .returned (.tuple #[.string m, .string (wantS a n C), .int .i64 0]) ∧ m.size = 8 ∧ Below W.heap.size W w' := by
  subst hX0 hY0 hX1 hY1 hXL hYL
  have hB := body_two h p c r a n C PA 0 4 PL 0 2 hp hn han hC
  have hD := Draw_small S 0 2 2 [⟨aF p c r a n, PA, 0, 4⟩, ⟨lF h p c r a n, PL, 0, 2⟩] z p c r W ⟨hS, fun i v e => by
    match i, e with
    | 0, e =>
      simp at e
      subst e
      refine ⟨⟨s0, s1, s2, s3, s4⟩, valid_a p c r a n hp hn han h1 h3 hc hr, hA, by simp [aF], fun k x y e => ?_⟩
      match k, e with
      | 0, e => simp [aF] at e; obtain ⟨rfl, rfl⟩ := e; exact ⟨a0, a1⟩
      | 1, e => simp [aF] at e; obtain ⟨rfl, rfl⟩ := e; exact ⟨a2, a3⟩
      | 2, e => simp [aF] at e; obtain ⟨rfl, rfl⟩ := e; exact ⟨a4, a5⟩
      | 3, e => simp [aF] at e; obtain ⟨rfl, rfl⟩ := e; exact ⟨a6, a7⟩
      | k + 4, e => simp [aF] at e
    | 1, e =>
      simp at e
      subst e
      refine ⟨⟨s5, s6, s7, s8, s9⟩, valid_l h p c r a n (by omega) hp hn han h1 h3 hc hr, hL, by simp [lF], fun k x y e => ?_⟩
      match k, e with
      | 0, e => simp [lF] at e; obtain ⟨rfl, rfl⟩ := e; exact ⟨l0, l1⟩
      | 1, e => simp [lF] at e; obtain ⟨rfl, rfl⟩ := e; exact ⟨l2, l3⟩
      | k + 2, e => simp [lF] at e
    | i + 2, e => simp at e⟩ rfl (by omega) (by omega) (fun k v e j hj => by
    match k, e with
    | 0, e => rfl
    | 1, e =>
      simp at e
      subst e
      have hj3 : (3 : Int) = (j : Int) := hj
      simp [seenB, aF]; omega
    | k + 2, e => simp at e) hz (by
    have hm : manyZ z * (8 * p) = 256 := by rcases hz with ⟨rfl, rfl⟩ | ⟨rfl, rfl⟩ | ⟨rfl, rfl⟩ | ⟨rfl, rfl⟩ <;> rfl
    have hz3 : 0 ≤ z ∧ z ≤ 3 := by rcases hz with ⟨rfl, _⟩ | ⟨rfl, _⟩ | ⟨rfl, _⟩ | ⟨rfl, _⟩ <;> omega
    simp only [tileB, decide_eq_true_eq]
    rcases hz with ⟨rfl, rfl⟩ | ⟨rfl, rfl⟩ | ⟨rfl, rfl⟩ | ⟨rfl, rfl⟩ <;> simp [manyZ] <;> omega) h1 h2 h3 h4 hc hr htab hw3
  rw [hB] at hD
  exact hD

theorem decimal_var (x : Int) (k : Nat) (w : World) (hx : x = (k : Int)) (hk : k < 100) :
    Calls Tryd.prog 6 #[.int .i64 x] w fun e w' => ∃ d : ByteArray, e = .returned (.string d) ∧ Hid (d = ⟨(Lib.decDigits k).toArray⟩) ∧ d.size ≤ 2 ∧ w' = w := by
  subst hx
  refine (decimal_any k w hk).mono ?_
  rintro e w' ⟨rfl, rfl⟩
  have h := decDigits_short k hk
  exact ⟨_, rfl, rfl, by show (Lib.decDigits k).toArray.size ≤ 2; simpa using h, rfl⟩

theorem want_eq {a n C : Nat} {d1 d2 d3 d4 : ByteArray} (h1 : d1 = ⟨(Lib.decDigits (16 + a)).toArray⟩) (h2 : d2 = ⟨(Lib.decDigits n).toArray⟩) (h3 : d3 = ⟨(Lib.decDigits C).toArray⟩) (h4 : d4 = ⟨(Lib.decDigits (48 - a - n)).toArray⟩) :
    ((wantS a n C).toList = (d1 ++ { data := #[120, 48, 44] } ++ d2 ++ { data := #[120] } ++ d3 ++ { data := #[44] } ++ d4 ++ { data := #[120, 48] }).toList) = True := by
  subst h1 h2 h3 h4
  refine eq_true (congrArg _ ?_)
  apply ByteArray.ext
  simp [wantS, ByteArray.data_append]

theorem below_six (w : World) (o1 o2 o3 o4 o5 o6 : Obj) : Below w.heap.size w ((((((w.alloc o1).alloc o2).alloc o3).alloc o4).alloc o5).alloc o6) :=
  ((((((Below.refl _ _).alloc (Nat.le_refl _) _).alloc (by simp) _).alloc (by simp <;> omega) _).alloc (by simp <;> omega) _).alloc (by simp <;> omega) _).alloc (by simp <;> omega) _

end Go.Proofs.YtenaepdmlknlcaaDoor
