import Derived.Test.YtbphndloichnaaaGreatDoorG05
namespace Go.Proofs.YtbphndloichnaaaGreatDoor

/-! Plain mathematics: the document's cover of a line is the program's. -/

theorem frac_trans {a b c d e f : Int} (hb : 0 < b) (hd : 0 < d) (hf : 0 < f) (h1 : a * d ≤ c * b) (h2 : c * f ≤ e * d) : a * f ≤ e * b := by
  have h3 : a * d * f ≤ c * b * f := Int.mul_le_mul_of_nonneg_right h1 (Int.le_of_lt hf)
  have h4 : c * f * b ≤ e * d * b := Int.mul_le_mul_of_nonneg_right h2 (Int.le_of_lt hb)
  have e1 : a * d * f = d * (a * f) := by rw [Int.mul_assoc, Int.mul_left_comm]
  have e2 : c * b * f = c * f * b := by rw [Int.mul_right_comm]
  have e3 : e * d * b = d * (e * b) := by rw [Int.mul_comm e d, Int.mul_assoc]
  rw [e1, e2] at h3
  rw [e3] at h4
  exact Int.le_of_mul_le_mul_left (Int.le_trans h3 h4) hd

/-- The lower end is at most X over Y; the upper one at least; the span is not empty. -/
def LowE (s : Sp) (X Y : Int) : Prop := s.a * Y ≤ X * s.b
def UppE (s : Sp) (X Y : Int) : Prop := X * s.d ≤ s.c * Y
def Cmp (s : Sp) : Prop := s.a * s.d ≤ s.c * s.b
def Pos (s : Sp) : Prop := 0 < s.b ∧ 0 < s.d

theorem cut_pos {s : Sp} {v d lo : Int} (h : Pos s) : Pos (cutZ s v d lo) := by
  obtain ⟨hb, hd⟩ := h
  simp only [cutZ]
  split
  · exact ⟨by decide, by decide⟩
  · split
    · rename_i h; exact ⟨h.1, hd⟩
    · split
      · rename_i h; exact ⟨hb, show 0 < -d by omega⟩
      · exact ⟨hb, hd⟩

theorem low_low {s : Sp} {v d lo X Y : Int} (hs : Pos s) (h : 0 < d) (hY : 0 < Y) : LowE (cutZ s v d lo) X Y ↔ (LowE s X Y ∧ (lo - v) * Y ≤ X * d) := by
  have h0 : ¬ (d = 0 ∧ 0 < lo - v) := by omega
  simp only [cutZ, if_neg h0, LowE]
  by_cases h1 : 0 < d ∧ s.a * d < (lo - v) * s.b
  · rw [if_pos h1]
    exact ⟨fun h2 => ⟨frac_trans hs.1 h hY (Int.le_of_lt h1.2) h2, h2⟩, fun h2 => h2.2⟩
  · rw [if_neg h1, if_neg (by omega)]
    have h3 : (lo - v) * s.b ≤ s.a * d := Int.not_lt.1 fun h4 => h1 ⟨h, h4⟩
    exact ⟨fun h2 => ⟨h2, frac_trans h hs.1 hY h3 h2⟩, fun h2 => h2.1⟩
theorem upp_low {s : Sp} {v d lo X Y : Int} (h : 0 < d) : UppE (cutZ s v d lo) X Y ↔ UppE s X Y := by
  have h0 : ¬ (d = 0 ∧ 0 < lo - v) := by omega
  simp only [cutZ, if_neg h0, UppE]
  split
  · rfl
  · rw [if_neg (by omega)]
theorem upp_high {s : Sp} {v d lo X Y : Int} (hs : Pos s) (h : d < 0) (hY : 0 < Y) : UppE (cutZ s v d lo) X Y ↔ (UppE s X Y ∧ X * -d ≤ -(lo - v) * Y) := by
  have h0 : ¬ (d = 0 ∧ 0 < lo - v) := by omega
  have h0' : ¬ (0 < d ∧ s.a * d < (lo - v) * s.b) := by omega
  simp only [cutZ, if_neg h0, if_neg h0', UppE]
  have hd : 0 < -d := by omega
  by_cases h1 : d < 0 ∧ -(lo - v) * s.d < s.c * -d
  · rw [if_pos h1]
    exact ⟨fun h2 => ⟨frac_trans hY hd hs.2 h2 (Int.le_of_lt h1.2), h2⟩, fun h2 => h2.2⟩
  · rw [if_neg h1]
    have h3 : s.c * -d ≤ -(lo - v) * s.d := Int.not_lt.1 fun h4 => h1 ⟨h, h4⟩
    exact ⟨fun h2 => ⟨h2, frac_trans hY hs.2 hd h2 h3⟩, fun h2 => h2.1⟩
theorem low_high {s : Sp} {v d lo X Y : Int} (h : d < 0) : LowE (cutZ s v d lo) X Y ↔ LowE s X Y := by
  have h0 : ¬ (d = 0 ∧ 0 < lo - v) := by omega
  have h0' : ¬ (0 < d ∧ s.a * d < (lo - v) * s.b) := by omega
  simp only [cutZ, if_neg h0, if_neg h0', LowE]
  split <;> rfl
theorem cmp_low {s : Sp} {v d lo : Int} (hs : Pos s) (h : 0 < d) : Cmp (cutZ s v d lo) ↔ (Cmp s ∧ UppE s (lo - v) d) := by
  have e : Cmp (cutZ s v d lo) ↔ LowE (cutZ s v d lo) (cutZ s v d lo).c (cutZ s v d lo).d := Iff.rfl
  have hc : (cutZ s v d lo).c = s.c ∧ (cutZ s v d lo).d = s.d := by
    have h0 : ¬ (d = 0 ∧ 0 < lo - v) := by omega
    simp only [cutZ, if_neg h0]
    split
    · exact ⟨rfl, rfl⟩
    · rw [if_neg (by omega)]; exact ⟨rfl, rfl⟩
  rw [e, hc.1, hc.2, low_low hs h hs.2]
  exact Iff.rfl
theorem cmp_high {s : Sp} {v d lo : Int} (hs : Pos s) (h : d < 0) : Cmp (cutZ s v d lo) ↔ (Cmp s ∧ LowE s (-(lo - v)) (-d)) := by
  have e : Cmp (cutZ s v d lo) ↔ UppE (cutZ s v d lo) (cutZ s v d lo).a (cutZ s v d lo).b := Iff.rfl
  have hc : (cutZ s v d lo).a = s.a ∧ (cutZ s v d lo).b = s.b := by
    have h0 : ¬ (d = 0 ∧ 0 < lo - v) := by omega
    have h0' : ¬ (0 < d ∧ s.a * d < (lo - v) * s.b) := by omega
    simp only [cutZ, if_neg h0, if_neg h0']
    split <;> exact ⟨rfl, rfl⟩
  rw [e, hc.1, hc.2, upp_high hs h hs.1]
  exact Iff.rfl

/-- Both cuts along one way. -/
def axisZ (s : Sp) (v d lo hi : Int) : Sp := cutZ (cutZ s v d lo) (-v) (-d) (-hi)
theorem axis_pos {s : Sp} {v d lo hi : Int} (h : Pos s) : Pos (axisZ s v d lo hi) := cut_pos (cut_pos h)

theorem axis_low {s : Sp} {v d lo hi X Y : Int} (hs : Pos s) (h : 0 < d) (hY : 0 < Y) : LowE (axisZ s v d lo hi) X Y ↔ (LowE s X Y ∧ (lo - v) * Y ≤ X * d) := by
  rw [axisZ, low_high (by omega), low_low hs h hY]
theorem axis_upp {s : Sp} {v d lo hi X Y : Int} (hs : Pos s) (h : 0 < d) (hY : 0 < Y) : UppE (axisZ s v d lo hi) X Y ↔ (UppE s X Y ∧ X * d ≤ (hi - v) * Y) := by
  rw [axisZ, upp_high (cut_pos hs) (by omega) hY, upp_low h, Int.neg_neg, show -(-hi - -v) = hi - v by omega]
theorem axis_cmp {s : Sp} {v d lo hi : Int} (hs : Pos s) (h : 0 < d) (hl : lo ≤ hi) : Cmp (axisZ s v d lo hi) ↔ (Cmp s ∧ UppE s (lo - v) d ∧ LowE s (hi - v) d) := by
  rw [axisZ, cmp_high (cut_pos hs) (by omega), cmp_low hs h, Int.neg_neg, show -(-hi - -v) = hi - v by omega, low_low hs h h]
  have : (lo - v) * d ≤ (hi - v) * d := Int.mul_le_mul_of_nonneg_right (by omega) (by omega)
  constructor
  · exact fun k => ⟨k.1.1, k.1.2, k.2.1⟩
  · exact fun k => ⟨⟨k.1, k.2.1⟩, k.2.2, this⟩

theorem axis_low' {s : Sp} {v d lo hi X Y : Int} (hs : Pos s) (h : d < 0) (hY : 0 < Y) : LowE (axisZ s v d lo hi) X Y ↔ (LowE s X Y ∧ (v - hi) * Y ≤ X * -d) := by
  rw [axisZ, low_low (cut_pos hs) (by omega) hY, low_high h, show -hi - -v = v - hi by omega]
theorem axis_upp' {s : Sp} {v d lo hi X Y : Int} (hs : Pos s) (h : d < 0) (hY : 0 < Y) : UppE (axisZ s v d lo hi) X Y ↔ (UppE s X Y ∧ X * -d ≤ (v - lo) * Y) := by
  rw [axisZ, upp_low (by omega), upp_high hs h hY, show -(lo - v) = v - lo by omega]
theorem axis_cmp' {s : Sp} {v d lo hi : Int} (hs : Pos s) (h : d < 0) (hl : lo ≤ hi) : Cmp (axisZ s v d lo hi) ↔ (Cmp s ∧ UppE s (v - hi) (-d) ∧ LowE s (v - lo) (-d)) := by
  rw [axisZ, cmp_low (cut_pos hs) (by omega), cmp_high hs h, show -hi - -v = v - hi by omega, show -(lo - v) = v - lo by omega, upp_high hs h (by omega), show -(lo - v) = v - lo by omega]
  have : (v - hi) * -d ≤ (v - lo) * -d := Int.mul_le_mul_of_nonneg_right (by omega) (by omega)
  constructor
  · exact fun k => ⟨k.1.1, k.2.1, k.1.2⟩
  · exact fun k => ⟨⟨k.1, k.2.2⟩, k.2.1, this⟩

/-- A span that is empty for good. -/
def Bad (s : Sp) : Prop := 0 < s.a ∧ s.c < 0 ∧ Pos s
theorem bad_cut {s : Sp} {v d lo : Int} (h : Bad s) : Bad (cutZ s v d lo) := by
  obtain ⟨ha, hc, hs⟩ := h
  refine ⟨?_, ?_, cut_pos hs⟩
  · simp only [cutZ]
    split
    · decide
    · split
      · rename_i h
        have h1 : 0 < s.a * d := Int.mul_pos ha h.1
        exact Int.pos_of_mul_pos_left (show 0 < (lo - v) * s.b by omega) hs.1
      · split <;> exact ha
  · simp only [cutZ]
    split
    · decide
    · split
      · exact hc
      · split
        · rename_i h
          have h1 : s.c * -d < 0 := Int.mul_neg_of_neg_of_pos hc (by omega)
          have h2 : -(lo - v) * s.d < 0 := by omega
          apply Classical.byContradiction
          intro h3
          have h3' : 0 ≤ -(lo - v) := by dsimp only at h3; omega
          have := Int.mul_nonneg h3' (Int.le_of_lt hs.2)
          omega
        · exact hc
theorem bad_cmp {s : Sp} (h : Bad s) : ¬ Cmp s := by
  intro k
  have h1 := Int.mul_pos h.1 h.2.2.2
  have h2 := Int.mul_neg_of_neg_of_pos h.2.1 h.2.2.1
  unfold Cmp at k
  omega
theorem bad_axis {s : Sp} {v d lo hi : Int} (h : Bad s) : Bad (axisZ s v d lo hi) := bad_cut (bad_cut h)
theorem axis_zero {s : Sp} {v lo hi : Int} (_hs : Pos s) : (lo ≤ v ∧ v ≤ hi ∧ axisZ s v 0 lo hi = s) ∨ (¬ (lo ≤ v ∧ v ≤ hi) ∧ Bad (axisZ s v 0 lo hi)) := by
  have z : ∀ (s : Sp) (v lo : Int), cutZ s v 0 lo = if 0 < lo - v then ⟨2, 1, -2, 1⟩ else s := by
    intro s v lo
    simp only [cutZ, true_and]
    split
    · rfl
    · rw [if_neg (by omega), if_neg (by omega)]
  have bad : Bad ⟨2, 1, -2, 1⟩ := ⟨by decide, by decide, by decide, by decide⟩
  by_cases h1 : lo ≤ v
  · by_cases h2 : v ≤ hi
    · left
      refine ⟨h1, h2, ?_⟩
      rw [axisZ, Int.neg_zero, z, z, if_neg (by omega), if_neg (by omega)]
    · right
      refine ⟨fun h => h2 h.2, ?_⟩
      rw [axisZ, Int.neg_zero, z, z, if_pos (by omega)]
      exact bad
  · right
    refine ⟨fun h => h1 h.1, ?_⟩
    rw [axisZ]
    apply bad_cut
    rw [z, if_pos (by omega)]
    exact bad

end Go.Proofs.YtbphndloichnaaaGreatDoor
namespace Go.Proofs.YtbphndloichnaaaGreatDoor

theorem cntL_lt (T : Nat → Int) : cntL T 4 < 4 ↔ (0 ≤ T 0 ∨ 0 ≤ T 1 ∨ 0 ≤ T 2 ∨ 0 ≤ T 3) := by
  simp only [cntL]
  by_cases h0 : T 0 < 0 <;> by_cases h1 : T 1 < 0 <;> by_cases h2 : T 2 < 0 <;> by_cases h3 : T 3 < 0 <;> simp only [h0, h1, h2, h3, if_true, if_false] <;> omega
theorem cntR_lt (T : Nat → Int) : cntR T 4 < 4 ↔ (T 0 ≤ 0 ∨ T 1 ≤ 0 ∨ T 2 ≤ 0 ∨ T 3 ≤ 0) := by
  simp only [cntR]
  by_cases h0 : 0 < T 0 <;> by_cases h1 : 0 < T 1 <;> by_cases h2 : 0 < T 2 <;> by_cases h3 : 0 < T 3 <;> simp only [h0, h1, h2, h3, if_true, if_false] <;> omega

theorem seg_iff (ax ay dx dy l t r b : Int) : segB ax ay (ax + dx) (ay + dy) l t r b = true ↔
    ((min ax (ax + dx) ≤ r ∧ l ≤ max ax (ax + dx) ∧ min ay (ay + dy) ≤ b ∧ t ≤ max ay (ay + dy)) ∧
      (0 ≤ dx * (t - ay) - dy * (l - ax) ∨ 0 ≤ dx * (t - ay) - dy * (r - ax) ∨ 0 ≤ dx * (b - ay) - dy * (r - ax) ∨ 0 ≤ dx * (b - ay) - dy * (l - ax)) ∧
      (dx * (t - ay) - dy * (l - ax) ≤ 0 ∨ dx * (t - ay) - dy * (r - ax) ≤ 0 ∨ dx * (b - ay) - dy * (r - ax) ≤ 0 ∨ dx * (b - ay) - dy * (l - ax) ≤ 0)) := by
  have e1 : ax + dx - ax = dx := by omega
  have e2 : ay + dy - ay = dy := by omega
  simp only [segB, Bool.and_eq_true, decide_eq_true_eq, cntL_lt, cntR_lt, turns, turnZ, cornX, cornY, e1, e2]
  have hm : segMeets ax ay (ax + dx) (ay + dy) l t r b = true ↔ (min ax (ax + dx) ≤ r ∧ l ≤ max ax (ax + dx) ∧ min ay (ay + dy) ≤ b ∧ t ≤ max ay (ay + dy)) := by
    simp only [segMeets, meetsB, boxZ, List.foldl_cons, List.foldl_nil, bxAt, Bx.join, mnZ, mxZ]
    exact decide_eq_true_iff
  rw [hm]

theorem mul_mono {d a b : Int} (h : 0 ≤ d) (hab : a ≤ b) : d * a ≤ d * b := Int.mul_le_mul_of_nonneg_left hab h
theorem mul_anti {d a b : Int} (h : d ≤ 0) (hab : a ≤ b) : d * b ≤ d * a := by
  have := Int.mul_le_mul_of_nonneg_left hab (show 0 ≤ -d by omega)
  rw [Int.neg_mul, Int.neg_mul] at this
  omega

theorem cmp0 : Cmp ⟨0, 1, 1, 1⟩ := by unfold Cmp; decide
theorem low0 (X Y : Int) : LowE ⟨0, 1, 1, 1⟩ X Y ↔ 0 ≤ X := by simp [LowE]
theorem upp0 (X Y : Int) : UppE ⟨0, 1, 1, 1⟩ X Y ↔ X ≤ Y := by simp [UppE]
theorem pos0 : Pos ⟨0, 1, 1, 1⟩ := ⟨by decide, by decide⟩

theorem crosses_seg (ax ay bx by' x y p : Int) (hp : 0 ≤ p) : crossesB ax ay bx by' x y p = segB ax ay bx by' x y (x + p) (y + p) := by
  obtain ⟨dx, rfl⟩ : ∃ dx, bx = ax + dx := ⟨bx - ax, by omega⟩
  obtain ⟨dy, rfl⟩ : ∃ dy, by' = ay + dy := ⟨by' - ay, by omega⟩
  have e1 : ax + dx - ax = dx := by omega
  have e2 : ay + dy - ay = dy := by omega
  rw [Bool.eq_iff_iff, seg_iff]
  have hc : crossesB ax ay (ax + dx) (ay + dy) x y p = true ↔ Cmp (axisZ (axisZ ⟨0, 1, 1, 1⟩ ax dx x (x + p)) ay dy y (y + p)) := by
    simp only [crossesB, decide_eq_true_eq, crossS, e1, e2]
    exact Iff.rfl
  rw [hc]
  clear hc
  have hl : x ≤ x + p := by omega
  have ht : y ≤ y + p := by omega
  have c1 : (x - ax) * dy = dy * (x - ax) := Int.mul_comm _ _
  have c2 : (x + p - ax) * dy = dy * (x + p - ax) := Int.mul_comm _ _
  have c3 : (y - ay) * dx = dx * (y - ay) := Int.mul_comm _ _
  have c4 : (y + p - ay) * dx = dx * (y + p - ay) := Int.mul_comm _ _
  have n1 : (ax - x) * dy = -(dy * (x - ax)) := by rw [show ax - x = -(x - ax) by omega, Int.neg_mul, c1]
  have n2 : (ax - (x + p)) * dy = -(dy * (x + p - ax)) := by rw [show ax - (x + p) = -(x + p - ax) by omega, Int.neg_mul, c2]
  have n3 : (ay - y) * dx = -(dx * (y - ay)) := by rw [show ay - y = -(y - ay) by omega, Int.neg_mul, c3]
  have n4 : (ay - (y + p)) * dx = -(dx * (y + p - ay)) := by rw [show ay - (y + p) = -(y + p - ay) by omega, Int.neg_mul, c4]
  rcases Int.lt_trichotomy dx 0 with hx | rfl | hx
  · have mx := mul_anti (d := dx) (a := y - ay) (b := y + p - ay) (by omega) (by omega)
    rcases Int.lt_trichotomy dy 0 with hy | rfl | hy
    · have my := mul_anti (d := dy) (a := x - ax) (b := x + p - ax) (by omega) (by omega)
      rw [axis_cmp' (axis_pos pos0) hy ht, axis_cmp' pos0 hx hl, axis_upp' pos0 hx (by omega), axis_low' pos0 hx (by omega)]
      simp only [cmp0, low0, upp0, Int.mul_neg, n1, n2, n3, n4, Int.neg_neg, true_and]
      omega
    · rcases axis_zero (s := axisZ ⟨0, 1, 1, 1⟩ ax dx x (x + p)) (v := ay) (lo := y) (hi := y + p) (axis_pos pos0) with ⟨h1, h2, h3⟩ | ⟨h1, h2⟩
      · rw [h3, axis_cmp' pos0 hx hl]
        have k1 := mul_anti (d := dx) (a := y - ay) (b := 0) (by omega) (by omega)
        have k2 := mul_anti (d := dx) (a := 0) (b := y + p - ay) (by omega) (by omega)
        simp only [cmp0, low0, upp0, true_and, Int.zero_mul, Int.mul_zero] at k1 k2 ⊢
        omega
      · refine ⟨fun k => absurd k (bad_cmp h2), fun k => absurd ?_ h1⟩
        omega
    · have my := mul_mono (d := dy) (a := x - ax) (b := x + p - ax) (by omega) (by omega)
      rw [axis_cmp (axis_pos pos0) hy ht, axis_cmp' pos0 hx hl, axis_upp' pos0 hx (by omega), axis_low' pos0 hx (by omega)]
      simp only [cmp0, low0, upp0, Int.mul_neg, n1, n2, c3, c4, true_and]
      omega
  · rcases axis_zero (s := ⟨0, 1, 1, 1⟩) (v := ax) (lo := x) (hi := x + p) pos0 with ⟨h1, h2, h3⟩ | ⟨h1, h2⟩
    · rw [h3]
      rcases Int.lt_trichotomy dy 0 with hy | rfl | hy
      · have k1 := mul_anti (d := dy) (a := x - ax) (b := 0) (by omega) (by omega)
        have k2 := mul_anti (d := dy) (a := 0) (b := x + p - ax) (by omega) (by omega)
        rw [axis_cmp' pos0 hy ht]
        simp only [cmp0, low0, upp0, true_and, Int.zero_mul, Int.mul_zero] at k1 k2 ⊢
        omega
      · rcases axis_zero (s := ⟨0, 1, 1, 1⟩) (v := ay) (lo := y) (hi := y + p) pos0 with ⟨h4, h5, h6⟩ | ⟨h4, h5⟩
        · rw [h6]
          simp only [cmp0, Int.zero_mul, true_iff]
          omega
        · refine ⟨fun k => absurd k (bad_cmp h5), fun k => absurd ?_ h4⟩
          omega
      · have k1 := mul_mono (d := dy) (a := x - ax) (b := 0) (by omega) (by omega)
        have k2 := mul_mono (d := dy) (a := 0) (b := x + p - ax) (by omega) (by omega)
        rw [axis_cmp pos0 hy ht]
        simp only [cmp0, low0, upp0, true_and, Int.zero_mul, Int.mul_zero] at k1 k2 ⊢
        omega
    · refine ⟨fun k => absurd k (bad_cmp (bad_axis h2)), fun k => absurd ?_ h1⟩
      omega
  · have mx := mul_mono (d := dx) (a := y - ay) (b := y + p - ay) (by omega) (by omega)
    rcases Int.lt_trichotomy dy 0 with hy | rfl | hy
    · have my := mul_anti (d := dy) (a := x - ax) (b := x + p - ax) (by omega) (by omega)
      rw [axis_cmp' (axis_pos pos0) hy ht, axis_cmp pos0 hx hl, axis_upp pos0 hx (by omega), axis_low pos0 hx (by omega)]
      simp only [cmp0, low0, upp0, Int.mul_neg, c1, c2, n3, n4, true_and]
      omega
    · rcases axis_zero (s := axisZ ⟨0, 1, 1, 1⟩ ax dx x (x + p)) (v := ay) (lo := y) (hi := y + p) (axis_pos pos0) with ⟨h1, h2, h3⟩ | ⟨h1, h2⟩
      · rw [h3, axis_cmp pos0 hx hl]
        have k1 := mul_mono (d := dx) (a := y - ay) (b := 0) (by omega) (by omega)
        have k2 := mul_mono (d := dx) (a := 0) (b := y + p - ay) (by omega) (by omega)
        simp only [cmp0, low0, upp0, true_and, Int.zero_mul, Int.mul_zero] at k1 k2 ⊢
        omega
      · refine ⟨fun k => absurd k (bad_cmp h2), fun k => absurd ?_ h1⟩
        omega
    · have my := mul_mono (d := dy) (a := x - ax) (b := x + p - ax) (by omega) (by omega)
      rw [axis_cmp (axis_pos pos0) hy ht, axis_cmp pos0 hx hl, axis_upp pos0 hx (by omega), axis_low pos0 hx (by omega)]
      simp only [cmp0, low0, upp0, c1, c2, c3, c4, true_and]
      omega

end Go.Proofs.YtbphndloichnaaaGreatDoor
namespace Go.Proofs.YtbphndloichnaaaGreatDoor
open Go.RowKit

/-- A box in the first four cells of a block. -/
structure C4 (w : World) (q : Nat) (x : Bx) : Prop where
  c0 : w.cell? ⟨q, 0, none⟩ = some (.int .i64 x.l)
  c1 : w.cell? ⟨q, 1, none⟩ = some (.int .i64 x.t)
  c2 : w.cell? ⟨q, 2, none⟩ = some (.int .i64 x.r)
  c3 : w.cell? ⟨q, 3, none⟩ = some (.int .i64 x.b)
theorem C4.below {n : Nat} {A B : World} (h : Below n A B) {q : Nat} (hq : q < n) {x : Bx} (c : C4 A q x) : C4 B q x := by
  obtain ⟨hc, _⟩ := bcell h
  exact ⟨(hc _ _ hq).trans c.c0, (hc _ _ hq).trans c.c1, (hc _ _ hq).trans c.c2, (hc _ _ hq).trans c.c3⟩

/-- A list of nodes: their blocks and boxes. -/
abbrev Kids := List (Nat × Bx)
def KidsAt (n0 : Nat) (w : World) (kb ko : Nat) (ks : Kids) : Prop :=
  kb < n0 ∧ ∀ i q x, ks[i]? = some (q, x) → w.cell? ⟨kb, ko + i, none⟩ = some (.pointer (some ⟨q, 0, none⟩)) ∧ q < n0 ∧ C4 w q x
theorem KidsAt.below {n0 : Nat} {A B : World} (h : Below n0 A B) {kb ko : Nat} {ks : Kids} (k : KidsAt n0 A kb ko ks) : KidsAt n0 B kb ko ks :=
  ⟨k.1, fun i q x e => ⟨(h.cell (p := ⟨kb, ko + i, none⟩) k.1).trans (k.2 i q x e).1, (k.2 i q x e).2.1, (k.2 i q x e).2.2.below h (k.2 i q x e).2.1⟩⟩
theorem KidsAt.mono {n0 n1 : Nat} (h : n0 ≤ n1) {w : World} {kb ko : Nat} {ks : Kids} (k : KidsAt n0 w kb ko ks) : KidsAt n1 w kb ko ks :=
  ⟨Nat.lt_of_lt_of_le k.1 h, fun i q x e => ⟨(k.2 i q x e).1, Nat.lt_of_lt_of_le (k.2 i q x e).2.1 h, (k.2 i q x e).2.2⟩⟩
theorem KidsAt.at {n0 : Nat} {w : World} {kb ko : Nat} {ks : Kids} (k : KidsAt n0 w kb ko ks) {i : Nat} (h : i < ks.length) : ∃ q x, ks[i]? = some (q, x) ∧ w.cell? ⟨kb, ko + i, none⟩ = some (.pointer (some ⟨q, 0, none⟩)) ∧ q < n0 ∧ C4 w q x :=
  ⟨ks[i].1, ks[i].2, List.getElem?_eq_getElem h, k.2 i _ _ (List.getElem?_eq_getElem h)⟩

def joinK : Kids → Bx
  | [] => ⟨0, 0, 0, 0⟩
  | k :: ks => ks.foldl (fun b q => b.join q.2) k.2
theorem joinK_snoc (ks : Kids) (q : Nat × Bx) (h : ks ≠ []) : joinK (ks ++ [q]) = (joinK ks).join q.2 := by
  cases ks with
  | nil => exact absurd rfl h
  | cons p r => simp [joinK, List.foldl_append]
theorem take_succ_kids {ks : Kids} {k : Nat} {p : Nat × Bx} (h : ks[k]? = some p) : ks.take (k + 1) = ks.take k ++ [p] := by
  rw [List.take_add_one, h]; rfl

set_option maxRecDepth 100000 in
set_option maxHeartbeats 2000000 in
theorem over_any (kb ko n cap : Nat) (ks : Kids) (w : World) (hk : KidsAt w.heap.size w kb ko ks) (hn : n = ks.length) (hn1 : 1 ≤ n) (hn2 : n ≤ 1000000) (hcap : n ≤ cap) :
    Calls Tryz.prog 54 #[.slice (some ⟨kb, ko, none⟩) n cap] w fun e w' => ∃ q : Nat, e = .returned (.pointer (some ⟨q, 0, none⟩)) ∧ w.heap.size ≤ q ∧ q < w'.heap.size ∧ C4 w' q (joinK ks) ∧ w'.cell? ⟨q, 4, none⟩ = some (.slice (some ⟨kb, ko, none⟩) n cap) ∧ Below w.heap.size w w' := by
  have Hn : Hid (n = ks.length) := hn
  clear hn
  obtain ⟨q0, x0, hq0, hp0, hl0, hc0⟩ := hk.at (i := 0) (by rw [← Hn.out]; exact hn1)
  simp only [Nat.add_zero] at hp0
  have H0 : Hid (ks[0]? = some (q0, x0)) := hq0
  obtain ⟨e0, e1, e2, e3⟩ := hc0
  have Hk : Hid (KidsAt w.heap.size w kb ko ks) := hk
  have hkb := hk.1
  clear hq0 hk
  go_enter Tryz.func54, Tryz.ntmps54
  go_wp2
  all_goals
    go_loopw [15] (fun i wr => ∃ k : Nat, k ≤ n - 1 ∧ i = .int .i64 k ∧ Q4 wr w.heap.size (.int .i64 (joinK (ks.take (k + 1))).l) (.int .i64 (joinK (ks.take (k + 1))).t) (.int .i64 (joinK (ks.take (k + 1))).r) (.int .i64 (joinK (ks.take (k + 1))).b) ∧ Below w.heap.size w wr ∧ w.heap.size < wr.heap.size) (fun i _ => n - 1 - (intOf i).toNat)
    case atStart =>
      refine ⟨0, Nat.zero_le _, rfl, ?_, (Below.refl _ _).alloc (Nat.le_refl _) _, by simp⟩
      rw [take_succ_kids H0.out]
      exact Q4.new _ _ _ _ _ _
    case round =>
      clear e0 e1 e2 e3 hp0
      obtain ⟨k, hk, rfl, hq, hB, hs⟩ := hrel
      by_cases hlt : k < n - 1
      · first
        | (exfalso; omega)
        | (
          generalize hl : (joinK (ks.take (k + 1))).l = l at hq
          generalize ht : (joinK (ks.take (k + 1))).t = t at hq
          generalize hr : (joinK (ks.take (k + 1))).r = r at hq
          generalize hbb : (joinK (ks.take (k + 1))).b = bb at hq
          obtain ⟨q, x, hqx, hp, hlq, hcx⟩ := (Hk.out.below hB).at (i := k + 1) (by rw [← Hn.out]; omega)
          rw [show ko + (k + 1) = ko + 1 + k from by omega] at hp
          have HJ : Hid (joinK (ks.take (k + 1 + 1)) = (⟨mnZ l x.l, mnZ t x.t, mxZ r x.r, mxZ bb x.b⟩ : Bx)) := by
            show joinK (ks.take (k + 1 + 1)) = _
            rw [take_succ_kids hqx, joinK_snoc _ _ (by have := Hn.out; intro e; have h2 := congrArg List.length e; rw [List.length_take] at h2; simp only [List.length_nil] at h2; omega), ← hl, ← ht, ← hr, ← hbb]; rfl
          clear hqx hl ht hr hbb
          obtain ⟨xl, xt, xr, xb⟩ := x
          obtain ⟨d0, d1, d2, d3⟩ := hcx
          dsimp only at d0 d1 d2 d3 HJ
          have hq' := hq
          obtain ⟨c0, c1, c2, c3, f0, f1, f2, f3⟩ := hq
          have hz1 : q < wr.heap.size := by omega
          have hz2 : kb < wr.heap.size := by omega
          go_upto_region 5 with fail
          go_region_with (first
            | (go_at_call 86; refine (Join_any _ _ _ _ _ _ _ _ _).mono ?_; rintro e w3 ⟨rfl, hb3⟩; have hs3 := hb3.size; (try simp at hs3); have q3 := hq'.drew.below hb3 (by simp <;> omega); obtain ⟨k0, k1, k2, k3, m0, m1, m2, m3⟩ := q3))
          all_goals
            have HQ3 : Hid (Q4 w3 w.heap.size (.int .i64 l) (.int .i64 t) (.int .i64 r) (.int .i64 bb)) := ⟨k0, k1, k2, k3, m0, m1, m2, m3⟩
            clear k0 k1 k2 k3 m0 m1 m2 m3 d0 d1 d2 d3 c0 c1 c2 c3 f0 f1 f2 f3
            go_wp2
            go_roundw
            case rel =>
              refine ⟨k + 1, by omega, by go_num, ?_, (hB.drew.trans (hb3.mono (by simp <;> omega))).trans (below_set4 w.heap.size _ _ (Nat.le_refl _) _ _ _ _), Nat.lt_of_lt_of_le (by omega) (below_set4 w.heap.size w3 w.heap.size (Nat.le_refl _) _ _ _ _).size⟩
              rw [HJ.out]
              exact HQ3.out.set _ _ _ _
            case measure => simp [intOf]; omega)
      · have HK : Hid (joinK (ks.take (k + 1)) = joinK ks) := by
          show joinK (ks.take (k + 1)) = joinK ks
          rw [show k + 1 = ks.length from by have := Hn.out; omega, List.take_length]
        rw [HK.out] at hq
        obtain ⟨c0, c1, c2, c3, f0, f1, f2, f3⟩ := hq
        go_wp2
        go_ret
        refine ⟨_, rfl, by omega, by simp, ⟨?_, ?_, ?_, ?_⟩, ?_, hB.alloc (by omega) _⟩ <;> (simp [go_sem] <;> omega)

end Go.Proofs.YtbphndloichnaaaGreatDoor
