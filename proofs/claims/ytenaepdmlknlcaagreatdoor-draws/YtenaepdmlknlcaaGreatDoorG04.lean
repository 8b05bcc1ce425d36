import Derived.Test.YtenaepdmlknlcaaGreatDoorG03
namespace Go.Proofs.YtenaepdmlknlcaaGreatDoor
open Go.RowKit

def rlineTo (ps : Pts) (x y p : Int) : Nat → Bool
  | 0 => false
  | k + 1 => rlineTo ps x y p k || crossesB (pg ps k).1 (pg ps k).2 (pg ps (k + 1)).1 (pg ps (k + 1)).2 x y p
def rcoverB (kd : Int) (ps : Pts) (x y p : Int) : Bool :=
  if kd = 1 then pointB (pg ps 0).1 (pg ps 0).2 x y (x + p) (y + p) else if kd = 2 then rlineTo ps x y p (ps.length - 1) else insideB ps (x + p / 2) (y + p / 2)

theorem rlineTo_mono (ps : Pts) (x y p : Int) (k : Nat) : ∀ d : Nat, rlineTo ps x y p k = true → rlineTo ps x y p (k + d) = true
  | 0, h => h
  | d + 1, h => by
    have := rlineTo_mono ps x y p k d h
    show (rlineTo ps x y p (k + d) || _) = true
    rw [this]; rfl

set_option maxRecDepth 100000 in
set_option maxHeartbeats 4000000 in
theorem rCovers_any (id kd ht col : Int) (bl off n cap : Nat) (ps : Pts) (x y p : Int) (w : World) (hp : Places w.heap.size w bl off ps) (hn : n = ps.length) (hmay : mayB kd n = true) (hall : ps.all inW = true)
    (h5 : 0 ≤ x) (h6 : 0 ≤ y) (h7 : 0 ≤ p) (g5 : x ≤ 300) (g6 : y ≤ 300) (g7 : p ≤ 300) :
    Calls Tryz.prog 141 #[.agg #[.int .i64 id, .int .i64 kd, .int .i64 ht, .int .i64 col, .slice (some ⟨bl, off, none⟩) n cap], .int .i64 x, .int .i64 y, .int .i64 p] w fun e w' => e = .returned (.bool (rcoverB kd ps x y p)) ∧ Below w.heap.size w w' := by
  have hB : ∀ o1 : Obj, Below w.heap.size w (w.alloc o1) := fun o1 => (Below.refl _ _).alloc (Nat.le_refl _) _
  have hbl := hp.1
  simp only [mayB, decide_eq_true_eq] at hmay
  rcases hmay with ⟨rfl, hn1⟩ | ⟨rfl, hn1, hn6⟩ | ⟨rfl, hn1, hn6⟩
  · have hn1' : n = 1 := by omega
    subst hn1'
    obtain ⟨ax, ay, hxy, hx, hy⟩ := hp.at (k := 0) (by omega)
    simp only [Nat.zero_mul, Nat.add_zero] at hx hy
    have HR : Hid (rcoverB 1 ps x y p = pointB ax ay x y (x + p) (y + p)) := by
      show rcoverB 1 ps x y p = _
      simp [rcoverB, pg_of hxy]
    clear hp hxy hn hall hn1
    rw [HR.out]
    by_cases c1 : x ≤ ax
    · by_cases c2 : ax < x + p
      · by_cases c3 : y ≤ ay
        · by_cases c4 : ay < y + p
          · go_enter Tryz.func141, Tryz.ntmps141
            go_wp2
            go_ret
            exact ⟨ret_bool (by simp [pointB]; omega), hB _⟩
          · go_enter Tryz.func141, Tryz.ntmps141
            go_wp2
            go_ret
            exact ⟨ret_bool (by simp [pointB]; omega), hB _⟩
        · go_enter Tryz.func141, Tryz.ntmps141
          go_wp2
          go_ret
          exact ⟨ret_bool (by simp [pointB]; omega), hB _⟩
      · go_enter Tryz.func141, Tryz.ntmps141
        go_wp2
        go_ret
        exact ⟨ret_bool (by simp [pointB]; omega), hB _⟩
    · go_enter Tryz.func141, Tryz.ntmps141
      go_wp2
      go_ret
      exact ⟨ret_bool (by simp [pointB]; omega), hB _⟩
  · have Hn : Hid (n = ps.length) := hn
    have Hall : Hid (ps.all inW = true) := hall
    have Hp : Hid (Places w.heap.size w bl off ps) := hp
    have HR : Hid (rcoverB 2 ps x y p = rlineTo ps x y p (ps.length - 1)) := by show rcoverB 2 ps x y p = _; simp [rcoverB]
    rw [HR.out]
    clear hn hall hp HR
    go_enter Tryz.func141, Tryz.ntmps141
    go_wp2
    go_loopw [9] (fun i wr => ∃ m : Nat, m + 1 ≤ n ∧ i = .int .i64 (m : Int) ∧ rlineTo ps x y p m = false ∧ wr.cell? ⟨w.heap.size, 4, none⟩ = some (.slice (some ⟨bl, off, none⟩) n cap) ∧ Below w.heap.size w wr ∧ w.heap.size < wr.heap.size) (fun i _ => n - (intOf i).toNat)
    case atStart => exact ⟨0, by omega, rfl, rfl, by simp [go_sem], hB _, by simp⟩
    case round =>
      obtain ⟨m, hk, rfl, hline, c4, hBw, hs⟩ := hrel
      have Hline : Hid (rlineTo ps x y p m = false) := hline
      clear hline
      by_cases hlt : m + 1 < n
      · obtain ⟨bx, by', hxy, hx, hy⟩ := (Hp.out.below hBw).at (k := m + 1) (by rw [← Hn.out]; omega)
        obtain ⟨ax, ay, hxy', hx', hy'⟩ := (Hp.out.below hBw).at (k := m) (by rw [← Hn.out]; omega)
        obtain ⟨b1, b2, b3, b4⟩ := inW_of Hall.out hxy
        obtain ⟨b1', b2', b3', b4'⟩ := inW_of Hall.out hxy'
        have Hseg : Hid (rlineTo ps x y p (m + 1) = crossesB ax ay bx by' x y p) := by
          show rlineTo ps x y p (m + 1) = _
          rw [rlineTo, Hline.out, Bool.false_or, pg_of hxy, pg_of hxy']
        clear hxy hxy' Hline
        have hk2 : ((m : Int) + 1).toNat = m + 1 := by omega
        have hk3 : (m : Int) + 1 < (n : Int) := by omega
        have hk4 : (m : Int) < (n : Int) := by omega
        have hk5 : (0 : Int) ≤ (m : Int) := by omega
        have hk6 : (0 : Int) ≤ (m : Int) + 1 := by omega
        have hk7 : IntKind.i64.wrap (m : Int) = (m : Int) := by rw [IntKind.wrap_i64]; omega
        have hk8 : IntKind.i64.wrap ((m : Int) + 1) = (m : Int) + 1 := by rw [IntKind.wrap_i64]; omega
        go_upto_region 8 with fail
        go_region_held3 (fun w' => w'.cell? ⟨bl, off + (m + 1) * 2, none⟩ = some (.int .i64 bx) ∧ w'.cell? ⟨bl, off + (m + 1) * 2 + 1, none⟩ = some (.int .i64 by') ∧ w'.cell? ⟨bl, off + m * 2, none⟩ = some (.int .i64 ax) ∧ w'.cell? ⟨bl, off + m * 2 + 1, none⟩ = some (.int .i64 ay) ∧ w'.cell? ⟨w.heap.size, 4, none⟩ = some (.slice (some ⟨bl, off, none⟩) n cap)) (first | (simp [go_sem, *]; done) | exact s2)
          (first
          | (go_at_call 169; refine (crosses_any ax ay bx by' x y p _ (by omega) (by omega) (by omega) (by omega) (by omega) (by omega) (by omega) (by omega) (by omega) (by omega) (by omega) (by omega) (by omega) (by omega)).mono ?_; rintro e w2 ⟨rfl, hb2⟩; obtain ⟨hc2, hf2⟩ := bcell hb2; have s2 := And.intro ((hc2 bl (off + (m + 1) * 2) (by simp <;> omega)).trans hx) (And.intro ((hc2 bl (off + (m + 1) * 2 + 1) (by simp <;> omega)).trans hy) (And.intro ((hc2 bl (off + m * 2) (by simp <;> omega)).trans hx') (And.intro ((hc2 bl (off + m * 2 + 1) (by simp <;> omega)).trans hy') ((hc2 w.heap.size 4 (by simp <;> omega)).trans c4)))); clear hc2 hf2))
        have hs2 := hb2.size
        simp at hs2
        have hB2 : Below w.heap.size w w2 := hBw.drew.trans (hb2.mono (by simp <;> omega))
        have c42 := s2.2.2.2.2
        clear s2 c4 hx hy hx' hy'
        by_cases hsg : crossesB ax ay bx by' x y p = true
        · have Hv : Hid (rlineTo ps x y p (ps.length - 1) = true) := by
            show rlineTo ps x y p (ps.length - 1) = true
            have h := rlineTo_mono ps x y p (m + 1) (ps.length - 1 - (m + 1)) (by rw [Hseg.out]; exact hsg)
            rw [show m + 1 + (ps.length - 1 - (m + 1)) = ps.length - 1 from by have := Hn.out; omega] at h
            exact h
          rw [hsg]
          go_wp2
          go_ret
          exact ⟨ret_bool Hv.out.symm, hB2⟩
        · have hsg' : crossesB ax ay bx by' x y p = false := by simpa using hsg
          clear hsg
          have Hv : Hid (rlineTo ps x y p (m + 1) = false) := by show rlineTo ps x y p (m + 1) = false; rw [Hseg.out]; exact hsg'
          rw [hsg']
          clear hsg'
          go_wp2
          go_roundw
          case rel => exact ⟨m + 1, by omega, by go_num, Hv.out, c42, hB2, by omega⟩
          case measure => simp [intOf]; omega
      · have Hv : Hid (rlineTo ps x y p (ps.length - 1) = false) := by
          show rlineTo ps x y p (ps.length - 1) = false
          rw [← Hn.out, show n - 1 = m from by omega]; exact Hline.out
        go_wp2
        go_ret
        exact ⟨ret_bool Hv.out.symm, hBw⟩
  · have HR : Hid (rcoverB 3 ps x y p = insideB ps (x + p / 2) (y + p / 2)) := by show rcoverB 3 ps x y p = _; simp [rcoverB]
    rw [HR.out]
    have Hin : Hid (∀ W : World, Below w.heap.size w W → Calls Tryz.prog 170 #[.slice (some ⟨bl, off, none⟩) n cap, .int .i64 (x + p / 2), .int .i64 (y + p / 2)] W fun e w' => e = .returned (.bool (insideB ps (x + p / 2) (y + p / 2))) ∧ Below W.heap.size W w') := fun W hW =>
      inside_any bl off n cap ps (x + p / 2) (y + p / 2) W ((hp.below hW).mono hW.size) hn (by omega) (by omega) hall (by omega) (by omega) (by omega) (by omega)
    clear hp hn hall HR
    go_enter Tryz.func141, Tryz.ntmps141
    go_wp2_with (go_at_call 170; refine Calls.mono (Hin.out _ (hB _)) ?_; rintro e w2 ⟨rfl, hb2⟩)
    go_ret
    exact ⟨rfl, (hB _).trans (hb2.mono (by simp))⟩

end Go.Proofs.YtenaepdmlknlcaaGreatDoor

namespace Go.Proofs.YtenaepdmlknlcaaGreatDoor

/-! Plain mathematics: the document's cover of a line is the program's. -/

theorem frac_trans {a b c d e f : Int} (hb : 0 < b) (hd : 0 < d) (hf : 0 < f) (h1 : a * d ≤ c * b) (h2 : c * f ≤ e * d) : a * f ≤ e * b := by
  have h3 : a * d * f ≤ c * b * f := Int.mul_le_mul_of_nonneg_right h1 (Int.le_of_lt hf)
  have h4 : c * f * b ≤ e * d * b := Int.mul_le_mul_of_nonneg_right h2 (Int.le_of_lt hb)
  have e1 : a * d * f = d * (a * f) := by rw [Int.mul_assoc, Int.mul_left_comm]
  have e2 : c * b * f = c * f * b := by rw [Int.mul_right_comm]
  have e3 : e * d * b = d * (e * b) := by rw [Int.mul_comm e d, Int.mul_assoc]
  rw [e1, e2] at h3
  rw [e3] at h4
  exact Int.le_of_mul_le_mul_left (Int.le_trans h3 h4) hd

/-- The lower end is at most X over Y; the upper one at least; the span is not empty. -/
def LowE (s : Sp) (X Y : Int) : Prop := s.a * Y ≤ X * s.b
def UppE (s : Sp) (X Y : Int) : Prop := X * s.d ≤ s.c * Y
def Cmp (s : Sp) : Prop := s.a * s.d ≤ s.c * s.b
def Pos (s : Sp) : Prop := 0 < s.b ∧ 0 < s.d

theorem cut_pos {s : Sp} {v d lo : Int} (h : Pos s) : Pos (cutZ s v d lo) := by
  obtain ⟨hb, hd⟩ := h
  simp only [cutZ]
  split
  · exact ⟨by decide, by decide⟩
  · split
    · rename_i h; exact ⟨h.1, hd⟩
    · split
      · rename_i h; exact ⟨hb, show 0 < -d by omega⟩
      · exact ⟨hb, hd⟩

theorem low_low {s : Sp} {v d lo X Y : Int} (hs : Pos s) (h : 0 < d) (hY : 0 < Y) : LowE (cutZ s v d lo) X Y ↔ (LowE s X Y ∧ (lo - v) * Y ≤ X * d) := by
  have h0 : ¬ (d = 0 ∧ 0 < lo - v) := by omega
  simp only [cutZ, if_neg h0, LowE]
  by_cases h1 : 0 < d ∧ s.a * d < (lo - v) * s.b
  · rw [if_pos h1]
    exact ⟨fun h2 => ⟨frac_trans hs.1 h hY (Int.le_of_lt h1.2) h2, h2⟩, fun h2 => h2.2⟩
  · rw [if_neg h1, if_neg (by omega)]
    have h3 : (lo - v) * s.b ≤ s.a * d := Int.not_lt.1 fun h4 => h1 ⟨h, h4⟩
    exact ⟨fun h2 => ⟨h2, frac_trans h hs.1 hY h3 h2⟩, fun h2 => h2.1⟩
theorem upp_low {s : Sp} {v d lo X Y : Int} (h : 0 < d) : UppE (cutZ s v d lo) X Y ↔ UppE s X Y := by
  have h0 : ¬ (d = 0 ∧ 0 < lo - v) := by omega
  simp only [cutZ, if_neg h0, UppE]
  split
  · rfl
  · rw [if_neg (by omega)]
theorem upp_high {s : Sp} {v d lo X Y : Int} (hs : Pos s) (h : d < 0) (hY : 0 < Y) : UppE (cutZ s v d lo) X Y ↔ (UppE s X Y ∧ X * -d ≤ -(lo - v) * Y) := by
  have h0 : ¬ (d = 0 ∧ 0 < lo - v) := by omega
  have h0' : ¬ (0 < d ∧ s.a * d < (lo - v) * s.b) := by omega
  simp only [cutZ, if_neg h0, if_neg h0', UppE]
  have hd : 0 < -d := by omega
  by_cases h1 : d < 0 ∧ -(lo - v) * s.d < s.c * -d
  · rw [if_pos h1]
    exact ⟨fun h2 => ⟨frac_trans hY hd hs.2 h2 (Int.le_of_lt h1.2), h2⟩, fun h2 => h2.2⟩
  · rw [if_neg h1]
    have h3 : s.c * -d ≤ -(lo - v) * s.d := Int.not_lt.1 fun h4 => h1 ⟨h, h4⟩
    exact ⟨fun h2 => ⟨h2, frac_trans hY hs.2 hd h2 h3⟩, fun h2 => h2.1⟩
theorem low_high {s : Sp} {v d lo X Y : Int} (h : d < 0) : LowE (cutZ s v d lo) X Y ↔ LowE s X Y := by
  have h0 : ¬ (d = 0 ∧ 0 < lo - v) := by omega
  have h0' : ¬ (0 < d ∧ s.a * d < (lo - v) * s.b) := by omega
  simp only [cutZ, if_neg h0, if_neg h0', LowE]
  split <;> rfl
theorem cmp_low {s : Sp} {v d lo : Int} (hs : Pos s) (h : 0 < d) : Cmp (cutZ s v d lo) ↔ (Cmp s ∧ UppE s (lo - v) d) := by
  have e : Cmp (cutZ s v d lo) ↔ LowE (cutZ s v d lo) (cutZ s v d lo).c (cutZ s v d lo).d := Iff.rfl
  have hc : (cutZ s v d lo).c = s.c ∧ (cutZ s v d lo).d = s.d := by
    have h0 : ¬ (d = 0 ∧ 0 < lo - v) := by omega
    simp only [cutZ, if_neg h0]
    split
    · exact ⟨rfl, rfl⟩
    · rw [if_neg (by omega)]; exact ⟨rfl, rfl⟩
  rw [e, hc.1, hc.2, low_low hs h hs.2]
  exact Iff.rfl
theorem cmp_high {s : Sp} {v d lo : Int} (hs : Pos s) (h : d < 0) : Cmp (cutZ s v d lo) ↔ (Cmp s ∧ LowE s (-(lo - v)) (-d)) := by
  have e : Cmp (cutZ s v d lo) ↔ UppE (cutZ s v d lo) (cutZ s v d lo).a (cutZ s v d lo).b := Iff.rfl
  have hc : (cutZ s v d lo).a = s.a ∧ (cutZ s v d lo).b = s.b := by
    have h0 : ¬ (d = 0 ∧ 0 < lo - v) := by omega
    have h0' : ¬ (0 < d ∧ s.a * d < (lo - v) * s.b) := by omega
    simp only [cutZ, if_neg h0, if_neg h0']
    split <;> exact ⟨rfl, rfl⟩
  rw [e, hc.1, hc.2, upp_high hs h hs.1]
  exact Iff.rfl

/-- Both cuts along one way. -/
def axisZ (s : Sp) (v d lo hi : Int) : Sp := cutZ (cutZ s v d lo) (-v) (-d) (-hi)
theorem axis_pos {s : Sp} {v d lo hi : Int} (h : Pos s) : Pos (axisZ s v d lo hi) := cut_pos (cut_pos h)

theorem axis_low {s : Sp} {v d lo hi X Y : Int} (hs : Pos s) (h : 0 < d) (hY : 0 < Y) : LowE (axisZ s v d lo hi) X Y ↔ (LowE s X Y ∧ (lo - v) * Y ≤ X * d) := by
  rw [axisZ, low_high (by omega), low_low hs h hY]
theorem axis_upp {s : Sp} {v d lo hi X Y : Int} (hs : Pos s) (h : 0 < d) (hY : 0 < Y) : UppE (axisZ s v d lo hi) X Y ↔ (UppE s X Y ∧ X * d ≤ (hi - v) * Y) := by
  rw [axisZ, upp_high (cut_pos hs) (by omega) hY, upp_low h, Int.neg_neg, show -(-hi - -v) = hi - v by omega]
theorem axis_cmp {s : Sp} {v d lo hi : Int} (hs : Pos s) (h : 0 < d) (hl : lo ≤ hi) : Cmp (axisZ s v d lo hi) ↔ (Cmp s ∧ UppE s (lo - v) d ∧ LowE s (hi - v) d) := by
  rw [axisZ, cmp_high (cut_pos hs) (by omega), cmp_low hs h, Int.neg_neg, show -(-hi - -v) = hi - v by omega, low_low hs h h]
  have : (lo - v) * d ≤ (hi - v) * d := Int.mul_le_mul_of_nonneg_right (by omega) (by omega)
  constructor
  · exact fun k => ⟨k.1.1, k.1.2, k.2.1⟩
  · exact fun k => ⟨⟨k.1, k.2.1⟩, k.2.2, this⟩

theorem axis_low' {s : Sp} {v d lo hi X Y : Int} (hs : Pos s) (h : d < 0) (hY : 0 < Y) : LowE (axisZ s v d lo hi) X Y ↔ (LowE s X Y ∧ (v - hi) * Y ≤ X * -d) := by
  rw [axisZ, low_low (cut_pos hs) (by omega) hY, low_high h, show -hi - -v = v - hi by omega]
theorem axis_upp' {s : Sp} {v d lo hi X Y : Int} (hs : Pos s) (h : d < 0) (hY : 0 < Y) : UppE (axisZ s v d lo hi) X Y ↔ (UppE s X Y ∧ X * -d ≤ (v - lo) * Y) := by
  rw [axisZ, upp_low (by omega), upp_high hs h hY, show -(lo - v) = v - lo by omega]
theorem axis_cmp' {s : Sp} {v d lo hi : Int} (hs : Pos s) (h : d < 0) (hl : lo ≤ hi) : Cmp (axisZ s v d lo hi) ↔ (Cmp s ∧ UppE s (v - hi) (-d) ∧ LowE s (v - lo) (-d)) := by
  rw [axisZ, cmp_low (cut_pos hs) (by omega), cmp_high hs h, show -hi - -v = v - hi by omega, show -(lo - v) = v - lo by omega, upp_high hs h (by omega), show -(lo - v) = v - lo by omega]
  have : (v - hi) * -d ≤ (v - lo) * -d := Int.mul_le_mul_of_nonneg_right (by omega) (by omega)
  constructor
  · exact fun k => ⟨k.1.1, k.2.1, k.1.2⟩
  · exact fun k => ⟨⟨k.1, k.2.2⟩, k.2.1, this⟩

/-- A span that is empty for good. -/
def Bad (s : Sp) : Prop := 0 < s.a ∧ s.c < 0 ∧ Pos s
theorem bad_cut {s : Sp} {v d lo : Int} (h : Bad s) : Bad (cutZ s v d lo) := by
  obtain ⟨ha, hc, hs⟩ := h
  refine ⟨?_, ?_, cut_pos hs⟩
  · simp only [cutZ]
    split
    · decide
    · split
      · rename_i h
        have h1 : 0 < s.a * d := Int.mul_pos ha h.1
        exact Int.pos_of_mul_pos_left (show 0 < (lo - v) * s.b by omega) hs.1
      · split <;> exact ha
  · simp only [cutZ]
    split
    · decide
    · split
      · exact hc
      · split
        · rename_i h
          have h1 : s.c * -d < 0 := Int.mul_neg_of_neg_of_pos hc (by omega)
          have h2 : -(lo - v) * s.d < 0 := by omega
          apply Classical.byContradiction
          intro h3
          have h3' : 0 ≤ -(lo - v) := by dsimp only at h3; omega
          have := Int.mul_nonneg h3' (Int.le_of_lt hs.2)
          omega
        · exact hc
theorem bad_cmp {s : Sp} (h : Bad s) : ¬ Cmp s := by
  intro k
  have h1 := Int.mul_pos h.1 h.2.2.2
  have h2 := Int.mul_neg_of_neg_of_pos h.2.1 h.2.2.1
  unfold Cmp at k
  omega
theorem bad_axis {s : Sp} {v d lo hi : Int} (h : Bad s) : Bad (axisZ s v d lo hi) := bad_cut (bad_cut h)
theorem axis_zero {s : Sp} {v lo hi : Int} (_hs : Pos s) : (lo ≤ v ∧ v ≤ hi ∧ axisZ s v 0 lo hi = s) ∨ (¬ (lo ≤ v ∧ v ≤ hi) ∧ Bad (axisZ s v 0 lo hi)) := by
  have z : ∀ (s : Sp) (v lo : Int), cutZ s v 0 lo = if 0 < lo - v then ⟨2, 1, -2, 1⟩ else s := by
    intro s v lo
    simp only [cutZ, true_and]
    split
    · rfl
    · rw [if_neg (by omega), if_neg (by omega)]
  have bad : Bad ⟨2, 1, -2, 1⟩ := ⟨by decide, by decide, by decide, by decide⟩
  by_cases h1 : lo ≤ v
  · by_cases h2 : v ≤ hi
    · left
      refine ⟨h1, h2, ?_⟩
      rw [axisZ, Int.neg_zero, z, z, if_neg (by omega), if_neg (by omega)]
    · right
      refine ⟨fun h => h2 h.2, ?_⟩
      rw [axisZ, Int.neg_zero, z, z, if_pos (by omega)]
      exact bad
  · right
    refine ⟨fun h => h1 h.1, ?_⟩
    rw [axisZ]
    apply bad_cut
    rw [z, if_pos (by omega)]
    exact bad

end Go.Proofs.YtenaepdmlknlcaaGreatDoor

namespace Go.Proofs.YtenaepdmlknlcaaGreatDoor

theorem cntL_lt (T : Nat → Int) : cntL T 4 < 4 ↔ (0 ≤ T 0 ∨ 0 ≤ T 1 ∨ 0 ≤ T 2 ∨ 0 ≤ T 3) := by
  simp only [cntL]
  by_cases h0 : T 0 < 0 <;> by_cases h1 : T 1 < 0 <;> by_cases h2 : T 2 < 0 <;> by_cases h3 : T 3 < 0 <;> simp only [h0, h1, h2, h3, if_true, if_false] <;> omega
theorem cntR_lt (T : Nat → Int) : cntR T 4 < 4 ↔ (T 0 ≤ 0 ∨ T 1 ≤ 0 ∨ T 2 ≤ 0 ∨ T 3 ≤ 0) := by
  simp only [cntR]
  by_cases h0 : 0 < T 0 <;> by_cases h1 : 0 < T 1 <;> by_cases h2 : 0 < T 2 <;> by_cases h3 : 0 < T 3 <;> simp only [h0, h1, h2, h3, if_true, if_false] <;> omega

theorem seg_iff (ax ay dx dy l t r b : Int) : segB ax ay (ax + dx) (ay + dy) l t r b = true ↔
    ((min ax (ax + dx) ≤ r ∧ l ≤ max ax (ax + dx) ∧ min ay (ay + dy) ≤ b ∧ t ≤ max ay (ay + dy)) ∧
      (0 ≤ dx * (t - ay) - dy * (l - ax) ∨ 0 ≤ dx * (t - ay) - dy * (r - ax) ∨ 0 ≤ dx * (b - ay) - dy * (r - ax) ∨ 0 ≤ dx * (b - ay) - dy * (l - ax)) ∧
      (dx * (t - ay) - dy * (l - ax) ≤ 0 ∨ dx * (t - ay) - dy * (r - ax) ≤ 0 ∨ dx * (b - ay) - dy * (r - ax) ≤ 0 ∨ dx * (b - ay) - dy * (l - ax) ≤ 0)) := by
  have e1 : ax + dx - ax = dx := by omega
  have e2 : ay + dy - ay = dy := by omega
  simp only [segB, Bool.and_eq_true, decide_eq_true_eq, cntL_lt, cntR_lt, turns, turnZ, cornX, cornY, e1, e2]
  have hm : segMeets ax ay (ax + dx) (ay + dy) l t r b = true ↔ (min ax (ax + dx) ≤ r ∧ l ≤ max ax (ax + dx) ∧ min ay (ay + dy) ≤ b ∧ t ≤ max ay (ay + dy)) := by
    simp only [segMeets, meetsB, boxZ, List.foldl_cons, List.foldl_nil, bxAt, Bx.join, mnZ, mxZ]
    exact decide_eq_true_iff
  rw [hm]

theorem mul_mono {d a b : Int} (h : 0 ≤ d) (hab : a ≤ b) : d * a ≤ d * b := Int.mul_le_mul_of_nonneg_left hab h
theorem mul_anti {d a b : Int} (h : d ≤ 0) (hab : a ≤ b) : d * b ≤ d * a := by
  have := Int.mul_le_mul_of_nonneg_left hab (show 0 ≤ -d by omega)
  rw [Int.neg_mul, Int.neg_mul] at this
  omega

theorem cmp0 : Cmp ⟨0, 1, 1, 1⟩ := by unfold Cmp; decide
theorem low0 (X Y : Int) : LowE ⟨0, 1, 1, 1⟩ X Y ↔ 0 ≤ X := by simp [LowE]
theorem upp0 (X Y : Int) : UppE ⟨0, 1, 1, 1⟩ X Y ↔ X ≤ Y := by simp [UppE]
theorem pos0 : Pos ⟨0, 1, 1, 1⟩ := ⟨by decide, by decide⟩

theorem crosses_seg (ax ay bx by' x y p : Int) (hp : 0 ≤ p) : crossesB ax ay bx by' x y p = segB ax ay bx by' x y (x + p) (y + p) := by
  obtain ⟨dx, rfl⟩ : ∃ dx, bx = ax + dx := ⟨bx - ax, by omega⟩
  obtain ⟨dy, rfl⟩ : ∃ dy, by' = ay + dy := ⟨by' - ay, by omega⟩
  have e1 : ax + dx - ax = dx := by omega
  have e2 : ay + dy - ay = dy := by omega
  rw [Bool.eq_iff_iff, seg_iff]
  have hc : crossesB ax ay (ax + dx) (ay + dy) x y p = true ↔ Cmp (axisZ (axisZ ⟨0, 1, 1, 1⟩ ax dx x (x + p)) ay dy y (y + p)) := by
    simp only [crossesB, decide_eq_true_eq, crossS, e1, e2]
    exact Iff.rfl
  rw [hc]
  clear hc
  have hl : x ≤ x + p := by omega
  have ht : y ≤ y + p := by omega
  have c1 : (x - ax) * dy = dy * (x - ax) := Int.mul_comm _ _
  have c2 : (x + p - ax) * dy = dy * (x + p - ax) := Int.mul_comm _ _
  have c3 : (y - ay) * dx = dx * (y - ay) := Int.mul_comm _ _
  have c4 : (y + p - ay) * dx = dx * (y + p - ay) := Int.mul_comm _ _
  have n1 : (ax - x) * dy = -(dy * (x - ax)) := by rw [show ax - x = -(x - ax) by omega, Int.neg_mul, c1]
  have n2 : (ax - (x + p)) * dy = -(dy * (x + p - ax)) := by rw [show ax - (x + p) = -(x + p - ax) by omega, Int.neg_mul, c2]
  have n3 : (ay - y) * dx = -(dx * (y - ay)) := by rw [show ay - y = -(y - ay) by omega, Int.neg_mul, c3]
  have n4 : (ay - (y + p)) * dx = -(dx * (y + p - ay)) := by rw [show ay - (y + p) = -(y + p - ay) by omega, Int.neg_mul, c4]
  rcases Int.lt_trichotomy dx 0 with hx | rfl | hx
  · have mx := mul_anti (d := dx) (a := y - ay) (b := y + p - ay) (by omega) (by omega)
    rcases Int.lt_trichotomy dy 0 with hy | rfl | hy
    · have my := mul_anti (d := dy) (a := x - ax) (b := x + p - ax) (by omega) (by omega)
      rw [axis_cmp' (axis_pos pos0) hy ht, axis_cmp' pos0 hx hl, axis_upp' pos0 hx (by omega), axis_low' pos0 hx (by omega)]
      simp only [cmp0, low0, upp0, Int.mul_neg, n1, n2, n3, n4, Int.neg_neg, true_and]
      omega
    · rcases axis_zero (s := axisZ ⟨0, 1, 1, 1⟩ ax dx x (x + p)) (v := ay) (lo := y) (hi := y + p) (axis_pos pos0) with ⟨h1, h2, h3⟩ | ⟨h1, h2⟩
      · rw [h3, axis_cmp' pos0 hx hl]
        have k1 := mul_anti (d := dx) (a := y - ay) (b := 0) (by omega) (by omega)
        have k2 := mul_anti (d := dx) (a := 0) (b := y + p - ay) (by omega) (by omega)
        simp only [cmp0, low0, upp0, true_and, Int.zero_mul, Int.mul_zero] at k1 k2 ⊢
        omega
      · refine ⟨fun k => absurd k (bad_cmp h2), fun k => absurd ?_ h1⟩
        omega
    · have my := mul_mono (d := dy) (a := x - ax) (b := x + p - ax) (by omega) (by omega)
      rw [axis_cmp (axis_pos pos0) hy ht, axis_cmp' pos0 hx hl, axis_upp' pos0 hx (by omega), axis_low' pos0 hx (by omega)]
      simp only [cmp0, low0, upp0, Int.mul_neg, n1, n2, c3, c4, true_and]
      omega
  · rcases axis_zero (s := ⟨0, 1, 1, 1⟩) (v := ax) (lo := x) (hi := x + p) pos0 with ⟨h1, h2, h3⟩ | ⟨h1, h2⟩
    · rw [h3]
      rcases Int.lt_trichotomy dy 0 with hy | rfl | hy
      · have k1 := mul_anti (d := dy) (a := x - ax) (b := 0) (by omega) (by omega)
        have k2 := mul_anti (d := dy) (a := 0) (b := x + p - ax) (by omega) (by omega)
        rw [axis_cmp' pos0 hy ht]
        simp only [cmp0, low0, upp0, true_and, Int.zero_mul, Int.mul_zero] at k1 k2 ⊢
        omega
      · rcases axis_zero (s := ⟨0, 1, 1, 1⟩) (v := ay) (lo := y) (hi := y + p) pos0 with ⟨h4, h5, h6⟩ | ⟨h4, h5⟩
        · rw [h6]
          simp only [cmp0, Int.zero_mul, true_iff]
          omega
        · refine ⟨fun k => absurd k (bad_cmp h5), fun k => absurd ?_ h4⟩
          omega
      · have k1 := mul_mono (d := dy) (a := x - ax) (b := 0) (by omega) (by omega)
        have k2 := mul_mono (d := dy) (a := 0) (b := x + p - ax) (by omega) (by omega)
        rw [axis_cmp pos0 hy ht]
        simp only [cmp0, low0, upp0, true_and, Int.zero_mul, Int.mul_zero] at k1 k2 ⊢
        omega
    · refine ⟨fun k => absurd k (bad_cmp (bad_axis h2)), fun k => absurd ?_ h1⟩
      omega
  · have mx := mul_mono (d := dx) (a := y - ay) (b := y + p - ay) (by omega) (by omega)
    rcases Int.lt_trichotomy dy 0 with hy | rfl | hy
    · have my := mul_anti (d := dy) (a := x - ax) (b := x + p - ax) (by omega) (by omega)
      rw [axis_cmp' (axis_pos pos0) hy ht, axis_cmp pos0 hx hl, axis_upp pos0 hx (by omega), axis_low pos0 hx (by omega)]
      simp only [cmp0, low0, upp0, Int.mul_neg, c1, c2, n3, n4, true_and]
      omega
    · rcases axis_zero (s := axisZ ⟨0, 1, 1, 1⟩ ax dx x (x + p)) (v := ay) (lo := y) (hi := y + p) (axis_pos pos0) with ⟨h1, h2, h3⟩ | ⟨h1, h2⟩
      · rw [h3, axis_cmp pos0 hx hl]
        have k1 := mul_mono (d := dx) (a := y - ay) (b := 0) (by omega) (by omega)
        have k2 := mul_mono (d := dx) (a := 0) (b := y + p - ay) (by omega) (by omega)
        simp only [cmp0, low0, upp0, true_and, Int.zero_mul, Int.mul_zero] at k1 k2 ⊢
        omega
      · refine ⟨fun k => absurd k (bad_cmp h2), fun k => absurd ?_ h1⟩
        omega
    · have my := mul_mono (d := dy) (a := x - ax) (b := x + p - ax) (by omega) (by omega)
      rw [axis_cmp (axis_pos pos0) hy ht, axis_cmp pos0 hx hl, axis_upp pos0 hx (by omega), axis_low pos0 hx (by omega)]
      simp only [cmp0, low0, upp0, c1, c2, c3, c4, true_and]
      omega

end Go.Proofs.YtenaepdmlknlcaaGreatDoor

namespace Go.Proofs.YtenaepdmlknlcaaGreatDoor
open Go.RowKit

/-- A box in the first four cells of a block. -/
structure C4 (w : World) (q : Nat) (x : Bx) : Prop where
  c0 : w.cell? ⟨q, 0, none⟩ = some (.int .i64 x.l)
  c1 : w.cell? ⟨q, 1, none⟩ = some (.int .i64 x.t)
  c2 : w.cell? ⟨q, 2, none⟩ = some (.int .i64 x.r)
  c3 : w.cell? ⟨q, 3, none⟩ = some (.int .i64 x.b)
theorem C4.below {n : Nat} {A B : World} (h : Below n A B) {q : Nat} (hq : q < n) {x : Bx} (c : C4 A q x) : C4 B q x := by
  obtain ⟨hc, _⟩ := bcell h
  exact ⟨(hc _ _ hq).trans c.c0, (hc _ _ hq).trans c.c1, (hc _ _ hq).trans c.c2, (hc _ _ hq).trans c.c3⟩

/-- A list of nodes: their blocks and boxes. -/
abbrev Kids := List (Nat × Bx)
def KidsAt (n0 : Nat) (w : World) (kb ko : Nat) (ks : Kids) : Prop :=
  kb < n0 ∧ ∀ i q x, ks[i]? = some (q, x) → w.cell? ⟨kb, ko + i, none⟩ = some (.pointer (some ⟨q, 0, none⟩)) ∧ q < n0 ∧ C4 w q x
theorem KidsAt.below {n0 : Nat} {A B : World} (h : Below n0 A B) {kb ko : Nat} {ks : Kids} (k : KidsAt n0 A kb ko ks) : KidsAt n0 B kb ko ks :=
  ⟨k.1, fun i q x e => ⟨(h.cell (p := ⟨kb, ko + i, none⟩) k.1).trans (k.2 i q x e).1, (k.2 i q x e).2.1, (k.2 i q x e).2.2.below h (k.2 i q x e).2.1⟩⟩
theorem KidsAt.mono {n0 n1 : Nat} (h : n0 ≤ n1) {w : World} {kb ko : Nat} {ks : Kids} (k : KidsAt n0 w kb ko ks) : KidsAt n1 w kb ko ks :=
  ⟨Nat.lt_of_lt_of_le k.1 h, fun i q x e => ⟨(k.2 i q x e).1, Nat.lt_of_lt_of_le (k.2 i q x e).2.1 h, (k.2 i q x e).2.2⟩⟩
theorem KidsAt.at {n0 : Nat} {w : World} {kb ko : Nat} {ks : Kids} (k : KidsAt n0 w kb ko ks) {i : Nat} (h : i < ks.length) : ∃ q x, ks[i]? = some (q, x) ∧ w.cell? ⟨kb, ko + i, none⟩ = some (.pointer (some ⟨q, 0, none⟩)) ∧ q < n0 ∧ C4 w q x :=
  ⟨ks[i].1, ks[i].2, List.getElem?_eq_getElem h, k.2 i _ _ (List.getElem?_eq_getElem h)⟩

def joinK : Kids → Bx
  | [] => ⟨0, 0, 0, 0⟩
  | k :: ks => ks.foldl (fun b q => b.join q.2) k.2
theorem joinK_snoc (ks : Kids) (q : Nat × Bx) (h : ks ≠ []) : joinK (ks ++ [q]) = (joinK ks).join q.2 := by
  cases ks with
  | nil => exact absurd rfl h
  | cons p r => simp [joinK, List.foldl_append]
theorem take_succ_kids {ks : Kids} {k : Nat} {p : Nat × Bx} (h : ks[k]? = some p) : ks.take (k + 1) = ks.take k ++ [p] := by
  rw [List.take_add_one, h]; rfl

set_option maxRecDepth 100000 in
set_option maxHeartbeats 2000000 in
theorem over_any (kb ko n cap : Nat) (ks : Kids) (w : World) (hk : KidsAt w.heap.size w kb ko ks) (hn : n = ks.length) (hn1 : 1 ≤ n) (hn2 : n ≤ 1000000) (hcap : n ≤ cap) :
    Calls Tryz.prog 54 #[.slice (some ⟨kb, ko, none⟩) n cap] w fun e w' => ∃ q : Nat, e = .returned (.pointer (some ⟨q, 0, none⟩)) ∧ w.heap.size ≤ q ∧ q < w'.heap.size ∧ C4 w' q (joinK ks) ∧ w'.cell? ⟨q, 4, none⟩ = some (.slice (some ⟨kb, ko, none⟩) n cap) ∧ Below w.heap.size w w' := by
  have Hn : Hid (n = ks.length) := hn
  clear hn
  obtain ⟨q0, x0, hq0, hp0, hl0, hc0⟩ := hk.at (i := 0) (by rw [← Hn.out]; exact hn1)
  simp only [Nat.add_zero] at hp0
  have H0 : Hid (ks[0]? = some (q0, x0)) := hq0
  obtain ⟨e0, e1, e2, e3⟩ := hc0
  have Hk : Hid (KidsAt w.heap.size w kb ko ks) := hk
  have hkb := hk.1
  clear hq0 hk
  go_enter Tryz.func54, Tryz.ntmps54
  go_wp2
  all_goals
    go_loopw [15] (fun i wr => ∃ k : Nat, k ≤ n - 1 ∧ i = .int .i64 k ∧ Q4 wr w.heap.size (.int .i64 (joinK (ks.take (k + 1))).l) (.int .i64 (joinK (ks.take (k + 1))).t) (.int .i64 (joinK (ks.take (k + 1))).r) (.int .i64 (joinK (ks.take (k + 1))).b) ∧ Below w.heap.size w wr ∧ w.heap.size < wr.heap.size) (fun i _ => n - 1 - (intOf i).toNat)
    case atStart =>
      refine ⟨0, Nat.zero_le _, rfl, ?_, (Below.refl _ _).alloc (Nat.le_refl _) _, by simp⟩
      rw [take_succ_kids H0.out]
      exact Q4.new _ _ _ _ _ _
    case round =>
      clear e0 e1 e2 e3 hp0
      obtain ⟨k, hk, rfl, hq, hB, hs⟩ := hrel
      by_cases hlt : k < n - 1
      · first
        | (exfalso; omega)
        | (
          generalize hl : (joinK (ks.take (k + 1))).l = l at hq
          generalize ht : (joinK (ks.take (k + 1))).t = t at hq
          generalize hr : (joinK (ks.take (k + 1))).r = r at hq
          generalize hbb : (joinK (ks.take (k + 1))).b = bb at hq
          obtain ⟨q, x, hqx, hp, hlq, hcx⟩ := (Hk.out.below hB).at (i := k + 1) (by rw [← Hn.out]; omega)
          rw [show ko + (k + 1) = ko + 1 + k from by omega] at hp
          have HJ : Hid (joinK (ks.take (k + 1 + 1)) = (⟨mnZ l x.l, mnZ t x.t, mxZ r x.r, mxZ bb x.b⟩ : Bx)) := by
            show joinK (ks.take (k + 1 + 1)) = _
            rw [take_succ_kids hqx, joinK_snoc _ _ (by have := Hn.out; intro e; have h2 := congrArg List.length e; rw [List.length_take] at h2; simp only [List.length_nil] at h2; omega), ← hl, ← ht, ← hr, ← hbb]; rfl
          clear hqx hl ht hr hbb
          obtain ⟨xl, xt, xr, xb⟩ := x
          obtain ⟨d0, d1, d2, d3⟩ := hcx
          dsimp only at d0 d1 d2 d3 HJ
          have hq' := hq
          obtain ⟨c0, c1, c2, c3, f0, f1, f2, f3⟩ := hq
          have hz1 : q < wr.heap.size := by omega
          have hz2 : kb < wr.heap.size := by omega
          go_upto_region 5 with fail
          go_region_with (first
            | (go_at_call 86; refine (Join_any _ _ _ _ _ _ _ _ _).mono ?_; rintro e w3 ⟨rfl, hb3⟩; have hs3 := hb3.size; (try simp at hs3); have q3 := hq'.drew.below hb3 (by simp <;> omega); obtain ⟨k0, k1, k2, k3, m0, m1, m2, m3⟩ := q3))
          all_goals
            have HQ3 : Hid (Q4 w3 w.heap.size (.int .i64 l) (.int .i64 t) (.int .i64 r) (.int .i64 bb)) := ⟨k0, k1, k2, k3, m0, m1, m2, m3⟩
            clear k0 k1 k2 k3 m0 m1 m2 m3 d0 d1 d2 d3 c0 c1 c2 c3 f0 f1 f2 f3
            go_wp2
            go_roundw
            case rel =>
              refine ⟨k + 1, by omega, by go_num, ?_, (hB.drew.trans (hb3.mono (by simp <;> omega))).trans (below_set4 w.heap.size _ _ (Nat.le_refl _) _ _ _ _), Nat.lt_of_lt_of_le (by omega) (below_set4 w.heap.size w3 w.heap.size (Nat.le_refl _) _ _ _ _).size⟩
              rw [HJ.out]
              exact HQ3.out.set _ _ _ _
            case measure => simp [intOf]; omega)
      · have HK : Hid (joinK (ks.take (k + 1)) = joinK ks) := by
          show joinK (ks.take (k + 1)) = joinK ks
          rw [show k + 1 = ks.length from by have := Hn.out; omega, List.take_length]
        rw [HK.out] at hq
        obtain ⟨c0, c1, c2, c3, f0, f1, f2, f3⟩ := hq
        go_wp2
        go_ret
        refine ⟨_, rfl, by omega, by simp, ⟨?_, ?_, ?_, ?_⟩, ?_, hB.alloc (by omega) _⟩ <;> (simp [go_sem] <;> omega)

end Go.Proofs.YtenaepdmlknlcaaGreatDoor
