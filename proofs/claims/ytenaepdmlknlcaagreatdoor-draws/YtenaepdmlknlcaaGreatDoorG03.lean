import Derived.Test.YtenaepdmlknlcaaGreatDoorG02
namespace Go.Proofs.YtenaepdmlknlcaaGreatDoor
open Go.RowKit

def pg (ps : Pts) (i : Nat) : Int × Int := ps.getD i (0, 0)
theorem pg_of {ps : Pts} {i : Nat} {p : Int × Int} (h : ps[i]? = some p) : pg ps i = p := by simp [pg, List.getD, h]

theorem inW_of {ps : Pts} (ha : ps.all inW = true) {k : Nat} {x y : Int} (h : ps[k]? = some (x, y)) : 0 ≤ x ∧ x ≤ 255 ∧ 0 ≤ y ∧ y ≤ 255 := by
  have := List.all_eq_true.1 ha (x, y) (List.mem_of_getElem? h)
  simp [inW, inB] at this
  omega

def segAt (ps : Pts) (l t r b : Int) (j : Nat) : Bool := segB (pg ps (j - 1)).1 (pg ps (j - 1)).2 (pg ps j).1 (pg ps j).2 l t r b
/-- Does one of the segments up to place k meet the box? -/
def lineTo (ps : Pts) (l t r b : Int) : Nat → Bool
  | 0 => false
  | 1 => false
  | k + 2 => lineTo ps l t r b (k + 1) || segAt ps l t r b (k + 1)
def lineB (ps : Pts) (l t r b : Int) : Bool := lineTo ps l t r b ps.length
theorem lineTo_mono (ps : Pts) (l t r b : Int) (k : Nat) : ∀ d : Nat, lineTo ps l t r b k = true → lineTo ps l t r b (k + d) = true
  | 0, h => h
  | d + 1, h => by
    have ih := lineTo_mono ps l t r b k d h
    match hk : k + d, ih with
    | 0, ih => simp [lineTo] at ih
    | m + 1, ih => rw [show k + (d + 1) = m + 2 from by omega, lineTo, ih]; rfl

set_option maxRecDepth 100000 in
set_option maxHeartbeats 2000000 in
theorem lineCovers_any (bl off n cap : Nat) (ps : Pts) (l t r b : Int) (w : World) (hp : Places w.heap.size w bl off ps) (hn : n = ps.length) (hn1 : 2 ≤ n) (hn2 : n ≤ 1000000000000) (hall : ps.all inW = true)
    (h5 : 0 ≤ l) (h6 : 0 ≤ t) (h7 : 0 ≤ r) (h8 : 0 ≤ b) (g5 : l ≤ 1000) (g6 : t ≤ 1000) (g7 : r ≤ 1000) (g8 : b ≤ 1000) :
    Calls Tryz.prog 128 #[.slice (some ⟨bl, off, none⟩) n cap, .agg #[.int .i64 l, .int .i64 t, .int .i64 r, .int .i64 b]] w fun e w' => e = .returned (.bool (lineB ps l t r b)) ∧ Below w.heap.size w w' := by
  have Hn : Hid (n = ps.length) := hn
  have Hp : Hid (Places w.heap.size w bl off ps) := hp
  have Hall : Hid (ps.all inW = true) := hall
  have hbl := hp.1
  clear hn hp hall
  go_enter Tryz.func128, Tryz.ntmps128
  go_wp2
  go_loopw [5] (fun i wr => ∃ m : Nat, m + 1 ≤ n ∧ i = .int .i64 ((m : Int) + 1) ∧ lineTo ps l t r b (m + 1) = false ∧ Q4 wr w.heap.size (.int .i64 l) (.int .i64 t) (.int .i64 r) (.int .i64 b) ∧ Below w.heap.size w wr ∧ w.heap.size < wr.heap.size) (fun i _ => n - (intOf i).toNat)
  case atStart => exact ⟨0, by omega, rfl, rfl, Q4.new _ _ _ _ _ _, (Below.refl _ _).alloc (Nat.le_refl _) _, by simp⟩
  case round =>
    obtain ⟨m, hk, rfl, hline, q, hB, hs⟩ := hrel
    have Hline : Hid (lineTo ps l t r b (m + 1) = false) := hline
    clear hline
    by_cases hlt : m + 1 < n
    · obtain ⟨x, y, hxy, hx, hy⟩ := (Hp.out.below hB).at (k := m + 1) (by rw [← Hn.out]; omega)
      obtain ⟨x', y', hxy', hx', hy'⟩ := (Hp.out.below hB).at (k := m) (by rw [← Hn.out]; omega)
      obtain ⟨b1, b2, b3, b4⟩ := inW_of Hall.out hxy
      obtain ⟨b1', b2', b3', b4'⟩ := inW_of Hall.out hxy'
      have Hseg : Hid (lineTo ps l t r b (m + 1 + 1) = segB x' y' x y l t r b) := by
        show lineTo ps l t r b (m + 2) = _
        rw [lineTo, Hline.out, Bool.false_or, segAt, pg_of hxy, show m + 1 - 1 = m from rfl, pg_of hxy']
      clear hxy hxy' Hline
      have q' := q
      obtain ⟨c0, c1, c2, c3, f0, f1, f2, f3⟩ := q
      have hk2 : ((m : Int) + 1).toNat = m + 1 := by omega
      have hk3 : (m : Int) + 1 < (n : Int) := by omega
      have hk4 : (m : Int) < (n : Int) := by omega
      have hk5 : (0 : Int) ≤ (m : Int) := by omega
      have hk6 : (0 : Int) ≤ (m : Int) + 1 := by omega
      have hk7 : IntKind.i64.wrap (m : Int) = (m : Int) := by rw [IntKind.wrap_i64]; omega
      have hk8 : IntKind.i64.wrap ((m : Int) + 1 - 1) = (m : Int) := by rw [IntKind.wrap_i64]; omega
      go_upto_region 4 with fail
      go_region_held3 (fun w' => w'.cell? ⟨bl, off + (m + 1) * 2, none⟩ = some (.int .i64 x) ∧ w'.cell? ⟨bl, off + (m + 1) * 2 + 1, none⟩ = some (.int .i64 y) ∧ w'.cell? ⟨bl, off + m * 2, none⟩ = some (.int .i64 x') ∧ w'.cell? ⟨bl, off + m * 2 + 1, none⟩ = some (.int .i64 y') ∧ w'.cell? ⟨w.heap.size, 0, none⟩ = some (.int .i64 l) ∧ w'.cell? ⟨w.heap.size, 1, none⟩ = some (.int .i64 t) ∧ w'.cell? ⟨w.heap.size, 2, none⟩ = some (.int .i64 r) ∧ w'.cell? ⟨w.heap.size, 3, none⟩ = some (.int .i64 b)) (first | (simp [go_sem, *]; done) | exact s2)
        (first
        | (go_at_call 159; refine (segmentMeets_any x' y' x y l t r b _ (by omega) (by omega) (by omega) (by omega) (by omega) (by omega) (by omega) (by omega) (by omega) (by omega) (by omega) (by omega) (by omega) (by omega) (by omega) (by omega)).mono ?_; rintro e w2 ⟨rfl, hb2⟩; obtain ⟨hc2, hf2⟩ := bcell hb2; have s2 := And.intro ((hc2 bl (off + (m + 1) * 2) (by simp <;> omega)).trans hx) (And.intro ((hc2 bl (off + (m + 1) * 2 + 1) (by simp <;> omega)).trans hy) (And.intro ((hc2 bl (off + m * 2) (by simp <;> omega)).trans hx') (And.intro ((hc2 bl (off + m * 2 + 1) (by simp <;> omega)).trans hy') (And.intro ((hc2 w.heap.size 0 (by simp <;> omega)).trans c0) (And.intro ((hc2 w.heap.size 1 (by simp <;> omega)).trans c1) (And.intro ((hc2 w.heap.size 2 (by simp <;> omega)).trans c2) ((hc2 w.heap.size 3 (by simp <;> omega)).trans c3))))))); clear hc2 hf2))
      have hs2 := hb2.size
      simp at hs2
      have q2 := q'.drew.below hb2 (by simp <;> omega)
      have hB2 : Below w.heap.size w w2 := hB.drew.trans (hb2.mono (by simp <;> omega))
      clear s2 c0 c1 c2 c3 f0 f1 f2 f3 hx hy hx' hy' q'
      by_cases hsg : segB x' y' x y l t r b = true
      · have Hv : Hid (lineB ps l t r b = true) := by
          show lineB ps l t r b = true
          have h := lineTo_mono ps l t r b (m + 1 + 1) (ps.length - (m + 1 + 1)) (by rw [Hseg.out]; exact hsg)
          rw [show m + 1 + 1 + (ps.length - (m + 1 + 1)) = ps.length from by have := Hn.out; omega] at h
          exact h
        rw [hsg]
        go_wp2
        go_ret
        exact ⟨ret_bool Hv.out.symm, hB2⟩
      · have hsg' : segB x' y' x y l t r b = false := by simpa using hsg
        clear hsg
        have Hv : Hid (lineTo ps l t r b (m + 1 + 1) = false) := by show lineTo ps l t r b (m + 1 + 1) = false; rw [Hseg.out]; exact hsg'
        rw [hsg']
        clear hsg'
        go_wp2
        go_roundw
        case rel => exact ⟨m + 1, by omega, by go_num, Hv.out, q2, hB2, by omega⟩
        case measure => simp [intOf]; omega
    · have Hv : Hid (lineB ps l t r b = false) := by
        show lineTo ps l t r b ps.length = false
        rw [← Hn.out, show n = m + 1 from by omega]; exact Hline.out
      go_wp2
      go_ret
      exact ⟨ret_bool Hv.out.symm, hB⟩

def fromAt (ps : Pts) (k : Nat) : Int × Int := if k = 0 then pg ps (ps.length - 1) else pg ps (k - 1)
def parTo (ps : Pts) (mx my : Int) : Nat → Bool
  | 0 => false
  | k + 1 => if crossB (fromAt ps k).1 (fromAt ps k).2 (pg ps k).1 (pg ps k).2 mx my then !parTo ps mx my k else parTo ps mx my k
def areaB (ps : Pts) (mx my : Int) : Bool := parTo ps mx my ps.length

set_option maxRecDepth 100000 in
set_option maxHeartbeats 2000000 in
theorem areaHas_any (bl off n cap : Nat) (ps : Pts) (mx my : Int) (w : World) (hp : Places w.heap.size w bl off ps) (hn : n = ps.length) (hn1 : 3 ≤ n) (hn2 : n ≤ 1000000000000) (hall : ps.all inW = true)
    (h5 : 0 ≤ mx) (h6 : 0 ≤ my) (g5 : mx ≤ 1000) (g6 : my ≤ 1000) :
    Calls Tryz.prog 129 #[.slice (some ⟨bl, off, none⟩) n cap, .agg #[.int .i64 mx, .int .i64 my]] w fun e w' => e = .returned (.bool (areaB ps mx my)) ∧ Below w.heap.size w w' := by
  have Hn : Hid (n = ps.length) := hn
  have Hp : Hid (Places w.heap.size w bl off ps) := hp
  have Hall : Hid (ps.all inW = true) := hall
  have hbl := hp.1
  obtain ⟨x0, y0, hxy0, hx0, hy0⟩ := hp.at (k := n - 1) (by omega)
  obtain ⟨b1, b2, b3, b4⟩ := inW_of hall hxy0
  have H0 : Hid (fromAt ps 0 = (x0, y0)) := by show (if 0 = 0 then pg ps (ps.length - 1) else _) = _; rw [if_pos rfl, ← hn]; exact pg_of hxy0
  clear hn hp hall hxy0
  have hk2 : ((n : Int) - 1).toNat = n - 1 := by omega
  go_enter Tryz.func129, Tryz.ntmps129
  go_wp2
  go_loopw [5, 17] (fun ins i wr => ∃ (k : Nat) (fx fy : Int), k ≤ n ∧ i = .int .i64 k ∧ ins = .bool (parTo ps mx my k) ∧ (k < n → fromAt ps k = (fx, fy)) ∧ 0 ≤ fx ∧ fx ≤ 255 ∧ 0 ≤ fy ∧ fy ≤ 255 ∧ Q2 wr w.heap.size (.int .i64 mx) (.int .i64 my) ∧ Q2 wr (w.heap.size + 1) (.int .i64 fx) (.int .i64 fy) ∧ Below w.heap.size w wr ∧ w.heap.size + 2 ≤ wr.heap.size) (fun _ i _ => n - (intOf i).toNat)
  case atStart =>
    refine ⟨0, x0, y0, by omega, rfl, rfl, fun _ => H0.out, b1, b2, b3, b4, (Q2.new w _ _ _).alloc (by simp) _, ?_, ((Below.refl _ _).alloc (Nat.le_refl _) _).alloc (by simp) _, by simp⟩
    have h := Q2.new (w.alloc (.cells #[.int .i64 mx, .int .i64 my] 29)) (.int .i64 x0) (.int .i64 y0) 29
    rw [World.size_alloc] at h
    exact h
  case round =>
    clear b1 b2 b3 b4
    obtain ⟨k, fx, fy, hk, rfl, rfl, hfr, f1, f2, f3, f4, q0, q1, hB, hs⟩ := hrel
    by_cases hlt : k < n
    · obtain ⟨x, y, hxy, hx, hy⟩ := (Hp.out.below hB).at (k := k) (by rw [← Hn.out]; omega)
      obtain ⟨b1, b2, b3, b4⟩ := inW_of Hall.out hxy
      have Hfr : Hid (fromAt ps k = (fx, fy)) := hfr hlt
      have Hpar : Hid (parTo ps mx my (k + 1) = if crossB fx fy x y mx my then !parTo ps mx my k else parTo ps mx my k) := by
        show parTo ps mx my (k + 1) = _
        rw [parTo, Hfr.out, pg_of hxy]
      have Hnext : Hid (fromAt ps (k + 1) = (x, y)) := by show (if k + 1 = 0 then _ else pg ps (k + 1 - 1)) = _; rw [if_neg (by omega)]; exact pg_of hxy
      clear hfr Hfr hxy
      generalize hg : parTo ps mx my k = pk at *
      clear hg
      have q0' := q0
      have q1' := q1
      obtain ⟨c0, c1, _, _⟩ := q0'
      obtain ⟨d0, d1, d2, d3⟩ := q1'
      have hz0 : w.heap.size < wr.heap.size := by omega
      have hz1 : w.heap.size + 1 < wr.heap.size := by omega
      have hz2 : bl < wr.heap.size := by omega
      by_cases hcr : crossB fx fy x y mx my = true
      · have Hp1 : Hid (parTo ps mx my (k + 1) = !pk) := by show parTo ps mx my (k + 1) = _; rw [Hpar.out, hcr, if_pos rfl]
        clear Hpar
        go_wp2_with (go_at_call 160; refine (crossed_any fx fy x y mx my _ (by omega) (by omega) (by omega) (by omega) (by omega) (by omega) (by omega) (by omega) (by omega) (by omega) (by omega) (by omega)).mono ?_; rintro e w2 ⟨rfl, hb2⟩; have hs2 := hb2.size; simp at hs2; have k0 := (q0.alloc hz0 _).below hb2 (by simp; omega); have k1 := (q1.alloc hz1 _).below hb2 (by simp; omega); have k2 := (Q2.new wr (.int .i64 x) (.int .i64 y) 29).below hb2 (by simp); have k3 := k1.c0; have k4 := k1.c1; have k5 := k1.f0; have k6 := k1.f1; have k7 := k2.c0; have k8 := k2.c1)
        refine ⟨⟨k + 1, x, y, by omega, by go_num, by rw [Hp1.out], fun _ => Hnext.out, by omega, by omega, by omega, by omega, k0.below (below_set2 (w.heap.size + 1) _ _ (Nat.le_refl _) _ _) (by omega), k1.set _ _, ((hB.alloc (by omega) _).trans (hb2.mono (by simp; omega))).trans (below_set2 w.heap.size _ _ (by omega) _ _), Nat.le_trans (by omega) (below_set2 w.heap.size w2 (w.heap.size + 1) (by omega) _ _).size⟩, by simp [intOf]; omega⟩
      · have hcr' : crossB fx fy x y mx my = false := by simpa using hcr
        clear hcr
        have Hp1 : Hid (parTo ps mx my (k + 1) = pk) := by show parTo ps mx my (k + 1) = _; rw [Hpar.out, hcr', if_neg (by simp)]
        clear Hpar
        go_wp2_with (go_at_call 160; refine (crossed_any fx fy x y mx my _ (by omega) (by omega) (by omega) (by omega) (by omega) (by omega) (by omega) (by omega) (by omega) (by omega) (by omega) (by omega)).mono ?_; rintro e w2 ⟨rfl, hb2⟩; have hs2 := hb2.size; simp at hs2; have k0 := (q0.alloc hz0 _).below hb2 (by simp; omega); have k1 := (q1.alloc hz1 _).below hb2 (by simp; omega); have k2 := (Q2.new wr (.int .i64 x) (.int .i64 y) 29).below hb2 (by simp); have k3 := k1.c0; have k4 := k1.c1; have k5 := k1.f0; have k6 := k1.f1; have k7 := k2.c0; have k8 := k2.c1)
        refine ⟨⟨k + 1, x, y, by omega, by go_num, by rw [Hp1.out], fun _ => Hnext.out, by omega, by omega, by omega, by omega, k0.below (below_set2 (w.heap.size + 1) _ _ (Nat.le_refl _) _ _) (by omega), k1.set _ _, ((hB.alloc (by omega) _).trans (hb2.mono (by simp; omega))).trans (below_set2 w.heap.size _ _ (by omega) _ _), Nat.le_trans (by omega) (below_set2 w.heap.size w2 (w.heap.size + 1) (by omega) _ _).size⟩, by simp [intOf]; omega⟩
    · have Hv : Hid (areaB ps mx my = parTo ps mx my k) := by
        show parTo ps mx my ps.length = _
        rw [← Hn.out, show n = k from by omega]
      go_wp2
      go_ret
      exact ⟨ret_bool Hv.out.symm, hB⟩

def coverB (kd : Int) (ps : Pts) (l t r b : Int) : Bool :=
  if kd = 1 then pointB (pg ps 0).1 (pg ps 0).2 l t r b
  else if kd = 2 then lineB ps l t r b
  else if kd = 3 then areaB ps ((l + r) / 2) ((t + b) / 2)
  else false

end Go.Proofs.YtenaepdmlknlcaaGreatDoor

namespace Go.Proofs.YtenaepdmlknlcaaGreatDoor
open Go.RowKit

theorem cutZ_bd (s : Sp) (v d lo : Int) (hs : s.bd) (h1 : -1000 ≤ v) (h2 : v ≤ 1000) (h3 : -1000 ≤ d) (h4 : d ≤ 1000) (h5 : -1000 ≤ lo) (h6 : lo ≤ 1000) : (cutZ s v d lo).bd := by
  obtain ⟨b1, b2, b3, b4, b5, b6, b7, b8⟩ := hs
  simp only [cutZ]
  split
  · simp [Sp.bd]
  · split
    · simp only [Sp.bd]; omega
    · split
      · simp only [Sp.bd]; omega
      · exact ⟨b1, b2, b3, b4, b5, b6, b7, b8⟩

theorem cut_ex (a b c d v dd lo : Int) (w : World) (b1 : -2000 ≤ a) (b2 : a ≤ 2000) (b3 : 1 ≤ b) (b4 : b ≤ 2000) (b5 : -2000 ≤ c) (b6 : c ≤ 2000) (b7 : 1 ≤ d) (b8 : d ≤ 2000) (h1 : -1000 ≤ v) (h2 : v ≤ 1000) (h3 : -1000 ≤ dd) (h4 : dd ≤ 1000) (h5 : -1000 ≤ lo) (h6 : lo ≤ 1000) :
    Calls Tryz.prog 186 #[.agg #[.int .i64 a, .int .i64 b, .int .i64 c, .int .i64 d], .int .i64 v, .int .i64 dd, .int .i64 lo] w fun e w' => ∃ a' b' c' d' : Int, e = .returned (.agg #[.int .i64 a', .int .i64 b', .int .i64 c', .int .i64 d']) ∧ Hid (cutZ ⟨a, b, c, d⟩ v dd lo = ⟨a', b', c', d'⟩) ∧ -2000 ≤ a' ∧ a' ≤ 2000 ∧ 1 ≤ b' ∧ b' ≤ 2000 ∧ -2000 ≤ c' ∧ c' ≤ 2000 ∧ 1 ≤ d' ∧ d' ≤ 2000 ∧ Below w.heap.size w w' := by
  have hs : (⟨a, b, c, d⟩ : Sp).bd := ⟨b1, b2, b3, b4, b5, b6, b7, b8⟩
  refine (cut_any ⟨a, b, c, d⟩ v dd lo w hs h1 h2 h3 h4 h5 h6).mono ?_
  rintro e w' ⟨rfl, hb⟩
  obtain ⟨k1, k2, k3, k4, k5, k6, k7, k8⟩ := cutZ_bd ⟨a, b, c, d⟩ v dd lo hs h1 h2 h3 h4 h5 h6
  exact ⟨_, _, _, _, rfl, rfl, k1, k2, k3, k4, k5, k6, k7, k8, hb⟩

def crossS (ax ay bx by' x y p : Int) : Sp :=
  cutZ (cutZ (cutZ (cutZ ⟨0, 1, 1, 1⟩ ax (bx - ax) x) (-ax) (-(bx - ax)) (-(x + p))) ay (by' - ay) y) (-ay) (-(by' - ay)) (-(y + p))
def crossesB (ax ay bx by' x y p : Int) : Bool := decide ((crossS ax ay bx by' x y p).a * (crossS ax ay bx by' x y p).d ≤ (crossS ax ay bx by' x y p).c * (crossS ax ay bx by' x y p).b)

set_option maxHeartbeats 4000000 in
theorem crosses_any (ax ay bx by' x y p : Int) (w : World) (h1 : 0 ≤ ax) (h2 : 0 ≤ ay) (h3 : 0 ≤ bx) (h4 : 0 ≤ by') (h5 : 0 ≤ x) (h6 : 0 ≤ y) (h7 : 0 ≤ p) (g1 : ax ≤ 300) (g2 : ay ≤ 300) (g3 : bx ≤ 300) (g4 : by' ≤ 300) (g5 : x ≤ 300) (g6 : y ≤ 300) (g7 : p ≤ 300) :
    Calls Tryz.prog 169 #[.agg #[.int .i64 ax, .int .i64 ay], .agg #[.int .i64 bx, .int .i64 by'], .int .i64 x, .int .i64 y, .int .i64 p] w fun e w' => e = .returned (.bool (crossesB ax ay bx by' x y p)) ∧ Below w.heap.size w w' := by
  go_enter Tryz.func169, Tryz.ntmps169
  go_wp2_with fail
  refine (cut_ex 0 1 1 1 ax (bx - ax) x _ (by omega) (by omega) (by omega) (by omega) (by omega) (by omega) (by omega) (by omega) (by omega) (by omega) (by omega) (by omega) (by omega) (by omega)).mono ?_
  rintro e w1 ⟨a1, b1, c1, d1, rfl, H1, i1, i2, i3, i4, i5, i6, i7, i8, hb1⟩
  have QA1 : Hid (Q2 w1 w.heap.size (.int .i64 ax) (.int .i64 ay)) := (((Q2.new w _ _ 29).alloc (by simp) _).alloc (by simp; omega) _).below hb1 (by simp; omega)
  have QS1 : Hid (Q4 w1 (w.heap.size + 1 + 1) (.int .i64 0) (.int .i64 1) (.int .i64 1) (.int .i64 1)) := by
    have h := (Q4.new ((w.alloc (.cells #[.int .i64 ax, .int .i64 ay] 29)).alloc (.cells #[.int .i64 bx, .int .i64 by'] 29)) (.int .i64 0) (.int .i64 1) (.int .i64 1) (.int .i64 1) 306).below hb1 (by simp)
    simp only [World.size_alloc] at h
    exact h
  have HB1 : Hid (Below w.heap.size w w1) := ((((Below.refl _ _).alloc (Nat.le_refl _) _).alloc (by simp) _).alloc (by simp; omega) _).trans (hb1.mono (by simp; omega))
  have hz1 : w.heap.size + 1 + 1 < w1.heap.size := by have := hb1.size; simp at this; omega
  clear hb1
  obtain ⟨x0, x1, y0, y1⟩ := QA1.out
  obtain ⟨z0, z1, z2, z3, f0, f1, f2, f3⟩ := QS1.out
  go_wp2_with fail
  clear x0 x1 y0 y1 z0 z1 z2 z3 f0 f1 f2 f3
  refine (cut_ex a1 b1 c1 d1 (-ax) (-(bx - ax)) (-(x + p)) _ (by omega) (by omega) (by omega) (by omega) (by omega) (by omega) (by omega) (by omega) (by omega) (by omega) (by omega) (by omega) (by omega) (by omega)).mono ?_
  rintro e w2 ⟨a2, b2, c2, d2, rfl, H2, i1, i2, i3, i4, i5, i6, i7, i8, hb2⟩
  have hs2 := hb2.size
  have ht2 := (below_set4 w.heap.size w1 (w.heap.size + 1 + 1) (by omega) (.int .i64 a1) (.int .i64 b1) (.int .i64 c1) (.int .i64 d1)).size
  have QA2 : Hid (Q2 w2 w.heap.size (.int .i64 ax) (.int .i64 ay)) := (QA1.out.below (below_set4 (w.heap.size + 1 + 1) w1 (w.heap.size + 1 + 1) (Nat.le_refl _) _ _ _ _) (by omega)).below hb2 (by omega)
  have QS2 : Hid (Q4 w2 (w.heap.size + 1 + 1) (.int .i64 a1) (.int .i64 b1) (.int .i64 c1) (.int .i64 d1)) := (QS1.out.set _ _ _ _).below hb2 (by omega)
  have HB2 : Hid (Below w.heap.size w w2) := (HB1.out.trans (below_set4 w.heap.size w1 (w.heap.size + 1 + 1) (by omega) _ _ _ _)).trans (hb2.mono (by omega))
  have hz2 : w.heap.size + 1 + 1 < w2.heap.size := by omega
  clear hb2
  obtain ⟨x0, x1, y0, y1⟩ := QA2.out
  obtain ⟨z0, z1, z2, z3, f0, f1, f2, f3⟩ := QS2.out
  go_wp2_with fail
  clear x0 x1 y0 y1 z0 z1 z2 z3 f0 f1 f2 f3 hs2 ht2
  refine (cut_ex a2 b2 c2 d2 ay (by' - ay) y _ (by omega) (by omega) (by omega) (by omega) (by omega) (by omega) (by omega) (by omega) (by omega) (by omega) (by omega) (by omega) (by omega) (by omega)).mono ?_
  rintro e w3 ⟨a3, b3, c3, d3, rfl, H3, i1, i2, i3, i4, i5, i6, i7, i8, hb3⟩
  have hs3 := hb3.size
  have ht3 := (below_set4 w.heap.size w2 (w.heap.size + 1 + 1) (by omega) (.int .i64 a2) (.int .i64 b2) (.int .i64 c2) (.int .i64 d2)).size
  have QA3 : Hid (Q2 w3 w.heap.size (.int .i64 ax) (.int .i64 ay)) := (QA2.out.below (below_set4 (w.heap.size + 1 + 1) w2 (w.heap.size + 1 + 1) (Nat.le_refl _) _ _ _ _) (by omega)).below hb3 (by omega)
  have QS3 : Hid (Q4 w3 (w.heap.size + 1 + 1) (.int .i64 a2) (.int .i64 b2) (.int .i64 c2) (.int .i64 d2)) := (QS2.out.set _ _ _ _).below hb3 (by omega)
  have HB3 : Hid (Below w.heap.size w w3) := (HB2.out.trans (below_set4 w.heap.size w2 (w.heap.size + 1 + 1) (by omega) _ _ _ _)).trans (hb3.mono (by omega))
  have hz3 : w.heap.size + 1 + 1 < w3.heap.size := by omega
  clear hb3
  obtain ⟨x0, x1, y0, y1⟩ := QA3.out
  obtain ⟨z0, z1, z2, z3, f0, f1, f2, f3⟩ := QS3.out
  go_wp2_with fail
  clear x0 x1 y0 y1 z0 z1 z2 z3 f0 f1 f2 f3 hs3 ht3
  refine (cut_ex a3 b3 c3 d3 (-ay) (-(by' - ay)) (-(y + p)) _ (by omega) (by omega) (by omega) (by omega) (by omega) (by omega) (by omega) (by omega) (by omega) (by omega) (by omega) (by omega) (by omega) (by omega)).mono ?_
  rintro e w4 ⟨a4, b4, c4, d4, rfl, H4, i1, i2, i3, i4, i5, i6, i7, i8, hb4⟩
  have hs4 := hb4.size
  have ht4 := (below_set4 w.heap.size w3 (w.heap.size + 1 + 1) (by omega) (.int .i64 a3) (.int .i64 b3) (.int .i64 c3) (.int .i64 d3)).size
  have QA4 : Hid (Q2 w4 w.heap.size (.int .i64 ax) (.int .i64 ay)) := (QA3.out.below (below_set4 (w.heap.size + 1 + 1) w3 (w.heap.size + 1 + 1) (Nat.le_refl _) _ _ _ _) (by omega)).below hb4 (by omega)
  have QS4 : Hid (Q4 w4 (w.heap.size + 1 + 1) (.int .i64 a3) (.int .i64 b3) (.int .i64 c3) (.int .i64 d3)) := (QS3.out.set _ _ _ _).below hb4 (by omega)
  have HB4 : Hid (Below w.heap.size w w4) := (HB3.out.trans (below_set4 w.heap.size w3 (w.heap.size + 1 + 1) (by omega) _ _ _ _)).trans (hb4.mono (by omega))
  have hz4 : w.heap.size + 1 + 1 < w4.heap.size := by omega
  clear hb4
  obtain ⟨x0, x1, y0, y1⟩ := QA4.out
  obtain ⟨z0, z1, z2, z3, f0, f1, f2, f3⟩ := QS4.out
  have m1 := mul_bd (a := a4) (b := d4) (A := 2000) (B := 2000) (by omega) (by omega) (by omega) (by omega)
  have m2 := mul_bd (a := c4) (b := b4) (A := 2000) (B := 2000) (by omega) (by omega) (by omega) (by omega)
  obtain ⟨m1, n1⟩ := m1
  obtain ⟨m2, n2⟩ := m2
  go_wp2
  go_ret
  have hS : crossS ax ay bx by' x y p = ⟨a4, b4, c4, d4⟩ := by
    unfold crossS
    rw [H1.out, H2.out, H3.out, H4.out]
  exact ⟨ret_bool (by simp [crossesB, hS]), HB4.out.trans (below_set4 w.heap.size w4 (w.heap.size + 1 + 1) (by omega) _ _ _ _)⟩

end Go.Proofs.YtenaepdmlknlcaaGreatDoor

namespace Go.Proofs.YtenaepdmlknlcaaGreatDoor
open Go.RowKit

def sideB (ax ay bx by' x y : Int) : Bool :=
  if decide (y < ay) = decide (y < by') then false
  else decide ((0 < by' - ay ∧ 0 < (y - ay) * (bx - ax) + (ax - x) * (by' - ay)) ∨ (by' - ay < 0 ∧ (y - ay) * (bx - ax) + (ax - x) * (by' - ay) < 0))
def cntIn (ps : Pts) (x y : Int) : Nat → Int
  | 0 => 0
  | k + 1 => cntIn ps x y k + if sideB (pg ps k).1 (pg ps k).2 (pg ps ((k + 1) % ps.length)).1 (pg ps ((k + 1) % ps.length)).2 x y = true then 1 else 0
theorem cntIn_bd (ps : Pts) (x y : Int) : ∀ k : Nat, 0 ≤ cntIn ps x y k ∧ cntIn ps x y k ≤ k
  | 0 => ⟨Int.le_refl _, Int.le_refl _⟩
  | k + 1 => by have := cntIn_bd ps x y k; simp only [cntIn]; split <;> omega
def insideB (ps : Pts) (x y : Int) : Bool := decide (cntIn ps x y ps.length % 2 = 1)

set_option maxHeartbeats 4000000 in
theorem inside_any (bl off n cap : Nat) (ps : Pts) (x y : Int) (w : World) (hp : Places w.heap.size w bl off ps) (hn : n = ps.length) (hn1 : 1 ≤ n) (hn2 : n ≤ 1000) (hall : ps.all inW = true)
    (h5 : 0 ≤ x) (h6 : 0 ≤ y) (g5 : x ≤ 1000) (g6 : y ≤ 1000) :
    Calls Tryz.prog 170 #[.slice (some ⟨bl, off, none⟩) n cap, .int .i64 x, .int .i64 y] w fun e w' => e = .returned (.bool (insideB ps x y)) ∧ Below w.heap.size w w' := by
  have Hn : Hid (n = ps.length) := hn
  have Hall : Hid (ps.all inW = true) := hall
  have Hp : Hid (Places w.heap.size w bl off ps) := hp
  have hbl := hp.1
  clear hn hall hp
  go_enter Tryz.func170, Tryz.ntmps170
  go_wp2
  go_loopw [7, 8] (fun c i wr => ∃ k : Nat, k ≤ n ∧ i = .int .i64 k ∧ c = .int .i64 (cntIn ps x y k) ∧ Below w.heap.size w wr) (fun _ i _ => n - (intOf i).toNat)
  case atStart => exact ⟨0, Nat.zero_le _, rfl, rfl, Below.refl _ _⟩
  case round =>
    obtain ⟨k, hk, rfl, rfl, hb⟩ := hrel
    have hsz := hb.size
    have hcb := cntIn_bd ps x y k
    obtain ⟨c, hc⟩ : ∃ c, cntIn ps x y k = c := ⟨_, rfl⟩
    rw [hc] at hcb ⊢
    have HC : Hid (cntIn ps x y k = c) := hc
    clear hc
    obtain ⟨hc0, hc1⟩ := hcb
    by_cases hlt : k < n
    · obtain ⟨ax, ay, hxy, hx, hy⟩ := (Hp.out.below hb).at (k := k) (by rw [← Hn.out]; exact hlt)
      have hjn : (k + 1) % n < n := Nat.mod_lt _ (by omega)
      obtain ⟨bx, by', hxy', hx', hy'⟩ := (Hp.out.below hb).at (k := (k + 1) % n) (by rw [← Hn.out]; exact hjn)
      obtain ⟨q1, q2, q3, q4⟩ := inW_of Hall.out hxy
      obtain ⟨r1, r2, r3, r4⟩ := inW_of Hall.out hxy'
      have Hs : Hid (cntIn ps x y (k + 1) = c + if sideB ax ay bx by' x y = true then 1 else 0) := by
        show cntIn ps x y (k + 1) = _
        simp only [cntIn, HC.out, pg_of hxy, ← Hn.out, pg_of hxy']
      clear hxy hxy'
      have hm : ((k : Int) + 1) % (n : Int) = (((k + 1) % n : Nat) : Int) := by simp
      have hm2 : ((k : Int) + 1).tmod (n : Int) = (((k + 1) % n : Nat) : Int) := by rw [Int.tmod_eq_emod_of_nonneg (by omega)]; simp
      obtain ⟨j, hj⟩ : ∃ j, (k + 1) % n = j := ⟨_, rfl⟩
      rw [hj] at hjn hx' hy' hm hm2
      clear hj
      have m1 := mul_bd (a := y - ay) (b := bx - ax) (A := 1000) (B := 1000) (by omega) (by omega) (by omega) (by omega)
      have m2 := mul_bd (a := ax - x) (b := by' - ay) (A := 1000) (B := 1000) (by omega) (by omega) (by omega) (by omega)
      obtain ⟨m1, n1⟩ := m1
      obtain ⟨m2, n2⟩ := m2
      have hblr : bl < wr.heap.size := by omega
      go_wp2
      all_goals
        refine ⟨⟨k + 1, by omega, by go_num, ?_, (hb.alloc (by omega) _).alloc (by simp; omega) _⟩, by simp [intOf]; omega⟩
        rw [Hs.out]
        first
        | (rw [if_pos (by simp only [sideB]; split <;> simp_all <;> omega)]; done)
        | (rw [if_neg (by simp only [sideB]; split <;> simp_all <;> omega), Int.add_zero]; done)
    · have HK : Hid (k = ps.length) := by have := Hn.out; show k = ps.length; omega
      go_wp2
      go_ret
      refine ⟨ret_bool ?_, hb⟩
      simp only [insideB, ← HK.out, HC.out]
      first | rfl | (rw [Bool.eq_iff_iff]; simp)

end Go.Proofs.YtenaepdmlknlcaaGreatDoor

namespace Go.Proofs.YtenaepdmlknlcaaGreatDoor
open Go.RowKit

set_option maxRecDepth 100000 in
set_option maxHeartbeats 2000000 in
theorem Covers_any (id kd ht col : Int) (bl off n cap : Nat) (ps : Pts) (l t r b : Int) (w : World) (hp : Places w.heap.size w bl off ps) (hn : n = ps.length) (hmay : mayB kd n = true) (hall : ps.all inW = true)
    (h5 : 0 ≤ l) (h6 : 0 ≤ t) (h7 : 0 ≤ r) (h8 : 0 ≤ b) (g5 : l ≤ 1000) (g6 : t ≤ 1000) (g7 : r ≤ 1000) (g8 : b ≤ 1000) :
    Calls Tryz.prog 91 #[.agg #[.int .i64 id, .int .i64 kd, .int .i64 ht, .int .i64 col, .slice (some ⟨bl, off, none⟩) n cap], .agg #[.int .i64 l, .int .i64 t, .int .i64 r, .int .i64 b]] w fun e w' => e = .returned (.bool (coverB kd ps l t r b)) ∧ Below w.heap.size w w' := by
  have hB : ∀ o1 o2 : Obj, Below w.heap.size w ((w.alloc o1).alloc o2) := fun o1 o2 => ((Below.refl _ _).alloc (Nat.le_refl _) _).alloc (by simp) _
  have hk : (kd = 1 ∧ n = 1) ∨ (kd = 2 ∧ 2 ≤ n ∧ n ≤ 6) ∨ (kd = 3 ∧ 3 ≤ n ∧ n ≤ 6) := by
    simp [mayB] at hmay; omega
  clear hmay
  have hbl := hp.1
  have Hp : Hid (Places w.heap.size w bl off ps) := hp
  have Hn : Hid (n = ps.length) := hn
  have Hall : Hid (ps.all inW = true) := hall
  clear hall
  rcases hk with ⟨rfl, rfl⟩ | ⟨rfl, hn1, hn2⟩ | ⟨rfl, hn1, hn2⟩
  · obtain ⟨x, y, hxy, hx, hy⟩ := hp.at (k := 0) (by omega)
    have Hv : Hid (coverB 1 ps l t r b = pointB x y l t r b) := by show coverB 1 ps l t r b = _; simp only [coverB, pg_of hxy, if_true]
    clear hxy hp hn
    simp only [Nat.zero_mul, Nat.add_zero] at hx hy
    go_enter Tryz.func91, Tryz.ntmps91
    go_upto_region 3 with fail
    go_region_held3 (fun w' => w'.cell? ⟨w.heap.size, 4, none⟩ = some (.slice (some ⟨bl, off, none⟩) 1 cap) ∧ w'.cell? ⟨bl, off, none⟩ = some (.int .i64 x) ∧ w'.cell? ⟨bl, off + 1, none⟩ = some (.int .i64 y) ∧ w'.cell? ⟨w.heap.size + 1, 0, none⟩ = some (.int .i64 l) ∧ w'.cell? ⟨w.heap.size + 1, 1, none⟩ = some (.int .i64 t) ∧ w'.cell? ⟨w.heap.size + 1, 2, none⟩ = some (.int .i64 r) ∧ w'.cell? ⟨w.heap.size + 1, 3, none⟩ = some (.int .i64 b)) (first | (simp [go_sem, *]; done) | exact s2)
      (first
      | (go_at_call 127; refine (pointCovers_any x y l t r b _).mono ?_; rintro e w2 ⟨rfl, hb2⟩; obtain ⟨hc2, hf2⟩ := bcell hb2; have s2 := And.intro ((hc2 w.heap.size 4 (by simp <;> omega)).trans (show _ = some (Value.slice (some ⟨bl, off, none⟩) 1 cap) from (by simp [go_sem]))) (And.intro ((hc2 bl off (by simp <;> omega)).trans (show _ = some (Value.int .i64 x) from (by simp [go_sem, *]))) (And.intro ((hc2 bl (off + 1) (by simp <;> omega)).trans (show _ = some (Value.int .i64 y) from (by simp [go_sem, *]))) (And.intro ((hc2 (w.heap.size + 1) 0 (by simp <;> omega)).trans (show _ = some (Value.int .i64 l) from (by simp [go_sem]))) (And.intro ((hc2 (w.heap.size + 1) 1 (by simp <;> omega)).trans (show _ = some (Value.int .i64 t) from (by simp [go_sem]))) (And.intro ((hc2 (w.heap.size + 1) 2 (by simp <;> omega)).trans (show _ = some (Value.int .i64 r) from (by simp [go_sem]))) ((hc2 (w.heap.size + 1) 3 (by simp <;> omega)).trans (show _ = some (Value.int .i64 b) from (by simp [go_sem])))))))); clear hc2 hf2))
    go_wp2
    go_ret
    exact ⟨ret_bool Hv.out.symm, (hB _ _).drew.trans (hb2.mono (by simp <;> omega))⟩
  · have Hv : Hid (coverB 2 ps l t r b = lineB ps l t r b) := by show coverB 2 ps l t r b = _; simp [coverB]
    clear hp hn
    go_enter Tryz.func91, Tryz.ntmps91
    go_wp2_with (go_at_call 128; refine (lineCovers_any bl off n cap ps l t r b _ ((Hp.out.below (hB _ _)).mono (by simp <;> omega)) Hn.out hn1 (by omega) Hall.out h5 h6 h7 h8 g5 g6 g7 g8).mono ?_; rintro e w2 ⟨rfl, hb2⟩)
    go_ret
    exact ⟨ret_bool Hv.out.symm, (hB _ _).trans (hb2.mono (by simp <;> omega))⟩
  · have Hv : Hid (coverB 3 ps l t r b = areaB ps ((l + r) / 2) ((t + b) / 2)) := by show coverB 3 ps l t r b = _; simp [coverB]
    clear hp hn
    go_enter Tryz.func91, Tryz.ntmps91
    go_upto_region 7 with fail
    go_region_held3 (fun w' => w'.cell? ⟨w.heap.size, 4, none⟩ = some (.slice (some ⟨bl, off, none⟩) n cap) ∧ w'.cell? ⟨w.heap.size + 1, 0, none⟩ = some (.int .i64 l) ∧ w'.cell? ⟨w.heap.size + 1, 1, none⟩ = some (.int .i64 t) ∧ w'.cell? ⟨w.heap.size + 1, 2, none⟩ = some (.int .i64 r) ∧ w'.cell? ⟨w.heap.size + 1, 3, none⟩ = some (.int .i64 b)) (first | (simp [go_sem, *]; done) | exact s3 | exact s2)
      (first
      | (go_at_call 130; refine (middle_any l t r b _ h5 h6 h7 h8 g5 g6 g7 g8).mono ?_; rintro e w2 ⟨rfl, hb2⟩; obtain ⟨hc2, hf2⟩ := bcell hb2; have s2 := And.intro ((hc2 w.heap.size 4 (by simp <;> omega)).trans (show _ = some (Value.slice (some ⟨bl, off, none⟩) n cap) from (by simp [go_sem]))) (And.intro ((hc2 (w.heap.size + 1) 0 (by simp <;> omega)).trans (show _ = some (Value.int .i64 l) from (by simp [go_sem]))) (And.intro ((hc2 (w.heap.size + 1) 1 (by simp <;> omega)).trans (show _ = some (Value.int .i64 t) from (by simp [go_sem]))) (And.intro ((hc2 (w.heap.size + 1) 2 (by simp <;> omega)).trans (show _ = some (Value.int .i64 r) from (by simp [go_sem]))) ((hc2 (w.heap.size + 1) 3 (by simp <;> omega)).trans (show _ = some (Value.int .i64 b) from (by simp [go_sem])))))); have hz2 : w.heap.size + 2 ≤ w2.heap.size := (by have := hb2.size; simp at this; omega); have hB2 : Below w.heap.size w w2 := (hB _ _).drew.trans (hb2.mono (by simp <;> omega)); clear hc2 hf2)
      | (go_at_call 129; refine (areaHas_any bl off n cap ps _ _ _ ((Hp.out.below hB2).mono (by omega)) Hn.out hn1 (by omega) Hall.out (by omega) (by omega) (by omega) (by omega)).mono ?_; rintro e w3 ⟨rfl, hb3⟩; obtain ⟨hc3, hf3⟩ := bcell hb3; have s3 := And.intro ((hc3 w.heap.size 4 (by omega)).trans s2.1) (And.intro ((hc3 (w.heap.size + 1) 0 (by omega)).trans s2.2.1) (And.intro ((hc3 (w.heap.size + 1) 1 (by omega)).trans s2.2.2.1) (And.intro ((hc3 (w.heap.size + 1) 2 (by omega)).trans s2.2.2.2.1) ((hc3 (w.heap.size + 1) 3 (by omega)).trans s2.2.2.2.2)))); clear hc3 hf3))
    go_wp2
    go_ret
    exact ⟨ret_bool Hv.out.symm, hB2.trans (hb3.mono (by omega))⟩

def aboveB (h i h' i' : Int) : Bool := if h = h' then decide (i' < i) else decide (h' < h)

set_option maxHeartbeats 1000000 in
theorem above_any (id kd ht col : Int) (v : Value) (id' kd' ht' col' : Int) (v' : Value) (w : World) (hv : ∃ a n c, v = .slice a n c) (hv' : ∃ a n c, v' = .slice a n c) :
    Calls Tryz.prog 92 #[.agg #[.int .i64 id, .int .i64 kd, .int .i64 ht, .int .i64 col, v], .agg #[.int .i64 id', .int .i64 kd', .int .i64 ht', .int .i64 col', v']] w fun e w' => e = .returned (.bool (aboveB ht id ht' id')) ∧ Below w.heap.size w w' := by
  obtain ⟨a, n, c, rfl⟩ := hv
  obtain ⟨a', n', c', rfl⟩ := hv'
  have hB : ∀ o1 o2 : Obj, Below w.heap.size w ((w.alloc o1).alloc o2) := fun o1 o2 => ((Below.refl _ _).alloc (Nat.le_refl _) _).alloc (by simp) _
  by_cases h : ht = ht'
  · have hh : (ht != ht') = false := by simp [h]
    have Hv : Hid (aboveB ht id ht' id' = decide (id' < id)) := by show aboveB ht id ht' id' = _; simp [aboveB, h]
    clear h
    go_enter Tryz.func92, Tryz.ntmps92
    go_wp2
    go_ret
    exact ⟨ret_bool Hv.out.symm, hB _ _⟩
  · have hh : (ht != ht') = true := by simp [h]
    have Hv : Hid (aboveB ht id ht' id' = decide (ht' < ht)) := by show aboveB ht id ht' id' = _; simp [aboveB, h]
    clear h
    go_enter Tryz.func92, Tryz.ntmps92
    go_wp2
    go_ret
    exact ⟨ret_bool Hv.out.symm, hB _ _⟩

end Go.Proofs.YtenaepdmlknlcaaGreatDoor
