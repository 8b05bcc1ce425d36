import Derived.Test.YtbphndloichnaaaGreatDoorG04
namespace Go.Proofs.YtbphndloichnaaaGreatDoor
open Go.RowKit

def sideB (ax ay bx by' x y : Int) : Bool :=
  if decide (y < ay) = decide (y < by') then false
  else decide ((0 < by' - ay ∧ 0 < (y - ay) * (bx - ax) + (ax - x) * (by' - ay)) ∨ (by' - ay < 0 ∧ (y - ay) * (bx - ax) + (ax - x) * (by' - ay) < 0))
def cntIn (ps : Pts) (x y : Int) : Nat → Int
  | 0 => 0
  | k + 1 => cntIn ps x y k + if sideB (pg ps k).1 (pg ps k).2 (pg ps ((k + 1) % ps.length)).1 (pg ps ((k + 1) % ps.length)).2 x y = true then 1 else 0
theorem cntIn_bd (ps : Pts) (x y : Int) : ∀ k : Nat, 0 ≤ cntIn ps x y k ∧ cntIn ps x y k ≤ k
  | 0 => ⟨Int.le_refl _, Int.le_refl _⟩
  | k + 1 => by have := cntIn_bd ps x y k; simp only [cntIn]; split <;> omega
def insideB (ps : Pts) (x y : Int) : Bool := decide (cntIn ps x y ps.length % 2 = 1)

set_option maxHeartbeats 4000000 in
theorem inside_any (bl off n cap : Nat) (ps : Pts) (x y : Int) (w : World) (hp : Places w.heap.size w bl off ps) (hn : n = ps.length) (hn1 : 1 ≤ n) (hn2 : n ≤ 1000) (hall : ps.all inW = true)
    (h5 : 0 ≤ x) (h6 : 0 ≤ y) (g5 : x ≤ 1000) (g6 : y ≤ 1000) :
    Calls Tryz.prog 170 #[.slice (some ⟨bl, off, none⟩) n cap, .int .i64 x, .int .i64 y] w fun e w' => e = .returned (.bool (insideB ps x y)) ∧ Below w.heap.size w w' := by
  have Hn : Hid (n = ps.length) := hn
  have Hall : Hid (ps.all inW = true) := hall
  have Hp : Hid (Places w.heap.size w bl off ps) := hp
  have hbl := hp.1
  clear hn hall hp
  go_enter Tryz.func170, Tryz.ntmps170
  go_wp2
  go_loopw [7, 8] (fun c i wr => ∃ k : Nat, k ≤ n ∧ i = .int .i64 k ∧ c = .int .i64 (cntIn ps x y k) ∧ Below w.heap.size w wr) (fun _ i _ => n - (intOf i).toNat)
  case atStart => exact ⟨0, Nat.zero_le _, rfl, rfl, Below.refl _ _⟩
  case round =>
    obtain ⟨k, hk, rfl, rfl, hb⟩ := hrel
    have hsz := hb.size
    have hcb := cntIn_bd ps x y k
    obtain ⟨c, hc⟩ : ∃ c, cntIn ps x y k = c := ⟨_, rfl⟩
    rw [hc] at hcb ⊢
    have HC : Hid (cntIn ps x y k = c) := hc
    clear hc
    obtain ⟨hc0, hc1⟩ := hcb
    by_cases hlt : k < n
    · obtain ⟨ax, ay, hxy, hx, hy⟩ := (Hp.out.below hb).at (k := k) (by rw [← Hn.out]; exact hlt)
      have hjn : (k + 1) % n < n := Nat.mod_lt _ (by omega)
      obtain ⟨bx, by', hxy', hx', hy'⟩ := (Hp.out.below hb).at (k := (k + 1) % n) (by rw [← Hn.out]; exact hjn)
      obtain ⟨q1, q2, q3, q4⟩ := inW_of Hall.out hxy
      obtain ⟨r1, r2, r3, r4⟩ := inW_of Hall.out hxy'
      have Hs : Hid (cntIn ps x y (k + 1) = c + if sideB ax ay bx by' x y = true then 1 else 0) := by
        show cntIn ps x y (k + 1) = _
        simp only [cntIn, HC.out, pg_of hxy, ← Hn.out, pg_of hxy']
      clear hxy hxy'
      have hm : ((k : Int) + 1) % (n : Int) = (((k + 1) % n : Nat) : Int) := by simp
      have hm2 : ((k : Int) + 1).tmod (n : Int) = (((k + 1) % n : Nat) : Int) := by rw [Int.tmod_eq_emod_of_nonneg (by omega)]; simp
      obtain ⟨j, hj⟩ : ∃ j, (k + 1) % n = j := ⟨_, rfl⟩
      rw [hj] at hjn hx' hy' hm hm2
      clear hj
      have m1 := mul_bd (a := y - ay) (b := bx - ax) (A := 1000) (B := 1000) (by omega) (by omega) (by omega) (by omega)
      have m2 := mul_bd (a := ax - x) (b := by' - ay) (A := 1000) (B := 1000) (by omega) (by omega) (by omega) (by omega)
      obtain ⟨m1, n1⟩ := m1
      obtain ⟨m2, n2⟩ := m2
      have hblr : bl < wr.heap.size := by omega
      go_wp2
      all_goals
        refine ⟨⟨k + 1, by omega, by go_num, ?_, (hb.alloc (by omega) _).alloc (by simp; omega) _⟩, by simp [intOf]; omega⟩
        rw [Hs.out]
        first
        | (rw [if_pos (by simp only [sideB]; split <;> simp_all <;> omega)]; done)
        | (rw [if_neg (by simp only [sideB]; split <;> simp_all <;> omega), Int.add_zero]; done)
    · have HK : Hid (k = ps.length) := by have := Hn.out; show k = ps.length; omega
      go_wp2
      go_ret
      refine ⟨ret_bool ?_, hb⟩
      simp only [insideB, ← HK.out, HC.out]
      first | rfl | (rw [Bool.eq_iff_iff]; simp)

end Go.Proofs.YtbphndloichnaaaGreatDoor
namespace Go.Proofs.YtbphndloichnaaaGreatDoor
open Go.RowKit

theorem Places.ge {_n0 : Nat} {w w' : World} (hb : Below w.heap.size w w') {b off : Nat} {ps : Pts} (hp : Places w.heap.size w b off ps) : Places w'.heap.size w' b off ps := (hp.below hb).mono hb.size

set_option maxRecDepth 100000 in
set_option maxHeartbeats 2000000 in
theorem Covers_any (id kd ht col : Int) (bl off n cap : Nat) (ps : Pts) (l t r b : Int) (w : World) (hp : Places w.heap.size w bl off ps) (hn : n = ps.length) (hmay : mayB kd n = true) (hall : ps.all inW = true)
    (h5 : 0 ≤ l) (h6 : 0 ≤ t) (h7 : 0 ≤ r) (h8 : 0 ≤ b) (g5 : l ≤ 1000) (g6 : t ≤ 1000) (g7 : r ≤ 1000) (g8 : b ≤ 1000) :
    Calls Tryz.prog 91 #[.agg #[.int .i64 id, .int .i64 kd, .int .i64 ht, .int .i64 col, .slice (some ⟨bl, off, none⟩) n cap], .agg #[.int .i64 l, .int .i64 t, .int .i64 r, .int .i64 b]] w fun e w' => e = .returned (.bool (coverB kd ps l t r b)) ∧ Below w.heap.size w w' := by
  have hB : ∀ o1 o2 : Obj, Below w.heap.size w ((w.alloc o1).alloc o2) := fun o1 o2 => ((Below.refl _ _).alloc (Nat.le_refl _) _).alloc (by simp) _
  have hk : (kd = 1 ∧ n = 1) ∨ (kd = 2 ∧ 2 ≤ n ∧ n ≤ 6) ∨ (kd = 3 ∧ 3 ≤ n ∧ n ≤ 6) := by
    simp [mayB] at hmay; omega
  clear hmay
  have hbl := hp.1
  have Hp : Hid (Places w.heap.size w bl off ps) := hp
  have Hn : Hid (n = ps.length) := hn
  have Hall : Hid (ps.all inW = true) := hall
  clear hall
  rcases hk with ⟨rfl, rfl⟩ | ⟨rfl, hn1, hn2⟩ | ⟨rfl, hn1, hn2⟩
  · obtain ⟨x, y, hxy, hx, hy⟩ := hp.at (k := 0) (by omega)
    have Hv : Hid (coverB 1 ps l t r b = pointB x y l t r b) := by show coverB 1 ps l t r b = _; simp only [coverB, pg_of hxy, if_true]
    clear hxy hp hn
    simp only [Nat.zero_mul, Nat.add_zero] at hx hy
    go_enter Tryz.func91, Tryz.ntmps91
    go_upto_region 3 with fail
    go_region_held3 (fun w' => w'.cell? ⟨w.heap.size, 4, none⟩ = some (.slice (some ⟨bl, off, none⟩) 1 cap) ∧ w'.cell? ⟨bl, off, none⟩ = some (.int .i64 x) ∧ w'.cell? ⟨bl, off + 1, none⟩ = some (.int .i64 y) ∧ w'.cell? ⟨w.heap.size + 1, 0, none⟩ = some (.int .i64 l) ∧ w'.cell? ⟨w.heap.size + 1, 1, none⟩ = some (.int .i64 t) ∧ w'.cell? ⟨w.heap.size + 1, 2, none⟩ = some (.int .i64 r) ∧ w'.cell? ⟨w.heap.size + 1, 3, none⟩ = some (.int .i64 b)) (first | (simp [go_sem, *]; done) | exact s2)
      (first
      | (go_at_call 127; refine (pointCovers_any x y l t r b _).mono ?_; rintro e w2 ⟨rfl, hb2⟩; obtain ⟨hc2, hf2⟩ := bcell hb2; have s2 := And.intro ((hc2 w.heap.size 4 (by simp <;> omega)).trans (show _ = some (Value.slice (some ⟨bl, off, none⟩) 1 cap) from (by simp [go_sem]))) (And.intro ((hc2 bl off (by simp <;> omega)).trans (show _ = some (Value.int .i64 x) from (by simp [go_sem, *]))) (And.intro ((hc2 bl (off + 1) (by simp <;> omega)).trans (show _ = some (Value.int .i64 y) from (by simp [go_sem, *]))) (And.intro ((hc2 (w.heap.size + 1) 0 (by simp <;> omega)).trans (show _ = some (Value.int .i64 l) from (by simp [go_sem]))) (And.intro ((hc2 (w.heap.size + 1) 1 (by simp <;> omega)).trans (show _ = some (Value.int .i64 t) from (by simp [go_sem]))) (And.intro ((hc2 (w.heap.size + 1) 2 (by simp <;> omega)).trans (show _ = some (Value.int .i64 r) from (by simp [go_sem]))) ((hc2 (w.heap.size + 1) 3 (by simp <;> omega)).trans (show _ = some (Value.int .i64 b) from (by simp [go_sem])))))))); clear hc2 hf2))
    go_wp2
    go_ret
    exact ⟨ret_bool Hv.out.symm, (hB _ _).drew.trans (hb2.mono (by simp <;> omega))⟩
  · have Hv : Hid (coverB 2 ps l t r b = lineB ps l t r b) := by show coverB 2 ps l t r b = _; simp [coverB]
    clear hp hn
    go_enter Tryz.func91, Tryz.ntmps91
    go_wp2_with (go_at_call 128; refine (lineCovers_any bl off n cap ps l t r b _ ((Hp.out.below (hB _ _)).mono (by simp <;> omega)) Hn.out hn1 (by omega) Hall.out h5 h6 h7 h8 g5 g6 g7 g8).mono ?_; rintro e w2 ⟨rfl, hb2⟩)
    go_ret
    exact ⟨ret_bool Hv.out.symm, (hB _ _).trans (hb2.mono (by simp <;> omega))⟩
  · have Hv : Hid (coverB 3 ps l t r b = areaB ps ((l + r) / 2) ((t + b) / 2)) := by show coverB 3 ps l t r b = _; simp [coverB]
    clear hp hn
    go_enter Tryz.func91, Tryz.ntmps91
    go_upto_region 7 with fail
    go_region_held3 (fun w' => w'.cell? ⟨w.heap.size, 4, none⟩ = some (.slice (some ⟨bl, off, none⟩) n cap) ∧ w'.cell? ⟨w.heap.size + 1, 0, none⟩ = some (.int .i64 l) ∧ w'.cell? ⟨w.heap.size + 1, 1, none⟩ = some (.int .i64 t) ∧ w'.cell? ⟨w.heap.size + 1, 2, none⟩ = some (.int .i64 r) ∧ w'.cell? ⟨w.heap.size + 1, 3, none⟩ = some (.int .i64 b)) (first | (simp [go_sem, *]; done) | exact s3 | exact s2)
      (first
      | (go_at_call 130; refine (middle_any l t r b _ h5 h6 h7 h8 g5 g6 g7 g8).mono ?_; rintro e w2 ⟨rfl, hb2⟩; obtain ⟨hc2, hf2⟩ := bcell hb2; have s2 := And.intro ((hc2 w.heap.size 4 (by simp <;> omega)).trans (show _ = some (Value.slice (some ⟨bl, off, none⟩) n cap) from (by simp [go_sem]))) (And.intro ((hc2 (w.heap.size + 1) 0 (by simp <;> omega)).trans (show _ = some (Value.int .i64 l) from (by simp [go_sem]))) (And.intro ((hc2 (w.heap.size + 1) 1 (by simp <;> omega)).trans (show _ = some (Value.int .i64 t) from (by simp [go_sem]))) (And.intro ((hc2 (w.heap.size + 1) 2 (by simp <;> omega)).trans (show _ = some (Value.int .i64 r) from (by simp [go_sem]))) ((hc2 (w.heap.size + 1) 3 (by simp <;> omega)).trans (show _ = some (Value.int .i64 b) from (by simp [go_sem])))))); have hz2 : w.heap.size + 2 ≤ w2.heap.size := (by have := hb2.size; simp at this; omega); have hB2 : Below w.heap.size w w2 := (hB _ _).drew.trans (hb2.mono (by simp <;> omega)); clear hc2 hf2)
      | (go_at_call 129; refine (areaHas_any bl off n cap ps _ _ _ ((Hp.out.below hB2).mono (by omega)) Hn.out hn1 (by omega) Hall.out (by omega) (by omega) (by omega) (by omega)).mono ?_; rintro e w3 ⟨rfl, hb3⟩; obtain ⟨hc3, hf3⟩ := bcell hb3; have s3 := And.intro ((hc3 w.heap.size 4 (by omega)).trans s2.1) (And.intro ((hc3 (w.heap.size + 1) 0 (by omega)).trans s2.2.1) (And.intro ((hc3 (w.heap.size + 1) 1 (by omega)).trans s2.2.2.1) (And.intro ((hc3 (w.heap.size + 1) 2 (by omega)).trans s2.2.2.2.1) ((hc3 (w.heap.size + 1) 3 (by omega)).trans s2.2.2.2.2)))); clear hc3 hf3))
    go_wp2
    go_ret
    exact ⟨ret_bool Hv.out.symm, hB2.trans (hb3.mono (by omega))⟩

def aboveB (h i h' i' : Int) : Bool := if h = h' then decide (i' < i) else decide (h' < h)

set_option maxHeartbeats 1000000 in
theorem above_any (id kd ht col : Int) (v : Value) (id' kd' ht' col' : Int) (v' : Value) (w : World) (hv : ∃ a n c, v = .slice a n c) (hv' : ∃ a n c, v' = .slice a n c) :
    Calls Tryz.prog 92 #[.agg #[.int .i64 id, .int .i64 kd, .int .i64 ht, .int .i64 col, v], .agg #[.int .i64 id', .int .i64 kd', .int .i64 ht', .int .i64 col', v']] w fun e w' => e = .returned (.bool (aboveB ht id ht' id')) ∧ Below w.heap.size w w' := by
  obtain ⟨a, n, c, rfl⟩ := hv
  obtain ⟨a', n', c', rfl⟩ := hv'
  have hB : ∀ o1 o2 : Obj, Below w.heap.size w ((w.alloc o1).alloc o2) := fun o1 o2 => ((Below.refl _ _).alloc (Nat.le_refl _) _).alloc (by simp) _
  by_cases h : ht = ht'
  · have hh : (ht != ht') = false := by simp [h]
    have Hv : Hid (aboveB ht id ht' id' = decide (id' < id)) := by show aboveB ht id ht' id' = _; simp [aboveB, h]
    clear h
    go_enter Tryz.func92, Tryz.ntmps92
    go_wp2
    go_ret
    exact ⟨ret_bool Hv.out.symm, hB _ _⟩
  · have hh : (ht != ht') = true := by simp [h]
    have Hv : Hid (aboveB ht id ht' id' = decide (ht' < ht)) := by show aboveB ht id ht' id' = _; simp [aboveB, h]
    clear h
    go_enter Tryz.func92, Tryz.ntmps92
    go_wp2
    go_ret
    exact ⟨ret_bool Hv.out.symm, hB _ _⟩

end Go.Proofs.YtbphndloichnaaaGreatDoor
namespace Go.Proofs.YtbphndloichnaaaGreatDoor
open Go.RowKit

def rlineTo (ps : Pts) (x y p : Int) : Nat → Bool
  | 0 => false
  | k + 1 => rlineTo ps x y p k || crossesB (pg ps k).1 (pg ps k).2 (pg ps (k + 1)).1 (pg ps (k + 1)).2 x y p
def rcoverB (kd : Int) (ps : Pts) (x y p : Int) : Bool :=
  if kd = 1 then pointB (pg ps 0).1 (pg ps 0).2 x y (x + p) (y + p) else if kd = 2 then rlineTo ps x y p (ps.length - 1) else insideB ps (x + p / 2) (y + p / 2)

theorem rlineTo_mono (ps : Pts) (x y p : Int) (k : Nat) : ∀ d : Nat, rlineTo ps x y p k = true → rlineTo ps x y p (k + d) = true
  | 0, h => h
  | d + 1, h => by
    have := rlineTo_mono ps x y p k d h
    show (rlineTo ps x y p (k + d) || _) = true
    rw [this]; rfl

set_option maxRecDepth 100000 in
set_option maxHeartbeats 4000000 in
theorem rCovers_any (id kd ht col : Int) (bl off n cap : Nat) (ps : Pts) (x y p : Int) (w : World) (hp : Places w.heap.size w bl off ps) (hn : n = ps.length) (hmay : mayB kd n = true) (hall : ps.all inW = true)
    (h5 : 0 ≤ x) (h6 : 0 ≤ y) (h7 : 0 ≤ p) (g5 : x ≤ 300) (g6 : y ≤ 300) (g7 : p ≤ 300) :
    Calls Tryz.prog 141 #[.agg #[.int .i64 id, .int .i64 kd, .int .i64 ht, .int .i64 col, .slice (some ⟨bl, off, none⟩) n cap], .int .i64 x, .int .i64 y, .int .i64 p] w fun e w' => e = .returned (.bool (rcoverB kd ps x y p)) ∧ Below w.heap.size w w' := by
  have hB : ∀ o1 : Obj, Below w.heap.size w (w.alloc o1) := fun o1 => (Below.refl _ _).alloc (Nat.le_refl _) _
  have hbl := hp.1
  simp only [mayB, decide_eq_true_eq] at hmay
  rcases hmay with ⟨rfl, hn1⟩ | ⟨rfl, hn1, hn6⟩ | ⟨rfl, hn1, hn6⟩
  · have hn1' : n = 1 := by omega
    subst hn1'
    obtain ⟨ax, ay, hxy, hx, hy⟩ := hp.at (k := 0) (by omega)
    simp only [Nat.zero_mul, Nat.add_zero] at hx hy
    have HR : Hid (rcoverB 1 ps x y p = pointB ax ay x y (x + p) (y + p)) := by
      show rcoverB 1 ps x y p = _
      simp [rcoverB, pg_of hxy]
    clear hp hxy hn hall hn1
    rw [HR.out]
    by_cases c1 : x ≤ ax
    · by_cases c2 : ax < x + p
      · by_cases c3 : y ≤ ay
        · by_cases c4 : ay < y + p
          · go_enter Tryz.func141, Tryz.ntmps141
            go_wp2
            go_ret
            exact ⟨ret_bool (by simp [pointB]; omega), hB _⟩
          · go_enter Tryz.func141, Tryz.ntmps141
            go_wp2
            go_ret
            exact ⟨ret_bool (by simp [pointB]; omega), hB _⟩
        · go_enter Tryz.func141, Tryz.ntmps141
          go_wp2
          go_ret
          exact ⟨ret_bool (by simp [pointB]; omega), hB _⟩
      · go_enter Tryz.func141, Tryz.ntmps141
        go_wp2
        go_ret
        exact ⟨ret_bool (by simp [pointB]; omega), hB _⟩
    · go_enter Tryz.func141, Tryz.ntmps141
      go_wp2
      go_ret
      exact ⟨ret_bool (by simp [pointB]; omega), hB _⟩
  · have Hn : Hid (n = ps.length) := hn
    have Hall : Hid (ps.all inW = true) := hall
    have Hp : Hid (Places w.heap.size w bl off ps) := hp
    have HR : Hid (rcoverB 2 ps x y p = rlineTo ps x y p (ps.length - 1)) := by show rcoverB 2 ps x y p = _; simp [rcoverB]
    rw [HR.out]
    clear hn hall hp HR
    go_enter Tryz.func141, Tryz.ntmps141
    go_wp2
    go_loopw [9] (fun i wr => ∃ m : Nat, m + 1 ≤ n ∧ i = .int .i64 (m : Int) ∧ rlineTo ps x y p m = false ∧ wr.cell? ⟨w.heap.size, 4, none⟩ = some (.slice (some ⟨bl, off, none⟩) n cap) ∧ Below w.heap.size w wr ∧ w.heap.size < wr.heap.size) (fun i _ => n - (intOf i).toNat)
    case atStart => exact ⟨0, by omega, rfl, rfl, by simp [go_sem], hB _, by simp⟩
    case round =>
      obtain ⟨m, hk, rfl, hline, c4, hBw, hs⟩ := hrel
      have Hline : Hid (rlineTo ps x y p m = false) := hline
      clear hline
      by_cases hlt : m + 1 < n
      · obtain ⟨bx, by', hxy, hx, hy⟩ := (Hp.out.below hBw).at (k := m + 1) (by rw [← Hn.out]; omega)
        obtain ⟨ax, ay, hxy', hx', hy'⟩ := (Hp.out.below hBw).at (k := m) (by rw [← Hn.out]; omega)
        obtain ⟨b1, b2, b3, b4⟩ := inW_of Hall.out hxy
        obtain ⟨b1', b2', b3', b4'⟩ := inW_of Hall.out hxy'
        have Hseg : Hid (rlineTo ps x y p (m + 1) = crossesB ax ay bx by' x y p) := by
          show rlineTo ps x y p (m + 1) = _
          rw [rlineTo, Hline.out, Bool.false_or, pg_of hxy, pg_of hxy']
        clear hxy hxy' Hline
        have hk2 : ((m : Int) + 1).toNat = m + 1 := by omega
        have hk3 : (m : Int) + 1 < (n : Int) := by omega
        have hk4 : (m : Int) < (n : Int) := by omega
        have hk5 : (0 : Int) ≤ (m : Int) := by omega
        have hk6 : (0 : Int) ≤ (m : Int) + 1 := by omega
        have hk7 : IntKind.i64.wrap (m : Int) = (m : Int) := by rw [IntKind.wrap_i64]; omega
        have hk8 : IntKind.i64.wrap ((m : Int) + 1) = (m : Int) + 1 := by rw [IntKind.wrap_i64]; omega
        go_upto_region 8 with fail
        go_region_held3 (fun w' => w'.cell? ⟨bl, off + (m + 1) * 2, none⟩ = some (.int .i64 bx) ∧ w'.cell? ⟨bl, off + (m + 1) * 2 + 1, none⟩ = some (.int .i64 by') ∧ w'.cell? ⟨bl, off + m * 2, none⟩ = some (.int .i64 ax) ∧ w'.cell? ⟨bl, off + m * 2 + 1, none⟩ = some (.int .i64 ay) ∧ w'.cell? ⟨w.heap.size, 4, none⟩ = some (.slice (some ⟨bl, off, none⟩) n cap)) (first | (simp [go_sem, *]; done) | exact s2)
          (first
          | (go_at_call 169; refine (crosses_any ax ay bx by' x y p _ (by omega) (by omega) (by omega) (by omega) (by omega) (by omega) (by omega) (by omega) (by omega) (by omega) (by omega) (by omega) (by omega) (by omega)).mono ?_; rintro e w2 ⟨rfl, hb2⟩; obtain ⟨hc2, hf2⟩ := bcell hb2; have s2 := And.intro ((hc2 bl (off + (m + 1) * 2) (by simp <;> omega)).trans hx) (And.intro ((hc2 bl (off + (m + 1) * 2 + 1) (by simp <;> omega)).trans hy) (And.intro ((hc2 bl (off + m * 2) (by simp <;> omega)).trans hx') (And.intro ((hc2 bl (off + m * 2 + 1) (by simp <;> omega)).trans hy') ((hc2 w.heap.size 4 (by simp <;> omega)).trans c4)))); clear hc2 hf2))
        have hs2 := hb2.size
        simp at hs2
        have hB2 : Below w.heap.size w w2 := hBw.drew.trans (hb2.mono (by simp <;> omega))
        have c42 := s2.2.2.2.2
        clear s2 c4 hx hy hx' hy'
        by_cases hsg : crossesB ax ay bx by' x y p = true
        · have Hv : Hid (rlineTo ps x y p (ps.length - 1) = true) := by
            show rlineTo ps x y p (ps.length - 1) = true
            have h := rlineTo_mono ps x y p (m + 1) (ps.length - 1 - (m + 1)) (by rw [Hseg.out]; exact hsg)
            rw [show m + 1 + (ps.length - 1 - (m + 1)) = ps.length - 1 from by have := Hn.out; omega] at h
            exact h
          rw [hsg]
          go_wp2
          go_ret
          exact ⟨ret_bool Hv.out.symm, hB2⟩
        · have hsg' : crossesB ax ay bx by' x y p = false := by simpa using hsg
          clear hsg
          have Hv : Hid (rlineTo ps x y p (m + 1) = false) := by show rlineTo ps x y p (m + 1) = false; rw [Hseg.out]; exact hsg'
          rw [hsg']
          clear hsg'
          go_wp2
          go_roundw
          case rel => exact ⟨m + 1, by omega, by go_num, Hv.out, c42, hB2, by omega⟩
          case measure => simp [intOf]; omega
      · have Hv : Hid (rlineTo ps x y p (ps.length - 1) = false) := by
          show rlineTo ps x y p (ps.length - 1) = false
          rw [← Hn.out, show n - 1 = m from by omega]; exact Hline.out
        go_wp2
        go_ret
        exact ⟨ret_bool Hv.out.symm, hBw⟩
  · have HR : Hid (rcoverB 3 ps x y p = insideB ps (x + p / 2) (y + p / 2)) := by show rcoverB 3 ps x y p = _; simp [rcoverB]
    rw [HR.out]
    have Hin : Hid (∀ W : World, Below w.heap.size w W → Calls Tryz.prog 170 #[.slice (some ⟨bl, off, none⟩) n cap, .int .i64 (x + p / 2), .int .i64 (y + p / 2)] W fun e w' => e = .returned (.bool (insideB ps (x + p / 2) (y + p / 2))) ∧ Below W.heap.size W w') := fun W hW =>
      inside_any bl off n cap ps (x + p / 2) (y + p / 2) W ((hp.below hW).mono hW.size) hn (by omega) (by omega) hall (by omega) (by omega) (by omega) (by omega)
    clear hp hn hall HR
    go_enter Tryz.func141, Tryz.ntmps141
    go_wp2_with (go_at_call 170; refine Calls.mono (Hin.out _ (hB _)) ?_; rintro e w2 ⟨rfl, hb2⟩)
    go_ret
    exact ⟨rfl, (hB _).trans (hb2.mono (by simp))⟩

end Go.Proofs.YtbphndloichnaaaGreatDoor
