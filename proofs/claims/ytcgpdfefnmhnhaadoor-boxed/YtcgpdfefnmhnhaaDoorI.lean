import Derived.Test.YtcgpdfefnmhnhaaDoorH
namespace Go.Proofs.YtcgpdfefnmhnhaaDoor
open Go.RowKit

theorem Places.ge {_n0 : Nat} {w w' : World} (hb : Below w.heap.size w w') {b off : Nat} {ps : Pts} (hp : Places w.heap.size w b off ps) : Places w'.heap.size w' b off ps := (hp.below hb).mono hb.size

set_option maxRecDepth 100000 in
set_option maxHeartbeats 2000000 in
theorem Covers_any (id kd ht col : Int) (bl off n cap : Nat) (ps : Pts) (l t r b : Int) (w : World) (hp : Places w.heap.size w bl off ps) (hn : n = ps.length) (hmay : mayB kd n = true) (hall : ps.all inW = true)
    (h5 : 0 ≤ l) (h6 : 0 ≤ t) (h7 : 0 ≤ r) (h8 : 0 ≤ b) (g5 : l ≤ 1000) (g6 : t ≤ 1000) (g7 : r ≤ 1000) (g8 : b ≤ 1000) :
    Calls Tryd.prog 31 #[.agg #[.int .i64 id, .int .i64 kd, .int .i64 ht, .int .i64 col, .slice (some ⟨bl, off, none⟩) n cap], .agg #[.int .i64 l, .int .i64 t, .int .i64 r, .int .i64 b]] w fun e w' => e = .returned (.bool (coverB kd ps l t r b)) ∧ Below w.heap.size w w' := by
  have hB : ∀ o1 o2 : Obj, Below w.heap.size w ((w.alloc o1).alloc o2) := fun o1 o2 => ((Below.refl _ _).alloc (Nat.le_refl _) _).alloc (by simp) _
  have hk : (kd = 1 ∧ n = 1) ∨ (kd = 2 ∧ 2 ≤ n ∧ n ≤ 6) ∨ (kd = 3 ∧ 3 ≤ n ∧ n ≤ 6) := by
    simp [mayB] at hmay; omega
  clear hmay
  have hbl := hp.1
  have Hp : Hid (Places w.heap.size w bl off ps) := hp
  have Hn : Hid (n = ps.length) := hn
  have Hall : Hid (ps.all inW = true) := hall
  clear hall
  rcases hk with ⟨rfl, rfl⟩ | ⟨rfl, hn1, hn2⟩ | ⟨rfl, hn1, hn2⟩
  · obtain ⟨x, y, hxy, hx, hy⟩ := hp.at (k := 0) (by omega)
    have Hv : Hid (coverB 1 ps l t r b = pointB x y l t r b) := by show coverB 1 ps l t r b = _; simp only [coverB, pg_of hxy, if_true]
    clear hxy hp hn
    simp only [Nat.zero_mul, Nat.add_zero] at hx hy
    go_enter Tryd.func31, Tryd.ntmps31
    go_upto_region 3 with fail
    go_region_held3 (fun w' => w'.cell? ⟨w.heap.size, 4, none⟩ = some (.slice (some ⟨bl, off, none⟩) 1 cap) ∧ w'.cell? ⟨bl, off, none⟩ = some (.int .i64 x) ∧ w'.cell? ⟨bl, off + 1, none⟩ = some (.int .i64 y) ∧ w'.cell? ⟨w.heap.size + 1, 0, none⟩ = some (.int .i64 l) ∧ w'.cell? ⟨w.heap.size + 1, 1, none⟩ = some (.int .i64 t) ∧ w'.cell? ⟨w.heap.size + 1, 2, none⟩ = some (.int .i64 r) ∧ w'.cell? ⟨w.heap.size + 1, 3, none⟩ = some (.int .i64 b)) (first | (simp [go_sem, *]; done) | exact s2)
      (first
      | (go_at_call 49; refine (pointCovers_any x y l t r b _).mono ?_; rintro e w2 ⟨rfl, hb2⟩; obtain ⟨hc2, hf2⟩ := bcell hb2; have s2 := And.intro ((hc2 w.heap.size 4 (by simp <;> omega)).trans (show _ = some (Value.slice (some ⟨bl, off, none⟩) 1 cap) from (by simp [go_sem]))) (And.intro ((hc2 bl off (by simp <;> omega)).trans (show _ = some (Value.int .i64 x) from (by simp [go_sem, *]))) (And.intro ((hc2 bl (off + 1) (by simp <;> omega)).trans (show _ = some (Value.int .i64 y) from (by simp [go_sem, *]))) (And.intro ((hc2 (w.heap.size + 1) 0 (by simp <;> omega)).trans (show _ = some (Value.int .i64 l) from (by simp [go_sem]))) (And.intro ((hc2 (w.heap.size + 1) 1 (by simp <;> omega)).trans (show _ = some (Value.int .i64 t) from (by simp [go_sem]))) (And.intro ((hc2 (w.heap.size + 1) 2 (by simp <;> omega)).trans (show _ = some (Value.int .i64 r) from (by simp [go_sem]))) ((hc2 (w.heap.size + 1) 3 (by simp <;> omega)).trans (show _ = some (Value.int .i64 b) from (by simp [go_sem])))))))); clear hc2 hf2))
    go_wp2
    go_ret
    exact ⟨ret_bool Hv.out.symm, (hB _ _).drew.trans (hb2.mono (by simp <;> omega))⟩
  · have Hv : Hid (coverB 2 ps l t r b = lineB ps l t r b) := by show coverB 2 ps l t r b = _; simp [coverB]
    clear hp hn
    go_enter Tryd.func31, Tryd.ntmps31
    go_wp2_with (go_at_call 50; refine (lineCovers_any bl off n cap ps l t r b _ ((Hp.out.below (hB _ _)).mono (by simp <;> omega)) Hn.out hn1 (by omega) Hall.out h5 h6 h7 h8 g5 g6 g7 g8).mono ?_; rintro e w2 ⟨rfl, hb2⟩)
    go_ret
    exact ⟨ret_bool Hv.out.symm, (hB _ _).trans (hb2.mono (by simp <;> omega))⟩
  · have Hv : Hid (coverB 3 ps l t r b = areaB ps ((l + r) / 2) ((t + b) / 2)) := by show coverB 3 ps l t r b = _; simp [coverB]
    clear hp hn
    go_enter Tryd.func31, Tryd.ntmps31
    go_upto_region 7 with fail
    go_region_held3 (fun w' => w'.cell? ⟨w.heap.size, 4, none⟩ = some (.slice (some ⟨bl, off, none⟩) n cap) ∧ w'.cell? ⟨w.heap.size + 1, 0, none⟩ = some (.int .i64 l) ∧ w'.cell? ⟨w.heap.size + 1, 1, none⟩ = some (.int .i64 t) ∧ w'.cell? ⟨w.heap.size + 1, 2, none⟩ = some (.int .i64 r) ∧ w'.cell? ⟨w.heap.size + 1, 3, none⟩ = some (.int .i64 b)) (first | (simp [go_sem, *]; done) | exact s3 | exact s2)
      (first
      | (go_at_call 52; refine (middle_any l t r b _ h5 h6 h7 h8 g5 g6 g7 g8).mono ?_; rintro e w2 ⟨rfl, hb2⟩; obtain ⟨hc2, hf2⟩ := bcell hb2; have s2 := And.intro ((hc2 w.heap.size 4 (by simp <;> omega)).trans (show _ = some (Value.slice (some ⟨bl, off, none⟩) n cap) from (by simp [go_sem]))) (And.intro ((hc2 (w.heap.size + 1) 0 (by simp <;> omega)).trans (show _ = some (Value.int .i64 l) from (by simp [go_sem]))) (And.intro ((hc2 (w.heap.size + 1) 1 (by simp <;> omega)).trans (show _ = some (Value.int .i64 t) from (by simp [go_sem]))) (And.intro ((hc2 (w.heap.size + 1) 2 (by simp <;> omega)).trans (show _ = some (Value.int .i64 r) from (by simp [go_sem]))) ((hc2 (w.heap.size + 1) 3 (by simp <;> omega)).trans (show _ = some (Value.int .i64 b) from (by simp [go_sem])))))); have hz2 : w.heap.size + 2 ≤ w2.heap.size := (by have := hb2.size; simp at this; omega); have hB2 : Below w.heap.size w w2 := (hB _ _).drew.trans (hb2.mono (by simp <;> omega)); clear hc2 hf2)
      | (go_at_call 51; refine (areaHas_any bl off n cap ps _ _ _ ((Hp.out.below hB2).mono (by omega)) Hn.out hn1 (by omega) Hall.out (by omega) (by omega) (by omega) (by omega)).mono ?_; rintro e w3 ⟨rfl, hb3⟩; obtain ⟨hc3, hf3⟩ := bcell hb3; have s3 := And.intro ((hc3 w.heap.size 4 (by omega)).trans s2.1) (And.intro ((hc3 (w.heap.size + 1) 0 (by omega)).trans s2.2.1) (And.intro ((hc3 (w.heap.size + 1) 1 (by omega)).trans s2.2.2.1) (And.intro ((hc3 (w.heap.size + 1) 2 (by omega)).trans s2.2.2.2.1) ((hc3 (w.heap.size + 1) 3 (by omega)).trans s2.2.2.2.2)))); clear hc3 hf3))
    go_wp2
    go_ret
    exact ⟨ret_bool Hv.out.symm, hB2.trans (hb3.mono (by omega))⟩

def aboveB (h i h' i' : Int) : Bool := if h = h' then decide (i' < i) else decide (h' < h)

set_option maxHeartbeats 1000000 in
theorem above_any (id kd ht col : Int) (v : Value) (id' kd' ht' col' : Int) (v' : Value) (w : World) (hv : ∃ a n c, v = .slice a n c) (hv' : ∃ a n c, v' = .slice a n c) :
    Calls Tryd.prog 32 #[.agg #[.int .i64 id, .int .i64 kd, .int .i64 ht, .int .i64 col, v], .agg #[.int .i64 id', .int .i64 kd', .int .i64 ht', .int .i64 col', v']] w fun e w' => e = .returned (.bool (aboveB ht id ht' id')) ∧ Below w.heap.size w w' := by
  obtain ⟨a, n, c, rfl⟩ := hv
  obtain ⟨a', n', c', rfl⟩ := hv'
  have hB : ∀ o1 o2 : Obj, Below w.heap.size w ((w.alloc o1).alloc o2) := fun o1 o2 => ((Below.refl _ _).alloc (Nat.le_refl _) _).alloc (by simp) _
  by_cases h : ht = ht'
  · have hh : (ht != ht') = false := by simp [h]
    have Hv : Hid (aboveB ht id ht' id' = decide (id' < id)) := by show aboveB ht id ht' id' = _; simp [aboveB, h]
    clear h
    go_enter Tryd.func32, Tryd.ntmps32
    go_wp2
    go_ret
    exact ⟨ret_bool Hv.out.symm, hB _ _⟩
  · have hh : (ht != ht') = true := by simp [h]
    have Hv : Hid (aboveB ht id ht' id' = decide (ht' < ht)) := by show aboveB ht id ht' id' = _; simp [aboveB, h]
    clear h
    go_enter Tryd.func32, Tryd.ntmps32
    go_wp2
    go_ret
    exact ⟨ret_bool Hv.out.symm, hB _ _⟩

end Go.Proofs.YtcgpdfefnmhnhaaDoor
