import Derived.Test.YtcgpdfefnmhnhaaDoorS
namespace Go.Proofs.YtcgpdfefnmhnhaaDoor
open Go.RowKit Go.Shelf

/-- The box of pixel n of a tile. -/
def pixZ (p c r : Int) (n : Nat) : Bx := ⟨8 * p * c + ((n : Int) % 8) * p, 8 * p * r + ((n : Int) / 8) * p, 8 * p * c + ((n : Int) % 8) * p + p, 8 * p * r + ((n : Int) / 8) * p + p⟩
def colZ (vs : List FV) (p c r : Int) (n : Nat) : Int := tcol (topOf (pixZ p c r n) (vs.filter (meetF (pixZ p c r n))))

theorem pix_bd {z p c r : Int} (hz : ZP z p) (h1 : 0 ≤ c) (h3 : 0 ≤ r) (hc : 8 * p * c ≤ 256 - 8 * p) (hr : 8 * p * r ≤ 256 - 8 * p) (n : Nat) (hn : n < 64) :
    0 ≤ (pixZ p c r n).l ∧ 0 ≤ (pixZ p c r n).t ∧ 0 ≤ (pixZ p c r n).r ∧ 0 ≤ (pixZ p c r n).b ∧ (pixZ p c r n).l ≤ 1000 ∧ (pixZ p c r n).t ≤ 1000 ∧ (pixZ p c r n).r ≤ 1000 ∧ (pixZ p c r n).b ≤ 1000 := by
  simp only [pixZ]
  rcases hz with ⟨rfl, rfl⟩ | ⟨rfl, rfl⟩ | ⟨rfl, rfl⟩ | ⟨rfl, rfl⟩ <;> omega
theorem Good.below {ok : Nat → Prop} {A B : World} (h : Below A.heap.size A B) (hok : ∀ b, ok b → b < A.heap.size) {v : FV} (g : Good ok A v) : Good ok B v :=
  ⟨g.1, g.2.1, g.2.2.1, fun k x y e => ⟨(h.cell (p := ⟨v.pb, v.po + k * 2, none⟩) (hok _ g.2.1)).trans (g.2.2.2 k x y e).1, (h.cell (p := ⟨v.pb, v.po + k * 2 + 1, none⟩) (hok _ g.2.1)).trans (g.2.2.2 k x y e).2⟩⟩
theorem zeros64 (W : World) (C : Array Value) (hC : C = Array.replicate 64 (.int .i64 0)) (j : Nat) (hj : j < 64) : (W.alloc (.cells C 55)).cell? ⟨W.heap.size, j, none⟩ = some (.int .i64 0) := by
  subst hC
  simp [go_sem, hj]
theorem below_set1 (n : Nat) (w : World) (b o : Nat) (h : n ≤ b) (u : Value) : Below n w (w.setCell ⟨b, o, none⟩ u) := (Below.refl n w).setCell (p := ⟨b, o, none⟩) h u

set_option maxRecDepth 100000 in
set_option maxHeartbeats 2000000 in
theorem Body_any (ok : Nat → Prop) (d q : Nat) (vs : List FV) (y : Bx) (z p c r : Int) (w : World) (hok : ∀ b, ok b → b < w.heap.size) (hIT : IsT ok w d q vs y) (hg : ∀ v ∈ vs, Good ok w v) (hcol : ∀ n, 0 ≤ colZ vs p c r n ∧ colZ vs p c r n < 100)
    (hz : ZP z p) (h1 : 0 ≤ c) (h2 : c ≤ 7) (h3 : 0 ≤ r) (h4 : r ≤ 7) (hc : 8 * p * c ≤ 256 - 8 * p) (hr : 8 * p * r ≤ 256 - 8 * p) :
    Calls Tryd.prog 10 #[.agg #[.pointer (some ⟨q, 0, none⟩)], .agg #[.int .i64 z, .int .i64 c, .int .i64 r]] w fun e w' => e = .returned (.string ⟨(Lib.join ((txts ((List.range 64).map fun n => (colZ vs p c r n).toNat)).map (·.data.toList)) [44]).toArray⟩) ∧ Below w.heap.size w w' := by
  have Hok : Hid (∀ b, ok b → b < w.heap.size) := hok
  have HIT : Hid (IsT ok w d q vs y) := hIT
  have Hg : Hid (∀ v ∈ vs, Good ok w v) := hg
  have Hcol : Hid (∀ n, 0 ≤ colZ vs p c r n ∧ colZ vs p c r n < 100) := hcol
  clear hok hIT hg hcol
  have HC0 : Hid (∀ C : Array Value, C = Array.replicate 64 (.int .i64 0) → ∀ (W : World) j, j < 64 → (W.alloc (.cells C 55)).cell? ⟨W.heap.size, j, none⟩ = some (.int .i64 0)) := fun C hC W j hj => zeros64 W C hC j hj
  go_enter Tryd.func10, Tryd.ntmps10
  go_wp2
  go_loopw [7] (fun i wr => ∃ k : Nat, k ≤ 64 ∧ i = .int .i64 k ∧ (∀ j, j < 64 → wr.cell? ⟨w.heap.size + 1 + 1, j, none⟩ = some (.int .i64 (if j < k then colZ vs p c r j else 0))) ∧ (∀ j, wr.frozen? ⟨w.heap.size + 1 + 1, j, none⟩ = false) ∧ wr.cell? ⟨w.heap.size, 0, none⟩ = some (.pointer (some ⟨q, 0, none⟩)) ∧ wr.cell? ⟨w.heap.size + 1, 0, none⟩ = some (.int .i64 z) ∧ wr.cell? ⟨w.heap.size + 1, 1, none⟩ = some (.int .i64 c) ∧ wr.cell? ⟨w.heap.size + 1, 2, none⟩ = some (.int .i64 r) ∧ Below w.heap.size w wr ∧ w.heap.size + 3 ≤ wr.heap.size) (fun i _ => 64 - (intOf i).toNat)
  case atStart =>
    refine ⟨0, by omega, rfl, fun j hj => ?_, fun j => by simp [go_sem], by simp [go_sem], by simp [go_sem], by simp [go_sem], by simp [go_sem], (((Below.refl _ _).alloc (Nat.le_refl _) _).alloc (by simp) _).alloc (by simp <;> omega) _, by simp⟩
    rw [if_neg (by omega)]
    have h := HC0.out _ (show _ = Array.replicate 64 (Value.int .i64 0) from rfl) ((w.alloc (.cells #[.pointer (some ⟨q, 0, none⟩)] 41)).alloc (.cells #[.int .i64 z, .int .i64 c, .int .i64 r] 25)) j hj
    rw [World.size_alloc, World.size_alloc] at h
    exact h
  case round =>
    obtain ⟨k, hk, rfl, hcs, hfz, t0, t1, t2, t3, hB, hs⟩ := hrel
    have Hcs : Hid (∀ j, j < 64 → wr.cell? ⟨w.heap.size + 1 + 1, j, none⟩ = some (.int .i64 (if j < k then colZ vs p c r j else 0))) := hcs
    have Hfz : Hid (∀ j, wr.frozen? ⟨w.heap.size + 1 + 1, j, none⟩ = false) := hfz
    clear hcs hfz
    by_cases hlt : k < 64
    · have hkI : (k : Int) < 64 := by omega
      have hk0 : (0 : Int) ≤ (k : Int) := by omega
      obtain ⟨p1, p2, p3, p4, p5, p6, p7, p8⟩ := pix_bd hz h1 h3 hc hr k hlt
      have HP : Hid (0 ≤ (pixZ p c r k).l ∧ 0 ≤ (pixZ p c r k).t ∧ 0 ≤ (pixZ p c r k).r ∧ 0 ≤ (pixZ p c r k).b ∧ (pixZ p c r k).l ≤ 1000 ∧ (pixZ p c r k).t ≤ 1000 ∧ (pixZ p c r k).r ≤ 1000 ∧ (pixZ p c r k).b ≤ 1000) := ⟨p1, p2, p3, p4, p5, p6, p7, p8⟩
      clear p1 p2 p3 p4 p5 p6 p7 p8
      have HZ : Hid (ZP z p) := hz
      have hmod : (k : Int).tmod 8 = (k : Int) % 8 := Int.tmod_eq_emod_of_nonneg hk0
      have hdiv : (k : Int).tdiv 8 = (k : Int) / 8 := Int.tdiv_eq_ediv_of_nonneg hk0
      have hw8 : IntKind.i64.wrap ((k : Int) / 8) = (k : Int) / 8 := by rw [IntKind.wrap_i64]; omega
      go_upto_region 5 with fail
      go_region_held3 (fun w' => w'.cell? ⟨w.heap.size, 0, none⟩ = some (.pointer (some ⟨q, 0, none⟩)) ∧ w'.cell? ⟨w.heap.size + 1, 0, none⟩ = some (.int .i64 z) ∧ w'.cell? ⟨w.heap.size + 1, 1, none⟩ = some (.int .i64 c) ∧ w'.cell? ⟨w.heap.size + 1, 2, none⟩ = some (.int .i64 r)) (first | exact s4 | exact s3 | exact s2 | (simp [go_sem, *]; done))
        (first
        | (go_at_call 17; refine (pixel_any z p c r _ _ _ HZ.out h1 h2 h3 h4 (by omega) (by omega) (by omega) (by omega)).mono ?_; rintro e w2 ⟨rfl, hb2⟩; obtain ⟨hc2, hf2⟩ := bcell hb2; have s2 := And.intro ((hc2 w.heap.size 0 (by simp <;> omega)).trans t0) (And.intro ((hc2 (w.heap.size + 1) 0 (by simp <;> omega)).trans t1) (And.intro ((hc2 (w.heap.size + 1) 1 (by simp <;> omega)).trans t2) ((hc2 (w.heap.size + 1) 2 (by simp <;> omega)).trans t3))); have hz2 : wr.heap.size ≤ w2.heap.size := (by have := hb2.size; simp at this; omega); have hB2 : Below wr.heap.size wr w2 := (Below.refl _ _).drew.trans (hb2.mono (by simp)); clear hc2 hf2 hb2)
        | (go_at_call 16; refine (colour_any ok d q vs (pixZ p c r k) y _ (fun b hb => Nat.lt_of_lt_of_le (Hok.out b hb) (by omega)) (HIT.out.same (Same.of_below (hB.trans (hB2.mono hB.size)) Hok.out)) (fun v hv => Good.below (hB.trans (hB2.mono hB.size)) Hok.out (Hg.out v hv)) HP.out.1 HP.out.2.1 HP.out.2.2.1 HP.out.2.2.2.1 HP.out.2.2.2.2.1 HP.out.2.2.2.2.2.1 HP.out.2.2.2.2.2.2.1 HP.out.2.2.2.2.2.2.2).mono ?_; rintro e w3 ⟨rfl, hb3⟩; have hB3 : Below wr.heap.size wr w3 := hB2.trans (hb3.mono hz2); obtain ⟨hc3, hf3⟩ := bcell hB3; have s3 := And.intro ((hc3 w.heap.size 0 (by omega)).trans t0) (And.intro ((hc3 (w.heap.size + 1) 0 (by omega)).trans t1) (And.intro ((hc3 (w.heap.size + 1) 1 (by omega)).trans t2) ((hc3 (w.heap.size + 1) 2 (by omega)).trans t3))); have st1 := (hc3 (w.heap.size + 1 + 1) k (by omega)).trans (Hcs.out k hlt); have st2 := (hf3 (w.heap.size + 1 + 1) k (by omega)).trans (Hfz.out k); clear hc3 hf3))
      all_goals
        have HB3 : Hid (Below wr.heap.size wr w3) := hB3
        have HS1 : Hid (w3.cell? ⟨w.heap.size + 1 + 1, k, none⟩ = some (.int .i64 (if k < k then colZ vs p c r k else 0))) := st1
        clear st1 st2 s2 s3 hb3 hB2 hB3
        go_wp2
        go_roundw
        case rel =>
          have hB3 := HB3.out
          obtain ⟨hc3, hf3⟩ := bcell hB3
          have hset : ∀ u, Below (w.heap.size + 1 + 1) w3 (w3.setCell ⟨w.heap.size + 1 + 1, k, none⟩ u) := fun u => below_set1 _ w3 _ k (Nat.le_refl _) u
          refine ⟨k + 1, by omega, by go_num, fun j hj => ?_, fun j => ?_, ((hset _).cell (p := ⟨w.heap.size, 0, none⟩) (show w.heap.size < w.heap.size + 1 + 1 by omega)).trans ((hc3 _ _ (by omega)).trans t0), ((hset _).cell (p := ⟨w.heap.size + 1, 0, none⟩) (show w.heap.size + 1 < w.heap.size + 1 + 1 by omega)).trans ((hc3 _ _ (by omega)).trans t1), ((hset _).cell (p := ⟨w.heap.size + 1, 1, none⟩) (show w.heap.size + 1 < w.heap.size + 1 + 1 by omega)).trans ((hc3 _ _ (by omega)).trans t2), ((hset _).cell (p := ⟨w.heap.size + 1, 2, none⟩) (show w.heap.size + 1 < w.heap.size + 1 + 1 by omega)).trans ((hc3 _ _ (by omega)).trans t3), (hB.trans (hB3.mono hB.size)).trans ((hset _).mono (by omega)), Nat.le_trans (Nat.le_trans hs hB3.size) (hset _).size⟩
          · by_cases hjk : j = k
            · subst hjk
              rw [if_pos (by omega)]
              exact World.cell?_setCell_same _ _ _ HS1.out
            · rw [World.cell?_setCell_other _ _ _ _ (by intro e; exact hjk (by injection e with _ e2 _; exact e2.symm)), hc3 _ _ (by omega), Hcs.out j hj]
              by_cases hjl : j < k
              · rw [if_pos hjl, if_pos (by omega)]
              · rw [if_neg hjl, if_neg (by omega)]
          · rw [World.frozen?_setCell, hf3 _ _ (by omega)]
            exact Hfz.out j
        case measure => simp [intOf]; omega
    · obtain rfl : k = 64 := by omega
      have hruns := runs_any (w.heap.size + 1 + 1) 0 64 64 ((List.range 64).map fun n => (colZ vs p c r n).toNat) wr (by omega) (fun j x hj => by
        rw [List.getElem?_map, Option.map_eq_some_iff] at hj
        obtain ⟨n, hn, rfl⟩ := hj
        obtain ⟨hj1, hj2⟩ := List.getElem?_eq_some_iff.1 hn
        simp at hj1 hj2
        subst hj2
        rw [Nat.zero_add, Hcs.out j hj1, if_pos hj1, Int.toNat_of_nonneg (Hcol.out j).1]) (fun x hx => by
        simp only [List.mem_map, List.mem_range] at hx
        obtain ⟨n, _, rfl⟩ := hx
        have := Hcol.out n
        omega) (by simp) (by omega) (by omega) (by omega) (by omega)
      have HR : Hid _ := hruns
      clear hruns
      go_wp2_with (go_at_call 18; refine Calls.mono HR.out ?_; rintro e w2 ⟨rfl, hb2⟩)
      go_ret
      exact ⟨rfl, hB.trans (hb2.mono hB.size)⟩

end Go.Proofs.YtcgpdfefnmhnhaaDoor
