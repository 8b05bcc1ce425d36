import Derived.Test.YtcgpdfefnmhnhaaDoorI
namespace Go.Proofs.YtcgpdfefnmhnhaaDoor
open Go.RowKit

/-- A box in the first four cells of a block. -/
structure C4 (w : World) (q : Nat) (x : Bx) : Prop where
  c0 : w.cell? ⟨q, 0, none⟩ = some (.int .i64 x.l)
  c1 : w.cell? ⟨q, 1, none⟩ = some (.int .i64 x.t)
  c2 : w.cell? ⟨q, 2, none⟩ = some (.int .i64 x.r)
  c3 : w.cell? ⟨q, 3, none⟩ = some (.int .i64 x.b)
theorem C4.below {n : Nat} {A B : World} (h : Below n A B) {q : Nat} (hq : q < n) {x : Bx} (c : C4 A q x) : C4 B q x := by
  obtain ⟨hc, _⟩ := bcell h
  exact ⟨(hc _ _ hq).trans c.c0, (hc _ _ hq).trans c.c1, (hc _ _ hq).trans c.c2, (hc _ _ hq).trans c.c3⟩

/-- A list of nodes: their blocks and boxes. -/
abbrev Kids := List (Nat × Bx)
def KidsAt (n0 : Nat) (w : World) (kb ko : Nat) (ks : Kids) : Prop :=
  kb < n0 ∧ ∀ i q x, ks[i]? = some (q, x) → w.cell? ⟨kb, ko + i, none⟩ = some (.pointer (some ⟨q, 0, none⟩)) ∧ q < n0 ∧ C4 w q x
theorem KidsAt.below {n0 : Nat} {A B : World} (h : Below n0 A B) {kb ko : Nat} {ks : Kids} (k : KidsAt n0 A kb ko ks) : KidsAt n0 B kb ko ks :=
  ⟨k.1, fun i q x e => ⟨(h.cell (p := ⟨kb, ko + i, none⟩) k.1).trans (k.2 i q x e).1, (k.2 i q x e).2.1, (k.2 i q x e).2.2.below h (k.2 i q x e).2.1⟩⟩
theorem KidsAt.mono {n0 n1 : Nat} (h : n0 ≤ n1) {w : World} {kb ko : Nat} {ks : Kids} (k : KidsAt n0 w kb ko ks) : KidsAt n1 w kb ko ks :=
  ⟨Nat.lt_of_lt_of_le k.1 h, fun i q x e => ⟨(k.2 i q x e).1, Nat.lt_of_lt_of_le (k.2 i q x e).2.1 h, (k.2 i q x e).2.2⟩⟩
theorem KidsAt.at {n0 : Nat} {w : World} {kb ko : Nat} {ks : Kids} (k : KidsAt n0 w kb ko ks) {i : Nat} (h : i < ks.length) : ∃ q x, ks[i]? = some (q, x) ∧ w.cell? ⟨kb, ko + i, none⟩ = some (.pointer (some ⟨q, 0, none⟩)) ∧ q < n0 ∧ C4 w q x :=
  ⟨ks[i].1, ks[i].2, List.getElem?_eq_getElem h, k.2 i _ _ (List.getElem?_eq_getElem h)⟩

def joinK : Kids → Bx
  | [] => ⟨0, 0, 0, 0⟩
  | k :: ks => ks.foldl (fun b q => b.join q.2) k.2
theorem joinK_snoc (ks : Kids) (q : Nat × Bx) (h : ks ≠ []) : joinK (ks ++ [q]) = (joinK ks).join q.2 := by
  cases ks with
  | nil => exact absurd rfl h
  | cons p r => simp [joinK, List.foldl_append]
theorem take_succ_kids {ks : Kids} {k : Nat} {p : Nat × Bx} (h : ks[k]? = some p) : ks.take (k + 1) = ks.take k ++ [p] := by
  rw [List.take_add_one, h]; rfl

set_option maxRecDepth 100000 in
set_option maxHeartbeats 2000000 in
theorem over_any (kb ko n cap : Nat) (ks : Kids) (w : World) (hk : KidsAt w.heap.size w kb ko ks) (hn : n = ks.length) (hn1 : 1 ≤ n) (hn2 : n ≤ 1000000) (hcap : n ≤ cap) :
    Calls Tryd.prog 14 #[.slice (some ⟨kb, ko, none⟩) n cap] w fun e w' => ∃ q : Nat, e = .returned (.pointer (some ⟨q, 0, none⟩)) ∧ w.heap.size ≤ q ∧ q < w'.heap.size ∧ C4 w' q (joinK ks) ∧ w'.cell? ⟨q, 4, none⟩ = some (.slice (some ⟨kb, ko, none⟩) n cap) ∧ Below w.heap.size w w' := by
  have Hn : Hid (n = ks.length) := hn
  clear hn
  obtain ⟨q0, x0, hq0, hp0, hl0, hc0⟩ := hk.at (i := 0) (by rw [← Hn.out]; exact hn1)
  simp only [Nat.add_zero] at hp0
  have H0 : Hid (ks[0]? = some (q0, x0)) := hq0
  obtain ⟨e0, e1, e2, e3⟩ := hc0
  have Hk : Hid (KidsAt w.heap.size w kb ko ks) := hk
  have hkb := hk.1
  clear hq0 hk
  go_enter Tryd.func14, Tryd.ntmps14
  go_wp2
  all_goals
    go_loopw [15] (fun i wr => ∃ k : Nat, k ≤ n - 1 ∧ i = .int .i64 k ∧ Q4 wr w.heap.size (.int .i64 (joinK (ks.take (k + 1))).l) (.int .i64 (joinK (ks.take (k + 1))).t) (.int .i64 (joinK (ks.take (k + 1))).r) (.int .i64 (joinK (ks.take (k + 1))).b) ∧ Below w.heap.size w wr ∧ w.heap.size < wr.heap.size) (fun i _ => n - 1 - (intOf i).toNat)
    case atStart =>
      refine ⟨0, Nat.zero_le _, rfl, ?_, (Below.refl _ _).alloc (Nat.le_refl _) _, by simp⟩
      rw [take_succ_kids H0.out]
      exact Q4.new _ _ _ _ _ _
    case round =>
      clear e0 e1 e2 e3 hp0
      obtain ⟨k, hk, rfl, hq, hB, hs⟩ := hrel
      by_cases hlt : k < n - 1
      · first
        | (exfalso; omega)
        | (
          generalize hl : (joinK (ks.take (k + 1))).l = l at hq
          generalize ht : (joinK (ks.take (k + 1))).t = t at hq
          generalize hr : (joinK (ks.take (k + 1))).r = r at hq
          generalize hbb : (joinK (ks.take (k + 1))).b = bb at hq
          obtain ⟨q, x, hqx, hp, hlq, hcx⟩ := (Hk.out.below hB).at (i := k + 1) (by rw [← Hn.out]; omega)
          rw [show ko + (k + 1) = ko + 1 + k from by omega] at hp
          have HJ : Hid (joinK (ks.take (k + 1 + 1)) = (⟨mnZ l x.l, mnZ t x.t, mxZ r x.r, mxZ bb x.b⟩ : Bx)) := by
            show joinK (ks.take (k + 1 + 1)) = _
            rw [take_succ_kids hqx, joinK_snoc _ _ (by have := Hn.out; intro e; have h2 := congrArg List.length e; rw [List.length_take] at h2; simp only [List.length_nil] at h2; omega), ← hl, ← ht, ← hr, ← hbb]; rfl
          clear hqx hl ht hr hbb
          obtain ⟨xl, xt, xr, xb⟩ := x
          obtain ⟨d0, d1, d2, d3⟩ := hcx
          dsimp only at d0 d1 d2 d3 HJ
          have hq' := hq
          obtain ⟨c0, c1, c2, c3, f0, f1, f2, f3⟩ := hq
          have hz1 : q < wr.heap.size := by omega
          have hz2 : kb < wr.heap.size := by omega
          go_upto_region 5 with fail
          go_region_with (first
            | (go_at_call 26; refine (Join_any _ _ _ _ _ _ _ _ _).mono ?_; rintro e w3 ⟨rfl, hb3⟩; have hs3 := hb3.size; (try simp at hs3); have q3 := hq'.drew.below hb3 (by simp <;> omega); obtain ⟨k0, k1, k2, k3, m0, m1, m2, m3⟩ := q3))
          all_goals
            have HQ3 : Hid (Q4 w3 w.heap.size (.int .i64 l) (.int .i64 t) (.int .i64 r) (.int .i64 bb)) := ⟨k0, k1, k2, k3, m0, m1, m2, m3⟩
            clear k0 k1 k2 k3 m0 m1 m2 m3 d0 d1 d2 d3 c0 c1 c2 c3 f0 f1 f2 f3
            go_wp2
            go_roundw
            case rel =>
              refine ⟨k + 1, by omega, by go_num, ?_, (hB.drew.trans (hb3.mono (by simp <;> omega))).trans (below_set4 w.heap.size _ _ (Nat.le_refl _) _ _ _ _), Nat.lt_of_lt_of_le (by omega) (below_set4 w.heap.size w3 w.heap.size (Nat.le_refl _) _ _ _ _).size⟩
              rw [HJ.out]
              exact HQ3.out.set _ _ _ _
            case measure => simp [intOf]; omega)
      · have HK : Hid (joinK (ks.take (k + 1)) = joinK ks) := by
          show joinK (ks.take (k + 1)) = joinK ks
          rw [show k + 1 = ks.length from by have := Hn.out; omega, List.take_length]
        rw [HK.out] at hq
        obtain ⟨c0, c1, c2, c3, f0, f1, f2, f3⟩ := hq
        go_wp2
        go_ret
        refine ⟨_, rfl, by omega, by simp, ⟨?_, ?_, ?_, ?_⟩, ?_, hB.alloc (by omega) _⟩ <;> (simp [go_sem] <;> omega)

end Go.Proofs.YtcgpdfefnmhnhaaDoor
