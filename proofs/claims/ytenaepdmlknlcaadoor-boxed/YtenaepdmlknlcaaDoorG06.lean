import Derived.Test.YtenaepdmlknlcaaDoorG05
import Derived.Lib.AppendZeros
import Derived.RangeFuncBox
namespace Go.Proofs.YtenaepdmlknlcaaDoor
open Go.RowKit

/-- A box in the first four cells of a block. -/
structure C4 (w : World) (q : Nat) (x : Bx) : Prop where
  c0 : w.cell? ⟨q, 0, none⟩ = some (.int .i64 x.l)
  c1 : w.cell? ⟨q, 1, none⟩ = some (.int .i64 x.t)
  c2 : w.cell? ⟨q, 2, none⟩ = some (.int .i64 x.r)
  c3 : w.cell? ⟨q, 3, none⟩ = some (.int .i64 x.b)
theorem C4.below {n : Nat} {A B : World} (h : Below n A B) {q : Nat} (hq : q < n) {x : Bx} (c : C4 A q x) : C4 B q x := by
  obtain ⟨hc, _⟩ := bcell h
  exact ⟨(hc _ _ hq).trans c.c0, (hc _ _ hq).trans c.c1, (hc _ _ hq).trans c.c2, (hc _ _ hq).trans c.c3⟩

/-- A list of nodes: their blocks and boxes. -/
abbrev Kids := List (Nat × Bx)
def KidsAt (n0 : Nat) (w : World) (kb ko : Nat) (ks : Kids) : Prop :=
  kb < n0 ∧ ∀ i q x, ks[i]? = some (q, x) → w.cell? ⟨kb, ko + i, none⟩ = some (.pointer (some ⟨q, 0, none⟩)) ∧ q < n0 ∧ C4 w q x
theorem KidsAt.below {n0 : Nat} {A B : World} (h : Below n0 A B) {kb ko : Nat} {ks : Kids} (k : KidsAt n0 A kb ko ks) : KidsAt n0 B kb ko ks :=
  ⟨k.1, fun i q x e => ⟨(h.cell (p := ⟨kb, ko + i, none⟩) k.1).trans (k.2 i q x e).1, (k.2 i q x e).2.1, (k.2 i q x e).2.2.below h (k.2 i q x e).2.1⟩⟩
theorem KidsAt.mono {n0 n1 : Nat} (h : n0 ≤ n1) {w : World} {kb ko : Nat} {ks : Kids} (k : KidsAt n0 w kb ko ks) : KidsAt n1 w kb ko ks :=
  ⟨Nat.lt_of_lt_of_le k.1 h, fun i q x e => ⟨(k.2 i q x e).1, Nat.lt_of_lt_of_le (k.2 i q x e).2.1 h, (k.2 i q x e).2.2⟩⟩
theorem KidsAt.at {n0 : Nat} {w : World} {kb ko : Nat} {ks : Kids} (k : KidsAt n0 w kb ko ks) {i : Nat} (h : i < ks.length) : ∃ q x, ks[i]? = some (q, x) ∧ w.cell? ⟨kb, ko + i, none⟩ = some (.pointer (some ⟨q, 0, none⟩)) ∧ q < n0 ∧ C4 w q x :=
  ⟨ks[i].1, ks[i].2, List.getElem?_eq_getElem h, k.2 i _ _ (List.getElem?_eq_getElem h)⟩

def joinK : Kids → Bx
  | [] => ⟨0, 0, 0, 0⟩
  | k :: ks => ks.foldl (fun b q => b.join q.2) k.2
theorem joinK_snoc (ks : Kids) (q : Nat × Bx) (h : ks ≠ []) : joinK (ks ++ [q]) = (joinK ks).join q.2 := by
  cases ks with
  | nil => exact absurd rfl h
  | cons p r => simp [joinK, List.foldl_append]
theorem take_succ_kids {ks : Kids} {k : Nat} {p : Nat × Bx} (h : ks[k]? = some p) : ks.take (k + 1) = ks.take k ++ [p] := by
  rw [List.take_add_one, h]; rfl

set_option maxRecDepth 100000 in
set_option maxHeartbeats 2000000 in
theorem over_any (kb ko n cap : Nat) (ks : Kids) (w : World) (hk : KidsAt w.heap.size w kb ko ks) (hn : n = ks.length) (hn1 : 1 ≤ n) (hn2 : n ≤ 1000000) (hcap : n ≤ cap) :
    Calls Tryd.prog 14 #[.slice (some ⟨kb, ko, none⟩) n cap] w fun e w' => ∃ q : Nat, e = .returned (.pointer (some ⟨q, 0, none⟩)) ∧ w.heap.size ≤ q ∧ q < w'.heap.size ∧ C4 w' q (joinK ks) ∧ w'.cell? ⟨q, 4, none⟩ = some (.slice (some ⟨kb, ko, none⟩) n cap) ∧ Below w.heap.size w w' := by
  have Hn : Hid (n = ks.length) := hn
  clear hn
  obtain ⟨q0, x0, hq0, hp0, hl0, hc0⟩ := hk.at (i := 0) (by rw [← Hn.out]; exact hn1)
  simp only [Nat.add_zero] at hp0
  have H0 : Hid (ks[0]? = some (q0, x0)) := hq0
  obtain ⟨e0, e1, e2, e3⟩ := hc0
  have Hk : Hid (KidsAt w.heap.size w kb ko ks) := hk
  have hkb := hk.1
  clear hq0 hk
  go_enter Tryd.func14, Tryd.ntmps14
  go_wp2
  all_goals
    go_loopw [15] (fun i wr => ∃ k : Nat, k ≤ n - 1 ∧ i = .int .i64 k ∧ Q4 wr w.heap.size (.int .i64 (joinK (ks.take (k + 1))).l) (.int .i64 (joinK (ks.take (k + 1))).t) (.int .i64 (joinK (ks.take (k + 1))).r) (.int .i64 (joinK (ks.take (k + 1))).b) ∧ Below w.heap.size w wr ∧ w.heap.size < wr.heap.size) (fun i _ => n - 1 - (intOf i).toNat)
    case atStart =>
      refine ⟨0, Nat.zero_le _, rfl, ?_, (Below.refl _ _).alloc (Nat.le_refl _) _, by simp⟩
      rw [take_succ_kids H0.out]
      exact Q4.new _ _ _ _ _ _
    case round =>
      clear e0 e1 e2 e3 hp0
      obtain ⟨k, hk, rfl, hq, hB, hs⟩ := hrel
      by_cases hlt : k < n - 1
      · first
        | (exfalso; omega)
        | (
          generalize hl : (joinK (ks.take (k + 1))).l = l at hq
          generalize ht : (joinK (ks.take (k + 1))).t = t at hq
          generalize hr : (joinK (ks.take (k + 1))).r = r at hq
          generalize hbb : (joinK (ks.take (k + 1))).b = bb at hq
          obtain ⟨q, x, hqx, hp, hlq, hcx⟩ := (Hk.out.below hB).at (i := k + 1) (by rw [← Hn.out]; omega)
          rw [show ko + (k + 1) = ko + 1 + k from by omega] at hp
          have HJ : Hid (joinK (ks.take (k + 1 + 1)) = (⟨mnZ l x.l, mnZ t x.t, mxZ r x.r, mxZ bb x.b⟩ : Bx)) := by
            show joinK (ks.take (k + 1 + 1)) = _
            rw [take_succ_kids hqx, joinK_snoc _ _ (by have := Hn.out; intro e; have h2 := congrArg List.length e; rw [List.length_take] at h2; simp only [List.length_nil] at h2; omega), ← hl, ← ht, ← hr, ← hbb]; rfl
          clear hqx hl ht hr hbb
          obtain ⟨xl, xt, xr, xb⟩ := x
          obtain ⟨d0, d1, d2, d3⟩ := hcx
          dsimp only at d0 d1 d2 d3 HJ
          have hq' := hq
          obtain ⟨c0, c1, c2, c3, f0, f1, f2, f3⟩ := hq
          have hz1 : q < wr.heap.size := by omega
          have hz2 : kb < wr.heap.size := by omega
          go_upto_region 5 with fail
          go_region_with (first
            | (go_at_call 27; refine (Join_any _ _ _ _ _ _ _ _ _).mono ?_; rintro e w3 ⟨rfl, hb3⟩; have hs3 := hb3.size; (try simp at hs3); have q3 := hq'.drew.below hb3 (by simp <;> omega); obtain ⟨k0, k1, k2, k3, m0, m1, m2, m3⟩ := q3))
          all_goals
            have HQ3 : Hid (Q4 w3 w.heap.size (.int .i64 l) (.int .i64 t) (.int .i64 r) (.int .i64 bb)) := ⟨k0, k1, k2, k3, m0, m1, m2, m3⟩
            clear k0 k1 k2 k3 m0 m1 m2 m3 d0 d1 d2 d3 c0 c1 c2 c3 f0 f1 f2 f3
            go_wp2
            go_roundw
            case rel =>
              refine ⟨k + 1, by omega, by go_num, ?_, (hB.drew.trans (hb3.mono (by simp <;> omega))).trans (below_set4 w.heap.size _ _ (Nat.le_refl _) _ _ _ _), Nat.lt_of_lt_of_le (by omega) (below_set4 w.heap.size w3 w.heap.size (Nat.le_refl _) _ _ _ _).size⟩
              rw [HJ.out]
              exact HQ3.out.set _ _ _ _
            case measure => simp [intOf]; omega)
      · have HK : Hid (joinK (ks.take (k + 1)) = joinK ks) := by
          show joinK (ks.take (k + 1)) = joinK ks
          rw [show k + 1 = ks.length from by have := Hn.out; omega, List.take_length]
        rw [HK.out] at hq
        obtain ⟨c0, c1, c2, c3, f0, f1, f2, f3⟩ := hq
        go_wp2
        go_ret
        refine ⟨_, rfl, by omega, by simp, ⟨?_, ?_, ?_, ?_⟩, ?_, hB.alloc (by omega) _⟩ <;> (simp [go_sem] <;> omega)

end Go.Proofs.YtenaepdmlknlcaaDoor
namespace Go.Proofs.YtenaepdmlknlcaaDoor
open Go.RowKit

theorem info39 : (Tryd.prog.info? 39).map (fun i => (i.zero, i.size, i.bytes)) = some (some (.pointer none), 1, 8) := by kernel_rfl

theorem zeroCells_size (v : Value) (h : v.cells = #[v]) (n : Nat) : (Builtin.zeroCells v.cells n).size = n := by
  rw [h]
  simp [Builtin.zeroCells]

set_option maxRecDepth 100000 in
set_option maxHeartbeats 2000000 in
theorem Grow_nil (n : Nat) (w : World) (hn1 : 1 ≤ n) (hn2 : n ≤ 1000) :
    Calls Tryd.prog 49 #[.slice none 0 0, .int .i64 n] w fun e w' => ∃ v : Value, e = .returned v ∧ w'.ownsRow w.heap.size 39 1 v 0 [] ∧ (∃ cap, v = .slice (some ⟨w.heap.size, 0, none⟩) 0 cap) ∧ Below w.heap.size w w' ∧ w.heap.size < w'.heap.size := by
  obtain ⟨i0, hi, hz0, hz1, hz2⟩ := info_parts info39
  have hrz : ∀ ty, (Builtin.append_ #[50, 3] ty #[.slice none 0 0, .int .i64 n]).run Tryd.prog w = _ := fun ty =>
    Lib.run_append_nil_zeros w 50 3 ty 39 i0 (.pointer none) .i64 .i64 Tryd.underlying50 Tryd.underlying3 hi hz0 n (by omega) (by omega) (by omega) (by rw [hz2]; omega)
  have hGn : n ≤ grownCap w n 0 39 := grownCap_ge w _ _ _
  have hG63 := grownCap_le_maxLen w n 0 39 (by unfold maxLen; omega)
  obtain ⟨G, hG⟩ : ∃ G, grownCap w n 0 39 = G := ⟨_, rfl⟩
  rw [hG] at hrz hGn hG63
  clear hG
  have HO' : Hid (((w.alloc (.cells (Builtin.zeroCells #[Value.pointer none] n ++ Builtin.zeroCells #[Value.pointer none] (G - n)) 39)).drew).ownsRow w.heap.size 39 1 (.slice (some ⟨w.heap.size, 0, none⟩) 0 G) 0 []) :=
    World.ownsRow_made (base := w.heap.size) (e := 39) (size := 1) w.drew (Builtin.zeroCells (Value.pointer none).cells n ++ Builtin.zeroCells (Value.pointer none).cells (G - n)) G (Nat.le_refl _) hG63 (by rw [Array.size_append, zeroCells_size _ rfl, zeroCells_size _ rfl]; omega)
  unfold maxLen at hG63
  have hnn : ¬ ((n : Int) < 0) := by omega
  have hnp : 0 < (n : Int) := by omega
  go_enter Tryd.func49, Tryd.ntmps49
  go_wp2_with (at_builtin; refine Lib.wpList_append_run _ rfl _ _ _ _ rfl _ _ rfl rfl _ _ (hrz _) ?_)
  all_goals
    go_ret
    exact ⟨.slice (some ⟨w.heap.size, 0, none⟩) 0 G, rfl, HO'.out, ⟨_, rfl⟩, (Below.refl _ _).drew.alloc (by simp) _, by simp⟩


theorem addr_add (b off j : Nat) : (⟨b, off, none⟩ : Addr).add j = ⟨b, off + j, none⟩ := by
  unfold Addr.add
  split
  · simp [*]
  · rfl

/-- A part of a concatenation: a slice's block, offset and capacity, and what it holds. -/
structure Part where
  b : Nat
  off : Nat
  cap : Nat
  vs : List Value
def PartsAt (n0 : Nat) (w : World) (sb so : Nat) (ps : List Part) : Prop :=
  sb < n0 ∧ ∀ i p, ps[i]? = some p → w.cell? ⟨sb, so + i, none⟩ = some (.slice (some ⟨p.b, p.off, none⟩) p.vs.length p.cap) ∧ p.b < n0 ∧ ∀ j u, p.vs[j]? = some u → w.cell? ⟨p.b, p.off + j, none⟩ = some u
theorem PartsAt.below {n0 : Nat} {A B : World} (h : Below n0 A B) {sb so : Nat} {ps : List Part} (k : PartsAt n0 A sb so ps) : PartsAt n0 B sb so ps :=
  ⟨k.1, fun i p e => ⟨(h.cell (p := ⟨sb, so + i, none⟩) k.1).trans (k.2 i p e).1, (k.2 i p e).2.1, fun j u hj => (h.cell (p := ⟨p.b, p.off + j, none⟩) (k.2 i p e).2.1).trans ((k.2 i p e).2.2 j u hj)⟩⟩
def catTo (ps : List Part) (k : Nat) : List Value := (ps.take k).flatMap (·.vs)
theorem catTo_succ {ps : List Part} {k : Nat} {p : Part} (h : ps[k]? = some p) : catTo ps (k + 1) = catTo ps k ++ p.vs := by
  rw [catTo, List.take_add_one, h]; simp [catTo]
theorem catTo_le (ps : List Part) (k : Nat) : (catTo ps k).length ≤ (catTo ps ps.length).length := by
  rw [catTo, catTo, List.take_length, List.length_flatMap, List.length_flatMap]
  have h := List.take_append_drop k ps
  calc ((ps.take k).map fun a => a.vs.length).sum ≤ ((ps.take k).map fun a => a.vs.length).sum + ((ps.drop k).map fun a => a.vs.length).sum := Nat.le_add_right _ _
    _ = (ps.map fun a => a.vs.length).sum := by rw [← List.sum_append_nat, ← List.map_append, h]

set_option maxRecDepth 100000 in
set_option maxHeartbeats 2000000 in
theorem Concat_any (sb so n scap : Nat) (ps : List Part) (w : World) (hp : PartsAt w.heap.size w sb so ps) (hn : n = ps.length) (hn2 : n ≤ 1000) (ht1 : 1 ≤ (catTo ps ps.length).length) (ht2 : (catTo ps ps.length).length ≤ 1000) (hone : ∀ u ∈ catTo ps ps.length, u.oneCell' = true) :
    Calls Tryd.prog 29 #[.slice (some ⟨sb, so, none⟩) n scap] w fun e w' => ∃ v : Value, e = .returned v ∧ w'.ownsRow w.heap.size 39 1 v (catTo ps ps.length).length (catTo ps ps.length) ∧ Below w.heap.size w w' := by
  have Hn : Hid (n = ps.length) := hn
  have Hp : Hid (PartsAt w.heap.size w sb so ps) := hp
  have hsb := hp.1
  have Hone : Hid (∀ u ∈ catTo ps ps.length, u.oneCell' = true) := hone
  clear hn hp hone
  go_enter Tryd.func29, Tryd.ntmps29
  go_wp2
  go_loop [3, 11] (fun sz i => ∃ k : Nat, k ≤ n ∧ i = .int .i64 k ∧ sz = .int .i64 (catTo ps k).length) (fun _ i => n - (intOf i).toNat)
  case atStart => exact ⟨0, by omega, rfl, rfl⟩
  case round =>
    obtain ⟨k, hk, rfl, rfl⟩ := hrel
    have hle := catTo_le ps k
    by_cases hlt : k < n
    · have hlt' : k < ps.length := by have := Hn.out; omega
      obtain ⟨hc, _, _⟩ := Hp.out.2 k ps[k] (List.getElem?_eq_getElem hlt')
      have hle2 := catTo_le ps (k + 1)
      rw [catTo_succ (List.getElem?_eq_getElem hlt'), List.length_append] at hle2
      have HC : Hid ((catTo ps (k + 1)).length = (catTo ps k).length + ps[k].vs.length) := by show (catTo ps (k + 1)).length = _; rw [catTo_succ (List.getElem?_eq_getElem hlt'), List.length_append]
      generalize ps[k] = p at *
      generalize hT : (catTo ps ps.length).length = T at *
      clear hT
      generalize hC : (catTo ps k).length = C at *
      clear hC
      have hpos : ¬ ((C : Int) + (p.vs.length : Int) < 0) := by omega
      go_wp2
      go_round
      case rel => exact ⟨k + 1, by omega, by go_num, by rw [HC.out]; go_num⟩
      case measure => simp [intOf]; omega
    · obtain rfl : k = n := by omega
      have HT : Hid ((catTo ps k).length = (catTo ps ps.length).length) := by show (catTo ps k).length = _; rw [Hn.out]
      rw [HT.out]
      generalize hT : (catTo ps ps.length).length = T at *
      have HTT : Hid ((catTo ps ps.length).length = T) := hT
      clear hT
      go_wp2_with (go_at_call 49; refine (Grow_nil T _ ht1 ht2).mono ?_; rintro e w1 ⟨v, rfl, hown, ⟨cap0, rfl⟩, hB1, hs1⟩)
      have Hown : Hid (w1.ownsRow w.heap.size 39 1 (.slice (some ⟨w.heap.size, 0, none⟩) 0 cap0) 0 []) := hown
      clear hown
      obtain ⟨i0, hi, hz0, hz1, hz2⟩ := info_parts info39
      have HI : Hid (Tryd.prog.info? 39 = some i0 ∧ i0.zero = some (.pointer none) ∧ i0.size = 1 ∧ i0.bytes = 8) := ⟨hi, hz0, hz1, hz2⟩
      clear hi hz0 hz1 hz2
      go_loopw [6, 27] (fun v i wr => ∃ j : Nat, j ≤ k ∧ i = .int .i64 j ∧ wr.ownsRow w.heap.size 39 1 v (catTo ps j).length (catTo ps j) ∧ Below w.heap.size w wr) (fun _ i _ => k - (intOf i).toNat)
      case atStart => exact ⟨0, by omega, rfl, Hown.out, hB1⟩
      case round =>
        obtain ⟨j, hj, rfl, hown, hB⟩ := hrel
        have Hown2 : Hid (wr.ownsRow w.heap.size 39 1 u6 (catTo ps j).length (catTo ps j)) := hown
        clear hown
        by_cases hlt : j < k
        · have hlt' : j < ps.length := by have := Hn.out; omega
          obtain ⟨hc, hb0, hcs⟩ := (Hp.out.below hB).2 j ps[j] (List.getElem?_eq_getElem hlt')
          have HC : Hid (catTo ps (j + 1) = catTo ps j ++ ps[j].vs) := catTo_succ (List.getElem?_eq_getElem hlt')
          have hle2 := catTo_le ps (j + 1)
          rw [HC.out, List.length_append, HTT.out] at hle2
          have Hm : Hid (∀ u ∈ ps[j].vs, u.oneCell' = true) := fun u hu => Hone.out u (by
            rw [catTo, List.take_length, List.mem_flatMap]
            exact ⟨ps[j], List.getElem_mem hlt', hu⟩)
          generalize ps[j] = p at *
          have Hcs : Hid (∀ j u, p.vs[j]? = some u → wr.cell? ((⟨p.b, p.off, none⟩ : Addr).add j) = some u) := fun j u h => (by rw [addr_add]; exact hcs j u h)
          clear hcs
          go_wp2_with (at_builtin; refine wpList_append_own _ rfl _ _ 50 rfl w.heap.size 39 i0 (.pointer none) 1 8 Tryd.underlying50 HI.out.1 HI.out.2.1 HI.out.2.2.1 HI.out.2.2.2 rfl (by decide) _ _ _ rfl Hown2.out ⟨p.b, p.off, none⟩ p.vs.length p.cap p.vs rfl (by simp) Hcs.out Hm.out (by unfold maxLen; omega) (by omega) hB.size ?_; intro v' w2 hown' hgrow _; have Hown' : Hid (w2.ownsRow w.heap.size 39 1 v' ((catTo ps j).length + p.vs.length) (catTo ps j ++ p.vs)) := hown'; clear hown')
          go_roundw
          case rel =>
            refine ⟨j + 1, by omega, by go_num, ?_, hB.grown hgrow hB.size (fun k hk => (Hown2.out.lt k hk).1)⟩
            rw [HC.out, List.length_append]
            exact Hown'.out
          case measure => simp [intOf]; omega
        · have HF : Hid (catTo ps j = catTo ps ps.length) := by show catTo ps j = _; rw [show j = ps.length from by have := Hn.out; omega]
          go_wp2
          go_ret
          refine ⟨_, rfl, ?_, hB⟩
          rw [← HTT.out, ← HF.out]
          exact Hown2.out

end Go.Proofs.YtenaepdmlknlcaaDoor
