import Derived.Test.YtenaepdmlknlcaaGreatDoorF04
import Derived.Lib.AppendZeros
import Derived.RangeFuncBox
import Derived.Laws.OwnMore
namespace Go.Proofs.YtenaepdmlknlcaaGreatDoor
open Go.RowKit

/-- A box in the first four cells of a block. -/
structure C4 (w : World) (q : Nat) (x : Bx) : Prop where
  c0 : w.cell? ⟨q, 0, none⟩ = some (.int .i64 x.l)
  c1 : w.cell? ⟨q, 1, none⟩ = some (.int .i64 x.t)
  c2 : w.cell? ⟨q, 2, none⟩ = some (.int .i64 x.r)
  c3 : w.cell? ⟨q, 3, none⟩ = some (.int .i64 x.b)
theorem C4.below {n : Nat} {A B : World} (h : Below n A B) {q : Nat} (hq : q < n) {x : Bx} (c : C4 A q x) : C4 B q x := by
  obtain ⟨hc, _⟩ := bcell h
  exact ⟨(hc _ _ hq).trans c.c0, (hc _ _ hq).trans c.c1, (hc _ _ hq).trans c.c2, (hc _ _ hq).trans c.c3⟩

/-- A list of nodes: their blocks and boxes. -/
abbrev Kids := List (Nat × Bx)
def KidsAt (n0 : Nat) (w : World) (kb ko : Nat) (ks : Kids) : Prop :=
  kb < n0 ∧ ∀ i q x, ks[i]? = some (q, x) → w.cell? ⟨kb, ko + i, none⟩ = some (.pointer (some ⟨q, 0, none⟩)) ∧ q < n0 ∧ C4 w q x
theorem KidsAt.below {n0 : Nat} {A B : World} (h : Below n0 A B) {kb ko : Nat} {ks : Kids} (k : KidsAt n0 A kb ko ks) : KidsAt n0 B kb ko ks :=
  ⟨k.1, fun i q x e => ⟨(h.cell (p := ⟨kb, ko + i, none⟩) k.1).trans (k.2 i q x e).1, (k.2 i q x e).2.1, (k.2 i q x e).2.2.below h (k.2 i q x e).2.1⟩⟩
theorem KidsAt.mono {n0 n1 : Nat} (h : n0 ≤ n1) {w : World} {kb ko : Nat} {ks : Kids} (k : KidsAt n0 w kb ko ks) : KidsAt n1 w kb ko ks :=
  ⟨Nat.lt_of_lt_of_le k.1 h, fun i q x e => ⟨(k.2 i q x e).1, Nat.lt_of_lt_of_le (k.2 i q x e).2.1 h, (k.2 i q x e).2.2⟩⟩
theorem KidsAt.at {n0 : Nat} {w : World} {kb ko : Nat} {ks : Kids} (k : KidsAt n0 w kb ko ks) {i : Nat} (h : i < ks.length) : ∃ q x, ks[i]? = some (q, x) ∧ w.cell? ⟨kb, ko + i, none⟩ = some (.pointer (some ⟨q, 0, none⟩)) ∧ q < n0 ∧ C4 w q x :=
  ⟨ks[i].1, ks[i].2, List.getElem?_eq_getElem h, k.2 i _ _ (List.getElem?_eq_getElem h)⟩

def joinK : Kids → Bx
  | [] => ⟨0, 0, 0, 0⟩
  | k :: ks => ks.foldl (fun b q => b.join q.2) k.2
theorem joinK_snoc (ks : Kids) (q : Nat × Bx) (h : ks ≠ []) : joinK (ks ++ [q]) = (joinK ks).join q.2 := by
  cases ks with
  | nil => exact absurd rfl h
  | cons p r => simp [joinK, List.foldl_append]
theorem take_succ_kids {ks : Kids} {k : Nat} {p : Nat × Bx} (h : ks[k]? = some p) : ks.take (k + 1) = ks.take k ++ [p] := by
  rw [List.take_add_one, h]; rfl

set_option maxRecDepth 100000 in
set_option maxHeartbeats 2000000 in
theorem over_any (kb ko n cap : Nat) (ks : Kids) (w : World) (hk : KidsAt w.heap.size w kb ko ks) (hn : n = ks.length) (hn1 : 1 ≤ n) (hn2 : n ≤ 1000000) (hcap : n ≤ cap) :
    Calls Tryz.prog 54 #[.slice (some ⟨kb, ko, none⟩) n cap] w fun e w' => ∃ q : Nat, e = .returned (.pointer (some ⟨q, 0, none⟩)) ∧ w.heap.size ≤ q ∧ q < w'.heap.size ∧ C4 w' q (joinK ks) ∧ w'.cell? ⟨q, 4, none⟩ = some (.slice (some ⟨kb, ko, none⟩) n cap) ∧ Below w.heap.size w w' := by
  have Hn : Hid (n = ks.length) := hn
  clear hn
  obtain ⟨q0, x0, hq0, hp0, hl0, hc0⟩ := hk.at (i := 0) (by rw [← Hn.out]; exact hn1)
  simp only [Nat.add_zero] at hp0
  have H0 : Hid (ks[0]? = some (q0, x0)) := hq0
  obtain ⟨e0, e1, e2, e3⟩ := hc0
  have Hk : Hid (KidsAt w.heap.size w kb ko ks) := hk
  have hkb := hk.1
  clear hq0 hk
  go_enter Tryz.func54, Tryz.ntmps54
  go_wp2
  all_goals
    go_loopw [15] (fun i wr => ∃ k : Nat, k ≤ n - 1 ∧ i = .int .i64 k ∧ Q4 wr w.heap.size (.int .i64 (joinK (ks.take (k + 1))).l) (.int .i64 (joinK (ks.take (k + 1))).t) (.int .i64 (joinK (ks.take (k + 1))).r) (.int .i64 (joinK (ks.take (k + 1))).b) ∧ Below w.heap.size w wr ∧ w.heap.size < wr.heap.size) (fun i _ => n - 1 - (intOf i).toNat)
    case atStart =>
      refine ⟨0, Nat.zero_le _, rfl, ?_, (Below.refl _ _).alloc (Nat.le_refl _) _, by simp⟩
      rw [take_succ_kids H0.out]
      exact Q4.new _ _ _ _ _ _
    case round =>
      clear e0 e1 e2 e3 hp0
      obtain ⟨k, hk, rfl, hq, hB, hs⟩ := hrel
      by_cases hlt : k < n - 1
      · first
        | (exfalso; omega)
        | (
          generalize hl : (joinK (ks.take (k + 1))).l = l at hq
          generalize ht : (joinK (ks.take (k + 1))).t = t at hq
          generalize hr : (joinK (ks.take (k + 1))).r = r at hq
          generalize hbb : (joinK (ks.take (k + 1))).b = bb at hq
          obtain ⟨q, x, hqx, hp, hlq, hcx⟩ := (Hk.out.below hB).at (i := k + 1) (by rw [← Hn.out]; omega)
          rw [show ko + (k + 1) = ko + 1 + k from by omega] at hp
          have HJ : Hid (joinK (ks.take (k + 1 + 1)) = (⟨mnZ l x.l, mnZ t x.t, mxZ r x.r, mxZ bb x.b⟩ : Bx)) := by
            show joinK (ks.take (k + 1 + 1)) = _
            rw [take_succ_kids hqx, joinK_snoc _ _ (by have := Hn.out; intro e; have h2 := congrArg List.length e; rw [List.length_take] at h2; simp only [List.length_nil] at h2; omega), ← hl, ← ht, ← hr, ← hbb]; rfl
          clear hqx hl ht hr hbb
          obtain ⟨xl, xt, xr, xb⟩ := x
          obtain ⟨d0, d1, d2, d3⟩ := hcx
          dsimp only at d0 d1 d2 d3 HJ
          have hq' := hq
          obtain ⟨c0, c1, c2, c3, f0, f1, f2, f3⟩ := hq
          have hz1 : q < wr.heap.size := by omega
          have hz2 : kb < wr.heap.size := by omega
          go_upto_region 5 with fail
          go_region_with (first
            | (go_at_call 86; refine (Join_any _ _ _ _ _ _ _ _ _).mono ?_; rintro e w3 ⟨rfl, hb3⟩; have hs3 := hb3.size; (try simp at hs3); have q3 := hq'.drew.below hb3 (by simp <;> omega); obtain ⟨k0, k1, k2, k3, m0, m1, m2, m3⟩ := q3))
          all_goals
            have HQ3 : Hid (Q4 w3 w.heap.size (.int .i64 l) (.int .i64 t) (.int .i64 r) (.int .i64 bb)) := ⟨k0, k1, k2, k3, m0, m1, m2, m3⟩
            clear k0 k1 k2 k3 m0 m1 m2 m3 d0 d1 d2 d3 c0 c1 c2 c3 f0 f1 f2 f3
            go_wp2
            go_roundw
            case rel =>
              refine ⟨k + 1, by omega, by go_num, ?_, (hB.drew.trans (hb3.mono (by simp <;> omega))).trans (below_set4 w.heap.size _ _ (Nat.le_refl _) _ _ _ _), Nat.lt_of_lt_of_le (by omega) (below_set4 w.heap.size w3 w.heap.size (Nat.le_refl _) _ _ _ _).size⟩
              rw [HJ.out]
              exact HQ3.out.set _ _ _ _
            case measure => simp [intOf]; omega)
      · have HK : Hid (joinK (ks.take (k + 1)) = joinK ks) := by
          show joinK (ks.take (k + 1)) = joinK ks
          rw [show k + 1 = ks.length from by have := Hn.out; omega, List.take_length]
        rw [HK.out] at hq
        obtain ⟨c0, c1, c2, c3, f0, f1, f2, f3⟩ := hq
        go_wp2
        go_ret
        refine ⟨_, rfl, by omega, by simp, ⟨?_, ?_, ?_, ?_⟩, ?_, hB.alloc (by omega) _⟩ <;> (simp [go_sem] <;> omega)

end Go.Proofs.YtenaepdmlknlcaaGreatDoor

namespace Go.Proofs.YtenaepdmlknlcaaGreatDoor
open Go.RowKit

theorem info39 : (Tryz.prog.info? 87).map (fun i => (i.zero, i.size, i.bytes)) = some (some (.pointer none), 1, 8) := by kernel_rfl

theorem zeroCells_size (v : Value) (h : v.cells = #[v]) (n : Nat) : (Builtin.zeroCells v.cells n).size = n := by
  rw [h]
  simp [Builtin.zeroCells]

set_option maxRecDepth 100000 in
set_option maxHeartbeats 2000000 in
theorem Grow_nil (n : Nat) (w : World) (hn1 : 1 ≤ n) (hn2 : n ≤ 1000) :
    Calls Tryz.prog 123 #[.slice none 0 0, .int .i64 n] w fun e w' => ∃ v : Value, e = .returned v ∧ w'.ownsRow w.heap.size 87 1 v 0 [] ∧ (∃ cap, v = .slice (some ⟨w.heap.size, 0, none⟩) 0 cap) ∧ Below w.heap.size w w' ∧ w.heap.size < w'.heap.size := by
  obtain ⟨i0, hi, hz0, hz1, hz2⟩ := info_parts info39
  have hrz : ∀ ty, (Builtin.append_ #[143, 3] ty #[.slice none 0 0, .int .i64 n]).run Tryz.prog w = _ := fun ty =>
    Lib.run_append_nil_zeros w 143 3 ty 87 i0 (.pointer none) .i64 .i64 Tryz.underlying143 Tryz.underlying3 hi hz0 n (by omega) (by omega) (by omega) (by rw [hz2]; omega)
  have hGn : n ≤ grownCap w n 0 87 := grownCap_ge w _ _ _
  have hG63 := grownCap_le_maxLen w n 0 87 (by unfold maxLen; omega)
  obtain ⟨G, hG⟩ : ∃ G, grownCap w n 0 87 = G := ⟨_, rfl⟩
  rw [hG] at hrz hGn hG63
  clear hG
  have HO' : Hid (((w.alloc (.cells (Builtin.zeroCells #[Value.pointer none] n ++ Builtin.zeroCells #[Value.pointer none] (G - n)) 87)).drew).ownsRow w.heap.size 87 1 (.slice (some ⟨w.heap.size, 0, none⟩) 0 G) 0 []) :=
    World.ownsRow_made (base := w.heap.size) (e := 87) (size := 1) w.drew (Builtin.zeroCells (Value.pointer none).cells n ++ Builtin.zeroCells (Value.pointer none).cells (G - n)) G (Nat.le_refl _) hG63 (by rw [Array.size_append, zeroCells_size _ rfl, zeroCells_size _ rfl]; omega)
  unfold maxLen at hG63
  have hnn : ¬ ((n : Int) < 0) := by omega
  have hnp : 0 < (n : Int) := by omega
  go_enter Tryz.func123, Tryz.ntmps123
  go_wp2_with (at_builtin; refine Lib.wpList_append_run _ rfl _ _ _ _ rfl _ _ rfl rfl _ _ (hrz _) ?_)
  all_goals
    go_ret
    exact ⟨.slice (some ⟨w.heap.size, 0, none⟩) 0 G, rfl, HO'.out, ⟨_, rfl⟩, (Below.refl _ _).drew.alloc (by simp) _, by simp⟩


theorem addr_add (b off j : Nat) : (⟨b, off, none⟩ : Addr).add j = ⟨b, off + j, none⟩ := by
  unfold Addr.add
  split
  · simp [*]
  · rfl

/-- A part of a concatenation: a slice's block, offset and capacity, and what it holds. -/
structure Part where
  b : Nat
  off : Nat
  cap : Nat
  vs : List Value
def PartsAt (n0 : Nat) (w : World) (sb so : Nat) (ps : List Part) : Prop :=
  sb < n0 ∧ ∀ i p, ps[i]? = some p → w.cell? ⟨sb, so + i, none⟩ = some (.slice (some ⟨p.b, p.off, none⟩) p.vs.length p.cap) ∧ p.b < n0 ∧ ∀ j u, p.vs[j]? = some u → w.cell? ⟨p.b, p.off + j, none⟩ = some u
theorem PartsAt.below {n0 : Nat} {A B : World} (h : Below n0 A B) {sb so : Nat} {ps : List Part} (k : PartsAt n0 A sb so ps) : PartsAt n0 B sb so ps :=
  ⟨k.1, fun i p e => ⟨(h.cell (p := ⟨sb, so + i, none⟩) k.1).trans (k.2 i p e).1, (k.2 i p e).2.1, fun j u hj => (h.cell (p := ⟨p.b, p.off + j, none⟩) (k.2 i p e).2.1).trans ((k.2 i p e).2.2 j u hj)⟩⟩
def catTo (ps : List Part) (k : Nat) : List Value := (ps.take k).flatMap (·.vs)
theorem catTo_succ {ps : List Part} {k : Nat} {p : Part} (h : ps[k]? = some p) : catTo ps (k + 1) = catTo ps k ++ p.vs := by
  rw [catTo, List.take_add_one, h]; simp [catTo]
theorem catTo_le (ps : List Part) (k : Nat) : (catTo ps k).length ≤ (catTo ps ps.length).length := by
  rw [catTo, catTo, List.take_length, List.length_flatMap, List.length_flatMap]
  have h := List.take_append_drop k ps
  calc ((ps.take k).map fun a => a.vs.length).sum ≤ ((ps.take k).map fun a => a.vs.length).sum + ((ps.drop k).map fun a => a.vs.length).sum := Nat.le_add_right _ _
    _ = (ps.map fun a => a.vs.length).sum := by rw [← List.sum_append_nat, ← List.map_append, h]

set_option maxRecDepth 100000 in
set_option maxHeartbeats 2000000 in
theorem Concat_any (sb so n scap : Nat) (ps : List Part) (w : World) (hp : PartsAt w.heap.size w sb so ps) (hn : n = ps.length) (hn2 : n ≤ 1000) (ht1 : 1 ≤ (catTo ps ps.length).length) (ht2 : (catTo ps ps.length).length ≤ 1000) (hone : ∀ u ∈ catTo ps ps.length, u.oneCell' = true) :
    Calls Tryz.prog 88 #[.slice (some ⟨sb, so, none⟩) n scap] w fun e w' => ∃ v : Value, e = .returned v ∧ w'.ownsRow w.heap.size 87 1 v (catTo ps ps.length).length (catTo ps ps.length) ∧ Below w.heap.size w w' := by
  have Hn : Hid (n = ps.length) := hn
  have Hp : Hid (PartsAt w.heap.size w sb so ps) := hp
  have hsb := hp.1
  have Hone : Hid (∀ u ∈ catTo ps ps.length, u.oneCell' = true) := hone
  clear hn hp hone
  go_enter Tryz.func88, Tryz.ntmps88
  go_wp2
  go_loop [3, 11] (fun sz i => ∃ k : Nat, k ≤ n ∧ i = .int .i64 k ∧ sz = .int .i64 (catTo ps k).length) (fun _ i => n - (intOf i).toNat)
  case atStart => exact ⟨0, by omega, rfl, rfl⟩
  case round =>
    obtain ⟨k, hk, rfl, rfl⟩ := hrel
    have hle := catTo_le ps k
    by_cases hlt : k < n
    · have hlt' : k < ps.length := by have := Hn.out; omega
      obtain ⟨hc, _, _⟩ := Hp.out.2 k ps[k] (List.getElem?_eq_getElem hlt')
      have hle2 := catTo_le ps (k + 1)
      rw [catTo_succ (List.getElem?_eq_getElem hlt'), List.length_append] at hle2
      have HC : Hid ((catTo ps (k + 1)).length = (catTo ps k).length + ps[k].vs.length) := by show (catTo ps (k + 1)).length = _; rw [catTo_succ (List.getElem?_eq_getElem hlt'), List.length_append]
      generalize ps[k] = p at *
      generalize hT : (catTo ps ps.length).length = T at *
      clear hT
      generalize hC : (catTo ps k).length = C at *
      clear hC
      have hpos : ¬ ((C : Int) + (p.vs.length : Int) < 0) := by omega
      go_wp2
      go_round
      case rel => exact ⟨k + 1, by omega, by go_num, by rw [HC.out]; go_num⟩
      case measure => simp [intOf]; omega
    · obtain rfl : k = n := by omega
      have HT : Hid ((catTo ps k).length = (catTo ps ps.length).length) := by show (catTo ps k).length = _; rw [Hn.out]
      rw [HT.out]
      generalize hT : (catTo ps ps.length).length = T at *
      have HTT : Hid ((catTo ps ps.length).length = T) := hT
      clear hT
      go_wp2_with (go_at_call 123; refine (Grow_nil T _ ht1 ht2).mono ?_; rintro e w1 ⟨v, rfl, hown, ⟨cap0, rfl⟩, hB1, hs1⟩)
      have Hown : Hid (w1.ownsRow w.heap.size 87 1 (.slice (some ⟨w.heap.size, 0, none⟩) 0 cap0) 0 []) := hown
      clear hown
      obtain ⟨i0, hi, hz0, hz1, hz2⟩ := info_parts info39
      have HI : Hid (Tryz.prog.info? 87 = some i0 ∧ i0.zero = some (.pointer none) ∧ i0.size = 1 ∧ i0.bytes = 8) := ⟨hi, hz0, hz1, hz2⟩
      clear hi hz0 hz1 hz2
      go_loopw [6, 27] (fun v i wr => ∃ j : Nat, j ≤ k ∧ i = .int .i64 j ∧ wr.ownsRow w.heap.size 87 1 v (catTo ps j).length (catTo ps j) ∧ Below w.heap.size w wr) (fun _ i _ => k - (intOf i).toNat)
      case atStart => exact ⟨0, by omega, rfl, Hown.out, hB1⟩
      case round =>
        obtain ⟨j, hj, rfl, hown, hB⟩ := hrel
        have Hown2 : Hid (wr.ownsRow w.heap.size 87 1 u6 (catTo ps j).length (catTo ps j)) := hown
        clear hown
        by_cases hlt : j < k
        · have hlt' : j < ps.length := by have := Hn.out; omega
          obtain ⟨hc, hb0, hcs⟩ := (Hp.out.below hB).2 j ps[j] (List.getElem?_eq_getElem hlt')
          have HC : Hid (catTo ps (j + 1) = catTo ps j ++ ps[j].vs) := catTo_succ (List.getElem?_eq_getElem hlt')
          have hle2 := catTo_le ps (j + 1)
          rw [HC.out, List.length_append, HTT.out] at hle2
          have Hm : Hid (∀ u ∈ ps[j].vs, u.oneCell' = true) := fun u hu => Hone.out u (by
            rw [catTo, List.take_length, List.mem_flatMap]
            exact ⟨ps[j], List.getElem_mem hlt', hu⟩)
          generalize ps[j] = p at *
          have Hcs : Hid (∀ j u, p.vs[j]? = some u → wr.cell? ((⟨p.b, p.off, none⟩ : Addr).add j) = some u) := fun j u h => (by rw [addr_add]; exact hcs j u h)
          clear hcs
          go_wp2_with (at_builtin; refine wpList_append_own _ rfl _ _ 143 rfl w.heap.size 87 i0 (.pointer none) 1 8 Tryz.underlying143 HI.out.1 HI.out.2.1 HI.out.2.2.1 HI.out.2.2.2 rfl (by decide) _ _ _ rfl Hown2.out ⟨p.b, p.off, none⟩ p.vs.length p.cap p.vs rfl (by simp) Hcs.out Hm.out (by unfold maxLen; omega) (by omega) hB.size ?_; intro v' w2 hown' hgrow _; have Hown' : Hid (w2.ownsRow w.heap.size 87 1 v' ((catTo ps j).length + p.vs.length) (catTo ps j ++ p.vs)) := hown'; clear hown')
          go_roundw
          case rel =>
            refine ⟨j + 1, by omega, by go_num, ?_, hB.grown hgrow hB.size (fun k hk => (Hown2.out.lt k hk).1)⟩
            rw [HC.out, List.length_append]
            exact Hown'.out
          case measure => simp [intOf]; omega
        · have HF : Hid (catTo ps j = catTo ps ps.length) := by show catTo ps j = _; rw [show j = ps.length from by have := Hn.out; omega]
          go_wp2
          go_ret
          refine ⟨_, rfl, ?_, hB⟩
          rw [← HTT.out, ← HF.out]
          exact Hown2.out

end Go.Proofs.YtenaepdmlknlcaaGreatDoor

namespace Go.Proofs.YtenaepdmlknlcaaGreatDoor
open Go.RowKit

/-- The two worlds read the same in all blocks that are ok. -/
def Same (ok : Nat → Prop) (A B : World) : Prop := ∀ b o v, ok b → A.cell? ⟨b, o, none⟩ = some v → B.cell? ⟨b, o, none⟩ = some v

theorem Same.of_below {n : Nat} {A B : World} (h : Below n A B) {ok : Nat → Prop} (hok : ∀ b, ok b → b < n) : Same ok A B := fun b o _ hb e => (h.cell (p := ⟨b, o, none⟩) (hok b hb)).trans e

/-- A feature, and where its places lie. -/
structure FV where
  f : Feat
  pb : Nat
  po : Nat
  cap : Nat

/-- A leaf: its box, no kids, its feature. -/
structure LeafAt (ok : Nat → Prop) (w : World) (q : Nat) (v : FV) : Prop where
  lt : ok q
  box : C4 w q (boxZ v.f.ps)
  kids : w.cell? ⟨q, 4, none⟩ = some (.slice none 0 0)
  id : w.cell? ⟨q, 5, none⟩ = some (.int .i64 v.f.id)
  kd : w.cell? ⟨q, 6, none⟩ = some (.int .i64 v.f.kd)
  ht : w.cell? ⟨q, 7, none⟩ = some (.int .i64 v.f.ht)
  col : w.cell? ⟨q, 8, none⟩ = some (.int .i64 v.f.col)
  sl : w.cell? ⟨q, 9, none⟩ = some (.slice (some ⟨v.pb, v.po, none⟩) v.f.ps.length v.cap)
  pb : ok v.pb
  cap : v.f.ps.length ≤ v.cap
  pts : ∀ k x y, v.f.ps[k]? = some (x, y) → w.cell? ⟨v.pb, v.po + k * 2, none⟩ = some (.int .i64 x) ∧ w.cell? ⟨v.pb, v.po + k * 2 + 1, none⟩ = some (.int .i64 y)

theorem C4.same {ok : Nat → Prop} {A B : World} (h : Same ok A B) {q : Nat} (hq : ok q) {x : Bx} (c : C4 A q x) : C4 B q x :=
  ⟨h _ _ _ hq c.c0, h _ _ _ hq c.c1, h _ _ _ hq c.c2, h _ _ _ hq c.c3⟩
theorem LeafAt.same {ok : Nat → Prop} {A B : World} (h : Same ok A B) {q : Nat} {v : FV} (l : LeafAt ok A q v) : LeafAt ok B q v :=
  ⟨l.lt, l.box.same h l.lt, h _ _ _ l.lt l.kids, h _ _ _ l.lt l.id, h _ _ _ l.lt l.kd, h _ _ _ l.lt l.ht, h _ _ _ l.lt l.col, h _ _ _ l.lt l.sl, l.pb, l.cap, fun k x y e => ⟨h _ _ _ l.pb (l.pts k x y e).1, h _ _ _ l.pb (l.pts k x y e).2⟩⟩
theorem LeafAt.mono {ok ok' : Nat → Prop} (h : ∀ b, ok b → ok' b) {w : World} {q : Nat} {v : FV} (l : LeafAt ok w q v) : LeafAt ok' w q v :=
  ⟨h _ l.lt, l.box, l.kids, l.id, l.kd, l.ht, l.col, l.sl, h _ l.pb, l.cap, l.pts⟩

/-- A list of nodes, in blocks that are ok. -/
def KidsO (ok : Nat → Prop) (w : World) (kb ko : Nat) (ks : Kids) : Prop :=
  ok kb ∧ ∀ (i : Nat) q x, ks[i]? = some (q, x) → w.cell? ⟨kb, ko + i, none⟩ = some (.pointer (some ⟨q, 0, none⟩)) ∧ ok q ∧ C4 w q x
theorem KidsO.same {ok : Nat → Prop} {A B : World} (h : Same ok A B) {kb ko : Nat} {ks : Kids} (k : KidsO ok A kb ko ks) : KidsO ok B kb ko ks :=
  ⟨k.1, fun i q x e => ⟨h _ _ _ k.1 (k.2 i q x e).1, (k.2 i q x e).2.1, (k.2 i q x e).2.2.same h (k.2 i q x e).2.1⟩⟩
theorem KidsO.mono {ok ok' : Nat → Prop} (h : ∀ b, ok b → ok' b) {w : World} {kb ko : Nat} {ks : Kids} (k : KidsO ok w kb ko ks) : KidsO ok' w kb ko ks :=
  ⟨h _ k.1, fun i q x e => ⟨(k.2 i q x e).1, h _ (k.2 i q x e).2.1, (k.2 i q x e).2.2⟩⟩
theorem KidsO.at {ok : Nat → Prop} {n0 : Nat} (h : ∀ b, ok b → b < n0) {w : World} {kb ko : Nat} {ks : Kids} (k : KidsO ok w kb ko ks) : KidsAt n0 w kb ko ks :=
  ⟨h _ k.1, fun i q x e => ⟨(k.2 i q x e).1, h _ (k.2 i q x e).2.1, (k.2 i q x e).2.2⟩⟩

/-- A tree, all of whose leaves lie d deep: its features and its box. -/
def IsT (ok : Nat → Prop) (w : World) : Nat → Nat → List FV → Bx → Prop
  | 0, q, fs, x => ∃ v, fs = [v] ∧ x = boxZ v.f.ps ∧ LeafAt ok w q v
  | d + 1, q, fs, x => ok q ∧ C4 w q x ∧ ∃ (kb ko cap : Nat) (ks : Kids) (ts : List (List FV)), w.cell? ⟨q, 4, none⟩ = some (.slice (some ⟨kb, ko, none⟩) ks.length cap) ∧ ks ≠ [] ∧ ks.length ≤ 4 ∧ ks.length ≤ cap ∧ KidsO ok w kb ko ks ∧ ts.length = ks.length ∧ (∀ (i : Nat) p y t, ks[i]? = some (p, y) → ts[i]? = some t → IsT ok w d p t y) ∧ fs = ts.flatten ∧ x = joinK ks

theorem IsT.same {ok : Nat → Prop} {A B : World} (h : Same ok A B) : ∀ {d q : Nat} {fs : List FV} {x : Bx}, IsT ok A d q fs x → IsT ok B d q fs x
  | 0, _, _, _, ⟨f, e, ex, l⟩ => ⟨f, e, ex, l.same h⟩
  | _ + 1, _q, _, _, ⟨hq, hc, kb, ko, cap, ks, ts, h4, hne, hle, hcap, hk, hl, ht, hf, hx⟩ => ⟨hq, hc.same h hq, kb, ko, cap, ks, ts, h _ _ _ hq h4, hne, hle, hcap, hk.same h, hl, fun i p y t e e' => IsT.same h (ht i p y t e e'), hf, hx⟩
theorem IsT.mono {ok ok' : Nat → Prop} (h : ∀ b, ok b → ok' b) {w : World} : ∀ {d q : Nat} {fs : List FV} {x : Bx}, IsT ok w d q fs x → IsT ok' w d q fs x
  | 0, _, _, _, ⟨f, e, ex, l⟩ => ⟨f, e, ex, l.mono h⟩
  | _ + 1, _, _, _, ⟨hq, hc, kb, ko, cap, ks, ts, h4, hne, hle, hcap, hk, hl, ht, hf, hx⟩ => ⟨h _ hq, hc, kb, ko, cap, ks, ts, h4, hne, hle, hcap, hk.mono h, hl, fun i p y t e e' => IsT.mono h (ht i p y t e e'), hf, hx⟩
theorem IsT.lt {ok : Nat → Prop} {w : World} : ∀ {d q : Nat} {fs : List FV} {x : Bx}, IsT ok w d q fs x → ok q
  | 0, _, _, _, ⟨_, _, _, l⟩ => l.lt
  | _ + 1, _, _, _, h => h.1

def ptrs (ks : Kids) : List Value := ks.map fun k => .pointer (some ⟨k.1, 0, none⟩)
theorem ptrs_at {ks : Kids} {i : Nat} {u : Value} (h : (ptrs ks)[i]? = some u) : ∃ q x, ks[i]? = some (q, x) ∧ u = .pointer (some ⟨q, 0, none⟩) := by
  simp only [ptrs, List.getElem?_map, Option.map_eq_some_iff] at h
  obtain ⟨k, hk, rfl⟩ := h
  exact ⟨k.1, k.2, hk, rfl⟩

theorem eql_nil (w : World) : Sem.run Tryz.prog (binOp BinOp.eql 143 (Value.slice none 0 0) (Value.slice none 0 0)) w = .ok (.bool true) w := by kernel_rfl
theorem eql_some (w : World) (a : Addr) (n c : Nat) : Sem.run Tryz.prog (binOp BinOp.eql 143 (Value.slice (some a) n c) (Value.slice none 0 0)) w = .ok (.bool false) w := by kernel_rfl

/-- The row that a concatenation has made, as a list of nodes. -/
theorem kids_of_row {w w1 : World} {B : Nat} {v : Value} {ks : Kids} {m : Nat} (hm : ks.length = m + 1) (hw : Below w.heap.size w w1) (hown : w1.ownsRow B 87 1 v (ptrs ks).length (ptrs ks)) (hk : ∀ (i : Nat) q x, ks[i]? = some (q, x) → q < w.heap.size ∧ C4 w q x) :
    ∃ g c, v = .slice (some ⟨g, 0, none⟩) (m + 1) c ∧ m + 1 ≤ c ∧ B ≤ g ∧ KidsAt w1.heap.size w1 g 0 ks := by
  have hl : (ptrs ks).length = m + 1 := by simp [ptrs, hm]
  rw [hl] at hown
  obtain ⟨g, c, rfl⟩ := ownsRow_succ hown
  have hlt := hown.lt g rfl
  have hc : m + 1 ≤ c := by
    rcases hown.2 with ⟨h, _⟩ | ⟨g', c', cur, h, _, _, hle, _⟩
    · cases h
    · cases h; exact hle
  refine ⟨g, c, rfl, hc, hlt.1, hlt.2, fun i q x e => ⟨?_, Nat.lt_of_lt_of_le (hk i q x e).1 hw.size, (hk i q x e).2.below hw (hk i q x e).1⟩⟩
  have hi : i < ks.length := (List.getElem?_eq_some_iff.1 e).1
  rw [Nat.zero_add, hown.cellAt i (by omega)]
  simp [ptrs, e]

theorem parts2 {W : World} {sb kb ko cap ql N : Nat} {ks : Kids} (hsb : sb < W.heap.size) (c0 : W.cell? ⟨sb, 0, none⟩ = some (.slice (some ⟨kb, ko, none⟩) ks.length cap)) (c1 : W.cell? ⟨sb, 1, none⟩ = some (.slice (some ⟨N, 0, none⟩) 1 1))
    (hkb : kb < W.heap.size) (hN : N < W.heap.size) (hk : ∀ (i : Nat) q x, ks[i]? = some (q, x) → W.cell? ⟨kb, ko + i, none⟩ = some (.pointer (some ⟨q, 0, none⟩))) (cn : W.cell? ⟨N, 0, none⟩ = some (.pointer (some ⟨ql, 0, none⟩))) :
    PartsAt W.heap.size W sb 0 [⟨kb, ko, cap, ptrs ks⟩, ⟨N, 0, 1, [.pointer (some ⟨ql, 0, none⟩)]⟩] := by
  refine ⟨hsb, fun i p e => ?_⟩
  match i, e with
  | 0, e =>
    simp at e
    subst e
    refine ⟨by simpa [ptrs] using c0, hkb, fun j u hj => ?_⟩
    obtain ⟨q, x, hq, rfl⟩ := ptrs_at hj
    exact hk j q x hq
  | 1, e =>
    simp at e
    subst e
    refine ⟨by simpa using c1, hN, fun j u hj => ?_⟩
    match j, hj with
    | 0, hj => simp at hj; subst hj; simpa using cn
    | j + 1, hj => simp at hj
  | i + 2, e => simp at e

theorem oneCell_ptrs (ks : Kids) : ∀ u ∈ ptrs ks, u.oneCell' = true := by
  intro u hu
  simp only [ptrs, List.mem_map] at hu
  obtain ⟨k, _, rfl⟩ := hu
  rfl

end Go.Proofs.YtenaepdmlknlcaaGreatDoor

namespace Go.Proofs.YtenaepdmlknlcaaGreatDoor
open Go.RowKit

/-- The leaf that With makes. -/
abbrev leafObj (x : Bx) (id kd ht col : Int) (v : Value) : Obj := .cells #[.int .i64 x.l, .int .i64 x.t, .int .i64 x.r, .int .i64 x.b, .slice none 0 0, .int .i64 id, .int .i64 kd, .int .i64 ht, .int .i64 col, v] 145

theorem leaf_new (w : World) (f : Feat) (ok : Nat → Prop) (pb po cap : Nat) (hok : ok pb) (hw : ok w.heap.size) (hp : Places w.heap.size w pb po f.ps) (hcap : f.ps.length ≤ cap) :
    LeafAt ok (w.alloc (leafObj (boxZ f.ps) f.id f.kd f.ht f.col (.slice (some ⟨pb, po, none⟩) f.ps.length cap))) w.heap.size ⟨f, pb, po, cap⟩ := by
  refine ⟨hw, ⟨?_, ?_, ?_, ?_⟩, ?_, ?_, ?_, ?_, ?_, ?_, hok, hcap, (hp.below ((Below.refl _ _).alloc (Nat.le_refl _) _)).2⟩ <;> simp [go_sem]

/-- What was ok, and all that is new. -/
def okN (ok : Nat → Prop) (n m : Nat) (b : Nat) : Prop := ok b ∨ (n ≤ b ∧ b < m)

theorem same_set {ok : Nat → Prop} (w : World) (R o : Nat) (v : Value) (h : ¬ ok R) : Same ok w (w.setCell ⟨R, o, none⟩ v) := fun b o' u hb e =>
  (World.cell?_setCell_far w ⟨R, o, none⟩ ⟨b, o', none⟩ v (fun e => h (by rw [show R = b from e]; exact hb))).trans e

set_option maxRecDepth 100000 in
set_option maxHeartbeats 2000000 in
theorem With_nil (ok : Nat → Prop) (f : Feat) (bl off n cap : Nat) (w : World) (hok : ∀ b, ok b → b < w.heap.size) (hobl : ok bl) (hp : Places w.heap.size w bl off f.ps) (hn : n = f.ps.length) (hn1 : 1 ≤ n) (hn2 : n ≤ 6) (hcap : n ≤ cap) :
    Calls Tryz.prog 31 #[.agg #[.pointer none], .agg #[.int .i64 f.id, .int .i64 f.kd, .int .i64 f.ht, .int .i64 f.col, .slice (some ⟨bl, off, none⟩) n cap]] w fun e w' => ∃ q x, e = .returned (.agg #[.pointer (some ⟨q, 0, none⟩)]) ∧ IsT (okN ok w.heap.size w'.heap.size) w' 1 q [⟨f, bl, off, cap⟩] x ∧ Below w.heap.size w w' := by
  have Hp : Hid (Places w.heap.size w bl off f.ps) := hp
  have Hn : Hid (n = f.ps.length) := hn
  have hbl := hp.1
  have Hok : Hid (∀ b, ok b → b < w.heap.size) := hok
  have Hobl : Hid (ok bl) := hobl
  clear hp hn hok hobl
  obtain ⟨id, kd, ht, col, ps⟩ := f
  dsimp only at Hp Hn ⊢
  have hB : ∀ o1 o2 o3 : Obj, Below w.heap.size w (((w.alloc o1).alloc o2).alloc o3) := fun o1 o2 o3 => (((Below.refl _ _).alloc (Nat.le_refl _) _).alloc (by simp) _).alloc (by simp; omega) _
  go_enter Tryz.func31, Tryz.ntmps31
  go_upto_region 1 with fail
  go_cut [5] (fun v wc => ∃ q, v = .pointer (some ⟨q, 0, none⟩) ∧ q < wc.heap.size ∧ LeafAt (okN ok (w.heap.size + 3) wc.heap.size) wc q ⟨⟨id, kd, ht, col, ps⟩, bl, off, cap⟩ ∧ wc.cell? ⟨w.heap.size, 0, none⟩ = some (.pointer none) ∧ wc.cell? ⟨w.heap.size + 1 + 1, 0, none⟩ = some (.pointer none) ∧ wc.frozen? ⟨w.heap.size + 1 + 1, 0, none⟩ = false ∧ Below w.heap.size w wc ∧ w.heap.size + 3 ≤ wc.heap.size)
  case first =>
    go_region_held3 (fun w' => w'.cell? ⟨w.heap.size + 1, 0, none⟩ = some (.int .i64 id) ∧ w'.cell? ⟨w.heap.size + 1, 1, none⟩ = some (.int .i64 kd) ∧ w'.cell? ⟨w.heap.size + 1, 2, none⟩ = some (.int .i64 ht) ∧ w'.cell? ⟨w.heap.size + 1, 3, none⟩ = some (.int .i64 col) ∧ w'.cell? ⟨w.heap.size + 1, 4, none⟩ = some (.slice (some ⟨bl, off, none⟩) n cap)) (first | (simp [go_sem, *]; done) | exact s2)
      (first
      | (go_at_call 53; refine (BoxOf_any bl off n cap ps _ ((Hp.out.below (hB _ _ _).drew).mono (by simp; omega)) Hn.out hn1 (by omega) hcap).mono ?_; rintro e w2 ⟨rfl, hb2⟩; obtain ⟨hc2, hf2⟩ := bcell hb2; have s2 := And.intro ((hc2 (w.heap.size + 1) 0 (by simp <;> omega)).trans (show _ = some (Value.int .i64 id) from (by simp [go_sem]))) (And.intro ((hc2 (w.heap.size + 1) 1 (by simp <;> omega)).trans (show _ = some (Value.int .i64 kd) from (by simp [go_sem]))) (And.intro ((hc2 (w.heap.size + 1) 2 (by simp <;> omega)).trans (show _ = some (Value.int .i64 ht) from (by simp [go_sem]))) (And.intro ((hc2 (w.heap.size + 1) 3 (by simp <;> omega)).trans (show _ = some (Value.int .i64 col) from (by simp [go_sem]))) ((hc2 (w.heap.size + 1) 4 (by simp <;> omega)).trans (show _ = some (Value.slice (some ⟨bl, off, none⟩) n cap) from (by simp [go_sem])))))); have r0 : w2.cell? ⟨w.heap.size, 0, none⟩ = some (Value.pointer none) := (hc2 w.heap.size 0 (by simp <;> omega)).trans (by simp [go_sem]); have r1 : w2.cell? ⟨w.heap.size + 1 + 1, 0, none⟩ = some (Value.pointer none) := (hc2 (w.heap.size + 1 + 1) 0 (by simp <;> omega)).trans (by simp [go_sem]); have r2 : w2.frozen? ⟨w.heap.size + 1 + 1, 0, none⟩ = false := (hf2 (w.heap.size + 1 + 1) 0 (by simp <;> omega)).trans (by simp [go_sem]); have hz2 : w.heap.size + 3 ≤ w2.heap.size := (by have := hb2.size; simp at this; omega); have hz3 : w.heap.size + 1 < w2.heap.size := (by omega); have hB2 : Below w.heap.size w w2 := (hB _ _ _).drew.trans (hb2.mono (by simp <;> omega)); clear hc2 hf2 hb2))
    all_goals
      go_wp2_with fail
      go_meet
      have hA : ∀ o : Obj, Below w2.heap.size w2 (w2.alloc o) := fun o => (Below.refl _ _).alloc (Nat.le_refl _) o
      refine ⟨w2.heap.size, rfl, by simp, ?_, ((hA _).cell (p := ⟨w.heap.size, 0, none⟩) (show w.heap.size < w2.heap.size by omega)).trans r0, ((hA _).cell (p := ⟨w.heap.size + 1 + 1, 0, none⟩) (show w.heap.size + 1 + 1 < w2.heap.size by omega)).trans r1, ((hA _).frozen (p := ⟨w.heap.size + 1 + 1, 0, none⟩) (show w.heap.size + 1 + 1 < w2.heap.size by omega)).trans r2, hB2.alloc (by omega) _, by simp; omega⟩
      have h := leaf_new w2 ⟨id, kd, ht, col, ps⟩ (okN ok (w.heap.size + 3) (w2.heap.size + 1)) bl off cap (.inl Hobl.out) (.inr ⟨by omega, by omega⟩) ((Hp.out.below hB2).mono (by omega)) (by rw [← Hn.out]; exact hcap)
      rw [World.size_alloc, Hn.out]
      exact h
  case rest =>
    obtain ⟨q, rfl, hq, hleaf, r0, r1, r2, hB1, hz1⟩ := hcut
    have Hleaf : Hid (LeafAt (okN ok (w.heap.size + 3) wc.heap.size) wc q ⟨⟨id, kd, ht, col, ps⟩, bl, off, cap⟩) := hleaf
    clear hleaf
    have hA : ∀ o : Obj, Below wc.heap.size wc (wc.alloc o) := fun o => (Below.refl _ _).alloc (Nat.le_refl _) o
    have Hbox : Hid (C4 wc q (boxZ ps)) := Hleaf.out.box
    have hkid : ∀ o : Obj, o = .cells #[.pointer (some ⟨q, 0, none⟩)] 87 → KidsAt (wc.alloc o).heap.size (wc.alloc o) wc.heap.size 0 [(q, boxZ ps)] := by
      rintro o rfl
      refine ⟨by simp, fun i p y e => ?_⟩
      match i, e with
      | 0, e =>
        simp at e
        obtain ⟨rfl, rfl⟩ := e
        exact ⟨by simp [go_sem], by simp; omega, Hbox.out.below (hA _) hq⟩
      | i + 1, e => simp at e
    have hz4 : w.heap.size + 1 + 1 < wc.heap.size := by omega
    go_wp2_with (go_at_call 54; refine (over_any wc.heap.size 0 1 1 [(q, boxZ ps)] _ (hkid _ rfl) rfl (by omega) (by omega) (by omega)).mono ?_; rintro e w3 ⟨p, rfl, hp1, hp2, hcp, hp4, hb3⟩; have t1 : w3.cell? ⟨w.heap.size + 1 + 1, 0, none⟩ = some (.pointer none) := (hb3.cell (p := ⟨w.heap.size + 1 + 1, 0, none⟩) (by simp; omega)).trans (((hA _).cell (p := ⟨w.heap.size + 1 + 1, 0, none⟩) hz4).trans r1); have t2 : w3.frozen? ⟨w.heap.size + 1 + 1, 0, none⟩ = false := (hb3.frozen (p := ⟨w.heap.size + 1 + 1, 0, none⟩) (by simp; omega)).trans (((hA _).frozen (p := ⟨w.heap.size + 1 + 1, 0, none⟩) hz4).trans r2))
    have hS : Below w.heap.size w3 (w3.setCell ⟨w.heap.size + 1 + 1, 0, none⟩ (.pointer (some ⟨p, 0, none⟩))) := (Below.refl _ _).setCell (p := ⟨w.heap.size + 1 + 1, 0, none⟩) (show w.heap.size ≤ w.heap.size + 1 + 1 by omega) _
    refine bodyPost_ret (v := .agg #[.pointer (some ⟨p, 0, none⟩)]) (by simp [results, Tryz.results31, go_sem, t1]) rfl ⟨p, joinK [(q, boxZ ps)], rfl, ?_, (hB1.trans ((hA _).mono (by omega))).trans ((hb3.mono (by simp; omega)).trans hS)⟩
    have hkO : KidsO (okN ok (w.heap.size + 3) w3.heap.size) w3 wc.heap.size 0 [(q, boxZ ps)] := by
      have h1 := (hkid _ rfl).below hb3
      have hsz := hb3.size
      simp at hsz
      refine ⟨.inr ⟨by omega, by omega⟩, fun i p' y e => ?_⟩
      have h2 := h1.2 i p' y e
      refine ⟨h2.1, ?_, h2.2.2⟩
      match i, e with
      | 0, e =>
        simp at e
        obtain ⟨rfl, rfl⟩ := e
        exact Hleaf.out.lt.elim .inl fun h => .inr ⟨h.1, by omega⟩
      | i + 1, e => simp at e
    have hsz := hb3.size
    simp at hsz
    have hl3 : LeafAt (okN ok (w.heap.size + 3) w3.heap.size) w3 q ⟨⟨id, kd, ht, col, ps⟩, bl, off, cap⟩ := (Hleaf.out.same (Same.of_below (((hA _).mono (Nat.le_refl _)).trans (hb3.mono (by simp))) (fun b hb => hb.elim (fun h => Nat.lt_of_lt_of_le (Hok.out b h) (by omega)) (fun h => h.2)))).mono (fun b hb => hb.elim .inl fun h => .inr ⟨h.1, by omega⟩)
    have hT : IsT (okN ok (w.heap.size + 3) w3.heap.size) w3 1 p [⟨⟨id, kd, ht, col, ps⟩, bl, off, cap⟩] (joinK [(q, boxZ ps)]) :=
      ⟨.inr ⟨by simp at hp1; omega, hp2⟩, hcp, wc.heap.size, 0, 1, [(q, boxZ ps)], [[⟨⟨id, kd, ht, col, ps⟩, bl, off, cap⟩]], hp4, by simp, by simp, by simp, hkO, rfl, fun i p' y t e e' => (by
        match i, e, e' with
        | 0, e, e' =>
          simp at e e'
          obtain ⟨rfl, rfl⟩ := e
          exact ⟨_, e'.symm, rfl, hl3⟩
        | i + 1, e, _ => simp at e), rfl, rfl⟩
    exact (hT.same (same_set w3 (w.heap.size + 1 + 1) 0 _ (fun h => h.elim (fun h => by have := Hok.out _ h; omega) (fun h => by omega)))).mono (fun b hb => hb.elim .inl fun h => .inr ⟨by omega, Nat.lt_of_lt_of_le h.2 (by simp)⟩)

end Go.Proofs.YtenaepdmlknlcaaGreatDoor

namespace Go.Proofs.YtenaepdmlknlcaaGreatDoor
open Go.RowKit

end Go.Proofs.YtenaepdmlknlcaaGreatDoor
