import Derived.Test.YtcgpdfefnmhnhaaDoorJ
import Derived.Lib.AppendZeros
import Derived.RangeFuncBox
namespace Go.Proofs.YtcgpdfefnmhnhaaDoor
open Go.RowKit

theorem info39 : (Tryd.prog.info? 39).map (fun i => (i.zero, i.size, i.bytes)) = some (some (.pointer none), 1, 8) := by kernel_rfl

theorem zeroCells_size (v : Value) (h : v.cells = #[v]) (n : Nat) : (Builtin.zeroCells v.cells n).size = n := by
  rw [h]
  simp [Builtin.zeroCells]

set_option maxRecDepth 100000 in
set_option maxHeartbeats 2000000 in
theorem Grow_nil (n : Nat) (w : World) (hn1 : 1 ≤ n) (hn2 : n ≤ 1000) :
    Calls Tryd.prog 45 #[.slice none 0 0, .int .i64 n] w fun e w' => ∃ v : Value, e = .returned v ∧ w'.ownsRow w.heap.size 39 1 v 0 [] ∧ (∃ cap, v = .slice (some ⟨w.heap.size, 0, none⟩) 0 cap) ∧ Below w.heap.size w w' ∧ w.heap.size < w'.heap.size := by
  obtain ⟨i0, hi, hz0, hz1, hz2⟩ := info_parts info39
  have hrz : ∀ ty, (Builtin.append_ #[50, 3] ty #[.slice none 0 0, .int .i64 n]).run Tryd.prog w = _ := fun ty =>
    Lib.run_append_nil_zeros w 50 3 ty 39 i0 (.pointer none) .i64 .i64 Tryd.underlying50 Tryd.underlying3 hi hz0 n (by omega) (by omega) (by omega) (by rw [hz2]; omega)
  have hGn : n ≤ grownCap w n 0 39 := grownCap_ge w _ _ _
  have hG63 := grownCap_le_maxLen w n 0 39 (by unfold maxLen; omega)
  obtain ⟨G, hG⟩ : ∃ G, grownCap w n 0 39 = G := ⟨_, rfl⟩
  rw [hG] at hrz hGn hG63
  clear hG
  have HO' : Hid (((w.alloc (.cells (Builtin.zeroCells #[Value.pointer none] n ++ Builtin.zeroCells #[Value.pointer none] (G - n)) 39)).drew).ownsRow w.heap.size 39 1 (.slice (some ⟨w.heap.size, 0, none⟩) 0 G) 0 []) :=
    World.ownsRow_made (base := w.heap.size) (e := 39) (size := 1) w.drew (Builtin.zeroCells (Value.pointer none).cells n ++ Builtin.zeroCells (Value.pointer none).cells (G - n)) G (Nat.le_refl _) hG63 (by rw [Array.size_append, zeroCells_size _ rfl, zeroCells_size _ rfl]; omega)
  unfold maxLen at hG63
  have hnn : ¬ ((n : Int) < 0) := by omega
  have hnp : 0 < (n : Int) := by omega
  go_enter Tryd.func45, Tryd.ntmps45
  go_wp2_with (at_builtin; refine Lib.wpList_append_run _ rfl _ _ _ _ rfl _ _ rfl rfl _ _ (hrz _) ?_)
  all_goals
    go_ret
    exact ⟨.slice (some ⟨w.heap.size, 0, none⟩) 0 G, rfl, HO'.out, ⟨_, rfl⟩, (Below.refl _ _).drew.alloc (by simp) _, by simp⟩


theorem addr_add (b off j : Nat) : (⟨b, off, none⟩ : Addr).add j = ⟨b, off + j, none⟩ := by
  unfold Addr.add
  split
  · simp [*]
  · rfl

/-- A part of a concatenation: a slice's block, offset and capacity, and what it holds. -/
structure Part where
  b : Nat
  off : Nat
  cap : Nat
  vs : List Value
def PartsAt (n0 : Nat) (w : World) (sb so : Nat) (ps : List Part) : Prop :=
  sb < n0 ∧ ∀ i p, ps[i]? = some p → w.cell? ⟨sb, so + i, none⟩ = some (.slice (some ⟨p.b, p.off, none⟩) p.vs.length p.cap) ∧ p.b < n0 ∧ ∀ j u, p.vs[j]? = some u → w.cell? ⟨p.b, p.off + j, none⟩ = some u
theorem PartsAt.below {n0 : Nat} {A B : World} (h : Below n0 A B) {sb so : Nat} {ps : List Part} (k : PartsAt n0 A sb so ps) : PartsAt n0 B sb so ps :=
  ⟨k.1, fun i p e => ⟨(h.cell (p := ⟨sb, so + i, none⟩) k.1).trans (k.2 i p e).1, (k.2 i p e).2.1, fun j u hj => (h.cell (p := ⟨p.b, p.off + j, none⟩) (k.2 i p e).2.1).trans ((k.2 i p e).2.2 j u hj)⟩⟩
def catTo (ps : List Part) (k : Nat) : List Value := (ps.take k).flatMap (·.vs)
theorem catTo_succ {ps : List Part} {k : Nat} {p : Part} (h : ps[k]? = some p) : catTo ps (k + 1) = catTo ps k ++ p.vs := by
  rw [catTo, List.take_add_one, h]; simp [catTo]
theorem catTo_le (ps : List Part) (k : Nat) : (catTo ps k).length ≤ (catTo ps ps.length).length := by
  rw [catTo, catTo, List.take_length, List.length_flatMap, List.length_flatMap]
  have h := List.take_append_drop k ps
  calc ((ps.take k).map fun a => a.vs.length).sum ≤ ((ps.take k).map fun a => a.vs.length).sum + ((ps.drop k).map fun a => a.vs.length).sum := Nat.le_add_right _ _
    _ = (ps.map fun a => a.vs.length).sum := by rw [← List.sum_append_nat, ← List.map_append, h]

set_option maxRecDepth 100000 in
set_option maxHeartbeats 2000000 in
theorem Concat_any (sb so n scap : Nat) (ps : List Part) (w : World) (hp : PartsAt w.heap.size w sb so ps) (hn : n = ps.length) (hn2 : n ≤ 1000) (ht1 : 1 ≤ (catTo ps ps.length).length) (ht2 : (catTo ps ps.length).length ≤ 1000) (hone : ∀ u ∈ catTo ps ps.length, u.oneCell' = true) :
    Calls Tryd.prog 28 #[.slice (some ⟨sb, so, none⟩) n scap] w fun e w' => ∃ v : Value, e = .returned v ∧ w'.ownsRow w.heap.size 39 1 v (catTo ps ps.length).length (catTo ps ps.length) ∧ Below w.heap.size w w' := by
  have Hn : Hid (n = ps.length) := hn
  have Hp : Hid (PartsAt w.heap.size w sb so ps) := hp
  have hsb := hp.1
  have Hone : Hid (∀ u ∈ catTo ps ps.length, u.oneCell' = true) := hone
  clear hn hp hone
  go_enter Tryd.func28, Tryd.ntmps28
  go_wp2
  go_loop [3, 11] (fun sz i => ∃ k : Nat, k ≤ n ∧ i = .int .i64 k ∧ sz = .int .i64 (catTo ps k).length) (fun _ i => n - (intOf i).toNat)
  case atStart => exact ⟨0, by omega, rfl, rfl⟩
  case round =>
    obtain ⟨k, hk, rfl, rfl⟩ := hrel
    have hle := catTo_le ps k
    by_cases hlt : k < n
    · have hlt' : k < ps.length := by have := Hn.out; omega
      obtain ⟨hc, _, _⟩ := Hp.out.2 k ps[k] (List.getElem?_eq_getElem hlt')
      have hle2 := catTo_le ps (k + 1)
      rw [catTo_succ (List.getElem?_eq_getElem hlt'), List.length_append] at hle2
      have HC : Hid ((catTo ps (k + 1)).length = (catTo ps k).length + ps[k].vs.length) := by show (catTo ps (k + 1)).length = _; rw [catTo_succ (List.getElem?_eq_getElem hlt'), List.length_append]
      generalize ps[k] = p at *
      generalize hT : (catTo ps ps.length).length = T at *
      clear hT
      generalize hC : (catTo ps k).length = C at *
      clear hC
      have hpos : ¬ ((C : Int) + (p.vs.length : Int) < 0) := by omega
      go_wp2
      go_round
      case rel => exact ⟨k + 1, by omega, by go_num, by rw [HC.out]; go_num⟩
      case measure => simp [intOf]; omega
    · obtain rfl : k = n := by omega
      have HT : Hid ((catTo ps k).length = (catTo ps ps.length).length) := by show (catTo ps k).length = _; rw [Hn.out]
      rw [HT.out]
      generalize hT : (catTo ps ps.length).length = T at *
      have HTT : Hid ((catTo ps ps.length).length = T) := hT
      clear hT
      go_wp2_with (go_at_call 45; refine (Grow_nil T _ ht1 ht2).mono ?_; rintro e w1 ⟨v, rfl, hown, ⟨cap0, rfl⟩, hB1, hs1⟩)
      have Hown : Hid (w1.ownsRow w.heap.size 39 1 (.slice (some ⟨w.heap.size, 0, none⟩) 0 cap0) 0 []) := hown
      clear hown
      obtain ⟨i0, hi, hz0, hz1, hz2⟩ := info_parts info39
      have HI : Hid (Tryd.prog.info? 39 = some i0 ∧ i0.zero = some (.pointer none) ∧ i0.size = 1 ∧ i0.bytes = 8) := ⟨hi, hz0, hz1, hz2⟩
      clear hi hz0 hz1 hz2
      go_loopw [6, 27] (fun v i wr => ∃ j : Nat, j ≤ k ∧ i = .int .i64 j ∧ wr.ownsRow w.heap.size 39 1 v (catTo ps j).length (catTo ps j) ∧ Below w.heap.size w wr) (fun _ i _ => k - (intOf i).toNat)
      case atStart => exact ⟨0, by omega, rfl, Hown.out, hB1⟩
      case round =>
        obtain ⟨j, hj, rfl, hown, hB⟩ := hrel
        have Hown2 : Hid (wr.ownsRow w.heap.size 39 1 u6 (catTo ps j).length (catTo ps j)) := hown
        clear hown
        by_cases hlt : j < k
        · have hlt' : j < ps.length := by have := Hn.out; omega
          obtain ⟨hc, hb0, hcs⟩ := (Hp.out.below hB).2 j ps[j] (List.getElem?_eq_getElem hlt')
          have HC : Hid (catTo ps (j + 1) = catTo ps j ++ ps[j].vs) := catTo_succ (List.getElem?_eq_getElem hlt')
          have hle2 := catTo_le ps (j + 1)
          rw [HC.out, List.length_append, HTT.out] at hle2
          have Hm : Hid (∀ u ∈ ps[j].vs, u.oneCell' = true) := fun u hu => Hone.out u (by
            rw [catTo, List.take_length, List.mem_flatMap]
            exact ⟨ps[j], List.getElem_mem hlt', hu⟩)
          generalize ps[j] = p at *
          have Hcs : Hid (∀ j u, p.vs[j]? = some u → wr.cell? ((⟨p.b, p.off, none⟩ : Addr).add j) = some u) := fun j u h => (by rw [addr_add]; exact hcs j u h)
          clear hcs
          go_wp2_with (at_builtin; refine wpList_append_own _ rfl _ _ 50 rfl w.heap.size 39 i0 (.pointer none) 1 8 Tryd.underlying50 HI.out.1 HI.out.2.1 HI.out.2.2.1 HI.out.2.2.2 rfl (by decide) _ _ _ rfl Hown2.out ⟨p.b, p.off, none⟩ p.vs.length p.cap p.vs rfl (by simp) Hcs.out Hm.out (by unfold maxLen; omega) (by omega) hB.size ?_; intro v' w2 hown' hgrow _; have Hown' : Hid (w2.ownsRow w.heap.size 39 1 v' ((catTo ps j).length + p.vs.length) (catTo ps j ++ p.vs)) := hown'; clear hown')
          go_roundw
          case rel =>
            refine ⟨j + 1, by omega, by go_num, ?_, hB.grown hgrow hB.size (fun k hk => (Hown2.out.lt k hk).1)⟩
            rw [HC.out, List.length_append]
            exact Hown'.out
          case measure => simp [intOf]; omega
        · have HF : Hid (catTo ps j = catTo ps ps.length) := by show catTo ps j = _; rw [show j = ps.length from by have := Hn.out; omega]
          go_wp2
          go_ret
          refine ⟨_, rfl, ?_, hB⟩
          rw [← HTT.out, ← HF.out]
          exact Hown2.out

end Go.Proofs.YtcgpdfefnmhnhaaDoor
