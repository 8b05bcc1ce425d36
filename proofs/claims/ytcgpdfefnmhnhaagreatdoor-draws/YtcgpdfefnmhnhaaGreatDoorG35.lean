import Derived.Test.YtcgpdfefnmhnhaaGreatDoorG34
namespace Go.Proofs.YtcgpdfefnmhnhaaGreatDoor
open Go.ChangeShapes Go.WideShapes Go.RowKit Go.Deep

theorem bytes29 : Tryz.prog.bytesOf 29 = 16 := by kernel_rfl
theorem bytes32 : Tryz.prog.bytesOf 32 = 56 := by kernel_rfl

section
variable {H : Type} {enc : TypeId × Value → H} {W : World}

theorem weights_mem {P : Program} {e : TypeId} {d : DataW H} {y : Nat} : ∀ {l : List (DataW H)}, d ∈ l → y ∈ d.weights P e → y ∈ DataW.weightsAll P e l
  | [], h, _ => by cases h
  | c :: r, h, hy => by
    rw [List.mem_cons] at h
    simp only [DataW.weightsAll, List.mem_append]
    rcases h with rfl | h
    · exact .inl hy
    · exact .inr (weights_mem h hy)

/-- The places of a feature, as they are read. -/
theorem openW_places {fuel : Nat} {v : Value} {x : DataW H × List MemPlace} (h : DataW.trod enc Tryz.prog W 0 (fun _ => true) true fuel 30 [v] = some x) (hw : ∀ y ∈ x.1.weights Tryz.prog 30, y ≤ reachBytes) :
    ∃ (a : Option Addr) (cap : Nat) (ps : Pts), v = .slice a ps.length cap ∧ ps.length ≤ cap ∧ PtsAt W.heap.size W a ps ∧ ps.length ≤ 8800000000000 := by
  rcases open_slice_pairs Tryz.underlying30 Tryz.underlying29 cells29 rfl rfl cells3 cells3 h with ⟨hcs, hx⟩ | ⟨a, len, cap, m, n, V0, V1, D0, D1, P0, P1, hcs, _, hl, _, hmm, hx, hall⟩
  · simp only [List.cons.injEq, and_true] at hcs
    exact ⟨none, 0, [], hcs, by simp, .inl rfl, by simp⟩
  · simp only [List.cons.injEq, and_true] at hcs
    simp only [if_true] at hmm
    obtain ⟨q, hq⟩ := choose_lt (α := Int × Int) (n := len) (p := fun i q => W.cell? (a.add (i * 2)) = some (.int .i64 q.1) ∧ W.cell? (a.add (i * 2 + 1)) = some (.int .i64 q.2)) (fun i hi => by
      obtain ⟨c0, c1, h0, h1⟩ := hall i (by omega)
      obtain ⟨z0, e0, _⟩ := DataW.trod_int Tryz.underlying3 h0
      obtain ⟨z1, e1, _⟩ := DataW.trod_int Tryz.underlying3 h1
      simp only [List.cons.injEq, and_true] at e0 e1
      exact ⟨(z0, z1), by rw [c0, e0], by rw [c1, e1]⟩)
    have hlen : ((List.range len).map q).length = len := by simp
    refine ⟨some a, cap, (List.range len).map q, by rw [hlen]; exact hcs, by omega, ?_, ?_⟩
    · by_cases h0 : len = 0
      · subst h0; exact .inl rfl
      · have c0 := (hq 0 (by omega)).1
        simp only [Nat.zero_mul] at c0
        have ea : a = ⟨a.block, a.off, none⟩ := addr_none (by simpa [Addr.add] using c0)
        generalize a.block = b at ea
        generalize a.off = o at ea
        subst ea
        rw [add_none] at c0
        refine .inr ⟨b, o, rfl, cell_lt c0, fun k x y e => ?_⟩
        rw [List.getElem?_map, Option.map_eq_some_iff] at e
        obtain ⟨i, hi, e⟩ := e
        have hk : k < len := by
          have := List.getElem?_eq_some_iff.1 hi
          simpa using this.1
        obtain rfl : k = i := by rw [List.getElem?_range hk] at hi; exact Option.some.inj hi
        have := hq k hk
        rw [e, add_none, add_none, ← Nat.add_assoc] at this
        exact this
    · rw [hlen]
      have := hw (((List.range len).map fun i => DataW.agg [D0 i, D1 i]).length * 16 + ((List.range (m - len)).map fun j => DataW.agg [D0 (len + j), D1 (len + j)]).length * 16) (by
        rw [hx]
        simp only [DataW.weights, Tryz.underlying30, bytes29, Nat.add_mul]
        exact List.mem_cons_self)
      simp only [List.length_map, List.length_range, reachBytes] at this
      omega

set_option maxRecDepth 100000 in
/-- A list of features, as it is read. -/
theorem openW_feats {v : Value} {d : DataW H} {p : List MemPlace} {r : Reach} {b0 : Nat} (hv : Value.okWide Tryz.prog W r b0 22 v) (h : DataW.Trod enc Tryz.prog W 0 (fun _ => true) true 22 v d p) (hw : ∀ y ∈ d.weights Tryz.prog 22, y ≤ reachBytes) :
    ∃ (a : Option Addr) (cap : Nat) (gs : List FG), v = .slice a gs.length cap ∧ FeatsGO W a gs ∧ gs.length ≤ 2600000000000 ∧ ∀ g ∈ gs, g.f.ps.length ≤ 8800000000000 := by
  obtain ⟨a, len, cap, rfl⟩ := okWide_slice Tryz.underlying22 hv
  obtain ⟨fuel, h⟩ := h
  rcases open_slice Tryz.underlying22 h with ⟨hcs, hx⟩ | ⟨a', len', cap', m, n, D, Pl, hcs, _, hl, _, hmm, hx, hall⟩
  · simp only [Value.cells, List.cons.injEq, and_true, Value.slice.injEq] at hcs
    obtain ⟨rfl, rfl, rfl⟩ := hcs
    exact ⟨none, 0, [], rfl, .inl rfl, by simp, fun g hg => by cases hg⟩
  · simp only [Value.cells, List.cons.injEq, and_true, Value.slice.injEq] at hcs
    obtain ⟨rfl, rfl, rfl⟩ := hcs
    simp only [if_true] at hmm
    simp only [Prod.mk.injEq] at hx
    obtain ⟨rfl, _⟩ := hx
    simp only [DataW.weights, Tryz.underlying22, bytes32] at hw
    have hdl := hw _ List.mem_cons_self
    simp only [List.length_map, List.length_range, reachBytes] at hdl
    have hwi : ∀ i, i < len → ∀ y ∈ (D i).weights Tryz.prog 32, y ≤ reachBytes := fun i hi y hy =>
      hw y (List.mem_cons_of_mem _ (List.mem_append_left _ (weights_mem (List.mem_map.2 ⟨i, by simpa using hi, rfl⟩) hy)))
    obtain ⟨q, hq⟩ := choose_lt (α := FG) (n := len) (p := fun i g => W.cells? 0 (a'.add (i * 5)) 5 = some [.int .i64 g.f.id, .int .i64 g.f.kd, .int .i64 g.f.ht, .int .i64 g.f.col, .slice g.a g.f.ps.length g.cap] ∧ PtsAt W.heap.size W g.a g.f.ps ∧ g.f.ps.length ≤ g.cap ∧ g.f.ps.length ≤ 8800000000000) (fun i hi => by
      obtain ⟨cs', h1, h2⟩ := hall i (by omega)
      rw [cells32] at h1
      obtain ⟨_, hlen, _⟩ := World.cells?_some h1
      obtain ⟨xs, k, _, hxy, _, hxl, hf⟩ := DataW.trod_struct Tryz.underlying32 h2
      match xs, hxl, cs', hlen with
      | [y0, y1, y2, y3, y4], _, [v0, v1, v2, v3, v4], _ =>
        have g0 := hf 0 _ rfl
        have g1 := hf 1 _ rfl
        have g2 := hf 2 _ rfl
        have g3 := hf 3 _ rfl
        have g4 := hf 4 _ rfl
        simp [cells3, cells30] at g0 g1 g2 g3 g4
        obtain ⟨z0, e0, _⟩ := DataW.trod_int Tryz.underlying3 g0
        obtain ⟨z1, e1, _⟩ := DataW.trod_int Tryz.underlying3 g1
        obtain ⟨z2, e2, _⟩ := DataW.trod_int Tryz.underlying3 g2
        obtain ⟨z3, e3, _⟩ := DataW.trod_int Tryz.underlying3 g3
        simp only [Prod.mk.injEq] at hxy
        have hwp : ∀ y ∈ y4.1.weights Tryz.prog 30, y ≤ reachBytes := fun y hy => hwi i hi y (by
          rw [hxy.1]
          simp only [List.map_cons, List.map_nil, DataW.weights, Tryz.underlying32, DataW.weightsEach, List.mem_append]
          exact .inr (.inr (.inr (.inr (.inl hy)))))
        obtain ⟨pa, pc, ps, e4, hpc, hP, hb⟩ := openW_places g4 hwp
        simp only [List.cons.injEq, and_true] at e0 e1 e2 e3
        subst e0 e1 e2 e3 e4
        exact ⟨⟨⟨z0, z1, z2, z3, ps⟩, pa, pc⟩, h1, hP, hpc, hb⟩)
    have hlen : ((List.range len).map q).length = len := by simp
    refine ⟨some a', cap, (List.range len).map q, by rw [hlen], ?_, ?_, ?_⟩
    · by_cases h0 : len = 0
      · subst h0; exact .inl rfl
      · obtain ⟨c0, _⟩ := hq 0 (by omega)
        have hz := (World.cells?_some c0).2.2 0 (by omega)
        simp only [Nat.zero_mul, List.getElem?_cons_zero] at hz
        have ea : a' = ⟨a'.block, a'.off, none⟩ := addr_none (by simpa [Addr.add] using hz)
        generalize a'.block = b at ea
        generalize a'.off = o at ea
        subst ea
        rw [add_none, add_none] at hz
        refine .inr ⟨b, o, rfl, cell_lt hz, fun i g e => ?_⟩
        rw [List.getElem?_map, Option.map_eq_some_iff] at e
        obtain ⟨j, hj, e⟩ := e
        have hk : i < len := by
          have := List.getElem?_eq_some_iff.1 hj
          simpa using this.1
        obtain rfl : i = j := by rw [List.getElem?_range hk] at hj; exact Option.some.inj hj
        obtain ⟨hc, hP, hcap, hb⟩ := hq i hk
        rw [e] at hc hP hcap hb
        rw [add_none] at hc
        obtain ⟨_, _, hc⟩ := World.cells?_some hc
        have k0 := hc 0 (by omega)
        have k1 := hc 1 (by omega)
        have k2 := hc 2 (by omega)
        have k3 := hc 3 (by omega)
        have k4 := hc 4 (by omega)
        rw [add_none] at k0 k1 k2 k3 k4
        exact ⟨by simpa using k0, by simpa using k1, by simpa using k2, by simpa using k3, by simpa using k4, hP, hcap, by omega⟩
    · rw [hlen]
      omega
    · intro g hg
      obtain ⟨i, hi, rfl⟩ := List.mem_map.1 hg
      exact (hq i (by simpa using hi)).2.2.2

end
end Go.Proofs.YtcgpdfefnmhnhaaGreatDoor
namespace Go.Proofs.YtcgpdfefnmhnhaaGreatDoor
open Go.ChangeShapes Go.WideShapes Go.ChangeAt Go.RowKit

set_option maxRecDepth 100000 in
theorem contractS (H : Type) (enc : TypeId × Value → H) (W : World) (base : Nat) (args : Array Value) (ds gs : List (DataW H)) (before : List MemPlace)
    (hval : ∀ (j : Nat) t v, Tryz.f3.params[j]? = some t → args[j]? = some v → Value.okWide Tryz.prog W .any base t v)
    (hW : DataW.Whole enc Tryz.prog Tryz.f3.params.toList Rows.drawsSpec.vars false W args.toList ds gs before) (ts : List TypeId) (hwt : (DataW.weightsEach Tryz.prog (Tryz.f3.params.toList ++ ts) (ds ++ gs)).all (· ≤ reachBytes) = true) (hL : laidMetH Tryz.prog Rows.drawsUptoRow.laid W) :
    Calls Tryz.prog 3 args W fun e W' => ∃ v, e = .returned v ∧ Rows.drawsSpec.post enc Tryz.prog Tryz.f3 false true false false W args v W' := by
  have hW' := hW
  have hlt := hW.lt
  obtain ⟨p, q, hA0, hV, rfl, hfz, hnd⟩ := hW
  have hA : DataW.TrodAll enc Tryz.prog W 0 (fun _ => true) true Tryz.f3.params.toList args.toList ds p := hA0
  rw [Tryz.params3] at hA hval hwt
  obtain ⟨v0, v1, v2, v3, d0, d1, d2, d3, p0, p1, p2, p3, rfl, rfl, rfl, h0, h1, h2, h3⟩ := trodAll_four hA
  obtain ⟨rfl, rfl⟩ := trodVars_none hV
  have hb : (∀ y ∈ d0.weights Tryz.prog 22, y ≤ reachBytes) ∧ (∀ y ∈ d2.weights Tryz.prog 22, y ≤ reachBytes) := by
    simp only [List.cons_append, List.nil_append, DataW.weightsEach, List.all_append, Bool.and_eq_true, List.all_eq_true, decide_eq_true_eq] at hwt
    exact ⟨hwt.1, hwt.2.2.1⟩
  obtain ⟨a, cap, l, rfl, hf, hn, hk⟩ := openW_feats (hval 0 22 v0 rfl rfl) h0 hb.1
  obtain ⟨a', cap', l', rfl, hf', hn', hk'⟩ := openW_feats (hval 2 22 v2 rfl rfl) h2 hb.2
  obtain ⟨z, c, r, rfl⟩ := open_tile (hval 1 24 v1 rfl rfl) h1
  obtain ⟨z', c', r', rfl⟩ := open_tile (hval 3 24 v3 rfl rfl) h3
  have ht := cell15 hL
  refine (Draws_any a a' l.length l'.length cap cap' l l' z c r z' c' r' W hf rfl hn hk hf' rfl hn' hk' ht (cell_lt ht)).mono fun e W' ⟨he, hg⟩ => ?_
  subst he
  refine ⟨_, rfl, [d0, d1, d2, d3], [], _, [], p0 ++ (p1 ++ (p2 ++ p3)), [], hW', trodAll_cons_mk (shut_bool Tryz.underlying4 _) trodAll_mk0, ?_, rfl, hg.frame _, fun h => by cases h⟩
  have hl : ∀ x, x ∈ p0 ∨ x ∈ p1 ∨ x ∈ p2 ∨ x ∈ p3 → x.block < W.heap.size := fun x hx => hlt x (by rcases hx with h | h | h | h <;> simp [h])
  rw [Tryz.params3]
  exact trodAll_mk4 (Below.trod laidOut (by kernel_rfl) (of_decide_eq_true (by kernel_rfl)) h0 hg (fun x hx => hl x (.inl hx)))
    (Below.trod laidOut (by kernel_rfl) (of_decide_eq_true (by kernel_rfl)) h1 hg (fun x hx => hl x (.inr (.inl hx))))
    (Below.trod laidOut (by kernel_rfl) (of_decide_eq_true (by kernel_rfl)) h2 hg (fun x hx => hl x (.inr (.inr (.inl hx)))))
    (Below.trod laidOut (by kernel_rfl) (of_decide_eq_true (by kernel_rfl)) h3 hg (fun x hx => hl x (.inr (.inr (.inr hx)))))

set_option maxRecDepth 100000 in
theorem liftedS (os : Os) (started : os.Started) (H : Type) (enc : TypeId × Value → H) (F : Stop.Interp) :
    ReturnsInHanded {} Tryz.checked os 3 .any ((OpenSpec.ofChange Rows.drawsSpec).preRow enc Tryz.prog Tryz.f3 Rows.drawsRow.domain false Rows.drawsRow.laid) (((OpenSpec.ofChange Rows.drawsSpec).at F).post enc Tryz.prog Tryz.f3 false true false false) := by
  obtain ⟨places, hx⟩ := reads os enc
  refine returnsInHanded_of_row (C := Tryz.checked) (s := OpenSpec.ofChange Rows.drawsSpec) own started (by kernel_rfl) Tryz.func3
    (witness_row_at (enc := enc) (C := Tryz.checked) false (laidWorld os) noughts rfl (by kernel_rfl) (by kernel_rfl) (by kernel_rfl)
      (OpenSpec.preRow_of_cond 8 hx (by kernel_rfl) (fun k hk => by cases hk) (by kernel_rfl) (laid_met os))) ?_
  intro W base args ds gs before hval hW _ _ hwt hL _ _
  exact contractS H enc W base args ds gs before hval hW _ hwt hL

theorem saidS : Rows.DrawsSaid :=
  OpenClaim.holds_of_cond 3 Tryz.f3 rfl rfl rfl rfl rfl rfl rfl ⟨rfl, rfl, rfl, rfl, rfl⟩ rfl rfl rfl rfl rfl (by kernel_rfl) Tryz.func3 (by kernel_rfl)
    (of_decide_eq_true (by kernel_rfl)) (by unfold Func.isWrapper; first | (rw [if_pos (by decide +kernel)]; kernel_rfl) | (rw [if_neg (by decide +kernel)]; exact ⟨rfl, rfl⟩))
    (fun os started H enc _ F => by rw [OpenClaim.pre_eq_preRow]; exact liftedS os started H enc F)

theorem draws_card_full : Rows.DrawsCardSaid :=
  Claim7.holds_tied_plain_at .later [] _ _ _ _ saidS (fun _ h => by cases h) (by kernel_rfl) (fun _ h => by cases h) draws_row_tie rfl ⟨rfl, rfl⟩ (by kernel_rfl) rfl plain (by kernel_rfl)
#print axioms draws_card_full

end Go.Proofs.YtcgpdfefnmhnhaaGreatDoor
