import Derived.Test.YtenaepdmlknlcaaGreatDoorF38
import Derived.Test.YtenaepdmlknlcaaGreatDoorF44
namespace Go.Proofs.YtenaepdmlknlcaaGreatDoor
open Go.ChangeShapes Go.WideShapes Go.ChangeAt Go.RowKit Go.Deep

section
variable {H : Type} {enc : TypeId × Value → H} {W : World}
instance : Inhabited Rqv := ⟨⟨⟨0, 0, 0, 0, 0, []⟩, none, 0, 0⟩⟩
set_option maxRecDepth 100000 in
/-- Requests, as they are read. -/
theorem open_reqs {v : Value} {d : DataW H} {p : List MemPlace} {r : Reach} {b0 : Nat} (hv : Value.okWide Tryz.prog W r b0 45 v) (h : DataW.Trod enc Tryz.prog W 0 (fun _ => true) true 45 v d p) :
    ∃ (a : Option Addr) (cap : Nat) (l : List Rqv), v = .slice a l.length cap ∧ ReqsAt W W.heap.size a l ∧ ((∀ y ∈ d.weights Tryz.prog 45, y ≤ reachBytes) → l.length ≤ 2199023255488) ∧ l.length ≤ cap := by
  obtain ⟨a, len, cap, rfl⟩ := okWide_slice Tryz.underlying45 hv
  obtain ⟨fuel, h⟩ := h
  rcases open_slice Tryz.underlying45 h with ⟨hcs, _⟩ | ⟨a', len', cap', m, n, D, Pl, hcs, _, hl, _, hmm, hx, hall⟩
  · simp only [Value.cells, List.cons.injEq, and_true, Value.slice.injEq] at hcs
    obtain ⟨rfl, rfl, rfl⟩ := hcs
    exact ⟨none, 0, [], rfl, .inl rfl, fun _ => by simp, by simp⟩
  · simp only [Value.cells, List.cons.injEq, and_true, Value.slice.injEq] at hcs
    obtain ⟨rfl, rfl, rfl⟩ := hcs
    simp only [if_true] at hmm
    simp only [Prod.mk.injEq] at hx
    obtain ⟨rfl, _⟩ := hx
    obtain ⟨q, hq⟩ := choose_lt (α := Rqv) (n := len) (p := fun i s => W.cells? 0 (a'.add (i * 6)) 6 = some [.int .i64 s.q.k, .int .i64 s.q.a, .int .i64 s.q.b, .int .i64 s.q.c, .int .i64 s.q.d, .slice s.pa s.pn s.pc] ∧ RqOk s.q ∧ RawU W W.heap.size s.pa s.pn s.q.ps) (fun i hi => by
      obtain ⟨cs', h1, h2⟩ := hall i (by omega)
      rw [cells52] at h1
      obtain ⟨_, hlen, _⟩ := World.cells?_some h1
      match cs', hlen with
      | [v0, v1, v2, v3, v4, v5], _ =>
        obtain ⟨rq, pa, pc, e2, e3, e4, e5, e6, e7, hq, hr⟩ := open_req h2
        subst e2 e3 e4 e5 e6 e7
        exact ⟨⟨rq, pa, rq.ps.length, pc⟩, h1, hq, hr⟩)
    have hlen : ((List.range len).map q).length = len := by simp
    refine ⟨some a', cap, (List.range len).map q, by rw [hlen], ?_, ?_, by rw [hlen]; exact hl⟩
    · by_cases h0 : len = 0
      · subst h0; exact .inl rfl
      · obtain ⟨c0, _⟩ := hq 0 (by omega)
        have hz := (World.cells?_some c0).2.2 0 (by omega)
        simp only [Nat.zero_mul, List.getElem?_cons_zero] at hz
        have ea : a' = ⟨a'.block, a'.off, none⟩ := addr_none (by simpa [Addr.add] using hz)
        generalize a'.block = b at ea
        generalize a'.off = o at ea
        subst ea
        rw [add_none, add_none] at hz
        refine .inr ⟨b, o, rfl, World.block_lt_of_cell? W _ hz, fun i s e => ?_⟩
        rw [List.getElem?_map, Option.map_eq_some_iff] at e
        obtain ⟨j, hj, e⟩ := e
        have hk : i < len := by
          have := List.getElem?_eq_some_iff.1 hj
          simpa using this.1
        obtain rfl : i = j := by rw [List.getElem?_range hk] at hj; exact Option.some.inj hj
        obtain ⟨hc, h1, h2⟩ := hq i hk
        rw [e] at hc h1 h2
        rw [add_none] at hc
        obtain ⟨_, _, hc⟩ := World.cells?_some hc
        have k0 := hc 0 (by omega)
        have k1 := hc 1 (by omega)
        have k2 := hc 2 (by omega)
        have k3 := hc 3 (by omega)
        have k4 := hc 4 (by omega)
        have k5 := hc 5 (by omega)
        rw [add_none] at k0 k1 k2 k3 k4 k5
        exact ⟨by simpa using k0, by simpa using k1, by simpa using k2, by simpa using k3, by simpa using k4, by simpa using k5, h1, h2⟩
    · intro hw
      rw [hlen]
      simp only [DataW.weights, Tryz.underlying45, bytes52] at hw
      have hdl := hw _ List.mem_cons_self
      simp only [List.length_map, List.length_range, reachBytes] at hdl
      omega
end

theorem rplain (f : FuncId) (fn : Func) (hf : Tryz.pinned.checked.prog.funcNamed "atlas/atlaskeep.Roomless" = some f) (hfn : Tryz.pinned.checked.prog.funcs[f]? = some fn) :
    true = Tryz.pinned.checked.prog.looks [] ∧ ∀ (j : Nat) t, fn.params[j]? = some t → Tryz.pinned.checked.prog.wantsStandIn t = false := by
  obtain rfl : f = 5 := Option.some.inj ((show Tryz.prog.funcNamed "atlas/atlaskeep.Roomless" = some 5 by kernel_rfl).symm.trans hf) |>.symm
  obtain rfl : fn = Tryz.f5 := (Option.some.inj (Tryz.func5.symm.trans hfn)).symm
  refine ⟨by kernel_rfl, fun j t ht => ?_⟩
  rw [Tryz.params5] at ht
  have hm : t ∈ [3, 45] := by
    have := Array.mem_of_getElem? ht
    simpa using this
  have hall : ([3, 45].all fun u => !Tryz.prog.wantsStandIn u) = true := by kernel_rfl
  exact (show Tryz.prog.wantsStandIn t = false by simpa using List.all_eq_true.1 hall t hm)

set_option maxRecDepth 100000 in
theorem rcontract (H : Type) (enc : TypeId × Value → H) (W : World) (base : Nat) (args : Array Value) (ds gs : List (DataW H)) (before : List MemPlace)
    (hval : ∀ (j : Nat) t v, Tryz.f5.params[j]? = some t → args[j]? = some v → Value.okWide Tryz.prog W .any base t v)
    (hW : DataW.Whole enc Tryz.prog Tryz.f5.params.toList Rows.roomlessSpec.vars false W args.toList ds gs before) (ts : List TypeId) (hwt : (DataW.weightsEach Tryz.prog (Tryz.f5.params.toList ++ ts) (ds ++ gs)).all (· ≤ reachBytes) = true) (hL : laidMetH Tryz.prog Rows.roomlessRow.laid W) (hsh : W.ShapedOpen Tryz.prog) :
    Calls Tryz.prog 5 args W fun e W' => ∃ v, e = .returned v ∧ Rows.roomlessSpec.post enc Tryz.prog Tryz.f5 false true false false W args v W' := by
  have hW' := hW
  have hlt := hW.lt
  obtain ⟨p, q, hA0, hV, rfl, hfz, hnd⟩ := hW
  have hA : DataW.TrodAll enc Tryz.prog W 0 (fun _ => true) true Tryz.f5.params.toList args.toList ds p := hA0
  rw [Tryz.params5] at hA hval hwt
  obtain ⟨v0, v1, v2, d0, d1, d2, p0, p1, p2, rfl, rfl, rfl, h0, h1, h2⟩ := trodAll_three hA
  obtain ⟨rfl, rfl⟩ := trodVars_none hV
  have hb : ∀ y ∈ d2.weights Tryz.prog 45, y ≤ reachBytes := by
    simp only [List.cons_append, List.nil_append, DataW.weightsEach, List.all_append, Bool.and_eq_true, List.all_eq_true, decide_eq_true_eq] at hwt
    first | exact hwt.2.2.1 | exact hwt.2.2
  obtain ⟨a, cap, l, rfl, hf, hn, hc⟩ := open_reqs (hval 2 45 v2 rfl rfl) h2
  obtain ⟨r, rfl, hr⟩ : ∃ r : Int, v0 = .int .i64 r ∧ i64 r := by
    obtain ⟨z, e, _, _, hw⟩ := open_int Tryz.underlying3 (hval 0 3 v0 rfl rfl) h0
    exact ⟨z, e, int_wf hw⟩
  obtain ⟨o, rfl, ho⟩ : ∃ r : Int, v1 = .int .i64 r ∧ i64 r := by
    obtain ⟨z, e, _, _, hw⟩ := open_int Tryz.underlying3 (hval 1 3 v1 rfl rfl) h1
    exact ⟨z, e, int_wf hw⟩
  refine (Roomless_any r o hr ho a l.length cap l W (gl_of hL hsh) hf rfl (hn hb) hc).mono fun e W' ⟨he, hg⟩ => ?_
  subst he
  refine ⟨_, rfl, [d0, d1, d2], [], _, [], p0 ++ (p1 ++ p2), [], hW', trodAll_cons_mk (shut_bool Tryz.underlying4 _) trodAll_mk0, ?_, rfl, hg.frame _, fun h => by cases h⟩
  have hl : ∀ x, x ∈ p0 ∨ x ∈ p1 ∨ x ∈ p2 → x.block < W.heap.size := fun x hx => hlt x (by rcases hx with h | h | h <;> simp [h])
  rw [Tryz.params5]
  exact trodAll_mk3 (Below.trod laidOut (by kernel_rfl) (of_decide_eq_true (by kernel_rfl)) h0 hg (fun x hx => hl x (.inl hx)))
    (Below.trod laidOut (by kernel_rfl) (of_decide_eq_true (by kernel_rfl)) h1 hg (fun x hx => hl x (.inr (.inl hx))))
    (Below.trod laidOut (by kernel_rfl) (of_decide_eq_true (by kernel_rfl)) h2 hg (fun x hx => hl x (.inr (.inr hx))))

def rnoughts : Array Value := #[.int .i64 0, .int .i64 0, .slice none 0 0]
theorem rlaid_met (os : Os) : laidMet Tryz.prog Rows.roomlessRow.laid ((laidWorld os).forCall (fun _ _ => 0) ⟨#[], rnoughts, []⟩).memory :=
  laidMet_of_run' 8 (by kernel_rfl) (by kernel_rfl)
theorem rreads (os : Os) {H : Type} (enc : TypeId × Value → H) : ∃ places, DataW.whole enc Tryz.prog ((laidWorld os).forCall (fun _ _ => 0) ⟨#[], rnoughts, []⟩).memory Tryz.f5.params.toList Rows.roomlessSpec.vars false rnoughts.toList 8 = some ([.lit (.int .i64 0), .lit (.int .i64 0), .nil], [], places) :=
  ⟨[], by kernel_rfl⟩

set_option maxRecDepth 100000 in
theorem rlifted (os : Os) (started : os.Started) (H : Type) (enc : TypeId × Value → H) (F : Stop.Interp) :
    ReturnsInHanded {} Tryz.checked os 5 .any ((OpenSpec.ofChange Rows.roomlessSpec).preRow enc Tryz.prog Tryz.f5 Rows.roomlessRow.domain false Rows.roomlessRow.laid) (((OpenSpec.ofChange Rows.roomlessSpec).at F).post enc Tryz.prog Tryz.f5 false true false false) := by
  obtain ⟨places, hx⟩ := rreads os enc
  refine returnsInHanded_of_row (C := Tryz.checked) (s := OpenSpec.ofChange Rows.roomlessSpec) own started (by kernel_rfl) Tryz.func5
    (witness_row_at (enc := enc) (C := Tryz.checked) false (laidWorld os) rnoughts rfl (by kernel_rfl) (by kernel_rfl) (by kernel_rfl)
      (OpenSpec.preRow_of_cond 8 hx (by kernel_rfl) (fun k hk => by cases hk) (by kernel_rfl) (rlaid_met os))) ?_
  intro W base args ds gs before hval hW _ _ hwt hL hsh _
  exact rcontract H enc W base args ds gs before hval hW _ hwt hL hsh

theorem rsaid : Rows.RoomlessSaid :=
  OpenClaim.holds_of_cond 5 Tryz.f5 rfl rfl rfl rfl rfl rfl rfl ⟨rfl, rfl, rfl, rfl, rfl⟩ rfl rfl rfl rfl rfl (by kernel_rfl) Tryz.func5 (by kernel_rfl)
    (of_decide_eq_true (by kernel_rfl)) (by unfold Func.isWrapper; first | (rw [if_pos (by decide +kernel)]; kernel_rfl) | (rw [if_neg (by decide +kernel)]; exact ⟨rfl, rfl⟩))
    (fun os started H enc _ F => by rw [OpenClaim.pre_eq_preRow]; exact rlifted os started H enc F)

theorem roomless_card_full : Rows.RoomlessCardSaid :=
  Claim7.holds_tied_plain_at .later [] _ _ _ _ rsaid (fun _ h => by cases h) (by kernel_rfl) (fun _ h => by cases h) roomless_row_tie rfl ⟨rfl, rfl⟩ (by kernel_rfl) rfl rplain (by kernel_rfl)
#print axioms roomless_card_full

end Go.Proofs.YtenaepdmlknlcaaGreatDoor
