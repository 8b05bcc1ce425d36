import Derived.Test.YtenaepdmlknlcaaGreatDoorF06
namespace Go.Proofs.YtenaepdmlknlcaaGreatDoor
open Go.RowKit Go.Shelf

attribute [local go_sem] Oper.semAt_some

theorem pick_valid (x : Bx) (o : Option FV) (v : FV) (ho : ∀ u, o = some u → validF u.f = true) (hv : validF v.f = true) : ∀ u, pickV x o v = some u → validF u.f = true := by
  intro u hu
  unfold pickV at hu
  split at hu
  · cases o with
    | none => simp at hu; subst hu; exact hv
    | some z =>
      simp only at hu
      split at hu
      · simp at hu; subst hu; exact hv
      · exact ho u hu
  · exact ho u hu
theorem fold_valid (x : Bx) (vs : List FV) : ∀ (o : Option FV), (∀ u, o = some u → validF u.f = true) → (∀ z ∈ vs, validF z.f = true) → ∀ u, vs.foldl (pickV x) o = some u → validF u.f = true := by
  induction vs with
  | nil => intro o ho _ u hu; exact ho u hu
  | cons v r ih => intro o ho hv u hu; exact ih (pickV x o v) (pick_valid x o v ho (hv v (by simp))) (fun z hz => hv z (by simp [hz])) u hu
theorem top_valid (x : Bx) (vs : List FV) (h : ∀ z ∈ vs, validF z.f = true) (u : FV) (hu : topOf x vs = some u) : validF u.f = true := fold_valid x vs none (fun _ h => by cases h) h u hu

theorem keepsFrom_set5 (B : Nat) (w : World) (b : Nat) (u0 u1 u2 u3 u4 : Value) : KeepsFrom B w (set5 w b u0 u1 u2 u3 u4) :=
  (((((KeepsOthers.setCell _ _ _).trans (KeepsOthers.setCell _ _ _)).trans (KeepsOthers.setCell _ _ _)).trans (KeepsOthers.setCell _ _ _)).trans (KeepsOthers.setCell _ _ _)).from B

set_option maxRecDepth 100000 in
set_option maxHeartbeats 4000000 in
theorem colour_any (ok : Nat → Prop) (d q : Nat) (vs : List FV) (x y : Bx) (w : World) (hok : ∀ b, ok b → b < w.heap.size) (hIT : IsT ok w d q vs y) (hg : ∀ v ∈ vs, Good ok w v)
    (h5 : 0 ≤ x.l) (h6 : 0 ≤ x.t) (h7 : 0 ≤ x.r) (h8 : 0 ≤ x.b) (g5 : x.l ≤ 1000) (g6 : x.t ≤ 1000) (g7 : x.r ≤ 1000) (g8 : x.b ≤ 1000) :
    Calls Tryz.prog 56 #[.agg #[.pointer (some ⟨q, 0, none⟩)], .agg #[.int .i64 x.l, .int .i64 x.t, .int .i64 x.r, .int .i64 x.b]] w fun e w' => e = .returned (.int .i64 (tcol (topOf x (vs.filter (meetF x))))) ∧ Below w.heap.size w w' := by
  refine (callsIn_wide (n := 4)).1 ?_
  refine callsIn_of_wp_marks Tryz.func56 rfl trivial ?_ rfl
  simp only [Tryz.ntmps56, List.size_toArray, List.length_cons, List.length_nil, Nat.reduceAdd, Nat.reduceSub, Array.replicate_succ, Array.replicate_zero, List.push_toArray, List.append_toArray, List.nil_append, List.cons_append]
  gi_wp2_with (refine ⟨trivial, ?_⟩; gi_at_call 90; refine (callsIn_wide.2 (Meeting_any _ x _)).mono ?_; rintro e w' ⟨rfl, rfl⟩)
  have hB0 : ∀ o1 o2 o3 o4 o5 : Obj, Below w.heap.size w (((((w.alloc o1).alloc o2).alloc o3).alloc o4).alloc o5) := fun o1 o2 o3 o4 o5 => (((((Below.refl _ _).alloc (Nat.le_refl _) _).alloc (by simp) _).alloc (by simp <;> omega) _).alloc (by simp <;> omega) _).alloc (by simp <;> omega) _
  refine wpIn_rangeFunc_ownH (F := Fence.wide) rfl (by omega) (gf := 125) (lb := #[.pointer (some ⟨w.heap.size + 1 + 1 + 1, 0, none⟩), .pointer (some ⟨w.heap.size + 1 + 1 + 1 + 1, 0, none⟩)]) rfl trivial (enters_of Tryz.func125 (by kernel_rfl) rfl)
    (meeting_stops ok (Good ok w) (w.heap.size + 1 + 1) (w.heap.size + 3) _ d q (w.heap.size + 1 + 1 + 1) (w.heap.size + 1 + 1 + 1 + 1) vs x y _ (fun b hb => by have := hok b hb; omega) (fun b hb => by have := hok b hb; omega) (by omega) (by simp <;> omega) (by simp [go_sem]) ⟨by simp [go_sem], by simp [go_sem], by simp [go_sem], by simp [go_sem]⟩ (hIT.same (Same.of_below (hB0 _ _ _ _ _) hok)) hg)
    keepC_t keepC_b (Below.refl _ _) (fun _ => rfl)
    (fun pre W => (Q5 W (w.heap.size + 1 + 1) (.int .i64 (tid (topOf x (pre.map Subtype.val)))) (.int .i64 (tkd (topOf x (pre.map Subtype.val)))) (.int .i64 (tht (topOf x (pre.map Subtype.val)))) (.int .i64 (tcol (topOf x (pre.map Subtype.val)))) (tsl (topOf x (pre.map Subtype.val))) ∧ C4 W (w.heap.size + 1) x) ∧ Below w.heap.size w W)
    (fun _ _ _ => False)
    (OwnFrom.and (Own.from (fun s A B row hs hg hr => ⟨hs.1.kept hg hr, hs.2.kept hg hr⟩) _) (ownFrom_below (Nat.le_refl _) (by simp <;> omega)))
    (fun _ _ _ _ _ hs _ _ => hs)
    ⟨⟨?q5, ⟨by simp [go_sem], by simp [go_sem], by simp [go_sem], by simp [go_sem]⟩⟩, hB0 _ _ _ _ _⟩
    (fun v a' W => ∃ Bv, w.heap.size + 1 + 1 < Bv ∧ Q5 W Bv (.int .i64 v.1.f.id) (.int .i64 v.1.f.kd) (.int .i64 v.1.f.ht) (.int .i64 v.1.f.col) (.slice (some ⟨v.1.pb, v.1.po, none⟩) v.1.f.ps.length v.1.cap) ∧
      a' = { tmps := #[.agg #[.pointer (some ⟨q, 0, none⟩)], .agg #[.int .i64 x.l, .int .i64 x.t, .int .i64 x.r, .int .i64 x.b], .pointer (some ⟨w.heap.size, 0, none⟩), .pointer (some ⟨w.heap.size + 1, 0, none⟩), .int .i64 0, .pointer (some ⟨w.heap.size + 1 + 1, 0, none⟩), .pointer (some ⟨Bv, 0, none⟩), .agg #[.pointer (some ⟨q, 0, none⟩)], .agg #[.int .i64 x.l, .int .i64 x.t, .int .i64 x.r, .int .i64 x.b], .func (.func 125) #[] #[.pointer (some ⟨w.heap.size + 1 + 1 + 1, 0, none⟩), .pointer (some ⟨w.heap.size + 1 + 1 + 1 + 1, 0, none⟩)], .agg #[.int .i64 v.1.f.id, .int .i64 v.1.f.kd, .int .i64 v.1.f.ht, .int .i64 v.1.f.col, .slice (some ⟨v.1.pb, v.1.po, none⟩) v.1.f.ps.length v.1.cap], undef, undef, undef, undef, undef, undef, undef, undef, undef, undef, undef, undef, undef, undef, undef, undef], defers := [] })
    (fun v a' s A B row hs hg hr => by obtain ⟨Bv, h1, h2, h3⟩ := hs; exact ⟨Bv, h1, h2.kept hg (fun r e => (hr r e).2), h3⟩)
    ?assign ?body ?done ?stop
  case q5 => constructor <;> simp [go_sem, topOf, tid, tkd, tht, tcol, tsl]
  case assign =>
    rintro l pre v W K ⟨⟨hq5, hc4⟩, hBW⟩ hK
    simp only [encF]
    gi_wp2
    refine hK _ _ ((KeepsOthers.alloc _ _).from _) (KeepC.of_below ((Below.refl _ _).alloc (Nat.le_refl _) _)) ⟨⟨hq5.below ((Below.refl _ _).alloc (Nat.le_refl _) _) (cell_lt hq5.c0), hc4.below ((Below.refl _ _).alloc (Nat.le_refl _) _) (cell_lt hc4.c0)⟩, hBW.alloc hBW.size _⟩ ⟨W.heap.size, cell_lt hq5.c0, Q5.new _ _ _ _ _ _ _, rfl⟩
  case body =>
    rintro l pre v a' W hl hr ⟨⟨hq5, hc4⟩, hBW⟩ ⟨Bv, hBv, hv5, rfl⟩ hlen
    have hgv := v.2
    obtain ⟨hval, hpb, hpcap, hpts⟩ := hgv
    have HBW : Hid (Below w.heap.size w W) := hBW
    have hbpb := hok _ hpb
    have hplaces : ∀ W' : World, Below W.heap.size W W' → Places W'.heap.size W' v.1.pb v.1.po v.1.f.ps := fun W' hb => ⟨by have := hBW.size; have := hb.size; omega, fun k a b e => ⟨((hBW.trans (hb.mono hBW.size)).cell (p := ⟨v.1.pb, v.1.po + k * 2, none⟩) hbpb).trans (hpts k a b e).1, ((hBW.trans (hb.mono hBW.size)).cell (p := ⟨v.1.pb, v.1.po + k * 2 + 1, none⟩) hbpb).trans (hpts k a b e).2⟩⟩
    have Hpl : Hid (∀ W' : World, Below W.heap.size W W' → Places W'.heap.size W' v.1.pb v.1.po v.1.f.ps) := hplaces
    have hvv := hval
    simp only [validF, Bool.and_eq_true] at hvv
    obtain ⟨⟨⟨⟨hid, _⟩, _⟩, hmay⟩, hall⟩ := hvv
    have hidne : ∀ u : FV, validF u.f = true → ¬ u.f.id = 0 := fun u hu => by
      simp only [validF, Bool.and_eq_true, inB, decide_eq_true_eq] at hu; omega
    have HMay : Hid (mayB v.1.f.kd v.1.f.ps.length = true) := hmay
    have HAll : Hid (v.1.f.ps.all inW = true) := hall
    clear hplaces hpts hval hpb hpcap hmay hall hid hIT hg
    have Hpre : Hid (topOf x ((pre ++ [v]).map Subtype.val) = pickV x (topOf x (pre.map Subtype.val)) v.1) := by
      show topOf x _ = _
      simp [topOf, List.foldl_append]
    have Htv : Hid (∀ u, topOf x (pre.map Subtype.val) = some u → validF u.f = true) := fun u hu => top_valid x (pre.map Subtype.val) (fun z hz => by
      obtain ⟨y', _, rfl⟩ := List.mem_map.1 hz
      exact y'.2.1) u hu
    generalize hto : topOf x (pre.map Subtype.val) = o at *
    clear hto
    obtain ⟨⟨⟨id, kd, ht, col, ps⟩, pb, po, cap⟩, hgood⟩ := v
    dsimp only at *
    have hT : w.heap.size + 1 + 1 < W.heap.size := cell_lt hq5.c0
    have hBvlt : Bv < W.heap.size := cell_lt hv5.c0
    have hq5' := hq5
    have hc4' := hc4
    have hv5' := hv5
    obtain ⟨c0, c1, c2, c3, c4, f0, f1, f2, f3, f4⟩ := hq5'
    obtain ⟨p0, p1, p2, p3⟩ := hc4'
    obtain ⟨e0, e1, e2, e3, e4, _, _, _, _, _⟩ := hv5'
    by_cases hcov : coverB kd ps x.l x.t x.r x.b = true
    · cases o with
      | none =>
        have Hpk : Hid (topOf x ((pre ++ [(⟨⟨⟨id, kd, ht, col, ps⟩, pb, po, cap⟩, hgood⟩ : { v : FV // Good ok w v })]).map Subtype.val) = some ⟨⟨id, kd, ht, col, ps⟩, pb, po, cap⟩) := by
          show topOf x _ = _
          rw [Hpre.out]; simp [pickV, hcov]
        simp only [tid, tkd, tht, tcol, tsl] at c0 c1 c2 c3 c4 hq5
        gi_wp2_with (first | (refine ⟨trivial, ?_⟩; gi_at_call 91; refine (CallsIn.inRound l (callsIn_wide.2 (Covers_any id kd ht col pb po ps.length cap ps x.l x.t x.r x.b _ (Hpl.out _ (Below.refl _ _)) rfl HMay.out HAll.out h5 h6 h7 h8 g5 g6 g7 g8))).mono ?_; rintro e w2 ⟨rfl, hb2⟩; have k5 := hq5.below hb2 hT; have m5 := hv5.below hb2 hBvlt; have hz2 := hb2.size; obtain ⟨kc0, kc1, kc2, kc3, kc4, kf0, kf1, kf2, kf3, kf4⟩ := k5; obtain ⟨mc0, mc1, mc2, mc3, mc4, _, _, _, _, _⟩ := m5) | (have _t := hb2; refine ⟨trivial, ?_⟩))
        have hfin : topOf x ((pre ++ [(⟨⟨⟨id, kd, ht, col, ps⟩, pb, po, cap⟩, hgood⟩ : { v : FV // Good ok w v })]).map Subtype.val) = some ⟨⟨id, kd, ht, col, ps⟩, pb, po, cap⟩ := Hpk.out
        refine ⟨((KeepsFrom.of_grownBy (grown_of_below hb2) (fun j e => by cases e)).trans (keepsFrom_set5 _ _ _ _ _ _ _ _)), (KeepC.of_below hb2).trans (keepC_set5 _ _ _ _ _ _), ⟨⟨?_, (hc4.below hb2 (cell_lt hc4.c0)).below (below_set5 (w.heap.size + 1 + 1) _ _ (Nat.le_refl _) _ _ _ _ _) (by omega)⟩, (HBW.out.trans (hb2.mono HBW.out.size)).trans (below_set5 w.heap.size _ _ (by omega) _ _ _ _ _)⟩⟩
        rw [hfin]
        exact (Q5.mk kc0 kc1 kc2 kc3 kc4 kf0 kf1 kf2 kf3 kf4).set _ _ _ _ _
      | some u =>
        have hu0 : (u.f.id == 0) = false := by simp [hidne u (Htv.out u rfl)]
        simp only [tid, tkd, tht, tcol, tsl] at c0 c1 c2 c3 c4 hq5
        obtain ⟨⟨uid, ukd, uht, ucol, ups⟩, upb, upo, ucap⟩ := u
        dsimp only at *
        by_cases hab : aboveB ht id uht uid = true
        · have Hpk : Hid (topOf x ((pre ++ [(⟨⟨⟨id, kd, ht, col, ps⟩, pb, po, cap⟩, hgood⟩ : { v : FV // Good ok w v })]).map Subtype.val) = some ⟨⟨id, kd, ht, col, ps⟩, pb, po, cap⟩) := by
            show topOf x _ = _
            rw [Hpre.out]; simp [pickV, hcov, hab]
          gi_wp2_with (first | (refine ⟨trivial, ?_⟩; gi_at_call 91; refine (CallsIn.inRound l (callsIn_wide.2 (Covers_any id kd ht col pb po ps.length cap ps x.l x.t x.r x.b _ (Hpl.out _ (Below.refl _ _)) rfl HMay.out HAll.out h5 h6 h7 h8 g5 g6 g7 g8))).mono ?_; rintro e w2 ⟨rfl, hb2⟩; have k5 := hq5.below hb2 hT; have m5 := hv5.below hb2 hBvlt; have hz2 := hb2.size; obtain ⟨kc0, kc1, kc2, kc3, kc4, kf0, kf1, kf2, kf3, kf4⟩ := k5; obtain ⟨mc0, mc1, mc2, mc3, mc4, _, _, _, _, _⟩ := m5) | (refine ⟨trivial, ?_⟩; gi_at_call 92; refine (CallsIn.inRound l (callsIn_wide.2 (above_any id kd ht col _ uid ukd uht ucol _ _ ⟨_, _, _, rfl⟩ ⟨_, _, _, rfl⟩))).mono ?_; rintro e w3 ⟨rfl, hb3⟩; have n5 := (Q5.mk kc0 kc1 kc2 kc3 kc4 kf0 kf1 kf2 kf3 kf4).below hb3 (by omega); have m6 := (hv5.below hb2 hBvlt).below hb3 (by omega); have hb23 := hb2.trans (hb3.mono hz2); obtain ⟨nc0, nc1, nc2, nc3, nc4, nf0, nf1, nf2, nf3, nf4⟩ := n5; obtain ⟨oc0, oc1, oc2, oc3, oc4, _, _, _, _, _⟩ := m6))
          have hfin : topOf x ((pre ++ [(⟨⟨⟨id, kd, ht, col, ps⟩, pb, po, cap⟩, hgood⟩ : { v : FV // Good ok w v })]).map Subtype.val) = some ⟨⟨id, kd, ht, col, ps⟩, pb, po, cap⟩ := Hpk.out
          refine ⟨((KeepsFrom.of_grownBy (grown_of_below hb23) (fun j e => by cases e)).trans (keepsFrom_set5 _ _ _ _ _ _ _ _)), (KeepC.of_below hb23).trans (keepC_set5 _ _ _ _ _ _), ⟨⟨?_, (hc4.below hb23 (cell_lt hc4.c0)).below (below_set5 (w.heap.size + 1 + 1) _ _ (Nat.le_refl _) _ _ _ _ _) (by omega)⟩, (HBW.out.trans (hb23.mono HBW.out.size)).trans (below_set5 w.heap.size _ _ (by omega) _ _ _ _ _)⟩⟩
          rw [hfin]
          exact (Q5.mk nc0 nc1 nc2 nc3 nc4 nf0 nf1 nf2 nf3 nf4).set _ _ _ _ _
        · have hab' : aboveB ht id uht uid = false := by simpa using hab
          have Hpk : Hid (topOf x ((pre ++ [(⟨⟨⟨id, kd, ht, col, ps⟩, pb, po, cap⟩, hgood⟩ : { v : FV // Good ok w v })]).map Subtype.val) = some ⟨⟨uid, ukd, uht, ucol, ups⟩, upb, upo, ucap⟩) := by
            show topOf x _ = _
            rw [Hpre.out]; simp [pickV, hcov, hab']
          clear hab
          gi_wp2_with (first | (refine ⟨trivial, ?_⟩; gi_at_call 91; refine (CallsIn.inRound l (callsIn_wide.2 (Covers_any id kd ht col pb po ps.length cap ps x.l x.t x.r x.b _ (Hpl.out _ (Below.refl _ _)) rfl HMay.out HAll.out h5 h6 h7 h8 g5 g6 g7 g8))).mono ?_; rintro e w2 ⟨rfl, hb2⟩; have k5 := hq5.below hb2 hT; have m5 := hv5.below hb2 hBvlt; have hz2 := hb2.size; obtain ⟨kc0, kc1, kc2, kc3, kc4, kf0, kf1, kf2, kf3, kf4⟩ := k5; obtain ⟨mc0, mc1, mc2, mc3, mc4, _, _, _, _, _⟩ := m5) | (refine ⟨trivial, ?_⟩; gi_at_call 92; refine (CallsIn.inRound l (callsIn_wide.2 (above_any id kd ht col _ uid ukd uht ucol _ _ ⟨_, _, _, rfl⟩ ⟨_, _, _, rfl⟩))).mono ?_; rintro e w3 ⟨rfl, hb3⟩; have hb23 := hb2.trans (hb3.mono hz2)))
          have hfin : topOf x ((pre ++ [(⟨⟨⟨id, kd, ht, col, ps⟩, pb, po, cap⟩, hgood⟩ : { v : FV // Good ok w v })]).map Subtype.val) = some ⟨⟨uid, ukd, uht, ucol, ups⟩, upb, upo, ucap⟩ := Hpk.out
          refine ⟨KeepsFrom.of_grownBy (grown_of_below hb23) (fun j e => by cases e), KeepC.of_below hb23, ⟨⟨?_, hc4.below hb23 (cell_lt hc4.c0)⟩, HBW.out.trans (hb23.mono HBW.out.size)⟩⟩
          rw [hfin]
          exact hq5.below hb23 hT
    · have hcov' : coverB kd ps x.l x.t x.r x.b = false := by simpa using hcov
      clear hcov
      have Hpk : Hid (topOf x ((pre ++ [(⟨⟨⟨id, kd, ht, col, ps⟩, pb, po, cap⟩, hgood⟩ : { v : FV // Good ok w v })]).map Subtype.val) = o) := by
        show topOf x _ = o
        rw [Hpre.out]; simp [pickV, hcov']
      gi_wp2_with (first | (refine ⟨trivial, ?_⟩; gi_at_call 91; refine (CallsIn.inRound l (callsIn_wide.2 (Covers_any id kd ht col pb po ps.length cap ps x.l x.t x.r x.b _ (Hpl.out _ (Below.refl _ _)) rfl HMay.out HAll.out h5 h6 h7 h8 g5 g6 g7 g8))).mono ?_; rintro e w2 ⟨rfl, hb2⟩) | (have _t := hb2; refine ⟨trivial, ?_⟩))
      have hfin : topOf x ((pre ++ [(⟨⟨⟨id, kd, ht, col, ps⟩, pb, po, cap⟩, hgood⟩ : { v : FV // Good ok w v })]).map Subtype.val) = o := Hpk.out
      refine ⟨KeepsFrom.of_grownBy (grown_of_below hb2) (fun j e => by cases e), KeepC.of_below hb2, ⟨⟨?_, hc4.below hb2 (cell_lt hc4.c0)⟩, HBW.out.trans (hb2.mono HBW.out.size)⟩⟩
      rw [hfin]
      exact hq5.below hb2 hT
  case done =>
    rintro D ys W hD hys ⟨⟨hq5, _⟩, hBW⟩ hK
    rw [hys] at hq5
    obtain ⟨c0, c1, c2, c3, c4, _, _, _, _, _⟩ := hq5
    gi_wp2
    refine ⟨by simp, .inl ⟨_, _, rfl, run_takeDeferred hK, ?_⟩⟩
    exact ⟨_, results_tmp rfl _ _ _, rfl, hBW.trans (belowK_b (w := w) (Nat.le_refl _) W D _ _ (by simp at hD; omega) hK rfl rfl)⟩
  case stop =>
    rintro D c pre W _ _ h _
    exact h.elim

end Go.Proofs.YtenaepdmlknlcaaGreatDoor
