import Derived.Test.YtenaepdmlknlcaaGreatDoorE27
namespace Go.Proofs.YtenaepdmlknlcaaGreatDoor
open Go.RowKit Go.Shelf

theorem Find_has (I : Nat → Prop) (ro : Option Addr) (vs : List FV) (id : Int) (w : World) (hI : ∀ b, I b → b < w.heap.size) (hR : RootT I w ro vs) (hg : ∀ v ∈ vs, Good I w v) :
    Calls Tryz.prog 224 #[.agg #[.pointer ro], .int .i64 id] w fun e w' => ∃ (x0 x1 x2 x3 : Int) (sa : Option Addr) (sn sc : Nat), e = .returned (.tuple #[.agg #[.int .i64 x0, .int .i64 x1, .int .i64 x2, .int .i64 x3, .slice sa sn sc], .bool (hasF id (vs.map (·.f)))]) ∧ Below w.heap.size w w' := by
  refine (Find_any I ro vs id w hI hR hg).mono ?_
  rintro e w' ⟨v, rfl, hv, hb⟩
  rcases hv with ⟨u, hu, hid, rfl⟩ | ⟨hn, rfl⟩
  · refine ⟨u.f.id, u.f.kd, u.f.ht, u.f.col, some ⟨u.pb, u.po, none⟩, u.f.ps.length, u.cap, ?_, hb⟩
    rw [← hid, hasF_mem (List.mem_map_of_mem (f := (·.f)) hu)]
    rfl
  · refine ⟨0, 0, 0, 0, none, 0, 0, ?_, hb⟩
    rw [hasF_not (fun f hf => by obtain ⟨u, hu, rfl⟩ := List.mem_map.1 hf; exact hn u hu)]
theorem filter_not {vs : List FV} {id : Int} (h : hasF id (vs.map (·.f)) = false) : (vs.filter fun v => !(v.f.id == id)) = vs := by
  refine List.filter_eq_self.2 fun v hv => ?_
  have := List.any_eq_false.1 h v.f (List.mem_map_of_mem (f := (·.f)) hv)
  simpa using this

theorem fr_set5 (b : Nat) (w : World) (u0 u1 u2 u3 u4 : Value) : Fr (OfB b) w (set5 w b u0 u1 u2 u3 u4) :=
  (((((Fr.refl (OfB b) w).setCell (b := b) (i := 0) (.inl rfl) u0).setCell (b := b) (i := 1) (.inl rfl) u1).setCell (b := b) (i := 2) (.inl rfl) u2).setCell (b := b) (i := 3) (.inl rfl) u3).setCell (b := b) (i := 4) (.inl rfl) u4
/-- The blocks that never change, in a world that came of w. -/
abbrev FinM (A mo : Nat) : Nat → Nat → Prop := fun c j => c = A ∧ (j = mo ∨ j = mo + 1)
/-- The map, behind a part of finish. -/
structure FinI (A mo : Nat) (I : Nat → Prop) (id : Int) (a : Option Addr) (vs : List FV) (w W : World) : Prop where
  root : ∃ ro, W.cell? ⟨A, mo, none⟩ = some (.pointer ro) ∧ RootT (okN I (w.heap.size + 2) W.heap.size) W ro vs
  rf : W.frozen? ⟨A, mo, none⟩ = false
  chg : K3 W w.heap.size (.int .i64 id) (.pointer a) (.int .i64 3)
  res : K3 W (w.heap.size + 1) (.bool false) .nilFunc (.string ⟨#[]⟩)
  fr : Fr (FinM A mo) w W
  lk : ∃ b, W.cell? ⟨A, mo + 1, none⟩ = some (.bool b)
  lf : W.frozen? ⟨A, mo + 1, none⟩ = false

theorem FinI.set {A mo : Nat} {I : Nat → Prop} {id : Int} {a : Option Addr} {vs us : List FV} {w wc w2 : World} (h : FinI A mo I id a vs w wc) (hA : A < w.heap.size) (hIA : ¬ I A) (hb : Below wc.heap.size wc w2) {ro2 : Option Addr} (hr : RootT (okN I (w.heap.size + 2) w2.heap.size) w2 ro2 us) : FinI A mo I id a us w (w2.setCell ⟨A, mo, none⟩ (.pointer ro2)) := by
  obtain ⟨ro, r0, _⟩ := h.root
  obtain ⟨b, hl⟩ := h.lk
  have hAc : A < wc.heap.size := World.block_lt_of_cell? wc _ r0
  have hF : Fr (FinM A mo) wc (w2.setCell ⟨A, mo, none⟩ (.pointer ro2)) := (Fr.of_below hb).setCell (b := A) (i := mo) (.inl ⟨rfl, .inl rfl⟩) _
  have hsz : (w2.setCell ⟨A, mo, none⟩ (.pointer ro2)).heap.size = w2.heap.size := by simp [World.setCell]
  refine ⟨⟨ro2, cell_eq ((hb.cell (p := ⟨A, mo, none⟩) hAc).trans r0) _, ?_⟩, ?_, h.chg.fr hF (fun i e => by have := e.1; omega), h.res.fr hF (fun i e => by have := e.1; omega), h.fr.trans hF, ⟨b, (cell_ne _ _ (.inr (by omega))).trans ((hb.cell (p := ⟨A, mo + 1, none⟩) hAc).trans hl)⟩, ?_⟩
  · rw [hsz]
    refine RootT.same hr (same_set w2 A mo (.pointer ro2) ?_)
    rintro (h | h)
    · exact hIA h
    · omega
  · rw [World.frozen?_setCell]; exact (hb.frozen (p := ⟨A, mo, none⟩) hAc).trans h.rf
  · rw [World.frozen?_setCell]; exact (hb.frozen (p := ⟨A, mo + 1, none⟩) hAc).trans h.lf

theorem FinI.fin {A mo : Nat} {I : Nat → Prop} {id : Int} {a : Option Addr} {us : List FV} {w W w5 : World} (h : FinI A mo I id a us w W) (hA : A < w.heap.size) (hI : ∀ b, I b → b < w.heap.size) (hIA : ¬ I A) (hb : Below (W.setCell ⟨A, mo + 1, none⟩ (.bool false)).heap.size (W.setCell ⟨A, mo + 1, none⟩ (.bool false)) w5) (u0 u1 u2 : Value) :
    (∃ ro', (((w5.setCell ⟨w.heap.size + 1, 0, none⟩ u0).setCell ⟨w.heap.size + 1, 1, none⟩ u1).setCell ⟨w.heap.size + 1, 2, none⟩ u2).cell? ⟨A, mo, none⟩ = some (.pointer ro') ∧ RootT (okN I (w.heap.size + 2) (((w5.setCell ⟨w.heap.size + 1, 0, none⟩ u0).setCell ⟨w.heap.size + 1, 1, none⟩ u1).setCell ⟨w.heap.size + 1, 2, none⟩ u2).heap.size) (((w5.setCell ⟨w.heap.size + 1, 0, none⟩ u0).setCell ⟨w.heap.size + 1, 1, none⟩ u1).setCell ⟨w.heap.size + 1, 2, none⟩ u2) ro' us) ∧ (((w5.setCell ⟨w.heap.size + 1, 0, none⟩ u0).setCell ⟨w.heap.size + 1, 1, none⟩ u1).setCell ⟨w.heap.size + 1, 2, none⟩ u2).cell? ⟨A, mo + 1, none⟩ = some (.bool false) ∧ Fr (FinM A mo) w (((w5.setCell ⟨w.heap.size + 1, 0, none⟩ u0).setCell ⟨w.heap.size + 1, 1, none⟩ u1).setCell ⟨w.heap.size + 1, 2, none⟩ u2) ∧ (((w5.setCell ⟨w.heap.size + 1, 0, none⟩ u0).setCell ⟨w.heap.size + 1, 1, none⟩ u1).setCell ⟨w.heap.size + 1, 2, none⟩ u2).frozen? ⟨A, mo, none⟩ = false ∧ (((w5.setCell ⟨w.heap.size + 1, 0, none⟩ u0).setCell ⟨w.heap.size + 1, 1, none⟩ u1).setCell ⟨w.heap.size + 1, 2, none⟩ u2).frozen? ⟨A, mo + 1, none⟩ = false := by
  obtain ⟨ro, r0, hr⟩ := h.root
  obtain ⟨b, hl⟩ := h.lk
  have hAW : A < W.heap.size := World.block_lt_of_cell? W _ r0
  have hsW : (W.setCell ⟨A, mo + 1, none⟩ (.bool false)).heap.size = W.heap.size := by simp [World.setCell]
  rw [hsW] at hb
  have hF5 : Fr (fun c j => c = A ∧ j = mo + 1) W w5 := ((Fr.refl _ W).setCell (b := A) (i := mo + 1) (.inl ⟨rfl, rfl⟩) _).trans (Fr.of_below (by rw [hsW]; exact hb))
  have hFV : Fr (fun c j => (c = A ∧ j = mo + 1) ∨ c = w.heap.size + 1) W (((w5.setCell ⟨w.heap.size + 1, 0, none⟩ u0).setCell ⟨w.heap.size + 1, 1, none⟩ u1).setCell ⟨w.heap.size + 1, 2, none⟩ u2) := (((hF5.mono fun c j e => .inl e).setCell (b := w.heap.size + 1) (i := 0) (.inl (.inr rfl)) u0).setCell (b := w.heap.size + 1) (i := 1) (.inl (.inr rfl)) u1).setCell (b := w.heap.size + 1) (i := 2) (.inl (.inr rfl)) u2
  have hsV : (((w5.setCell ⟨w.heap.size + 1, 0, none⟩ u0).setCell ⟨w.heap.size + 1, 1, none⟩ u1).setCell ⟨w.heap.size + 1, 2, none⟩ u2).heap.size = w5.heap.size := by simp [World.setCell]
  have hs5 : W.heap.size ≤ w5.heap.size := hF5.size
  refine ⟨⟨ro, (hFV.cell A mo hAW (fun e => by omega)).trans r0, ?_⟩, ?_, h.fr.trans_new hFV (fun c j hc e => ?_), ?_, ?_⟩
  · rw [hsV]
    refine RootT.mono (RootT.same hr (Same.fr hFV (fun c hc => ?_) (fun c j hc e => ?_))) (fun c hc => hc.imp _root_.id (fun e => ⟨e.1, by omega⟩))
    · rcases hc with hc | hc
      · exact Nat.lt_of_lt_of_le (hI c hc) h.fr.size
      · exact hc.2
    · rcases e with ⟨rfl, _⟩ | rfl
      · rcases hc with hc | hc
        · exact hIA hc
        · omega
      · rcases hc with hc | hc
        · have := hI _ hc; omega
        · omega
  · rw [cell_ne _ _ (.inl (by omega)), cell_ne _ _ (.inl (by omega)), cell_ne _ _ (.inl (by omega))]
    exact (hb.cell (p := ⟨A, mo + 1, none⟩) hAW).trans (cell_eq hl _)
  · rcases e with ⟨rfl, rfl⟩ | rfl
    · exact ⟨rfl, .inr rfl⟩
    · omega
  · rw [World.frozen?_setCell, World.frozen?_setCell, World.frozen?_setCell]
    exact (hb.frozen (p := ⟨A, mo, none⟩) hAW).trans (by rw [World.frozen?_setCell]; exact h.rf)
  · rw [World.frozen?_setCell, World.frozen?_setCell, World.frozen?_setCell]
    exact (hb.frozen (p := ⟨A, mo + 1, none⟩) hAW).trans (by rw [World.frozen?_setCell]; exact h.lf)

/-- The map behind finish. -/
def FinOut (A mo : Nat) (I : Nat → Prop) (id : Int) (p : Option Feat) (vs : List FV) (w w' : World) : Prop :=
  ∃ ro', w'.cell? ⟨A, mo, none⟩ = some (.pointer ro') ∧ ∃ us, RootT (okN I (w.heap.size + 2) w'.heap.size) w' ro' ((vs.filter fun v => !(v.f.id == id)) ++ us) ∧ us.map (·.f) = p.toList ∧ (∀ u ∈ us, Good I w u) ∧ w'.frozen? ⟨A, mo, none⟩ = false ∧ w'.frozen? ⟨A, mo + 1, none⟩ = false

set_option maxRecDepth 100000 in
set_option maxHeartbeats 4000000 in
theorem finish_step (A mo : Nat) (I : Nat → Prop) (id : Int) (a : Option Addr) (p : Option Feat) (ro : Option Addr) (vs : List FV) (w : World) (hA : A < w.heap.size) (hIA : ¬ I A) (hro : w.cell? ⟨A, mo, none⟩ = some (.pointer ro)) (hrf : w.frozen? ⟨A, mo, none⟩ = false) (hlk : ∃ b, w.cell? ⟨A, mo + 1, none⟩ = some (.bool b)) (hlf : w.frozen? ⟨A, mo + 1, none⟩ = false) (hI : ∀ b, I b → b < w.heap.size) (hp : PutAt I w a p) (hpo : PutOk id p) (hR : RootT I w ro vs) (hg : ∀ v ∈ vs, Good I w v) :
    Calls Tryz.prog 208 #[chgV id a 3, .pointer (some ⟨A, mo, none⟩)] w fun e w' => e = .returned (.agg #[.bool false, .nilFunc, .string (ansF (hasF id (vs.map (·.f))) p)]) ∧ FinOut A mo I id p vs w w' ∧ w'.cell? ⟨A, mo + 1, none⟩ = some (.bool false) ∧ Fr (FinM A mo) w w' := by
  have hB0 : ∀ o o' : Obj, Below w.heap.size w ((w.alloc o).alloc o').drew := fun o o' => (((Below.refl _ _).alloc (Nat.le_refl _) _).alloc (by simp) _).drew
  have hB1 : ∀ o o' o2 : Obj, Below w.heap.size w (((w.alloc o).alloc o').drew.alloc o2) := fun o o' o2 => (hB0 o o').alloc (by simp; omega) _
  obtain ⟨hd, hhd⟩ : ∃ hd, hasF id (vs.map (·.f)) = hd := ⟨_, rfl⟩
  have HFd : Hid (∀ W : World, Below w.heap.size w W → Calls Tryz.prog 224 #[.agg #[.pointer ro], .int .i64 id] W fun e w' => ∃ (x0 x1 x2 x3 : Int) (sa : Option Addr) (sn sc : Nat), e = .returned (.tuple #[.agg #[.int .i64 x0, .int .i64 x1, .int .i64 x2, .int .i64 x3, .slice sa sn sc], .bool hd]) ∧ Below W.heap.size W w') := fun W hW => by
    rw [← hhd]
    exact Find_has I ro vs id W (fun b hb => Nat.lt_of_lt_of_le (hI b hb) hW.size) (RootT.same hR (Same.of_below hW hI)) (fun v hv => Good.same (Same.of_below hW hI) (hg v hv))
  have k00 : ∀ o' : Obj, K3 ((w.alloc (.cells #[.int .i64 id, .pointer a, .int .i64 3] 294)).alloc o').drew w.heap.size (.int .i64 id) (.pointer a) (.int .i64 3) := fun o' => ⟨by simp [go_sem], by simp [go_sem], by simp [go_sem], by simp [go_sem], by simp [go_sem], by simp [go_sem]⟩
  have k01 : ∀ o : Obj, K3 ((w.alloc o).alloc (.cells #[.bool false, .nilFunc, .string ⟨#[]⟩] 231)).drew (w.heap.size + 1) (.bool false) .nilFunc (.string ⟨#[]⟩) := fun o => (K3.new2 w o _ _ _ _).drew
  have HR : Hid (RootT I w ro vs) := hR
  have HG : Hid (∀ v ∈ vs, Good I w v) := hg
  have HP : Hid (PutAt I w a p) := hp
  have HI : Hid (∀ b, I b → b < w.heap.size) := hI
  clear hR hg hp hI
  go_enter Tryz.func208, Tryz.ntmps208
  go_wp2_with fail
  go_cut [6] (fun v wc => v = .bool hd ∧ K3 wc w.heap.size (.int .i64 id) (.pointer a) (.int .i64 3) ∧ K3 wc (w.heap.size + 1) (.bool false) .nilFunc (.string ⟨#[]⟩) ∧ Below w.heap.size w wc)
  case first =>
    have hA1 : A < w.heap.size + 1 := by omega
    go_region_with (first
      | (go_at_call 224; refine Calls.mono (HFd.out _ (hB0 _ _)) ?_; rintro e w1 ⟨x0, x1, x2, x3, sa, sn, sc, rfl, hb1⟩; dsimp only; have hb2 : Below w.heap.size w w1 := (hB0 _ _).trans (hb1.mono (by simp; omega)); have kk0 := (k00 (.cells #[.bool false, .nilFunc, .string ⟨#[]⟩] 231)).below hb1 (Nat.le_refl _); have kk1 := (k01 (.cells #[.int .i64 id, .pointer a, .int .i64 3] 294)).below hb1 (Nat.le_refl _))
      | (go_at_call 224; refine Calls.mono (HFd.out _ (hB1 _ _ _)) ?_; rintro e w1 ⟨x0, x1, x2, x3, sa, sn, sc, rfl, hb1⟩; dsimp only; have hb2 : Below w.heap.size w w1 := (hB1 _ _ _).trans (hb1.mono (by simp; omega)); have kk0 := ((k00 (.cells #[.bool false, .nilFunc, .string ⟨#[]⟩] 231)).below ((Below.refl _ _).alloc (Nat.le_refl _) _) (Nat.le_refl _)).below hb1 (Nat.le_refl _); have kk1 := ((k01 (.cells #[.int .i64 id, .pointer a, .int .i64 3] 294)).below ((Below.refl _ _).alloc (Nat.le_refl _) _) (Nat.le_refl _)).below hb1 (Nat.le_refl _); have hq5 := (Q5.new ((w.alloc (.cells #[.int .i64 id, .pointer a, .int .i64 3] 294)).alloc (.cells #[.bool false, .nilFunc, .string ⟨#[]⟩] 231)).drew (.int .i64 0) (.int .i64 0) (.int .i64 0) (.int .i64 0) (.slice none 0 0) 32).below hb1 (by simp); simp only [World.size_drew, World.size_alloc] at hq5; have HQ5 : Hid _ := hq5; obtain ⟨t0, t1, t2, t3, t4, s0, s1, s2, s3, s4⟩ := hq5))
    all_goals
      go_wp2_with fail
      go_meet
      first
        | (have hq := HQ5; exact ⟨rfl, kk0.fr (fr_set5 (w.heap.size + 1 + 1) w1 _ _ _ _ _) (fun i e => by have : w.heap.size = w.heap.size + 1 + 1 := e; omega), kk1.fr (fr_set5 (w.heap.size + 1 + 1) w1 _ _ _ _ _) (fun i e => by have : w.heap.size + 1 = w.heap.size + 1 + 1 := e; omega), hb2.trans (below_set5 w.heap.size w1 (w.heap.size + 1 + 1) (by omega) _ _ _ _ _)⟩)
        | exact ⟨rfl, kk0.below ((Below.refl _ _).alloc (Nat.le_refl _) _) (Nat.le_refl _), kk1.below ((Below.refl _ _).alloc (Nat.le_refl _) _) (Nat.le_refl _), hb2.alloc hb2.size _⟩
  case rest =>
    obtain ⟨rfl, k0, k1, hB⟩ := hcut
    have HK0 : Hid (K3 wc w.heap.size (.int .i64 id) (.pointer a) (.int .i64 3)) := k0
    have HK1 : Hid (K3 wc (w.heap.size + 1) (.bool false) .nilFunc (.string ⟨#[]⟩)) := k1
    have l1 := k1.lt
    have r0 := (hB.cell (p := ⟨A, mo, none⟩) hA).trans hro
    have rf := (hB.frozen (p := ⟨A, mo, none⟩) hA).trans hrf
    have hAc : A < wc.heap.size := by omega
    have hfin0 : hd = false → FinI A mo I id a (vs.filter fun v => !(v.f.id == id)) w wc := fun e => by
      obtain ⟨b, hl⟩ := hlk
      refine ⟨⟨ro, r0, ?_⟩, rf, HK0.out, HK1.out, Fr.of_below hB, ⟨b, (hB.cell (p := ⟨A, mo + 1, none⟩) hA).trans hl⟩, (hB.frozen (p := ⟨A, mo + 1, none⟩) hA).trans hlf⟩
      rw [filter_not (hhd.trans e)]
      exact (RootT.same HR.out (Same.of_below hB HI.out)).mono (fun b hb => .inl hb)
    have hfin1 : FinI A mo I id a vs w wc := by
      obtain ⟨b, hl⟩ := hlk
      exact ⟨⟨ro, r0, (RootT.same HR.out (Same.of_below hB HI.out)).mono (fun b hb => .inl hb)⟩, rf, HK0.out, HK1.out, Fr.of_below hB, ⟨b, (hB.cell (p := ⟨A, mo + 1, none⟩) hA).trans hl⟩, (hB.frozen (p := ⟨A, mo + 1, none⟩) hA).trans hlf⟩
    cases hd with
    | false =>
      have hfin := hfin0 rfl
      clear hfin0 hfin1 k0 k1 r0 rf hlk
      go_upto_region 4 with fail
      have HF : Hid (FinI A mo I id a (vs.filter fun v => !(v.f.id == id)) w wc) := hfin
      obtain ⟨ro1, r1, hr1⟩ := hfin.root
      have rf1 := hfin.rf
      have hA1 : A < wc.heap.size := World.block_lt_of_cell? wc _ r1
      have hfr1 := hfin.fr
      obtain ⟨c0, c1, c2, f0, f1, f2⟩ := hfin.chg
      clear hfin
      cases p with
      | none =>
        have ha : a = none := HP.out
        subst ha
        have HFE : Hid (FinI A mo I id none ((vs.filter fun v => !(v.f.id == id)) ++ []) w wc) := by rw [List.append_nil]; exact HF.out
        clear c0 c1 c2 f0 f1 f2
        obtain ⟨lb, hl⟩ := HFE.out.lk
        have hlf1 := HFE.out.lf
        have HRes : Hid (K3 (wc.setCell ⟨A, mo + 1, none⟩ (.bool false)) (w.heap.size + 1) (.bool false) .nilFunc (.string ⟨#[]⟩)) := HFE.out.res.fr (frB A wc (mo + 1) _) (fun i e => by have : w.heap.size + 1 = A := e; omega)
        obtain ⟨c0, c1, c2, f0, f1, f2⟩ := HFE.out.chg
        go_wp2_with (first
          | (go_at_call 226; refine (answer_any id 3 none false _).mono ?_; rintro e w4 ⟨rfl, hb4⟩; dsimp only)
          | (go_at_call 194; refine (answered_any _ _).mono ?_; rintro e w5 ⟨rfl, hb5⟩; dsimp only; have hb6 := hb4.trans (hb5.mono hb4.size); have HK2 : Hid (K3 w5 (w.heap.size + 1) (.bool false) .nilFunc (.string ⟨#[]⟩)) := HRes.out.below hb6 (Nat.le_refl _); have d0 := HK2.out.c0; have d1 := HK2.out.c1; have d2 := HK2.out.c2; have g0 := HK2.out.f0; have g1 := HK2.out.f1; have g2 := HK2.out.f2))
        have kk := k3_set HK2.out (.bool false) .nilFunc (.string ⟨#[52, 48, 52]⟩)
        obtain ⟨⟨ro', q1, q2⟩, q3, q4, q5, q6⟩ := HFE.out.fin hA HI.out hIA hb6 (.bool false) .nilFunc (.string ⟨#[52, 48, 52]⟩)
        exact bodyPost_ret (v := .agg #[.bool false, .nilFunc, .string ⟨#[52, 48, 52]⟩]) (by simp [results, Tryz.results208, go_sem, kk.c0, kk.c1, kk.c2]) rfl ⟨by first | rfl | (rw [hhd]; rfl), ⟨ro', q1, [], q2, rfl, fun u hu => (by cases hu), q5, q6⟩, q3, q4⟩
      | some f =>
        obtain ⟨R, b, o, cap, rfl, hR, e5, e6, e7, e8, e9, hgd⟩ := HP.out
        have hRA : R ≠ A := fun e => hIA (by rw [← e]; exact hR)
        have hRl := HI.out R hR
        have hcR : ∀ i, wc.cell? ⟨R, i, none⟩ = w.cell? ⟨R, i, none⟩ := fun i => hfr1.cell R i hRl (fun e => hRA e.1)
        have x5 := (hcR 5).trans e5
        have x6 := (hcR 6).trans e6
        have x7 := (hcR 7).trans e7
        have x8 := (hcR 8).trans e8
        have x9 := (hcR 9).trans e9
        have hne := neq_ptr
        have hbA : b ≠ A := fun e => hIA (by rw [← e]; exact hgd.2.1)
        have hbl := HI.out b hgd.2.1
        have hsz1 := hfr1.size
        have hRc : R < wc.heap.size := by omega
        have HGd : Hid (Good I w ⟨f, b, o, cap⟩) := hgd
        have HWt : Hid (∀ W : World, Below wc.heap.size wc W → Calls Tryz.prog 31 #[.agg #[.pointer ro1], .agg #[.int .i64 f.id, .int .i64 f.kd, .int .i64 f.ht, .int .i64 f.col, .slice (some ⟨b, o, none⟩) f.ps.length cap]] W fun e w' => ∃ ro' : Option Addr, e = .returned (.agg #[.pointer ro']) ∧ RootT (okN I (w.heap.size + 2) w'.heap.size) w' ro' ((vs.filter fun v => !(v.f.id == id)) ++ [⟨f, b, o, cap⟩]) ∧ Below W.heap.size W w') := fun W hW => by
          have hsW := hW.size
          refine (With_any (okN I (w.heap.size + 2) wc.heap.size) ⟨f, b, o, cap⟩ ro1 _ W (RootT.same hr1 (Same.of_below hW (fun c hc => ?_))) (fun u hu => (HG.out u (List.mem_filter.1 hu).1).1) hgd.1 (fun c hc => ?_) (.inl hgd.2.1) ⟨by show b < _; omega, fun k x y e => ?_⟩ hgd.2.2.1).mono ?_
          · rcases hc with hc | hc
            · have := HI.out c hc; omega
            · exact hc.2
          · rcases hc with hc | hc
            · have := HI.out c hc; omega
            · omega
          · have h1 := hgd.2.2.2 k x y e
            exact ⟨(hW.cell (p := ⟨b, _, none⟩) (show b < wc.heap.size by omega)).trans ((hfr1.cell b _ hbl (fun e => hbA e.1)).trans h1.1), (hW.cell (p := ⟨b, _, none⟩) (show b < wc.heap.size by omega)).trans ((hfr1.cell b _ hbl (fun e => hbA e.1)).trans h1.2)⟩
          · rintro e w' ⟨ro', rfl, h1, h2⟩
            refine ⟨ro', rfl, RootT.mono h1 (fun c hc => ?_), h2⟩
            have := h2.size
            rcases hc with (hc | hc) | hc
            · exact .inl hc
            · exact .inr ⟨hc.1, by omega⟩
            · refine .inr ⟨by have := HF.out.res.lt; omega, hc.2⟩
        clear e5 e6 e7 e8 e9 hgd hr1 hcR
        go_upto_region 5 with fail
        go_cut [6] (fun v wx => v = .bool false ∧ FinI A mo I id (some ⟨R, 5, none⟩) ((vs.filter fun v => !(v.f.id == id)) ++ [⟨f, b, o, cap⟩]) w wx)
        case first =>
          go_region_with (go_at_call 31; refine Calls.mono (HWt.out _ ((Below.refl _ wc).drew)) ?_; rintro e w2 ⟨ro2, rfl, hr2, hb2⟩; dsimp only; have hB2 : Below wc.heap.size wc w2 := (Below.refl _ wc).drew.trans hb2; have HR2 : Hid _ := hr2; have d0 := (hB2.cell (p := ⟨A, mo, none⟩) hA1).trans r1; have df := (hB2.frozen (p := ⟨A, mo, none⟩) hA1).trans rf1; have hA2 : A < w2.heap.size := Nat.lt_of_lt_of_le hA1 hB2.size; clear hr2)
          all_goals
            go_wp2_with fail
            go_meet
            exact ⟨rfl, HF.out.set hA hIA hB2 HR2.out⟩
        case rest =>
          obtain ⟨rfl, hfe⟩ := hcut
          have HFE : Hid (FinI A mo I id (some ⟨R, 5, none⟩) ((vs.filter fun v => !(v.f.id == id)) ++ [⟨f, b, o, cap⟩]) w wc) := hfe
          clear hfe c0 c1 c2 f0 f1 f2 x5 x6 x7 x8 x9
          obtain ⟨lb, hl⟩ := HFE.out.lk
          have hlf1 := HFE.out.lf
          have HRes : Hid (K3 (wc.setCell ⟨A, mo + 1, none⟩ (.bool false)) (w.heap.size + 1) (.bool false) .nilFunc (.string ⟨#[]⟩)) := HFE.out.res.fr (frB A wc (mo + 1) _) (fun i e => by have : w.heap.size + 1 = A := e; omega)
          obtain ⟨c0, c1, c2, f0, f1, f2⟩ := HFE.out.chg
          go_wp2_with (first
            | (go_at_call 226; refine (answer_any id 3 (some ⟨R, 5, none⟩) false _).mono ?_; rintro e w4 ⟨rfl, hb4⟩; dsimp only)
            | (go_at_call 194; refine (answered_any _ _).mono ?_; rintro e w5 ⟨rfl, hb5⟩; dsimp only; have hb6 := hb4.trans (hb5.mono hb4.size); have HK2 : Hid (K3 w5 (w.heap.size + 1) (.bool false) .nilFunc (.string ⟨#[]⟩)) := HRes.out.below hb6 (Nat.le_refl _); have d0 := HK2.out.c0; have d1 := HK2.out.c1; have d2 := HK2.out.c2; have g0 := HK2.out.f0; have g1 := HK2.out.f1; have g2 := HK2.out.f2))
          have kk := k3_set HK2.out (.bool false) .nilFunc (.string ⟨#[50, 48, 49]⟩)
          obtain ⟨⟨ro', q1, q2⟩, q3, q4, q5, q6⟩ := HFE.out.fin hA HI.out hIA hb6 (.bool false) .nilFunc (.string ⟨#[50, 48, 49]⟩)
          exact bodyPost_ret (v := .agg #[.bool false, .nilFunc, .string ⟨#[50, 48, 49]⟩]) (by simp [results, Tryz.results208, go_sem, kk.c0, kk.c1, kk.c2]) rfl ⟨by first | rfl | (rw [hhd]; rfl), ⟨ro', q1, [⟨f, b, o, cap⟩], q2, rfl, fun u hu => (by simp at hu; subst hu; exact HGd.out), q5, q6⟩, q3, q4⟩
    | true =>
      have HFin1 : Hid (FinI A mo I id a vs w wc) := hfin1
      obtain ⟨c0, c1, c2, f0, f1, f2⟩ := k0
      clear hfin0 hfin1 k1 hlk
      have HW : Hid (∀ W : World, Below wc.heap.size wc W → Calls Tryz.prog 225 #[.agg #[.pointer ro], .int .i64 id] W fun e w' => ∃ ro', e = .returned (.agg #[.pointer ro']) ∧ RootT (okN I W.heap.size w'.heap.size) w' ro' (vs.filter fun v => !(v.f.id == id)) ∧ Below W.heap.size W w') := fun W hW => by
        have hb := hB.trans (hW.mono hB.size)
        exact Without_any I ro vs id W (fun b hb' => Nat.lt_of_lt_of_le (HI.out b hb') hb.size) (RootT.same HR.out (Same.of_below hb HI.out)) (fun v hv => Good.same (Same.of_below hb HI.out) (HG.out v hv))
      go_upto_region 3 with fail
      go_cut [6] (fun v wx => v = .bool true ∧ FinI A mo I id a (vs.filter fun v => !(v.f.id == id)) w wx)
      case first =>
        go_region_with (go_at_call 225; refine Calls.mono (HW.out _ ((Below.refl _ wc).drew)) ?_; rintro e w2 ⟨ro2, rfl, hr2, hb2⟩; dsimp only; have hB2 : Below wc.heap.size wc w2 := (Below.refl _ wc).drew.trans hb2; have HR2 : Hid (RootT (okN I (w.heap.size + 2) w2.heap.size) w2 ro2 (vs.filter fun v => !(v.f.id == id))) := RootT.mono hr2 (fun b hb => hb.imp _root_.id (fun h => ⟨by simp at h; omega, h.2⟩)); have d0 := (hB2.cell (p := ⟨A, mo, none⟩) hAc).trans r0; have df := (hB2.frozen (p := ⟨A, mo, none⟩) hAc).trans rf; have hA2 : A < w2.heap.size := Nat.lt_of_lt_of_le hAc hB2.size; clear hr2)
        all_goals
          go_wp2_with fail
          go_meet
          exact ⟨rfl, HFin1.out.set hA hIA hB2 HR2.out⟩
      case rest =>
        obtain ⟨rfl, hfin⟩ := hcut
        clear c0 c1 c2 f0 f1 f2 r0 rf
        go_upto_region 4 with fail
        have HF : Hid (FinI A mo I id a (vs.filter fun v => !(v.f.id == id)) w wc) := hfin
        obtain ⟨ro1, r1, hr1⟩ := hfin.root
        have rf1 := hfin.rf
        have hA1 : A < wc.heap.size := World.block_lt_of_cell? wc _ r1
        have hfr1 := hfin.fr
        obtain ⟨c0, c1, c2, f0, f1, f2⟩ := hfin.chg
        clear hfin
        cases p with
        | none =>
          have ha : a = none := HP.out
          subst ha
          have HFE : Hid (FinI A mo I id none ((vs.filter fun v => !(v.f.id == id)) ++ []) w wc) := by rw [List.append_nil]; exact HF.out
          clear c0 c1 c2 f0 f1 f2
          obtain ⟨lb, hl⟩ := HFE.out.lk
          have hlf1 := HFE.out.lf
          have HRes : Hid (K3 (wc.setCell ⟨A, mo + 1, none⟩ (.bool false)) (w.heap.size + 1) (.bool false) .nilFunc (.string ⟨#[]⟩)) := HFE.out.res.fr (frB A wc (mo + 1) _) (fun i e => by have : w.heap.size + 1 = A := e; omega)
          obtain ⟨c0, c1, c2, f0, f1, f2⟩ := HFE.out.chg
          go_wp2_with (first
            | (go_at_call 226; refine (answer_any id 3 none true _).mono ?_; rintro e w4 ⟨rfl, hb4⟩; dsimp only)
            | (go_at_call 194; refine (answered_any _ _).mono ?_; rintro e w5 ⟨rfl, hb5⟩; dsimp only; have hb6 := hb4.trans (hb5.mono hb4.size); have HK2 : Hid (K3 w5 (w.heap.size + 1) (.bool false) .nilFunc (.string ⟨#[]⟩)) := HRes.out.below hb6 (Nat.le_refl _); have d0 := HK2.out.c0; have d1 := HK2.out.c1; have d2 := HK2.out.c2; have g0 := HK2.out.f0; have g1 := HK2.out.f1; have g2 := HK2.out.f2))
          have kk := k3_set HK2.out (.bool false) .nilFunc (.string ⟨#[50, 48, 48]⟩)
          obtain ⟨⟨ro', q1, q2⟩, q3, q4, q5, q6⟩ := HFE.out.fin hA HI.out hIA hb6 (.bool false) .nilFunc (.string ⟨#[50, 48, 48]⟩)
          exact bodyPost_ret (v := .agg #[.bool false, .nilFunc, .string ⟨#[50, 48, 48]⟩]) (by simp [results, Tryz.results208, go_sem, kk.c0, kk.c1, kk.c2]) rfl ⟨by first | rfl | (rw [hhd]; rfl), ⟨ro', q1, [], q2, rfl, fun u hu => (by cases hu), q5, q6⟩, q3, q4⟩
        | some f =>
          obtain ⟨R, b, o, cap, rfl, hR, e5, e6, e7, e8, e9, hgd⟩ := HP.out
          have hRA : R ≠ A := fun e => hIA (by rw [← e]; exact hR)
          have hRl := HI.out R hR
          have hcR : ∀ i, wc.cell? ⟨R, i, none⟩ = w.cell? ⟨R, i, none⟩ := fun i => hfr1.cell R i hRl (fun e => hRA e.1)
          have x5 := (hcR 5).trans e5
          have x6 := (hcR 6).trans e6
          have x7 := (hcR 7).trans e7
          have x8 := (hcR 8).trans e8
          have x9 := (hcR 9).trans e9
          have hne := neq_ptr
          have hbA : b ≠ A := fun e => hIA (by rw [← e]; exact hgd.2.1)
          have hbl := HI.out b hgd.2.1
          have hsz1 := hfr1.size
          have hRc : R < wc.heap.size := by omega
          have HGd : Hid (Good I w ⟨f, b, o, cap⟩) := hgd
          have HWt : Hid (∀ W : World, Below wc.heap.size wc W → Calls Tryz.prog 31 #[.agg #[.pointer ro1], .agg #[.int .i64 f.id, .int .i64 f.kd, .int .i64 f.ht, .int .i64 f.col, .slice (some ⟨b, o, none⟩) f.ps.length cap]] W fun e w' => ∃ ro' : Option Addr, e = .returned (.agg #[.pointer ro']) ∧ RootT (okN I (w.heap.size + 2) w'.heap.size) w' ro' ((vs.filter fun v => !(v.f.id == id)) ++ [⟨f, b, o, cap⟩]) ∧ Below W.heap.size W w') := fun W hW => by
            have hsW := hW.size
            refine (With_any (okN I (w.heap.size + 2) wc.heap.size) ⟨f, b, o, cap⟩ ro1 _ W (RootT.same hr1 (Same.of_below hW (fun c hc => ?_))) (fun u hu => (HG.out u (List.mem_filter.1 hu).1).1) hgd.1 (fun c hc => ?_) (.inl hgd.2.1) ⟨by show b < _; omega, fun k x y e => ?_⟩ hgd.2.2.1).mono ?_
            · rcases hc with hc | hc
              · have := HI.out c hc; omega
              · exact hc.2
            · rcases hc with hc | hc
              · have := HI.out c hc; omega
              · omega
            · have h1 := hgd.2.2.2 k x y e
              exact ⟨(hW.cell (p := ⟨b, _, none⟩) (show b < wc.heap.size by omega)).trans ((hfr1.cell b _ hbl (fun e => hbA e.1)).trans h1.1), (hW.cell (p := ⟨b, _, none⟩) (show b < wc.heap.size by omega)).trans ((hfr1.cell b _ hbl (fun e => hbA e.1)).trans h1.2)⟩
            · rintro e w' ⟨ro', rfl, h1, h2⟩
              refine ⟨ro', rfl, RootT.mono h1 (fun c hc => ?_), h2⟩
              have := h2.size
              rcases hc with (hc | hc) | hc
              · exact .inl hc
              · exact .inr ⟨hc.1, by omega⟩
              · refine .inr ⟨by have := HF.out.res.lt; omega, hc.2⟩
          clear e5 e6 e7 e8 e9 hgd hr1 hcR
          go_upto_region 5 with fail
          go_cut [6] (fun v wx => v = .bool true ∧ FinI A mo I id (some ⟨R, 5, none⟩) ((vs.filter fun v => !(v.f.id == id)) ++ [⟨f, b, o, cap⟩]) w wx)
          case first =>
            go_region_with (go_at_call 31; refine Calls.mono (HWt.out _ ((Below.refl _ wc).drew)) ?_; rintro e w2 ⟨ro2, rfl, hr2, hb2⟩; dsimp only; have hB2 : Below wc.heap.size wc w2 := (Below.refl _ wc).drew.trans hb2; have HR2 : Hid _ := hr2; have d0 := (hB2.cell (p := ⟨A, mo, none⟩) hA1).trans r1; have df := (hB2.frozen (p := ⟨A, mo, none⟩) hA1).trans rf1; have hA2 : A < w2.heap.size := Nat.lt_of_lt_of_le hA1 hB2.size; clear hr2)
            all_goals
              go_wp2_with fail
              go_meet
              exact ⟨rfl, HF.out.set hA hIA hB2 HR2.out⟩
          case rest =>
            obtain ⟨rfl, hfe⟩ := hcut
            have HFE : Hid (FinI A mo I id (some ⟨R, 5, none⟩) ((vs.filter fun v => !(v.f.id == id)) ++ [⟨f, b, o, cap⟩]) w wc) := hfe
            clear hfe c0 c1 c2 f0 f1 f2 x5 x6 x7 x8 x9
            obtain ⟨lb, hl⟩ := HFE.out.lk
            have hlf1 := HFE.out.lf
            have HRes : Hid (K3 (wc.setCell ⟨A, mo + 1, none⟩ (.bool false)) (w.heap.size + 1) (.bool false) .nilFunc (.string ⟨#[]⟩)) := HFE.out.res.fr (frB A wc (mo + 1) _) (fun i e => by have : w.heap.size + 1 = A := e; omega)
            obtain ⟨c0, c1, c2, f0, f1, f2⟩ := HFE.out.chg
            go_wp2_with (first
              | (go_at_call 226; refine (answer_any id 3 (some ⟨R, 5, none⟩) true _).mono ?_; rintro e w4 ⟨rfl, hb4⟩; dsimp only)
              | (go_at_call 194; refine (answered_any _ _).mono ?_; rintro e w5 ⟨rfl, hb5⟩; dsimp only; have hb6 := hb4.trans (hb5.mono hb4.size); have HK2 : Hid (K3 w5 (w.heap.size + 1) (.bool false) .nilFunc (.string ⟨#[]⟩)) := HRes.out.below hb6 (Nat.le_refl _); have d0 := HK2.out.c0; have d1 := HK2.out.c1; have d2 := HK2.out.c2; have g0 := HK2.out.f0; have g1 := HK2.out.f1; have g2 := HK2.out.f2))
            have kk := k3_set HK2.out (.bool false) .nilFunc (.string ⟨#[50, 48, 48]⟩)
            obtain ⟨⟨ro', q1, q2⟩, q3, q4, q5, q6⟩ := HFE.out.fin hA HI.out hIA hb6 (.bool false) .nilFunc (.string ⟨#[50, 48, 48]⟩)
            exact bodyPost_ret (v := .agg #[.bool false, .nilFunc, .string ⟨#[50, 48, 48]⟩]) (by simp [results, Tryz.results208, go_sem, kk.c0, kk.c1, kk.c2]) rfl ⟨by first | rfl | (rw [hhd]; rfl), ⟨ro', q1, [⟨f, b, o, cap⟩], q2, rfl, fun u hu => (by simp at hu; subst hu; exact HGd.out), q5, q6⟩, q3, q4⟩

end Go.Proofs.YtenaepdmlknlcaaGreatDoor
