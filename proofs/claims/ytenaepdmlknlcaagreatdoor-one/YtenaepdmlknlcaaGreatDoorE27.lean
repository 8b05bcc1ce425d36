import Derived.Test.YtenaepdmlknlcaaGreatDoorE26
namespace Go.Proofs.YtenaepdmlknlcaaGreatDoor
open Go.RowKit Go.Shelf

theorem boxes_row (I : Nat → Prop) (id z : Int) (a : Option Addr) (p : Option Feat) (ro : Option Addr) (vs : List FV) (w : World) (hI : ∀ b, I b → b < w.heap.size) (hp : PutAt I w a p) (hR : RootT I w ro vs) (hg : ∀ v ∈ vs, Good I w v) (hd : DistF (vs.map (·.f))) :
    Calls Tryz.prog 207 #[chgV id a z, .agg #[.pointer ro]] w fun e w' => ∃ (a2 : Option Addr) (n2 cap2 : Nat), e = .returned (.slice a2 n2 cap2) ∧ n2 = (boxesF p (vs.map (·.f)) id).length ∧ n2 ≤ cap2 ∧ (boxesF p (vs.map (·.f)) id = [] ∨ ∃ g, a2 = some ⟨g, 0, none⟩ ∧ w.heap.size ≤ g ∧ g < w'.heap.size ∧ BxsAt w' g (boxesF p (vs.map (·.f)) id)) ∧ Below w.heap.size w w' := by
  refine (boxes_any I id z a p ro vs w hI hp hR hg hd).mono ?_
  rintro e w' ⟨v, rfl, hown, hb⟩
  rcases hown.2 with ⟨e1, e2⟩ | ⟨g, cap, cur, e1, e2, e3, e4, _⟩
  · subst e1
    exact ⟨none, 0, 0, rfl, e2.symm, Nat.le_refl _, .inl (List.length_eq_zero_iff.1 e2), hb⟩
  · subst e1
    exact ⟨_, _, cap, rfl, rfl, e4, .inr ⟨g, rfl, e2, (Array.getElem?_eq_some_iff.1 e3).1, BxsAt.own hown rfl⟩, hb⟩
theorem boxesF_len (p : Option Feat) (fs : List Feat) (id : Int) : (boxesF p fs id).length ≤ 2 := by
  unfold boxesF
  cases p <;> cases findF id fs <;> simp

theorem frV (wc w2 : World) (n : Nat) (h : Fr (fun b _ => n ≤ b) wc w2) (u0 u1 u2 : Value) : Fr (fun b _ => n ≤ b) wc (((w2.setCell ⟨n + 1, 0, none⟩ u0).setCell ⟨n + 1, 1, none⟩ u1).setCell ⟨n + 1, 2, none⟩ u2) :=
  ((h.setCell (b := n + 1) (i := 0) (.inl (by omega)) u0).setCell (b := n + 1) (i := 1) (.inl (by omega)) u1).setCell (b := n + 1) (i := 2) (.inl (by omega)) u2
/-- What a step that forgets is followed by. -/
def nextF (id : Int) (a : Option Addr) (z : Nat) : Value := if z = 3 then .func (.func 208) #[chgV id a 3] #[] else .func (.func 193) #[chgV id a ((z + 1 : Nat) : Int)] #[]

set_option maxRecDepth 100000 in
set_option maxHeartbeats 4000000 in
theorem forget_step (A mo : Nat) (I : Nat → Prop) (id : Int) (a : Option Addr) (p : Option Feat) (z : Nat) (ro : Option Addr) (vs : List FV) (sv : Nat → Value) (S : Shs) (w : World) (hz : z ≤ 3) (hA : A < w.heap.size) (hro : w.cell? ⟨A, mo, none⟩ = some (.pointer ro)) (hI : ∀ b, I b → b < w.heap.size) (hp : PutAt I w a p) (hR : RootT I w ro vs) (hg : ∀ v ∈ vs, Good I w v) (hd : DistF (vs.map (·.f))) (hs : ShsAt w A (mo + 2) sv S) :
    Calls Tryz.prog 193 #[chgV id a (z : Int), .pointer (some ⟨A, mo, none⟩)] w fun e w' => e = .returned (.agg #[.bool false, nextF id a z, .string ⟨#[]⟩]) ∧ ∃ sv', ShsAt w' A (mo + 2) sv' (forgetS z (boxesF p (vs.map (·.f)) id) S) ∧ (∀ k, k < 4 → (sv' k).ownBlock = (sv k).ownBlock) ∧ Fr (FgM A (mo + 2) sv) w w' := by
  have hvs : ∀ k g, k < 4 → (sv k).ownBlock = some g → g < w.heap.size := fun k g hk e => (hs.sh k hk).ownLt g e
  have hMlt : ∀ b i, FgM A (mo + 2) sv b i → b < w.heap.size := fun b i e => by
    rcases e with ⟨rfl, _⟩ | ⟨k, hk, e⟩
    · exact hA
    · exact hvs k b hk e
  have hB0 : ∀ o o' : Obj, Below w.heap.size w ((w.alloc o).alloc o').drew := fun o o' => (((Below.refl _ _).alloc (Nat.le_refl _) _).alloc (by simp) _).drew
  have HBx : Hid (∀ W : World, Below w.heap.size w W → Calls Tryz.prog 207 #[chgV id a (z : Int), .agg #[.pointer ro]] W fun e w' => ∃ (a2 : Option Addr) (n2 cap2 : Nat), e = .returned (.slice a2 n2 cap2) ∧ Hid (∀ W', Below w'.heap.size w' W' → Calls Tryz.prog 206 #[.pointer (some ⟨A, mo + 2, none⟩), .int .i64 (z : Int), .slice a2 n2 cap2] W' fun e w'' => e = .returned (.tuple #[]) ∧ ∃ sv', ShsAt w'' A (mo + 2) sv' (forgetS z (boxesF p (vs.map (·.f)) id) S) ∧ (∀ k, k < 4 → (sv' k).ownBlock = (sv k).ownBlock) ∧ Fr (FgM A (mo + 2) sv) W' w'') ∧ Below W.heap.size W w') := fun W hW => by
    refine (boxes_row I id (z : Int) a p ro vs W (fun b hb => Nat.lt_of_lt_of_le (hI b hb) hW.size) (hp.same (Same.of_below hW hI)) (RootT.same hR (Same.of_below hW hI)) (fun v hv => Good.same (Same.of_below hW hI) (hg v hv)) hd).mono ?_
    rintro e w' ⟨a2, n2, cap2, rfl, h1, h2, h3, h4⟩
    have hb : Below w.heap.size w w' := hW.trans (h4.mono hW.size)
    refine ⟨a2, n2, cap2, rfl, fun W' hW' => ?_, h4⟩
    have hb' : Below w.heap.size w W' := hb.trans (hW'.mono hb.size)
    have hl := boxesF_len p (vs.map (·.f)) id
    refine Forget_any A (mo + 2) z a2 n2 cap2 _ sv S W' hz (hs.below hb') h1 h2 (by omega) (h3.imp _root_.id fun ⟨g, e1, e2, e3, e4⟩ => ⟨g, e1, Nat.lt_of_lt_of_le e3 hW'.size, fun i e => ?_, e4.below hW' e3⟩)
    have := hMlt g i e
    have := hW.size
    omega
  clear hp hR hg hd hs hI
  go_enter Tryz.func193, Tryz.ntmps193
  go_wp2_with fail
  go_cut [16] (fun v wc => (∃ sv', ShsAt wc A (mo + 2) sv' (forgetS z (boxesF p (vs.map (·.f)) id) S) ∧ (∀ k, k < 4 → (sv' k).ownBlock = (sv k).ownBlock)) ∧ K3 wc w.heap.size (.int .i64 id) (.pointer a) (.int .i64 (z : Int)) ∧ K3 wc (w.heap.size + 1) (.bool false) .nilFunc (.string ⟨#[]⟩) ∧ Fr (FgM A (mo + 2) sv) w wc)
  case first =>
    have hA1 : A < w.heap.size + 1 := by omega
    have k00 : ∀ o' : Obj, K3 ((w.alloc (.cells #[.int .i64 id, .pointer a, .int .i64 (z : Int)] 294)).alloc o').drew w.heap.size (.int .i64 id) (.pointer a) (.int .i64 (z : Int)) := fun o' => ⟨by simp [go_sem], by simp [go_sem], by simp [go_sem], by simp [go_sem], by simp [go_sem], by simp [go_sem]⟩
    have k01 : ∀ o : Obj, K3 ((w.alloc o).alloc (.cells #[.bool false, .nilFunc, .string ⟨#[]⟩] 231)).drew (w.heap.size + 1) (.bool false) .nilFunc (.string ⟨#[]⟩) := fun o => (K3.new2 w o _ _ _ _).drew
    go_region_with (first
      | (go_at_call 207; refine Calls.mono (HBx.out _ (hB0 _ _)) ?_; rintro e w2 ⟨a2, n2, cap2, rfl, h206, hb2⟩; dsimp only; have hB2 : Below w.heap.size w w2 := (hB0 _ _).trans (hb2.mono (by simp; omega)); have hr2 := (hB2.cell (p := ⟨A, mo, none⟩) hA).trans hro; have q0 := (hb2.cell (p := ⟨w.heap.size, 0, none⟩) (by simp; omega)).trans (show _ = some (Value.int .i64 id) by simp [go_sem]); have q1 := (hb2.cell (p := ⟨w.heap.size, 1, none⟩) (by simp; omega)).trans (show _ = some (Value.pointer a) by simp [go_sem]); have q2 := (hb2.cell (p := ⟨w.heap.size, 2, none⟩) (by simp; omega)).trans (show _ = some (Value.int .i64 (z : Int)) by simp [go_sem]))
      | (go_at_call 206; refine Calls.mono (h206.out _ (Below.refl _ _)) ?_; rintro e w3 ⟨rfl, sv3, h31, h32, h33⟩; dsimp only; have H31 : Hid _ := h31; have H32 : Hid _ := h32; have H33 : Hid _ := h33; clear h31 h32 h33))
    all_goals
      go_wp2_with fail
      go_meet
      refine ⟨⟨sv3, H31.out, H32.out⟩, ((k00 _).below hb2 (Nat.le_refl _)).fr H33.out (fun i e => ?_), ((k01 _).below hb2 (Nat.le_refl _)).fr H33.out (fun i e => ?_), (Fr.of_below hB2).trans H33.out⟩
      · have := hMlt _ _ e; omega
      · have := hMlt _ _ e; omega
  case rest =>
    obtain ⟨⟨sv', h1, h2⟩, k0, k1, hF⟩ := hcut
    have H1 : Hid _ := h1
    have H2 : Hid _ := h2
    have HF : Hid (Fr (FgM A (mo + 2) sv) w wc) := hF
    have hsz := hF.size
    have l1 : w.heap.size + 1 < wc.heap.size := k1.lt
    have HK1 : Hid (K3 wc (w.heap.size + 1) (.bool false) .nilFunc (.string ⟨#[]⟩)) := k1
    obtain ⟨c0, c1, c2, f0, f1, f2⟩ := k0
    clear h1 h2 hF k1
    by_cases h3 : z = 3
    · subst h3
      go_wp2_with (go_at_call 190; refine (then_any _ _ _ _).mono ?_; rintro e w2 ⟨rfl, hb2⟩; dsimp only; have HK2 : Hid (K3 w2 (w.heap.size + 1) (.bool false) .nilFunc (.string ⟨#[]⟩)) := HK1.out.below hb2 (Nat.le_refl _); have d0 := HK2.out.c0; have d1 := HK2.out.c1; have d2 := HK2.out.c2; have g0 := HK2.out.f0; have g1 := HK2.out.f1; have g2 := HK2.out.f2)
      have kk := k3_set HK2.out (.bool false) (.func (.func 208) #[chgV id a 3] #[]) (.string ⟨#[]⟩)
      have hV := frV wc w2 w.heap.size (Fr.of_below hb2) (.bool false) (.func (.func 208) #[chgV id a 3] #[]) (.string ⟨#[]⟩)
      exact bodyPost_ret (v := .agg #[.bool false, .func (.func 208) #[chgV id a 3] #[], .string ⟨#[]⟩]) (by simp [results, Tryz.results193, go_sem, kk.c0, kk.c1, kk.c2]) rfl ⟨rfl, sv', H1.out.fr hV (fun i _ e => by omega) (fun k g i hk e e' => by have := hvs k g hk ((H2.out k hk).symm.trans e); omega), H2.out, HF.out.trans_new hV (fun b i hb e => by omega)⟩
    · have hz3 : ((z : Int) == 3) = false := by rw [beq_eq_false_iff_ne]; omega
      have hzz : (z : Int) < 3 := by omega
      have HKs : Hid (K3 (wc.setCell ⟨w.heap.size, 2, none⟩ (.int .i64 ((z : Int) + 1))) (w.heap.size + 1) (.bool false) .nilFunc (.string ⟨#[]⟩)) := HK1.out.fr (frB w.heap.size wc 2 _) (fun i e => by have : w.heap.size + 1 = w.heap.size := e; omega)
      go_wp2_with (go_at_call 190; refine (then_any _ _ _ _).mono ?_; rintro e w2 ⟨rfl, hb2⟩; dsimp only; have HK2 : Hid (K3 w2 (w.heap.size + 1) (.bool false) .nilFunc (.string ⟨#[]⟩)) := HKs.out.below hb2 (Nat.le_refl _); have d0 := HK2.out.c0; have d1 := HK2.out.c1; have d2 := HK2.out.c2; have g0 := HK2.out.f0; have g1 := HK2.out.f1; have g2 := HK2.out.f2)
      have kk := k3_set HK2.out (.bool false) (.func (.func 193) #[chgV id a ((z : Int) + 1)] #[]) (.string ⟨#[]⟩)
      have hV := frV wc w2 w.heap.size (((Fr.refl _ wc).setCell (b := w.heap.size) (i := 2) (.inl (Nat.le_refl _)) _).trans (Fr.of_below hb2)) (.bool false) (.func (.func 193) #[chgV id a ((z : Int) + 1)] #[]) (.string ⟨#[]⟩)
      have hnx : nextF id a z = .func (.func 193) #[chgV id a ((z : Int) + 1)] #[] := by unfold nextF; rw [if_neg h3]; rfl
      exact bodyPost_ret (v := .agg #[.bool false, .func (.func 193) #[chgV id a ((z : Int) + 1)] #[], .string ⟨#[]⟩]) (by simp [results, Tryz.results193, go_sem, kk.c0, kk.c1, kk.c2]) rfl ⟨by rw [hnx], sv', H1.out.fr hV (fun i _ e => by omega) (fun k g i hk e e' => by have := hvs k g hk ((H2.out k hk).symm.trans e); omega), H2.out, HF.out.trans_new hV (fun b i hb e => by omega)⟩

end Go.Proofs.YtenaepdmlknlcaaGreatDoor
