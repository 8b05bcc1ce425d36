import Derived.Test.YtenaepdmlknlcaaGreatDoorF26
namespace Go.Proofs.YtenaepdmlknlcaaGreatDoor
open Go.RowKit Go.Shelf

def sumW (ws : Nat → Nat) : Nat → Nat
  | 0 => 0
  | k + 1 => sumW ws k + ws k

theorem cell_new2 (w : World) (o : Obj) (vs : Array Value) (i : Nat) (t : TypeId := 77) : ((w.alloc o).drew.alloc (.cells vs t)).cell? ⟨w.heap.size + 1, i, none⟩ = vs[i]? := by simp [go_sem]
theorem frozen_new2 (w : World) (o : Obj) (vs : Array Value) (i : Nat) (t : TypeId := 77) : ((w.alloc o).drew.alloc (.cells vs t)).frozen? ⟨w.heap.size + 1, i, none⟩ = false := by simp [go_sem]
theorem cell_alloc_lt (w : World) (o : Obj) (p : Addr) (h : p.block < w.heap.size) : (w.alloc o).cell? p = w.cell? p := ((Below.refl w.heap.size w).alloc (Nat.le_refl _) o).cell h
theorem frozen_alloc_lt (w : World) (o : Obj) (p : Addr) (h : p.block < w.heap.size) : (w.alloc o).frozen? p = w.frozen? p := ((Below.refl w.heap.size w).alloc (Nat.le_refl _) o).frozen h

theorem k3_set {w : World} {b : Nat} {v0 v1 v2 : Value} (k : K3 w b v0 v1 v2) (u0 u1 u2 : Value) : K3 (((w.setCell ⟨b, 0, none⟩ u0).setCell ⟨b, 1, none⟩ u1).setCell ⟨b, 2, none⟩ u2) b u0 u1 u2 := by
  obtain ⟨c0, c1, c2, f0, f1, f2⟩ := k
  constructor <;> simp [go_sem, c0, c1, c2, f0, f1, f2]
theorem ka_set3 {w : World} {b c : Nat} {vs : List Value} (k : KA w c vs) (h : c ≠ b) (u0 u1 u2 : Value) : KA (((w.setCell ⟨b, 0, none⟩ u0).setCell ⟨b, 1, none⟩ u1).setCell ⟨b, 2, none⟩ u2) c vs := fun i v hi => by
  refine ⟨?_, ?_⟩
  · rw [cell_ne _ _ (.inl (fun e => h e.symm)), cell_ne _ _ (.inl (fun e => h e.symm)), cell_ne _ _ (.inl (fun e => h e.symm))]
    exact (k i v hi).1
  · rw [World.frozen?_setCell, World.frozen?_setCell, World.frozen?_setCell]
    exact (k i v hi).2

set_option maxRecDepth 100000 in
set_option maxHeartbeats 1000000 in
/-- How the atlas is. -/
theorem Look_gen (A : Nat) (ro : Option Addr) (fsn : Nat) (lk : Bool) (ws : Nat → Nat) (w : World) (hA : A < w.heap.size) (hroot : w.cell? ⟨A, 0, none⟩ = some (.pointer ro)) (hlk : w.cell? ⟨A, 1, none⟩ = some (.bool lk)) (hws : ∀ k, k < 4 → ws k ≤ 1000)
    (hC : ∀ W, Below w.heap.size w W → Calls Tryz.prog 49 #[.agg #[.pointer ro]] W fun e w' => e = .returned (.int .i64 (fsn : Int)) ∧ Below W.heap.size W w')
    (hW : ∀ k W, k < 4 → Below w.heap.size w W → Calls Tryz.prog 50 #[.pointer (some ⟨A, 11 + k * 3, none⟩)] W fun e w' => e = .returned (.int .i64 (ws k : Int)) ∧ w' = W) :
    Calls Tryz.prog 26 #[.pointer (some ⟨A, 0, none⟩)] w fun e w' => e = .returned (.agg #[.int .i64 (fsn : Int), .bool lk, .int .i64 (sumW ws 4 : Int)]) ∧ Below w.heap.size w w' := by
  have HC : Hid _ := hC
  have HW : Hid _ := hW
  have HS : Hid (∀ k, k < 4 → ws k ≤ 1000) := hws
  clear hC hW hws
  go_enter Tryz.func26, Tryz.ntmps26
  go_wp2_with fail
  go_cut [3] (fun v wc => ∃ b, v = .pointer (some ⟨b, 0, none⟩) ∧ K3 wc b (.int .i64 (fsn : Int)) (.bool lk) (.int .i64 0) ∧ KA wc w.heap.size [.int .i64 0, .bool false, .int .i64 0] ∧ w.heap.size < b ∧ Below w.heap.size w wc)
  case first =>
    have hB0 : ∀ o : Obj, Below w.heap.size w (w.alloc o).drew := fun o => ((Below.refl _ _).alloc (Nat.le_refl _) _).drew
    have hB1 : ∀ o o' : Obj, Below w.heap.size w ((w.alloc o).drew.alloc o') := fun o o' => (((Below.refl _ _).alloc (Nat.le_refl _) _).drew).alloc (by simp) _
    have hA1 : A < w.heap.size + 1 := by omega
    go_region_with (first
      | (go_at_call 49; refine Calls.mono (HC.out _ (hB0 _)) ?_; rintro e w1 ⟨rfl, hb1⟩; dsimp only; have hb2 : Below w.heap.size w w1 := (hB0 _).trans (hb1.mono (by simp)); have hA2 : A < w1.heap.size := (by have := hb2.size; omega); have r0 := (hb2.cell (p := ⟨A, 0, none⟩) hA).trans hroot; have r1 := (hb2.cell (p := ⟨A, 1, none⟩) hA).trans hlk; have hz1 : w.heap.size < w1.heap.size := (by have := hb1.size; simp at this; omega); have HZ : Hid (KA w1 w.heap.size [.int .i64 0, .bool false, .int .i64 0]) := (fun i v hi => ⟨(hb1.cell (p := ⟨w.heap.size, i, none⟩) (by simp)).trans (KA.new w [.int .i64 0, .bool false, .int .i64 0] 77 i v hi).1, (hb1.frozen (p := ⟨w.heap.size, i, none⟩) (by simp)).trans (KA.new w [.int .i64 0, .bool false, .int .i64 0] 77 i v hi).2⟩))
      | (go_at_call 49; refine Calls.mono (HC.out _ (hB1 _ _)) ?_; rintro e w1 ⟨rfl, hb1⟩; dsimp only; have hb2 : Below w.heap.size w w1 := (hB1 _ _).trans (hb1.mono (by simp <;> omega)); have hA2 : A < w1.heap.size := (by have := hb2.size; omega); have r0 := (hb2.cell (p := ⟨A, 0, none⟩) hA).trans hroot; have r1 := (hb2.cell (p := ⟨A, 1, none⟩) hA).trans hlk; have t0 := (hb1.cell (p := ⟨w.heap.size + 1, 0, none⟩) (by simp)).trans (cell_new2 w _ _ 0); have t1 := (hb1.cell (p := ⟨w.heap.size + 1, 1, none⟩) (by simp)).trans (cell_new2 w _ _ 1); have t2 := (hb1.cell (p := ⟨w.heap.size + 1, 2, none⟩) (by simp)).trans (cell_new2 w _ _ 2); have s0 := (hb1.frozen (p := ⟨w.heap.size + 1, 0, none⟩) (by simp)).trans (frozen_new2 w _ _ 0); have s1 := (hb1.frozen (p := ⟨w.heap.size + 1, 1, none⟩) (by simp)).trans (frozen_new2 w _ _ 1); have s2 := (hb1.frozen (p := ⟨w.heap.size + 1, 2, none⟩) (by simp)).trans (frozen_new2 w _ _ 2); simp only [List.getElem?_toArray, List.getElem?_cons_succ, List.getElem?_cons_zero] at t0 t1 t2; have hz1 : w.heap.size + 1 < w1.heap.size := (by have := hb1.size; simp at this; omega); have HZ : Hid (KA w1 w.heap.size [.int .i64 0, .bool false, .int .i64 0]) := (fun i v hi => ⟨(hb1.cell (p := ⟨w.heap.size, i, none⟩) (by simp <;> omega)).trans ((cell_alloc_lt _ _ _ (by simp)).trans (KA.new w [.int .i64 0, .bool false, .int .i64 0] 77 i v hi).1), (hb1.frozen (p := ⟨w.heap.size, i, none⟩) (by simp <;> omega)).trans ((frozen_alloc_lt _ _ _ (by simp)).trans (KA.new w [.int .i64 0, .bool false, .int .i64 0] 77 i v hi).2)⟩)))
    all_goals
      go_wp2_with fail
      go_meet
      first
        | exact ⟨w1.heap.size, rfl, K3.new w1 _ _ _ 77, HZ.out.alloc _, hz1, hb2.alloc hb2.size _⟩
        | exact ⟨w.heap.size + 1, rfl, k3_set ⟨t0, t1, t2, s0, s1, s2⟩ _ _ _, ka_set3 HZ.out (by omega) _ _ _, by omega, set3b hb2 (by omega) _ _ _⟩
  case rest =>
    obtain ⟨b, rfl, hk3, hz, hb, hB⟩ := hcut
    have HK : Hid (K3 wc b (.int .i64 (fsn : Int)) (.bool lk) (.int .i64 0)) := hk3
    have HZ : Hid (KA wc w.heap.size [.int .i64 0, .bool false, .int .i64 0]) := hz
    clear hk3 hz
    have hbl : b < wc.heap.size := World.block_lt_of_cell? wc ⟨b, 0, none⟩ HK.out.c0
    go_wp2_with fail
    go_loopw [17] (fun i wr => ∃ k : Nat, k ≤ 4 ∧ i = .int .i64 k ∧ K3 wr b (.int .i64 (fsn : Int)) (.bool lk) (.int .i64 (sumW ws k : Int)) ∧ KA wr w.heap.size [.int .i64 0, .bool false, .int .i64 0] ∧ Below w.heap.size w wr) (fun i _ => 4 - (intOf i).toNat)
    case atStart => exact ⟨0, by omega, rfl, HK.out, HZ.out, hB⟩
    case round =>
      obtain ⟨k, hk, rfl, hk3, hz, hBr⟩ := hrel
      have HKr : Hid (K3 wr b (.int .i64 (fsn : Int)) (.bool lk) (.int .i64 (sumW ws k : Int))) := hk3
      have HZr : Hid (KA wr w.heap.size [.int .i64 0, .bool false, .int .i64 0]) := hz
      have hblr : b < wr.heap.size := World.block_lt_of_cell? wr ⟨b, 0, none⟩ hk3.c0
      clear hz
      by_cases h4 : k < 4
      · have hk4 : (k : Int) < 4 := by omega
        have hk0 : (0 : Int) ≤ (k : Int) := by omega
        obtain ⟨c0, c1, c2, f0, f1, f2⟩ := hk3
        have hsum : sumW ws k ≤ 4000 := by
          have h0 := HS.out 0 (by omega); have h1 := HS.out 1 (by omega); have h2 := HS.out 2 (by omega); have h3 := HS.out 3 (by omega)
          match k, h4 with
          | 0, _ => simp [sumW]
          | 1, _ => simp [sumW]; omega
          | 2, _ => simp [sumW]; omega
          | 3, _ => simp [sumW]; omega
        have hwk := HS.out k h4
        go_upto_region 5 with fail
        go_region_with (go_at_call 50; refine Calls.mono (HW.out k _ h4 (hBr.drew)) ?_; rintro e w1 ⟨rfl, rfl⟩; dsimp only)
        all_goals
          go_wp2
          refine ⟨⟨k + 1, by omega, by go_num, K3.drew ⟨?_, ?_, ?_, ?_, ?_, ?_⟩, KA.drew (fun i v hi => ⟨(cell_ne _ _ (.inl (by omega))).trans (HZr.out i v hi).1, by rw [World.frozen?_setCell]; exact (HZr.out i v hi).2⟩), (hBr.trans (below_set1 _ _ _ _ (by omega) _)).drew⟩, by simp [intOf]; omega⟩
          · exact (cell_ne _ _ (.inr (by decide))).trans c0
          · exact (cell_ne _ _ (.inr (by decide))).trans c1
          · rw [cell_eq c2]; simp [sumW]
          · rw [World.frozen?_setCell]; exact f0
          · rw [World.frozen?_setCell]; exact f1
          · rw [World.frozen?_setCell]; exact f2
      · obtain rfl : k = 4 := by omega
        obtain ⟨c0, c1, c2, f0, f1, f2⟩ := hk3
        have z0 := HZr.out 0 _ rfl
        have z1 := HZr.out 1 _ rfl
        have z2 := HZr.out 2 _ rfl
        obtain ⟨z0, y0⟩ := z0
        obtain ⟨z1, y1⟩ := z1
        obtain ⟨z2, y2⟩ := z2
        go_wp2
        have k3 := k3_set (⟨z0, z1, z2, y0, y1, y2⟩ : K3 wr w.heap.size _ _ _) (.int .i64 (fsn : Int)) (.bool lk) (.int .i64 (sumW ws 4 : Int))
        exact bodyPost_ret (v := .agg #[.int .i64 (fsn : Int), .bool lk, .int .i64 (sumW ws 4 : Int)]) (by simp [results, Tryz.results26, go_sem, k3.c0, k3.c1, k3.c2]) rfl ⟨rfl, set3b hBr (Nat.le_refl _) _ _ _⟩

end Go.Proofs.YtenaepdmlknlcaaGreatDoor

namespace Go.Proofs.YtenaepdmlknlcaaGreatDoor
open Go.RowKit Go.Shelf

theorem boxes_row (I : Nat → Prop) (id z : Int) (a : Option Addr) (p : Option Feat) (ro : Option Addr) (vs : List FV) (w : World) (hI : ∀ b, I b → b < w.heap.size) (hp : PutAt I w a p) (hR : RootT I w ro vs) (hg : ∀ v ∈ vs, Good I w v) (hd : DistF (vs.map (·.f))) :
    Calls Tryz.prog 207 #[chgV id a z, .agg #[.pointer ro]] w fun e w' => ∃ (a2 : Option Addr) (n2 cap2 : Nat), e = .returned (.slice a2 n2 cap2) ∧ n2 = (boxesF p (vs.map (·.f)) id).length ∧ n2 ≤ cap2 ∧ (boxesF p (vs.map (·.f)) id = [] ∨ ∃ g, a2 = some ⟨g, 0, none⟩ ∧ w.heap.size ≤ g ∧ g < w'.heap.size ∧ BxsAt w' g (boxesF p (vs.map (·.f)) id)) ∧ Below w.heap.size w w' := by
  refine (boxes_any I id z a p ro vs w hI hp hR hg hd).mono ?_
  rintro e w' ⟨v, rfl, hown, hb⟩
  rcases hown.2 with ⟨e1, e2⟩ | ⟨g, cap, cur, e1, e2, e3, e4, _⟩
  · subst e1
    exact ⟨none, 0, 0, rfl, e2.symm, Nat.le_refl _, .inl (List.length_eq_zero_iff.1 e2), hb⟩
  · subst e1
    exact ⟨_, _, cap, rfl, rfl, e4, .inr ⟨g, rfl, e2, (Array.getElem?_eq_some_iff.1 e3).1, BxsAt.own hown rfl⟩, hb⟩
theorem boxesF_len (p : Option Feat) (fs : List Feat) (id : Int) : (boxesF p fs id).length ≤ 2 := by
  unfold boxesF
  cases p <;> cases findF id fs <;> simp

theorem frV (wc w2 : World) (n : Nat) (h : Fr (fun b _ => n ≤ b) wc w2) (u0 u1 u2 : Value) : Fr (fun b _ => n ≤ b) wc (((w2.setCell ⟨n + 1, 0, none⟩ u0).setCell ⟨n + 1, 1, none⟩ u1).setCell ⟨n + 1, 2, none⟩ u2) :=
  ((h.setCell (b := n + 1) (i := 0) (.inl (by omega)) u0).setCell (b := n + 1) (i := 1) (.inl (by omega)) u1).setCell (b := n + 1) (i := 2) (.inl (by omega)) u2
/-- What a step that forgets is followed by. -/
def nextF (id : Int) (a : Option Addr) (z : Nat) : Value := if z = 3 then .func (.func 208) #[chgV id a 3] #[] else .func (.func 193) #[chgV id a ((z + 1 : Nat) : Int)] #[]

set_option maxRecDepth 100000 in
set_option maxHeartbeats 4000000 in
theorem forget_step (A mo : Nat) (I : Nat → Prop) (id : Int) (a : Option Addr) (p : Option Feat) (z : Nat) (ro : Option Addr) (vs : List FV) (sv : Nat → Value) (S : Shs) (w : World) (hz : z ≤ 3) (hA : A < w.heap.size) (hro : w.cell? ⟨A, mo, none⟩ = some (.pointer ro)) (hI : ∀ b, I b → b < w.heap.size) (hp : PutAt I w a p) (hR : RootT I w ro vs) (hg : ∀ v ∈ vs, Good I w v) (hd : DistF (vs.map (·.f))) (hs : ShsAt w A (mo + 2) sv S) :
    Calls Tryz.prog 193 #[chgV id a (z : Int), .pointer (some ⟨A, mo, none⟩)] w fun e w' => e = .returned (.agg #[.bool false, nextF id a z, .string ⟨#[]⟩]) ∧ ∃ sv', ShsAt w' A (mo + 2) sv' (forgetS z (boxesF p (vs.map (·.f)) id) S) ∧ (∀ k, k < 4 → (sv' k).ownBlock = (sv k).ownBlock) ∧ Fr (FgM A (mo + 2) sv) w w' := by
  have hvs : ∀ k g, k < 4 → (sv k).ownBlock = some g → g < w.heap.size := fun k g hk e => (hs.sh k hk).ownLt g e
  have hMlt : ∀ b i, FgM A (mo + 2) sv b i → b < w.heap.size := fun b i e => by
    rcases e with ⟨rfl, _⟩ | ⟨k, hk, e⟩
    · exact hA
    · exact hvs k b hk e
  have hB0 : ∀ o o' : Obj, Below w.heap.size w ((w.alloc o).alloc o').drew := fun o o' => (((Below.refl _ _).alloc (Nat.le_refl _) _).alloc (by simp) _).drew
  have HBx : Hid (∀ W : World, Below w.heap.size w W → Calls Tryz.prog 207 #[chgV id a (z : Int), .agg #[.pointer ro]] W fun e w' => ∃ (a2 : Option Addr) (n2 cap2 : Nat), e = .returned (.slice a2 n2 cap2) ∧ Hid (∀ W', Below w'.heap.size w' W' → Calls Tryz.prog 206 #[.pointer (some ⟨A, mo + 2, none⟩), .int .i64 (z : Int), .slice a2 n2 cap2] W' fun e w'' => e = .returned (.tuple #[]) ∧ ∃ sv', ShsAt w'' A (mo + 2) sv' (forgetS z (boxesF p (vs.map (·.f)) id) S) ∧ (∀ k, k < 4 → (sv' k).ownBlock = (sv k).ownBlock) ∧ Fr (FgM A (mo + 2) sv) W' w'') ∧ Below W.heap.size W w') := fun W hW => by
    refine (boxes_row I id (z : Int) a p ro vs W (fun b hb => Nat.lt_of_lt_of_le (hI b hb) hW.size) (hp.same (Same.of_below hW hI)) (RootT.same hR (Same.of_below hW hI)) (fun v hv => Good.same (Same.of_below hW hI) (hg v hv)) hd).mono ?_
    rintro e w' ⟨a2, n2, cap2, rfl, h1, h2, h3, h4⟩
    have hb : Below w.heap.size w w' := hW.trans (h4.mono hW.size)
    refine ⟨a2, n2, cap2, rfl, fun W' hW' => ?_, h4⟩
    have hb' : Below w.heap.size w W' := hb.trans (hW'.mono hb.size)
    have hl := boxesF_len p (vs.map (·.f)) id
    refine Forget_any A (mo + 2) z a2 n2 cap2 _ sv S W' hz (hs.below hb') h1 h2 (by omega) (h3.imp _root_.id fun ⟨g, e1, e2, e3, e4⟩ => ⟨g, e1, Nat.lt_of_lt_of_le e3 hW'.size, fun i e => ?_, e4.below hW' e3⟩)
    have := hMlt g i e
    have := hW.size
    omega
  clear hp hR hg hd hs hI
  go_enter Tryz.func193, Tryz.ntmps193
  go_wp2_with fail
  go_cut [16] (fun v wc => (∃ sv', ShsAt wc A (mo + 2) sv' (forgetS z (boxesF p (vs.map (·.f)) id) S) ∧ (∀ k, k < 4 → (sv' k).ownBlock = (sv k).ownBlock)) ∧ K3 wc w.heap.size (.int .i64 id) (.pointer a) (.int .i64 (z : Int)) ∧ K3 wc (w.heap.size + 1) (.bool false) .nilFunc (.string ⟨#[]⟩) ∧ Fr (FgM A (mo + 2) sv) w wc)
  case first =>
    have hA1 : A < w.heap.size + 1 := by omega
    have k00 : ∀ o' : Obj, K3 ((w.alloc (.cells #[.int .i64 id, .pointer a, .int .i64 (z : Int)] 294)).alloc o').drew w.heap.size (.int .i64 id) (.pointer a) (.int .i64 (z : Int)) := fun o' => ⟨by simp [go_sem], by simp [go_sem], by simp [go_sem], by simp [go_sem], by simp [go_sem], by simp [go_sem]⟩
    have k01 : ∀ o : Obj, K3 ((w.alloc o).alloc (.cells #[.bool false, .nilFunc, .string ⟨#[]⟩] 231)).drew (w.heap.size + 1) (.bool false) .nilFunc (.string ⟨#[]⟩) := fun o => (K3.new2 w o _ _ _ _).drew
    go_region_with (first
      | (go_at_call 207; refine Calls.mono (HBx.out _ (hB0 _ _)) ?_; rintro e w2 ⟨a2, n2, cap2, rfl, h206, hb2⟩; dsimp only; have hB2 : Below w.heap.size w w2 := (hB0 _ _).trans (hb2.mono (by simp; omega)); have hr2 := (hB2.cell (p := ⟨A, mo, none⟩) hA).trans hro; have q0 := (hb2.cell (p := ⟨w.heap.size, 0, none⟩) (by simp; omega)).trans (show _ = some (Value.int .i64 id) by simp [go_sem]); have q1 := (hb2.cell (p := ⟨w.heap.size, 1, none⟩) (by simp; omega)).trans (show _ = some (Value.pointer a) by simp [go_sem]); have q2 := (hb2.cell (p := ⟨w.heap.size, 2, none⟩) (by simp; omega)).trans (show _ = some (Value.int .i64 (z : Int)) by simp [go_sem]))
      | (go_at_call 206; refine Calls.mono (h206.out _ (Below.refl _ _)) ?_; rintro e w3 ⟨rfl, sv3, h31, h32, h33⟩; dsimp only; have H31 : Hid _ := h31; have H32 : Hid _ := h32; have H33 : Hid _ := h33; clear h31 h32 h33))
    all_goals
      go_wp2_with fail
      go_meet
      refine ⟨⟨sv3, H31.out, H32.out⟩, ((k00 _).below hb2 (Nat.le_refl _)).fr H33.out (fun i e => ?_), ((k01 _).below hb2 (Nat.le_refl _)).fr H33.out (fun i e => ?_), (Fr.of_below hB2).trans H33.out⟩
      · have := hMlt _ _ e; omega
      · have := hMlt _ _ e; omega
  case rest =>
    obtain ⟨⟨sv', h1, h2⟩, k0, k1, hF⟩ := hcut
    have H1 : Hid _ := h1
    have H2 : Hid _ := h2
    have HF : Hid (Fr (FgM A (mo + 2) sv) w wc) := hF
    have hsz := hF.size
    have l1 : w.heap.size + 1 < wc.heap.size := k1.lt
    have HK1 : Hid (K3 wc (w.heap.size + 1) (.bool false) .nilFunc (.string ⟨#[]⟩)) := k1
    obtain ⟨c0, c1, c2, f0, f1, f2⟩ := k0
    clear h1 h2 hF k1
    by_cases h3 : z = 3
    · subst h3
      go_wp2_with (go_at_call 190; refine (then_any _ _ _ _).mono ?_; rintro e w2 ⟨rfl, hb2⟩; dsimp only; have HK2 : Hid (K3 w2 (w.heap.size + 1) (.bool false) .nilFunc (.string ⟨#[]⟩)) := HK1.out.below hb2 (Nat.le_refl _); have d0 := HK2.out.c0; have d1 := HK2.out.c1; have d2 := HK2.out.c2; have g0 := HK2.out.f0; have g1 := HK2.out.f1; have g2 := HK2.out.f2)
      have kk := k3_set HK2.out (.bool false) (.func (.func 208) #[chgV id a 3] #[]) (.string ⟨#[]⟩)
      have hV := frV wc w2 w.heap.size (Fr.of_below hb2) (.bool false) (.func (.func 208) #[chgV id a 3] #[]) (.string ⟨#[]⟩)
      exact bodyPost_ret (v := .agg #[.bool false, .func (.func 208) #[chgV id a 3] #[], .string ⟨#[]⟩]) (by simp [results, Tryz.results193, go_sem, kk.c0, kk.c1, kk.c2]) rfl ⟨rfl, sv', H1.out.fr hV (fun i _ e => by omega) (fun k g i hk e e' => by have := hvs k g hk ((H2.out k hk).symm.trans e); omega), H2.out, HF.out.trans_new hV (fun b i hb e => by omega)⟩
    · have hz3 : ((z : Int) == 3) = false := by rw [beq_eq_false_iff_ne]; omega
      have hzz : (z : Int) < 3 := by omega
      have HKs : Hid (K3 (wc.setCell ⟨w.heap.size, 2, none⟩ (.int .i64 ((z : Int) + 1))) (w.heap.size + 1) (.bool false) .nilFunc (.string ⟨#[]⟩)) := HK1.out.fr (frB w.heap.size wc 2 _) (fun i e => by have : w.heap.size + 1 = w.heap.size := e; omega)
      go_wp2_with (go_at_call 190; refine (then_any _ _ _ _).mono ?_; rintro e w2 ⟨rfl, hb2⟩; dsimp only; have HK2 : Hid (K3 w2 (w.heap.size + 1) (.bool false) .nilFunc (.string ⟨#[]⟩)) := HKs.out.below hb2 (Nat.le_refl _); have d0 := HK2.out.c0; have d1 := HK2.out.c1; have d2 := HK2.out.c2; have g0 := HK2.out.f0; have g1 := HK2.out.f1; have g2 := HK2.out.f2)
      have kk := k3_set HK2.out (.bool false) (.func (.func 193) #[chgV id a ((z : Int) + 1)] #[]) (.string ⟨#[]⟩)
      have hV := frV wc w2 w.heap.size (((Fr.refl _ wc).setCell (b := w.heap.size) (i := 2) (.inl (Nat.le_refl _)) _).trans (Fr.of_below hb2)) (.bool false) (.func (.func 193) #[chgV id a ((z : Int) + 1)] #[]) (.string ⟨#[]⟩)
      have hnx : nextF id a z = .func (.func 193) #[chgV id a ((z : Int) + 1)] #[] := by unfold nextF; rw [if_neg h3]; rfl
      exact bodyPost_ret (v := .agg #[.bool false, .func (.func 193) #[chgV id a ((z : Int) + 1)] #[], .string ⟨#[]⟩]) (by simp [results, Tryz.results193, go_sem, kk.c0, kk.c1, kk.c2]) rfl ⟨by rw [hnx], sv', H1.out.fr hV (fun i _ e => by omega) (fun k g i hk e e' => by have := hvs k g hk ((H2.out k hk).symm.trans e); omega), H2.out, HF.out.trans_new hV (fun b i hb e => by omega)⟩

end Go.Proofs.YtenaepdmlknlcaaGreatDoor
