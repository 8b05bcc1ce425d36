import Derived.Test.YtenaepdmlknlcaaGreatDoorF30
namespace Go.Proofs.YtenaepdmlknlcaaGreatDoor
open Go.RowKit Go.Shelf

def newX (cs : Nat → Nat) : Wit := ⟨fun _ => False, fun _ => .slice none 0 0, cs, fun _ => .slice none 0 0, fun _ => .nilFunc, fun _ => 0, fun _ => 0⟩
theorem newC_sh (n : Int) (cs : Nat → Nat) (k : Nat) (hk : k < 4) : newC n cs 4 (2 + 1 + k * 2) = .slice none 0 0 := by
  unfold newC
  rw [if_neg (by omega), if_neg (by omega), if_neg (by omega), if_pos (by omega), if_pos (by omega)]
theorem newC_age (n : Int) (cs : Nat → Nat) (k : Nat) (hk : k < 4) : newC n cs 4 (2 + 1 + k * 2 + 1) = .int .i64 0 := by
  unfold newC
  rw [if_neg (by omega), if_neg (by omega), if_neg (by omega), if_pos (by omega), if_neg (by omega)]
theorem newM_ok (r : Int) (h0 : 0 ≤ r) (h8 : r ≤ 8) : AtlOk (newM r) :=
  ⟨⟨⟨fun f hf => (by cases hf), List.nodup_nil⟩, h0, h8, fun k _ => by simpa [newM] using h0, fun k x _ hx => (by cases hx)⟩, fun n _ => ⟨fun x hx => (by cases hx), by simp [waitS, newM], fun st e => (by cases e), by simp [newM]⟩⟩
theorem newX_own (cs : Nat → Nat) (A i b : Nat) (hi : i < 13) (h : (newX cs).own A i = some b) : (i = 0 ∧ b = A) ∨ (5 ≤ i ∧ i < 9 ∧ b = cs (i - 5)) := by
  unfold Wit.own newX at h
  by_cases h0 : i = 0
  · rw [if_pos h0] at h; cases h; exact .inl ⟨h0, rfl⟩
  · rw [if_neg h0] at h
    by_cases h5 : i < 5
    · rw [if_pos h5] at h; cases h
    · rw [if_neg h5] at h
      by_cases h9 : i < 9
      · rw [if_pos h9] at h; cases h; exact .inr ⟨by omega, h9, rfl⟩
      · rw [if_neg h9] at h; cases h

/-- A new atlas. -/
theorem New_model (r : Int) (w : World) (g : Gl w) (h0 : 0 ≤ r) (h8 : r ≤ 8) :
    Calls Tryz.prog 41 #[.int .i64 r] w fun e w' => ∃ (A : Nat) (x : Wit), e = .returned (.tuple #[.pointer (some ⟨A, 0, none⟩), .int .i64 0]) ∧ AtlasAt w' A x (newM r) ∧ (∀ b, x.I b ∨ x.Own A b → w.heap.size ≤ b) ∧ Below w.heap.size w w' := by
  refine (New_ok r w (by omega) h8).mono ?_
  rintro e w' ⟨A, cs, rfl, hA, hlt, hc, hf, hch, hup, hb⟩
  have hg := g.sz
  have hg' : Gl w' := g.below hb hg
  have hcs : ∀ m m', m < 4 → m' < 4 → cs m = cs m' → m = m' := fun m m' hm hm' e => by
    rcases Nat.lt_trichotomy m m' with h | h | h
    · have := hup m m' h hm'; omega
    · exact h
    · have := hup m' m h hm; omega
  have hclt : ∀ m, m < 4 → cs m < w'.heap.size := fun m hm => (Array.getElem?_eq_some_iff.1 (hch m hm).1).1
  refine ⟨A, newX cs, rfl, ⟨hg', newM_ok r h0 h8, ⟨none, hc 0 (by omega), [], .inl ⟨rfl, rfl⟩, rfl, fun v hv => by cases hv⟩, hf 0, hc 1 (by omega), hf 1, ⟨hc 2 (by omega), fun k hk => ⟨?_, hf _, World.ownsRow_nil _ _ _ _, by simp [newX, Value.ownBlock], by simp [newM]⟩, fun k hk => ⟨?_, hf _⟩, fun k j b _ _ _ e => by cases e⟩, fun n hn => ⟨⟨?_, ?_, (hch n hn).1, by simp [newM], .inl rfl⟩, hf _, rfl, ⟨?_, hf _, World.ownsRow_nil _ _ _ _, by simp [newX, Value.ownBlock], by simp [newM]⟩⟩, fun i b hi e => ?_, fun i j b hi hj hij e e' => ?_, fun b hb => hb.elim⟩, fun b hb' => ?_, hb⟩
  · rw [hc _ (by omega), newC_sh _ _ _ hk]; rfl
  · rw [hc _ (by omega), newC_age _ _ _ hk]; rfl
  · rw [hc _ (by omega), newC0, if_pos hn]; rfl
  · rw [hc _ (by omega), newC1]; rfl
  · rw [hc _ (by omega), newC2]; rfl
  · rcases newX_own cs A i b hi e with ⟨_, rfl⟩ | ⟨h1, h2, rfl⟩
    · exact ⟨fun h => h.elim, by omega, hlt⟩
    · have := hch (i - 5) (by omega)
      exact ⟨fun h => h.elim, by omega, hclt _ (by omega)⟩
  · rcases newX_own cs A i b hi e with ⟨h1, rfl⟩ | ⟨h1, h2, rfl⟩
    · rcases newX_own cs _ j _ hj e' with ⟨h3, _⟩ | ⟨h3, h4, h5⟩
      · omega
      · have := (hch (j - 5) (by omega)).2; omega
    · rcases newX_own cs A j _ hj e' with ⟨h3, h5⟩ | ⟨h3, h4, h5⟩
      · have := (hch (i - 5) (by omega)).2; omega
      · have := hcs (i - 5) (j - 5) (by omega) (by omega) h5; omega
  · rcases hb' with h | ⟨i, hi, e⟩
    · exact h.elim
    · rcases newX_own cs A i b hi e with ⟨_, rfl⟩ | ⟨h1, h2, rfl⟩
      · exact hA
      · have := (hch (i - 5) (by omega)).2; omega

/-! An atlas, and all that it relies on: the blocks of Z. -/
def AtlasIn (w : World) (A : Nat) (Z : Nat → Prop) (a : Atl) : Prop := ∃ x, AtlasAt w A x a ∧ ∀ b, Z b ↔ (x.I b ∨ x.Own A b)
theorem AtlasIn.lt {w : World} {A : Nat} {Z : Nat → Prop} {a : Atl} (h : AtlasIn w A Z a) {b : Nat} (hb : Z b) : 8 ≤ b ∧ b < w.heap.size := by
  obtain ⟨x, hx, hz⟩ := h
  rcases (hz b).1 hb with hb | ⟨i, hi, e⟩
  · exact hx.lt b hb
  · exact (hx.ownI i b hi e).2
theorem AtlasIn.A {w : World} {A : Nat} {Z : Nat → Prop} {a : Atl} (h : AtlasIn w A Z a) : Z A := by
  obtain ⟨x, hx, hz⟩ := h
  exact (hz A).2 (.inr ⟨0, by omega, own_A x A⟩)
theorem AtlasIn.fr {M : Nat → Nat → Prop} {w w' : World} (hf : Fr M w w') {A : Nat} {Z : Nat → Prop} {a : Atl} (h : AtlasIn w A Z a) (hM : ∀ b i, M b i → 8 ≤ b ∧ ¬ Z b) : AtlasIn w' A Z a := by
  obtain ⟨x, hx, hz⟩ := h
  exact ⟨x, hx.fr hf (fun b i e => ⟨(hM b i e).1, fun hb => (hM b i e).2 ((hz b).2 (.inl hb)), fun hb => (hM b i e).2 ((hz b).2 (.inr hb))⟩), hz⟩
theorem AtlasIn.below {w w' : World} (hb : Below w.heap.size w w') {A : Nat} {Z : Nat → Prop} {a : Atl} (h : AtlasIn w A Z a) : AtlasIn w' A Z a := h.fr (M := fun _ _ => False) (Fr.of_below hb) (fun _ _ e => e.elim)
/-- What a call on an atlas leaves. -/
def AtlasNext (A : Nat) (Z : Nat → Prop) (a' : Atl) (w w' : World) : Prop := ∃ Z', AtlasIn w' A Z' a' ∧ (∀ b, Z' b → Z b ∨ w.heap.size ≤ b) ∧ Fr (fun b _ => Z b) w w'
theorem AtlasNext.of {w w' : World} {A : Nat} {Z : Nat → Prop} {x y : Wit} {a' : Atl} (hz : ∀ b, Z b ↔ (x.I b ∨ x.Own A b)) (hy : AtlasAt w' A y a') (he : Ext A w x y) (hf : Fr (OwnM A x) w w') : AtlasNext A Z a' w w' := by
  refine ⟨fun b => y.I b ∨ y.Own A b, ⟨y, hy, fun b => Iff.rfl⟩, fun b hb => ?_, hf.mono fun b i e => (hz b).2 (.inr e)⟩
  rcases hb with hb | hb
  · exact (he.i b hb).imp (fun h => (hz b).2 (.inl h)) _root_.id
  · exact (he.Own hb).imp (fun h => (hz b).2 (.inr h)) _root_.id
theorem Pick_in {w : World} {A : Nat} {Z : Nat → Prop} {a : Atl} (h : AtlasIn w A Z a) {n : Nat} (hn : n < 4) (han : (a.ss n).an.length + 1 ≤ 4000000) :
    Calls Tryz.prog 43 #[.pointer (some ⟨A, 0, none⟩), .int .i64 (n : Int)] w fun e w' => e = .returned (.tuple #[.bool (pickM a n).1, .int .i64 0]) ∧ AtlasNext A Z (pickM a n).2 w w' := by
  obtain ⟨x, hx, hz⟩ := h
  exact (Pick_model hx hn han).mono fun e w' ⟨he, y, hy, h1, h2⟩ => ⟨he, .of hz hy h1 h2⟩
theorem Send_in {w : World} {A : Nat} {Z : Nat → Prop} {a : Atl} (h : AtlasIn w A Z a) {n : Nat} (hn : n < 4) (t : ByteArray) (ht : t.size ≤ 200) (hw : waitS (a.ss n) < 6) :
    Calls Tryz.prog 42 #[.pointer (some ⟨A, 0, none⟩), .int .i64 (n : Int), .string t] w fun e w' => e = .returned (.int .i64 0) ∧ AtlasNext A Z (sendM a n t) w w' := by
  obtain ⟨x, hx, hz⟩ := h
  exact (Send_model hx hn t ht hw).mono fun e w' ⟨he, y, hy, h1, h2⟩ => ⟨he, .of hz hy h1 h2⟩
theorem Answers_in {w : World} {A : Nat} {Z : Nat → Prop} {a : Atl} (h : AtlasIn w A Z a) {n : Nat} (hn : n < 4) :
    Calls Tryz.prog 44 #[.pointer (some ⟨A, 0, none⟩), .int .i64 (n : Int)] w fun e w' => ∃ (va : Option Addr) (m cap : Nat), e = .returned (.tuple #[.slice va m cap, .int .i64 0]) ∧ m = (a.ss n).an.length ∧ w'.ownsRow 0 9 1 (.slice va m cap) m ((a.ss n).an.map .string) ∧ AtlasNext A Z (tellM a n) w w' := by
  obtain ⟨x, hx, hz⟩ := h
  exact (Answers_model hx hn).mono fun e w' ⟨va, m, cap, he, h1, h2, y, hy, h3, h4⟩ => ⟨va, m, cap, he, h1, h2, .of hz hy h3 h4⟩
/-- The same; the list was the atlas's own. -/
theorem Answers_out {w : World} {A : Nat} {Z : Nat → Prop} {a : Atl} (h : AtlasIn w A Z a) {n : Nat} (hn : n < 4) :
    Calls Tryz.prog 44 #[.pointer (some ⟨A, 0, none⟩), .int .i64 (n : Int)] w fun e w' => ∃ (va : Option Addr) (m cap : Nat), e = .returned (.tuple #[.slice va m cap, .int .i64 0]) ∧ m = (a.ss n).an.length ∧ w'.ownsRow 0 9 1 (.slice va m cap) m ((a.ss n).an.map .string) ∧ (∀ b, (Value.slice va m cap).ownBlock = some b → Z b) ∧ AtlasNext A Z (tellM a n) w w' := by
  obtain ⟨x, hx, hz⟩ := h
  exact (Answers_model' hx hn).mono fun e w' ⟨va, m, cap, he, h1, h2, h5, y, _, hy, h3, h4⟩ => ⟨va, m, cap, he, h1, h2, fun b hb => (hz b).2 (.inr (h5 b hb)), .of hz hy h3 h4⟩
theorem Look_in {w : World} {A : Nat} {Z : Nat → Prop} {a : Atl} (h : AtlasIn w A Z a) (hl : a.g.fs.length ≤ 1000000000) :
    Calls Tryz.prog 26 #[.pointer (some ⟨A, 0, none⟩)] w fun e w' => e = .returned (.agg #[.int .i64 (a.g.fs.length : Int), .bool a.g.lk, .int .i64 (waitM a : Int)]) ∧ Below w.heap.size w w' := by
  obtain ⟨x, hx, _⟩ := h
  exact Look_model hx hl
theorem Kept_in {w : World} {A : Nat} {Z : Nat → Prop} {a : Atl} (h : AtlasIn w A Z a) {k : Nat} (hk : k < 4) :
    Calls Tryz.prog 27 #[.pointer (some ⟨A, 0, none⟩), .int .i64 (k : Int)] w fun e w' => ∃ (va : Option Addr) (m cap : Nat), e = .returned (.tuple #[.slice va m cap, .int .i64 0]) ∧ m = (a.g.S.ks k).length ∧ w'.ownsRow w.heap.size 24 3 (.slice va m cap) m (flatT ((a.g.S.ks k).map (·.t))) ∧ Below w.heap.size w w' := by
  obtain ⟨x, hx, _⟩ := h
  exact Kept_model hx hk
theorem New_in (r : Int) (w : World) (g : Gl w) (h0 : 0 ≤ r) (h8 : r ≤ 8) :
    Calls Tryz.prog 41 #[.int .i64 r] w fun e w' => ∃ (A : Nat) (Z : Nat → Prop), e = .returned (.tuple #[.pointer (some ⟨A, 0, none⟩), .int .i64 0]) ∧ AtlasIn w' A Z (newM r) ∧ (∀ b, Z b → w.heap.size ≤ b) ∧ Below w.heap.size w w' :=
  (New_model r w g h0 h8).mono fun _e _w' ⟨A, x, he, hx, h1, h2⟩ => ⟨A, fun b => x.I b ∨ x.Own A b, he, ⟨x, hx, fun _b => Iff.rfl⟩, h1, h2⟩
theorem AtlasIn.gl {w : World} {A : Nat} {Z : Nat → Prop} {a : Atl} (h : AtlasIn w A Z a) : Gl w := by obtain ⟨x, hx, _⟩ := h; exact hx.gl

end Go.Proofs.YtenaepdmlknlcaaGreatDoor

namespace Go.Proofs.YtenaepdmlknlcaaGreatDoor
open Go.RowKit Go.Shelf

/-- Which of n things a raw number speaks of. -/
def pkZ (c n : Int) : Int := (if c < 0 then -(c + 1) else c) % n
theorem pkZ_bd (c n : Int) (hn : 0 < n) : 0 ≤ pkZ c n ∧ pkZ c n < n := ⟨Int.emod_nonneg _ (by omega), Int.emod_lt_of_pos _ hn⟩
def i64 (c : Int) : Prop := -9223372036854775808 ≤ c ∧ c ≤ 9223372036854775807

theorem kpick_any (c n : Int) (hc : i64 c) (hn : 0 < n) (hn2 : n ≤ 1000) (w : World) :
    Calls Tryz.prog 28 #[.int .i64 c, .int .i64 n] w fun e w' => e = .returned (.int .i64 (pkZ c n)) ∧ w' = w := by
  obtain ⟨h0, h1⟩ := hc
  have hn0 : ¬ n = 0 := by omega
  by_cases h : c < 0
  · have hm : (-(c + 1)).tmod n = pkZ c n := by rw [Int.tmod_eq_emod_of_nonneg (by omega), pkZ, if_pos h]
    go_enter Tryz.func28, Tryz.ntmps28
    go_wp2
    go_ret
    exact ⟨rfl, rfl⟩
  · have hm : c.tmod n = pkZ c n := by rw [Int.tmod_eq_emod_of_nonneg (by omega), pkZ, if_neg h]
    go_enter Tryz.func28, Tryz.ntmps28
    go_wp2
    go_ret
    exact ⟨rfl, rfl⟩

end Go.Proofs.YtenaepdmlknlcaaGreatDoor

namespace Go.Proofs.YtenaepdmlknlcaaGreatDoor
open Go.RowKit Go.Shelf

def digB (d : Nat) : ByteArray := ⟨#[UInt8.ofNat (48 + d)]⟩
def decS (k : Nat) : ByteArray := ⟨(Lib.decDigits k).toArray⟩
theorem decS_small {k : Nat} (h : k < 10) : decS k = digB k := by unfold decS digB; rw [Lib.decDigits_one h]
theorem decS_big {k : Nat} (h : ¬ k < 10) : decS k = decS (k / 10) ++ digB (k % 10) := by
  unfold decS digB
  rw [Lib.decDigits, dif_neg h, ByteArray.mk_append_mk]
theorem decS_size {k : Nat} (h : k ≤ 1000) : (decS k).size ≤ 4 := by
  show (Lib.decDigits k).toArray.size ≤ 4
  rw [List.size_toArray]
  by_cases h1 : k < 10
  · rw [Lib.decDigits_one h1]; simp
  · rw [Lib.decDigits, dif_neg h1, List.length_append]
    by_cases h2 : k / 10 < 10
    · rw [Lib.decDigits_one h2]; simp
    · rw [Lib.decDigits, dif_neg h2, List.length_append]
      have := decDigits_short (k / 10 / 10) (by omega)
      simp
      by_cases h3 : k / 10 / 10 < 10
      · rw [Lib.decDigits_one h3]; simp
      · omega
theorem dig_ext (d : Nat) (hd : d < 10) : (⟨#[48, 49, 50, 51, 52, 53, 54, 55, 56, 57]⟩ : ByteArray).extract d (d + 1) = digB d := by
  match d, hd with
  | 0, _ => decide
  | 1, _ => decide
  | 2, _ => decide
  | 3, _ => decide
  | 4, _ => decide
  | 5, _ => decide
  | 6, _ => decide
  | 7, _ => decide
  | 8, _ => decide
  | 9, _ => decide
theorem nil_app (b : ByteArray) : (⟨#[]⟩ : ByteArray) ++ b = b := by
  apply ByteArray.ext
  simp

set_option maxHeartbeats 1000000 in
theorem decimal_nat : ∀ (k : Nat) (w : World), k ≤ 1000 → Calls Tryz.prog 21 #[.int .i64 (k : Int)] w fun e w' => e = .returned (.string (decS k)) ∧ w' = w := by
  intro k
  induction k using Nat.strongRecOn with
  | ind k ih =>
    intro w hk
    have h2 : ¬ (k : Int) < 0 := by omega
    have hm : (k : Int).tmod 10 = ((k % 10 : Nat) : Int) := by rw [Int.tmod_eq_emod_of_nonneg (by omega)]; rfl
    obtain ⟨d, hd⟩ : ∃ d, k % 10 = d := ⟨_, rfl⟩
    rw [hd] at hm
    have hdl : d < 10 := by omega
    by_cases h10 : k < 10
    · have h1 : ¬ (10 : Int) ≤ k := by omega
      go_enter Tryz.func21, Tryz.ntmps21
      go_wp2
      go_ret
      rw [nil_app, dig_ext d hdl, decS_small h10, show d = k by omega]
      exact ⟨rfl, rfl⟩
    · have h1 : (10 : Int) ≤ k := by omega
      have hq : (k : Int).tdiv 10 = ((k / 10 : Nat) : Int) := by rw [Int.tdiv_eq_ediv_of_nonneg (by omega)]; rfl
      obtain ⟨q, hq'⟩ : ∃ q, k / 10 = q := ⟨_, rfl⟩
      rw [hq'] at hq
      have hw8 : IntKind.i64.wrap (q : Int) = (q : Int) := by rw [IntKind.wrap_i64]; omega
      have HC : Hid (∀ W : World, Calls Tryz.prog 21 #[.int .i64 (q : Int)] W fun e w' => e = .returned (.string (decS q)) ∧ w' = W) := fun W => ih q (by omega) W (by omega)
      have hsz := decS_size (show q ≤ 1000 by omega)
      obtain ⟨s, hs⟩ : ∃ s, decS q = s := ⟨_, rfl⟩
      rw [hs] at HC hsz
      have hcat : (9223372036854775807 < s.size) = False := eq_false (by omega)
      have hcat2 : (9223372036854775807 < s.size + 1) = False := eq_false (by omega)
      clear ih
      go_enter Tryz.func21, Tryz.ntmps21
      go_wp2_with (go_at_call 21; refine Calls.mono (HC.out _) ?_; rintro e w1 ⟨rfl, rfl⟩; dsimp only)
      go_ret
      rw [nil_app, dig_ext d hdl, decS_big h10, hq', hd, hs]
      exact ⟨rfl, rfl⟩

/-- A number as a text, as Itoa writes it. -/
def decZ (n : Int) : ByteArray := ⟨(Lib.itoa n).toArray⟩
theorem decZ_nat (k : Nat) : decZ (k : Int) = decS k := by
  unfold decZ decS Lib.itoa
  rw [if_neg (by omega), Int.toNat_natCast]
theorem decZ_neg (k : Nat) (h : 1 ≤ k) : decZ (-(k : Int)) = ⟨#[45]⟩ ++ decS k := by
  unfold decZ decS Lib.itoa
  rw [if_pos (by omega), Int.natAbs_neg, Int.natAbs_natCast]
  apply ByteArray.ext
  simp
theorem decZ_size {n : Int} (h0 : -9 ≤ n) (h1 : n ≤ 1000) : (decZ n).size ≤ 4 := by
  by_cases h : 0 ≤ n
  · obtain ⟨k, rfl⟩ := Int.eq_ofNat_of_zero_le h
    have e : (Int.ofNat k) = (k : Int) := rfl
    rw [show ((k : Int)) = ((k : Nat) : Int) from rfl, decZ_nat]
    exact decS_size (by omega)
  · obtain ⟨k, hk⟩ : ∃ k : Nat, n = -(k : Int) := ⟨(-n).toNat, by omega⟩
    subst hk
    rw [decZ_neg k (by omega), decS_small (by omega), ByteArray.size_append]
    simp [digB, ByteArray.size]

set_option maxHeartbeats 1000000 in
theorem decimal_neg (k : Nat) (h1 : 1 ≤ k) (h9 : k ≤ 9) (w : World) :
    Calls Tryz.prog 21 #[.int .i64 (-(k : Int))] w fun e w' => e = .returned (.string (⟨#[45]⟩ ++ digB k)) ∧ w' = w := by
  have hm : (k : Int).tmod 10 = (k : Int) := by rw [Int.tmod_eq_emod_of_nonneg (by omega)]; omega
  have h2 : (-(k : Int)) < 0 := by omega
  have h3 : ¬ (10 : Int) ≤ k := by omega
  have h4 : (0 : Int) < k := by omega
  have hw : IntKind.i64.wrap (k : Int) = (k : Int) := by rw [IntKind.wrap_i64]; omega
  go_enter Tryz.func21, Tryz.ntmps21
  go_wp2
  go_ret
  rw [dig_ext k (by omega)]
  exact ⟨rfl, rfl⟩
theorem decimal_any (n : Int) (h0 : -9 ≤ n) (h1 : n ≤ 1000) (w : World) :
    Calls Tryz.prog 21 #[.int .i64 n] w fun e w' => e = .returned (.string (decZ n)) ∧ w' = w := by
  by_cases h : 0 ≤ n
  · obtain ⟨k, hk⟩ : ∃ k : Nat, n = (k : Int) := ⟨n.toNat, by omega⟩
    subst hk
    rw [decZ_nat]
    exact decimal_nat k w (by omega)
  · obtain ⟨k, hk⟩ : ∃ k : Nat, n = -(k : Int) := ⟨(-n).toNat, by omega⟩
    subst hk
    rw [decZ_neg k (by omega), decS_small (by omega)]
    exact decimal_neg k (by omega) (by omega) w

end Go.Proofs.YtenaepdmlknlcaaGreatDoor

namespace Go.Proofs.YtenaepdmlknlcaaGreatDoor
open Go.RowKit Go.Shelf

/-- A request in raw numbers. -/
structure Rq where
  k : Int
  a : Int
  b : Int
  c : Int
  d : Int
  ps : List Int
def kindZ (q : Rq) : Int := if pkZ q.k 7 < 3 then 0 else if pkZ q.k 7 = 3 then 1 else 2
def powZ (z : Int) : Int := if z = 0 then 1 else if z = 1 then 2 else if z = 2 then 4 else 8
def tileZ (q : Rq) : Tl := ⟨pkZ q.a 4, pkZ q.b (powZ (pkZ q.a 4)), pkZ q.c (powZ (pkZ q.a 4))⟩
theorem tileZ_good (q : Rq) : (tileZ q).good := by
  have h1 := pkZ_bd q.a 4 (by decide)
  unfold Tl.good tileZ tileB
  rw [decide_eq_true_eq]
  dsimp only
  have hp : 0 < powZ (pkZ q.a 4) := by unfold powZ; split <;> (try split) <;> (try split) <;> decide
  have h2 := pkZ_bd q.b _ hp
  have h3 := pkZ_bd q.c _ hp
  have e : powZ (pkZ q.a 4) = manyZ (pkZ q.a 4) := rfl
  exact ⟨h1.1, by omega, h2.1, by rw [← e]; exact h2.2, h3.1, by rw [← e]; exact h3.2⟩
def placeZ (c : Int) : Int × Int := (if pkZ c 3 = 0 then pkZ c 256 / 32 * 32 else pkZ c 256, pkZ (c.tdiv 256) 256)
structure RqOk (q : Rq) : Prop where
  k : i64 q.k
  a : i64 q.a
  b : i64 q.b
  c : i64 q.c
  d : i64 q.d
  ps : ∀ x ∈ q.ps, i64 x
/-- A request's own value: its places lie in memory. -/
abbrev rqV (q : Rq) (v : Value) : Value := .agg #[.int .i64 q.k, .int .i64 q.a, .int .i64 q.b, .int .i64 q.c, .int .i64 q.d, v]

set_option maxHeartbeats 1000000 in
theorem qkind_any (q : Rq) (hq : RqOk q) (pa : Option Addr) (pn pc : Nat) (w : World) :
    Calls Tryz.prog 46 #[rqV q (.slice pa pn pc)] w fun e w' => e = .returned (.int .i64 (kindZ q)) ∧ Below w.heap.size w w' := by
  have HC : Hid (∀ W : World, Calls Tryz.prog 28 #[.int .i64 q.k, .int .i64 7] W fun e w' => e = .returned (.int .i64 (pkZ q.k 7)) ∧ w' = W) := fun W => kpick_any q.k 7 hq.k (by decide) (by decide) W
  have hB : ∀ o : Obj, Below w.heap.size w (w.alloc o) := fun o => (Below.refl _ _).alloc (Nat.le_refl _) _
  have HK : Hid (kindZ q = if pkZ q.k 7 < 3 then 0 else if pkZ q.k 7 = 3 then 1 else 2) := rfl
  obtain ⟨p, hp⟩ : ∃ p, pkZ q.k 7 = p := ⟨_, rfl⟩
  rw [hp] at HC HK
  by_cases h1 : p < 3
  · have e : kindZ q = 0 := by rw [HK.out, if_pos h1]
    rw [e]
    go_enter Tryz.func46, Tryz.ntmps46
    go_wp2_with (go_at_call 28; refine Calls.mono (HC.out _) ?_; rintro e w1 ⟨rfl, rfl⟩; dsimp only)
    go_ret
    exact ⟨rfl, hB _⟩
  · by_cases h2 : p = 3
    · have e : kindZ q = 1 := by rw [HK.out, if_neg h1, if_pos h2]
      rw [e]
      subst h2
      go_enter Tryz.func46, Tryz.ntmps46
      go_wp2_with (go_at_call 28; refine Calls.mono (HC.out _) ?_; rintro e w1 ⟨rfl, rfl⟩; dsimp only)
      go_ret
      exact ⟨rfl, hB _⟩
    · have e : kindZ q = 2 := by rw [HK.out, if_neg h1, if_neg h2]
      have hb : (p == 3) = false := by simp [h2]
      rw [e]
      go_enter Tryz.func46, Tryz.ntmps46
      go_wp2_with (go_at_call 28; refine Calls.mono (HC.out _) ?_; rintro e w1 ⟨rfl, rfl⟩; dsimp only)
      go_ret
      exact ⟨rfl, hB _⟩

theorem place_bd (c : Int) : 0 ≤ (placeZ c).1 ∧ (placeZ c).1 ≤ 255 ∧ 0 ≤ (placeZ c).2 ∧ (placeZ c).2 ≤ 255 := by
  have h1 := pkZ_bd c 256 (by decide)
  have h2 := pkZ_bd (c.tdiv 256) 256 (by decide)
  unfold placeZ
  dsimp only
  split <;> omega
theorem tdiv_i64 {c : Int} (h : i64 c) : i64 (c.tdiv 256) := by
  obtain ⟨h0, h1⟩ := h
  by_cases hc : 0 ≤ c
  · rw [Int.tdiv_eq_ediv_of_nonneg hc]; constructor <;> omega
  · obtain ⟨m, hm⟩ : ∃ m : Int, c = -m := ⟨-c, by omega⟩
    subst hm
    rw [Int.neg_tdiv, Int.tdiv_eq_ediv_of_nonneg (by omega)]
    constructor <;> omega

set_option maxRecDepth 100000 in
set_option maxHeartbeats 1000000 in
theorem qplace_any (c : Int) (hc : i64 c) (w : World) :
    Calls Tryz.prog 79 #[.int .i64 c] w fun e w' => e = .returned (.agg #[.int .i64 (placeZ c).1, .int .i64 (placeZ c).2]) ∧ Below w.heap.size w w' := by
  have HC1 : Hid (∀ W : World, Calls Tryz.prog 28 #[.int .i64 c, .int .i64 256] W fun e w' => e = .returned (.int .i64 (pkZ c 256)) ∧ w' = W) := fun W => kpick_any c 256 hc (by decide) (by decide) W
  have HC2 : Hid (∀ W : World, Calls Tryz.prog 28 #[.int .i64 (c.tdiv 256), .int .i64 256] W fun e w' => e = .returned (.int .i64 (pkZ (c.tdiv 256) 256)) ∧ w' = W) := fun W => kpick_any _ 256 (tdiv_i64 hc) (by decide) (by decide) W
  have HC3 : Hid (∀ W : World, Calls Tryz.prog 28 #[.int .i64 c, .int .i64 3] W fun e w' => e = .returned (.int .i64 (pkZ c 3)) ∧ w' = W) := fun W => kpick_any c 3 hc (by decide) (by decide) W
  have ht := tdiv_i64 hc
  have hw : IntKind.i64.wrap (c.tdiv 256) = c.tdiv 256 := by rw [IntKind.wrap_i64]; unfold i64 at ht; omega
  have HP : Hid (placeZ c = (if pkZ c 3 = 0 then pkZ c 256 / 32 * 32 else pkZ c 256, pkZ (c.tdiv 256) 256)) := rfl
  obtain ⟨b0, b1⟩ := pkZ_bd c 256 (by decide)
  obtain ⟨q, hq⟩ : ∃ q, c.tdiv 256 = q := ⟨_, rfl⟩
  obtain ⟨x, hx⟩ : ∃ x, pkZ c 256 = x := ⟨_, rfl⟩
  obtain ⟨p3, hp3⟩ : ∃ x, pkZ c 3 = x := ⟨_, rfl⟩
  rw [hq] at HC2 hw HP
  obtain ⟨y, hy⟩ : ∃ y, pkZ q 256 = y := ⟨_, rfl⟩
  rw [hy] at HC2 HP
  rw [hx] at HC1 HP b0 b1
  rw [hp3] at HC3 HP
  rw [HP.out]
  have hB : ∀ o o' : Obj, Below w.heap.size w ((w.alloc o).alloc o') := fun o o' => ((Below.refl _ _).alloc (Nat.le_refl _) _).alloc (by simp) _
  have hd : x.tdiv 32 = x / 32 := Int.tdiv_eq_ediv_of_nonneg b0
  have hw2 : IntKind.i64.wrap (x / 32) = x / 32 := by rw [IntKind.wrap_i64]; omega
  clear hc ht
  by_cases h3 : p3 = 0
  · subst h3
    rw [if_pos rfl]
    go_enter Tryz.func79, Tryz.ntmps79
    go_wp2_with (first
      | (go_at_call_of 28 (Value.int IntKind.i64 q); refine Calls.mono (HC2.out _) ?_; rintro e w1 ⟨rfl, rfl⟩; dsimp only)
      | (go_at_call_of 28 (Value.int IntKind.i64 3); refine Calls.mono (HC3.out _) ?_; rintro e w1 ⟨rfl, rfl⟩; dsimp only)
      | (go_at_call_of 28 (Value.int IntKind.i64 256); refine Calls.mono (HC1.out _) ?_; rintro e w1 ⟨rfl, rfl⟩; dsimp only))
    exact bodyPost_ret (v := .agg #[.int .i64 (x / 32 * 32), .int .i64 y]) (by simp [results, Tryz.results79, go_sem]) rfl ⟨rfl, hB _ _⟩
  · have hb : (p3 == 0) = false := by simp [h3]
    rw [if_neg h3]
    go_enter Tryz.func79, Tryz.ntmps79
    go_wp2_with (first
      | (go_at_call_of 28 (Value.int IntKind.i64 q); refine Calls.mono (HC2.out _) ?_; rintro e w1 ⟨rfl, rfl⟩; dsimp only)
      | (go_at_call_of 28 (Value.int IntKind.i64 3); refine Calls.mono (HC3.out _) ?_; rintro e w1 ⟨rfl, rfl⟩; dsimp only)
      | (go_at_call_of 28 (Value.int IntKind.i64 256); refine Calls.mono (HC1.out _) ?_; rintro e w1 ⟨rfl, rfl⟩; dsimp only))
    exact bodyPost_ret (v := .agg #[.int .i64 x, .int .i64 y]) (by simp [results, Tryz.results79, go_sem]) rfl ⟨rfl, hB _ _⟩

end Go.Proofs.YtenaepdmlknlcaaGreatDoor

namespace Go.Proofs.YtenaepdmlknlcaaGreatDoor
open Go.RowKit Go.Shelf

set_option maxRecDepth 100000 in
set_option maxHeartbeats 1000000 in
theorem qtile_at (q : Rq) (hq : RqOk q) (z p : Int) (hz : pkZ q.a 4 = z) (hzp : (z = 0 ∧ p = 1) ∨ (z = 1 ∧ p = 2) ∨ (z = 2 ∧ p = 4) ∨ (z = 3 ∧ p = 8)) (pa : Option Addr) (pn pc : Nat) (w : World) :
    Calls Tryz.prog 20 #[rqV q (.slice pa pn pc)] w fun e w' => e = .returned (.agg #[.int .i64 z, .int .i64 (pkZ q.b p), .int .i64 (pkZ q.c p)]) ∧ Below w.heap.size w w' := by
  have HC1 : Hid (∀ W : World, Calls Tryz.prog 28 #[.int .i64 q.a, .int .i64 4] W fun e w' => e = .returned (.int .i64 z) ∧ w' = W) := fun W => by rw [← hz]; exact kpick_any q.a 4 hq.a (by decide) (by decide) W
  have HC2 : Hid (∀ W : World, Calls Tryz.prog 28 #[.int .i64 q.b, .int .i64 p] W fun e w' => e = .returned (.int .i64 (pkZ q.b p)) ∧ w' = W) := fun W => kpick_any q.b p hq.b (by omega) (by omega) W
  have HC3 : Hid (∀ W : World, Calls Tryz.prog 28 #[.int .i64 q.c, .int .i64 p] W fun e w' => e = .returned (.int .i64 (pkZ q.c p)) ∧ w' = W) := fun W => kpick_any q.c p hq.c (by omega) (by omega) W
  obtain ⟨x, hx⟩ : ∃ x, pkZ q.b p = x := ⟨_, rfl⟩
  obtain ⟨y, hy⟩ : ∃ x, pkZ q.c p = x := ⟨_, rfl⟩
  rw [hx] at HC2
  rw [hy] at HC3
  rw [hx, hy]
  clear hx hy hz hq
  have hB : ∀ o o' : Obj, Below w.heap.size w ((w.alloc o).alloc o').drew := fun o o' => (((Below.refl _ _).alloc (Nat.le_refl _) _).alloc (by simp) _).drew
  obtain ⟨qk, qa, qb, qc, qd, qps⟩ := q
  dsimp only at *
  rcases hzp with ⟨rfl, rfl⟩ | ⟨rfl, rfl⟩ | ⟨rfl, rfl⟩ | ⟨rfl, rfl⟩ <;>
  · go_enter Tryz.func20, Tryz.ntmps20
    go_wp2_with (go_at_call 28; refine Calls.mono (HC1.out _) ?_; rintro e w1 ⟨rfl, rfl⟩; dsimp only)
    go_region_with (first
      | (go_at_call_of 28 (Value.int IntKind.i64 qb); refine Calls.mono (HC2.out _) ?_; rintro e w1 ⟨rfl, rfl⟩; dsimp only)
      | (go_at_call_of 28 (Value.int IntKind.i64 qc); refine Calls.mono (HC3.out _) ?_; rintro e w1 ⟨rfl, rfl⟩; dsimp only))
    all_goals
      go_wp2
      exact bodyPost_ret (v := .agg #[.int .i64 _, .int .i64 x, .int .i64 y]) (by simp [results, Tryz.results20, go_sem]) rfl ⟨rfl, hB _ _⟩

theorem qtile_any (q : Rq) (hq : RqOk q) (pa : Option Addr) (pn pc : Nat) (w : World) :
    Calls Tryz.prog 20 #[rqV q (.slice pa pn pc)] w fun e w' => e = .returned (.agg #[.int .i64 (tileZ q).z, .int .i64 (tileZ q).c, .int .i64 (tileZ q).r]) ∧ Below w.heap.size w w' := by
  have hb := pkZ_bd q.a 4 (by decide)
  refine qtile_at q hq (pkZ q.a 4) (powZ (pkZ q.a 4)) rfl ?_ pa pn pc w
  unfold powZ
  by_cases h0 : pkZ q.a 4 = 0
  · rw [if_pos h0]; exact .inl ⟨h0, rfl⟩
  · rw [if_neg h0]
    by_cases h1 : pkZ q.a 4 = 1
    · rw [if_pos h1]; exact .inr (.inl ⟨h1, rfl⟩)
    · rw [if_neg h1]
      by_cases h2 : pkZ q.a 4 = 2
      · rw [if_pos h2]; exact .inr (.inr (.inl ⟨h2, rfl⟩))
      · rw [if_neg h2]; exact .inr (.inr (.inr ⟨by omega, rfl⟩))

end Go.Proofs.YtenaepdmlknlcaaGreatDoor

namespace Go.Proofs.YtenaepdmlknlcaaGreatDoor
open Go.RowKit Go.Shelf

/-- The feature that a put puts. -/
def nPl (q : Rq) : Nat := let kd := (1 + pkZ q.b 3).toNat; if 1 < kd ∧ kd < q.ps.length then (if 6 < q.ps.length then 6 else q.ps.length) else kd
def rawAt (q : Rq) (i : Nat) : Int := q.ps.getD i 0
def featZ (q : Rq) : Feat := ⟨1 + pkZ q.a 6, 1 + pkZ q.b 3, pkZ q.c 19 - 9, 1 + pkZ q.d 9, (List.range (nPl q)).map fun i => placeZ (rawAt q i)⟩
theorem nPl_bd (q : Rq) : mayB (1 + pkZ q.b 3) (nPl q) = true := by
  have h := pkZ_bd q.b 3 (by decide)
  unfold mayB nPl
  dsimp only
  rw [decide_eq_true_eq]
  split
  · split <;> omega
  · omega
theorem featZ_valid (q : Rq) : validF (featZ q) = true := by
  have h1 := pkZ_bd q.a 6 (by decide)
  have h3 := pkZ_bd q.c 19 (by decide)
  have h4 := pkZ_bd q.d 9 (by decide)
  have h2 := nPl_bd q
  unfold validF featZ
  simp only [Bool.and_eq_true, List.length_map, List.length_range, inB, decide_eq_true_eq]
  refine ⟨⟨⟨⟨by omega, by omega⟩, by omega⟩, h2⟩, ?_⟩
  rw [List.all_eq_true]
  intro p hp
  obtain ⟨i, _, rfl⟩ := List.mem_map.1 hp
  have := place_bd (rawAt q i)
  simp only [inW, inB, Bool.and_eq_true, decide_eq_true_eq]
  omega

/-- The raw numbers of a request, in memory. -/
def RawAt (w : World) (pa : Option Addr) (pn : Nat) (ps : List Int) : Prop := pn = ps.length ∧ (ps = [] ∨ ∃ b off, pa = some ⟨b, off, none⟩ ∧ b < w.heap.size ∧ ∀ (i : Nat) x, ps[i]? = some x → w.cell? ⟨b, off + i, none⟩ = some (.int .i64 x))

end Go.Proofs.YtenaepdmlknlcaaGreatDoor
