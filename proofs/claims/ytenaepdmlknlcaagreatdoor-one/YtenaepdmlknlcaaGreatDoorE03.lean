import Derived.Test.YtenaepdmlknlcaaGreatDoorE02
namespace Go.Proofs.YtenaepdmlknlcaaGreatDoor
open Go.RowKit

/-- The words of a request that are left, and whether something was wrong. -/
structure Wd where
  left : List ByteArray
  wrong : Bool

def Wd.next (s : Wd) : ByteArray × Wd := match s.left with | [] => (⟨#[]⟩, ⟨[], true⟩) | x :: xs => (x, ⟨xs, s.wrong⟩)
def Wd.check (s : Wd) (g : Bool) : Wd := ⟨s.left, s.wrong || !g⟩

/-- The words lie in block b; none of it is frozen. -/
structure WdAt (w : World) (b : Nat) (s : Wd) : Prop where
  ex : ∃ sb off cap : Nat, w.cell? ⟨b, 0, none⟩ = some (.slice (some ⟨sb, off, none⟩) s.left.length cap) ∧ s.left.length ≤ cap ∧ sb < b ∧ ∀ (i : Nat) x, s.left[i]? = some x → w.cell? ⟨sb, off + i, none⟩ = some (.string x)
  c1 : w.cell? ⟨b, 1, none⟩ = some (.bool s.wrong)
  f0 : w.frozen? ⟨b, 0, none⟩ = false
  f1 : w.frozen? ⟨b, 1, none⟩ = false

def OfB (b : Nat) : Nat → Nat → Prop := fun k _ => k = b

theorem frB (b : Nat) (w : World) (i : Nat) (u : Value) : Fr (OfB b) w (w.setCell ⟨b, i, none⟩ u) := (Fr.refl (OfB b) w).setCell (b := b) (i := i) (.inl rfl) u

theorem WdAt.lt {w : World} {b : Nat} {s : Wd} (h : WdAt w b s) : b < w.heap.size := World.block_lt_of_cell? w ⟨b, 1, none⟩ h.c1

theorem WdAt.below {n : Nat} {A B : World} (h : Below n A B) {b : Nat} {s : Wd} (k : WdAt A b s) (hn : A.heap.size ≤ n) : WdAt B b s := by
  obtain ⟨⟨sb, off, cap, e0, e1, e2, e4⟩, c1, f0, f1⟩ := k
  have hb : b < n := Nat.lt_of_lt_of_le (World.block_lt_of_cell? A ⟨b, 1, none⟩ c1) hn
  exact ⟨⟨sb, off, cap, (h.cell (p := ⟨b, 0, none⟩) hb).trans e0, e1, e2, fun i x e => (h.cell (p := ⟨sb, off + i, none⟩) (show sb < n by omega)).trans (e4 i x e)⟩, (h.cell (p := ⟨b, 1, none⟩) hb).trans c1, (h.frozen (p := ⟨b, 0, none⟩) hb).trans f0, (h.frozen (p := ⟨b, 1, none⟩) hb).trans f1⟩

set_option maxHeartbeats 400000 in
theorem next_any (b : Nat) (s : Wd) (w : World) (h : WdAt w b s) :
    Calls Tryz.prog 196 #[.pointer (some ⟨b, 0, none⟩)] w fun e w' => e = .returned (.string s.next.1) ∧ WdAt w' b s.next.2 ∧ Fr (OfB b) w w' := by
  obtain ⟨left, wrong⟩ := s
  obtain ⟨⟨sb, off, cap, e0, e1, e2, e4⟩, c1, f0, f1⟩ := h
  dsimp only at e0 e1 e4 c1
  cases left with
  | nil =>
    simp only [List.length_nil] at e0
    clear e4 e1
    go_enter Tryz.func196, Tryz.ntmps196
    go_wp2
    go_ret
    exact ⟨rfl, ⟨⟨sb, off, cap, (cell_ne w _ (.inr (by decide))).trans e0, Nat.zero_le _, e2, fun i x e => by simp [Wd.next] at e⟩, cell_eq c1 _, by rw [World.frozen?_setCell]; exact f0, by rw [World.frozen?_setCell]; exact f1⟩, frB b w _ _⟩
  | cons x xs =>
    have e5 := e4 0 x rfl
    rw [Nat.add_zero] at e5
    have H4 : Hid (∀ (i : Nat) x_1, (x :: xs)[i]? = some x_1 → w.cell? ⟨sb, off + i, none⟩ = some (.string x_1)) := e4
    have hl : (x :: xs).length = xs.length + 1 := rfl
    rw [hl] at e0 e1
    clear e4 hl
    obtain ⟨n, hn⟩ : ∃ n, xs.length = n := ⟨_, rfl⟩
    rw [hn] at e0 e1
    have Hn : Hid (xs.length = n) := hn
    clear hn
    go_enter Tryz.func196, Tryz.ntmps196
    go_wp2
    · have hn0 : n = 0 := by omega
      go_ret
      refine ⟨rfl, ⟨⟨sb, off, 0, ?_, ?_, e2, fun i y e => ?_⟩, (cell_ne w _ (.inr (by decide))).trans c1, by rw [World.frozen?_setCell]; exact f0, by rw [World.frozen?_setCell]; exact f1⟩, frB b w _ _⟩
      · show _ = some (Value.slice (some ⟨sb, off, none⟩) xs.length 0)
        rw [Hn.out]; exact cell_eq e0 _
      · show xs.length ≤ 0
        rw [Hn.out, hn0]; exact Nat.le_refl _
      · have : xs = [] := List.length_eq_zero_iff.1 (Hn.out.trans hn0)
        subst this
        simp [Wd.next] at e
    · go_ret
      refine ⟨rfl, ⟨⟨sb, off + 1, cap - 1, ?_, ?_, e2, fun i y e => ?_⟩, (cell_ne w _ (.inr (by decide))).trans c1, by rw [World.frozen?_setCell]; exact f0, by rw [World.frozen?_setCell]; exact f1⟩, frB b w _ _⟩
      · show _ = some (Value.slice (some ⟨sb, off + 1, none⟩) xs.length (cap - 1))
        rw [Hn.out]; exact cell_eq e0 _
      · show xs.length ≤ cap - 1
        rw [Hn.out]; omega
      · rw [cell_ne w _ (.inl (fun e => by omega)), show off + 1 + i = off + (i + 1) by omega]
        exact H4.out (i + 1) y e

theorem check_any (b : Nat) (s : Wd) (g : Bool) (w : World) (h : WdAt w b s) :
    Calls Tryz.prog 213 #[.pointer (some ⟨b, 0, none⟩), .bool g] w fun e w' => e = .returned (.tuple #[]) ∧ WdAt w' b (s.check g) ∧ Fr (OfB b) w w' := by
  obtain ⟨left, wrong⟩ := s
  have hfin : ∀ u : Bool, u = (wrong || !g) → WdAt (w.setCell ⟨b, 1, none⟩ (.bool u)) b (Wd.check ⟨left, wrong⟩ g) ∧ Fr (OfB b) w (w.setCell ⟨b, 1, none⟩ (.bool u)) := fun u hu => by
    obtain ⟨⟨sb, off, cap, e0, e1, e2, e4⟩, c1, f0, f1⟩ := h
    refine ⟨⟨⟨sb, off, cap, (cell_ne w _ (.inr (by decide))).trans e0, e1, e2, fun i x e => (cell_ne w _ (.inl (fun e => by omega))).trans (e4 i x e)⟩, ?_, by rw [World.frozen?_setCell]; exact f0, by rw [World.frozen?_setCell]; exact f1⟩, frB b w _ _⟩
    rw [cell_eq c1, hu]; rfl
  have c1 := h.c1
  have f1 := h.f1
  have HF : Hid _ := hfin
  clear hfin h
  cases wrong <;> cases g <;>
  · dsimp only at c1
    go_enter Tryz.func213, Tryz.ntmps213
    go_wp2
    go_end0
    exact ⟨rfl, HF.out _ rfl⟩

end Go.Proofs.YtenaepdmlknlcaaGreatDoor

namespace Go.Proofs.YtenaepdmlknlcaaGreatDoor
open Go.RowKit

/-- What the program's package-level variables hold. -/
structure Gl (w : World) : Prop where
  sz : 7 < w.heap.size
  m1 : ∃ m, w.cell? ⟨1, 0, none⟩ = some (.int .i64 m)
  t3 : w.cell? ⟨3, 15, none⟩ = some (.int .u8 4)
  e6 : ∃ te pe, w.cell? ⟨6, 0, none⟩ = some (.iface te pe)
  e7 : ∃ te pe, w.cell? ⟨7, 0, none⟩ = some (.iface te pe)
  tab : Lib.TabIs Tryz.prog w "internal/strconv.uint64pow10" .u64 Lib.pow10Tab

theorem pow10_at : Tryz.prog.globalNamed "internal/strconv.uint64pow10" = some 0 := by kernel_rfl

theorem Gl.below {n : Nat} {A B : World} (g : Gl A) (h : Below n A B) (hn : 7 < n) : Gl B := by
  obtain ⟨sz, ⟨m, m1⟩, t3, ⟨te, pe, e6⟩, ⟨te', pe', e7⟩, tab⟩ := g
  refine ⟨Nat.lt_of_lt_of_le sz h.size, ⟨m, (h.cell (p := ⟨1, 0, none⟩) (show 1 < n by omega)).trans m1⟩, (h.cell (p := ⟨3, 15, none⟩) (show 3 < n by omega)).trans t3, ⟨te, pe, (h.cell (p := ⟨6, 0, none⟩) (show 6 < n by omega)).trans e6⟩, ⟨te', pe', (h.cell (p := ⟨7, 0, none⟩) hn).trans e7⟩, ?_⟩
  have := h.block 0 (by omega)
  unfold Lib.TabIs World.var? at tab ⊢
  rw [pow10_at] at tab ⊢
  simp only [Option.bind_some] at tab ⊢
  rw [this]
  exact tab

theorem Gl.fr {M : Nat → Nat → Prop} {A B : World} (g : Gl A) (h : Fr M A B) (hm : ∀ b i, b < 8 → ¬ M b i) : Gl B := g.below (h.below g.sz hm) (by decide)

theorem eqS (t s : ByteArray) : (t.toList == s.toList) = decide (t = s) := by
  rw [ByteArray.toList_eq, ByteArray.toList_eq]
  by_cases h : t = s
  · subst h; simp
  · rw [decide_eq_false h, beq_eq_false_iff_ne]
    intro e
    exact h (by cases t; cases s; simp at e; rw [e])

/-- The number that a word tells (0, or the greatest or least, where it tells none), and whether it is written as it would be told. -/
def numV (s : ByteArray) : Int := match Lib.atoiAll s.data.toList with | .ok v => v | .syntax => 0 | .range => Lib.atoiSat s.data.toList
def numOk (s : ByteArray) : Bool := match Lib.atoiAll s.data.toList with | .ok v => decide ((⟨(Lib.itoa v).toArray⟩ : ByteArray) = s) | _ => false

theorem atoiAll_range {l : List UInt8} {v : Int} (h : Lib.atoiAll l = .ok v) : -9223372036854775808 ≤ v ∧ v ≤ 9223372036854775807 := by
  unfold Lib.atoiAll at h
  split at h
  · cases h
  · dsimp only at h
    split at h
    · cases h
    · cases h
    · split at h
      · cases h
      · split at h
        · cases h
        · cases h
          split <;> omega

theorem WdAt.fr {M : Nat → Nat → Prop} {A B : World} (h : Fr M A B) {b : Nat} {s : Wd} (k : WdAt A b s) (hm : ∀ c i, c ≤ b → ¬ M c i) : WdAt B b s := by
  obtain ⟨⟨sb, off, cap, e0, e1, e2, e4⟩, c1, f0, f1⟩ := k
  have hb : b < A.heap.size := World.block_lt_of_cell? A ⟨b, 1, none⟩ c1
  exact ⟨⟨sb, off, cap, (h.cell b 0 hb (hm _ _ (Nat.le_refl _))).trans e0, e1, e2, fun i x e => (h.cell sb (off + i) (by omega) (hm _ _ (by omega))).trans (e4 i x e)⟩, (h.cell b 1 hb (hm _ _ (Nat.le_refl _))).trans c1, (h.frozen b 0 hb (hm _ _ (Nat.le_refl _))).trans f0, (h.frozen b 1 hb (hm _ _ (Nat.le_refl _))).trans f1⟩

theorem below_grow (w : World) (k : Nat) (os : Array Obj) : Below w.heap.size w (Sort.grow (w.drewN k) os) := by
  refine ⟨rfl, rfl, rfl, by simp [Sort.grow], fun i hi => ?_⟩
  simp only [Sort.grow]
  rw [Array.getElem?_append_left (show i < (w.drewN k).heap.size from hi)]
  rfl

theorem Itoa_any (n : Int) (h0 : -9223372036854775808 ≤ n) (h1 : n ≤ 9223372036854775807) (w : World) (g : Gl w) :
    Calls Tryz.prog 96 #[.int .i64 n] w fun e w' => e = .returned (.string ⟨(Lib.itoa n).toArray⟩) ∧ Below w.heap.size w w' :=
  (Tryz.strconv_Itoa n h0 h1 w g.tab).mono fun _ _ ⟨he, k, os, hw⟩ => ⟨he, hw ▸ below_grow w k os⟩

theorem Atoi_ok (s : ByteArray) (hs : s.size ≤ 1000) (v : Int) (h : Lib.atoiAll s.data.toList = .ok v) (w : World) :
    Calls Tryz.prog 240 #[.string s] w fun e w' => e = .returned (.tuple #[.int .i64 v, .nilIface]) ∧ Below w.heap.size w w' :=
  (Tryz.strconv_Atoi_ok s (by omega) v h w).mono fun _ _ ⟨he, hw⟩ => ⟨he, hw.elim (fun e => e ▸ Below.refl _ _) fun ⟨t, e⟩ => e ▸ Lib.bytesWorld_below _ _ _⟩

theorem Atoi_no (s : ByteArray) (hs : s.size ≤ 1000) (h : ∀ v, Lib.atoiAll s.data.toList ≠ .ok v) (w : World) (g : Gl w) :
    Calls Tryz.prog 240 #[.string s] w fun e w' => ∃ p, e = .returned (.tuple #[.int .i64 (numV s), .iface 352 p]) ∧ Below w.heap.size w w' := by
  obtain ⟨te, pe, e6⟩ := g.e6
  obtain ⟨te', pe', e7⟩ := g.e7
  match hq : Lib.atoiAll s.data.toList with
  | .ok v => exact absurd hq (h v)
  | .syntax =>
    refine (Tryz.strconv_Atoi_syntax s (by omega) hq _ w e6 (.inr ⟨te, pe, rfl⟩)).mono ?_
    rintro e w' ⟨N, rfl, _, _, hb⟩
    exact ⟨_, by rw [numV, hq], hb⟩
  | .range =>
    refine (Tryz.strconv_Atoi_range s (by omega) hq _ w e7 (.inr ⟨te', pe', rfl⟩)).mono ?_
    rintro e w' ⟨N, rfl, _, _, hb⟩
    exact ⟨_, by rw [numV, hq], hb⟩

set_option maxRecDepth 100000 in
set_option maxHeartbeats 400000 in
theorem asNumber_any (b : Nat) (st : Wd) (s : ByteArray) (hs : s.size ≤ 1000) (w : World) (g : Gl w) (h : WdAt w b st) :
    Calls Tryz.prog 231 #[.pointer (some ⟨b, 0, none⟩), .string s] w fun e w' => e = .returned (.int .i64 (numV s)) ∧ WdAt w' b (st.check (numOk s)) ∧ Fr (OfB b) w w' := by
  have HG : Hid (Gl w) := g
  have HW : Hid (WdAt w b st) := h
  clear g h
  by_cases hq : ∃ v, Lib.atoiAll s.data.toList = .ok v
  · obtain ⟨v, hq⟩ := hq
    obtain ⟨r1, r2⟩ := atoiAll_range hq
    have HV : Hid (numV s = v) := by show numV s = v; rw [numV, hq]
    have HO : Hid (numOk s = decide ((⟨(Lib.itoa v).toArray⟩ : ByteArray) = s)) := by show numOk s = _; rw [numOk, hq]
    have HA := Atoi_ok s hs v hq w
    have HA' : Hid _ := HA
    clear HA hq
    by_cases hi : (⟨(Lib.itoa v).toArray⟩ : ByteArray) = s
    · have HI : Hid ((⟨(Lib.itoa v).toArray⟩ : ByteArray) = s) := hi
      clear hi
      go_enter Tryz.func231, Tryz.ntmps231
      go_wp2_with (first
        | (go_at_call 240; refine Calls.mono HA'.out ?_; rintro e w1 ⟨rfl, hb1⟩; dsimp only)
        | (go_at_call 96; refine (Itoa_any v r1 r2 _ (HG.out.below hb1 HG.out.sz)).mono ?_; rintro e w2 ⟨rfl, hb2⟩; dsimp only; rw [HI.out]; have hB2 : Below w.heap.size w w2 := hb1.trans (hb2.mono hb1.size))
        | (go_at_call 213; refine (check_any b st true _ (HW.out.below hB2 (Nat.le_refl _))).mono ?_; rintro e w3 ⟨rfl, hw3, hb3⟩; dsimp only))
      go_ret
      rw [HV.out, HO.out, decide_eq_true HI.out]
      exact ⟨rfl, hw3, (Fr.of_below hB2).trans hb3⟩
    · obtain ⟨t, ht⟩ : ∃ t, (⟨(Lib.itoa v).toArray⟩ : ByteArray) = t := ⟨_, rfl⟩
      rw [ht] at hi HO
      have HT : Hid ((⟨(Lib.itoa v).toArray⟩ : ByteArray) = t) := ht
      have HI : Hid (¬ t = s) := hi
      clear ht
      go_enter Tryz.func231, Tryz.ntmps231
      go_wp2_with (first
        | (go_at_call 240; refine Calls.mono HA'.out ?_; rintro e w1 ⟨rfl, hb1⟩; dsimp only)
        | (go_at_call 96; refine (Itoa_any v r1 r2 _ (HG.out.below hb1 HG.out.sz)).mono ?_; rintro e w2 ⟨rfl, hb2⟩; dsimp only; rw [HT.out]; have hB2 : Below w.heap.size w w2 := hb1.trans (hb2.mono hb1.size))
        | (go_at_call 213; refine (check_any b st _ _ (HW.out.below hB2 (Nat.le_refl _))).mono ?_; rintro e w3 ⟨rfl, hw3, hb3⟩; dsimp only))
      go_ret
      rw [HV.out, HO.out]
      rw [eqS] at hw3
      exact ⟨rfl, hw3, (Fr.of_below hB2).trans hb3⟩
  · have HO : Hid (numOk s = false) := by
      show numOk s = false
      rw [numOk]
      split
      · rename_i v e; exact absurd ⟨v, e⟩ hq
      · rfl
    have HA' : Hid _ := Atoi_no s hs (fun v e => hq ⟨v, e⟩) w HG.out
    clear hq
    go_enter Tryz.func231, Tryz.ntmps231
    go_wp2_with (first
      | (go_at_call 240; refine Calls.mono HA'.out ?_; rintro e w1 ⟨p, rfl, hb1⟩; dsimp only)
      | (go_at_call 213; refine (check_any b st false _ (HW.out.below hb1 (Nat.le_refl _))).mono ?_; rintro e w3 ⟨rfl, hw3, hb3⟩; dsimp only))
    go_ret
    rw [HO.out]
    exact ⟨rfl, hw3, (Fr.of_below hb1).trans hb3⟩

/-- Every word is short. -/
def Wd.short (s : Wd) : Prop := ∀ x ∈ s.left, x.size ≤ 1000
theorem Wd.short_next {s : Wd} (h : s.short) : s.next.1.size ≤ 1000 ∧ s.next.2.short := by
  obtain ⟨left, wrong⟩ := s
  cases left with
  | nil => exact ⟨by simp [Wd.next, ByteArray.size], fun x hx => by simp [Wd.next] at hx⟩
  | cons y ys => exact ⟨h y (by simp), fun x hx => h x (by simp [Wd.next] at hx; simp [hx])⟩

theorem Gl.ofB {A B : World} (g : Gl A) {b : Nat} (h : Fr (OfB b) A B) (hb : 8 ≤ b) : Gl B := g.fr h fun k _ hk e => by
  have : k = b := e
  omega

def Wd.number (s : Wd) : Int × Wd := (numV s.next.1, s.next.2.check (numOk s.next.1))
theorem number_any (b : Nat) (st : Wd) (hs : st.short) (w : World) (g : Gl w) (hb : 8 ≤ b) (h : WdAt w b st) :
    Calls Tryz.prog 212 #[.pointer (some ⟨b, 0, none⟩)] w fun e w' => e = .returned (.int .i64 st.number.1) ∧ WdAt w' b st.number.2 ∧ Fr (OfB b) w w' := by
  have HG : Hid (Gl w) := g
  have HW : Hid (WdAt w b st) := h
  have HS : Hid st.short := hs
  clear g h hs
  go_enter Tryz.func212, Tryz.ntmps212
  go_wp2_with (first
    | (go_at_call 196; refine (next_any b st _ HW.out).mono ?_; rintro e w1 ⟨rfl, hw1, hb1⟩; dsimp only)
    | (go_at_call 231; refine (asNumber_any b _ _ (Wd.short_next HS.out).1 _ (HG.out.ofB hb1 hb) hw1).mono ?_; rintro e w2 ⟨rfl, hw2, hb2⟩; dsimp only))
  go_ret
  exact ⟨rfl, hw2, hb1.trans hb2⟩

def Wd.id (s : Wd) : Int × Wd := (s.number.1, s.number.2.check (inB s.number.1 1 99))
theorem id_any (b : Nat) (st : Wd) (hs : st.short) (w : World) (g : Gl w) (hb : 8 ≤ b) (h : WdAt w b st) :
    Calls Tryz.prog 200 #[.pointer (some ⟨b, 0, none⟩)] w fun e w' => e = .returned (.int .i64 st.id.1) ∧ WdAt w' b st.id.2 ∧ Fr (OfB b) w w' := by
  have HN : Hid _ := number_any b st hs w g hb h
  clear g h hs
  go_enter Tryz.func200, Tryz.ntmps200
  go_wp2_with (first
    | (go_at_call 212; refine Calls.mono HN.out ?_; rintro e w1 ⟨rfl, hw1, hb1⟩; dsimp only)
    | (go_at_call 81; refine (IsId_any _ _).mono ?_; rintro e w2 ⟨rfl, rfl⟩; dsimp only)
    | (go_at_call 213; refine (check_any b _ _ _ hw1).mono ?_; rintro e w3 ⟨rfl, hw3, hb3⟩; dsimp only))
  go_ret
  exact ⟨rfl, hw3, hb1.trans hb3⟩

end Go.Proofs.YtenaepdmlknlcaaGreatDoor

namespace Go.Proofs.YtenaepdmlknlcaaGreatDoor
open Go.RowKit

def Wd.mark (s : Wd) : ByteArray × Wd := match s.left with | [] => (⟨#[]⟩, s) | x :: xs => (x, (⟨xs, s.wrong⟩ : Wd).check (decide (x.size = 8)))

theorem size8 (n : Nat) : ((n : Int) == 8) = decide (n = 8) := by
  by_cases h : n = 8
  · subst h; rfl
  · rw [decide_eq_false h, beq_eq_false_iff_ne]; omega

theorem WdAt.bad {w : World} {b : Nat} {s : Wd} (h : WdAt w b s) : WdAt (w.setCell ⟨b, 1, none⟩ (.bool true)) b ⟨s.left, true⟩ := by
  obtain ⟨⟨sb, off, cap, e0, e1, e2, e4⟩, c1, f0, f1⟩ := h
  exact ⟨⟨sb, off, cap, (cell_ne w _ (.inr (by decide))).trans e0, e1, e2, fun i x e => (cell_ne w _ (.inl (fun e => by omega))).trans (e4 i x e)⟩, cell_eq c1 _, by rw [World.frozen?_setCell]; exact f0, by rw [World.frozen?_setCell]; exact f1⟩

set_option maxHeartbeats 400000 in
theorem mark_any (b : Nat) (st : Wd) (w : World) (h : WdAt w b st) :
    Calls Tryz.prog 198 #[.pointer (some ⟨b, 0, none⟩)] w fun e w' => e = .returned (.string st.mark.1) ∧ WdAt w' b st.mark.2 ∧ Fr (OfB b) w w' := by
  have HW : Hid (WdAt w b st) := h
  obtain ⟨⟨sb, off, cap, e0, _⟩, _⟩ := h
  obtain ⟨left, wrong⟩ := st
  cases left with
  | nil =>
    simp only [List.length_nil] at e0
    go_enter Tryz.func198, Tryz.ntmps198
    go_wp2
    go_ret
    exact ⟨rfl, HW.out, Fr.refl _ _⟩
  | cons x xs =>
    simp only [List.length_cons] at e0
    obtain ⟨n, hn⟩ : ∃ n, xs.length = n := ⟨_, rfl⟩
    rw [hn] at e0
    clear hn
    go_enter Tryz.func198, Tryz.ntmps198
    go_wp2_with (first
      | (go_at_call 196; refine (next_any b ⟨x :: xs, wrong⟩ _ HW.out).mono ?_; rintro e w1 ⟨rfl, hw1, hb1⟩; dsimp only [Wd.next])
      | (go_at_call 213; refine (check_any b _ _ _ hw1).mono ?_; rintro e w3 ⟨rfl, hw3, hb3⟩; dsimp only))
    go_ret
    rw [size8] at hw3
    exact ⟨rfl, hw3, hb1.trans hb3⟩

def kindV (x : ByteArray) : Int := if (x.toList == [112, 111, 105, 110, 116]) = true then 1 else if (x.toList == [108, 105, 110, 101]) = true then 2 else if (x.toList == [97, 114, 101, 97]) = true then 3 else 0
def Wd.kind (s : Wd) : Int × Wd := (kindV s.next.1, if kindV s.next.1 = 0 then ⟨s.next.2.left, true⟩ else s.next.2)

set_option maxHeartbeats 400000 in
theorem kind_any (b : Nat) (st : Wd) (w : World) (h : WdAt w b st) :
    Calls Tryz.prog 214 #[.pointer (some ⟨b, 0, none⟩)] w fun e w' => e = .returned (.int .i64 st.kind.1) ∧ WdAt w' b st.kind.2 ∧ Fr (OfB b) w w' := by
  have HN : Hid _ := next_any b st w h
  clear h
  obtain ⟨x, hx⟩ : ∃ x, st.next.1 = x := ⟨_, rfl⟩
  have HX : Hid (st.next.1 = x) := hx
  have HF : Hid (∀ W : World, ∀ k : Int, kindV x = k → k ≠ 0 → WdAt W b st.next.2 → Fr (OfB b) w W → Ending.returned (Value.int .i64 k) = .returned (.int .i64 st.kind.1) ∧ WdAt W b st.kind.2 ∧ Fr (OfB b) w W) := fun W k e h0 h1 h2 => by
    rw [Wd.kind, hx, e, if_neg h0]
    exact ⟨rfl, h1, h2⟩
  have HZ : Hid (kindV x = 0 → st.kind = (0, ⟨st.next.2.left, true⟩)) := fun e => by rw [Wd.kind, hx, e, if_pos rfl]
  clear hx
  by_cases h1 : (x.toList == [112, 111, 105, 110, 116]) = true
  · have HK : Hid (kindV x = 1) := by show kindV x = 1; rw [kindV, if_pos h1]
    go_enter Tryz.func214, Tryz.ntmps214
    go_wp2_with (first
      | (go_at_call 196; refine Calls.mono HN.out ?_; rintro e w1 ⟨rfl, hw1, hb1⟩; dsimp only; rw [HX.out]))
    go_ret
    exact HF.out w1 1 HK.out (by decide) hw1 hb1
  · have h1' : (x.toList == [112, 111, 105, 110, 116]) = false := by simpa using h1
    by_cases h2 : (x.toList == [108, 105, 110, 101]) = true
    · have HK : Hid (kindV x = 2) := by show kindV x = 2; rw [kindV, if_neg h1, if_pos h2]
      clear h1
      go_enter Tryz.func214, Tryz.ntmps214
      go_wp2_with (first
        | (go_at_call 196; refine Calls.mono HN.out ?_; rintro e w1 ⟨rfl, hw1, hb1⟩; dsimp only; rw [HX.out]))
      go_ret
      exact HF.out w1 2 HK.out (by decide) hw1 hb1
    · have h2' : (x.toList == [108, 105, 110, 101]) = false := by simpa using h2
      by_cases h3 : (x.toList == [97, 114, 101, 97]) = true
      · have HK : Hid (kindV x = 3) := by show kindV x = 3; rw [kindV, if_neg h1, if_neg h2, if_pos h3]
        clear h1 h2
        go_enter Tryz.func214, Tryz.ntmps214
        go_wp2_with (first
          | (go_at_call 196; refine Calls.mono HN.out ?_; rintro e w1 ⟨rfl, hw1, hb1⟩; dsimp only; rw [HX.out]))
        go_ret
        exact HF.out w1 3 HK.out (by decide) hw1 hb1
      · have h3' : (x.toList == [97, 114, 101, 97]) = false := by simpa using h3
        have HK : Hid (kindV x = 0) := by show kindV x = 0; rw [kindV, if_neg h1, if_neg h2, if_neg h3]
        clear h1 h2 h3
        go_enter Tryz.func214, Tryz.ntmps214
        go_wp2_with (first
          | (go_at_call 196; refine Calls.mono HN.out ?_; rintro e w1 ⟨rfl, hw1, hb1⟩; dsimp only; rw [HX.out]; have c1 := hw1.c1; have f1 := hw1.f1))
        go_ret
        rw [HZ.out HK.out]
        exact ⟨rfl, hw1.bad, hb1.trans (frB b w1 _ _)⟩

/-- A tile, as numbers. -/
structure Tl where
  z : Int
  c : Int
  r : Int
  deriving DecidableEq

def Wd.tile (s : Wd) : Tl × Wd :=
  (⟨s.number.1, s.number.2.number.1, s.number.2.number.2.number.1⟩, s.number.2.number.2.number.2.check (tileB s.number.1 s.number.2.number.1 s.number.2.number.2.number.1))

theorem Wd.short_number {s : Wd} (h : s.short) : s.number.2.short := (Wd.short_next h).2

/-- One number more, in a world that came of w. -/
theorem number_from {b : Nat} {w : World} (g : Gl w) (hb : 8 ≤ b) (W : World) (s : Wd) (hs : s.short) (hF : Fr (OfB b) w W) (h : WdAt W b s) :
    Calls Tryz.prog 212 #[.pointer (some ⟨b, 0, none⟩)] W fun e w' => e = .returned (.int .i64 s.number.1) ∧ WdAt w' b s.number.2 ∧ Fr (OfB b) w w' :=
  (number_any b s hs W (g.ofB hF hb) hb h).mono fun _ _ ⟨he, hw, hf⟩ => ⟨he, hw, hF.trans hf⟩

theorem WdAt.alloc {w : World} {b : Nat} {s : Wd} (h : WdAt w b s) (o : Obj) : WdAt (w.alloc o) b s := h.below ((Below.refl _ _).alloc (Nat.le_refl _) o) (Nat.le_refl _)

/-- Three cells of a block, none of them frozen. -/
structure K3 (w : World) (b : Nat) (v0 v1 v2 : Value) : Prop where
  c0 : w.cell? ⟨b, 0, none⟩ = some v0
  c1 : w.cell? ⟨b, 1, none⟩ = some v1
  c2 : w.cell? ⟨b, 2, none⟩ = some v2
  f0 : w.frozen? ⟨b, 0, none⟩ = false
  f1 : w.frozen? ⟨b, 1, none⟩ = false
  f2 : w.frozen? ⟨b, 2, none⟩ = false
theorem K3.new (w : World) (v0 v1 v2 : Value) (t : TypeId) : K3 (w.alloc (.cells #[v0, v1, v2] t)) w.heap.size v0 v1 v2 := by
  constructor <;> simp [go_sem]
theorem K3.lt {w : World} {b : Nat} {v0 v1 v2 : Value} (k : K3 w b v0 v1 v2) : b < w.heap.size := World.block_lt_of_cell? w ⟨b, 0, none⟩ k.c0
theorem K3.fr {M : Nat → Nat → Prop} {A B : World} (h : Fr M A B) {b : Nat} {v0 v1 v2 : Value} (k : K3 A b v0 v1 v2) (hm : ∀ i, ¬ M b i) : K3 B b v0 v1 v2 :=
  ⟨(h.cell b 0 k.lt (hm _)).trans k.c0, (h.cell b 1 k.lt (hm _)).trans k.c1, (h.cell b 2 k.lt (hm _)).trans k.c2, (h.frozen b 0 k.lt (hm _)).trans k.f0, (h.frozen b 1 k.lt (hm _)).trans k.f1, (h.frozen b 2 k.lt (hm _)).trans k.f2⟩
theorem K3.below {n : Nat} {A B : World} (h : Below n A B) (hn : A.heap.size ≤ n) {b : Nat} {v0 v1 v2 : Value} (k : K3 A b v0 v1 v2) : K3 B b v0 v1 v2 :=
  k.fr (M := fun _ _ => False) (Fr.of_below (h.mono hn)) (fun _ e => e)

theorem set3 (w : World) (b : Nat) (u0 u1 u2 : Value) : Fr (OfB b) w (((w.setCell ⟨b, 0, none⟩ u0).setCell ⟨b, 1, none⟩ u1).setCell ⟨b, 2, none⟩ u2) :=
  ((frB b w 0 u0).setCell (b := b) (i := 1) (.inl rfl) u1).setCell (b := b) (i := 2) (.inl rfl) u2

set_option maxHeartbeats 1000000 in
theorem tile_any (b : Nat) (st : Wd) (hs : st.short) (w : World) (g : Gl w) (hb : 8 ≤ b) (h : WdAt w b st) :
    Calls Tryz.prog 197 #[.pointer (some ⟨b, 0, none⟩)] w fun e w' => e = .returned (.agg #[.int .i64 st.tile.1.z, .int .i64 st.tile.1.c, .int .i64 st.tile.1.r]) ∧ WdAt w' b st.tile.2 ∧ Fr (OfB b) w w' := by
  have HL : Hid (b < w.heap.size) := h.lt
  have HB : Hid (¬ w.heap.size = b) := fun e => by have := h.lt; omega
  have HW : Hid (WdAt (w.alloc (.cells #[.int .i64 0, .int .i64 0, .int .i64 0] 24)) b st) := h.alloc _
  have HG : Hid (Gl (w.alloc (.cells #[.int .i64 0, .int .i64 0, .int .i64 0] 24))) := g.below ((Below.refl _ _).alloc (Nat.le_refl _) _) g.sz
  have HK : Hid (K3 (w.alloc (.cells #[.int .i64 0, .int .i64 0, .int .i64 0] 24)) w.heap.size (.int .i64 0) (.int .i64 0) (.int .i64 0)) := K3.new _ _ _ _ _
  have HS : Hid st.short := hs
  clear g h hs
  go_enter Tryz.func197, Tryz.ntmps197
  go_wp2_with (first
    | (go_at_call 212; refine (number_from HG.out hb _ _ (Wd.short_number (Wd.short_number HS.out)) hf2 hw2).mono ?_; rintro e w3 ⟨rfl, hw3, hf3⟩; dsimp only)
    | (go_at_call 212; refine (number_from HG.out hb _ _ (Wd.short_number HS.out) hf1 hw1).mono ?_; rintro e w2 ⟨rfl, hw2, hf2⟩; dsimp only)
    | (go_at_call 212; refine (number_from HG.out hb _ _ HS.out (Fr.refl _ _) HW.out).mono ?_; rintro e w1 ⟨rfl, hw1, hf1⟩; dsimp only)
    | (go_at_call 29; refine (IsTile_any _ _ _ _).mono ?_; rintro e w4 ⟨rfl, hb4⟩; dsimp only)
    | (go_at_call 213; refine (check_any b _ _ _ ((hw3.alloc _).below hb4 (Nat.le_refl _))).mono ?_; rintro e w5 ⟨rfl, hw5, hb5⟩; dsimp only; have hF4 := (hf3.alloc _).trans (Fr.of_below hb4); have hF5 := hF4.trans hb5; obtain ⟨r0, r1, r2, r3, r4, r5⟩ := HK.out.fr hF5 (fun _ e => HB.out e); have HB3 : Hid (¬ w3.heap.size = b) := (fun e => by have := hw3.lt; omega); obtain ⟨t0, t1, t2, _, _, _⟩ := ((K3.new w3 _ _ _ _).below hb4 (Nat.le_refl _)).fr hb5 (fun _ e => HB3.out e)))
  refine bodyPost_ret (v := .agg #[.int .i64 _, .int .i64 _, .int .i64 _]) (by simp [results, Tryz.results197, go_sem, r0, r1, r2]; exact ⟨rfl, rfl, rfl⟩) rfl ⟨rfl, ?_, ?_⟩
  · exact hw5.fr (set3 w5 w.heap.size _ _ _) (fun c _ hc e => by have : c = w.heap.size := e; have := HL.out; omega)
  · exact (((Fr.refl _ w).alloc _).trans hF5).trans_new (set3 w5 w.heap.size _ _ _) (fun c _ hc e => by have : c = w.heap.size := e; omega)

end Go.Proofs.YtenaepdmlknlcaaGreatDoor

namespace Go.Proofs.YtenaepdmlknlcaaGreatDoor
open Go.RowKit

def cutX (x : ByteArray) : ByteArray := ⟨(Lib.cut x.data.toList [44]).1.toArray⟩
def cutY (x : ByteArray) : ByteArray := ⟨(Lib.cut x.data.toList [44]).2.1.toArray⟩
def ptOf (x : ByteArray) : Int × Int := (numV (cutX x), numV (cutY x))
def ptOk (x : ByteArray) : Bool := numOk (cutX x) && numOk (cutY x)

theorem cut_size (x : ByteArray) (h : x.size ≤ 1000) : (cutX x).size ≤ 1000 ∧ (cutY x).size ≤ 1000 := by
  have h' : x.data.toList.length ≤ 1000 := by rw [Array.length_toList]; exact h
  unfold cutX cutY Lib.cut
  split
  · simp only [ByteArray.size, List.size_toArray, List.length_take, List.length_drop]
    omega
  · simp only [ByteArray.size, List.size_toArray, List.length_nil]
    omega

def Wd.place (s : Wd) : (Int × Int) × Wd := (ptOf s.next.1, s.next.2.check (ptOk s.next.1))

theorem asNumber_from {b : Nat} {w : World} (g : Gl w) (hb : 8 ≤ b) (W : World) (st : Wd) (s : ByteArray) (hs : s.size ≤ 1000) (hF : Fr (OfB b) w W) (h : WdAt W b st) :
    Calls Tryz.prog 231 #[.pointer (some ⟨b, 0, none⟩), .string s] W fun e w' => e = .returned (.int .i64 (numV s)) ∧ WdAt w' b (st.check (numOk s)) ∧ Fr (OfB b) w w' :=
  (asNumber_any b st s hs W (g.ofB hF hb) h).mono fun _ _ ⟨he, hw, hf⟩ => ⟨he, hw, hF.trans hf⟩

theorem check2 (s : Wd) (a b : Bool) : (s.check a).check b = s.check (a && b) := by
  cases s with | mk l w => simp only [Wd.check]; cases w <;> cases a <;> cases b <;> rfl

/-- Two cells of a block, none of them frozen. -/
structure K2 (w : World) (b : Nat) (v0 v1 : Value) : Prop where
  c0 : w.cell? ⟨b, 0, none⟩ = some v0
  c1 : w.cell? ⟨b, 1, none⟩ = some v1
  f0 : w.frozen? ⟨b, 0, none⟩ = false
  f1 : w.frozen? ⟨b, 1, none⟩ = false
theorem K2.new (w : World) (v0 v1 : Value) (t : TypeId) : K2 (w.alloc (.cells #[v0, v1] t)) w.heap.size v0 v1 := by
  constructor <;> simp [go_sem]
theorem K2.lt {w : World} {b : Nat} {v0 v1 : Value} (k : K2 w b v0 v1) : b < w.heap.size := World.block_lt_of_cell? w ⟨b, 0, none⟩ k.c0
theorem K2.fr {M : Nat → Nat → Prop} {A B : World} (h : Fr M A B) {b : Nat} {v0 v1 : Value} (k : K2 A b v0 v1) (hm : ∀ i, ¬ M b i) : K2 B b v0 v1 :=
  ⟨(h.cell b 0 k.lt (hm _)).trans k.c0, (h.cell b 1 k.lt (hm _)).trans k.c1, (h.frozen b 0 k.lt (hm _)).trans k.f0, (h.frozen b 1 k.lt (hm _)).trans k.f1⟩
theorem set2 (w : World) (b : Nat) (u0 u1 : Value) : Fr (OfB b) w ((w.setCell ⟨b, 0, none⟩ u0).setCell ⟨b, 1, none⟩ u1) :=
  (frB b w 0 u0).setCell (b := b) (i := 1) (.inl rfl) u1

theorem WdAt.drewN {w : World} {b : Nat} {s : Wd} (h : WdAt w b s) (n : Nat) : WdAt (w.drewN n) b s := h.below (below_drewN (Below.refl w.heap.size w) n) (Nat.le_refl _)

set_option maxHeartbeats 1000000 in
theorem place_any (b : Nat) (st : Wd) (hs : st.short) (w : World) (g : Gl w) (hb : 8 ≤ b) (h : WdAt w b st) :
    Calls Tryz.prog 215 #[.pointer (some ⟨b, 0, none⟩)] w fun e w' => e = .returned (.agg #[.int .i64 st.place.1.1, .int .i64 st.place.1.2]) ∧ WdAt w' b st.place.2 ∧ Fr (OfB b) w w' := by
  have HL : Hid (b < w.heap.size) := h.lt
  have HB : Hid (¬ w.heap.size = b) := fun e => by have := h.lt; omega
  have HW : Hid (WdAt (w.alloc (.cells #[.int .i64 0, .int .i64 0] 29)) b st) := h.alloc _
  have HG : Hid (Gl (w.alloc (.cells #[.int .i64 0, .int .i64 0] 29))) := g.below ((Below.refl _ _).alloc (Nat.le_refl _) _) g.sz
  have HK : Hid (K2 (w.alloc (.cells #[.int .i64 0, .int .i64 0] 29)) w.heap.size (.int .i64 0) (.int .i64 0)) := K2.new _ _ _ _
  have HS : Hid (st.next.1.size ≤ 1000) := (Wd.short_next hs).1
  have HC : Hid (∀ W : World, Gl W → Calls Tryz.prog 232 #[.string st.next.1, .string ⟨#[44]⟩] W fun e w' => ∃ q : Bool, e = .returned (.tuple #[.string (cutX st.next.1), .string (cutY st.next.1), .bool q]) ∧ Fr (OfB b) W w' ∧ ∃ n, w' = W.drewN n) := fun W gW => by
    obtain ⟨m, hm⟩ := gW.m1
    refine (Tryz.strings_Cut st.next.1 ⟨#[44]⟩ m W (Nat.lt_of_le_of_lt (Wd.short_next hs).1 (by decide)) hm).mono ?_
    rintro e w' ⟨rfl, n, rfl⟩
    exact ⟨_, rfl, (Fr.refl _ _).drewN n, n, rfl⟩
  clear g h hs
  go_enter Tryz.func215, Tryz.ntmps215
  go_wp2_with (first
    | (go_at_call 196; refine (next_any b st _ HW.out).mono ?_; rintro e w1 ⟨rfl, hw1, hf1⟩; dsimp only)
    | (go_at_call 232; refine Calls.mono (HC.out _ (HG.out.ofB hf1 hb)) ?_; rintro e w2 ⟨q, rfl, hf2, n, rfl⟩; dsimp only; have hw2 : WdAt (w1.drewN n) b st.next.2 := hw1.drewN n; have hF2 := hf1.trans hf2)
    | (go_at_call_of 231 (Value.string (cutX st.next.1)); refine (asNumber_from HG.out hb _ _ _ (cut_size _ HS.out).1 hF2 hw2).mono ?_; rintro e w3 ⟨rfl, hw3, hf3⟩; dsimp only)
    | (go_at_call_of 231 (Value.string (cutY st.next.1)); refine (asNumber_from HG.out hb _ _ _ (cut_size _ HS.out).2 hf3 hw3).mono ?_; rintro e w4 ⟨rfl, hw4, hf4⟩; dsimp only; obtain ⟨r0, r1, r2, r3⟩ := HK.out.fr hf4 (fun _ e => HB.out e)))
  refine bodyPost_ret (v := .agg #[.int .i64 _, .int .i64 _]) (by simp [results, Tryz.results215, go_sem, r0, r1]; exact ⟨rfl, rfl⟩) rfl ⟨rfl, ?_, ?_⟩
  · rw [check2] at hw4
    exact hw4.fr (set2 w4 w.heap.size _ _) (fun c _ hc e => by have : c = w.heap.size := e; have := HL.out; omega)
  · exact (((Fr.refl _ w).alloc _).trans hf4).trans_new (set2 w4 w.heap.size _ _) (fun c _ hc e => by have : c = w.heap.size := e; omega)

end Go.Proofs.YtenaepdmlknlcaaGreatDoor
