import Derived.Test.YtenaepdmlknlcaaGreatDoorF21
namespace Go.Proofs.YtenaepdmlknlcaaGreatDoor
open Go.RowKit Go.Shelf

/-- A pick of session n, and its answers are taken. -/
def turnM (a : Atl) (n : Nat) : Atl := tellM (pickM a n).2 n
structure FairOk (a : Atl) : Prop where
  ok : AtlOk a
  lock : LockOk a
  an : ∀ n, n < 4 → (a.ss n).an = []
theorem tell_ss (a : Atl) (n k : Nat) : (tellM a n).ss k = if k = n then { a.ss n with an := [] } else a.ss k := rfl
theorem tell_q (a : Atl) (n k : Nat) : ((tellM a n).ss k).q = (a.ss k).q := by rw [tell_ss]; split <;> simp_all
theorem tell_nx (a : Atl) (n k : Nat) : ((tellM a n).ss k).nx = (a.ss k).nx := by rw [tell_ss]; split <;> simp_all
theorem tell_wait (a : Atl) (n k : Nat) : waitS ((tellM a n).ss k) = waitS (a.ss k) := by rw [waitS_eq, waitS_eq, tell_q, tell_nx]
theorem tell_left (a : Atl) (n k : Nat) : leftS ((tellM a n).ss k) = leftS (a.ss k) := by unfold leftS; rw [tell_q, tell_nx]
theorem tell_ok {a : Atl} (h : AtlOk a) (n : Nat) : AtlOk (tellM a n) := by
  refine ⟨h.g, fun k hk => ⟨?_, ?_, ?_, ?_⟩⟩
  · rw [tell_q]; exact (h.ss k hk).q
  · rw [tell_wait]; exact (h.ss k hk).w
  · rw [tell_nx]; exact (h.ss k hk).nx
  · rw [tell_ss]; split
    · simp
    · exact (h.ss k hk).an
theorem tell_lock {a : Atl} (h : LockOk a) (n : Nat) : LockOk (tellM a n) :=
  ⟨fun e k hk => by rw [tell_nx]; exact h.free e k hk, fun e => (h.held e).imp fun k hk => by rw [tell_nx]; exact hk, fun k m hk hm => by rw [tell_nx, tell_nx]; exact h.one k m hk hm⟩
theorem turn_ok {a : Atl} (h : FairOk a) {n : Nat} (hn : n < 4) : FairOk (turnM a n) := by
  refine ⟨tell_ok (pickM_ok h.ok hn (by rw [h.an n hn]; simp)) n, tell_lock (pickM_lock h.ok h.lock hn) n, fun k hk => ?_⟩
  unfold turnM
  rw [tell_ss]
  split
  · rfl
  · rename_i e
    rw [(pickM_out h.ok hn).other k e]; exact h.an k hk
/-- What a pick that does nothing leaves. -/
structure SameW (a b : Atl) : Prop where
  g : b.g = a.g
  w : ∀ k, waitS (b.ss k) = waitS (a.ss k)
  h : ∀ k, holdS (b.ss k).nx = holdS (a.ss k).nx
theorem SameW.trans {a b c : Atl} (h : SameW a b) (k : SameW b c) : SameW a c := ⟨k.g.trans h.g, fun i => (k.w i).trans (h.w i), fun i => (k.h i).trans (h.h i)⟩
theorem turn_still {a : Atl} (h : FairOk a) {n : Nat} (hn : n < 4) (hd : (pickM a n).1 = false) : SameW a (turnM a n) := by
  have o := pickM_out h.ok hn
  obtain ⟨s1, s2, s3, _⟩ := o.still hd
  refine ⟨s1, fun k => ?_, fun k => ?_⟩
  · unfold turnM; rw [tell_wait]
    by_cases e : k = n
    · rw [e]; exact s2
    · rw [o.other k e]
  · unfold turnM; rw [tell_nx]
    by_cases e : k = n
    · rw [e]; exact s3
    · rw [o.other k e]
theorem turn_left {a : Atl} (h : FairOk a) {n : Nat} (hn : n < 4) : leftM (turnM a n) ≤ leftM a := by
  have o := pickM_out h.ok hn
  refine sum4_le fun k hk => ?_
  unfold turnM
  rw [tell_left]
  by_cases e : k = n
  · rw [e]; exact o.le
  · rw [o.other k e]; exact Nat.le_refl _
theorem turn_less {a : Atl} (h : FairOk a) {n : Nat} (hn : n < 4) (hd : (pickM a n).1 = true) : leftM (turnM a n) < leftM a := by
  have o := pickM_out h.ok hn
  refine sum4_lt (k := n) (fun k hk => ?_) hn ?_
  · unfold turnM
    rw [tell_left]
    by_cases e : k = n
    · rw [e]; exact o.le
    · rw [o.other k e]; exact Nat.le_refl _
  · unfold turnM
    rw [tell_left]
    exact (o.moved hd).1
/-- The sessions picked in turn. -/
def turnsM (a : Atl) : Nat → Atl
  | 0 => a
  | n + 1 => turnM (turnsM a n) n
def movedM (a : Atl) : Nat → Bool
  | 0 => false
  | n + 1 => movedM a n || (pickM (turnsM a n) n).1
theorem turns_ok {a : Atl} (h : FairOk a) : ∀ n, n ≤ 4 → FairOk (turnsM a n)
  | 0, _ => h
  | n + 1, hn => turn_ok (turns_ok h n (by omega)) (by omega)
theorem turns_left {a : Atl} (h : FairOk a) : ∀ n, n ≤ 4 → leftM (turnsM a n) ≤ leftM a
  | 0, _ => Nat.le_refl _
  | n + 1, hn => Nat.le_trans (turn_left (turns_ok h n (by omega)) (by omega)) (turns_left h n (by omega))
theorem turns_less {a : Atl} (h : FairOk a) : ∀ n, n ≤ 4 → movedM a n = true → leftM (turnsM a n) < leftM a
  | 0, _, e => by cases e
  | n + 1, hn, e => by
    have hk := turns_ok h n (by omega)
    rcases Bool.or_eq_true_iff.1 e with e | e
    · exact Nat.lt_of_le_of_lt (turn_left hk (by omega)) (turns_less h n (by omega) e)
    · exact Nat.lt_of_lt_of_le (turn_less hk (by omega) e) (turns_left h n (by omega))
theorem turns_still {a : Atl} (h : FairOk a) : ∀ n, n ≤ 4 → movedM a n = false → SameW a (turnsM a n)
  | 0, _, _ => ⟨rfl, fun _ => rfl, fun _ => rfl⟩
  | n + 1, hn, e => by
    obtain ⟨e1, e2⟩ := Bool.or_eq_false_iff.1 e
    exact (turns_still h n (by omega) e1).trans (turn_still (turns_ok h n (by omega)) (by omega) e2)
theorem moved_up {a : Atl} : ∀ n m, n ≤ m → movedM a m = false → movedM a n = false := by
  intro n m h
  induction h with
  | refl => exact id
  | step _ ih => exact fun e => ih (Bool.or_eq_false_iff.1 e).1
theorem hold_wait {s : Ses} (h : holdS s.nx = true) : 0 < waitS s := by
  rw [waitS_eq]
  cases e : s.nx with
  | none => rw [e] at h; cases h
  | some x => simp [busyS]
theorem wait_some {a : Atl} (h : 0 < waitM a) : ∃ n, n < 4 ∧ 0 < waitS (a.ss n) := by
  unfold waitM sum4 at h
  by_cases h0 : 0 < waitS (a.ss 0)
  · exact ⟨0, by omega, h0⟩
  · by_cases h1 : 0 < waitS (a.ss 1)
    · exact ⟨1, by omega, h1⟩
    · by_cases h2 : 0 < waitS (a.ss 2)
      · exact ⟨2, by omega, h2⟩
      · exact ⟨3, by omega, by dsimp only at h; omega⟩
/-- As long as some session has requests, some pick does a step. -/
theorem round_moves {a : Atl} (h : FairOk a) (hw : 0 < waitM a) : movedM a 4 = true := by
  cases e : movedM a 4 with
  | true => rfl
  | false =>
    exfalso
    obtain ⟨n, hn, h0, h1⟩ : ∃ n, n < 4 ∧ 0 < waitS (a.ss n) ∧ (a.g.lk = false ∨ holdS (a.ss n).nx = true) := by
      cases hl : a.g.lk with
      | false => obtain ⟨n, hn, h0⟩ := wait_some hw; exact ⟨n, hn, h0, .inl rfl⟩
      | true => obtain ⟨n, hn, h0⟩ := h.lock.held hl; exact ⟨n, hn, hold_wait h0, .inr h0⟩
    have s := turns_still h n (by omega) (moved_up n 4 (by omega) e)
    have m := pickM_moves (a := turnsM a n) (n := n) (by rw [s.w]; exact h0) (by rw [s.g, s.h]; exact h1)
    have := moved_up (n + 1) 4 (by omega) e
    have := (Bool.or_eq_false_iff.1 this).2
    rw [m] at this
    cases this
theorem round_idle {a : Atl} (h : FairOk a) (hw : waitM a = 0) : movedM a 4 = false ∧ SameW a (turnsM a 4) := by
  have hz : ∀ n, n < 4 → waitS (a.ss n) = 0 := by
    intro n hn
    unfold waitM sum4 at hw
    match n, hn with
    | 0, _ => dsimp only at hw; omega
    | 1, _ => dsimp only at hw; omega
    | 2, _ => dsimp only at hw; omega
    | 3, _ => dsimp only at hw; omega
  have H : ∀ n, n ≤ 4 → movedM a n = false := by
    intro n
    induction n with
    | zero => exact fun _ => rfl
    | succ n ih =>
      intro hn
      have e := ih (by omega)
      have s := turns_still h n (by omega) e
      refine Bool.or_eq_false_iff.2 ⟨e, ?_⟩
      rw [pickM_idle (by rw [s.w]; exact hz n (by omega))]
  exact ⟨H 4 (by omega), turns_still h 4 (by omega) (H 4 (by omega))⟩
theorem wait_same {a b : Atl} (h : SameW a b) : waitM b = waitM a := by unfold waitM sum4; dsimp only; rw [h.w, h.w, h.w, h.w]
def roundsM (a : Atl) : Nat → Atl
  | 0 => a
  | n + 1 => turnsM (roundsM a n) 4
theorem rounds_ok {a : Atl} (h : FairOk a) : ∀ n, FairOk (roundsM a n)
  | 0 => h
  | n + 1 => turns_ok (rounds_ok h n) 4 (by omega)
theorem rounds_end {a : Atl} (h : FairOk a) : ∀ n, waitM (roundsM a n) = 0 ∨ leftM (roundsM a n) + n ≤ leftM a
  | 0 => .inr (by simp [roundsM])
  | n + 1 => by
    have hk := rounds_ok h n
    by_cases hw : waitM (roundsM a n) = 0
    · exact .inl ((wait_same (round_idle hk hw).2).trans hw)
    · rcases rounds_end h n with e | e
      · exact absurd e hw
      · have := turns_less hk 4 (by omega) (round_moves hk (by omega))
        exact .inr (show leftM (turnsM (roundsM a n) 4) + (n + 1) ≤ _ by omega)
theorem remS_le (s : Option Stp) : remS s ≤ 6 * busyS s := by
  cases s with
  | none => simp [remS]
  | some x => cases x <;> simp [remS, busyS] <;> omega
theorem left_le {a : Atl} (h : AtlOk a) : leftM a ≤ 144 := by
  have H : ∀ n, n < 4 → leftS (a.ss n) ≤ 36 := by
    intro n hn
    have h1 := (h.ss n hn).w
    have h2 := remS_le (a.ss n).nx
    rw [waitS_eq] at h1
    unfold leftS
    omega
  have h0 := H 0 (by omega); have h1 := H 1 (by omega); have h2 := H 2 (by omega); have h3 := H 3 (by omega)
  unfold leftM sum4
  dsimp only
  omega
/-- Picked in turn, all are answered. -/
theorem rounds_all {a : Atl} (h : FairOk a) {n : Nat} (hn : 144 < n) : waitM (roundsM a n) = 0 := by
  rcases rounds_end h n with e | e
  · exact e
  · have := left_le h.ok; omega
theorem wait_free {a : Atl} (h : LockOk a) (hw : waitM a = 0) : a.g.lk = false := by
  cases e : a.g.lk with
  | false => rfl
  | true =>
    exfalso
    obtain ⟨n, hn, h0⟩ := h.held e
    have h1 := hold_wait h0
    unfold waitM sum4 at hw
    match n, hn with
    | 0, _ => dsimp only at hw; omega
    | 1, _ => dsimp only at hw; omega
    | 2, _ => dsimp only at hw; omega
    | 3, _ => dsimp only at hw; omega

end Go.Proofs.YtenaepdmlknlcaaGreatDoor

namespace Go.Proofs.YtenaepdmlknlcaaGreatDoor
open Go.RowKit Go.Shelf

/-- A tree with these features; it lies in blocks that never change. -/
def TreeAt (I : Nat → Prop) (w : World) (ro : Option Addr) (fs : List Feat) : Prop :=
  ∃ vs : List FV, RootT I w ro vs ∧ vs.map (·.f) = fs ∧ ∀ v ∈ vs, Good I w v
/-- The feature of a put, in memory. -/
def PutAt (I : Nat → Prop) (w : World) (p : Option Addr) : Option Feat → Prop
  | none => p = none
  | some f => ∃ R b o cap : Nat, p = some ⟨R, 5, none⟩ ∧ I R ∧ w.cell? ⟨R, 5, none⟩ = some (.int .i64 f.id) ∧ w.cell? ⟨R, 6, none⟩ = some (.int .i64 f.kd) ∧ w.cell? ⟨R, 7, none⟩ = some (.int .i64 f.ht) ∧ w.cell? ⟨R, 8, none⟩ = some (.int .i64 f.col) ∧ w.cell? ⟨R, 9, none⟩ = some (.slice (some ⟨b, o, none⟩) f.ps.length cap) ∧ Good I w ⟨f, b, o, cap⟩
/-- The next step of a request, as a value. -/
def StpAt (I : Nat → Prop) (w : World) : Stp → Value → Prop
  | .bad, v => v = .func (.func 176) #[] #[]
  | .look t m, v => v = .func (.func 174) #[getV t m 0 none] #[]
  | .note t m age, v => v = .func (.func 191) #[getV t m age none] #[]
  | .draw t m age fs, v => ∃ ro, v = .func (.func 205) #[getV t m age ro] #[] ∧ TreeAt I w ro fs
  | .lock id p, v => ∃ a, v = .func (.func 175) #[chgV id a 0] #[] ∧ PutAt I w a p
  | .forget id p z, v => ∃ a, v = .func (.func 193) #[chgV id a (z : Int)] #[] ∧ PutAt I w a p
  | .finish id p, v => ∃ a, v = .func (.func 208) #[chgV id a 3] #[] ∧ PutAt I w a p
def NxAt (I : Nat → Prop) (w : World) : Option Stp → Value → Prop
  | none, v => v = .nilFunc
  | some s, v => StpAt I w s v

theorem Good.same {I : Nat → Prop} {A B : World} (h : Same I A B) {v : FV} (g : Good I A v) : Good I B v :=
  ⟨g.1, g.2.1, g.2.2.1, fun k x y e => ⟨h _ _ _ g.2.1 (g.2.2.2 k x y e).1, h _ _ _ g.2.1 (g.2.2.2 k x y e).2⟩⟩
theorem Good.mono {I J : Nat → Prop} {A : World} (h : ∀ b, I b → J b) {v : FV} (g : Good I A v) : Good J A v := ⟨g.1, h _ g.2.1, g.2.2⟩
theorem TreeAt.same {I : Nat → Prop} {A B : World} (h : Same I A B) {ro : Option Addr} {fs : List Feat} (t : TreeAt I A ro fs) : TreeAt I B ro fs := by
  obtain ⟨vs, h1, h2, h3⟩ := t
  exact ⟨vs, h1.same h, h2, fun v hv => (h3 v hv).same h⟩
theorem TreeAt.mono {I J : Nat → Prop} {A : World} (h : ∀ b, I b → J b) {ro : Option Addr} {fs : List Feat} (t : TreeAt I A ro fs) : TreeAt J A ro fs := by
  obtain ⟨vs, h1, h2, h3⟩ := t
  exact ⟨vs, h1.mono h, h2, fun v hv => (h3 v hv).mono h⟩
theorem PutAt.same {I : Nat → Prop} {A B : World} (h : Same I A B) {a : Option Addr} {p : Option Feat} (t : PutAt I A a p) : PutAt I B a p := by
  cases p with
  | none => exact t
  | some f =>
    obtain ⟨R, b, o, cap, e, hR, c5, c6, c7, c8, c9, g⟩ := t
    exact ⟨R, b, o, cap, e, hR, h _ _ _ hR c5, h _ _ _ hR c6, h _ _ _ hR c7, h _ _ _ hR c8, h _ _ _ hR c9, g.same h⟩
theorem PutAt.mono {I J : Nat → Prop} {A : World} (h : ∀ b, I b → J b) {a : Option Addr} {p : Option Feat} (t : PutAt I A a p) : PutAt J A a p := by
  cases p with
  | none => exact t
  | some f =>
    obtain ⟨R, b, o, cap, e, hR, c5, c6, c7, c8, c9, g⟩ := t
    exact ⟨R, b, o, cap, e, h _ hR, c5, c6, c7, c8, c9, g.mono h⟩
theorem StpAt.same {I : Nat → Prop} {A B : World} (h : Same I A B) {s : Stp} {v : Value} (t : StpAt I A s v) : StpAt I B s v := by
  cases s with
  | bad => exact t
  | look t' m => exact t
  | note t' m age => exact t
  | draw t' m age fs => obtain ⟨ro, e, k⟩ := t; exact ⟨ro, e, k.same h⟩
  | lock id p => obtain ⟨a, e, k⟩ := t; exact ⟨a, e, k.same h⟩
  | forget id p z => obtain ⟨a, e, k⟩ := t; exact ⟨a, e, k.same h⟩
  | finish id p => obtain ⟨a, e, k⟩ := t; exact ⟨a, e, k.same h⟩
theorem StpAt.mono {I J : Nat → Prop} {A : World} (h : ∀ b, I b → J b) {s : Stp} {v : Value} (t : StpAt I A s v) : StpAt J A s v := by
  cases s with
  | bad => exact t
  | look t' m => exact t
  | note t' m age => exact t
  | draw t' m age fs => obtain ⟨ro, e, k⟩ := t; exact ⟨ro, e, k.mono h⟩
  | lock id p => obtain ⟨a, e, k⟩ := t; exact ⟨a, e, k.mono h⟩
  | forget id p z => obtain ⟨a, e, k⟩ := t; exact ⟨a, e, k.mono h⟩
  | finish id p => obtain ⟨a, e, k⟩ := t; exact ⟨a, e, k.mono h⟩
theorem NxAt.same {I : Nat → Prop} {A B : World} (h : Same I A B) {s : Option Stp} {v : Value} (t : NxAt I A s v) : NxAt I B s v := by
  cases s with
  | none => exact t
  | some s => exact StpAt.same h t
theorem NxAt.mono {I J : Nat → Prop} {A : World} (h : ∀ b, I b → J b) {s : Option Stp} {v : Value} (t : NxAt I A s v) : NxAt J A s v := by
  cases s with
  | none => exact t
  | some s => exact StpAt.mono h t
/-- A step's value is a function of the program, by its number, with what is bound to it. -/
theorem StpAt.fn {I : Nat → Prop} {w : World} {s : Stp} {v : Value} (t : StpAt I w s v) : ∃ f b, v = .func (.func f) b #[] ∧ Enters f := by
  cases s with
  | bad => exact ⟨_, _, t, enters176⟩
  | look t' m => exact ⟨_, _, t, enters174⟩
  | note t' m age => exact ⟨_, _, t, enters191⟩
  | draw t' m age fs => obtain ⟨ro, e, k⟩ := t; exact ⟨_, _, e, enters205⟩
  | lock id p => obtain ⟨a, e, k⟩ := t; exact ⟨_, _, e, enters175⟩
  | forget id p z => obtain ⟨a, e, k⟩ := t; exact ⟨_, _, e, enters193⟩
  | finish id p => obtain ⟨a, e, k⟩ := t; exact ⟨_, _, e, enters208⟩
theorem Same.fr {I : Nat → Prop} {M : Nat → Nat → Prop} {A B : World} (h : Fr M A B) (hI : ∀ b, I b → b < A.heap.size) (hM : ∀ b i, I b → ¬ M b i) : Same I A B := fun b o _ hb e => (h.cell b o (hI b hb) (hM b o hb)).trans e

/-- Where the parts of an atlas lie. -/
structure Wit where
  I : Nat → Prop
  sv : Nat → Value
  cb : Nat → Nat
  av : Nat → Value
  nv : Nat → Value
  sn : Nat → Nat
  rn : Nat → Nat
/-- The blocks that an atlas writes: its own, the rows of the shards, the channels, the rows of answers. -/
def Wit.own (x : Wit) (A i : Nat) : Option Nat := if i = 0 then some A else if i < 5 then (x.sv (i - 1)).ownBlock else if i < 9 then some (x.cb (i - 5)) else (x.av (i - 9)).ownBlock
def Wit.Own (x : Wit) (A b : Nat) : Prop := ∃ i, i < 13 ∧ x.own A i = some b
structure SesAt (w : World) (A : Nat) (x : Wit) (n : Nat) (s : Ses) : Prop where
  q : QuAt w A (11 + n * 3) (x.cb n) 6 (s.q.map .string).toArray (x.sn n) (x.rn n) (x.nv n)
  f1 : w.frozen? ⟨A, 11 + n * 3 + 1, none⟩ = false
  nx : NxAt x.I w s.nx (x.nv n)
  an : AnsAt w A (11 + n * 3) (x.av n) (s.an.map .string)
structure AtlasAt (w : World) (A : Nat) (x : Wit) (a : Atl) : Prop where
  gl : Gl w
  ok : AtlOk a
  root : ∃ ro, w.cell? ⟨A, 0, none⟩ = some (.pointer ro) ∧ TreeAt x.I w ro a.g.fs
  rf : w.frozen? ⟨A, 0, none⟩ = false
  lk : w.cell? ⟨A, 1, none⟩ = some (.bool a.g.lk)
  lf : w.frozen? ⟨A, 1, none⟩ = false
  sh : ShsAt w A 2 x.sv a.g.S
  ses : ∀ n, n < 4 → SesAt w A x n (a.ss n)
  ownI : ∀ i b, i < 13 → x.own A i = some b → ¬ x.I b ∧ 8 ≤ b ∧ b < w.heap.size
  apart : ∀ i j b, i < 13 → j < 13 → i ≠ j → x.own A i = some b → x.own A j ≠ some b
  lt : ∀ b, x.I b → 8 ≤ b ∧ b < w.heap.size

theorem own_A (x : Wit) (A : Nat) : x.own A 0 = some A := rfl
theorem own_sh (x : Wit) (A k : Nat) (hk : k < 4) : x.own A (k + 1) = (x.sv k).ownBlock := by
  unfold Wit.own
  rw [if_neg (by omega), if_pos (by omega), Nat.add_sub_cancel]
theorem own_ch (x : Wit) (A k : Nat) (hk : k < 4) : x.own A (k + 5) = some (x.cb k) := by
  unfold Wit.own
  rw [if_neg (by omega), if_neg (by omega), if_pos (by omega), Nat.add_sub_cancel]
theorem own_an (x : Wit) (A k : Nat) : x.own A (k + 9) = (x.av k).ownBlock := by
  unfold Wit.own
  rw [if_neg (by omega), if_neg (by omega), if_neg (by omega), Nat.add_sub_cancel]
theorem AtlasAt.A8 {w : World} {A : Nat} {x : Wit} {a : Atl} (h : AtlasAt w A x a) : 8 ≤ A ∧ A < w.heap.size := (h.ownI 0 A (by omega) (own_A x A)).2

end Go.Proofs.YtenaepdmlknlcaaGreatDoor

namespace Go.Proofs.YtenaepdmlknlcaaGreatDoor
open Go.RowKit Go.Shelf

theorem AnsAt.fr {M : Nat → Nat → Prop} {W W' : World} (h : Fr M W W') {A o : Nat} {v : Value} {xs : List Value} (k : AnsAt W A o v xs) (hA : ¬ M A (o + 2)) (hv : ∀ g i, v.ownBlock = some g → ¬ M g i) : AnsAt W' A o v xs :=
  ⟨(h.cell A _ (World.block_lt_of_cell? W ⟨A, o + 2, none⟩ k.c) hA).trans k.c, (h.frozen A _ (World.block_lt_of_cell? W ⟨A, o + 2, none⟩ k.c) hA).trans k.f, ownsRow_fr' h k.own (fun g i e => hv g i e), k.ne, k.lt⟩
theorem QuAt.fr {M : Nat → Nat → Prop} {W W' : World} (h : Fr M W W') {A o c cap : Nat} {buf : Array Value} {sn r : Nat} {nx : Value} (k : QuAt W A o c cap buf sn r nx) (h0 : ¬ M A o) (h1 : ¬ M A (o + 1)) (hc : ∀ i, ¬ M c i) : QuAt W' A o c cap buf sn r nx :=
  ⟨(h.cell A _ (World.block_lt_of_cell? W ⟨A, o, none⟩ k.c0) h0).trans k.c0, (h.cell A _ (World.block_lt_of_cell? W ⟨A, o, none⟩ k.c0) h1).trans k.c1, (h.block c (Array.getElem?_eq_some_iff.1 k.ch).1 hc).trans k.ch, k.le, k.nx⟩
theorem SesAt.fr {M : Nat → Nat → Prop} {W W' : World} (h : Fr M W W') {A : Nat} {x : Wit} {n : Nat} {s : Ses} (k : SesAt W A x n s) (hA : ∀ i, i < 3 → ¬ M A (11 + n * 3 + i)) (hc : ∀ i, ¬ M (x.cb n) i) (hv : ∀ g i, (x.av n).ownBlock = some g → ¬ M g i) (hI : Same x.I W W') : SesAt W' A x n s :=
  ⟨k.q.fr h (hA 0 (by omega)) (hA 1 (by omega)) hc, (h.frozen A _ (World.block_lt_of_cell? W ⟨A, _, none⟩ k.q.c1) (hA 1 (by omega))).trans k.f1, k.nx.same hI, k.an.fr h (hA 2 (by omega)) hv⟩
/-- The session does not change if parts of the witness that it does not speak of do. -/
theorem SesAt.wit {W : World} {A : Nat} {x y : Wit} {n : Nat} {s : Ses} (k : SesAt W A x n s) (hI : ∀ b, x.I b → y.I b) (h1 : y.cb n = x.cb n) (h2 : y.av n = x.av n) (h3 : y.nv n = x.nv n) (h4 : y.sn n = x.sn n) (h5 : y.rn n = x.rn n) : SesAt W A y n s :=
  ⟨by rw [h1, h3, h4, h5]; exact k.q, k.f1, by rw [h3]; exact k.nx.mono hI, by rw [h2]; exact k.an⟩
theorem ShsAt.fr {M : Nat → Nat → Prop} {w w' : World} {A so : Nat} {vs : Nat → Value} {S : Shs} (hf : Fr M w w') (h : ShsAt w A so vs S) (hA : ∀ i, i < 9 → ¬ M A (so + i)) (hv : ∀ k g i, k < 4 → (vs k).ownBlock = some g → ¬ M g i) : ShsAt w' A so vs S := by
  have hlt : A < w.heap.size := World.block_lt_of_cell? w ⟨A, so, none⟩ h.room
  refine ⟨(hf.cell A _ hlt (hA 0 (by omega))).trans h.room, fun k hk => (h.sh k hk).fr hf (by have := hA (1 + k * 2) (by omega); rwa [← Nat.add_assoc] at this) (fun g i e => hv k g i hk e), fun k hk => ?_, h.apart⟩
  have hn : ¬ M A (so + 1 + k * 2 + 1) := by have := hA (1 + k * 2 + 1) (by omega); rwa [← Nat.add_assoc, ← Nat.add_assoc] at this
  exact ⟨(hf.cell A _ hlt hn).trans (h.age k hk).1, (hf.frozen A _ hlt hn).trans (h.age k hk).2⟩

/-- An atlas stays what it is, whatever is written elsewhere. -/
theorem AtlasAt.fr {M : Nat → Nat → Prop} {w w' : World} (hf : Fr M w w') {A : Nat} {x : Wit} {a : Atl} (h : AtlasAt w A x a) (hM : ∀ b i, M b i → 8 ≤ b ∧ ¬ x.I b ∧ ¬ x.Own A b) : AtlasAt w' A x a := by
  have hA : ∀ i, ¬ M A i := fun i e => (hM A i e).2.2 ⟨0, by omega, own_A x A⟩
  have hlt := h.A8.2
  have hS : Same x.I w w' := Same.fr hf (fun b hb => (h.lt b hb).2) (fun b i hb e => (hM b i e).2.1 hb)
  obtain ⟨ro, r1, r2⟩ := h.root
  refine ⟨h.gl.fr hf (fun b i hb e => absurd (hM b i e).1 (by omega)), h.ok, ⟨ro, (hf.cell A _ hlt (hA _)).trans r1, r2.same hS⟩, (hf.frozen A _ hlt (hA _)).trans h.rf, (hf.cell A _ hlt (hA _)).trans h.lk, (hf.frozen A _ hlt (hA _)).trans h.lf, ?_, fun n hn => ?_, fun i b hi e => ⟨(h.ownI i b hi e).1, (h.ownI i b hi e).2.1, Nat.lt_of_lt_of_le (h.ownI i b hi e).2.2 hf.size⟩, h.apart, fun b hb => ⟨(h.lt b hb).1, Nat.lt_of_lt_of_le (h.lt b hb).2 hf.size⟩⟩
  · exact h.sh.fr hf (fun i _ => hA _) (fun k g i hk e m => (hM g i m).2.2 ⟨k + 1, by omega, by rw [own_sh x A k hk]; exact e⟩)
  · exact (h.ses n hn).fr hf (fun i _ => hA _) (fun i m => (hM _ i m).2.2 ⟨n + 5, by omega, own_ch x A n hn⟩) (fun g i e m => (hM g i m).2.2 ⟨n + 9, by omega, by rw [own_an]; exact e⟩) hS

/-- What a step may write: the map, the lock, the shards. -/
def GM (A : Nat) (x : Wit) : Nat → Nat → Prop := fun b i => (b = A ∧ i < 11) ∨ ∃ k, k < 4 ∧ (x.sv k).ownBlock = some b
theorem own_sv {x : Wit} {I1 : Nat → Prop} {sv1 : Nat → Value} {A i : Nat} : ({ x with I := I1, sv := sv1 } : Wit).own A i = if i = 0 then some A else if i < 5 then (sv1 (i - 1)).ownBlock else x.own A i := by
  unfold Wit.own
  by_cases h0 : i = 0
  · rw [if_pos h0, if_pos h0]
  · rw [if_neg h0, if_neg h0]
    by_cases h1 : i < 5
    · rw [if_pos h1, if_pos h1]
    · rw [if_neg h1, if_neg h1, if_neg h0, if_neg h1]

theorem AtlasAt.ground {w w1 : World} {A : Nat} {x : Wit} {a : Atl} (h : AtlasAt w A x a) {g' : Gr} (hok : GrOk g') {I1 : Nat → Prop} {sv1 : Nat → Value} (hf : Fr (GM A x) w w1)
    (root : ∃ ro, w1.cell? ⟨A, 0, none⟩ = some (.pointer ro) ∧ TreeAt I1 w1 ro g'.fs) (rf : w1.frozen? ⟨A, 0, none⟩ = false) (lk : w1.cell? ⟨A, 1, none⟩ = some (.bool g'.lk)) (lf : w1.frozen? ⟨A, 1, none⟩ = false) (sh : ShsAt w1 A 2 sv1 g'.S)
    (hI : ∀ b, x.I b → I1 b) (hI1 : ∀ b, I1 b → x.I b ∨ (w.heap.size ≤ b ∧ b < w1.heap.size ∧ ∀ k, k < 4 → (sv1 k).ownBlock ≠ some b))
    (hs : ∀ k b, k < 4 → (sv1 k).ownBlock = some b → (x.sv k).ownBlock = some b ∨ w.heap.size ≤ b) :
    AtlasAt w1 A { x with I := I1, sv := sv1 } { a with g := g' } := by
  have hA := h.A8
  have hGM : ∀ b i, GM A x b i → x.Own A b := fun b i e => by
    rcases e with ⟨rfl, _⟩ | ⟨k, hk, e⟩
    · exact ⟨0, by omega, own_A x _⟩
    · exact ⟨k + 1, by omega, by rw [own_sh x A k hk]; exact e⟩
  have hGo : ∀ b i j, GM A x b i → 5 ≤ j → j < 13 → x.own A j ≠ some b := fun b i j e h5 hj => by
    rcases e with ⟨rfl, _⟩ | ⟨k, hk, e⟩
    · exact h.apart 0 j b (by omega) hj (by omega) (own_A x _)
    · exact h.apart (k + 1) j b (by omega) hj (by omega) (by rw [own_sh x A k hk]; exact e)
  have hS : Same x.I w w1 := Same.fr hf (fun b hb => (h.lt b hb).2) (fun b i hb e => by
    obtain ⟨j, hj, e'⟩ := hGM b i e
    exact (h.ownI j b hj e').1 hb)
  have hrow : ∀ k b, k < 4 → (sv1 k).ownBlock = some b → b < w1.heap.size := fun k b hk e => (sh.sh k hk).ownLt b e
  have hown : ∀ i b, i < 13 → ({ x with I := I1, sv := sv1 } : Wit).own A i = some b → (x.own A i = some b ∨ (w.heap.size ≤ b ∧ 1 ≤ i ∧ i < 5 ∧ (sv1 (i - 1)).ownBlock = some b)) := fun i b hi e => by
    rw [own_sv] at e
    by_cases h0 : i = 0
    · rw [if_pos h0] at e; left; rw [h0]; exact e
    · rw [if_neg h0] at e
      by_cases h1 : i < 5
      · rw [if_pos h1] at e
        rcases hs (i - 1) b (by omega) e with h' | h'
        · left
          have := own_sh x A (i - 1) (by omega)
          rw [show i - 1 + 1 = i by omega] at this
          rw [this]; exact h'
        · right; exact ⟨h', by omega, h1, e⟩
      · rw [if_neg h1] at e; exact .inl e
  refine ⟨h.gl.fr hf (fun b i hb e => ?_), ⟨hok, h.ok.ss⟩, root, rf, lk, lf, sh, fun n hn => ?_, fun i b hi e => ?_, fun i j b hi hj hij e e' => ?_, fun b hb => ?_⟩
  · obtain ⟨j, hj, e'⟩ := hGM b i e
    have := (h.ownI j b hj e').2.1
    omega
  · refine SesAt.wit ((h.ses n hn).fr hf (fun i hi e => ?_) (fun i e => hGo _ i (n + 5) e (by omega) (by omega) (own_ch x A n hn)) (fun g i eg e => hGo g i (n + 9) e (by omega) (by omega) (by rw [own_an]; exact eg)) hS) hI rfl rfl rfl rfl rfl
    rcases e with ⟨_, e⟩ | ⟨k, hk, e⟩
    · omega
    · exact h.apart 0 (k + 1) A (by omega) (by omega) (by omega) (own_A x A) (by rw [own_sh x A k hk]; exact e)
  · rcases hown i b hi e with h' | ⟨h1, h2, h3, h4⟩
    · have := h.ownI i b hi h'
      refine ⟨fun hb => ?_, this.2.1, Nat.lt_of_lt_of_le this.2.2 hf.size⟩
      rcases hI1 b hb with k | ⟨k, _⟩
      · exact this.1 k
      · omega
    · refine ⟨fun hb => ?_, by omega, hrow (i - 1) b (by omega) h4⟩
      rcases hI1 b hb with k | ⟨_, _, k⟩
      · have := (h.lt b k).2; omega
      · exact k (i - 1) (by omega) h4
  · rcases hown i b hi e with k | ⟨k1, k2, k3, k4⟩
    · rcases hown j b hj e' with k' | ⟨k1', k2', k3', k4'⟩
      · exact h.apart i j b hi hj hij k k'
      · have := (h.ownI i b hi k).2.2; omega
    · rcases hown j b hj e' with k' | ⟨k1', k2', k3', k4'⟩
      · have := (h.ownI j b hj k').2.2; omega
      · exact sh.apart (i - 1) (j - 1) b (by omega) (by omega) (by omega) k4 k4'
  · rcases hI1 b hb with k | ⟨k1, k2, _⟩
    · exact ⟨(h.lt b k).1, Nat.lt_of_lt_of_le (h.lt b k).2 hf.size⟩
    · exact ⟨by omega, k2⟩

/-- What a session may write. -/
def SM (A : Nat) (x : Wit) (n : Nat) : Nat → Nat → Prop := fun b i => (b = A ∧ 11 + n * 3 ≤ i ∧ i < 14 + n * 3) ∨ b = x.cb n ∨ (x.av n).ownBlock = some b
def updN {α : Type} (f : Nat → α) (n : Nat) (v : α) : Nat → α := fun k => if k = n then v else f k
theorem updN_same {α : Type} (f : Nat → α) (n : Nat) (v : α) : updN f n v n = v := if_pos rfl
theorem updN_ne {α : Type} (f : Nat → α) (n : Nat) (v : α) {k : Nat} (h : k ≠ n) : updN f n v k = f k := if_neg h
def Wit.ses (x : Wit) (n : Nat) (I1 : Nat → Prop) (v nv : Value) (sn rn : Nat) : Wit := { x with I := I1, av := updN x.av n v, nv := updN x.nv n nv, sn := updN x.sn n sn, rn := updN x.rn n rn }
theorem own_ses {x : Wit} {n : Nat} {I1 : Nat → Prop} {v nv : Value} {sn rn A i : Nat} : (x.ses n I1 v nv sn rn).own A i = if i = n + 9 then v.ownBlock else x.own A i := by
  unfold Wit.own Wit.ses
  by_cases h0 : i = 0
  · rw [if_pos h0, if_pos h0, if_neg (by omega)]
  · by_cases h1 : i < 5
    · rw [if_neg h0, if_neg h0, if_pos h1, if_pos h1, if_neg (by omega)]
    · by_cases h2 : i < 9
      · rw [if_neg h0, if_neg h0, if_neg h1, if_neg h1, if_pos h2, if_pos h2, if_neg (by omega)]
      · rw [if_neg h0, if_neg h0, if_neg h1, if_neg h1, if_neg h2, if_neg h2]
        by_cases h3 : i = n + 9
        · rw [if_pos h3, h3, Nat.add_sub_cancel]
          show (updN x.av n v n).ownBlock = _
          rw [updN_same]
        · rw [if_neg h3]
          show (updN x.av n v (i - 9)).ownBlock = _
          rw [updN_ne _ _ _ (by omega)]

theorem AtlasAt.session {w w1 : World} {A : Nat} {x : Wit} {a : Atl} (h : AtlasAt w A x a) {n : Nat} (hn : n < 4) {s' : Ses} (hok : SesOk s') {I1 : Nat → Prop} {v nv : Value} {sn rn : Nat} (hf : Fr (SM A x n) w w1)
    (ses : SesAt w1 A (x.ses n I1 v nv sn rn) n s')
    (hI : ∀ b, x.I b → I1 b) (hI1 : ∀ b, I1 b → x.I b ∨ (w.heap.size ≤ b ∧ b < w1.heap.size ∧ v.ownBlock ≠ some b))
    (hs : ∀ b, v.ownBlock = some b → b < w1.heap.size ∧ ((x.av n).ownBlock = some b ∨ w.heap.size ≤ b)) :
    AtlasAt w1 A (x.ses n I1 v nv sn rn) (a.set a.g n s') := by
  have hA := h.A8
  have hSM : ∀ b i, SM A x n b i → x.Own A b := fun b i e => by
    rcases e with ⟨rfl, _⟩ | rfl | e
    · exact ⟨0, by omega, own_A x _⟩
    · exact ⟨n + 5, by omega, own_ch x A n hn⟩
    · exact ⟨n + 9, by omega, by rw [own_an]; exact e⟩
  have hSo : ∀ b i j, SM A x n b i → 1 ≤ j → j < 13 → j ≠ n + 5 → j ≠ n + 9 → x.own A j ≠ some b := fun b i j e h1 hj h5 h9 => by
    rcases e with ⟨rfl, _⟩ | rfl | e
    · exact h.apart 0 j b (by omega) hj (by omega) (own_A x _)
    · exact h.apart (n + 5) j _ (by omega) hj (fun e => h5 e.symm) (own_ch x A n hn)
    · exact h.apart (n + 9) j b (by omega) hj (fun e => h9 e.symm) (by rw [own_an]; exact e)
  have hAi : ∀ i, SM A x n A i → 11 + n * 3 ≤ i ∧ i < 14 + n * 3 := fun i e => by
    rcases e with ⟨_, e⟩ | e | e
    · exact e
    · exact absurd (show x.own A (n + 5) = some A by rw [own_ch x A n hn, ← e]) (h.apart 0 (n + 5) A (by omega) (by omega) (by omega) (own_A x A))
    · exact absurd (show x.own A (n + 9) = some A by rw [own_an]; exact e) (h.apart 0 (n + 9) A (by omega) (by omega) (by omega) (own_A x A))
  have hS : Same x.I w w1 := Same.fr hf (fun b hb => (h.lt b hb).2) (fun b i hb e => by
    obtain ⟨j, hj, e'⟩ := hSM b i e
    exact (h.ownI j b hj e').1 hb)
  have hown : ∀ i b, i < 13 → (x.ses n I1 v nv sn rn).own A i = some b → (x.own A i = some b ∨ (w.heap.size ≤ b ∧ i = n + 9 ∧ v.ownBlock = some b)) := fun i b hi e => by
    rw [own_ses] at e
    by_cases h9 : i = n + 9
    · rw [if_pos h9] at e
      rcases (hs b e).2 with k | k
      · left; rw [h9, own_an]; exact k
      · exact .inr ⟨k, h9, e⟩
    · rw [if_neg h9] at e; exact .inl e
  obtain ⟨ro, r1, r2⟩ := h.root
  refine ⟨h.gl.fr hf (fun b i hb e => ?_), ⟨h.ok.g, fun k hk => ?_⟩, ⟨ro, (hf.cell A _ hA.2 (fun e => by have := hAi _ e; omega)).trans r1, (r2.same hS).mono hI⟩, (hf.frozen A _ hA.2 (fun e => by have := hAi _ e; omega)).trans h.rf, (hf.cell A _ hA.2 (fun e => by have := hAi _ e; omega)).trans h.lk, (hf.frozen A _ hA.2 (fun e => by have := hAi _ e; omega)).trans h.lf, ?_, fun k hk => ?_, fun i b hi e => ?_, fun i j b hi hj hij e e' => ?_, fun b hb => ?_⟩
  · obtain ⟨j, hj, e'⟩ := hSM b i e
    have := (h.ownI j b hj e').2.1
    omega
  · show SesOk (if k = n then s' else a.ss k)
    by_cases hkn : k = n
    · rw [if_pos hkn]; exact hok
    · rw [if_neg hkn]; exact h.ok.ss k hk
  · exact h.sh.fr hf (fun i hi e => by have := hAi _ e; omega) (fun k g i hk e m => hSo g i (k + 1) m (by omega) (by omega) (by omega) (by omega) (by rw [own_sh x A k hk]; exact e))
  · show SesAt w1 A _ k (if k = n then s' else a.ss k)
    by_cases hkn : k = n
    · rw [if_pos hkn, hkn]; exact ses
    · rw [if_neg hkn]
      refine SesAt.wit ((h.ses k hk).fr hf (fun i hi e => by have := hAi _ e; omega) (fun i e => hSo _ i (k + 5) e (by omega) (by omega) (by omega) (by omega) (own_ch x A k hk)) (fun g i eg e => hSo g i (k + 9) e (by omega) (by omega) (by omega) (by omega) (by rw [own_an]; exact eg)) hS) hI rfl (updN_ne _ _ _ hkn) (updN_ne _ _ _ hkn) (updN_ne _ _ _ hkn) (updN_ne _ _ _ hkn)
  · rcases hown i b hi e with h' | ⟨h1, h2, h3⟩
    · have := h.ownI i b hi h'
      refine ⟨fun hb => ?_, this.2.1, Nat.lt_of_lt_of_le this.2.2 hf.size⟩
      rcases hI1 b hb with k | ⟨k, _⟩
      · exact this.1 k
      · omega
    · refine ⟨fun hb => ?_, by omega, (hs b h3).1⟩
      rcases hI1 b hb with k | ⟨_, _, k⟩
      · have := (h.lt b k).2; omega
      · exact k h3
  · rcases hown i b hi e with k | ⟨k1, k2, k3⟩
    · rcases hown j b hj e' with k' | ⟨k1', k2', k3'⟩
      · exact h.apart i j b hi hj hij k k'
      · have := (h.ownI i b hi k).2.2; omega
    · rcases hown j b hj e' with k' | ⟨k1', k2', k3'⟩
      · have := (h.ownI j b hj k').2.2; omega
      · omega
  · rcases hI1 b hb with k | ⟨k1, k2, _⟩
    · exact ⟨(h.lt b k).1, Nat.lt_of_lt_of_le (h.lt b k).2 hf.size⟩
    · exact ⟨by omega, k2⟩

end Go.Proofs.YtenaepdmlknlcaaGreatDoor
