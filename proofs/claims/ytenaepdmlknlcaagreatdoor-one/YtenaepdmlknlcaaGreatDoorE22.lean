import Derived.Test.YtenaepdmlknlcaaGreatDoorE21
import Derived.Test.YtenaepdmlknlcaaGreatDoorE18
namespace Go.Proofs.YtenaepdmlknlcaaGreatDoor
open Go.RowKit Go.Shelf

/-- A pick of session n, and its answers are taken. -/
def turnM (a : Atl) (n : Nat) : Atl := tellM (pickM a n).2 n
structure FairOk (a : Atl) : Prop where
  ok : AtlOk a
  lock : LockOk a
  an : ∀ n, n < 4 → (a.ss n).an = []
theorem tell_ss (a : Atl) (n k : Nat) : (tellM a n).ss k = if k = n then { a.ss n with an := [] } else a.ss k := rfl
theorem tell_q (a : Atl) (n k : Nat) : ((tellM a n).ss k).q = (a.ss k).q := by rw [tell_ss]; split <;> simp_all
theorem tell_nx (a : Atl) (n k : Nat) : ((tellM a n).ss k).nx = (a.ss k).nx := by rw [tell_ss]; split <;> simp_all
theorem tell_wait (a : Atl) (n k : Nat) : waitS ((tellM a n).ss k) = waitS (a.ss k) := by rw [waitS_eq, waitS_eq, tell_q, tell_nx]
theorem tell_ok {a : Atl} (h : AtlOk a) (n : Nat) : AtlOk (tellM a n) := by
  refine ⟨h.g, fun k hk => ⟨?_, ?_, ?_, ?_⟩⟩
  · rw [tell_q]; exact (h.ss k hk).q
  · rw [tell_wait]; exact (h.ss k hk).w
  · rw [tell_nx]; exact (h.ss k hk).nx
  · rw [tell_ss]; split
    · simp
    · exact (h.ss k hk).an
theorem tell_lock {a : Atl} (h : LockOk a) (n : Nat) : LockOk (tellM a n) :=
  ⟨fun e k hk => by rw [tell_nx]; exact h.free e k hk, fun e => (h.held e).imp fun k hk => by rw [tell_nx]; exact hk, fun k m hk hm => by rw [tell_nx, tell_nx]; exact h.one k m hk hm⟩
theorem turn_ok {a : Atl} (h : FairOk a) {n : Nat} (hn : n < 4) : FairOk (turnM a n) := by
  refine ⟨tell_ok (pickM_ok h.ok hn (by rw [h.an n hn]; simp)) n, tell_lock (pickM_lock h.ok h.lock hn) n, fun k hk => ?_⟩
  unfold turnM
  rw [tell_ss]
  split
  · rfl
  · rename_i e
    rw [(pickM_out h.ok hn).other k e]; exact h.an k hk
/-- What a pick that does nothing leaves. -/
structure SameW (a b : Atl) : Prop where
  g : b.g = a.g
  w : ∀ k, waitS (b.ss k) = waitS (a.ss k)
  h : ∀ k, holdS (b.ss k).nx = holdS (a.ss k).nx
theorem SameW.trans {a b c : Atl} (h : SameW a b) (k : SameW b c) : SameW a c := ⟨k.g.trans h.g, fun i => (k.w i).trans (h.w i), fun i => (k.h i).trans (h.h i)⟩
theorem hold_wait {s : Ses} (h : holdS s.nx = true) : 0 < waitS s := by
  rw [waitS_eq]
  cases e : s.nx with
  | none => rw [e] at h; cases h
  | some x => simp [busyS]
theorem wait_free {a : Atl} (h : LockOk a) (hw : waitM a = 0) : a.g.lk = false := by
  cases e : a.g.lk with
  | false => rfl
  | true =>
    exfalso
    obtain ⟨n, hn, h0⟩ := h.held e
    have h1 := hold_wait h0
    unfold waitM sum4 at hw
    match n, hn with
    | 0, _ => dsimp only at hw; omega
    | 1, _ => dsimp only at hw; omega
    | 2, _ => dsimp only at hw; omega
    | 3, _ => dsimp only at hw; omega

end Go.Proofs.YtenaepdmlknlcaaGreatDoor

namespace Go.Proofs.YtenaepdmlknlcaaGreatDoor
open Go.RowKit Go.Shelf

/-- A tree with these features; it lies in blocks that never change. -/
def TreeAt (I : Nat → Prop) (w : World) (ro : Option Addr) (fs : List Feat) : Prop :=
  ∃ vs : List FV, RootT I w ro vs ∧ vs.map (·.f) = fs ∧ ∀ v ∈ vs, Good I w v
/-- The feature of a put, in memory. -/
def PutAt (I : Nat → Prop) (w : World) (p : Option Addr) : Option Feat → Prop
  | none => p = none
  | some f => ∃ R b o cap : Nat, p = some ⟨R, 5, none⟩ ∧ I R ∧ w.cell? ⟨R, 5, none⟩ = some (.int .i64 f.id) ∧ w.cell? ⟨R, 6, none⟩ = some (.int .i64 f.kd) ∧ w.cell? ⟨R, 7, none⟩ = some (.int .i64 f.ht) ∧ w.cell? ⟨R, 8, none⟩ = some (.int .i64 f.col) ∧ w.cell? ⟨R, 9, none⟩ = some (.slice (some ⟨b, o, none⟩) f.ps.length cap) ∧ Good I w ⟨f, b, o, cap⟩
/-- The next step of a request, as a value. -/
def StpAt (I : Nat → Prop) (w : World) : Stp → Value → Prop
  | .bad, v => v = .func (.func 176) #[] #[]
  | .look t m, v => v = .func (.func 174) #[getV t m 0 none] #[]
  | .note t m age, v => v = .func (.func 191) #[getV t m age none] #[]
  | .draw t m age fs, v => ∃ ro, v = .func (.func 205) #[getV t m age ro] #[] ∧ TreeAt I w ro fs
  | .lock id p, v => ∃ a, v = .func (.func 175) #[chgV id a 0] #[] ∧ PutAt I w a p
  | .forget id p z, v => ∃ a, v = .func (.func 193) #[chgV id a (z : Int)] #[] ∧ PutAt I w a p
  | .finish id p, v => ∃ a, v = .func (.func 208) #[chgV id a 3] #[] ∧ PutAt I w a p
def NxAt (I : Nat → Prop) (w : World) : Option Stp → Value → Prop
  | none, v => v = .nilFunc
  | some s, v => StpAt I w s v

theorem Good.same {I : Nat → Prop} {A B : World} (h : Same I A B) {v : FV} (g : Good I A v) : Good I B v :=
  ⟨g.1, g.2.1, g.2.2.1, fun k x y e => ⟨h _ _ _ g.2.1 (g.2.2.2 k x y e).1, h _ _ _ g.2.1 (g.2.2.2 k x y e).2⟩⟩
theorem Good.mono {I J : Nat → Prop} {A : World} (h : ∀ b, I b → J b) {v : FV} (g : Good I A v) : Good J A v := ⟨g.1, h _ g.2.1, g.2.2⟩
theorem TreeAt.same {I : Nat → Prop} {A B : World} (h : Same I A B) {ro : Option Addr} {fs : List Feat} (t : TreeAt I A ro fs) : TreeAt I B ro fs := by
  obtain ⟨vs, h1, h2, h3⟩ := t
  exact ⟨vs, h1.same h, h2, fun v hv => (h3 v hv).same h⟩
theorem TreeAt.mono {I J : Nat → Prop} {A : World} (h : ∀ b, I b → J b) {ro : Option Addr} {fs : List Feat} (t : TreeAt I A ro fs) : TreeAt J A ro fs := by
  obtain ⟨vs, h1, h2, h3⟩ := t
  exact ⟨vs, h1.mono h, h2, fun v hv => (h3 v hv).mono h⟩
theorem PutAt.same {I : Nat → Prop} {A B : World} (h : Same I A B) {a : Option Addr} {p : Option Feat} (t : PutAt I A a p) : PutAt I B a p := by
  cases p with
  | none => exact t
  | some f =>
    obtain ⟨R, b, o, cap, e, hR, c5, c6, c7, c8, c9, g⟩ := t
    exact ⟨R, b, o, cap, e, hR, h _ _ _ hR c5, h _ _ _ hR c6, h _ _ _ hR c7, h _ _ _ hR c8, h _ _ _ hR c9, g.same h⟩
theorem PutAt.mono {I J : Nat → Prop} {A : World} (h : ∀ b, I b → J b) {a : Option Addr} {p : Option Feat} (t : PutAt I A a p) : PutAt J A a p := by
  cases p with
  | none => exact t
  | some f =>
    obtain ⟨R, b, o, cap, e, hR, c5, c6, c7, c8, c9, g⟩ := t
    exact ⟨R, b, o, cap, e, h _ hR, c5, c6, c7, c8, c9, g.mono h⟩
theorem StpAt.same {I : Nat → Prop} {A B : World} (h : Same I A B) {s : Stp} {v : Value} (t : StpAt I A s v) : StpAt I B s v := by
  cases s with
  | bad => exact t
  | look t' m => exact t
  | note t' m age => exact t
  | draw t' m age fs => obtain ⟨ro, e, k⟩ := t; exact ⟨ro, e, k.same h⟩
  | lock id p => obtain ⟨a, e, k⟩ := t; exact ⟨a, e, k.same h⟩
  | forget id p z => obtain ⟨a, e, k⟩ := t; exact ⟨a, e, k.same h⟩
  | finish id p => obtain ⟨a, e, k⟩ := t; exact ⟨a, e, k.same h⟩
theorem StpAt.mono {I J : Nat → Prop} {A : World} (h : ∀ b, I b → J b) {s : Stp} {v : Value} (t : StpAt I A s v) : StpAt J A s v := by
  cases s with
  | bad => exact t
  | look t' m => exact t
  | note t' m age => exact t
  | draw t' m age fs => obtain ⟨ro, e, k⟩ := t; exact ⟨ro, e, k.mono h⟩
  | lock id p => obtain ⟨a, e, k⟩ := t; exact ⟨a, e, k.mono h⟩
  | forget id p z => obtain ⟨a, e, k⟩ := t; exact ⟨a, e, k.mono h⟩
  | finish id p => obtain ⟨a, e, k⟩ := t; exact ⟨a, e, k.mono h⟩
theorem NxAt.same {I : Nat → Prop} {A B : World} (h : Same I A B) {s : Option Stp} {v : Value} (t : NxAt I A s v) : NxAt I B s v := by
  cases s with
  | none => exact t
  | some s => exact StpAt.same h t
theorem NxAt.mono {I J : Nat → Prop} {A : World} (h : ∀ b, I b → J b) {s : Option Stp} {v : Value} (t : NxAt I A s v) : NxAt J A s v := by
  cases s with
  | none => exact t
  | some s => exact StpAt.mono h t
/-- A step's value is a function of the program, by its number, with what is bound to it. -/
theorem StpAt.fn {I : Nat → Prop} {w : World} {s : Stp} {v : Value} (t : StpAt I w s v) : ∃ f b, v = .func (.func f) b #[] ∧ Enters f := by
  cases s with
  | bad => exact ⟨_, _, t, enters176⟩
  | look t' m => exact ⟨_, _, t, enters174⟩
  | note t' m age => exact ⟨_, _, t, enters191⟩
  | draw t' m age fs => obtain ⟨ro, e, k⟩ := t; exact ⟨_, _, e, enters205⟩
  | lock id p => obtain ⟨a, e, k⟩ := t; exact ⟨_, _, e, enters175⟩
  | forget id p z => obtain ⟨a, e, k⟩ := t; exact ⟨_, _, e, enters193⟩
  | finish id p => obtain ⟨a, e, k⟩ := t; exact ⟨_, _, e, enters208⟩
theorem NxAt.two {I : Nat → Prop} {w : World} {s : Option Stp} {v : Value} (t : NxAt I w s v) : v = .nilFunc ∨ ∃ f b, v = .func f b #[] := by
  cases s with
  | none => exact .inl t
  | some s => obtain ⟨f, b, e, _⟩ := StpAt.fn t; exact .inr ⟨_, _, e⟩
theorem Same.fr {I : Nat → Prop} {M : Nat → Nat → Prop} {A B : World} (h : Fr M A B) (hI : ∀ b, I b → b < A.heap.size) (hM : ∀ b i, I b → ¬ M b i) : Same I A B := fun b o _ hb e => (h.cell b o (hI b hb) (hM b o hb)).trans e

/-- Where the parts of an atlas lie. -/
structure Wit where
  I : Nat → Prop
  sv : Nat → Value
  cb : Nat → Nat
  av : Nat → Value
  nv : Nat → Value
  sn : Nat → Nat
  rn : Nat → Nat
/-- The blocks that an atlas writes: its own, the rows of the shards, the channels, the rows of answers. -/
def Wit.own (x : Wit) (A i : Nat) : Option Nat := if i = 0 then some A else if i < 5 then (x.sv (i - 1)).ownBlock else if i < 9 then some (x.cb (i - 5)) else (x.av (i - 9)).ownBlock
def Wit.Own (x : Wit) (A b : Nat) : Prop := ∃ i, i < 13 ∧ x.own A i = some b
structure SesAt (w : World) (A : Nat) (x : Wit) (n : Nat) (s : Ses) : Prop where
  q : QuAt w A (11 + n * 3) (x.cb n) 6 (s.q.map .string).toArray (x.sn n) (x.rn n) (x.nv n)
  f1 : w.frozen? ⟨A, 11 + n * 3 + 1, none⟩ = false
  nx : NxAt x.I w s.nx (x.nv n)
  an : AnsAt w A (11 + n * 3) (x.av n) (s.an.map .string)
structure AtlasAt (w : World) (A : Nat) (x : Wit) (a : Atl) : Prop where
  gl : Gl w
  ok : AtlOk a
  root : ∃ ro, w.cell? ⟨A, 0, none⟩ = some (.pointer ro) ∧ TreeAt x.I w ro a.g.fs
  rf : w.frozen? ⟨A, 0, none⟩ = false
  lk : w.cell? ⟨A, 1, none⟩ = some (.bool a.g.lk)
  lf : w.frozen? ⟨A, 1, none⟩ = false
  sh : ShsAt w A 2 x.sv a.g.S
  ses : ∀ n, n < 4 → SesAt w A x n (a.ss n)
  ownI : ∀ i b, i < 13 → x.own A i = some b → ¬ x.I b ∧ 8 ≤ b ∧ b < w.heap.size
  apart : ∀ i j b, i < 13 → j < 13 → i ≠ j → x.own A i = some b → x.own A j ≠ some b
  lt : ∀ b, x.I b → 8 ≤ b ∧ b < w.heap.size

theorem own_A (x : Wit) (A : Nat) : x.own A 0 = some A := rfl
theorem own_sh (x : Wit) (A k : Nat) (hk : k < 4) : x.own A (k + 1) = (x.sv k).ownBlock := by
  unfold Wit.own
  rw [if_neg (by omega), if_pos (by omega), Nat.add_sub_cancel]
theorem own_ch (x : Wit) (A k : Nat) (hk : k < 4) : x.own A (k + 5) = some (x.cb k) := by
  unfold Wit.own
  rw [if_neg (by omega), if_neg (by omega), if_pos (by omega), Nat.add_sub_cancel]
theorem own_an (x : Wit) (A k : Nat) : x.own A (k + 9) = (x.av k).ownBlock := by
  unfold Wit.own
  rw [if_neg (by omega), if_neg (by omega), if_neg (by omega), Nat.add_sub_cancel]
theorem AtlasAt.A8 {w : World} {A : Nat} {x : Wit} {a : Atl} (h : AtlasAt w A x a) : 8 ≤ A ∧ A < w.heap.size := (h.ownI 0 A (by omega) (own_A x A)).2

end Go.Proofs.YtenaepdmlknlcaaGreatDoor

namespace Go.Proofs.YtenaepdmlknlcaaGreatDoor
open Go.RowKit Go.Shelf

theorem AnsAt.fr {M : Nat → Nat → Prop} {W W' : World} (h : Fr M W W') {A o : Nat} {v : Value} {xs : List Value} (k : AnsAt W A o v xs) (hA : ¬ M A (o + 2)) (hv : ∀ g i, v.ownBlock = some g → ¬ M g i) : AnsAt W' A o v xs :=
  ⟨(h.cell A _ (World.block_lt_of_cell? W ⟨A, o + 2, none⟩ k.c) hA).trans k.c, (h.frozen A _ (World.block_lt_of_cell? W ⟨A, o + 2, none⟩ k.c) hA).trans k.f, ownsRow_fr' h k.own (fun g i e => hv g i e), k.ne, k.lt⟩
theorem QuAt.fr {M : Nat → Nat → Prop} {W W' : World} (h : Fr M W W') {A o c cap : Nat} {buf : Array Value} {sn r : Nat} {nx : Value} (k : QuAt W A o c cap buf sn r nx) (h0 : ¬ M A o) (h1 : ¬ M A (o + 1)) (hc : ∀ i, ¬ M c i) : QuAt W' A o c cap buf sn r nx :=
  ⟨(h.cell A _ (World.block_lt_of_cell? W ⟨A, o, none⟩ k.c0) h0).trans k.c0, (h.cell A _ (World.block_lt_of_cell? W ⟨A, o, none⟩ k.c0) h1).trans k.c1, (h.block c (Array.getElem?_eq_some_iff.1 k.ch).1 hc).trans k.ch, k.le, k.nx⟩
theorem SesAt.fr {M : Nat → Nat → Prop} {W W' : World} (h : Fr M W W') {A : Nat} {x : Wit} {n : Nat} {s : Ses} (k : SesAt W A x n s) (hA : ∀ i, i < 3 → ¬ M A (11 + n * 3 + i)) (hc : ∀ i, ¬ M (x.cb n) i) (hv : ∀ g i, (x.av n).ownBlock = some g → ¬ M g i) (hI : Same x.I W W') : SesAt W' A x n s :=
  ⟨k.q.fr h (hA 0 (by omega)) (hA 1 (by omega)) hc, (h.frozen A _ (World.block_lt_of_cell? W ⟨A, _, none⟩ k.q.c1) (hA 1 (by omega))).trans k.f1, k.nx.same hI, k.an.fr h (hA 2 (by omega)) hv⟩
/-- The session does not change if parts of the witness that it does not speak of do. -/
theorem SesAt.wit {W : World} {A : Nat} {x y : Wit} {n : Nat} {s : Ses} (k : SesAt W A x n s) (hI : ∀ b, x.I b → y.I b) (h1 : y.cb n = x.cb n) (h2 : y.av n = x.av n) (h3 : y.nv n = x.nv n) (h4 : y.sn n = x.sn n) (h5 : y.rn n = x.rn n) : SesAt W A y n s :=
  ⟨by rw [h1, h3, h4, h5]; exact k.q, k.f1, by rw [h3]; exact k.nx.mono hI, by rw [h2]; exact k.an⟩
theorem ShsAt.fr {M : Nat → Nat → Prop} {w w' : World} {A so : Nat} {vs : Nat → Value} {S : Shs} (hf : Fr M w w') (h : ShsAt w A so vs S) (hA : ∀ i, i < 9 → ¬ M A (so + i)) (hv : ∀ k g i, k < 4 → (vs k).ownBlock = some g → ¬ M g i) : ShsAt w' A so vs S := by
  have hlt : A < w.heap.size := World.block_lt_of_cell? w ⟨A, so, none⟩ h.room
  refine ⟨(hf.cell A _ hlt (hA 0 (by omega))).trans h.room, fun k hk => (h.sh k hk).fr hf (by have := hA (1 + k * 2) (by omega); rwa [← Nat.add_assoc] at this) (fun g i e => hv k g i hk e), fun k hk => ?_, h.apart⟩
  have hn : ¬ M A (so + 1 + k * 2 + 1) := by have := hA (1 + k * 2 + 1) (by omega); rwa [← Nat.add_assoc, ← Nat.add_assoc] at this
  exact ⟨(hf.cell A _ hlt hn).trans (h.age k hk).1, (hf.frozen A _ hlt hn).trans (h.age k hk).2⟩

/-- An atlas stays what it is, whatever is written elsewhere. -/
theorem AtlasAt.fr {M : Nat → Nat → Prop} {w w' : World} (hf : Fr M w w') {A : Nat} {x : Wit} {a : Atl} (h : AtlasAt w A x a) (hM : ∀ b i, M b i → 8 ≤ b ∧ ¬ x.I b ∧ ¬ x.Own A b) : AtlasAt w' A x a := by
  have hA : ∀ i, ¬ M A i := fun i e => (hM A i e).2.2 ⟨0, by omega, own_A x A⟩
  have hlt := h.A8.2
  have hS : Same x.I w w' := Same.fr hf (fun b hb => (h.lt b hb).2) (fun b i hb e => (hM b i e).2.1 hb)
  obtain ⟨ro, r1, r2⟩ := h.root
  refine ⟨h.gl.fr hf (fun b i hb e => absurd (hM b i e).1 (by omega)), h.ok, ⟨ro, (hf.cell A _ hlt (hA _)).trans r1, r2.same hS⟩, (hf.frozen A _ hlt (hA _)).trans h.rf, (hf.cell A _ hlt (hA _)).trans h.lk, (hf.frozen A _ hlt (hA _)).trans h.lf, ?_, fun n hn => ?_, fun i b hi e => ⟨(h.ownI i b hi e).1, (h.ownI i b hi e).2.1, Nat.lt_of_lt_of_le (h.ownI i b hi e).2.2 hf.size⟩, h.apart, fun b hb => ⟨(h.lt b hb).1, Nat.lt_of_lt_of_le (h.lt b hb).2 hf.size⟩⟩
  · exact h.sh.fr hf (fun i _ => hA _) (fun k g i hk e m => (hM g i m).2.2 ⟨k + 1, by omega, by rw [own_sh x A k hk]; exact e⟩)
  · exact (h.ses n hn).fr hf (fun i _ => hA _) (fun i m => (hM _ i m).2.2 ⟨n + 5, by omega, own_ch x A n hn⟩) (fun g i e m => (hM g i m).2.2 ⟨n + 9, by omega, by rw [own_an]; exact e⟩) hS

/-- What a step may write: the map, the lock, the shards. -/
def GM (A : Nat) (x : Wit) : Nat → Nat → Prop := fun b i => (b = A ∧ i < 11) ∨ ∃ k, k < 4 ∧ (x.sv k).ownBlock = some b
theorem own_sv {x : Wit} {I1 : Nat → Prop} {sv1 : Nat → Value} {A i : Nat} : ({ x with I := I1, sv := sv1 } : Wit).own A i = if i = 0 then some A else if i < 5 then (sv1 (i - 1)).ownBlock else x.own A i := by
  unfold Wit.own
  by_cases h0 : i = 0
  · rw [if_pos h0, if_pos h0]
  · rw [if_neg h0, if_neg h0]
    by_cases h1 : i < 5
    · rw [if_pos h1, if_pos h1]
    · rw [if_neg h1, if_neg h1, if_neg h0, if_neg h1]

theorem AtlasAt.ground {w w1 : World} {A : Nat} {x : Wit} {a : Atl} (h : AtlasAt w A x a) {g' : Gr} (hok : GrOk g') {I1 : Nat → Prop} {sv1 : Nat → Value} (hf : Fr (GM A x) w w1)
    (root : ∃ ro, w1.cell? ⟨A, 0, none⟩ = some (.pointer ro) ∧ TreeAt I1 w1 ro g'.fs) (rf : w1.frozen? ⟨A, 0, none⟩ = false) (lk : w1.cell? ⟨A, 1, none⟩ = some (.bool g'.lk)) (lf : w1.frozen? ⟨A, 1, none⟩ = false) (sh : ShsAt w1 A 2 sv1 g'.S)
    (hI : ∀ b, x.I b → I1 b) (hI1 : ∀ b, I1 b → x.I b ∨ (w.heap.size ≤ b ∧ b < w1.heap.size ∧ ∀ k, k < 4 → (sv1 k).ownBlock ≠ some b))
    (hs : ∀ k b, k < 4 → (sv1 k).ownBlock = some b → (x.sv k).ownBlock = some b ∨ w.heap.size ≤ b) :
    AtlasAt w1 A { x with I := I1, sv := sv1 } { a with g := g' } := by
  have hA := h.A8
  have hGM : ∀ b i, GM A x b i → x.Own A b := fun b i e => by
    rcases e with ⟨rfl, _⟩ | ⟨k, hk, e⟩
    · exact ⟨0, by omega, own_A x _⟩
    · exact ⟨k + 1, by omega, by rw [own_sh x A k hk]; exact e⟩
  have hGo : ∀ b i j, GM A x b i → 5 ≤ j → j < 13 → x.own A j ≠ some b := fun b i j e h5 hj => by
    rcases e with ⟨rfl, _⟩ | ⟨k, hk, e⟩
    · exact h.apart 0 j b (by omega) hj (by omega) (own_A x _)
    · exact h.apart (k + 1) j b (by omega) hj (by omega) (by rw [own_sh x A k hk]; exact e)
  have hS : Same x.I w w1 := Same.fr hf (fun b hb => (h.lt b hb).2) (fun b i hb e => by
    obtain ⟨j, hj, e'⟩ := hGM b i e
    exact (h.ownI j b hj e').1 hb)
  have hrow : ∀ k b, k < 4 → (sv1 k).ownBlock = some b → b < w1.heap.size := fun k b hk e => (sh.sh k hk).ownLt b e
  have hown : ∀ i b, i < 13 → ({ x with I := I1, sv := sv1 } : Wit).own A i = some b → (x.own A i = some b ∨ (w.heap.size ≤ b ∧ 1 ≤ i ∧ i < 5 ∧ (sv1 (i - 1)).ownBlock = some b)) := fun i b hi e => by
    rw [own_sv] at e
    by_cases h0 : i = 0
    · rw [if_pos h0] at e; left; rw [h0]; exact e
    · rw [if_neg h0] at e
      by_cases h1 : i < 5
      · rw [if_pos h1] at e
        rcases hs (i - 1) b (by omega) e with h' | h'
        · left
          have := own_sh x A (i - 1) (by omega)
          rw [show i - 1 + 1 = i by omega] at this
          rw [this]; exact h'
        · right; exact ⟨h', by omega, h1, e⟩
      · rw [if_neg h1] at e; exact .inl e
  refine ⟨h.gl.fr hf (fun b i hb e => ?_), ⟨hok, h.ok.ss⟩, root, rf, lk, lf, sh, fun n hn => ?_, fun i b hi e => ?_, fun i j b hi hj hij e e' => ?_, fun b hb => ?_⟩
  · obtain ⟨j, hj, e'⟩ := hGM b i e
    have := (h.ownI j b hj e').2.1
    omega
  · refine SesAt.wit ((h.ses n hn).fr hf (fun i hi e => ?_) (fun i e => hGo _ i (n + 5) e (by omega) (by omega) (own_ch x A n hn)) (fun g i eg e => hGo g i (n + 9) e (by omega) (by omega) (by rw [own_an]; exact eg)) hS) hI rfl rfl rfl rfl rfl
    rcases e with ⟨_, e⟩ | ⟨k, hk, e⟩
    · omega
    · exact h.apart 0 (k + 1) A (by omega) (by omega) (by omega) (own_A x A) (by rw [own_sh x A k hk]; exact e)
  · rcases hown i b hi e with h' | ⟨h1, h2, h3, h4⟩
    · have := h.ownI i b hi h'
      refine ⟨fun hb => ?_, this.2.1, Nat.lt_of_lt_of_le this.2.2 hf.size⟩
      rcases hI1 b hb with k | ⟨k, _⟩
      · exact this.1 k
      · omega
    · refine ⟨fun hb => ?_, by omega, hrow (i - 1) b (by omega) h4⟩
      rcases hI1 b hb with k | ⟨_, _, k⟩
      · have := (h.lt b k).2; omega
      · exact k (i - 1) (by omega) h4
  · rcases hown i b hi e with k | ⟨k1, k2, k3, k4⟩
    · rcases hown j b hj e' with k' | ⟨k1', k2', k3', k4'⟩
      · exact h.apart i j b hi hj hij k k'
      · have := (h.ownI i b hi k).2.2; omega
    · rcases hown j b hj e' with k' | ⟨k1', k2', k3', k4'⟩
      · have := (h.ownI j b hj k').2.2; omega
      · exact sh.apart (i - 1) (j - 1) b (by omega) (by omega) (by omega) k4 k4'
  · rcases hI1 b hb with k | ⟨k1, k2, _⟩
    · exact ⟨(h.lt b k).1, Nat.lt_of_lt_of_le (h.lt b k).2 hf.size⟩
    · exact ⟨by omega, k2⟩

/-- What a session may write. -/
def SM (A : Nat) (x : Wit) (n : Nat) : Nat → Nat → Prop := fun b i => (b = A ∧ 11 + n * 3 ≤ i ∧ i < 14 + n * 3) ∨ b = x.cb n ∨ (x.av n).ownBlock = some b
def updN {α : Type} (f : Nat → α) (n : Nat) (v : α) : Nat → α := fun k => if k = n then v else f k
theorem updN_same {α : Type} (f : Nat → α) (n : Nat) (v : α) : updN f n v n = v := if_pos rfl
theorem updN_ne {α : Type} (f : Nat → α) (n : Nat) (v : α) {k : Nat} (h : k ≠ n) : updN f n v k = f k := if_neg h
def Wit.ses (x : Wit) (n : Nat) (I1 : Nat → Prop) (v nv : Value) (sn rn : Nat) : Wit := { x with I := I1, av := updN x.av n v, nv := updN x.nv n nv, sn := updN x.sn n sn, rn := updN x.rn n rn }
theorem own_ses {x : Wit} {n : Nat} {I1 : Nat → Prop} {v nv : Value} {sn rn A i : Nat} : (x.ses n I1 v nv sn rn).own A i = if i = n + 9 then v.ownBlock else x.own A i := by
  unfold Wit.own Wit.ses
  by_cases h0 : i = 0
  · rw [if_pos h0, if_pos h0, if_neg (by omega)]
  · by_cases h1 : i < 5
    · rw [if_neg h0, if_neg h0, if_pos h1, if_pos h1, if_neg (by omega)]
    · by_cases h2 : i < 9
      · rw [if_neg h0, if_neg h0, if_neg h1, if_neg h1, if_pos h2, if_pos h2, if_neg (by omega)]
      · rw [if_neg h0, if_neg h0, if_neg h1, if_neg h1, if_neg h2, if_neg h2]
        by_cases h3 : i = n + 9
        · rw [if_pos h3, h3, Nat.add_sub_cancel]
          show (updN x.av n v n).ownBlock = _
          rw [updN_same]
        · rw [if_neg h3]
          show (updN x.av n v (i - 9)).ownBlock = _
          rw [updN_ne _ _ _ (by omega)]

theorem AtlasAt.session {w w1 : World} {A : Nat} {x : Wit} {a : Atl} (h : AtlasAt w A x a) {n : Nat} (hn : n < 4) {s' : Ses} (hok : SesOk s') {I1 : Nat → Prop} {v nv : Value} {sn rn : Nat} (hf : Fr (SM A x n) w w1)
    (ses : SesAt w1 A (x.ses n I1 v nv sn rn) n s')
    (hI : ∀ b, x.I b → I1 b) (hI1 : ∀ b, I1 b → x.I b ∨ (w.heap.size ≤ b ∧ b < w1.heap.size ∧ v.ownBlock ≠ some b))
    (hs : ∀ b, v.ownBlock = some b → b < w1.heap.size ∧ ((x.av n).ownBlock = some b ∨ w.heap.size ≤ b)) :
    AtlasAt w1 A (x.ses n I1 v nv sn rn) (a.set a.g n s') := by
  have hA := h.A8
  have hSM : ∀ b i, SM A x n b i → x.Own A b := fun b i e => by
    rcases e with ⟨rfl, _⟩ | rfl | e
    · exact ⟨0, by omega, own_A x _⟩
    · exact ⟨n + 5, by omega, own_ch x A n hn⟩
    · exact ⟨n + 9, by omega, by rw [own_an]; exact e⟩
  have hSo : ∀ b i j, SM A x n b i → 1 ≤ j → j < 13 → j ≠ n + 5 → j ≠ n + 9 → x.own A j ≠ some b := fun b i j e h1 hj h5 h9 => by
    rcases e with ⟨rfl, _⟩ | rfl | e
    · exact h.apart 0 j b (by omega) hj (by omega) (own_A x _)
    · exact h.apart (n + 5) j _ (by omega) hj (fun e => h5 e.symm) (own_ch x A n hn)
    · exact h.apart (n + 9) j b (by omega) hj (fun e => h9 e.symm) (by rw [own_an]; exact e)
  have hAi : ∀ i, SM A x n A i → 11 + n * 3 ≤ i ∧ i < 14 + n * 3 := fun i e => by
    rcases e with ⟨_, e⟩ | e | e
    · exact e
    · exact absurd (show x.own A (n + 5) = some A by rw [own_ch x A n hn, ← e]) (h.apart 0 (n + 5) A (by omega) (by omega) (by omega) (own_A x A))
    · exact absurd (show x.own A (n + 9) = some A by rw [own_an]; exact e) (h.apart 0 (n + 9) A (by omega) (by omega) (by omega) (own_A x A))
  have hS : Same x.I w w1 := Same.fr hf (fun b hb => (h.lt b hb).2) (fun b i hb e => by
    obtain ⟨j, hj, e'⟩ := hSM b i e
    exact (h.ownI j b hj e').1 hb)
  have hown : ∀ i b, i < 13 → (x.ses n I1 v nv sn rn).own A i = some b → (x.own A i = some b ∨ (w.heap.size ≤ b ∧ i = n + 9 ∧ v.ownBlock = some b)) := fun i b hi e => by
    rw [own_ses] at e
    by_cases h9 : i = n + 9
    · rw [if_pos h9] at e
      rcases (hs b e).2 with k | k
      · left; rw [h9, own_an]; exact k
      · exact .inr ⟨k, h9, e⟩
    · rw [if_neg h9] at e; exact .inl e
  obtain ⟨ro, r1, r2⟩ := h.root
  refine ⟨h.gl.fr hf (fun b i hb e => ?_), ⟨h.ok.g, fun k hk => ?_⟩, ⟨ro, (hf.cell A _ hA.2 (fun e => by have := hAi _ e; omega)).trans r1, (r2.same hS).mono hI⟩, (hf.frozen A _ hA.2 (fun e => by have := hAi _ e; omega)).trans h.rf, (hf.cell A _ hA.2 (fun e => by have := hAi _ e; omega)).trans h.lk, (hf.frozen A _ hA.2 (fun e => by have := hAi _ e; omega)).trans h.lf, ?_, fun k hk => ?_, fun i b hi e => ?_, fun i j b hi hj hij e e' => ?_, fun b hb => ?_⟩
  · obtain ⟨j, hj, e'⟩ := hSM b i e
    have := (h.ownI j b hj e').2.1
    omega
  · show SesOk (if k = n then s' else a.ss k)
    by_cases hkn : k = n
    · rw [if_pos hkn]; exact hok
    · rw [if_neg hkn]; exact h.ok.ss k hk
  · exact h.sh.fr hf (fun i hi e => by have := hAi _ e; omega) (fun k g i hk e m => hSo g i (k + 1) m (by omega) (by omega) (by omega) (by omega) (by rw [own_sh x A k hk]; exact e))
  · show SesAt w1 A _ k (if k = n then s' else a.ss k)
    by_cases hkn : k = n
    · rw [if_pos hkn, hkn]; exact ses
    · rw [if_neg hkn]
      refine SesAt.wit ((h.ses k hk).fr hf (fun i hi e => by have := hAi _ e; omega) (fun i e => hSo _ i (k + 5) e (by omega) (by omega) (by omega) (by omega) (own_ch x A k hk)) (fun g i eg e => hSo g i (k + 9) e (by omega) (by omega) (by omega) (by omega) (by rw [own_an]; exact eg)) hS) hI rfl (updN_ne _ _ _ hkn) (updN_ne _ _ _ hkn) (updN_ne _ _ _ hkn) (updN_ne _ _ _ hkn)
  · rcases hown i b hi e with h' | ⟨h1, h2, h3⟩
    · have := h.ownI i b hi h'
      refine ⟨fun hb => ?_, this.2.1, Nat.lt_of_lt_of_le this.2.2 hf.size⟩
      rcases hI1 b hb with k | ⟨k, _⟩
      · exact this.1 k
      · omega
    · refine ⟨fun hb => ?_, by omega, (hs b h3).1⟩
      rcases hI1 b hb with k | ⟨_, _, k⟩
      · have := (h.lt b k).2; omega
      · exact k h3
  · rcases hown i b hi e with k | ⟨k1, k2, k3⟩
    · rcases hown j b hj e' with k' | ⟨k1', k2', k3'⟩
      · exact h.apart i j b hi hj hij k k'
      · have := (h.ownI i b hi k).2.2; omega
    · rcases hown j b hj e' with k' | ⟨k1', k2', k3'⟩
      · have := (h.ownI j b hj k').2.2; omega
      · omega
  · rcases hI1 b hb with k | ⟨k1, k2, _⟩
    · exact ⟨(h.lt b k).1, Nat.lt_of_lt_of_le (h.lt b k).2 hf.size⟩
    · exact ⟨by omega, k2⟩

end Go.Proofs.YtenaepdmlknlcaaGreatDoor

namespace Go.Proofs.YtenaepdmlknlcaaGreatDoor
open Go.RowKit Go.Shelf

attribute [local go_sem] Oper.semAt_some

theorem All_none (w : World) :
    Calls Tryz.prog 80 #[.agg #[.pointer none]] w fun e w' => ∃ Bt, e = .returned (.func (.func 125) #[] #[.pointer (some ⟨Bt, 0, none⟩), .pointer (some ⟨Bt + 1, 0, none⟩)]) ∧ w.heap.size ≤ Bt ∧ Bt + 1 < w'.heap.size ∧ w'.cell? ⟨Bt, 0, none⟩ = some (.pointer none) ∧ Below w.heap.size w w' := by
  go_enter Tryz.func80, Tryz.ntmps80
  go_wp2_with (go_at_call 90; refine (Meeting_any _ ⟨0, 0, 0, 0⟩ _).mono ?_; rintro e w2 ⟨rfl, rfl⟩; dsimp only)
  go_ret
  exact ⟨w.heap.size + 1, by simp, by omega, by simp, by simp [go_sem], (((Below.refl _ _).alloc (Nat.le_refl _) _).alloc (by simp) _).alloc (by simp <;> omega) _⟩

theorem All_some (q : Nat) (x : Bx) (w : World) (hq : q < w.heap.size) (hc : C4 w q x) :
    Calls Tryz.prog 80 #[.agg #[.pointer (some ⟨q, 0, none⟩)]] w fun e w' => ∃ Bt, e = .returned (.func (.func 125) #[] #[.pointer (some ⟨Bt, 0, none⟩), .pointer (some ⟨Bt + 1, 0, none⟩)]) ∧ w.heap.size ≤ Bt ∧ Bt + 1 < w'.heap.size ∧ w'.cell? ⟨Bt, 0, none⟩ = some (.pointer (some ⟨q, 0, none⟩)) ∧ C4 w' (Bt + 1) x ∧ Below w.heap.size w w' := by
  obtain ⟨c0, c1, c2, c3⟩ := hc
  go_enter Tryz.func80, Tryz.ntmps80
  go_wp2_with fail
  go_region_with (go_at_call 90; refine (Meeting_any _ x _).mono ?_; rintro e w2 ⟨rfl, rfl⟩; dsimp only)
  all_goals
    go_wp2
    go_ret
    exact ⟨w.heap.size + 1, rfl, by omega, by simp, by simp [go_sem], ⟨by simp [go_sem], by simp [go_sem], by simp [go_sem], by simp [go_sem]⟩, ((((Below.refl _ _).alloc (Nat.le_refl _) _).drew).alloc (by simp) _).alloc (by simp <;> omega) _⟩

/-- A root with these features, whose box is x. -/
def RootX (ok : Nat → Prop) (w : World) (ro : Option Addr) (vs : List FV) (x : Bx) : Prop :=
  (ro = none ∧ vs = []) ∨ ∃ (d q : Nat) (us : List FV), ro = some ⟨q, 0, none⟩ ∧ IsT ok w (d + 1) q us x ∧ us.Perm vs
theorem All_root (ok : Nat → Prop) (ro : Option Addr) (vs : List FV) (w : World) (hok : ∀ b, ok b → b < w.heap.size) (hR : RootT ok w ro vs) :
    Calls Tryz.prog 80 #[.agg #[.pointer ro]] w fun e w' => ∃ Bt x, e = .returned (.func (.func 125) #[] #[.pointer (some ⟨Bt, 0, none⟩), .pointer (some ⟨Bt + 1, 0, none⟩)]) ∧ w.heap.size ≤ Bt ∧ Bt + 1 < w'.heap.size ∧ w'.cell? ⟨Bt, 0, none⟩ = some (.pointer ro) ∧ (ro = none ∨ C4 w' (Bt + 1) x) ∧ RootX ok w ro vs x ∧ Below w.heap.size w w' := by
  rcases hR with ⟨rfl, rfl⟩ | ⟨d, q, x, us, rfl, hT, hp⟩
  · refine (All_none w).mono ?_
    rintro e w' ⟨Bt, he, h1, h2, h3, h4⟩
    exact ⟨Bt, ⟨0, 0, 0, 0⟩, he, h1, h2, h3, .inl rfl, .inl ⟨rfl, rfl⟩, h4⟩
  · refine (All_some q x w (hok _ hT.lt) hT.c4).mono ?_
    rintro e w' ⟨Bt, he, h1, h2, h3, h4, h5⟩
    exact ⟨Bt, x, he, h1, h2, h3, .inr h4, .inr ⟨d, q, us, rfl, hT, hp⟩, h5⟩

theorem mnZ_le (a b : Int) : mnZ a b ≤ a ∧ mnZ a b ≤ b := by unfold mnZ; omega
theorem mxZ_le (a b : Int) : a ≤ mxZ a b ∧ b ≤ mxZ a b := by unfold mxZ; omega
theorem join_le {x y : Bx} (h1 : x.l ≤ x.r) (h2 : x.t ≤ x.b) : (x.join y).l ≤ (x.join y).r ∧ (x.join y).t ≤ (x.join y).b := by
  have a := mnZ_le x.l y.l
  have b := mnZ_le x.t y.t
  have c := mxZ_le x.r y.r
  have d := mxZ_le x.b y.b
  show mnZ x.l y.l ≤ mxZ x.r y.r ∧ mnZ x.t y.t ≤ mxZ x.b y.b
  omega
theorem fold_le (ps : Pts) : ∀ x : Bx, x.l ≤ x.r → x.t ≤ x.b → (ps.foldl (fun b q => b.join (bxAt q)) x).l ≤ (ps.foldl (fun b q => b.join (bxAt q)) x).r ∧ (ps.foldl (fun b q => b.join (bxAt q)) x).t ≤ (ps.foldl (fun b q => b.join (bxAt q)) x).b := by
  induction ps with
  | nil => exact fun x h1 h2 => ⟨h1, h2⟩
  | cons p r ih => exact fun x h1 h2 => ih _ (join_le h1 h2).1 (join_le h1 h2).2
theorem boxZ_le (ps : Pts) : (boxZ ps).l ≤ (boxZ ps).r ∧ (boxZ ps).t ≤ (boxZ ps).b := by
  cases ps with
  | nil => exact ⟨Int.le_refl _, Int.le_refl _⟩
  | cons p r => exact fold_le r _ (Int.le_refl _) (Int.le_refl _)
theorem filter_all {ok : Nat → Prop} {w : World} {d q : Nat} {us : List FV} {x : Bx} (h : IsT ok w d q us x) : us.filter (meetF x) = us := by
  refine List.filter_eq_self.2 fun v hv => ?_
  have h1 := h.boxIn v hv
  have h2 := boxZ_le v.f.ps
  obtain ⟨a, b, c, e⟩ := h1
  unfold meetF meetsB
  simp
  omega

set_option maxHeartbeats 2000000 in
theorem all_nil (G : FV → Prop) (T n Bt Bb : Nat) (w : World) (hBt : w.cell? ⟨Bt, 0, none⟩ = some (.pointer none)) :
    SeqStopsK Fence.wide n Tryz.prog 125 #[.pointer (some ⟨Bt, 0, none⟩), .pointer (some ⟨Bb, 0, none⟩)] (fun v : { v : FV // G v } => #[encF v.1]) (KeepC T) (fun ys => ys = []) (fun _ => True) 0 w := by
  intro l J Jx W hW hJ hJx hY h0
  refine callsIn_wide.2 ?_
  have e0 := (hW.cell (p := ⟨Bt, 0, none⟩) (cell_lt hBt)).trans hBt
  have H0 : Hid (J [] W) := h0
  clear hJ hJx hY h0 hBt
  show Calls Tryz.prog 125 #[.func (.yield l) #[] #[], .pointer (some ⟨Bt, 0, none⟩), .pointer (some ⟨Bb, 0, none⟩)] W _
  go_enter Tryz.func125, Tryz.ntmps125
  go_wp2
  go_end0
  exact ⟨⟨_, rfl⟩, .inl ⟨[], rfl, H0.out⟩⟩

/-- What All gives: each feature once. -/
theorem all_stops (ok : Nat → Prop) (G : FV → Prop) (T n0 n Bt Bb : Nat) (ro : Option Addr) (vs : List FV) (x : Bx) (w : World) (hT : ∀ b, ok b → b ≠ T) (hlt : ∀ b, ok b → b < n0) (hTn : T < n0) (hn0 : n0 ≤ w.heap.size)
    (hBt : w.cell? ⟨Bt, 0, none⟩ = some (.pointer ro)) (hBb : ro = none ∨ C4 w Bb x) (hR : RootX ok w ro vs x) (hg : ∀ v ∈ vs, G v) :
    SeqStopsK Fence.wide n Tryz.prog 125 #[.pointer (some ⟨Bt, 0, none⟩), .pointer (some ⟨Bb, 0, none⟩)] (fun v : { v : FV // G v } => #[encF v.1]) (KeepC T) (fun ys => (ys.map Subtype.val).Perm vs) (fun _ => True) vs.length w := by
  rcases hR with ⟨rfl, rfl⟩ | ⟨d, q, us, rfl, hIT, hp⟩
  · intro l J Jx W hW hJ hJx hY h0
    refine (all_nil G T n Bt Bb w hBt l J Jx W hW hJ hJx hY h0).mono ?_
    rintro e W' ⟨h1, ⟨xs, rfl, hj⟩ | h2⟩
    · exact ⟨h1, .inl ⟨[], List.Perm.refl _, hj⟩⟩
    · exact ⟨h1, .inr h2⟩
  · rcases hBb with h | hBb
    · cases h
    intro l J Jx W hW hJ hJx hY h0
    rw [← hp.length_eq] at hY
    refine (meeting_stops ok G T n0 n (d + 1) q Bt Bb us x x w hT hlt hTn hn0 hBt hBb hIT (fun v hv => hg v (hp.mem_iff.1 hv)) l J Jx W hW hJ hJx hY h0).mono ?_
    rintro e W' ⟨h1, ⟨xs, hs, hj⟩ | h2⟩
    · refine ⟨h1, .inl ⟨xs, ?_, hj⟩⟩
      show (xs.map Subtype.val).Perm vs
      rw [hs, filter_all hIT]
      exact hp
    · exact ⟨h1, .inr h2⟩

end Go.Proofs.YtenaepdmlknlcaaGreatDoor
