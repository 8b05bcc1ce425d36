import Derived.Test.YtenaepdmlknlcaaGreatDoorE19
import Derived.Test.YtenaepdmlknlcaaGreatDoorE18
import Derived.Test.YtenaepdmlknlcaaGreatDoorE12
import Derived.Test.YtenaepdmlknlcaaGreatDoorE20
namespace Go.Proofs.YtenaepdmlknlcaaGreatDoor
open Go.RowKit Go.Shelf

set_option maxRecDepth 100000 in
set_option maxHeartbeats 1000000 in
/-- A get's third step: what it drew is kept if the age is the one that was noted, and told. -/
theorem draw_gen (A mo : Nat) (t : Tl) (m bd : ByteArray) (age : Int) (ro : Option Addr) (M : Nat → Nat → Prop) (R : World → World → Prop) (w : World) (g : Gl w) (_hA : A < w.heap.size) (hM : ∀ b j, M b j → b < w.heap.size ∧ 8 ≤ b)
    (hB : ∀ W, Below w.heap.size w W → Calls Tryz.prog 32 #[.agg #[.pointer ro], .agg #[.int .i64 t.z, .int .i64 t.c, .int .i64 t.r]] W fun e w' => e = .returned (.string bd) ∧ Below W.heap.size W w')
    (hK : ∀ W, Below w.heap.size w W → Calls Tryz.prog 221 #[.pointer (some ⟨A, mo + 2, none⟩), .agg #[.int .i64 t.z, .int .i64 t.c, .int .i64 t.r], .string bd, .int .i64 age] W fun e w' => e = .returned (.tuple #[]) ∧ R W w' ∧ Fr M W w')
    (hT : ∀ W, Gl W → Calls Tryz.prog 188 #[getV t m age ro, .string bd] W fun e w' => e = .returned (.agg #[.bool false, .nilFunc, .string (tellS m bd)]) ∧ Below W.heap.size W w') :
    Calls Tryz.prog 205 #[getV t m age ro, .pointer (some ⟨A, mo, none⟩)] w fun e w' => e = .returned (.agg #[.bool false, .nilFunc, .string (tellS m bd)]) ∧ ∃ W1 W2, Below w.heap.size w W1 ∧ w.heap.size + 2 ≤ W1.heap.size ∧ R W1 W2 ∧ Fr M W1 W2 ∧ Fr (fun b _ => b = w.heap.size + 1) W2 w' := by
  have HB : Hid _ := hB
  have HK : Hid _ := hK
  have HT : Hid _ := hT
  have HG : Hid (Gl w) := g
  have HM : Hid _ := hM
  clear hB hK hT g hM
  go_enter Tryz.func205, Tryz.ntmps205
  go_wp2_with (go_at_call 32; refine Calls.mono (HB.out _ (below2 w _ _)) ?_; rintro e w1 ⟨rfl, hb1⟩; dsimp only; have HK1 : Hid (KA w1 w.heap.size [.int .i64 t.z, .int .i64 t.c, .int .i64 t.r, .string m, .int .i64 age, .pointer ro]) := KA.fr (M := fun _ _ => False) (Fr.of_below hb1) ((KA.new w [.int .i64 t.z, .int .i64 t.c, .int .i64 t.r, .string m, .int .i64 age, .pointer ro] 291).alloc _) (fun _ => _root_.id); have HR1 : Hid (K3 w1 (w.heap.size + 1) (.bool false) .nilFunc (.string ⟨#[]⟩)) := (K3.new2 w _ _ _ _ _).below hb1 (Nat.le_refl _); have HW1 : Hid (Below w.heap.size w w1 ∧ w.heap.size + 2 ≤ w1.heap.size) := ⟨(below2 w _ _).trans (hb1.mono (by simp; omega)), by have := hb1.size; simp at this; omega⟩; obtain ⟨⟨k0, k1, k2, k3, k4, k5⟩, z0, z1, z2, z3, z4, z5⟩ := HK1.out.all6; clear hb1)
  go_region_with (go_at_call 221; refine Calls.mono (HK.out _ HW1.out.1.drew) ?_; rintro e w2 ⟨rfl, hR2, hf2⟩; dsimp only; have HR2 : Hid _ := hR2; have HF2 : Hid _ := hf2; have hn0 : ∀ j, ¬ M w.heap.size j := (fun j e => (by have := (HM.out _ _ e).1; omega)); have hn1 : ∀ j, ¬ M (w.heap.size + 1) j := (fun j e => (by have := (HM.out _ _ e).1; omega)); have HK2 : Hid (KA w2 w.heap.size [.int .i64 t.z, .int .i64 t.c, .int .i64 t.r, .string m, .int .i64 age, .pointer ro]) := KA.fr hf2 HK1.out.drew hn0; have HS2 : Hid (K3 w2 (w.heap.size + 1) (.bool false) .nilFunc (.string ⟨#[]⟩)) := HR1.out.drew.fr hf2 hn1; have hG2 : Gl w2 := HG.out.fr ((Fr.of_below HW1.out.1.drew).trans hf2) (fun b j hb e => (by have := (HM.out _ _ e).2; omega)); have HW2 : Hid (w.heap.size + 2 ≤ w2.heap.size) := (by have h1 := HW1.out.2; have h2 := hf2.size; simp at h2; show _ ≤ _; omega); clear k0 k1 k2 k3 k4 k5 z0 z1 z2 z3 z4 z5; obtain ⟨⟨k0, k1, k2, k3, k4, k5⟩, z0, z1, z2, z3, z4, z5⟩ := HK2.out.all6; clear hR2 hf2)
  all_goals
    go_wp2_with (go_at_call 188; refine Calls.mono (HT.out _ hG2) ?_; rintro e w3 ⟨rfl, hb3⟩; dsimp only; obtain ⟨r0, r1, r2, f0, f1, f2⟩ := HS2.out.below hb3 (Nat.le_refl _))
    refine bodyPost_ret (v := .agg #[.bool false, .nilFunc, .string (tellS m bd)]) (by simp [results, Tryz.results205, go_sem, r0, r1, r2]) rfl ⟨rfl, _, _, HW1.out.1.drew, ?_, HR2.out, HF2.out, ?_⟩
    · have := HW1.out.2; simpa using this
    · exact (Fr.of_below hb3).trans (set3 w3 (w.heap.size + 1) _ _ _)

end Go.Proofs.YtenaepdmlknlcaaGreatDoor

namespace Go.Proofs.YtenaepdmlknlcaaGreatDoor
open Go.RowKit Go.Shelf

/-! The atlas as the document tells it, without memory. -/

/-- A feature, wherever its places lie. -/
def mkV (f : Feat) : FV := ⟨f, 0, 0, 0⟩
/-- The body of a tile, drawn of features. -/
def bodyL (fs : List Feat) (t : Tl) : List UInt8 := bodyR (fs.map mkV) (pZ t.z) t.c t.r
def bodyF (fs : List Feat) (t : Tl) : ByteArray := ⟨(bodyL fs t).toArray⟩

/-- A step of a request, and what it has noted. -/
inductive Stp where
  | bad
  | look (t : Tl) (m : ByteArray)
  | note (t : Tl) (m : ByteArray) (age : Int)
  | draw (t : Tl) (m : ByteArray) (age : Int) (fs : List Feat)
  | lock (id : Int) (p : Option Feat)
  | forget (id : Int) (p : Option Feat) (z : Nat)
  | finish (id : Int) (p : Option Feat)

def firstS : Rd → Stp
  | .bad => .bad
  | .get t m => .look t m
  | .put f => .lock f.id (some f)
  | .del id => .lock id none

/-- What all sessions work on. -/
structure Gr where
  fs : List Feat
  lk : Bool
  S : Shs

structure Ses where
  q : List ByteArray
  nx : Option Stp
  an : List ByteArray

structure Atl where
  g : Gr
  ss : Nat → Ses

def Shs.setK (S : Shs) (q : Nat) (ks : List Kp) : Shs := { S with ks := fun k => if k = q then ks else S.ks k }

/-- All tiles of a zoom. -/
def tilesN (c n : Nat) (z : Nat) : Tl := ⟨(z : Int), ((n % c : Nat) : Int), ((n / c : Nat) : Int)⟩
def cntZ (z : Nat) : Nat := 2 ^ z
def tilesZ (z : Nat) : List Tl := (List.range (cntZ z * cntZ z)).map fun n => tilesN (cntZ z) n z
/-- The square of a tile. -/
def squareZ (t : Tl) : Bx := ⟨8 * pZ t.z * t.c, 8 * pZ t.z * t.r, 8 * pZ t.z * t.c + 8 * pZ t.z, 8 * pZ t.z * t.r + 8 * pZ t.z⟩
def hitT (bs : List Bx) (t : Tl) : Bool := bs.any fun b => meetBx (squareZ t) b
/-- The tiles of a zoom that meet a box are forgotten. -/
def forgetK (bs : List Bx) (k : Nat) (ts : List Tl) (ks : List Kp) : List Kp := ts.foldl (fun ks t => if hitT bs t = true ∧ shN t = k then dropT t ks else ks) ks
def olderK (bs : List Bx) (k : Nat) (ts : List Tl) : Bool := ts.any fun t => hitT bs t && decide (shN t = k)
def forgetS (z : Nat) (bs : List Bx) (S : Shs) : Shs :=
  { S with ks := fun k => forgetK bs k (tilesZ z) (S.ks k), age := fun k => if olderK bs k (tilesZ z) = true then IntKind.i64.wrap (S.age k + 1) else S.age k }
def findF (id : Int) (fs : List Feat) : Option Feat := fs.find? fun f => f.id == id
def boxesF (p : Option Feat) (fs : List Feat) (id : Int) : List Bx := (p.toList ++ (findF id fs).toList).map fun f => boxZ f.ps
def ansF (had : Bool) (p : Option Feat) : ByteArray := if had = true then ⟨#[50, 48, 48]⟩ else if p.isSome = true then ⟨#[50, 48, 49]⟩ else ⟨#[52, 48, 52]⟩
def hasF (id : Int) (fs : List Feat) : Bool := fs.any fun f => f.id == id

inductive Res where
  | blocked
  | next (s : Stp)
  | answer (an : ByteArray)

def s400 : ByteArray := ⟨#[52, 48, 48]⟩
def stepM (g : Gr) : Stp → Res × Gr
  | .bad => (.answer s400, g)
  | .look t m => match useK t (g.S.ks (shN t)) with
    | none => (.next (.note t m (g.S.age (shN t))), g)
    | some (b, ks) => (.answer (tellS m b), { g with S := g.S.setK (shN t) ks })
  | .note t m age => if g.lk = true then (.blocked, g) else (.next (.draw t m age g.fs), g)
  | .draw t m age fs => (.answer (tellS m (bodyF fs t)), if g.S.age (shN t) = age then { g with S := g.S.setK (shN t) (keepK g.S.room t (bodyF fs t) (g.S.ks (shN t))) } else g)
  | .lock id p => if g.lk = true then (.blocked, g) else (.next (.forget id p 0), { g with lk := true })
  | .forget id p z => (.next (if z = 3 then .finish id p else .forget id p (z + 1)), { g with S := forgetS z (boxesF p g.fs id) g.S })
  | .finish id p => (.answer (ansF (hasF id g.fs) p), { g with lk := false, fs := (g.fs.filter fun f => !(f.id == id)) ++ p.toList })

def Atl.set (a : Atl) (g : Gr) (n : Nat) (s : Ses) : Atl := ⟨g, fun k => if k = n then s else a.ss k⟩
/-- A step of session n, whose request has come to st. -/
def doM (a : Atl) (n : Nat) (s : Ses) (st : Stp) : Bool × Atl := match stepM a.g st with
  | (.blocked, _) => (false, a.set a.g n { s with nx := some st })
  | (.next st', g) => (true, a.set g n { s with nx := some st' })
  | (.answer an, g) => (true, a.set g n { s with nx := none, an := s.an ++ [an] })
def pickM (a : Atl) (n : Nat) : Bool × Atl := match (a.ss n).nx with
  | some st => doM a n (a.ss n) st
  | none => match (a.ss n).q with
    | [] => (false, a)
    | x :: q => doM a n { a.ss n with q := q } (firstS (readP x))
def waitS (s : Ses) : Nat := s.q.length + (match s.nx with | some _ => 1 | none => 0)
def sendM (a : Atl) (n : Nat) (x : ByteArray) : Atl := a.set a.g n { a.ss n with q := (a.ss n).q ++ [x] }
def tellM (a : Atl) (n : Nat) : Atl := a.set a.g n { a.ss n with an := [] }
def newM (room : Int) : Atl := ⟨⟨[], false, ⟨room, fun _ => [], fun _ => 0⟩⟩, fun _ => ⟨[], none, []⟩⟩

/-- No two features have the same number. -/
def DistF (fs : List Feat) : Prop := (fs.map (·.id)).Nodup
structure FsOk (fs : List Feat) : Prop where
  valid : ∀ f ∈ fs, validF f = true
  dist : DistF fs
def Tl.good (t : Tl) : Prop := tileB t.z t.c t.r = true
def PutOk (id : Int) : Option Feat → Prop
  | none => True
  | some f => validF f = true ∧ f.id = id
def StpOk : Stp → Prop
  | .bad => True
  | .look t _ => t.good
  | .note t _ _ => t.good
  | .draw t _ _ fs => t.good ∧ FsOk fs
  | .lock id p => PutOk id p
  | .forget id p z => PutOk id p ∧ z ≤ 3
  | .finish id p => PutOk id p
structure GrOk (g : Gr) : Prop where
  fs : FsOk g.fs
  r0 : 0 ≤ g.S.room
  r8 : g.S.room ≤ 8
  len : ∀ k, k < 4 → ((g.S.ks k).length : Int) ≤ g.S.room
  body : ∀ k x, k < 4 → x ∈ g.S.ks k → x.body.size ≤ 1000
structure SesOk (s : Ses) : Prop where
  q : ∀ x ∈ s.q, x.size ≤ 200
  w : waitS s ≤ 6
  nx : ∀ st, s.nx = some st → StpOk st
  an : s.an.length ≤ 4000000
structure AtlOk (a : Atl) : Prop where
  g : GrOk a.g
  ss : ∀ n, n < 4 → SesOk (a.ss n)

end Go.Proofs.YtenaepdmlknlcaaGreatDoor

namespace Go.Proofs.YtenaepdmlknlcaaGreatDoor
open Go.RowKit Go.Shelf

/-! What the steps keep: features that may be, tiles that are, rooms. -/

theorem tile_check (s : Wd) (h : s.tile.2.wrong = false) : s.tile.1.good := by
  unfold Wd.tile Wd.check at h
  simp only [Bool.or_eq_false_iff, Bool.not_eq_false'] at h
  exact h.2
theorem mark_wrong (s : Wd) (h : s.mark.2.wrong = false) : s.wrong = false := by
  unfold Wd.mark at h
  cases hl : s.left with
  | nil => simp [hl] at h; exact h
  | cons x r =>
    simp [hl, Wd.check] at h
    exact h.1
def RdOk : Rd → Prop
  | .bad => True
  | .get t _ => t.good
  | .put f => validF f = true
  | .del _ => True
theorem readW_ok (t : Wd) : RdOk (readW t) := by
  unfold readW
  split
  · split
    · trivial
    · rename_i h
      refine tile_check _ (mark_wrong _ ?_)
      cases e : t.next.2.tile.2.mark.2.wrong with
      | false => rfl
      | true => exact absurd (.inl e) h
  · split
    · split
      · trivial
      · rename_i h
        unfold putWrong at h
        simp only [Bool.or_eq_true, not_or, Bool.not_eq_true', Bool.not_eq_true, Bool.not_eq_false] at h
        exact h.2
    · split
      · split <;> trivial
      · trivial
theorem readP_ok (s : ByteArray) : RdOk (readP s) := readW_ok _
theorem firstS_ok {r : Rd} (h : RdOk r) : StpOk (firstS r) := by
  cases r with
  | bad => trivial
  | get t m => exact h
  | put f => exact ⟨h, rfl⟩
  | del id => trivial

theorem dropT_mem {t : Tl} {ks : List Kp} {x : Kp} (h : x ∈ dropT t ks) : x ∈ ks := by
  unfold dropT at h
  cases e : tileIx t ks with
  | none => rw [e] at h; exact h
  | some i => rw [e] at h; exact List.mem_of_mem_eraseIdx h
theorem forgetK_len (bs : List Bx) (k : Nat) : ∀ (ts : List Tl) (ks : List Kp), (forgetK bs k ts ks).length ≤ ks.length
  | [], _ => Nat.le_refl _
  | t :: ts, ks => by
    show (forgetK bs k ts (if hitT bs t = true ∧ shN t = k then dropT t ks else ks)).length ≤ _
    refine Nat.le_trans (forgetK_len bs k ts _) ?_
    split
    · exact dropT_len t ks
    · exact Nat.le_refl _
theorem forgetK_mem (bs : List Bx) (k : Nat) {x : Kp} : ∀ (ts : List Tl) (ks : List Kp), x ∈ forgetK bs k ts ks → x ∈ ks
  | [], _, h => h
  | t :: ts, ks, h => by
    have h' := forgetK_mem bs k ts (if hitT bs t = true ∧ shN t = k then dropT t ks else ks) h
    split at h'
    · exact dropT_mem h'
    · exact h'
theorem keepK_len {room : Int} {t : Tl} {b : ByteArray} {ks : List Kp} (_h0 : 0 ≤ room) (h : (ks.length : Int) ≤ room) : ((keepK room t b ks).length : Int) ≤ room := by
  have hd := dropT_len t ks
  unfold keepK
  split
  · rw [List.length_drop, List.length_append]
    simp
    omega
  · rw [List.length_append]
    simp
    omega
theorem keepK_mem {room : Int} {t : Tl} {b : ByteArray} {ks : List Kp} {x : Kp} (h : x ∈ keepK room t b ks) : x ∈ ks ∨ x = ⟨t, b⟩ := by
  have hm : x ∈ dropT t ks ++ [(⟨t, b⟩ : Kp)] := by
    unfold keepK at h
    split at h
    · exact List.mem_of_mem_drop h
    · exact h
  rcases List.mem_append.1 hm with h | h
  · exact .inl (dropT_mem h)
  · exact .inr (by simpa using h)
theorem stepM_look0 {g : Gr} {t : Tl} {m : ByteArray} (e : useK t (g.S.ks (shN t)) = none) : stepM g (.look t m) = (.next (.note t m (g.S.age (shN t))), g) := by simp only [stepM, e]
theorem stepM_look1 {g : Gr} {t : Tl} {m b : ByteArray} {ks : List Kp} (e : useK t (g.S.ks (shN t)) = some (b, ks)) : stepM g (.look t m) = (.answer (tellS m b), { g with S := g.S.setK (shN t) ks }) := by simp only [stepM, e]
theorem stepM_note0 {g : Gr} {t : Tl} {m : ByteArray} {age : Int} (e : g.lk = true) : stepM g (.note t m age) = (.blocked, g) := by simp only [stepM, e, if_true]
theorem stepM_note1 {g : Gr} {t : Tl} {m : ByteArray} {age : Int} (e : g.lk = false) : stepM g (.note t m age) = (.next (.draw t m age g.fs), g) := by simp [stepM, e]
theorem stepM_lock0 {g : Gr} {id : Int} {p : Option Feat} (e : g.lk = true) : stepM g (.lock id p) = (.blocked, g) := by simp only [stepM, e, if_true]
theorem stepM_lock1 {g : Gr} {id : Int} {p : Option Feat} (e : g.lk = false) : stepM g (.lock id p) = (.next (.forget id p 0), { g with lk := true }) := by simp [stepM, e]
theorem useK_some {t : Tl} {ks ks' : List Kp} {b : ByteArray} (h : useK t ks = some (b, ks')) : ∃ i k, tileIx t ks = some i ∧ ks[i]? = some k ∧ b = k.body ∧ ks' = ks.eraseIdx i ++ [⟨t, k.body⟩] := by
  unfold useK at h
  cases e : tileIx t ks with
  | none => rw [e] at h; cases h
  | some i =>
    rw [e] at h
    dsimp only at h
    cases e' : ks[i]? with
    | none => rw [e'] at h; cases h
    | some k =>
      rw [e'] at h
      simp at h
      exact ⟨i, k, rfl, e', h.1.symm, h.2.symm⟩
theorem tileIx_lt {t : Tl} {ks : List Kp} {i : Nat} (h : tileIx t ks = some i) : ∃ k, ks[i]? = some k ∧ k.t = t := by
  unfold tileIx at h
  rw [List.findIdx?_eq_some_iff_getElem] at h
  obtain ⟨hi, h1, _⟩ := h
  exact ⟨ks[i], List.getElem?_eq_getElem hi, of_decide_eq_true h1⟩
theorem useK_none {t : Tl} {ks : List Kp} (h : useK t ks = none) : tileIx t ks = none := by
  unfold useK at h
  cases e : tileIx t ks with
  | none => rfl
  | some i =>
    obtain ⟨k, hk, _⟩ := tileIx_lt e
    rw [e] at h
    simp [hk] at h

theorem bodyF_size {fs : List Feat} (h : ∀ f ∈ fs, validF f = true) (t : Tl) : (bodyF fs t).size ≤ 1000 := by
  have := bodyR_length (fs.map mkV) (pZ t.z) t.c t.r (fun v hv => by
    obtain ⟨f, hf, rfl⟩ := List.mem_map.1 hv
    exact h f hf)
  simpa [bodyF, bodyL, ByteArray.size] using this

theorem GrOk.setK {g : Gr} (h : GrOk g) {q : Nat} {ks : List Kp} (h1 : (ks.length : Int) ≤ g.S.room) (h2 : ∀ x ∈ ks, x.body.size ≤ 1000) : GrOk { g with S := g.S.setK q ks } := by
  refine ⟨h.fs, h.r0, h.r8, fun k hk => ?_, fun k x hk hx => ?_⟩
  · show (((if k = q then ks else g.S.ks k) : List Kp).length : Int) ≤ g.S.room
    split
    · exact h1
    · exact h.len k hk
  · have hx' : x ∈ (if k = q then ks else g.S.ks k) := hx
    split at hx'
    · exact h2 x hx'
    · exact h.body k x hk hx'

theorem FsOk.finish {fs : List Feat} (h : FsOk fs) {id : Int} {p : Option Feat} (hp : PutOk id p) : FsOk ((fs.filter fun f => !(f.id == id)) ++ p.toList) := by
  constructor
  · intro f hf
    rcases List.mem_append.1 hf with hf | hf
    · exact h.valid f (List.mem_filter.1 hf).1
    · cases p with
      | none => simp at hf
      | some g => simp at hf; subst hf; exact hp.1
  · show (List.map _ _).Nodup
    rw [List.map_append]
    refine List.nodup_append.2 ⟨?_, ?_, ?_⟩
    · exact List.Nodup.sublist (List.Sublist.map _ List.filter_sublist) h.dist
    · cases p <;> simp
    · intro a ha b hb
      cases p with
      | none => simp at hb
      | some g =>
        simp at hb
        obtain ⟨f, hf, rfl⟩ := List.mem_map.1 ha
        have := (List.mem_filter.1 hf).2
        simp at this
        rw [hb, hp.2]
        exact this

theorem shN4 (t : Tl) : shN t < 4 := shN_lt t

/-- A step keeps what must be so. -/
theorem stepM_ok {g : Gr} (h : GrOk g) {s : Stp} (hs : StpOk s) : GrOk (stepM g s).2 ∧ ∀ s', (stepM g s).1 = .next s' → StpOk s' := by
  cases s with
  | bad => exact ⟨h, fun s' e => by cases e⟩
  | look t m =>
    cases e : useK t (g.S.ks (shN t)) with
    | none => rw [stepM_look0 e]; exact ⟨h, fun s' e' => by injection e' with e'; subst e'; exact hs⟩
    | some r =>
      obtain ⟨b, ks⟩ := r
      rw [stepM_look1 e]
      obtain ⟨i, k, h1, h2, rfl, rfl⟩ := useK_some e
      have hk : k ∈ g.S.ks (shN t) := List.mem_of_getElem? h2
      refine ⟨h.setK ?_ ?_, fun s' e' => by cases e'⟩
      · have hl := h.len (shN t) (shN4 t)
        have hi := (List.getElem?_eq_some_iff.1 h2).1
        rw [List.length_append, List.length_eraseIdx_of_lt hi]
        simp
        omega
      · intro x hx
        rcases List.mem_append.1 hx with hx | hx
        · exact h.body _ x (shN4 t) (List.mem_of_mem_eraseIdx hx)
        · simp at hx; subst hx; exact h.body _ k (shN4 t) hk
  | note t m age =>
    cases e : g.lk with
    | true => rw [stepM_note0 e]; exact ⟨h, fun s' e' => by cases e'⟩
    | false => rw [stepM_note1 e]; exact ⟨h, fun s' e' => by injection e' with e'; subst e'; exact ⟨hs, h.fs⟩⟩
  | draw t m age fs =>
    unfold stepM
    refine ⟨?_, fun s' e' => by cases e'⟩
    show GrOk (if _ then _ else _)
    split
    · refine h.setK (keepK_len h.r0 (h.len _ (shN4 t))) fun x hx => ?_
      rcases keepK_mem hx with hx | rfl
      · exact h.body _ x (shN4 t) hx
      · exact bodyF_size hs.2.valid t
    · exact h
  | lock id p =>
    cases e : g.lk with
    | true => rw [stepM_lock0 e]; exact ⟨h, fun s' e' => by cases e'⟩
    | false => rw [stepM_lock1 e]; exact ⟨⟨h.fs, h.r0, h.r8, h.len, h.body⟩, fun s' e' => by injection e' with e'; subst e'; exact ⟨hs, by omega⟩⟩
  | forget id p z =>
    refine ⟨⟨h.fs, h.r0, h.r8, fun k hk => ?_, fun k x hk hx => h.body k x hk (forgetK_mem _ _ _ _ hx)⟩, fun s' e' => ?_⟩
    · have h1 := forgetK_len (boxesF p g.fs id) k (tilesZ z) (g.S.ks k)
      have h2 := h.len k hk
      show ((forgetK (boxesF p g.fs id) k (tilesZ z) (g.S.ks k)).length : Int) ≤ g.S.room
      omega
    · unfold stepM at e'
      injection e' with e'
      subst e'
      split
      · exact hs.1
      · exact ⟨hs.1, by have := hs.2; omega⟩
  | finish id p => exact ⟨⟨h.fs.finish hs, h.r0, h.r8, h.len, h.body⟩, fun s' e' => by cases e'⟩

end Go.Proofs.YtenaepdmlknlcaaGreatDoor

namespace Go.Proofs.YtenaepdmlknlcaaGreatDoor
open Go.RowKit Go.Shelf

/-! Sessions side by side: who is blocked, and for how long. -/

theorem set_ss (a : Atl) (g : Gr) (n : Nat) (s : Ses) (k : Nat) : (a.set g n s).ss k = if k = n then s else a.ss k := rfl
theorem set_g (a : Atl) (g : Gr) (n : Nat) (s : Ses) : (a.set g n s).g = g := rfl

/-- Whose request has locked the map. -/
def holdS : Option Stp → Bool
  | some (.forget _ _ _) => true
  | some (.finish _ _) => true
  | _ => false
/-- How many steps a request has left at most. -/
def remS : Option Stp → Nat
  | none => 0
  | some .bad => 1
  | some (.look _ _) => 3
  | some (.note _ _ _) => 2
  | some (.draw _ _ _ _) => 1
  | some (.lock _ _) => 6
  | some (.forget _ _ z) => 5 - z
  | some (.finish _ _) => 1
def busyS : Option Stp → Nat
  | some _ => 1
  | none => 0
theorem waitS_eq (s : Ses) : waitS s = s.q.length + busyS s.nx := by
  unfold waitS busyS
  cases s.nx <;> rfl
structure LockOk (a : Atl) : Prop where
  free : a.g.lk = false → ∀ n, n < 4 → holdS (a.ss n).nx = false
  held : a.g.lk = true → ∃ n, n < 4 ∧ holdS (a.ss n).nx = true
  one : ∀ n m, n < 4 → m < 4 → holdS (a.ss n).nx = true → holdS (a.ss m).nx = true → n = m

/-- The request that session n comes to work at. -/
def curS (s : Ses) : Option (Stp × Ses) := match s.nx with
  | some st => some (st, s)
  | none => match s.q with
    | [] => none
    | x :: q => some (firstS (readP x), { s with q := q })
theorem pickM_cur (a : Atl) (n : Nat) : pickM a n = match curS (a.ss n) with | none => (false, a) | some (st, s) => doM a n s st := by
  unfold pickM curS
  cases (a.ss n).nx with
  | some st => rfl
  | none => cases (a.ss n).q <;> rfl
theorem firstS_hold (r : Rd) : holdS (some (firstS r)) = false := by cases r <;> rfl
theorem firstS_rem (r : Rd) : remS (some (firstS r)) ≤ 6 := by cases r <;> simp [firstS, remS]
/-- What holds of the request that a session works at. -/
theorem curS_some {s s' : Ses} {st : Stp} (h : curS s = some (st, s')) : waitS s = s'.q.length + 1 ∧ holdS (some st) = holdS s.nx ∧ 6 * s'.q.length + remS (some st) ≤ 6 * s.q.length + remS s.nx ∧ s'.an = s.an ∧ (s.nx = some st ∨ (s.nx = none ∧ ∃ x, s.q = x :: s'.q ∧ st = firstS (readP x))) ∧ (∀ x ∈ s'.q, x ∈ s.q) := by
  unfold curS at h
  rw [waitS_eq]
  cases e : s.nx with
  | some t =>
    rw [e] at h
    simp at h
    obtain ⟨rfl, rfl⟩ := h
    exact ⟨by simp [busyS], rfl, Nat.le_refl _, rfl, .inl rfl, fun x hx => hx⟩
  | none =>
    rw [e] at h
    cases e' : s.q with
    | nil => rw [e'] at h; cases h
    | cons x q =>
      rw [e'] at h
      simp at h
      obtain ⟨rfl, rfl⟩ := h
      have := firstS_rem (readP x)
      refine ⟨by simp [busyS], firstS_hold _, ?_, rfl, .inr ⟨rfl, x, rfl, rfl⟩, fun y hy => List.mem_cons_of_mem _ hy⟩
      show 6 * q.length + remS (some (firstS (readP x))) ≤ 6 * (x :: q).length + 0
      rw [List.length_cons]
      omega

theorem stepM_blocked {g : Gr} {s : Stp} (h : (stepM g s).1 = .blocked) : g.lk = true ∧ holdS (some s) = false ∧ (stepM g s).2 = g := by
  cases s with
  | bad => cases h
  | look t m =>
    cases e : useK t (g.S.ks (shN t)) with
    | none => rw [stepM_look0 e] at h; cases h
    | some r => rw [stepM_look1 e] at h; cases h
  | note t m age =>
    cases e : g.lk with
    | true => exact ⟨rfl, rfl, by simp [stepM, e]⟩
    | false => simp [stepM, e] at h
  | draw t m age fs => cases h
  | lock id p =>
    cases e : g.lk with
    | true => exact ⟨rfl, rfl, by simp [stepM, e]⟩
    | false => simp [stepM, e] at h
  | forget id p z => cases h
  | finish id p => cases h
/-- The lock and the steps that are left, behind a step that goes on. -/
theorem stepM_next {g : Gr} {s s' : Stp} (hs : StpOk s) (h : (stepM g s).1 = .next s') : remS (some s') + 1 ≤ remS (some s) ∧ ((holdS (some s) = true ∧ holdS (some s') = true ∧ (stepM g s).2.lk = g.lk) ∨ (holdS (some s) = false ∧ holdS (some s') = false ∧ (stepM g s).2.lk = g.lk) ∨ (holdS (some s) = false ∧ g.lk = false ∧ holdS (some s') = true ∧ (stepM g s).2.lk = true)) := by
  cases s with
  | bad => cases h
  | look t m =>
    cases e : useK t (g.S.ks (shN t)) with
    | none => rw [stepM_look0 e] at h ⊢; injection h with h; subst h; exact ⟨by simp [remS], .inr (.inl ⟨rfl, rfl, rfl⟩)⟩
    | some r => rw [stepM_look1 e] at h; cases h
  | note t m age =>
    cases e : g.lk with
    | true => simp [stepM, e] at h
    | false => simp [stepM, e] at h; subst h; exact ⟨by simp [remS], .inr (.inl ⟨rfl, rfl, by simp [stepM, e]⟩)⟩
  | draw t m age fs => cases h
  | lock id p =>
    cases e : g.lk with
    | true => simp [stepM, e] at h
    | false => simp [stepM, e] at h; subst h; exact ⟨by simp [remS], .inr (.inr ⟨rfl, rfl, rfl, by simp [stepM, e]⟩)⟩
  | forget id p z =>
    have hz := hs.2
    unfold stepM at h
    injection h with h
    subst h
    by_cases h3 : z = 3
    · rw [if_pos h3]
      exact ⟨by simp [remS]; omega, .inl ⟨rfl, rfl, rfl⟩⟩
    · rw [if_neg h3]
      exact ⟨by simp [remS]; omega, .inl ⟨rfl, rfl, rfl⟩⟩
  | finish id p => cases h
theorem stepM_answer {g : Gr} {s : Stp} {an : ByteArray} (hs : StpOk s) (h : (stepM g s).1 = .answer an) : 1 ≤ remS (some s) ∧ ((holdS (some s) = true ∧ (stepM g s).2.lk = false) ∨ (holdS (some s) = false ∧ (stepM g s).2.lk = g.lk)) := by
  cases s with
  | bad => exact ⟨by simp [remS], .inr ⟨rfl, rfl⟩⟩
  | look t m =>
    cases e : useK t (g.S.ks (shN t)) with
    | none => rw [stepM_look0 e] at h; cases h
    | some r => rw [stepM_look1 e]; exact ⟨by simp [remS], .inr ⟨rfl, rfl⟩⟩
  | note t m age =>
    cases e : g.lk with
    | true => simp [stepM, e] at h
    | false => simp [stepM, e] at h
  | draw t m age fs =>
    refine ⟨by simp [remS], .inr ⟨rfl, ?_⟩⟩
    show (if _ then _ else _ : Gr).lk = _
    split <;> rfl
  | lock id p =>
    cases e : g.lk with
    | true => simp [stepM, e] at h
    | false => simp [stepM, e] at h
  | forget id p z => cases h
  | finish id p => exact ⟨by simp [remS], .inl ⟨rfl, rfl⟩⟩

def sum4 (f : Nat → Nat) : Nat := f 0 + f 1 + f 2 + f 3
def leftS (s : Ses) : Nat := 6 * s.q.length + remS s.nx
def waitM (a : Atl) : Nat := sum4 fun n => waitS (a.ss n)
/-- What a pick does to the session, and to what is left. -/
structure PickOut (a : Atl) (n : Nat) (r : Bool × Atl) : Prop where
  other : ∀ k, k ≠ n → r.2.ss k = a.ss k
  still : r.1 = false → r.2.g = a.g ∧ waitS (r.2.ss n) = waitS (a.ss n) ∧ holdS (r.2.ss n).nx = holdS (a.ss n).nx ∧ (r.2.ss n).an = (a.ss n).an
  le : leftS (r.2.ss n) ≤ leftS (a.ss n)
  moved : r.1 = true → leftS (r.2.ss n) < leftS (a.ss n) ∧ ((waitS (r.2.ss n) = waitS (a.ss n) ∧ (r.2.ss n).an = (a.ss n).an) ∨ (waitS (r.2.ss n) + 1 = waitS (a.ss n) ∧ ∃ x, (r.2.ss n).an = (a.ss n).an ++ [x]))

theorem pickM_out {a : Atl} (h : AtlOk a) {n : Nat} (hn : n < 4) : PickOut a n (pickM a n) := by
  rw [pickM_cur]
  cases e : curS (a.ss n) with
  | none => exact ⟨fun k _ => rfl, fun _ => ⟨rfl, rfl, rfl, rfl⟩, Nat.le_refl _, fun h => by cases h⟩
  | some r =>
    obtain ⟨st, s⟩ := r
    obtain ⟨c1, c2, c3, c4, c5, c6⟩ := curS_some e
    have hst : StpOk st := by
      rcases c5 with k | ⟨_, x, _, rfl⟩
      · exact (h.ss n hn).nx st k
      · exact firstS_ok (readP_ok x)
    show PickOut a n (doM a n s st)
    unfold doM
    have hb := @stepM_blocked a.g st
    have hx := @stepM_next a.g st
    have ha := @stepM_answer a.g st
    generalize stepM a.g st = q at hb hx ha
    obtain ⟨res, g⟩ := q
    cases res with
    | blocked =>
      refine ⟨fun k hk => (by rw [set_ss, if_neg hk]), fun _ => ?_, ?_, fun h => (by cases h)⟩
      · show _ ∧ waitS ((a.set a.g n { s with nx := some st }).ss n) = _ ∧ _
        rw [set_ss, if_pos rfl]
        exact ⟨rfl, by rw [waitS_eq, c1]; rfl, c2, c4⟩
      · show leftS ((a.set a.g n { s with nx := some st }).ss n) ≤ _
        rw [set_ss, if_pos rfl]
        exact c3
    | next st' =>
      obtain ⟨r1, _⟩ := hx hst rfl
      refine ⟨fun k hk => (by rw [set_ss, if_neg hk]), fun h => (by cases h), ?_, fun _ => ?_⟩
      · show leftS ((a.set g n { s with nx := some st' }).ss n) ≤ _
        rw [set_ss, if_pos rfl]
        show 6 * s.q.length + remS (some st') ≤ 6 * _ + _
        omega
      · show leftS ((a.set g n { s with nx := some st' }).ss n) < _ ∧ _
        rw [set_ss, if_pos rfl]
        refine ⟨?_, .inl ⟨by rw [waitS_eq, c1]; rfl, c4⟩⟩
        show 6 * s.q.length + remS (some st') < 6 * _ + _
        omega
    | answer an =>
      obtain ⟨r1, _⟩ := ha hst rfl
      refine ⟨fun k hk => (by rw [set_ss, if_neg hk]), fun h => (by cases h), ?_, fun _ => ?_⟩
      · show leftS ((a.set g n { s with nx := none, an := s.an ++ [an] }).ss n) ≤ _
        rw [set_ss, if_pos rfl]
        show 6 * s.q.length + 0 ≤ 6 * _ + _
        omega
      · show leftS ((a.set g n { s with nx := none, an := s.an ++ [an] }).ss n) < _ ∧ _
        rw [set_ss, if_pos rfl]
        refine ⟨?_, .inr ⟨by rw [waitS_eq, c1]; rfl, an, by rw [c4]⟩⟩
        show 6 * s.q.length + 0 < 6 * _ + _
        omega

theorem pickM_lock {a : Atl} (h : AtlOk a) (hl : LockOk a) {n : Nat} (hn : n < 4) : LockOk (pickM a n).2 := by
  rw [pickM_cur]
  cases e : curS (a.ss n) with
  | none => exact hl
  | some r =>
    obtain ⟨st, s⟩ := r
    obtain ⟨c1, c2, c3, c4, c5, c6⟩ := curS_some e
    have hst : StpOk st := by
      rcases c5 with k | ⟨_, x, _, rfl⟩
      · exact (h.ss n hn).nx st k
      · exact firstS_ok (readP_ok x)
    show LockOk (doM a n s st).2
    unfold doM
    have hb := @stepM_blocked a.g st
    have hx := @stepM_next a.g st
    have ha := @stepM_answer a.g st
    generalize stepM a.g st = q at hb hx ha
    obtain ⟨res, g⟩ := q
    -- a general rule: the lock is g.lk, the session's next step is nx
    have gen : ∀ (g' : Gr) (s' : Ses), ((holdS s'.nx = holdS (a.ss n).nx ∧ g'.lk = a.g.lk) ∨ (holdS (a.ss n).nx = false ∧ a.g.lk = false ∧ holdS s'.nx = true ∧ g'.lk = true) ∨ (holdS (a.ss n).nx = true ∧ holdS s'.nx = false ∧ g'.lk = false)) → LockOk (a.set g' n s') := by
      intro g' s' hc
      have hss : ∀ k, holdS ((a.set g' n s').ss k).nx = if k = n then holdS s'.nx else holdS (a.ss k).nx := fun k => by
        rw [set_ss]
        split <;> rfl
      rcases hc with ⟨k1, k2⟩ | ⟨k1, k2, k3, k4⟩ | ⟨k1, k2, k3⟩
      · have hss' : ∀ k, holdS ((a.set g' n s').ss k).nx = holdS (a.ss k).nx := fun k => by
          rw [hss]
          split
          · rename_i e; rw [e]; exact k1
          · rfl
        refine ⟨fun e k hk => ?_, fun e => ?_, fun i j hi hj hI hJ => ?_⟩
        · rw [hss']; exact hl.free (by rw [← k2]; exact e) k hk
        · obtain ⟨m, hm, e'⟩ := hl.held (by rw [← k2]; exact e)
          exact ⟨m, hm, by rw [hss']; exact e'⟩
        · rw [hss'] at hI hJ; exact hl.one i j hi hj hI hJ
      · refine ⟨fun e => ?_, fun _ => ⟨n, hn, by rw [hss, if_pos rfl]; exact k3⟩, fun i j hi hj hI hJ => ?_⟩
        · rw [set_g, k4] at e; cases e
        · have hf := hl.free k2
          rw [hss] at hI hJ
          by_cases hin : i = n
          · by_cases hjn : j = n
            · rw [hin, hjn]
            · rw [if_neg hjn, hf j hj] at hJ; cases hJ
          · rw [if_neg hin, hf i hi] at hI; cases hI
      · have hf : ∀ k, k < 4 → holdS ((a.set g' n s').ss k).nx = false := fun k hk => by
          rw [hss]
          by_cases hkn : k = n
          · rw [if_pos hkn]; exact k2
          · rw [if_neg hkn]
            cases e' : holdS (a.ss k).nx with
            | false => rfl
            | true => exact absurd (hl.one k n hk hn e' k1) hkn
        refine ⟨fun _ => hf, fun e => ?_, fun i j hi hj hI hJ => ?_⟩
        · rw [set_g, k3] at e; cases e
        · rw [hf i hi] at hI; cases hI
    have hh : holdS (a.ss n).nx = holdS (some st) := c2.symm
    cases res with
    | blocked =>
      obtain ⟨b1, b2, b3⟩ := hb rfl
      exact gen _ _ (.inl ⟨c2, rfl⟩)
    | next st' =>
      obtain ⟨_, k⟩ := hx hst rfl
      rcases k with ⟨k1, k2, k3⟩ | ⟨k1, k2, k3⟩ | ⟨k1, k2, k3, k4⟩
      · exact gen _ _ (.inl ⟨by show holdS (some st') = _; rw [hh, k1, k2], k3⟩)
      · exact gen _ _ (.inl ⟨by show holdS (some st') = _; rw [hh, k1, k2], k3⟩)
      · exact gen _ _ (.inr (.inl ⟨by rw [hh]; exact k1, k2, k3, k4⟩))
    | answer an =>
      obtain ⟨_, k⟩ := ha hst rfl
      rcases k with ⟨k1, k2⟩ | ⟨k1, k2⟩
      · exact gen _ _ (.inr (.inr ⟨by rw [hh]; exact k1, rfl, k2⟩))
      · exact gen _ _ (.inl ⟨by show holdS none = _; rw [hh, k1]; rfl, k2⟩)

theorem pickM_ok {a : Atl} (h : AtlOk a) {n : Nat} (hn : n < 4) (han : (a.ss n).an.length + 1 ≤ 4000000) : AtlOk (pickM a n).2 := by
  rw [pickM_cur]
  cases e : curS (a.ss n) with
  | none => exact h
  | some r =>
    obtain ⟨st, s⟩ := r
    obtain ⟨c1, c2, c3, c4, c5, c6⟩ := curS_some e
    have hst : StpOk st := by
      rcases c5 with k | ⟨_, x, _, rfl⟩
      · exact (h.ss n hn).nx st k
      · exact firstS_ok (readP_ok x)
    have hw := (h.ss n hn).w
    have hq : ∀ x ∈ s.q, x.size ≤ 200 := fun x hx => (h.ss n hn).q x (c6 x hx)
    show AtlOk (doM a n s st).2
    unfold doM
    have hk := stepM_ok h.g hst
    generalize stepM a.g st = q at hk
    obtain ⟨res, g⟩ := q
    have gen : ∀ (g' : Gr) (s' : Ses), GrOk g' → SesOk s' → AtlOk (a.set g' n s') := fun g' s' hg hs => ⟨hg, fun k hk => by
      rw [set_ss]
      split
      · exact hs
      · exact h.ss k hk⟩
    cases res with
    | blocked => exact gen _ _ h.g ⟨hq, by rw [waitS_eq]; show s.q.length + 1 ≤ 6; omega, fun st' e' => by injection e' with e'; subst e'; exact hst, by rw [c4]; omega⟩
    | next st' => exact gen _ _ hk.1 ⟨hq, by rw [waitS_eq]; show s.q.length + 1 ≤ 6; omega, fun st'' e' => by injection e' with e'; subst e'; exact hk.2 _ rfl, by rw [c4]; omega⟩
    | answer an => exact gen _ _ hk.1 ⟨hq, by rw [waitS_eq]; show s.q.length + 0 ≤ 6; omega, fun st'' e' => (by cases e'), by rw [List.length_append, c4]; exact han⟩

theorem pickM_idle {a : Atl} {n : Nat} (hw : waitS (a.ss n) = 0) : pickM a n = (false, a) := by
  rw [pickM_cur]
  cases e : curS (a.ss n) with
  | none => rfl
  | some r =>
    obtain ⟨st, s⟩ := r
    have := (curS_some e).1
    omega

end Go.Proofs.YtenaepdmlknlcaaGreatDoor
