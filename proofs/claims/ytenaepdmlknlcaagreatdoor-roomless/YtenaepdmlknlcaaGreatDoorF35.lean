import Derived.Test.YtenaepdmlknlcaaGreatDoorF34
import Derived.Test.YtenaepdmlknlcaaGreatDoorF22
import Derived.Test.YtenaepdmlknlcaaGreatDoorF31
namespace Go.Proofs.YtenaepdmlknlcaaGreatDoor
open Go.RowKit Go.Shelf

/-- text, whatever the request's raw numbers. -/
theorem text_any (q : Rq) (hq : RqOk q) (pa : Option Addr) (pn pc : Nat) (w : World) (hr : RawAt w pa pn q.ps) :
    Calls Tryz.prog 45 #[rqV q (.slice pa pn pc)] w fun e w' => e = .returned (.string (textT q)) ∧ Below w.heap.size w w' := by
  unfold textT
  by_cases h0 : kindZ q = 0
  · rw [if_pos h0]; exact text_put q hq h0 pa pn pc w hr
  · rw [if_neg h0]
    by_cases h1 : kindZ q = 1
    · rw [if_pos h1]; exact text_del q hq h1 pa pn pc w
    · rw [if_neg h1]
      refine text_get q hq ?_ pa pn pc w
      unfold kindZ at *
      split at h0
      · exact absurd rfl h0
      · rename_i h3
        rw [if_neg h3] at h1 ⊢
        split at h1
        · exact absurd rfl h1
        · rename_i h4
          rw [if_neg h4]

end Go.Proofs.YtenaepdmlknlcaaGreatDoor

namespace Go.Proofs.YtenaepdmlknlcaaGreatDoor
open Go.RowKit Go.Shelf

theorem step_room (g : Gr) (s : Stp) : (stepM g s).2.S.room = g.S.room := by
  cases s with
  | bad => rfl
  | look t m => simp only [stepM]; split <;> rfl
  | note t m age => simp only [stepM]; split <;> rfl
  | draw t m age fs => simp only [stepM]; split <;> rfl
  | lock id p => simp only [stepM]; split <;> rfl
  | forget id p z => rfl
  | finish id p => rfl
theorem do_room (a : Atl) (n : Nat) (s : Ses) (st : Stp) : (doM a n s st).2.g.S.room = a.g.S.room := by
  have h := step_room a.g st
  unfold doM
  split
  · rfl
  · rename_i e; rw [e] at h; exact h
  · rename_i e; rw [e] at h; exact h
theorem pick_room (a : Atl) (n : Nat) : (pickM a n).2.g.S.room = a.g.S.room := by
  unfold pickM
  split
  · exact do_room _ _ _ _
  · split
    · rfl
    · exact do_room _ _ _ _

/-- A request that was sent, and what became of it. -/
structure Dn where
  q : Rq
  pa : Option Addr
  pn : Nat
  pc : Nat
  fr : Int
  un : Int
  an : ByteArray
/-- A play: an atlas and what was asked of it. -/
structure Pl where
  a : Atl
  all : Nat → List Dn
  time : Int
  moved : Bool
def openN (l : List Dn) : Nat := l.countP fun d => d.un == 0
def updD (did : Bool) (t : Int) (an : Option ByteArray) : List Dn → List Dn
  | [] => []
  | d :: r => if 0 < d.un then d :: updD did t an r else { d with fr := (if did = true ∧ d.fr = 0 then t else d.fr), un := (match an with | some _ => t | none => d.un), an := (match an with | some x => x | none => d.an) } :: r
def sendP (P : Pl) (n : Nat) (d : Dn) : Pl :=
  if openN (P.all n) = 6 then P else { P with a := sendM P.a n (textT d.q), all := fun k => if k = n then P.all n ++ [d] else P.all k }
def pickP (P : Pl) (n : Nat) : Pl :=
  { a := turnM P.a n, all := fun k => if k = n then updD (pickM P.a n).1 (P.time + 1) ((pickM P.a n).2.ss n).an.head? (P.all n) else P.all k, time := P.time + 1, moved := (pickM P.a n).1 }
structure PlOk (P : Pl) : Prop where
  a : FairOk P.a
  cnt : ∀ n, n < 4 → openN (P.all n) = waitS (P.a.ss n)
  un : ∀ n, n < 4 → ∀ d ∈ P.all n, 0 ≤ d.un
  t : 0 ≤ P.time
theorem send_q (a : Atl) (n k : Nat) (x : ByteArray) : ((sendM a n x).ss k).q = if k = n then (a.ss n).q ++ [x] else (a.ss k).q := by unfold sendM; rw [set_ss]; split <;> rfl
theorem send_nx (a : Atl) (n k : Nat) (x : ByteArray) : ((sendM a n x).ss k).nx = (a.ss k).nx := by
  unfold sendM; rw [set_ss]; split
  · rename_i e; rw [e]
  · rfl
theorem send_an (a : Atl) (n k : Nat) (x : ByteArray) : ((sendM a n x).ss k).an = (a.ss k).an := by
  unfold sendM; rw [set_ss]; split
  · rename_i e; rw [e]
  · rfl
theorem send_wait (a : Atl) (n k : Nat) (x : ByteArray) : waitS ((sendM a n x).ss k) = waitS (a.ss k) + if k = n then 1 else 0 := by
  rw [waitS_eq, waitS_eq, send_q, send_nx]
  split
  · rename_i e; rw [e, List.length_append]; simp; omega
  · rfl
theorem send_fair {a : Atl} (h : FairOk a) {n : Nat} {x : ByteArray} (hx : x.size ≤ 200) (hw : waitS (a.ss n) < 6) : FairOk (sendM a n x) := by
  refine ⟨⟨h.ok.g, fun k hk => ⟨?_, ?_, ?_, ?_⟩⟩, ⟨?_, ?_, ?_⟩, fun k hk => ?_⟩
  · intro y hy
    rw [send_q] at hy
    split at hy
    · rename_i e
      rcases List.mem_append.1 hy with hy | hy
      · exact (h.ok.ss k hk).q y (by rw [e]; exact hy)
      · rw [List.mem_singleton.1 hy]; exact hx
    · exact (h.ok.ss k hk).q y hy
  · rw [send_wait]
    split
    · rename_i e; rw [e]; omega
    · exact (h.ok.ss k hk).w
  · rw [send_nx]; exact (h.ok.ss k hk).nx
  · rw [send_an]; exact (h.ok.ss k hk).an
  · intro e k hk; rw [send_nx]; exact h.lock.free e k hk
  · intro e; exact (h.lock.held e).imp fun k hk => by rw [send_nx]; exact hk
  · intro k m hk hm; rw [send_nx, send_nx]; exact h.lock.one k m hk hm
  · rw [send_an]; exact h.an k hk
theorem sendP_ok {P : Pl} (h : PlOk P) {n : Nat} (hn : n < 4) {d : Dn} (hd : d.un = 0) : PlOk (sendP P n d) := by
  unfold sendP
  split
  · exact h
  · rename_i h6
    have hw : waitS (P.a.ss n) < 6 := by
      have h1 := (h.a.ok.ss n hn).w
      have h2 := h.cnt n hn
      omega
    refine ⟨send_fair h.a (textT_size d.q) hw, fun k hk => ?_, fun k hk e he => ?_, h.t⟩
    · dsimp only
      rw [send_wait]
      split
      · rename_i e; rw [e, ← h.cnt n hn]; unfold openN; rw [List.countP_append]; simp [hd]
      · exact h.cnt k hk
    · dsimp only at he
      split at he
      · rcases List.mem_append.1 he with he | he
        · exact h.un n hn e he
        · rw [List.mem_singleton.1 he, hd]; exact Int.le_refl 0
      · exact h.un k hk e he
theorem updD_un {did : Bool} {t : Int} {an : Option ByteArray} (ht : 0 < t) : ∀ {l : List Dn}, (∀ d ∈ l, 0 ≤ d.un) → ∀ d ∈ updD did t an l, 0 ≤ d.un
  | [], _, d, hd => by cases hd
  | x :: r, h, d, hd => by
    unfold updD at hd
    split at hd
    · rcases List.mem_cons.1 hd with rfl | hd
      · exact h _ (by simp)
      · exact updD_un ht (fun y hy => h y (by simp [hy])) d hd
    · rcases List.mem_cons.1 hd with rfl | hd
      · cases an with
        | none => exact h x (by simp)
        | some v => exact Int.le_of_lt ht
      · exact h d (by simp [hd])
theorem updD_none {did : Bool} {t : Int} : ∀ (l : List Dn), openN (updD did t none l) = openN l
  | [] => rfl
  | x :: r => by
    unfold updD
    split
    · unfold openN; rw [List.countP_cons, List.countP_cons]; have := updD_none (did := did) (t := t) r; unfold openN at this; rw [this]
    · unfold openN; rw [List.countP_cons, List.countP_cons]
theorem updD_some {did : Bool} {t : Int} (ht : 0 < t) (v : ByteArray) : ∀ (l : List Dn), (∀ d ∈ l, 0 ≤ d.un) → 0 < openN l → openN (updD did t (some v) l) + 1 = openN l
  | [], _, h => by cases h
  | x :: r, hx, h => by
    have h0 := hx x (by simp)
    unfold updD
    split
    · rename_i hp
      have hne : (x.un == 0) = false := by simp; omega
      have h' : 0 < openN r := by unfold openN at h ⊢; rw [List.countP_cons, hne] at h; simpa using h
      have := updD_some (did := did) ht v r (fun y hy => hx y (by simp [hy])) h'
      unfold openN at this ⊢
      rw [List.countP_cons, List.countP_cons, hne]
      simpa using this
    · rename_i hp
      have he : (x.un == 0) = true := by simp; omega
      have hte : (t == 0) = false := by simp; omega
      unfold openN
      rw [List.countP_cons, List.countP_cons, he]
      dsimp only
      rw [hte]
      simp
theorem pickP_ok {P : Pl} (h : PlOk P) {n : Nat} (hn : n < 4) : PlOk (pickP P n) := by
  have o := pickM_out h.a.ok hn
  have ht : 0 < P.time + 1 := by have := h.t; omega
  have hw : ∀ k, waitS ((turnM P.a n).ss k) = waitS ((pickM P.a n).2.ss k) := fun k => tell_wait _ _ _
  refine ⟨turn_ok h.a hn, fun k hk => ?_, fun k hk d hd => ?_, by show 0 ≤ P.time + 1; omega⟩
  · show openN (if k = n then _ else _) = waitS ((turnM P.a n).ss k)
    rw [hw]
    split
    · rename_i e
      rw [e]
      have hc := h.cnt n hn
      have ha := h.a.an n hn
      cases hd : (pickM P.a n).1 with
      | false =>
        obtain ⟨_, s2, _, s4⟩ := o.still hd
        rw [s4, ha, List.head?_nil, updD_none, s2, hc]
      | true =>
        rcases (o.moved hd).2 with ⟨m1, m2⟩ | ⟨m1, x, m2⟩
        · rw [m2, ha, List.head?_nil, updD_none, m1, hc]
        · rw [m2, ha, List.nil_append, List.head?_cons]
          have := updD_some (did := true) ht x (P.all n) (h.un n hn) (by omega)
          omega
    · rename_i e
      rw [o.other k e]; exact h.cnt k hk
  · have hd' : d ∈ (if k = n then updD (pickM P.a n).1 (P.time + 1) ((pickM P.a n).2.ss n).an.head? (P.all n) else P.all k) := hd
    split at hd'
    · exact updD_un ht (h.un n hn) d hd'
    · exact h.un k hk d hd'

end Go.Proofs.YtenaepdmlknlcaaGreatDoor

namespace Go.Proofs.YtenaepdmlknlcaaGreatDoor
open Go.RowKit Go.Shelf

def exB : ByteArray := ⟨#[112, 117, 116, 32, 49, 32, 112, 111, 105, 110, 116, 32, 48, 32, 51, 32, 52, 48, 44, 48]⟩
def exA : Nat → Atl
  | 0 => sendM (newM 2) 3 exB
  | n + 1 => (pickM (exA n) 3).2
theorem ex_did0 : (pickM (exA 0) 3).1 = true := by kernel_rfl
theorem ex_did1 : (pickM (exA 1) 3).1 = true := by kernel_rfl
theorem ex_did2 : (pickM (exA 2) 3).1 = true := by kernel_rfl
theorem ex_did3 : (pickM (exA 3) 3).1 = true := by kernel_rfl
theorem ex_did4 : (pickM (exA 4) 3).1 = true := by kernel_rfl
theorem ex_did5 : (pickM (exA 5) 3).1 = true := by kernel_rfl
theorem ex_an0 : ((exA 0).ss 3).an.length = 0 := by kernel_rfl
theorem ex_an1 : ((exA 1).ss 3).an.length = 0 := by kernel_rfl
theorem ex_an2 : ((exA 2).ss 3).an.length = 0 := by kernel_rfl
theorem ex_an3 : ((exA 3).ss 3).an.length = 0 := by kernel_rfl
theorem ex_an4 : ((exA 4).ss 3).an.length = 0 := by kernel_rfl
theorem ex_an5 : ((exA 5).ss 3).an.length = 0 := by kernel_rfl
theorem ex_did (k : Nat) (h : k < 6) : (pickM (exA k) 3).1 = true := by
  match k, h with
  | 0, _ => exact ex_did0
  | 1, _ => exact ex_did1
  | 2, _ => exact ex_did2
  | 3, _ => exact ex_did3
  | 4, _ => exact ex_did4
  | 5, _ => exact ex_did5
theorem ex_an (k : Nat) (h : k < 6) : ((exA k).ss 3).an.length = 0 := by
  match k, h with
  | 0, _ => exact ex_an0
  | 1, _ => exact ex_an1
  | 2, _ => exact ex_an2
  | 3, _ => exact ex_an3
  | 4, _ => exact ex_an4
  | 5, _ => exact ex_an5
theorem ex_end : ((exA 6).ss 3).an = [⟨#[50, 48, 49]⟩] := by kernel_rfl
theorem ex_fs : (tellM (exA 6) 3).g.fs.length = 1 := by kernel_rfl
theorem ex_lk : (tellM (exA 6) 3).g.lk = false := by kernel_rfl
theorem ex_wait : waitM (tellM (exA 6) 3) = 0 := by kernel_rfl

/-- What a call on an atlas that is wholly newer than b leaves. -/
def NewA (b : Nat) (w w' : World) (A : Nat) (a : Atl) : Prop := ∃ Z, AtlasIn w' A Z a ∧ (∀ x, Z x → b ≤ x) ∧ Below b w w'
theorem NewA.next {b : Nat} {w w1 w2 : World} {A : Nat} {Z : Nat → Prop} {a : Atl} (hz : ∀ x, Z x → b ≤ x) (hb : Below b w w1) (hs : b ≤ w1.heap.size) (h : AtlasNext A Z a w1 w2) : NewA b w w2 A a := by
  obtain ⟨Z', h1, h2, h3⟩ := h
  refine ⟨Z', h1, fun x hx => (h2 x hx).elim (hz x) (fun h => Nat.le_trans hs h), hb.trans (h3.below hs fun x i hx e => by have := hz x e; omega)⟩

/-- What begin leaves: a play of a new atlas. -/
def PlayNew (r : Int) (w : World) (e : Ending) (w' : World) : Prop := ∃ (p A : Nat), e = .returned (.tuple #[.pointer (some ⟨p, 0, none⟩), .bool true]) ∧ (∃ Z, AtlasIn w' A Z (newM (pkZ r 9)) ∧ (∀ x, Z x → w.heap.size ≤ x ∧ x < p) ∧ Below w.heap.size w w') ∧ w.heap.size ≤ p ∧ p < w'.heap.size ∧ w'.cell? ⟨p, 0, none⟩ = some (.pointer (some ⟨A, 0, none⟩)) ∧ w'.cell? ⟨p, 1, none⟩ = some (.slice none 0 0) ∧ w'.cell? ⟨p, 2, none⟩ = some (.slice none 0 0) ∧ w'.cell? ⟨p, 3, none⟩ = some (.slice none 0 0) ∧ w'.cell? ⟨p, 4, none⟩ = some (.slice none 0 0) ∧ w'.cell? ⟨p, 5, none⟩ = some (.int .i64 0) ∧ w'.cell? ⟨p, 6, none⟩ = some (.bool false) ∧ ∀ i, i < 7 → w'.frozen? ⟨p, i, none⟩ = false
set_option maxRecDepth 100000 in
set_option maxHeartbeats 2000000 in
theorem begin_play (r : Int) (hr : i64 r) (w : World) (g : Gl w) :
    Calls Tryz.prog 16 #[.int .i64 r] w (PlayNew r w) := by
  have HG : Hid (Gl w) := g
  have HN : Hid (∀ W : World, Gl W → Calls Tryz.prog 41 #[.int .i64 2] W fun e w' => ∃ (A : Nat) (Z : Nat → Prop), e = .returned (.tuple #[.pointer (some ⟨A, 0, none⟩), .int .i64 0]) ∧ AtlasIn w' A Z (newM 2) ∧ (∀ b, Z b → W.heap.size ≤ b) ∧ Below W.heap.size W w') := fun W gW => New_in 2 W gW (by decide) (by decide)
  have hp9 := pkZ_bd r 9 (by decide)
  have HC : Hid (∀ W : World, Calls Tryz.prog 28 #[.int .i64 r, .int .i64 9] W fun e w' => e = .returned (.int .i64 (pkZ r 9)) ∧ w' = W) := fun W => kpick_any r 9 hr (by decide) (by decide) W
  obtain ⟨rm, hrm⟩ : ∃ x, pkZ r 9 = x := ⟨_, rfl⟩
  rw [hrm] at HC hp9
  go_enter Tryz.func16, Tryz.ntmps16
  go_wp2_with (first
    | (go_at_call_of 41 (Value.int IntKind.i64 2); refine Calls.mono (HN.out _ HG.out) ?_; rintro e w1 ⟨A, Z, rfl, hA, hZ, hb1⟩; dsimp only; have HA : Hid (AtlasIn w1 A Z (newM 2)) := hA; have hs1 := hb1.size)
    | (go_at_call 42; refine Calls.mono (Send_in HA.out (n := 3) (by decide) exB (by decide) (by decide)) ?_; rintro e w2 ⟨rfl, hn2⟩; dsimp only; have HN2 : Hid (NewA w.heap.size w w2 A (exA 0)) := NewA.next hZ hb1 hs1 hn2))
  clear hA hn2
  go_loopw [7, 8] (fun ok i wr => ∃ k : Nat, k ≤ 6 ∧ ok = .bool true ∧ i = .int .i64 k ∧ NewA w.heap.size w wr A (exA k)) (fun _ i _ => 6 - (intOf i).toNat)
  case atStart => exact ⟨0, Nat.zero_le _, rfl, rfl, HN2.out⟩
  case round =>
    obtain ⟨k, hk, rfl, rfl, Zk, hin, hZk, hbk⟩ := hrel
    have HI : Hid (AtlasIn wr A Zk (exA k)) := hin
    have hsk := hbk.size
    clear hin
    by_cases hlt : k < 6
    · have hkI : (k : Int) < 6 := by omega
      have HP : Hid (Calls Tryz.prog 43 #[.pointer (some ⟨A, 0, none⟩), .int .i64 3] wr fun e w' => e = .returned (.tuple #[.bool true, .int .i64 0]) ∧ AtlasNext A Zk (exA (k + 1)) wr w') := by
        have := Pick_in HI.out (n := 3) (by decide) (by rw [ex_an k hlt]; omega)
        rw [ex_did k hlt] at this
        exact this
      go_wp2_with (first
        | (go_at_call 43; refine Calls.mono HP.out ?_; rintro e w3 ⟨rfl, hn3⟩; dsimp only; have HN3 : Hid (NewA w.heap.size w w3 A (exA (k + 1))) := NewA.next hZk hbk hsk hn3; clear hn3))
      exact ⟨⟨k + 1, by omega, rfl, by go_num, HN3.out⟩, by simp [intOf]; omega⟩
    · obtain rfl : k = 6 := by omega
      have HAns := Answers_in HI.out (n := 3) (by decide)
      rw [ex_end] at HAns
      have HAns' : Hid _ := HAns
      clear HAns
      go_wp2_with (first
        | (go_at_call 44; refine Calls.mono HAns'.out ?_; rintro e w4 ⟨va, m, cap, rfl, hm, hown, hn4⟩; dsimp only; obtain rfl : m = 1 := hm; obtain ⟨ga, ca, hga⟩ := ownsRow_succ hown; obtain ⟨rfl, rfl⟩ : va = some ⟨ga, 0, none⟩ ∧ cap = ca := (by cases hga; exact ⟨rfl, rfl⟩); have hc4 := hown.cellAt 0 (by omega); obtain ⟨Z4, h4, hZ4, hb4⟩ := NewA.next hZk hbk hsk hn4; have hs4 := hb4.size; have HL : Hid (Calls Tryz.prog 26 #[.pointer (some ⟨A, 0, none⟩)] w4 fun e w' => e = .returned (.agg #[.int .i64 1, .bool false, .int .i64 0]) ∧ Below w4.heap.size w4 w') := (by have := Look_in h4 (by rw [ex_fs]; omega); rw [ex_fs, ex_lk, ex_wait] at this; exact this); have HG4 : Hid (Gl w4) := h4.gl; have hgl := (hown.lt ga rfl).2; clear h4 hn4 hown)
        | (go_at_call 26; refine Calls.mono HL.out ?_; rintro e w5 ⟨rfl, hb5⟩; dsimp only; have hc5 : w5.cell? ⟨ga, 0, none⟩ = some (.string ⟨#[50, 48, 49]⟩) := (hb5.cell (p := ⟨ga, 0, none⟩) hgl).trans hc4; have hs5 := hb5.size; have hgl5 : ga < w5.heap.size := Nat.lt_of_lt_of_le hgl hs5; have hgn5 : ga ≠ w5.heap.size := Nat.ne_of_lt hgl5; have HW5 : Hid (Gl w5) := HG4.out.fr (M := fun _ _ => False) (Fr.of_below hb5) (fun _ _ _ e => e); have HB5 : Hid (Below w.heap.size w w5) := hb4.trans (hb5.mono hs4); have hs05 : w.heap.size ≤ w5.heap.size := Nat.le_trans hs4 hs5)
        | (go_at_call 28; refine Calls.mono (HC.out _) ?_; rintro e w6 ⟨rfl, rfl⟩; dsimp only)
        | (go_at_call_of 41 (Value.int IntKind.i64 rm); refine Calls.mono (New_in rm _ (HW5.out.fr (M := fun _ _ => False) (Fr.of_below ((Below.refl _ _).alloc (Nat.le_refl _) _)) (fun _ _ _ e => e)) hp9.1 (by omega)) ?_; rintro e w7 ⟨B, Z7, rfl, hB, hZ7, hb7⟩; dsimp only; have HB7 : Hid (AtlasIn w7 B Z7 (newM rm)) := hB; have hs7 : w5.heap.size ≤ w7.heap.size := (by have := hb7.size; simp at this; omega); have HB7' : Hid (Below w.heap.size w w7) := ((HB5.out.alloc hs05 _).trans (hb7.mono (by simp; omega))); have HZ7 : Hid (∀ b, Z7 b → w.heap.size ≤ b) := (fun b hb => by have := hZ7 b hb; simp at this; omega); clear hB))
      refine bodyPost_ret (v := .tuple #[.pointer (some ⟨w7.heap.size, 0, none⟩), .bool true]) (by simp [results, Tryz.results16, go_sem]) rfl ⟨w7.heap.size, B, rfl, ⟨Z7, by rw [hrm]; exact HB7.out.fr (M := fun _ _ => False) (Fr.of_below ((Below.refl _ _).alloc (Nat.le_refl _) _)) (fun _ _ e => e.elim), fun x hx => ⟨HZ7.out x hx, (HB7.out.lt hx).2⟩, HB7'.out.alloc HB7'.out.size _⟩, HB7'.out.size, by simp, by simp [go_sem], by simp [go_sem], by simp [go_sem], by simp [go_sem], by simp [go_sem], by simp [go_sem], by simp [go_sem], fun i _ => by simp [go_sem]⟩

end Go.Proofs.YtenaepdmlknlcaaGreatDoor

namespace Go.Proofs.YtenaepdmlknlcaaGreatDoor
open Go.RowKit Go.Shelf

def dnV (d : Dn) : List Value := [.int .i64 d.q.k, .int .i64 d.q.a, .int .i64 d.q.b, .int .i64 d.q.c, .int .i64 d.q.d, .slice d.pa d.pn d.pc, .int .i64 d.fr, .int .i64 d.un, .string d.an]
def flatD (l : List Dn) : List Value := l.flatMap dnV
/-- The block of a slice. -/
def inRow (v : Value) (b : Nat) : Prop := v.ownBlock = some b
/-- A request's raw places lie below b0. -/
def RawU (w : World) (b0 : Nat) (pa : Option Addr) (pn : Nat) (ps : List Int) : Prop := pn = ps.length ∧ (ps = [] ∨ ∃ b off, pa = some ⟨b, off, none⟩ ∧ b < b0 ∧ ∀ (i : Nat) x, ps[i]? = some x → w.cell? ⟨b, off + i, none⟩ = some (.int .i64 x))
theorem RawU.at {w : World} {b0 : Nat} {pa : Option Addr} {pn : Nat} {ps : List Int} (h : RawU w b0 pa pn ps) (hb : b0 ≤ w.heap.size) : RawAt w pa pn ps := ⟨h.1, h.2.imp id fun ⟨b, off, e, hl, hc⟩ => ⟨b, off, e, Nat.lt_of_lt_of_le hl hb, hc⟩⟩
theorem RawU.below {w w' : World} {b0 : Nat} {pa : Option Addr} {pn : Nat} {ps : List Int} (h : RawU w b0 pa pn ps) (hb : Below b0 w w') : RawU w' b0 pa pn ps := ⟨h.1, h.2.imp id fun ⟨b, off, e, hl, hc⟩ => ⟨b, off, e, hl, fun i x e' => (hb.cell (p := ⟨b, off + i, none⟩) hl).trans (hc i x e')⟩⟩
/-- A play in a world: its block p, its atlas at A in the blocks Z, its rows v; all at b0 or above. -/
structure PlayAt (w : World) (b0 p A : Nat) (Z : Nat → Prop) (v : Nat → Value) (P : Pl) : Prop where
  atl : AtlasIn w A Z P.a
  b8 : 8 ≤ b0
  z0 : ∀ b, Z b → b0 ≤ b
  p0 : b0 ≤ p
  pz : ¬ Z p
  pl : p < w.heap.size
  c0 : w.cell? ⟨p, 0, none⟩ = some (.pointer (some ⟨A, 0, none⟩))
  cr : ∀ n, n < 4 → w.cell? ⟨p, 1 + n, none⟩ = some (v n)
  c5 : w.cell? ⟨p, 5, none⟩ = some (.int .i64 P.time)
  c6 : w.cell? ⟨p, 6, none⟩ = some (.bool P.moved)
  fz : ∀ i, i < 7 → w.frozen? ⟨p, i, none⟩ = false
  row : ∀ n, n < 4 → w.ownsRow b0 57 9 (v n) (P.all n).length (flatD (P.all n))
  rp : ∀ n, n < 4 → ¬ inRow (v n) p
  rz : ∀ n, n < 4 → ∀ b, inRow (v n) b → ¬ Z b
  rr : ∀ n m, n < 4 → m < 4 → n ≠ m → ∀ b, inRow (v n) b → ¬ inRow (v m) b
  raw : ∀ n, n < 4 → ∀ d ∈ P.all n, RqOk d.q ∧ RawU w b0 d.pa d.pn d.q.ps
theorem PlayAt.next {w w' : World} {b0 p A : Nat} {Z : Nat → Prop} {v : Nat → Value} {P : Pl} (h : PlayAt w b0 p A Z v P) {a' : Atl} (hn : AtlasNext A Z a' w w') : ∃ Z', PlayAt w' b0 p A Z' v { P with a := a' } ∧ Below b0 w w' := by
  obtain ⟨Z', h1, h2, h3⟩ := hn
  have hs : b0 ≤ w.heap.size := by have := h.p0; have := h.pl; omega
  have hB : Below b0 w w' := h3.below hs fun b i hb e => by have := h.z0 b e; omega
  have hc : ∀ i, w'.cell? ⟨p, i, none⟩ = w.cell? ⟨p, i, none⟩ := fun i => h3.cell p i h.pl h.pz
  have hf : ∀ i, w'.frozen? ⟨p, i, none⟩ = w.frozen? ⟨p, i, none⟩ := fun i => h3.frozen p i h.pl h.pz
  refine ⟨Z', ⟨h1, h.b8, fun b hb => (h2 b hb).elim (h.z0 b) (fun e => Nat.le_trans hs e), h.p0, fun hb => (h2 p hb).elim h.pz (fun e => by have := h.pl; omega), Nat.lt_of_lt_of_le h.pl h3.size, (hc 0).trans h.c0, fun n hn => (hc _).trans (h.cr n hn), (hc 5).trans h.c5, (hc 6).trans h.c6, fun i hi => (hf i).trans (h.fz i hi), fun n hn => ?_, h.rp, fun n hn b hb hz => ?_, h.rr, fun n hn d hd => ⟨(h.raw n hn d hd).1, (h.raw n hn d hd).2.below hB⟩⟩, hB⟩
  · exact ownsRow_fr' h3 (h.row n hn) (fun b i e e' => h.rz n hn b e e')
  · rcases h2 b hz with e | e
    · exact h.rz n hn b hb e
    · have := ((h.row n hn).lt b hb).2; omega

end Go.Proofs.YtenaepdmlknlcaaGreatDoor

namespace Go.Proofs.YtenaepdmlknlcaaGreatDoor
open Go.RowKit Go.Shelf

def newP (r : Int) : Pl := ⟨newM (pkZ r 9), fun _ => [], 0, false⟩
theorem newM_fair (r : Int) (h0 : 0 ≤ r) (h8 : r ≤ 8) : FairOk (newM r) := by
  refine ⟨⟨⟨⟨fun f hf => (by cases hf), List.nodup_nil⟩, h0, h8, fun k _ => by simpa [newM] using h0, fun k x _ hx => (by cases hx)⟩, fun n _ => ⟨fun x hx => (by cases hx), by simp [newM, waitS], fun st e => (by cases e), by simp [newM]⟩⟩, ⟨fun _ n _ => rfl, fun e => (by cases e), fun n m _ _ e => (by cases e)⟩, fun _ _ => rfl⟩
theorem newP_ok (r : Int) : PlOk (newP r) := by
  have := pkZ_bd r 9 (by decide)
  exact ⟨newM_fair _ this.1 (by omega), fun n _ => by simp [newP, openN, newM, waitS], fun n _ d hd => (by cases hd), Int.le_refl 0⟩
/-- begin: a play of a new atlas. -/
theorem begin_at (r : Int) (hr : i64 r) (w : World) (g : Gl w) :
    Calls Tryz.prog 16 #[.int .i64 r] w fun e w' => ∃ (p A : Nat) (Z : Nat → Prop) (v : Nat → Value), e = .returned (.tuple #[.pointer (some ⟨p, 0, none⟩), .bool true]) ∧ PlayAt w' w.heap.size p A Z v (newP r) ∧ Below w.heap.size w w' := by
  refine (begin_play r hr w g).mono ?_
  rintro e w' ⟨p, A, rfl, ⟨Z, h1, h2, h3⟩, h4, h5, c0, c1, c2, c3, c4, c5, c6, fz⟩
  refine ⟨p, A, Z, fun _ => .slice none 0 0, rfl, ⟨h1, g.sz, fun b hb => (h2 b hb).1, h4, fun hb => by have := (h2 p hb).2; omega, h5, c0, fun n hn => ?_, c5, c6, fz, fun n _ => World.ownsRow_nil _ _ _ _, fun n _ e => (by cases e), fun n _ b e => (by cases e), fun n m _ _ _ b e => (by cases e), fun n _ d hd => (by cases hd)⟩, h3⟩
  match n, hn with
  | 0, _ => exact c1
  | 1, _ => exact c2
  | 2, _ => exact c3
  | 3, _ => exact c4

end Go.Proofs.YtenaepdmlknlcaaGreatDoor

namespace Go.Proofs.YtenaepdmlknlcaaGreatDoor
open Go.RowKit Go.Shelf

/-! Rows of requests, as cells. -/
theorem dnV_len (d : Dn) : (dnV d).length = 9 := rfl
theorem flatD_cons (d : Dn) (l : List Dn) : flatD (d :: l) = dnV d ++ flatD l := rfl
theorem flatD_append (a b : List Dn) : flatD (a ++ b) = flatD a ++ flatD b := by unfold flatD; exact List.flatMap_append
theorem flatD_len : ∀ l : List Dn, (flatD l).length = l.length * 9
  | [] => rfl
  | d :: l => by rw [flatD_cons, List.length_append, dnV_len, flatD_len l, List.length_cons]; omega
theorem flatD_get : ∀ {l : List Dn} {i : Nat} {d : Dn}, l[i]? = some d → ∀ j, j < 9 → (flatD l)[i * 9 + j]? = (dnV d)[j]?
  | [], i, d, h, _, _ => by simp at h
  | x :: l, 0, d, h, j, hj => by
    simp at h; subst h
    rw [flatD_cons, Nat.zero_mul, Nat.zero_add, List.getElem?_append_left (by rw [dnV_len]; exact hj)]
  | x :: l, i + 1, d, h, j, hj => by
    rw [flatD_cons, List.getElem?_append_right (by rw [dnV_len]; omega), dnV_len, show (i + 1) * 9 + j - 9 = i * 9 + j by omega]
    exact flatD_get (l := l) (by simpa using h) j hj
theorem flatD_set : ∀ {l : List Dn} {i : Nat} {d d' : Dn}, l[i]? = some d → ∀ j u, j < 9 → dnV d' = (dnV d).set j u → flatD (l.set i d') = (flatD l).set (i * 9 + j) u
  | [], i, d, _, h, _, _, _, _ => by simp at h
  | x :: l, 0, d, d', h, j, u, hj, e => by
    simp at h; subst h
    rw [List.set_cons_zero, flatD_cons, flatD_cons, Nat.zero_mul, Nat.zero_add, List.set_append_left _ _ (by rw [dnV_len]; exact hj), e]
  | x :: l, i + 1, d, d', h, j, u, hj, e => by
    rw [List.set_cons_succ, flatD_cons, flatD_cons, List.set_append_right _ _ (by rw [dnV_len]; omega), dnV_len, show (i + 1) * 9 + j - 9 = i * 9 + j by omega]
    rw [flatD_set (l := l) (by simpa using h) j u hj e]
theorem flatD_one {l : List Dn} {u : Value} (h : u ∈ flatD l) : u.oneCell' = true := by
  unfold flatD at h
  obtain ⟨d, _, hd⟩ := List.mem_flatMap.1 h
  simp only [dnV, List.mem_cons, List.not_mem_nil, or_false] at hd
  rcases hd with rfl | rfl | rfl | rfl | rfl | rfl | rfl | rfl | rfl <;> rfl
/-- What a pick does to a request. -/
def updOne (did : Bool) (t : Int) (an : Option ByteArray) (d : Dn) : Dn := { d with fr := (if did = true ∧ d.fr = 0 then t else d.fr), un := (match an with | some _ => t | none => d.un), an := (match an with | some x => x | none => d.an) }
theorem updD_cons (did : Bool) (t : Int) (an : Option ByteArray) (d : Dn) (r : List Dn) : updD did t an (d :: r) = if 0 < d.un then d :: updD did t an r else updOne did t an d :: r := rfl
theorem updD_at {did : Bool} {t : Int} {an : Option ByteArray} : ∀ {l : List Dn} {i : Nat} {d : Dn}, (∀ (j : Nat) x, j < i → l[j]? = some x → 0 < x.un) → l[i]? = some d → ¬ 0 < d.un → updD did t an l = l.set i (updOne did t an d)
  | [], i, d, _, h, _ => by simp at h
  | x :: l, 0, d, _, h, hd => by
    simp at h; subst h
    rw [updD_cons, if_neg hd]; rfl
  | x :: l, i + 1, d, ha, h, hd => by
    rw [updD_cons, if_pos (ha 0 x (by omega) rfl), List.set_cons_succ, updD_at (i := i) (fun j y hj hy => ha (j + 1) y (by omega) (by simpa using hy)) (by simpa using h) hd]
theorem updD_all {did : Bool} {t : Int} {an : Option ByteArray} : ∀ {l : List Dn}, (∀ (j : Nat) x, j < l.length → l[j]? = some x → 0 < x.un) → updD did t an l = l
  | [], _ => rfl
  | x :: l, ha => by rw [updD_cons, if_pos (ha 0 x (by simp) rfl), updD_all fun j y hj hy => ha (j + 1) y (by simp; omega) (by simpa using hy)]
theorem openN_all {l : List Dn} (ha : ∀ (j : Nat) x, j < l.length → l[j]? = some x → 0 < x.un) : openN l = 0 := by
  unfold openN
  rw [List.countP_eq_zero]
  intro d hd
  obtain ⟨j, hj, e⟩ := List.getElem_of_mem hd
  have := ha j d hj (by rw [List.getElem?_eq_getElem hj, e])
  simp; omega
theorem openN_take {l : List Dn} {i : Nat} {d : Dn} (h : l[i]? = some d) : openN (l.take (i + 1)) = openN (l.take i) + if d.un = 0 then 1 else 0 := by
  unfold openN
  rw [List.take_add_one, h, List.countP_append]
  simp [List.countP_cons]
theorem openN_take_le (l : List Dn) (i : Nat) : openN (l.take i) ≤ openN l := by
  unfold openN
  exact List.Sublist.countP_le (List.take_sublist i l)

end Go.Proofs.YtenaepdmlknlcaaGreatDoor
