import Derived.Test.YtenaepdmlknlcaaGreatDoorF44
import Derived.Test.YtenaepdmlknlcaaGreatDoorF41
namespace Go.Proofs.YtenaepdmlknlcaaGreatDoor
open Go.RowKit Go.Shelf

/-! A request of session 0, asked and done at once. -/
def picksM (a : Atl) (n : Nat) : Nat → Atl
  | 0 => a
  | k + 1 => (pickM (picksM a n k) n).2
def askM (a : Atl) (x : ByteArray) : Atl := tellM (picksM (sendM a 0 x) 0 6) 0
theorem picksM_head (a : Atl) (n : Nat) : ∀ k, picksM a n (k + 1) = picksM (pickM a n).2 n k
  | 0 => rfl
  | k + 1 => by show (pickM (picksM a n (k + 1)) n).2 = (pickM (picksM (pickM a n).2 n k) n).2; rw [picksM_head a n k]
theorem picksM_add (n : Nat) : ∀ (j k : Nat) (a : Atl), picksM a n (j + k) = picksM (picksM a n j) n k
  | j, 0, a => rfl
  | j, k + 1, a => by show (pickM (picksM a n (j + k)) n).2 = (pickM (picksM (picksM a n j) n k) n).2; rw [picksM_add n j k a]
theorem run_picks {a : Atl} {n : Nat} {g g' : Gr} {st : Stp} {j : Nat} {x : ByteArray} (hr : Runs g st j x g') : ∀ s : Ses, (s = ⟨[], some st, []⟩ ∨ ∃ y, s = ⟨[y], none, []⟩ ∧ firstS (readP y) = st) → picksM (a.set g n s) n j = a.set g' n ⟨[], none, [x]⟩ := by
  induction hr with
  | @ans g g' st x e =>
    intro s hs
    rw [picksM_head]
    show (pickM (a.set g n s) n).2 = _
    rcases hs with rfl | ⟨y, rfl, rfl⟩
    · rw [pick_some_nx, e]; rfl
    · rw [pick_first, pick_some_nx, e]; rfl
  | @next g g' g'' st st' k x e hr ih =>
    intro s hs
    have hp : (pickM (a.set g n s) n).2 = a.set g' n ⟨[], some st', []⟩ := by
      rcases hs with rfl | ⟨y, rfl, rfl⟩
      · rw [pick_some_nx, e]
      · rw [pick_first, pick_some_nx, e]
    rw [picksM_head, hp]
    exact ih _ (.inl rfl)
theorem idle_picks (a : Atl) (g : Gr) (n : Nat) (an : List ByteArray) : ∀ k, picksM (a.set g n ⟨[], none, an⟩) n k = a.set g n ⟨[], none, an⟩
  | 0 => rfl
  | k + 1 => by rw [picksM_head, pick_none_nx]; exact idle_picks a g n an k
theorem ask_atl {a : Atl} (hk : KeptOk a.g) (hq : Quiet a) (x : ByteArray) : ∃ g', picksM (sendM a 0 x) 0 6 = a.set g' 0 ⟨[], none, [ansR a.g.fs (readP x)]⟩ ∧ g'.fs = fsR a.g.fs (readP x) ∧ g'.lk = false := by
  obtain ⟨j, g', j1, j6, hr, hf, hl⟩ := runs_ask hk hq.lk (readP x)
  refine ⟨g', ?_, hf, hl⟩
  have hs : sendM a 0 x = a.set a.g 0 ⟨[x], none, []⟩ := by
    unfold sendM; rw [hq.ss 0 (by decide)]; rfl
  have h1 := run_picks (a := a) (n := 0) hr ⟨[x], none, []⟩ (.inr ⟨x, rfl, rfl⟩)
  rw [hs, show 6 = j + (6 - j) by omega, picksM_add, h1, idle_picks]
structure AskOk (a : Atl) (T : Int) (fs : List Feat) : Prop where
  fair : FairOk a
  inv : Inv a T
  quiet : Quiet a
  fs : a.g.fs = fs
theorem picks_keep {b : Atl} (hf : FairOk b) {T : Int} (hi : Inv b T) : ∀ j, j ≤ 6 → T + 6 < 4611686018427387904 → AtlOk (picksM b 0 j) ∧ LockOk (picksM b 0 j) ∧ Inv (picksM b 0 j) (T + j) ∧ ((picksM b 0 j).ss 0).an.length ≤ j
  | 0, _, _ => ⟨hf.ok, hf.lock, by simpa [picksM] using hi, by show (b.ss 0).an.length ≤ 0; rw [hf.an 0 (by decide)]; simp⟩
  | j + 1, hj, hT => by
    obtain ⟨h1, h2, h3, h4⟩ := picks_keep hf hi j (by omega) hT
    have o := pickM_out h1 (n := 0) (by decide)
    refine ⟨pickM_ok h1 (by decide) (by omega), pickM_lock h1 h2 (by decide), ?_, ?_⟩
    · rw [show T + ((j + 1 : Nat) : Int) = T + (j : Int) + 1 by omega]
      exact inv_pick h3 h1 h2 (by omega) (by decide)
    · show ((pickM (picksM b 0 j) 0).2.ss 0).an.length ≤ j + 1
      cases hd : (pickM (picksM b 0 j) 0).1 with
      | false => rw [(o.still hd).2.2.2]; omega
      | true =>
        rcases (o.moved hd).2 with ⟨_, m2⟩ | ⟨_, y, m2⟩
        · rw [m2]; omega
        · rw [m2, List.length_append]; simp; omega
theorem ask_ok {a : Atl} {T : Int} {fs : List Feat} (h : AskOk a T fs) (hT : T + 6 < 4611686018427387904) {x : ByteArray} (hx : x.size ≤ 200) : AskOk (askM a x) (T + 6) (fsR fs (readP x)) := by
  obtain ⟨g', e, hf, hl⟩ := ask_atl h.inv.kept h.quiet x
  have hs : FairOk (sendM a 0 x) := send_fair h.fair hx (by rw [h.quiet.ss 0 (by decide)]; decide)
  obtain ⟨h1, h2, h3, _⟩ := picks_keep hs (inv_send h.inv 0 x) 6 (by decide) hT
  have ea : askM a x = a.set g' 0 ⟨[], none, []⟩ := by unfold askM; rw [e, tell_set]
  have hq : Quiet (askM a x) := by
    rw [ea]
    refine ⟨hl, fun m hm => ?_⟩
    rw [set_ss]; split
    · rfl
    · exact h.quiet.ss m hm
  refine ⟨⟨tell_ok h1 0, tell_lock h2 0, fun m hm => by rw [hq.ss m hm]⟩, inv_tell h3 0, hq, by rw [ea, set_g, hf, h.fs]⟩

/-- What ask leaves. -/
def AskPost (b0 p A : Nat) (Z : Nat → Prop) (v : Nat → Value) (P : Pl) (x : ByteArray) (w : World) (e : Ending) (w' : World) : Prop :=
  e = .returned (.tuple #[.string (ansR P.a.g.fs (readP x)), .bool true]) ∧ ∃ Z', PN b0 p A Z v Z' v { P with a := askM P.a x } w w'
set_option maxRecDepth 100000 in
set_option maxHeartbeats 2000000 in
theorem ask_any {w : World} {b0 p A : Nat} {Z : Nat → Prop} {v : Nat → Value} {P : Pl} (h : PlayAt w b0 p A Z v P) {T : Int} {fs : List Feat} (ha : AskOk P.a T fs) (hT : T + 6 < 4611686018427387904) (x : ByteArray) (hx : x.size ≤ 200) :
    Calls Tryz.prog 22 #[.pointer (some ⟨p, 0, none⟩), .string x] w (AskPost b0 p A Z v P x w) := by
  obtain ⟨g', e6, _, _⟩ := ask_atl ha.inv.kept ha.quiet x
  have hw : waitS (P.a.ss 0) < 6 := by rw [ha.quiet.ss 0 (by decide)]; decide
  have hs : FairOk (sendM P.a 0 x) := send_fair ha.fair hx hw
  have HAn : Hid (∀ j, j ≤ 6 → ((picksM (sendM P.a 0 x) 0 j).ss 0).an.length ≤ j) := fun j hj => (picks_keep hs (inv_send ha.inv 0 x) j hj hT).2.2.2
  have H6 : Hid (((picksM (sendM P.a 0 x) 0 6).ss 0).an = [ansR P.a.g.fs (readP x)]) := by show _ = _; rw [e6, set_at]
  have HS : Hid (Calls Tryz.prog 42 #[.pointer (some ⟨A, 0, none⟩), .int .i64 0, .string x] w fun e w' => e = .returned (.int .i64 0) ∧ AtlasNext A Z (sendM P.a 0 x) w w') := Send_in (n := 0) h.atl (by decide) x hx hw
  have hc0 := h.c0
  have hpl := h.pl
  have HH : Hid (PlayAt w b0 p A Z v P) := h
  unfold AskPost
  obtain ⟨ans, hans⟩ : ∃ y, ansR P.a.g.fs (readP x) = y := ⟨_, rfl⟩
  rw [hans] at H6
  rw [hans]
  clear h ha hs e6 hans
  go_enter Tryz.func22, Tryz.ntmps22
  go_wp2_with (go_at_call 42; refine Calls.mono HS.out ?_; rintro e w1 ⟨rfl, Z1, h1, h2, h3⟩; dsimp only; have HP1 : Hid (PN b0 p A Z v Z1 v { P with a := sendM P.a 0 x } w w1) := HH.out.nextZ h1 h2 h3; clear h1 h2 h3)
  go_loopw [7] (fun i wr => ∃ j : Nat, j ≤ 6 ∧ i = .int .i64 j ∧ ∃ Z', PN b0 p A Z v Z' v { P with a := picksM (sendM P.a 0 x) 0 j } w wr) (fun i _ => 6 - (intOf i).toNat)
  case atStart => exact ⟨0, Nat.zero_le _, rfl, Z1, HP1.out⟩
  case round =>
    obtain ⟨j, hj, rfl, Zj, hpn⟩ := hrel
    have HN : Hid (PN b0 p A Z v Zj v { P with a := picksM (sendM P.a 0 x) 0 j } w wr) := hpn
    have hcj := hpn.pl.c0
    clear hpn
    by_cases hlt : j < 6
    · have hjI : (j : Int) < 6 := by omega
      have HPk : Hid (Calls Tryz.prog 43 #[.pointer (some ⟨A, 0, none⟩), .int .i64 0] wr fun e w' => e = .returned (.tuple #[.bool (pickM (picksM (sendM P.a 0 x) 0 j) 0).1, .int .i64 0]) ∧ AtlasNext A Zj (picksM (sendM P.a 0 x) 0 (j + 1)) wr w') := Pick_in (n := 0) HN.out.pl.atl (by decide) (by have := HAn.out j hj; show ((picksM (sendM P.a 0 x) 0 j).ss 0).an.length + 1 ≤ 4000000; omega)
      obtain ⟨did, hdid⟩ : ∃ y, (pickM (picksM (sendM P.a 0 x) 0 j) 0).1 = y := ⟨_, rfl⟩
      rw [hdid] at HPk
      clear hdid
      go_wp2_with (go_at_call 43; refine Calls.mono HPk.out ?_; rintro e w2 ⟨rfl, Z2, h1, h2, h3⟩; dsimp only; have HP2 : Hid (PN b0 p A Z v Z2 v { P with a := picksM (sendM P.a 0 x) 0 (j + 1) } w w2) := HN.out.trans (HN.out.pl.nextZ h1 h2 h3); clear h1 h2 h3)
      go_roundw
      case rel => exact ⟨j + 1, by omega, by go_num, Z2, HP2.out⟩
      case measure => simp [intOf]; omega
    · obtain rfl : j = 6 := by omega
      have HA := Answers_in (n := 0) HN.out.pl.atl (by decide)
      dsimp only at HA
      rw [H6.out] at HA
      have HA' : Hid (Calls Tryz.prog 44 #[.pointer (some ⟨A, 0, none⟩), .int .i64 0] wr fun e w' => ∃ (va : Option Addr) (m cap : Nat), e = .returned (.tuple #[.slice va m cap, .int .i64 0]) ∧ m = 1 ∧ w'.ownsRow 0 9 1 (.slice va m cap) m [.string ans] ∧ AtlasNext A Zj (askM P.a x) wr w') := HA
      clear HA
      go_wp2_with (go_at_call 44; refine Calls.mono HA'.out ?_; rintro e w4 ⟨va, m, acap, rfl, hm, hown, Z4, h1, h2, h3⟩; dsimp only; obtain rfl : m = 1 := hm; obtain ⟨ga, ca, hga⟩ := ownsRow_succ hown; obtain ⟨rfl, rfl⟩ : va = some ⟨ga, 0, none⟩ ∧ acap = ca := (by cases hga; exact ⟨rfl, rfl⟩); have hc4 : w4.cell? ⟨ga, 0, none⟩ = some (.string ans) := hown.cellAt 0 (by omega); have HP4 : Hid (PN b0 p A Z v Z4 v { P with a := askM P.a x } w w4) := HN.out.trans (HN.out.pl.nextZ h1 h2 h3); clear h1 h2 h3 hown hga)
      go_ret2
      exact ⟨rfl, Z4, HP4.out⟩

end Go.Proofs.YtenaepdmlknlcaaGreatDoor

namespace Go.Proofs.YtenaepdmlknlcaaGreatDoor
open Go.RowKit Go.Shelf

/-! The features' numbers are small: what a script puts has numbers up to 6. -/
def putId : Option Feat → Prop
  | none => True
  | some f => f.id ≤ 6
def stId : Stp → Prop
  | .lock _ p => putId p
  | .forget _ p _ => putId p
  | .finish _ p => putId p
  | _ => True
structure Ids (a : Atl) : Prop where
  fs : ∀ f ∈ a.g.fs, f.id ≤ 6
  q : ∀ n, n < 4 → ∀ x ∈ (a.ss n).q, ∃ q, x = textT q
  nx : ∀ n, n < 4 → ∀ st, (a.ss n).nx = some st → stId st
theorem ids_first (q : Rq) : stId (firstS (readP (textT q))) := by
  rw [readP_text]
  unfold askZ
  split
  · have := (featZ_bd q).1
    show putId (some (featZ q))
    exact this.2
  · split <;> trivial
theorem step_ids {g : Gr} (hg : ∀ f ∈ g.fs, f.id ≤ 6) {st : Stp} (hs : stId st) : (∀ f ∈ (stepM g st).2.fs, f.id ≤ 6) ∧ ∀ st', (stepM g st).1 = .next st' → stId st' := by
  cases st with
  | bad => exact ⟨hg, fun st' e => by cases e⟩
  | look t m =>
    unfold stepM; dsimp only
    split
    · exact ⟨hg, fun st' e => by cases e; trivial⟩
    · exact ⟨hg, fun st' e => by cases e⟩
  | note t m ag =>
    unfold stepM; dsimp only
    split
    · exact ⟨hg, fun st' e => by cases e⟩
    · exact ⟨hg, fun st' e => by cases e; trivial⟩
  | draw t m ag fs =>
    unfold stepM; dsimp only
    refine ⟨?_, fun st' e => by cases e⟩
    split <;> exact hg
  | lock id p =>
    unfold stepM; dsimp only
    split
    · exact ⟨hg, fun st' e => by cases e⟩
    · exact ⟨hg, fun st' e => by cases e; exact hs⟩
  | forget id p z =>
    unfold stepM; dsimp only
    refine ⟨hg, fun st' e => ?_⟩
    injection e with e
    subst e
    split <;> exact hs
  | finish id p =>
    unfold stepM; dsimp only
    refine ⟨fun f hf => ?_, fun st' e => by cases e⟩
    rcases List.mem_append.1 hf with hf | hf
    · exact hg f (List.mem_filter.1 hf).1
    · cases p with
      | none => cases hf
      | some f' => simp at hf; rw [hf]; exact hs
theorem ids_do {a : Atl} (h : Ids a) {n : Nat} {s : Ses} {st : Stp} (hq : ∀ x ∈ s.q, ∃ q, x = textT q) (hs : stId st) : Ids (doM a n s st).2 := by
  obtain ⟨h1, h2⟩ := step_ids h.fs hs
  have key : ∀ (g' : Gr) (s' : Ses), (∀ f ∈ g'.fs, f.id ≤ 6) → s'.q = s.q → (∀ st', s'.nx = some st' → stId st') → Ids (a.set g' n s') := by
    intro g' s' hg hq' hn
    refine ⟨hg, fun m hm x hx => ?_, fun m hm st' e => ?_⟩
    · rw [set_ss] at hx
      split at hx
      · rw [hq'] at hx; exact hq x hx
      · exact h.q m hm x hx
    · rw [set_ss] at e
      split at e
      · exact hn st' e
      · exact h.nx m hm st' e
  unfold doM
  split
  · exact key _ _ h.fs rfl (fun st' e => by cases e; exact hs)
  · rename_i st' g' e
    rw [e] at h1 h2
    exact key _ _ h1 rfl (fun st'' e' => by cases e'; exact h2 _ rfl)
  · rename_i an g' e
    rw [e] at h1
    exact key _ _ h1 rfl (fun st'' e' => by cases e')
theorem ids_pick {a : Atl} (h : Ids a) {n : Nat} (hn : n < 4) : Ids (pickM a n).2 := by
  unfold pickM
  split
  · rename_i st e
    exact ids_do h (h.q n hn) (h.nx n hn st e)
  · split
    · exact h
    · rename_i x q e
      obtain ⟨rq, rfl⟩ := h.q n hn x (by rw [e]; simp)
      exact ids_do h (fun y hy => h.q n hn y (by rw [e]; simp [hy])) (ids_first rq)
theorem ids_tell {a : Atl} (h : Ids a) (n : Nat) : Ids (tellM a n) := ⟨h.fs, fun m hm x hx => h.q m hm x (by rw [tell_q] at hx; exact hx), fun m hm st e => h.nx m hm st (by rw [tell_nx] at e; exact e)⟩
theorem ids_send {a : Atl} (h : Ids a) (n : Nat) (q : Rq) : Ids (sendM a n (textT q)) := by
  refine ⟨h.fs, fun m hm x hx => ?_, fun m hm st e => h.nx m hm st (by rw [send_nx] at e; exact e)⟩
  rw [send_q] at hx
  split at hx
  · rename_i e
    rcases List.mem_append.1 hx with hx | hx
    · exact h.q n (by rw [← e]; exact hm) x hx
    · exact ⟨q, List.mem_singleton.1 hx⟩
  · exact h.q m hm x hx
theorem ids_new (r : Int) : Ids (newM r) := ⟨fun f hf => (by cases hf), fun n _ x hx => (by cases hx), fun n _ st e => (by cases e)⟩
/-- What is kept while a script is played. -/
structure Seen (P : Pl) (T : Int) : Prop where
  ok : PlOk P
  inv : Inv P.a T
  ids : Ids P.a
theorem seen_pick {P : Pl} {T : Int} (h : Seen P T) (hT : T < 4611686018427387904) {n : Nat} (hn : n < 4) : Seen (pickP P n) (T + 1) := ⟨pickP_ok h.ok hn, inv_turn h.inv h.ok.a hT hn, ids_tell (ids_pick h.ids hn) n⟩
theorem seen_send {P : Pl} {T : Int} (h : Seen P T) {n : Nat} (hn : n < 4) {d : Dn} (hd : d.un = 0) : Seen (sendP P n d) T := by
  refine ⟨sendP_ok h.ok hn hd, inv_sendP h.inv n d, ?_⟩
  unfold sendP; split
  · exact h.ids
  · exact ids_send h.ids n d.q
theorem Seen.mono {P : Pl} {T T' : Int} (h : Seen P T) (ht : T ≤ T') : Seen P T' := ⟨h.ok, h.inv.mono ht, h.ids⟩
theorem seen_new (r : Int) : Seen (newP r) 0 := ⟨newP_ok r, newM_inv _, ids_new _⟩
theorem seen_step {x : Pl × Int} {T : Int} (h : Seen x.1 T) (hT : T < 4611686018427387904) (s : Stt) : Seen (stepP x s).1 (T + 1) := by
  unfold stepP
  split
  · exact seen_pick h hT (ses_lt s)
  · dsimp only
    split
    · exact (seen_send h (ses_lt s) rfl).mono (by omega)
    · exact h.mono (by omega)
theorem seen_play (P : Pl) (most : Int) (h : Seen P 0) (l : List Stt) (hl : l.length ≤ 2199023255488) : ∀ k, k ≤ l.length → Seen (playP P most (l.take k)).1 (k : Int)
  | 0, _ => by simpa [playP] using h
  | k + 1, hk => by
    obtain ⟨s, hs⟩ : ∃ s, l[k]? = some s := ⟨_, List.getElem?_eq_getElem (by omega)⟩
    rw [play_snoc hs]
    have := seen_step (seen_play P most h l hl k (by omega)) (by omega) s
    rw [show ((k + 1 : Nat) : Int) = (k : Int) + 1 by omega]
    exact this
/-- The sessions picked round and round. -/
def rrP (P : Pl) : Nat → Pl
  | 0 => P
  | k + 1 => pickP (rrP P k) (k % 4)
theorem rr_turns (P : Pl) (j : Nat) : ∀ i, i ≤ 4 → rrP P (4 * j + i) = turnsP (rrP P (4 * j)) i
  | 0, _ => rfl
  | i + 1, hi => by
    have e : (4 * j + i) % 4 = i := by omega
    show pickP (rrP P (4 * j + i)) ((4 * j + i) % 4) = pickP (turnsP (rrP P (4 * j)) i) i
    rw [rr_turns P j i (by omega), e]
theorem rr_rounds (P : Pl) : ∀ j, rrP P (4 * j) = roundsP P j
  | 0 => rfl
  | j + 1 => by
    rw [show 4 * (j + 1) = 4 * j + 4 by omega, rr_turns P j 4 (by omega), rr_rounds P j]; rfl
theorem seen_rr {P : Pl} {T : Int} (h : Seen P T) (hT : T ≤ 4000000000000) : ∀ k : Nat, k ≤ 3000 → Seen (rrP P k) (T + k)
  | 0, _ => by simpa [rrP] using h
  | k + 1, hk => by
    have := seen_pick (seen_rr h hT k (by omega)) (by omega) (n := k % 4) (by omega)
    rw [show T + ((k + 1 : Nat) : Int) = T + (k : Int) + 1 by omega]
    exact this
theorem rr_len (P : Pl) (n : Nat) : ∀ k, ((rrP P k).all n).length = (P.all n).length
  | 0 => rfl
  | k + 1 => by show ((pickP (rrP P k) (k % 4)).all n).length = _; rw [pick_len, rr_len P n k]
theorem rr_time (P : Pl) : ∀ k : Nat, (rrP P k).time = P.time + k
  | 0 => by show P.time = _; simp
  | k + 1 => by show (rrP P k).time + 1 = _; rw [rr_time P k]; omega
/-- Behind 2304 picks nothing waits. -/
theorem rr_end {P : Pl} {T : Int} (h : Seen P T) (hT : T ≤ 4000000000000) : AskOk (rrP P 2304).a (T + 2304) (rrP P 2304).a.g.fs ∧ Ids (rrP P 2304).a ∧ waitM (rrP P 2304).a = 0 := by
  have hs := seen_rr h hT 2304 (by omega)
  have hw : waitM (rrP P 2304).a = 0 := by
    rw [show 2304 = 4 * 576 by omega, rr_rounds, roundsP_a]; exact rounds_all h.ok.a (by omega)
  exact ⟨⟨hs.ok.a, hs.inv, quiet_of hs.ok.a (wait_each hw), rfl⟩, hs.ids, hw⟩

/-! A change that lies over all the world leaves nothing kept. -/
def forgetAll (bs : List Bx) (S : Shs) : Shs := forgetS 3 bs (forgetS 2 bs (forgetS 1 bs (forgetS 0 bs S)))
theorem ask_change {a : Atl} (hq : Quiet a) {x : ByteArray} {id : Int} {p : Option Feat} (hx : firstS (readP x) = .lock id p) : askM a x = a.set { fs := newFs a.g.fs id p, lk := false, S := forgetAll (boxesF p a.g.fs id) a.g.S } 0 ⟨[], none, []⟩ := by
  have hs : sendM a 0 x = a.set a.g 0 ⟨[x], none, []⟩ := by
    unfold sendM; rw [hq.ss 0 (by decide)]; rfl
  have hr : Runs a.g (.lock id p) 6 (ansF (hasF id a.g.fs) p) { fs := newFs a.g.fs id p, lk := false, S := forgetAll (boxesF p a.g.fs id) a.g.S } :=
    .next (stepM_lock1 hq.lk) (.next (by rfl) (.next (by rfl) (.next (by rfl) (.next (by rfl) (.ans (by rfl))))))
  unfold askM
  rw [hs, run_picks hr ⟨[x], none, []⟩ (.inr ⟨x, rfl, hx⟩), tell_set]
theorem forget_sub (z : Nat) (bs : List Bx) (S : Shs) (k : Nat) {x : Kp} (h : x ∈ (forgetS z bs S).ks k) : x ∈ S.ks k := forgetK_mem bs k _ _ h
theorem forgetAll_sub (bs : List Bx) (S : Shs) (k : Nat) {x : Kp} (h : x ∈ (forgetAll bs S).ks k) : x ∈ S.ks k := forget_sub 0 bs _ k (forget_sub 1 bs _ k (forget_sub 2 bs _ k (forget_sub 3 bs _ k h)))
theorem forgetAll_nil {g : Gr} (hk : KeptOk g) {bs : List Bx} (hb : ∀ t : Tl, t.good → hitT bs t = true) (k : Nat) (hk4 : k < 4) : (forgetAll bs g.S).ks k = [] := by
  apply List.eq_nil_iff_forall_not_mem.2
  intro x hx
  obtain ⟨u0, m0⟩ := forget_uniq bs k (tilesZ 0) (g.S.ks k) (hk.u k hk4)
  obtain ⟨u1, m1⟩ := forget_uniq bs k (tilesZ 1) _ u0
  obtain ⟨u2, m2⟩ := forget_uniq bs k (tilesZ 2) _ u1
  obtain ⟨_, m3⟩ := forget_uniq bs k (tilesZ 3) _ u2
  obtain ⟨a3, b3⟩ := m3 x hx
  obtain ⟨a2, b2⟩ := m2 x a3
  obtain ⟨a1, b1⟩ := m1 x a2
  obtain ⟨a0, b0⟩ := m0 x a1
  obtain ⟨tg, ts⟩ := hk.t k x hk4 a0
  have hz := tg
  unfold Tl.good tileB at hz
  rw [decide_eq_true_eq] at hz
  have hh := hb x.t tg
  have h4 : x.t.z = ((0 : Nat) : Int) ∨ x.t.z = ((1 : Nat) : Int) ∨ x.t.z = ((2 : Nat) : Int) ∨ x.t.z = ((3 : Nat) : Int) := by omega
  rcases h4 with e | e | e | e
  · exact b0 x.t (tile_mem tg e (by omega)) hh ts rfl
  · exact b1 x.t (tile_mem tg e (by omega)) hh ts rfl
  · exact b2 x.t (tile_mem tg e (by omega)) hh ts rfl
  · exact b3 x.t (tile_mem tg e (by omega)) hh ts rfl
def f98 : Feat := ⟨98, 3, 0, 1, [(0, 0), (255, 0), (255, 255), (0, 255)]⟩
def tPut98 : ByteArray := ⟨#[112, 117, 116, 32, 57, 56, 32, 97, 114, 101, 97, 32, 48, 32, 49, 32, 48, 44, 48, 32, 50, 53, 53, 44, 48, 32, 50, 53, 53, 44, 50, 53, 53, 32, 48, 44, 50, 53, 53]⟩
def tDel98 : ByteArray := ⟨#[100, 101, 108, 32, 57, 56]⟩
theorem read98 : readP tPut98 = .put f98 := by kernel_rfl
theorem readD98 : readP tDel98 = .del 98 := by kernel_rfl
theorem hit98 {t : Tl} (h : t.good) (fs : List Feat) (id : Int) : hitT (boxesF (some f98) fs id) t = true := by
  have hf := tile_facts h
  unfold hitT boxesF
  rw [List.any_eq_true]
  refine ⟨boxZ f98.ps, by simp, ?_⟩
  have hb : boxZ f98.ps = ⟨0, 0, 255, 255⟩ := by kernel_rfl
  rw [hb]
  unfold meetBx meetsB squareZ
  rw [decide_eq_true_eq]
  dsimp only
  have hp : 0 < pZ t.z := by unfold pZ; split <;> (try split) <;> (try split) <;> omega
  obtain ⟨_, h1, _, h2, _, h3, h4⟩ := hf
  have b1 : 0 ≤ 8 * pZ t.z * t.c := Int.mul_nonneg (by omega) h1
  have b2 : 0 ≤ 8 * pZ t.z * t.r := Int.mul_nonneg (by omega) h2
  refine ⟨by omega, by omega, by omega, by omega⟩
theorem has98 {fs : List Feat} (h : ∀ f ∈ fs, f.id ≤ 6) {i : Int} (hi : 6 < i) : hasF i fs = false ∧ (fs.filter fun f => !(f.id == i)) = fs := by
  constructor
  · exact hasF_not fun f hf e => by have := h f hf; omega
  · rw [List.filter_eq_self]
    intro f hf
    have := h f hf
    simp; omega
/-- What becomes of an atlas behind the put and the del of what lies over all the world. -/
theorem settled_mid {a : Atl} {T : Int} {fs : List Feat} (h : AskOk a T fs) (hT : T + 12 < 4611686018427387904) (hid : ∀ f ∈ fs, f.id ≤ 6) :
    AskOk (askM (askM a tPut98) tDel98) (T + 12) fs ∧ ansR fs (readP tPut98) = ⟨#[50, 48, 49]⟩ ∧ ansR (askM a tPut98).g.fs (readP tDel98) = ⟨#[50, 48, 48]⟩ ∧ ∀ k, k < 4 → (askM (askM a tPut98) tDel98).g.S.ks k = [] := by
  have h1 := ask_ok h (by omega) (x := tPut98) (by decide +kernel)
  have h2 := ask_ok h1 (by omega) (x := tDel98) (by decide +kernel)
  obtain ⟨n1, n2⟩ := has98 hid (i := 98) (by omega)
  have e1 : fsR fs (readP tPut98) = fs ++ [f98] := by
    rw [read98]
    show newFs fs 98 (some f98) = _
    unfold newFs; rw [n2]; rfl
  have e2 : fsR (fsR fs (readP tPut98)) (readP tDel98) = fs := by
    rw [e1, readD98]
    show newFs (fs ++ [f98]) 98 none = _
    unfold newFs
    rw [List.filter_append, n2]
    simp [f98]
  rw [e2, show T + 6 + 6 = T + 12 by omega] at h2
  refine ⟨h2, ?_, ?_, fun k hk => ?_⟩
  · rw [read98]
    show ansF (hasF 98 fs) (some f98) = _
    rw [n1]; rfl
  · rw [h1.fs, e1, readD98]
    show ansF (hasF 98 (fs ++ [f98])) none = _
    rw [hasF_snoc, n1]
    rfl
  · rw [ask_change h1.quiet (id := 98) (p := none) (by rw [readD98]; rfl), set_g]
    apply List.eq_nil_iff_forall_not_mem.2
    intro x hx
    have hx' := forgetAll_sub _ _ k hx
    rw [ask_change h.quiet (id := 98) (p := some f98) (by rw [read98]; rfl), set_g] at hx'
    rw [forgetAll_nil h.inv.kept (fun t ht => hit98 ht _ _) k hk] at hx'
    cases hx'

end Go.Proofs.YtenaepdmlknlcaaGreatDoor
