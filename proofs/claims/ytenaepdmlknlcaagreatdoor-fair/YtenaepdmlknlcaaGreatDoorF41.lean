import Derived.Test.YtenaepdmlknlcaaGreatDoorF37
import Derived.Test.YtenaepdmlknlcaaGreatDoorF40
namespace Go.Proofs.YtenaepdmlknlcaaGreatDoor
open Go.RowKit Go.Shelf

/-! Rounds of picks, as a play. -/
def turnsP (P : Pl) : Nat → Pl
  | 0 => P
  | k + 1 => pickP (turnsP P k) k
def roundsP (P : Pl) : Nat → Pl
  | 0 => P
  | k + 1 => turnsP (roundsP P k) 4
theorem turnsP_a (P : Pl) : ∀ k, (turnsP P k).a = turnsM P.a k
  | 0 => rfl
  | k + 1 => by show turnM (turnsP P k).a k = turnM (turnsM P.a k) k; rw [turnsP_a P k]
theorem roundsP_a (P : Pl) : ∀ k, (roundsP P k).a = roundsM P.a k
  | 0 => rfl
  | k + 1 => by show (turnsP (roundsP P k) 4).a = turnsM (roundsM P.a k) 4; rw [turnsP_a, roundsP_a P k]
theorem turnsP_ok {P : Pl} (h : PlOk P) : ∀ k, k ≤ 4 → PlOk (turnsP P k)
  | 0, _ => h
  | k + 1, hk => pickP_ok (turnsP_ok h k (by omega)) (by omega)
theorem roundsP_ok {P : Pl} (h : PlOk P) : ∀ k, PlOk (roundsP P k)
  | 0 => h
  | k + 1 => turnsP_ok (roundsP_ok h k) 4 (by omega)
theorem turnsP_time (P : Pl) : ∀ k : Nat, (turnsP P k).time = P.time + k
  | 0 => by show P.time = _; simp
  | k + 1 => by show (turnsP P k).time + 1 = _; rw [turnsP_time P k]; omega
theorem roundsP_time (P : Pl) : ∀ k : Nat, (roundsP P k).time = P.time + 4 * k
  | 0 => by show P.time = _; simp
  | k + 1 => by show (turnsP (roundsP P k) 4).time = _; rw [turnsP_time, roundsP_time P k]; omega
theorem turnsP_len (P : Pl) (n : Nat) : ∀ k, ((turnsP P k).all n).length = (P.all n).length
  | 0 => rfl
  | k + 1 => by show ((pickP (turnsP P k) k).all n).length = _; rw [pick_len, turnsP_len P n k]
theorem roundsP_len (P : Pl) (n : Nat) : ∀ k, ((roundsP P k).all n).length = (P.all n).length
  | 0 => rfl
  | k + 1 => by show ((turnsP (roundsP P k) 4).all n).length = _; rw [turnsP_len, roundsP_len P n k]
theorem turnsP_room (P : Pl) : ∀ k, (turnsP P k).a.g.S.room = P.a.g.S.room
  | 0 => rfl
  | k + 1 => by show (pickM (turnsP P k).a k).2.g.S.room = _; rw [pick_room, turnsP_room P k]
theorem roundsP_room (P : Pl) : ∀ k, (roundsP P k).a.g.S.room = P.a.g.S.room
  | 0 => rfl
  | k + 1 => by show (turnsP (roundsP P k) 4).a.g.S.room = _; rw [turnsP_room, roundsP_room P k]
theorem stepP_room (x : Pl × Int) (s : Stt) : (stepP x s).1.a.g.S.room = x.1.a.g.S.room := by
  unfold stepP
  split
  · exact pick_room _ _
  · dsimp only
    split
    · unfold sendP; split <;> rfl
    · rfl
theorem playP_room (P : Pl) (most : Int) (l : List Stt) : (playP P most l).1.a.g.S.room = P.a.g.S.room := by
  unfold playP
  have : ∀ (l : List Stt) (x : Pl × Int), (l.foldl stepP x).1.a.g.S.room = x.1.a.g.S.room := by
    intro l
    induction l with
    | nil => intro x; rfl
    | cons s l ih => intro x; rw [List.foldl_cons, ih, stepP_room]
  exact this l (P, most)
theorem fs_len {fs : List Feat} (h : FsOk fs) : fs.length ≤ 99 := by
  have hs : fs.map (·.id) ⊆ (List.range 99).map fun i : Nat => ((i : Int) + 1) := by
    intro x hx
    obtain ⟨f, hf, rfl⟩ := List.mem_map.1 hx
    have hv := h.valid f hf
    unfold validF at hv
    simp only [Bool.and_eq_true, inB, decide_eq_true_eq] at hv
    have := hv.1.1.1.1
    exact List.mem_map.2 ⟨(f.id - 1).toNat, by simp; omega, by omega⟩
  have := List.Nodup.length_le_of_subset h.dist hs
  simpa using this
theorem wait_each {a : Atl} (h : waitM a = 0) : ∀ n, n < 4 → waitS (a.ss n) = 0 := by
  unfold waitM sum4 at h
  dsimp only at h
  intro n hn
  match n, hn with
  | 0, _ => omega
  | 1, _ => omega
  | 2, _ => omega
  | 3, _ => omega

set_option maxRecDepth 100000 in
set_option maxHeartbeats 8000000 in
theorem Fair_any (r : Int) (hr : i64 r) (a : Option Addr) (n cap : Nat) (l : List Stt) (w : World) (g : Gl w) (hl : ScrAt w w.heap.size a l) (hn : n = l.length) (hlen : n ≤ 2199023255488) (hcap : n ≤ cap) :
    Calls Tryz.prog 10 #[.int .i64 r, .slice a n cap] w fun e w' => e = .returned (.bool true) ∧ Below w.heap.size w w' := by
  have HBg : Hid (Calls Tryz.prog 16 #[.int .i64 r] w fun e w' => ∃ (p A : Nat) (Z : Nat → Prop) (v : Nat → Value), e = .returned (.tuple #[.pointer (some ⟨p, 0, none⟩), .bool true]) ∧ PlayAt w' w.heap.size p A Z v (newP r) ∧ Below w.heap.size w w') := begin_at r hr w g
  have HS : Hid (ScrAt w w.heap.size a l) := hl
  have Hn : Hid (n = l.length) := hn
  have HC : Hid (∀ W : World, Calls Tryz.prog 28 #[.int .i64 r, .int .i64 9] W fun e w' => e = .returned (.int .i64 (pkZ r 9)) ∧ w' = W) := fun W => kpick_any r 9 hr (by decide) (by decide) W
  have hb := play_bounds (newP r) 1000000 (newP_ok r) l l.length (Nat.le_refl _)
  rw [List.take_of_length_le (Nat.le_refl _)] at hb
  have hroom : (playP (newP r) 1000000 l).1.a.g.S.room = pkZ r 9 := playP_room _ _ _
  have HOk : Hid (PlOk (playP (newP r) 1000000 l).1) := hb.ok
  have HL : Hid (∀ j, j < 4 → ((playP (newP r) 1000000 l).1.all j).length ≤ 2000000) := fun j hj => by
    have := play_most (newP r) 1000000 (by decide) l j
    have e : ((newP r).all j).length = 0 := rfl
    omega
  have ht : (playP (newP r) 1000000 l).1.time ≤ 4000000000000 := by
    have := hb.t
    have e : (newP r).time = 0 := rfl
    omega
  have HPl : Hid (∀ (W : World) (p A : Nat) (Z : Nat → Prop) (v : Nat → Value), Below w.heap.size w W → PlayAt W w.heap.size p A Z v (newP r) → Calls Tryz.prog 24 #[.pointer (some ⟨p, 0, none⟩), .slice a n cap, .int .i64 1000000] W fun e w' => e = .returned (.bool true) ∧ ∃ Z' v', PN w.heap.size p A Z v Z' v' (playP (newP r) 1000000 l).1 W w') := fun W p A Z v hB hP => play_any hP (newP_ok r) (fun j _ => by show (0 : Nat) ≤ 1000; omega) (by show (0 : Int) ≤ 1000; omega) a n cap l (HS.out.below hB) Hn.out hlen hcap 1000000 (by decide) (by decide)
  obtain ⟨P1, hP1⟩ : ∃ x, (playP (newP r) 1000000 l).1 = x := ⟨_, rfl⟩
  rw [hP1] at hroom HOk HL ht HPl
  have HR : Hid (P1.a.g.S.room = pkZ r 9) := hroom
  have Ht : Hid (P1.time ≤ 4000000000000) := ht
  clear hb hP1 hroom hl hn g HS Hn ht
  go_enter Tryz.func10, Tryz.ntmps10
  go_wp2_with (first
    | (go_at_call 16; refine Calls.mono HBg.out ?_; rintro e w1 ⟨p, A, Z, v, rfl, hp1, hb1⟩; dsimp only; have HP1 : Hid (PlayAt w1 w.heap.size p A Z v (newP r)) := hp1; have HB1 : Hid (Below w.heap.size w w1) := hb1; clear hp1 hb1)
    | (go_at_call 24; refine Calls.mono (HPl.out _ _ _ _ _ HB1.out HP1.out) ?_; rintro e w2 ⟨rfl, Z1, v1, hpn⟩; dsimp only; have HN1 : Hid (PN w.heap.size p A Z v Z1 v1 P1 w1 w2) := hpn; clear hpn))
  have HB2 : Hid (Below w.heap.size w w2) := HB1.out.trans (HN1.out.below HP1.out)
  have HP2 : Hid (PlayAt w2 w.heap.size p A Z1 v1 P1) := HN1.out.pl
  clear HN1 HP1 HB1 HBg HPl
  go_loopw [6, 7] (fun ok i wr => ∃ k : Nat, k ≤ 576 ∧ ok = .bool true ∧ i = .int .i64 k ∧ ∃ Z' v', PN w.heap.size p A Z1 v1 Z' v' (roundsP P1 k) w2 wr) (fun _ i _ => 576 - (intOf i).toNat)
  case atStart => exact ⟨0, Nat.zero_le _, rfl, rfl, Z1, v1, PN.refl HP2.out⟩
  case round =>
    obtain ⟨k, hk, rfl, rfl, Zk, vk, hpn⟩ := hrel
    have HNk : Hid (PN w.heap.size p A Z1 v1 Zk vk (roundsP P1 k) w2 wr) := hpn
    have hc0 := hpn.pl.c0
    have hpl := hpn.pl.pl
    have HLk : Hid (Calls Tryz.prog 26 #[.pointer (some ⟨A, 0, none⟩)] wr fun e w' => e = .returned (.agg #[.int .i64 ((roundsP P1 k).a.g.fs.length : Int), .bool (roundsP P1 k).a.g.lk, .int .i64 (waitM (roundsP P1 k).a : Int)]) ∧ Below wr.heap.size wr w') := Look_in hpn.pl.atl (by have := fs_len (roundsP_ok HOk.out k).a.ok.g.fs; omega)
    have HOk' : Hid (PlOk (roundsP P1 k)) := roundsP_ok HOk.out k
    have HL' : Hid (∀ j, j < 4 → ((roundsP P1 k).all j).length ≤ 2000000) := fun j hj => by rw [roundsP_len]; exact HL.out j hj
    have hT' : (roundsP P1 k).time ≤ 5000000000000 := by rw [roundsP_time]; have := Ht.out; omega
    have hT0 := HOk'.out.t
    clear hpn
    by_cases hlt : k < 576
    · have hkI : (k : Int) < 576 := by omega
      have HNx : Hid (roundsP P1 (k + 1) = turnsP (roundsP P1 k) 4) := rfl
      obtain ⟨Pk, hPk⟩ : ∃ x, roundsP P1 k = x := ⟨_, rfl⟩
      rw [hPk] at HNk HLk HOk' HL' hT' hT0 HNx
      clear hPk
      obtain ⟨wt, hwt⟩ : ∃ x, waitM Pk.a = x := ⟨_, rfl⟩
      have Hwt : Hid (waitM Pk.a = wt) := hwt
      rw [hwt] at HLk
      clear hwt
      have hw24 : wt ≤ 24 := by
        have := Hwt.out
        unfold waitM sum4 at this
        dsimp only at this
        have h0 := (HOk'.out.a.ok.ss 0 (by omega)).w
        have h1 := (HOk'.out.a.ok.ss 1 (by omega)).w
        have h2 := (HOk'.out.a.ok.ss 2 (by omega)).w
        have h3 := (HOk'.out.a.ok.ss 3 (by omega)).w
        omega
      go_wp2_with (first
        | (go_at_call 26; refine Calls.mono HLk.out ?_; rintro e w3 ⟨rfl, hb3⟩; dsimp only; have HB3 : Hid (Below wr.heap.size wr w3) := hb3; have hs3 := hb3.size; clear hb3))
      have HW0 : Hid (PN w.heap.size p A Zk vk Zk vk Pk wr (w3.alloc (.cells #[.int .i64 (Pk.a.g.fs.length : Int), .bool Pk.a.g.lk, .int .i64 (wt : Int)] 77))) := HNk.out.pl.grow (HB3.out.alloc hs3 _)
      have HA0 : Hid (PN w.heap.size p A Z1 v1 Zk vk Pk w2 (w3.alloc (.cells #[.int .i64 (Pk.a.g.fs.length : Int), .bool Pk.a.g.lk, .int .i64 (wt : Int)] 77))) := HNk.out.trans HW0.out
      have Hvb : Hid (¬ PB Zk p vk w3.heap.size) := fun e => by have := (HNk.out.pl.pb e).2; omega
      clear hc0 hpl HLk HNk HB3
      go_loopw [6, 9, 10] (fun ok mv i wq => ∃ j : Nat, j ≤ 4 ∧ ok = .bool true ∧ mv = .bool (movedM Pk.a j) ∧ i = .int .i64 j ∧ ∃ Z' v', PN w.heap.size p A Zk vk Z' v' (turnsP Pk j) (w3.alloc (.cells #[.int .i64 (Pk.a.g.fs.length : Int), .bool Pk.a.g.lk, .int .i64 (wt : Int)] 77)) wq) (fun _ _ i _ => 4 - (intOf i).toNat)
      case atStart => exact ⟨0, Nat.zero_le _, rfl, rfl, rfl, Zk, vk, PN.refl HW0.out.pl⟩
      case round =>
        obtain ⟨j, hj, rfl, rfl, rfl, Zj, vj, hpn⟩ := hrel
        have hpl' := hpn.pl.pl
        have hc5 := hpn.pl.c5
        have hvw : wr.cell? ⟨w3.heap.size, 2, none⟩ = some (.int .i64 (wt : Int)) := (hpn.fr.cell w3.heap.size 2 (by simp) Hvb.out).trans (by simp [go_sem])
        have HNj : Hid (PN w.heap.size p A Zk vk Zj vj (turnsP Pk j) (w3.alloc (.cells #[.int .i64 (Pk.a.g.fs.length : Int), .bool Pk.a.g.lk, .int .i64 (wt : Int)] 77)) wr) := hpn
        clear hpn
        by_cases hjt : j < 4
        · have hjI : (j : Int) < 4 := by omega
          have htj := turnsP_time Pk j
          have HPk : Hid (Calls Tryz.prog 18 #[.pointer (some ⟨p, 0, none⟩), .int .i64 (j : Int)] wr (PickD w.heap.size p A j Zj vj (turnsP Pk j) wr)) := pick_any HNj.out.pl (turnsP_ok HOk'.out j (by omega)) hjt (by rw [turnsP_len]; have := HL'.out j hjt; omega) (by rw [turnsP_time]; omega)
          have Hmv : Hid (movedM Pk.a (j + 1) = (movedM Pk.a j || (pickM (turnsP Pk j).a j).1)) := by show _ = _; rw [turnsP_a]; rfl
          have Hpt : Hid ((pickP (turnsP Pk j) j).time = (turnsP Pk j).time + 1) := rfl
          have Hpm : Hid ((pickP (turnsP Pk j) j).moved = (pickM (turnsP Pk j).a j).1) := rfl
          have Hnx : Hid (turnsP Pk (j + 1) = pickP (turnsP Pk j) j) := rfl
          obtain ⟨t, ht⟩ : ∃ x, (turnsP Pk j).time = x := ⟨_, rfl⟩
          obtain ⟨did, hdid⟩ : ∃ x, (pickM (turnsP Pk j).a j).1 = x := ⟨_, rfl⟩
          rw [ht] at Hpt htj hc5
          rw [hdid] at Hmv Hpm
          clear ht hdid
          have ht0 : 0 ≤ t := by omega
          have ht1 : t ≤ 6000000000000 := by omega
          clear htj
          cases hm : movedM Pk.a j with
          | false =>
            go_wp2_with (first
              | (go_at_call 18; refine Calls.mono HPk.out ?_; rintro e w5 ⟨rfl, Z5, v5, h5⟩; dsimp only; have H5 : Hid _ := h5; have c55 := h5.pl.c5; have c65 := h5.pl.c6; rw [Hpt.out] at c55; rw [Hpm.out] at c65; clear h5))
            go_roundw
            case rel => exact ⟨j + 1, by omega, rfl, by rw [Hmv.out, hm]; rfl, by go_num, Z5, v5, by rw [Hnx.out]; exact HNj.out.trans H5.out⟩
            case measure => simp [intOf]; omega
          | true =>
            go_wp2_with (first
              | (go_at_call 18; refine Calls.mono HPk.out ?_; rintro e w5 ⟨rfl, Z5, v5, h5⟩; dsimp only; have H5 : Hid _ := h5; have c55 := h5.pl.c5; have c65 := h5.pl.c6; rw [Hpt.out] at c55; rw [Hpm.out] at c65; clear h5))
            go_roundw
            case rel => exact ⟨j + 1, by omega, rfl, by rw [Hmv.out, hm]; rfl, by go_num, Z5, v5, by rw [Hnx.out]; exact HNj.out.trans H5.out⟩
            case measure => simp [intOf]; omega
        · obtain rfl : j = 4 := by omega
          by_cases hw0 : wt = 0
          · have hmv : movedM Pk.a 4 = false := (round_idle HOk'.out.a (by rw [Hwt.out]; exact hw0)).1
            rw [hmv]
            subst hw0
            go_wp2
            go_roundw
            case rel => exact ⟨k + 1, by omega, rfl, by go_num, Zj, vj, by rw [HNx.out]; exact HA0.out.trans HNj.out⟩
            case measure => simp [intOf]; omega
          · have hmv : movedM Pk.a 4 = true := round_moves HOk'.out.a (by rw [Hwt.out]; omega)
            rw [hmv]
            have hwN : 0 < wt := by omega
            have hwI : decide ((wt : Int) > 0) = true := by simp; omega
            clear hw0
            go_wp2
            go_roundw
            case rel => exact ⟨k + 1, by omega, rfl, by go_num, Zj, vj, by rw [HNx.out]; exact HA0.out.trans HNj.out⟩
            case measure => simp [intOf]; omega
    · obtain rfl : k = 576 := by omega
      have hw0 : waitM (roundsP P1 576).a = 0 := by rw [roundsP_a]; exact rounds_all HOk.out.a (by omega)
      have hlk : (roundsP P1 576).a.g.lk = false := wait_free HOk'.out.a.lock hw0
      have Hdone : Hid (∀ m, m < 4 → ∀ x ∈ (roundsP P1 576).all m, 0 < x.un) := fun m hm => open_done HOk'.out hm (wait_each hw0 m hm)
      have HRf : Hid ((roundsP P1 576).a.g.S.room = pkZ r 9) := by show _ = _; rw [roundsP_room]; exact HR.out
      rw [hw0, hlk] at HLk
      obtain ⟨Pf, hPf⟩ : ∃ x, roundsP P1 576 = x := ⟨_, rfl⟩
      rw [hPf] at HNk HLk HOk' HL' Hdone HRf
      clear hPf hT' hT0 hw0 hlk
      go_wp2_with (first
        | (go_at_call 26; refine Calls.mono HLk.out ?_; rintro e w3 ⟨rfl, hb3⟩; dsimp only; have HB3 : Hid (Below wr.heap.size wr w3) := hb3; have hs3 := hb3.size; clear hb3))
      have HP0 : Hid (PN w.heap.size p A Zk vk Zk vk Pf wr (w3.alloc (.cells #[.int .i64 (Pf.a.g.fs.length : Int), .bool false, .int .i64 0] 77))) := HNk.out.pl.grow (HB3.out.alloc hs3 _)
      have HBf : Hid (Below w.heap.size w (w3.alloc (.cells #[.int .i64 (Pf.a.g.fs.length : Int), .bool false, .int .i64 0] 77))) := (HB2.out.trans (HNk.out.below HP2.out)).trans (HP0.out.below HNk.out.pl)
      have hsz : w.heap.size ≤ w3.heap.size := by have := HBf.out.size; have := HNk.out.pl.p0; omega
      clear hc0 hpl HLk HNk HB3 HB2 HP2
      go_loopw [6, 13] (fun ok i wq => ∃ j : Nat, j ≤ 4 ∧ ok = .bool true ∧ i = .int .i64 j ∧ Below (w3.heap.size + 1) (w3.alloc (.cells #[.int .i64 (Pf.a.g.fs.length : Int), .bool false, .int .i64 0] 77)) wq) (fun _ i _ => 4 - (intOf i).toNat)
      case atStart => exact ⟨0, Nat.zero_le _, rfl, rfl, Below.refl _ _⟩
      case round =>
        obtain ⟨j, hj, rfl, rfl, hbl⟩ := hrel
        have hbs : Below (w3.alloc (.cells #[.int .i64 (Pf.a.g.fs.length : Int), .bool false, .int .i64 0] 77)).heap.size (w3.alloc (.cells #[.int .i64 (Pf.a.g.fs.length : Int), .bool false, .int .i64 0] 77)) wr := by simpa using hbl
        have hpl4 := HP0.out.pl.grow hbs
        have hv1 : wr.cell? ⟨w3.heap.size, 1, none⟩ = some (.bool false) := (hbl.cell (p := ⟨w3.heap.size, 1, none⟩) (by simp)).trans (by simp [go_sem])
        have hv2 : wr.cell? ⟨w3.heap.size, 2, none⟩ = some (.int .i64 0) := (hbl.cell (p := ⟨w3.heap.size, 2, none⟩) (by simp)).trans (by simp [go_sem])
        have HBl : Hid _ := hbl
        have HP4 : Hid (PlayAt wr w.heap.size p A Zk vk Pf) := hpl4.pl
        have hsr : w3.heap.size + 1 ≤ wr.heap.size := by have := hbl.size; simpa using this
        clear hbl hbs hpl4
        by_cases hjt : j < 4
        · have hjI : (j : Int) < 4 := by omega
          have hjn : ¬ (j : Int) < 0 := by omega
          have hc0 := HP4.out.c0
          obtain ⟨ra, rcap, hv, hcap', hg⟩ := row_form (HP4.out.row j hjt)
          have hcr := HP4.out.cr j hjt
          rw [hv] at hcr
          obtain ⟨m, hm⟩ : ∃ m, (Pf.all j).length = m := ⟨_, rfl⟩
          have Hm : Hid ((Pf.all j).length = m) := hm
          have Hv : Hid (vk j = .slice ra (Pf.all j).length rcap) := hv
          have Hg : Hid (0 < m → ∃ g, ra = some ⟨g, 0, none⟩ ∧ w.heap.size ≤ g) := by rw [hm] at hg; exact hg
          have hml : m ≤ 2000000 := by rw [← hm]; exact HL'.out j hjt
          rw [hm] at hcr hcap'
          have HKp : Hid (Calls Tryz.prog 27 #[.pointer (some ⟨A, 0, none⟩), .int .i64 (j : Int)] wr fun e w' => ∃ (va : Option Addr) (m cap : Nat), e = .returned (.tuple #[.slice va m cap, .int .i64 0]) ∧ m = (Pf.a.g.S.ks j).length ∧ w'.ownsRow wr.heap.size 24 3 (.slice va m cap) m (flatT ((Pf.a.g.S.ks j).map (·.t))) ∧ Below wr.heap.size wr w') := Kept_in HP4.out.atl hjt
          have Hlen : Hid (((Pf.a.g.S.ks j).length : Int) ≤ pkZ r 9) := by show _ ≤ _; rw [← HRf.out]; exact HOk'.out.a.ok.g.len j hjt
          clear hv hg hm
          go_wp2
          go_loop [6, 14] (fun ok i => ∃ q : Nat, q ≤ m ∧ ok = .bool true ∧ i = .int .i64 q) (fun _ i => m - (intOf i).toNat)
          case atStart => exact ⟨0, Nat.zero_le _, rfl, rfl⟩
          case round =>
            obtain ⟨q, hq, rfl, rfl⟩ := hrel
            by_cases hlt : q < m
            · obtain ⟨g, rfl, hgb⟩ := Hg.out (by omega)
              obtain ⟨x, hx⟩ : ∃ x, (Pf.all j)[q]? = some x := ⟨_, List.getElem?_eq_getElem (by rw [Hm.out]; exact hlt)⟩
              have hrow := HP4.out.row j hjt
              rw [Hv.out] at hrow
              have hcx : wr.cell? ⟨g, q * 9 + 7, none⟩ = some (.int .i64 x.un) := by
                rw [hrow.cellAt (q * 9 + 7) (by rw [Hm.out]; omega), flatD_get hx 7 (by omega)]; rfl
              have hxu := Hdone.out j hjt x (List.mem_of_getElem? hx)
              have hqI : (q : Int) < (m : Int) := by omega
              have hqn : ¬ (q : Int) < 0 := by omega
              clear hrow hx
              go_wp2
              go_round
              case rel => exact ⟨q + 1, by omega, rfl, by go_num⟩
              case measure => simp [intOf]; omega
            · obtain rfl : q = m := by omega
              go_wp2_with (first
                | (go_at_call 27; refine Calls.mono HKp.out ?_; rintro e w5 ⟨va, mk, kcap, rfl, hmk, _, hb5⟩; dsimp only; have HB5 : Hid (Below wr.heap.size wr w5) := hb5; have hlk : (mk : Int) ≤ pkZ r 9 := (by rw [hmk]; exact Hlen.out); have hlk2 : (mk : Int) ≤ 8 := (by have := pkZ_bd r 9 (by decide); omega); clear hb5 hmk)
                | (go_at_call 28; refine Calls.mono (HC.out _) ?_; rintro e w6 ⟨rfl, rfl⟩; dsimp only))
              go_roundw
              case rel => first | exact ⟨j + 1, by omega, by go_num, HBl.out.trans (HB5.out.mono hsr)⟩ | exact ⟨j + 1, by omega, rfl, by go_num, HBl.out.trans (HB5.out.mono hsr)⟩
              case measure => simp [intOf]; omega
        · obtain rfl : j = 4 := by omega
          go_wp2
          go_ret
          exact ⟨rfl, HBf.out.trans (HBl.out.mono (by omega))⟩

end Go.Proofs.YtenaepdmlknlcaaGreatDoor
