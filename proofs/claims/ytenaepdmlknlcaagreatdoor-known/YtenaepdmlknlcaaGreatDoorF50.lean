import Derived.Test.YtenaepdmlknlcaaGreatDoorF49
namespace Go.Proofs.YtenaepdmlknlcaaGreatDoor
open Go.RowKit Go.Shelf

theorem ids_sendP {P : Pl} (h : Ids P.a) (n : Nat) (d : Dn) : Ids (sendP P n d).a := by
  unfold sendP; split
  · exact h
  · exact ids_send h n d.q
theorem ids_picksP {n : Nat} (hn : n < 4) : ∀ (j : Nat) {P : Pl}, Ids P.a → Ids (picksP P n j).a
  | 0, _, h => h
  | j + 1, P, h => by rw [show picksP P n (j + 1) = pickP (picksP P n j) n from picksP_add n j 1 P]; exact ids_tell (ids_pick (ids_picksP hn j h) hn) n

/-- A play that is asked, and a tile beside it. -/
structure KnAt (b0 p A : Nat) (Z : Nat → Prop) (v : Nat → Value) (Z' : Nat → Prop) (v' : Nat → Value) (Q : Pl) (tb : Nat) (x y z : Int) (w1 wr : World) : Prop where
  pn : PN b0 p A Z v Z' v' Q w1 wr
  c0 : wr.cell? ⟨tb, 0, none⟩ = some (.int .i64 x)
  c1 : wr.cell? ⟨tb, 1, none⟩ = some (.int .i64 y)
  c2 : wr.cell? ⟨tb, 2, none⟩ = some (.int .i64 z)
  nb : ¬ PB Z' p v' tb
  lt : tb < wr.heap.size
theorem KnAt.next {b0 p A : Nat} {Z : Nat → Prop} {v : Nat → Value} {Z' Z'' : Nat → Prop} {v' : Nat → Value} {Q Q' : Pl} {tb : Nat} {x y z : Int} {w1 wr wq : World} (h : KnAt b0 p A Z v Z' v' Q tb x y z w1 wr) (k : PN b0 p A Z' v' Z'' v' Q' wr wq) : KnAt b0 p A Z v Z'' v' Q' tb x y z w1 wq :=
  ⟨h.pn.trans k, (k.fr.cell tb 0 h.lt h.nb).trans h.c0, (k.fr.cell tb 1 h.lt h.nb).trans h.c1, (k.fr.cell tb 2 h.lt h.nb).trans h.c2, fun e => (k.sub tb e).elim h.nb (fun e' => by have := h.lt; omega), Nat.lt_of_lt_of_le h.lt k.fr.size⟩
theorem KnAt.drew {b0 p A : Nat} {Z : Nat → Prop} {v : Nat → Value} {Z' : Nat → Prop} {v' : Nat → Value} {Q : Pl} {tb : Nat} {x y z : Int} {w1 wr : World} (h : KnAt b0 p A Z v Z' v' Q tb x y z w1 wr) : KnAt b0 p A Z v Z' v' Q tb x y z w1 wr.drew :=
  h.next (h.pn.pl.grow ((Below.refl _ _).drew))

set_option maxRecDepth 100000 in
set_option maxHeartbeats 8000000 in
theorem Known_any (r : Int) (hr : i64 r) (a : Option Addr) (n cap : Nat) (l : List Rqv) (q : Rq) (hq : RqOk q) (pa : Option Addr) (pn pc : Nat) (w : World) (g : Gl w) (hl : ReqsAt w w.heap.size a l) (hn : n = l.length) (hlen : n ≤ 2199023255488) (hcap : n ≤ cap) :
    Calls Tryz.prog 6 #[.int .i64 r, .slice a n cap, rqV q (.slice pa pn pc)] w fun e w' => e = .returned (.bool true) ∧ Below w.heap.size w w' := by
  have hB0 : ∀ o : Obj, Below w.heap.size w (w.alloc o) := fun o => (Below.refl _ _).alloc (Nat.le_refl _) _
  have HBg : Hid (∀ W : World, Below w.heap.size w W → Calls Tryz.prog 16 #[.int .i64 r] W fun e w' => ∃ (p A : Nat) (Z : Nat → Prop) (v : Nat → Value), e = .returned (.tuple #[.pointer (some ⟨p, 0, none⟩), .bool true]) ∧ PlayAt w' W.heap.size p A Z v (newP r) ∧ Below W.heap.size W w') := fun W hW => begin_at r hr W (g.fr (M := fun _ _ => False) (Fr.of_below hW) (fun _ _ _ e => e))
  have HS : Hid (ReqsAt w w.heap.size a l) := hl
  have Hn : Hid (n = l.length) := hn
  have h8 : 8 ≤ w.heap.size := by have := g.sz; omega
  have HTl : Hid (∀ W : World, Calls Tryz.prog 20 #[rqV q (.slice pa pn pc)] W fun e w' => e = .returned (.agg #[.int .i64 (tileZ q).z, .int .i64 (tileZ q).c, .int .i64 (tileZ q).r]) ∧ Below W.heap.size W w') := fun W => qtile_any q hq pa pn pc W
  have HTg : Hid ((tileZ q).good) := tileZ_good q
  obtain ⟨tz0, tz1, tc0, tc1, tr0, tr1⟩ : 0 ≤ (tileZ q).z ∧ (tileZ q).z ≤ 3 ∧ 0 ≤ (tileZ q).c ∧ (tileZ q).c ≤ 7 ∧ 0 ≤ (tileZ q).r ∧ (tileZ q).r ≤ 7 := by
    obtain ⟨h0, h1⟩ := pkZ_bd q.a 4 (by decide)
    have hp : 0 < powZ (pkZ q.a 4) ∧ powZ (pkZ q.a 4) ≤ 8 := by unfold powZ; split <;> (try split) <;> (try split) <;> omega
    obtain ⟨h2, h3⟩ := pkZ_bd q.b _ hp.1
    obtain ⟨h4, h5⟩ := pkZ_bd q.c _ hp.1
    simp only [tileZ]
    omega
  obtain ⟨tl, htl⟩ : ∃ T, tileZ q = T := ⟨_, rfl⟩
  rw [htl] at HTl HTg tz0 tz1 tc0 tc1 tr0 tr1
  obtain ⟨x, y, z⟩ := tl
  dsimp only at HTl tz0 tz1 tc0 tc1 tr0 tr1
  clear hl hn g htl hq
  obtain ⟨qk, qa, qb, qc, qd, qps⟩ := q
  dsimp only [rqV] at *
  go_enter Tryz.func6, Tryz.ntmps6
  go_wp2_with (first
    | (go_at_call 16; refine Calls.mono (HBg.out _ (hB0 _)) ?_; rintro e w1 ⟨p, A, Z, v, rfl, hp1, hb1⟩; dsimp only; have hs1 : w.heap.size + 1 ≤ w1.heap.size := (by have := hb1.size; simpa using this); have HP1 : Hid (PlayAt w1 w.heap.size p A Z v (newP r)) := hp1.weaken (by simp) h8 (fun _ _ => rfl); have HB1 : Hid (Below w.heap.size w w1) := (hB0 _).trans (hb1.mono (by simp)); have HNb : Hid (¬ PB Z p v w.heap.size) := (fun e => by have := (hp1.pb e).1; simp at this; omega); have hq0 : ∀ i u, ([.int .i64 qk, .int .i64 qa, .int .i64 qb, .int .i64 qc, .int .i64 qd, .slice pa pn pc] : List Value)[i]? = some u → w1.cell? ⟨w.heap.size, i, none⟩ = some u := (fun i u hi => (hb1.cell (p := ⟨w.heap.size, i, none⟩) (by simp)).trans (by show (w.alloc _).cell? _ = _; rw [World.cell?_alloc_new]; simpa using hi)); have HQ1 : Hid _ := hq0; clear hp1 hb1 hq0))
  go_loopw [9] (fun i wr => ∃ k : Nat, k ≤ n ∧ i = .int .i64 k ∧ ∃ (Z' : Nat → Prop) (v' : Nat → Value) (P : Pl) (fs : List Feat), PN w.heap.size p A Z v Z' v' P w1 wr ∧ OneAt P k fs ∧ Ids P.a) (fun i _ => n - (intOf i).toNat)
  case atStart => exact ⟨0, Nat.zero_le _, rfl, Z, v, newP r, [], HP1.out.grow (Below.refl _ _), one_new r, ids_new _⟩
  case round =>
    obtain ⟨k, hk, rfl, Zk, vk, P, fs, hpn, hone, hids⟩ := hrel
    have HNk : Hid (PN w.heap.size p A Z v Zk vk P w1 wr) := hpn
    have HO : Hid (OneAt P k fs) := hone
    have HI : Hid (Ids P.a) := hids
    have HBr : Hid (Below w.heap.size w wr) := HB1.out.trans (hpn.below HP1.out)
    clear hpn hone hids
    by_cases hlt : k < n
    · obtain ⟨s, hs⟩ : ∃ s, l[k]? = some s := ⟨_, List.getElem?_eq_getElem (by have := Hn.out; omega)⟩
      obtain ⟨b, off, rfl, hbb, hsc⟩ : ∃ b off, a = some ⟨b, off, none⟩ ∧ b < w.heap.size ∧ ReqAt w w.heap.size b (off + k * 6) s.q s.pa s.pn s.pc := by
        rcases HS.out with e | ⟨b, off, e, hb, hc⟩
        · rw [e] at hs; simp at hs
        · exact ⟨b, off, e, hb, hc k s hs⟩
      have HSc : Hid (∀ W : World, Below w.heap.size w W → ReqAt W w.heap.size b (off + k * 6) s.q s.pa s.pn s.pc) := fun W hW => hsc.below hW hbb
      obtain ⟨c0, c1, c2, c3, c4, c5, _, _⟩ := HSc.out _ HBr.out
      clear hsc hs
      have hkI : (k : Int) < (n : Int) := by omega
      have hkn : ¬ (k : Int) < 0 := by omega
      have hk1 : k ≤ 2199023255488 := by omega
      have HS1 : Hid (Calls Tryz.prog 17 #[.pointer (some ⟨p, 0, none⟩), .int .i64 0, .agg #[.int .i64 s.q.k, .int .i64 s.q.a, .int .i64 s.q.b, .int .i64 s.q.c, .int .i64 s.q.d, .slice s.pa s.pn s.pc]] wr (SendPost w.heap.size p A 0 Zk vk P s.dn wr)) := send_any (n := 0) HNk.out.pl HO.out.ok (by decide) (by have := HO.out.len 0 (by decide); omega) s.dn (HSc.out _ HBr.out).ok (HSc.out _ HBr.out).raw rfl rfl rfl
      go_wp2_with (first
        | (go_at_call 17; refine Calls.mono HS1.out ?_; rintro e w3 ⟨rfl, Z1, v1, hpn⟩; dsimp only; have HT1 : Hid (PN w.heap.size p A Z v Z1 v1 (sendP P 0 s.dn) w1 w3) := HNk.out.trans hpn; clear hpn))
      have HSt : Hid (OneAt (picksP (sendP P 0 s.dn) 0 6) (k + 1) (fsR fs (askZ s.dn.q))) := (one_step HO.out hk1 (n := 0) (by decide) (d := s.dn) rfl).1
      have HQP : Hid (∀ j : Nat, j ≤ 6 → PlOk (picksP (sendP P 0 s.dn) 0 j) ∧ ((picksP (sendP P 0 s.dn) 0 j).all 0).length ≤ 2199023255488 ∧ (picksP (sendP P 0 s.dn) 0 j).time ≤ 100000000000000) := fun j hj => by
        have h1 := (inv_picksP (n := 0) (by decide) j (inv_sendP HO.out.inv 0 s.dn) (sendP_ok HO.out.ok (n := 0) (by decide) (d := s.dn) rfl) (by omega)).2
        refine ⟨h1, ?_, ?_⟩
        · rw [picksP_len]; have := send_len P 0 0 s.dn; have := HO.out.len 0 (by decide); omega
        · rw [picksP_time, send_time, HO.out.t]; omega
      have HI6 : Hid (Ids (picksP (sendP P 0 s.dn) 0 6).a) := ids_picksP (by decide) 6 (ids_sendP HI.out 0 s.dn)
      obtain ⟨P1, hP1⟩ : ∃ x, sendP P 0 s.dn = x := ⟨_, rfl⟩
      rw [hP1] at HT1 HQP HSt HI6
      clear hP1 HS1 c0 c1 c2 c3 c4 c5
      go_loopw [10, 11] (fun ok i wr => ∃ j : Nat, j ≤ 6 ∧ ok = .bool true ∧ i = .int .i64 j ∧ ∃ Z' v', PN w.heap.size p A Z v Z' v' (picksP P1 0 j) w1 wr) (fun _ i _ => 6 - (intOf i).toNat)
      case atStart => exact ⟨0, Nat.zero_le _, rfl, rfl, Z1, v1, HT1.out⟩
      case round =>
        obtain ⟨j, hj, rfl, rfl, Z3, v3, hpn⟩ := hrel
        have HT3 : Hid (PN w.heap.size p A Z v Z3 v3 (picksP P1 0 j) w1 wr) := hpn
        clear hpn
        by_cases hjt : j < 6
        · have hjI : (j : Int) < 6 := by omega
          obtain ⟨o1, o2, o3⟩ := HQP.out j hj
          have HK1 : Hid (Calls Tryz.prog 18 #[.pointer (some ⟨p, 0, none⟩), .int .i64 0] wr (PickD w.heap.size p A 0 Z3 v3 (picksP P1 0 j) wr)) := pick_any (n := 0) HT3.out.pl o1 (by decide) o2 o3
          clear o1 o2 o3
          go_wp2_with (go_at_call 18; refine Calls.mono HK1.out ?_; rintro e w5 ⟨rfl, Z5, v5, hpn⟩; dsimp only; have HT5 : Hid (PN w.heap.size p A Z v Z5 v5 (pickP (picksP P1 0 j) 0) w1 w5) := HT3.out.trans hpn; clear hpn)
          go_roundw
          case rel => exact ⟨j + 1, by omega, rfl, by go_num, Z5, v5, by rw [show picksP P1 0 (j + 1) = pickP (picksP P1 0 j) 0 from picksP_add 0 j 1 P1]; exact HT5.out⟩
          case measure => simp [intOf]; omega
        · obtain rfl : j = 6 := by omega
          go_wp2
          go_roundw
          case rel => exact ⟨k + 1, by omega, by go_num, Z3, v3, picksP P1 0 6, _, HT3.out, HSt.out, HI6.out⟩
          case measure => simp [intOf]; omega
    · obtain rfl : k = n := by omega
      have hask : AskOk P.a (6 * (k : Int)) fs := ⟨HO.out.ok.a, HO.out.inv, quiet_of HO.out.ok.a HO.out.wt, HO.out.fs⟩
      have hsz1 := decZ_size (n := x) (by omega) (by omega)
      have hsz2 := decZ_size (n := y) (by omega) (by omega)
      have hsz3 := decZ_size (n := z) (by omega) (by omega)
      have HgT : Hid (getT ⟨x, y, z⟩ = ⟨#[103, 101, 116, 32]⟩ ++ decZ x ++ ⟨#[32]⟩ ++ decZ y ++ ⟨#[32]⟩ ++ decZ z) := rfl
      obtain ⟨a1, a2, a3, a4, a5, m, M, F, G, X, hA, hm8, hF13, hF4, hF12, hG17, hG4, hG12, hGb, hX1, hX2⟩ := known_asks hask (by omega) (by rw [← HO.out.fs]; exact HI.out.fs) HTg.out (by
        rw [HgT.out]
        simp only [ByteArray.size_append]
        show 4 + (decZ x).size + 1 + (decZ y).size + 1 + (decZ z).size ≤ 100
        omega)
      obtain ⟨A1, A2, A3, A4, A5⟩ := hA w.heap.size p A vk
      have hw8 := w8_at HTg.out
      have hp99 := put99 ⟨x, y, z⟩
      have hsh : (256 : Int) / 2 ^ x.toNat = 8 * pZ x := by
        have h4 : x = 0 ∨ x = 1 ∨ x = 2 ∨ x = 3 := by omega
        rcases h4 with rfl | rfl | rfl | rfl <;> decide
      dsimp only at hw8 hp99
      obtain ⟨W8, hW8⟩ : ∃ u, 8 * pZ x = u := ⟨_, rfl⟩
      rw [hW8] at hw8 hp99 hsh
      obtain ⟨v1, v2, v3, v4, v5, v6⟩ := hw8
      have HC1 : Hid (∀ (i j : Int) (W : World), i = y * W8 → j = z * W8 → Calls Tryz.prog 23 #[.int .i64 i, .int .i64 j] W fun e w' => e = .returned (.string (ptT (y * W8, z * W8))) ∧ w' = W) := fun i j W hi hj => by subst hi hj; exact corner_any _ _ (by omega) (by omega) W
      have HC2 : Hid (∀ (i j : Int) (W : World), i = y * W8 + W8 - 1 → j = z * W8 → Calls Tryz.prog 23 #[.int .i64 i, .int .i64 j] W fun e w' => e = .returned (.string (ptT (y * W8 + W8 - 1, z * W8))) ∧ w' = W) := fun i j W hi hj => by subst hi hj; exact corner_any _ _ (by omega) (by omega) W
      have HC3 : Hid (∀ (i j : Int) (W : World), i = y * W8 + W8 - 1 → j = z * W8 + W8 - 1 → Calls Tryz.prog 23 #[.int .i64 i, .int .i64 j] W fun e w' => e = .returned (.string (ptT (y * W8 + W8 - 1, z * W8 + W8 - 1))) ∧ w' = W) := fun i j W hi hj => by subst hi hj; exact corner_any _ _ (by omega) (by omega) W
      have HC4 : Hid (∀ (i j : Int) (W : World), i = y * W8 → j = z * W8 + W8 - 1 → Calls Tryz.prog 23 #[.int .i64 i, .int .i64 j] W fun e w' => e = .returned (.string (ptT (y * W8, z * W8 + W8 - 1))) ∧ w' = W) := fun i j W hi hj => by subst hi hj; exact corner_any _ _ (by omega) (by omega) W
      have hq1 : ∀ i u, ([.int .i64 qk, .int .i64 qa, .int .i64 qb, .int .i64 qc, .int .i64 qd, .slice pa pn pc] : List Value)[i]? = some u → wr.cell? ⟨w.heap.size, i, none⟩ = some u := fun i u hi => (HNk.out.fr.cell w.heap.size i (by omega) HNb.out).trans (HQ1.out i u hi)
      have k0 := hq1 0 _ rfl
      have k1 := hq1 1 _ rfl
      have k2 := hq1 2 _ rfl
      have k3 := hq1 3 _ rfl
      have k4 := hq1 4 _ rfl
      have k5 := hq1 5 _ rfl
      have hszr : w.heap.size < wr.heap.size := by have := HNk.out.fr.size; omega
      have HD1 : Hid (∀ W : World, Calls Tryz.prog 21 #[.int .i64 x] W fun e w' => e = .returned (.string (decZ x)) ∧ w' = W) := fun W => decimal_any x (by omega) (by omega) W
      have HD2 : Hid (∀ W : World, Calls Tryz.prog 21 #[.int .i64 y] W fun e w' => e = .returned (.string (decZ y)) ∧ w' = W) := fun W => decimal_any y (by omega) (by omega) W
      have HD3 : Hid (∀ W : World, Calls Tryz.prog 21 #[.int .i64 z] W fun e w' => e = .returned (.string (decZ z)) ∧ w' = W) := fun W => decimal_any z (by omega) (by omega) W
      have HA1 : Hid (AskC w.heap.size p A vk P P.a a1 (getT ⟨x, y, z⟩) F) := A1
      have HA2 : Hid (AskC w.heap.size p A vk P a1 a2 (getT ⟨x, y, z⟩ ++ ⟨#[32]⟩ ++ m) (⟨#[51, 48, 52, 32]⟩ ++ m)) := A2
      have HA3 : Hid (AskC w.heap.size p A vk P a2 a3 (putT (f99 ⟨x, y, z⟩)) ⟨#[50, 48, 49]⟩) := A3
      have HA4 : Hid (AskC w.heap.size p A vk P a3 a4 (getT ⟨x, y, z⟩) G) := A4
      have HA5 : Hid (AskC w.heap.size p A vk P a4 a5 (getT ⟨x, y, z⟩ ++ ⟨#[32]⟩ ++ m) X) := A5
      rw [HgT.out] at HA1 HA2 HA4 HA5
      rw [hp99] at HA3
      have hps : ∀ i j : Int, -9 ≤ i → i ≤ 1000 → -9 ≤ j → j ≤ 1000 → (ptT (i, j)).size ≤ 9 := fun i j h1 h2 h3 h4 => by
        have e1 := decZ_size h1 h2
        have e2 := decZ_size h3 h4
        unfold ptT
        simp only [ByteArray.size_append]
        show (decZ i).size + 1 + (decZ j).size ≤ 9
        omega
      have r1 := hps (y * W8) (z * W8) (by omega) (by omega) (by omega) (by omega)
      have r2 := hps (y * W8 + W8 - 1) (z * W8) (by omega) (by omega) (by omega) (by omega)
      have r3 := hps (y * W8 + W8 - 1) (z * W8 + W8 - 1) (by omega) (by omega) (by omega) (by omega)
      have r4 := hps (y * W8) (z * W8 + W8 - 1) (by omega) (by omega) (by omega) (by omega)
      obtain ⟨s1, hs1⟩ : ∃ s, decZ x = s := ⟨_, rfl⟩
      obtain ⟨s2, hs2⟩ : ∃ s, decZ y = s := ⟨_, rfl⟩
      obtain ⟨s3, hs3⟩ : ∃ s, decZ z = s := ⟨_, rfl⟩
      rw [hs1] at HD1 hsz1 HA1 HA2 HA4 HA5
      rw [hs2] at HD2 hsz2 HA1 HA2 HA4 HA5
      rw [hs3] at HD3 hsz3 HA1 HA2 HA4 HA5
      obtain ⟨t1, ht1⟩ : ∃ s, ptT (y * W8, z * W8) = s := ⟨_, rfl⟩
      obtain ⟨t2, ht2⟩ : ∃ s, ptT (y * W8 + W8 - 1, z * W8) = s := ⟨_, rfl⟩
      obtain ⟨t3, ht3⟩ : ∃ s, ptT (y * W8 + W8 - 1, z * W8 + W8 - 1) = s := ⟨_, rfl⟩
      obtain ⟨t4, ht4⟩ : ∃ s, ptT (y * W8, z * W8 + W8 - 1) = s := ⟨_, rfl⟩
      rw [ht1] at HC1 HA3 r1
      rw [ht2] at HC2 HA3 r2
      rw [ht3] at HC3 HA3 r3
      rw [ht4] at HC4 HA3 r4
      have hcat1 : (9223372036854775807 < 4 + s1.size) = False := eq_false (by omega)
      have hcat2 : (9223372036854775807 < 4 + s1.size + 1) = False := eq_false (by omega)
      have hcat3 : (9223372036854775807 < 4 + s1.size + 1 + s2.size) = False := eq_false (by omega)
      have hcat4 : (9223372036854775807 < 4 + s1.size + 1 + s2.size + 1) = False := eq_false (by omega)
      have hcat5 : (9223372036854775807 < 4 + s1.size + 1 + s2.size + 1 + s3.size) = False := eq_false (by omega)
      clear hs1 hs2 hs3 ht1 ht2 ht3 ht4 hps hq1 A1 A2 A3 A4 A5 hA hask hp99 hW8 HgT HTg HO HI HS Hn HBg
      go_wp2_with (go_at_call 20; refine Calls.mono (HTl.out _) ?_; rintro e w5 ⟨rfl, hb5⟩; dsimp only; have HB5 : Hid _ := hb5; clear hb5)
      clear k0 k1 k2 k3 k4 k5
      go_region_held3 (fun w' => w'.cell? ⟨w5.heap.size, 0, none⟩ = some (.int .i64 x) ∧ w'.cell? ⟨w5.heap.size, 1, none⟩ = some (.int .i64 y) ∧ w'.cell? ⟨w5.heap.size, 2, none⟩ = some (.int .i64 z)) (first | (simp [go_sem]; done) | (simp [go_sem, *]; done))
          (first
            | (go_at_call_of 21 (Value.int IntKind.i64 x); refine Calls.mono (HD1.out _) ?_; rintro e w3 ⟨rfl, rfl⟩; dsimp only)
            | (go_at_call_of 21 (Value.int IntKind.i64 y); refine Calls.mono (HD2.out _) ?_; rintro e w3 ⟨rfl, rfl⟩; dsimp only)
            | (go_at_call_of 21 (Value.int IntKind.i64 z); refine Calls.mono (HD3.out _) ?_; rintro e w3 ⟨rfl, rfl⟩; dsimp only))
      have hs5 : wr.heap.size ≤ w5.heap.size := HB5.out.size
      have HK0 : Hid (KnAt w.heap.size p A Z v Zk vk P w5.heap.size x y z w1 (w5.alloc (.cells #[.int .i64 x, .int .i64 y, .int .i64 z] 24)).drew) := by
        refine ⟨HNk.out.trans (HNk.out.pl.grow ((HB5.out.alloc hs5 _).drew)), ?_, ?_, ?_, fun e => ?_, by simp⟩
        · show (w5.alloc _).cell? _ = _
          rw [World.cell?_alloc_new]; rfl
        · show (w5.alloc _).cell? _ = _
          rw [World.cell?_alloc_new]; rfl
        · show (w5.alloc _).cell? _ = _
          rw [World.cell?_alloc_new]; rfl
        · have := (HNk.out.pl.pb e).2; omega
      have hF13i : ¬ (F.size : Int) < 13 := by omega
      have hcat6 : (9223372036854775807 < 4 + s1.size + 1 + s2.size + 1 + s3.size + 1) = False := eq_false (by omega)
      have hcat7 : (9223372036854775807 < 4 + s1.size + 1 + s2.size + 1 + s3.size + 1 + m.size) = False := eq_false (by omega)
      go_wp2_with (first
        | (go_at_call 22; refine Calls.mono (HA1.out _ _ HK0.out.pn.pl) ?_; rintro e w6 ⟨rfl, Z6, hpn⟩; dsimp only; have HK1 : Hid (KnAt w.heap.size p A Z v Z6 vk { P with a := a1 } w5.heap.size x y z w1 w6) := HK0.out.next hpn; clear hpn HA1)
        | (go_at_call 22; refine Calls.mono (HA2.out _ _ HK1.out.pn.pl) ?_; rintro e w7 ⟨rfl, Z7, hpn⟩; dsimp only; have HK2 : Hid (KnAt w.heap.size p A Z v Z7 vk { P with a := a2 } w5.heap.size x y z w1 w7) := HK1.out.next hpn; obtain ⟨_, d0, d1, d2, _, d3⟩ := HK2.out; clear hpn HA2))
      try rw [hsh]
      have g1 : (9223372036854775807 < 16 + t1.size) = False := eq_false (by omega)
      have g2 : (9223372036854775807 < 16 + t1.size + 1) = False := eq_false (by omega)
      have g3 : (9223372036854775807 < 16 + t1.size + 1 + t2.size) = False := eq_false (by omega)
      have g4 : (9223372036854775807 < 16 + t1.size + 1 + t2.size + 1) = False := eq_false (by omega)
      have g5 : (9223372036854775807 < 16 + t1.size + 1 + t2.size + 1 + t3.size) = False := eq_false (by omega)
      have g6 : (9223372036854775807 < 16 + t1.size + 1 + t2.size + 1 + t3.size + 1) = False := eq_false (by omega)
      have g7 : (9223372036854775807 < 16 + t1.size + 1 + t2.size + 1 + t3.size + 1 + t4.size) = False := eq_false (by omega)
      have e1 : IntKind.i64.wrap (y * W8) = y * W8 := by rw [IntKind.wrap_i64]; omega
      have e2 : IntKind.i64.wrap (z * W8) = z * W8 := by rw [IntKind.wrap_i64]; omega
      have e3 : IntKind.i64.wrap (y * W8 + W8) = y * W8 + W8 := by rw [IntKind.wrap_i64]; omega
      have e4 : IntKind.i64.wrap (z * W8 + W8) = z * W8 + W8 := by rw [IntKind.wrap_i64]; omega
      have e5 : IntKind.i64.wrap (y * W8 + W8 - 1) = y * W8 + W8 - 1 := by rw [IntKind.wrap_i64]; omega
      have e6 : IntKind.i64.wrap (z * W8 + W8 - 1) = z * W8 + W8 - 1 := by rw [IntKind.wrap_i64]; omega
      clear HB5 HK0 HK1 HNk HNb HQ1 HBr HTl HD1 HD2 HD3 hB0
      go_region_held3 (fun w' => w'.cell? ⟨w5.heap.size, 1, none⟩ = some (.int .i64 y) ∧ w'.cell? ⟨w5.heap.size, 2, none⟩ = some (.int .i64 z)) (first | (simp [go_sem]; done) | (simp [go_sem, *]; done) | exact ⟨HK3.out.c1, HK3.out.c2⟩)
          (first
            | (go_at_call 23; refine Calls.mono (HC1.out _ _ _ (by first | rfl | omega | (rw [IntKind.wrap_i64]; omega) | (simp only [IntKind.wrap_i64]; omega) | (simp only [wrap64]; omega)) (by first | rfl | omega | (rw [IntKind.wrap_i64]; omega) | (simp only [IntKind.wrap_i64]; omega) | (simp only [wrap64]; omega))) ?_; rintro e w3 ⟨rfl, rfl⟩; dsimp only)
            | (go_at_call 23; refine Calls.mono (HC2.out _ _ _ (by first | rfl | omega | (rw [IntKind.wrap_i64]; omega) | (simp only [IntKind.wrap_i64]; omega) | (simp only [wrap64]; omega)) (by first | rfl | omega | (rw [IntKind.wrap_i64]; omega) | (simp only [IntKind.wrap_i64]; omega) | (simp only [wrap64]; omega))) ?_; rintro e w3 ⟨rfl, rfl⟩; dsimp only)
            | (go_at_call 23; refine Calls.mono (HC3.out _ _ _ (by first | rfl | omega | (rw [IntKind.wrap_i64]; omega) | (simp only [IntKind.wrap_i64]; omega) | (simp only [wrap64]; omega)) (by first | rfl | omega | (rw [IntKind.wrap_i64]; omega) | (simp only [IntKind.wrap_i64]; omega) | (simp only [wrap64]; omega))) ?_; rintro e w3 ⟨rfl, rfl⟩; dsimp only)
            | (go_at_call 23; refine Calls.mono (HC4.out _ _ _ (by first | rfl | omega | (rw [IntKind.wrap_i64]; omega) | (simp only [IntKind.wrap_i64]; omega) | (simp only [wrap64]; omega)) (by first | rfl | omega | (rw [IntKind.wrap_i64]; omega) | (simp only [IntKind.wrap_i64]; omega) | (simp only [wrap64]; omega))) ?_; rintro e w3 ⟨rfl, rfl⟩; dsimp only)
            | (go_at_call 22; refine Calls.mono (HA3.out _ _ (by first | exact HK2.out.pn.pl | exact HK2.out.drew.pn.pl)) ?_; rintro e w8 ⟨rfl, Z8, hpn⟩; dsimp only; have HK3 : Hid (KnAt w.heap.size p A Z v Z8 vk { P with a := a3 } w5.heap.size x y z w1 w8) := (by first | exact HK2.out.next hpn | exact HK2.out.drew.next hpn); clear hpn))
      have hG13i : ¬ (G.size : Int) < 13 := by omega
      clear HK2 HC1 HC2 HC3 HC4 g1 g2 g3 g4 g5 g6 g7 e1 e2 e3 e4 e5 e6
      have hcat8 : (9223372036854775807 < 4 + m.size) = False := eq_false (by omega)
      by_cases hMm : M = m
      · have hX := hX1 hMm
        subst hMm
        subst hX
        clear hX1 hX2
        go_wp2_with (first
          | (go_at_call 22; refine Calls.mono (HA4.out _ _ (by first | exact HK3.out.pn.pl | exact HK3.out.drew.pn.pl)) ?_; rintro e w9 ⟨rfl, Z9, hpn⟩; dsimp only; have HK4 : Hid (KnAt w.heap.size p A Z v Z9 vk { P with a := a4 } w5.heap.size x y z w1 w9) := (by first | exact HK3.out.next hpn | exact HK3.out.drew.next hpn); clear hpn HA4)
          | (go_at_call 22; refine Calls.mono (HA5.out _ _ HK4.out.pn.pl) ?_; rintro e w10 ⟨rfl, Z10, hpn⟩; dsimp only; have HK5 : Hid (KnAt w.heap.size p A Z v Z10 vk { P with a := a5 } w5.heap.size x y z w1 w10) := HK4.out.next hpn; clear hpn HA5))
        go_ret
        exact ⟨rfl, HB1.out.trans (HK5.out.pn.below HP1.out)⟩
      · have hX := hX2 hMm
        subst hX
        clear hX1 hX2
        have hMm2 : (M.toList == m.toList) = false := by rw [eqS]; exact decide_eq_false hMm
        go_wp2_with (first
          | (go_at_call 22; refine Calls.mono (HA4.out _ _ (by first | exact HK3.out.pn.pl | exact HK3.out.drew.pn.pl)) ?_; rintro e w9 ⟨rfl, Z9, hpn⟩; dsimp only; have HK4 : Hid (KnAt w.heap.size p A Z v Z9 vk { P with a := a4 } w5.heap.size x y z w1 w9) := (by first | exact HK3.out.next hpn | exact HK3.out.drew.next hpn); clear hpn HA4)
          | (go_at_call 22; refine Calls.mono (HA5.out _ _ HK4.out.pn.pl) ?_; rintro e w10 ⟨rfl, Z10, hpn⟩; dsimp only; have HK5 : Hid (KnAt w.heap.size p A Z v Z10 vk { P with a := a5 } w5.heap.size x y z w1 w10) := HK4.out.next hpn; clear hpn HA5))
        go_ret
        exact ⟨rfl, HB1.out.trans (HK5.out.pn.below HP1.out)⟩

end Go.Proofs.YtenaepdmlknlcaaGreatDoor
