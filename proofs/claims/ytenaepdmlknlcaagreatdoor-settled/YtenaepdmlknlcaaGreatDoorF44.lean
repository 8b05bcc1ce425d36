import Derived.Test.YtenaepdmlknlcaaGreatDoorF43
import Derived.Test.YtenaepdmlknlcaaGreatDoorF37
import Derived.Test.YtenaepdmlknlcaaGreatDoorF41
namespace Go.Proofs.YtenaepdmlknlcaaGreatDoor
open Go.RowKit Go.Shelf

/-! Requests that are done one at a time. -/
theorem inv_turn {a : Atl} {T : Int} (h : Inv a T) (hf : FairOk a) (hT : T < 4611686018427387904) {n : Nat} (hn : n < 4) : Inv (turnM a n) (T + 1) := inv_tell (inv_pick h hf.ok hf.lock hT hn) n
theorem inv_picksP {n : Nat} (hn : n < 4) : ∀ (j : Nat) {P : Pl} {T : Int}, Inv P.a T → PlOk P → T + j < 4611686018427387904 → Inv (picksP P n j).a (T + j) ∧ PlOk (picksP P n j)
  | 0, P, T, h, ho, _ => ⟨by simpa [picksP] using h, ho⟩
  | j + 1, P, T, h, ho, hT => by
    have h1 := inv_turn h ho.a (by omega) hn
    have := inv_picksP hn j (P := pickP P n) (T := T + 1) h1 (pickP_ok ho hn) (by omega)
    rw [show T + ((j + 1 : Nat) : Int) = T + 1 + (j : Int) by omega]
    exact this
theorem picksP_len (n k : Nat) : ∀ (j : Nat) (P : Pl), ((picksP P n j).all k).length = (P.all k).length
  | 0, _ => rfl
  | j + 1, P => by show ((picksP (pickP P n) n j).all k).length = _; rw [picksP_len n k j, pick_len]
theorem picksP_time (n : Nat) : ∀ (j : Nat) (P : Pl), (picksP P n j).time = P.time + j
  | 0, P => by show P.time = _; simp
  | j + 1, P => by show (picksP (pickP P n) n j).time = _; rw [picksP_time n j]; show P.time + 1 + _ = _; omega
/-- A play behind k requests that were done one at a time. -/
structure OneAt (P : Pl) (k : Nat) (fs : List Feat) : Prop where
  ok : PlOk P
  inv : Inv P.a (6 * (k : Int))
  wt : ∀ n, n < 4 → waitS (P.a.ss n) = 0
  fs : P.a.g.fs = fs
  len : ∀ n, n < 4 → (P.all n).length ≤ k
  t : P.time = 6 * (k : Int)
theorem one_new (r : Int) : OneAt (newP r) 0 [] := ⟨newP_ok r, newM_inv _, fun _n _ => rfl, rfl, fun _n _ => Nat.le_refl 0, rfl⟩
theorem send_time (P : Pl) (n : Nat) (d : Dn) : (sendP P n d).time = P.time := by unfold sendP; split <;> rfl
theorem inv_sendP {P : Pl} {T : Int} (h : Inv P.a T) (n : Nat) (d : Dn) : Inv (sendP P n d).a T := by
  unfold sendP; split
  · exact h
  · exact inv_send h n _
theorem one_step {P : Pl} {k : Nat} {fs : List Feat} (h : OneAt P k fs) (hk : k ≤ 2199023255488) {n : Nat} (hn : n < 4) {d : Dn} (hd : d.un = 0) :
    OneAt (picksP (sendP P n d) n 6) (k + 1) (fsR fs (askZ d.q)) ∧ ∃ d', (picksP (sendP P n d) n 6).all n = P.all n ++ [d'] ∧ d'.an = ansR fs (askZ d.q) ∧ 0 < d'.un := by
  obtain ⟨d', h1, h2, h3, h4, h5, h6, h7⟩ := ask_play h.ok h.inv.kept h.wt hn d hd
  rw [readP_text] at h2 h6
  rw [h.fs] at h2 h6
  obtain ⟨i1, i2⟩ := inv_picksP hn 6 (inv_sendP h.inv n d) (sendP_ok h.ok hn hd) (by omega)
  refine ⟨⟨i2, ?_, fun m hm => by rw [h7.ss m hm]; rfl, h6, fun m hm => ?_, ?_⟩, d', h1, h2, h3⟩
  · have e : 6 * ((k + 1 : Nat) : Int) = 6 * (k : Int) + ((6 : Nat) : Int) := by omega
    rw [e]; exact i1
  · rw [picksP_len]
    have := send_len P n m d
    have := h.len m hm
    omega
  · rw [picksP_time, send_time, h.t]; omega

/-! Two plays side by side, and a list of features beside them. -/
structure Two (w0 : World) (p A : Nat) (Z : Nat → Prop) (v : Nat → Value) (r A' : Nat) (Z' : Nat → Prop) (v' : Nat → Value) (fa : Option Addr) (gs : List FG) (P R : Pl) (w : World) : Prop where
  pp : PlayAt w w0.heap.size p A Z v P
  pr : PlayAt w w0.heap.size r A' Z' v' R
  dis : ∀ b, PB Z p v b → ¬ PB Z' r v' b
  f : FeatsQ (fun b => b < w.heap.size ∧ ¬ PB Z p v b ∧ ¬ PB Z' r v' b) w fa gs
  bl : Below w0.heap.size w0 w
theorem Two.left {w0 : World} {p A : Nat} {Z : Nat → Prop} {v : Nat → Value} {r A' : Nat} {Z' : Nat → Prop} {v' : Nat → Value} {fa : Option Addr} {gs : List FG} {P R P' : Pl} {w w' : World} (h : Two w0 p A Z v r A' Z' v' fa gs P R w) {Z1 : Nat → Prop} {v1 : Nat → Value} (k : PN w0.heap.size p A Z v Z1 v1 P' w w') : Two w0 p A Z1 v1 r A' Z' v' fa gs P' R w' := by
  have hnew : ∀ b, PB Z1 p v1 b → b < w.heap.size → PB Z p v b := fun b hb hl => (k.sub b hb).elim id (fun e => by omega)
  refine ⟨k.pl, h.pr.fr k.fr fun b i e => ⟨(h.pp.pb e).1, h.dis b e⟩, fun b hb hb' => ?_, ?_, h.bl.trans (k.below h.pp)⟩
  · exact h.dis b (hnew b hb (h.pr.pb hb').2) hb'
  · refine (h.f.fr k.fr fun b i e hq => hq.2.1 e).mono fun b hb => ⟨Nat.lt_of_lt_of_le hb.1 k.fr.size, fun e => hb.2.1 (hnew b e hb.1), hb.2.2⟩
theorem Two.right {w0 : World} {p A : Nat} {Z : Nat → Prop} {v : Nat → Value} {r A' : Nat} {Z' : Nat → Prop} {v' : Nat → Value} {fa : Option Addr} {gs : List FG} {P R R' : Pl} {w w' : World} (h : Two w0 p A Z v r A' Z' v' fa gs P R w) {Z1 : Nat → Prop} {v1 : Nat → Value} (k : PN w0.heap.size r A' Z' v' Z1 v1 R' w w') : Two w0 p A Z v r A' Z1 v1 fa gs P R' w' := by
  have hnew : ∀ b, PB Z1 r v1 b → b < w.heap.size → PB Z' r v' b := fun b hb hl => (k.sub b hb).elim id (fun e => by omega)
  refine ⟨h.pp.fr k.fr fun b i e => ⟨(h.pr.pb e).1, fun e' => h.dis b e' e⟩, k.pl, fun b hb hb' => ?_, ?_, h.bl.trans (k.below h.pr)⟩
  · exact h.dis b hb (hnew b hb' (h.pp.pb hb).2)
  · refine (h.f.fr k.fr fun b i e hq => hq.2.2 e).mono fun b hb => ⟨Nat.lt_of_lt_of_le hb.1 k.fr.size, hb.2.1, fun e => hb.2.2 (hnew b e hb.1)⟩
theorem FeatsQ.lt {Q : Nat → Prop} {w : World} {a : Option Addr} {gs : List FG} (k : FeatsQ Q w a gs) (hv : ∀ g ∈ gs, validF g.f = true) : FeatsQ (fun b => Q b ∧ b < w.heap.size) w a gs := by
  rcases k with e | ⟨b, off, e, hq, hb, hc⟩
  · exact .inl e
  · refine .inr ⟨b, off, e, ⟨hq, hb⟩, hb, fun i g hg => ⟨⟨(hc i g hg).1.pts, (hc i g hg).1.cap, (hc i g hg).1.few, fun x ex => ⟨(hc i g hg).1.q x ex, ?_⟩⟩, (hc i g hg).2⟩⟩
    have hl := (valid_len (hv g (List.mem_of_getElem? hg))).1
    rcases (hc i g hg).1.pts with e0 | ⟨pb, po, ea, hp, _⟩
    · rw [e0] at hl; simp at hl
    · rw [ea] at ex; cases ex; exact hp
/-- once leaves both plays as they are. -/
theorem Two.list {w0 : World} {p A : Nat} {Z : Nat → Prop} {v : Nat → Value} {r A' : Nat} {Z' : Nat → Prop} {v' : Nat → Value} {fa fa' : Option Addr} {gs gs' : List FG} {P R : Pl} {w w' : World} (h : Two w0 p A Z v r A' Z' v' fa gs P R w) (hb : Below w.heap.size w w') (hf : FeatsQ (fun b => (b < w.heap.size ∧ ¬ PB Z p v b ∧ ¬ PB Z' r v' b) ∨ w.heap.size ≤ b) w' fa' gs') (hv : ∀ g ∈ gs', validF g.f = true) : Two w0 p A Z v r A' Z' v' fa' gs' P R w' := by
  refine ⟨(h.pp.grow hb).pl, (h.pr.grow hb).pl, h.dis, (hf.lt hv).mono fun b hq => ⟨hq.2, ?_⟩, h.bl.trans (hb.mono h.bl.size)⟩
  rcases hq.1 with hq | hq
  · exact hq.2
  · exact ⟨fun e => by have := (h.pp.pb e).2; omega, fun e => by have := (h.pr.pb e).2; omega⟩
theorem Two.grow {w0 : World} {p A : Nat} {Z : Nat → Prop} {v : Nat → Value} {r A' : Nat} {Z' : Nat → Prop} {v' : Nat → Value} {fa : Option Addr} {gs : List FG} {P R : Pl} {w w' : World} (h : Two w0 p A Z v r A' Z' v' fa gs P R w) (hb : Below w.heap.size w w') : Two w0 p A Z v r A' Z' v' fa gs P R w' :=
  ⟨(h.pp.grow hb).pl, (h.pr.grow hb).pl, h.dis, (h.f.below hb).mono fun _ hq => ⟨Nat.lt_of_lt_of_le hq.1 hb.size, hq.2⟩, h.bl.trans (hb.mono h.bl.size)⟩
/-- A new play may be taken for one that lies higher than it must. -/
theorem PlayAt.weaken {w : World} {b0 b1 p A : Nat} {Z : Nat → Prop} {v : Nat → Value} {P : Pl} (h : PlayAt w b1 p A Z v P) (hb : b0 ≤ b1) (h8 : 8 ≤ b0) (hn : ∀ n, n < 4 → P.all n = []) : PlayAt w b0 p A Z v P :=
  ⟨h.atl, h8, fun b hz => Nat.le_trans hb (h.z0 b hz), Nat.le_trans hb h.p0, h.pz, h.pl, h.c0, h.cr, h.c5, h.c6, h.fz, fun n hn' => ownsRow_le (h.row n hn') hb, h.rp, h.rz, h.rr, fun n hn' d hd => by rw [hn n hn'] at hd; cases hd⟩
/-- Requests in memory, below b0. -/
structure ReqAt (w : World) (b0 b off : Nat) (q : Rq) (pa : Option Addr) (pn pc : Nat) : Prop where
  c0 : w.cell? ⟨b, off, none⟩ = some (.int .i64 q.k)
  c1 : w.cell? ⟨b, off + 1, none⟩ = some (.int .i64 q.a)
  c2 : w.cell? ⟨b, off + 2, none⟩ = some (.int .i64 q.b)
  c3 : w.cell? ⟨b, off + 3, none⟩ = some (.int .i64 q.c)
  c4 : w.cell? ⟨b, off + 4, none⟩ = some (.int .i64 q.d)
  c5 : w.cell? ⟨b, off + 5, none⟩ = some (.slice pa pn pc)
  ok : RqOk q
  raw : RawU w b0 pa pn q.ps
structure Rqv where
  q : Rq
  pa : Option Addr
  pn : Nat
  pc : Nat
def Rqv.dn (s : Rqv) : Dn := ⟨s.q, s.pa, s.pn, s.pc, 0, 0, ⟨#[]⟩⟩
def ReqsAt (w : World) (b0 : Nat) (a : Option Addr) (l : List Rqv) : Prop := l = [] ∨ ∃ b off, a = some ⟨b, off, none⟩ ∧ b < b0 ∧ ∀ (i : Nat) s, l[i]? = some s → ReqAt w b0 b (off + i * 6) s.q s.pa s.pn s.pc
theorem ReqAt.below {w w' : World} {b0 b off : Nat} {q : Rq} {pa : Option Addr} {pn pc : Nat} (h : ReqAt w b0 b off q pa pn pc) (hb : Below b0 w w') (hl : b < b0) : ReqAt w' b0 b off q pa pn pc := by
  have hc : ∀ i, w'.cell? ⟨b, i, none⟩ = w.cell? ⟨b, i, none⟩ := fun i => hb.cell (p := ⟨b, i, none⟩) hl
  exact ⟨(hc _).trans h.c0, (hc _).trans h.c1, (hc _).trans h.c2, (hc _).trans h.c3, (hc _).trans h.c4, (hc _).trans h.c5, h.ok, h.raw.below hb⟩

end Go.Proofs.YtenaepdmlknlcaaGreatDoor

namespace Go.Proofs.YtenaepdmlknlcaaGreatDoor
open Go.RowKit Go.Shelf

theorem picksP_snoc (P : Pl) (n j : Nat) : picksP P n (j + 1) = pickP (picksP P n j) n := picksP_add n j 1 P
/-- The last request of a session, in memory. -/
theorem last_row {w : World} {b0 p A : Nat} {Z : Nat → Prop} {v : Nat → Value} {P : Pl} (h : PlayAt w b0 p A Z v P) {n : Nat} (hn : n < 4) {l : List Dn} {d : Dn} (e : P.all n = l ++ [d]) : ∃ g cap : Nat, w.cell? ⟨p, 1 + n, none⟩ = some (.slice (some ⟨g, 0, none⟩) (l.length + 1) cap) ∧ l.length + 1 ≤ cap ∧ g < w.heap.size ∧ ∀ j u, (dnV d)[j]? = some u → w.cell? ⟨g, l.length * 9 + j, none⟩ = some u := by
  have hrow := h.row n hn
  have hlen : (P.all n).length = l.length + 1 := by rw [e]; simp
  obtain ⟨a, cap, hv, hc, hg⟩ := row_form hrow
  obtain ⟨g, rfl, _⟩ := hg (by omega)
  rw [hlen] at hv hc
  rw [hv, hlen] at hrow
  refine ⟨g, cap, by rw [← hv]; exact h.cr n hn, hc, (hrow.lt g rfl).2, fun j u hj => ?_⟩
  have hj9 : j < 9 := (List.getElem?_eq_some_iff.1 hj).1
  have hx : (P.all n)[l.length]? = some d := by rw [e]; simp
  rw [hrow.cellAt (l.length * 9 + j) (by omega), flatD_get hx j hj9]
  exact hj

set_option maxRecDepth 100000 in
set_option maxHeartbeats 8000000 in
theorem Roomless_any (r o : Int) (hr : i64 r) (hro : i64 o) (a : Option Addr) (n cap : Nat) (l : List Rqv) (w : World) (g : Gl w) (hl : ReqsAt w w.heap.size a l) (hn : n = l.length) (hlen : n ≤ 2199023255488) (hcap : n ≤ cap) :
    Calls Tryz.prog 5 #[.int .i64 r, .int .i64 o, .slice a n cap] w fun e w' => e = .returned (.bool true) ∧ Below w.heap.size w w' := by
  have HBg : Hid (∀ (x : Int) (W : World), i64 x → Gl W → Calls Tryz.prog 16 #[.int .i64 x] W fun e w' => ∃ (p A : Nat) (Z : Nat → Prop) (v : Nat → Value), e = .returned (.tuple #[.pointer (some ⟨p, 0, none⟩), .bool true]) ∧ PlayAt w' W.heap.size p A Z v (newP x) ∧ Below W.heap.size W w') := fun x W hx gW => begin_at x hx W gW
  have HG : Hid (Gl w) := g
  have HS : Hid (ReqsAt w w.heap.size a l) := hl
  have Hn : Hid (n = l.length) := hn
  have Hr : Hid (i64 r) := hr
  have Hro : Hid (i64 o) := hro
  clear hl hn g hr hro
  go_enter Tryz.func5, Tryz.ntmps5
  go_wp2_with (first
    | (go_at_call_of 16 (Value.int IntKind.i64 r); refine Calls.mono (HBg.out r _ Hr.out HG.out) ?_; rintro e w1 ⟨p, A, Z0, v0, rfl, hp1, hb1⟩; dsimp only; have HP1 : Hid _ := hp1; have HB1 : Hid _ := hb1; have HG1 : Hid (Gl w1) := hp1.atl.gl; clear hp1 hb1)
    | (go_at_call_of 16 (Value.int IntKind.i64 o); refine Calls.mono (HBg.out o _ Hro.out HG1.out) ?_; rintro e w2 ⟨q, A', Z0', v0', rfl, hp2, hb2⟩; dsimp only; have HP2 : Hid _ := hp2; have HB2 : Hid _ := hb2; clear hp2 hb2))
  have HT0 : Hid (Two w p A Z0 v0 q A' Z0' v0' none [] (newP r) (newP o) w2) := by
    have hs1 := HB1.out.size
    refine ⟨(HP1.out.grow HB2.out).pl, HP2.out.weaken hs1 (by have := HG.out.sz; omega) (fun _ _ => rfl), fun b hb hb' => ?_, .inl rfl, HB1.out.trans (HB2.out.mono hs1)⟩
    have h1 := (HP1.out.pb hb).2
    have h2 := (HP2.out.pb hb').1
    omega
  clear HP1 HP2 HB1 HB2 HG1 HBg
  go_loopw [11, 12] (fun f i wr => ∃ k : Nat, k ≤ n ∧ i = .int .i64 k ∧ ∃ (fa : Option Addr) (fcap : Nat) (gs : List FG) (Z : Nat → Prop) (v : Nat → Value) (Z' : Nat → Prop) (v' : Nat → Value) (P R : Pl), f = .slice fa gs.length fcap ∧ gs.length ≤ fcap ∧ Two w p A Z v q A' Z' v' fa gs P R wr ∧ OneAt P k (gs.map (·.f)) ∧ OneAt R k (gs.map (·.f))) (fun _ i _ => n - (intOf i).toNat)
  case atStart => exact ⟨0, Nat.zero_le _, rfl, none, 0, [], Z0, v0, Z0', v0', newP r, newP o, rfl, Nat.le_refl _, HT0.out, one_new r, one_new o⟩
  case round =>
    obtain ⟨k, hk, rfl, fa, fcap, gs, Z, v, Z', v', P, R, rfl, hfc, htw, hoP, hoR⟩ := hrel
    have HT : Hid (Two w p A Z v q A' Z' v' fa gs P R wr) := htw
    have HoP : Hid (OneAt P k (gs.map (·.f))) := hoP
    have HoR : Hid (OneAt R k (gs.map (·.f))) := hoR
    clear htw hoP hoR
    by_cases hlt : k < n
    · obtain ⟨s, hs⟩ : ∃ s, l[k]? = some s := ⟨_, List.getElem?_eq_getElem (by have := Hn.out; omega)⟩
      obtain ⟨b, off, rfl, hbb, hsc⟩ : ∃ b off, a = some ⟨b, off, none⟩ ∧ b < w.heap.size ∧ ReqAt w w.heap.size b (off + k * 6) s.q s.pa s.pn s.pc := by
        rcases HS.out with e | ⟨b, off, e, hb, hc⟩
        · rw [e] at hs; simp at hs
        · exact ⟨b, off, e, hb, hc k s hs⟩
      have HSc : Hid (∀ W : World, Below w.heap.size w W → ReqAt W w.heap.size b (off + k * 6) s.q s.pa s.pn s.pc) := fun W hW => hsc.below hW hbb
      obtain ⟨c0, c1, c2, c3, c4, c5, _, _⟩ := HSc.out _ HT.out.bl
      clear hsc hs
      obtain ⟨m, hm⟩ : ∃ m, k % 4 = m := ⟨_, rfl⟩
      have hm4 : m < 4 := by omega
      have hmI : (k : Int).tmod 4 = (m : Int) := by rw [Int.tmod_eq_emod_of_nonneg (by omega)]; omega
      have hmI2 : (k : Int) % 4 = (m : Int) := by omega
      clear hm
      have hkI : (k : Int) < (n : Int) := by omega
      have hkn : ¬ (k : Int) < 0 := by omega
      have hk1 : k ≤ 2199023255488 := by omega
      have HS1 : Hid (Calls Tryz.prog 17 #[.pointer (some ⟨p, 0, none⟩), .int .i64 (m : Int), .agg #[.int .i64 s.q.k, .int .i64 s.q.a, .int .i64 s.q.b, .int .i64 s.q.c, .int .i64 s.q.d, .slice s.pa s.pn s.pc]] wr (SendPost w.heap.size p A m Z v P s.dn wr)) := send_any HT.out.pp HoP.out.ok hm4 (by have := HoP.out.len m hm4; omega) s.dn (HSc.out _ HT.out.bl).ok (HSc.out _ HT.out.bl).raw rfl rfl rfl
      have HS2 : Hid (∀ (W : World) (Z1 : Nat → Prop) (v1 : Nat → Value) (P1 : Pl), Two w p A Z1 v1 q A' Z' v' fa gs P1 R W → Calls Tryz.prog 17 #[.pointer (some ⟨q, 0, none⟩), .int .i64 0, .agg #[.int .i64 s.q.k, .int .i64 s.q.a, .int .i64 s.q.b, .int .i64 s.q.c, .int .i64 s.q.d, .slice s.pa s.pn s.pc]] W (SendPost w.heap.size q A' 0 Z' v' R s.dn W)) := fun W Z1 v1 P1 hW => send_any (n := 0) hW.pr HoR.out.ok (by decide) (by have := HoR.out.len 0 (by decide); omega) s.dn (HSc.out _ hW.bl).ok (HSc.out _ hW.bl).raw rfl rfl rfl
      go_wp2_with (first
        | (go_at_call_of 17 (Value.pointer (some ⟨p, 0, none⟩)); refine Calls.mono HS1.out ?_; rintro e w3 ⟨rfl, Z1, v1, hpn⟩; dsimp only; have HT1 : Hid (Two w p A Z1 v1 q A' Z' v' fa gs (sendP P m s.dn) R w3) := HT.out.left hpn; obtain ⟨c0, c1, c2, c3, c4, c5, _, _⟩ := HSc.out _ HT1.out.bl; clear hpn)
        | (go_at_call_of 17 (Value.pointer (some ⟨q, 0, none⟩)); refine Calls.mono (HS2.out _ _ _ _ HT1.out) ?_; rintro e w4 ⟨rfl, Z2, v2, hpn⟩; dsimp only; have HT2 : Hid (Two w p A Z1 v1 q A' Z2 v2 fa gs (sendP P m s.dn) (sendP R 0 s.dn) w4) := HT1.out.right hpn; clear hpn))
      obtain ⟨stP, dP, hdP1, hdP2, hdP3⟩ := one_step HoP.out hk1 hm4 (d := s.dn) rfl
      obtain ⟨stR, dR, hdR1, hdR2, hdR3⟩ := one_step HoR.out hk1 (n := 0) (by decide) (d := s.dn) rfl
      have HQP : Hid (∀ j : Nat, j ≤ 6 → PlOk (picksP (sendP P m s.dn) m j) ∧ ((picksP (sendP P m s.dn) m j).all m).length ≤ 2199023255488 ∧ (picksP (sendP P m s.dn) m j).time ≤ 100000000000000) := fun j hj => by
        have h1 := (inv_picksP hm4 j (inv_sendP HoP.out.inv m s.dn) (sendP_ok HoP.out.ok hm4 (d := s.dn) rfl) (by omega)).2
        refine ⟨h1, ?_, ?_⟩
        · rw [picksP_len]; have := send_len P m m s.dn; have := HoP.out.len m hm4; omega
        · rw [picksP_time, send_time, HoP.out.t]; omega
      have HQR : Hid (∀ j : Nat, j ≤ 6 → PlOk (picksP (sendP R 0 s.dn) 0 j) ∧ ((picksP (sendP R 0 s.dn) 0 j).all 0).length ≤ 2199023255488 ∧ (picksP (sendP R 0 s.dn) 0 j).time ≤ 100000000000000) := fun j hj => by
        have h1 := (inv_picksP (n := 0) (by decide) j (inv_sendP HoR.out.inv 0 s.dn) (sendP_ok HoR.out.ok (n := 0) (by decide) (d := s.dn) rfl) (by omega)).2
        refine ⟨h1, ?_, ?_⟩
        · rw [picksP_len]; have := send_len R 0 0 s.dn; have := HoR.out.len 0 (by decide); omega
        · rw [picksP_time, send_time, HoR.out.t]; omega
      have HstP : Hid _ := stP
      have HstR : Hid _ := stR
      have HdP1 : Hid _ := hdP1
      have HdR1 : Hid _ := hdR1
      have HdP2 : Hid _ := hdP2
      have HdR2 : Hid _ := hdR2
      obtain ⟨P1, hP1⟩ : ∃ x, sendP P m s.dn = x := ⟨_, rfl⟩
      obtain ⟨R1, hR1⟩ : ∃ x, sendP R 0 s.dn = x := ⟨_, rfl⟩
      rw [hP1] at HT2 HQP HstP HdP1
      rw [hR1] at HT2 HQR HstR HdR1
      clear hP1 hR1 stP stR hdP1 hdR1 hdP2 hdR2 HS1 HS2 HT1 HT
      go_loopw [16] (fun i wr => ∃ j : Nat, j ≤ 6 ∧ i = .int .i64 j ∧ ∃ Z v Z' v', Two w p A Z v q A' Z' v' fa gs (picksP P1 m j) (picksP R1 0 j) wr) (fun i _ => 6 - (intOf i).toNat)
      case atStart => exact ⟨0, Nat.zero_le _, rfl, Z1, v1, Z2, v2, HT2.out⟩
      case round =>
        obtain ⟨j, hj, rfl, Z3, v3, Z4, v4, htw⟩ := hrel
        have HT3 : Hid (Two w p A Z3 v3 q A' Z4 v4 fa gs (picksP P1 m j) (picksP R1 0 j) wr) := htw
        clear htw
        by_cases hjt : j < 6
        · have hjI : (j : Int) < 6 := by omega
          obtain ⟨o1, o2, o3⟩ := HQP.out j hj
          obtain ⟨r1, r2, r3⟩ := HQR.out j hj
          have HK1 : Hid (Calls Tryz.prog 18 #[.pointer (some ⟨p, 0, none⟩), .int .i64 (m : Int)] wr (PickD w.heap.size p A m Z3 v3 (picksP P1 m j) wr)) := pick_any HT3.out.pp o1 hm4 o2 o3
          have HK2 : Hid (∀ (W : World) (Z5 : Nat → Prop) (v5 : Nat → Value) (P5 : Pl), Two w p A Z5 v5 q A' Z4 v4 fa gs P5 (picksP R1 0 j) W → Calls Tryz.prog 18 #[.pointer (some ⟨q, 0, none⟩), .int .i64 0] W (PickD w.heap.size q A' 0 Z4 v4 (picksP R1 0 j) W)) := fun W Z5 v5 P5 hW => pick_any (n := 0) hW.pr r1 (by decide) r2 r3
          clear o1 o2 o3 r1 r2 r3
          go_wp2_with (first
            | (go_at_call_of 18 (Value.pointer (some ⟨p, 0, none⟩)); refine Calls.mono HK1.out ?_; rintro e w5 ⟨rfl, Z5, v5, hpn⟩; dsimp only; have HT5 : Hid (Two w p A Z5 v5 q A' Z4 v4 fa gs (pickP (picksP P1 m j) m) (picksP R1 0 j) w5) := HT3.out.left hpn; clear hpn)
            | (go_at_call_of 18 (Value.pointer (some ⟨q, 0, none⟩)); refine Calls.mono (HK2.out _ _ _ _ HT5.out) ?_; rintro e w6 ⟨rfl, Z6, v6, hpn⟩; dsimp only; have HT6 : Hid (Two w p A Z5 v5 q A' Z6 v6 fa gs (pickP (picksP P1 m j) m) (pickP (picksP R1 0 j) 0) w6) := HT5.out.right hpn; clear hpn))
          go_roundw
          case rel => exact ⟨j + 1, by omega, by go_num, Z5, v5, Z6, v6, by rw [picksP_snoc, picksP_snoc]; exact HT6.out⟩
          case measure => simp [intOf]; omega
        · obtain rfl : j = 6 := by omega
          have hsc := HSc.out _ HT3.out.bl
          obtain ⟨c0, c1, c2, c3, c4, c5, hq, hraw⟩ := hsc
          have hb0 := HT3.out.bl.size
          have hfs : FsOk (gs.map (·.f)) := by rw [← HoP.out.fs]; exact HoP.out.ok.a.ok.g.fs
          have hgl : gs.length ≤ 99 := by have := fs_len hfs; simpa using this
          have HO : Hid (Calls Tryz.prog 19 #[.slice fa gs.length fcap, .agg #[.int .i64 s.q.k, .int .i64 s.q.a, .int .i64 s.q.b, .int .i64 s.q.c, .int .i64 s.q.d, .slice s.pa s.pn s.pc]] wr (OncePost (fun b => b < wr.heap.size ∧ ¬ PB Z3 p v3 b ∧ ¬ PB Z4 q v4 b) gs s.q wr)) := once_any _ fa gs.length fcap gs s.q hq s.pa s.pn s.pc wr HT3.out.f rfl hfc (by omega) (hraw.at hb0) hfs HT3.out.pp.atl.gl
          clear hq hraw hfs
          go_wp2_with (first
            | (go_at_call 19; refine Calls.mono HO.out ?_; rintro e w7 ⟨fa', fcap', gs', rfl, hfc', hf', hm', hb7⟩; dsimp only; have HF7 : Hid _ := hf'; have HM7 : Hid _ := hm'; have HB7 : Hid (Below wr.heap.size wr w7) := hb7; clear hf' hm' hb7))
          have hfs' : FsOk (gs'.map (·.f)) := by
            have h1 := HstP.out.ok.a.ok.g.fs
            rw [HstP.out.fs] at h1
            rw [HM7.out]
            exact h1
          have HT7 : Hid (Two w p A Z3 v3 q A' Z4 v4 fa' gs' (picksP P1 m 6) (picksP R1 0 6) w7) := HT3.out.list HB7.out HF7.out (fun g hg => hfs'.valid g.f (List.mem_map_of_mem hg))
          obtain ⟨gP, capP, cP, hcP, hgP, hrP⟩ := last_row HT7.out.pp hm4 HdP1.out
          obtain ⟨gR, capR, cR, hcR, hgR, hrR⟩ := last_row (n := 0) HT7.out.pr (by decide) HdR1.out
          have eP : dP.an = ansR (gs.map (·.f)) (askZ s.q) := HdP2.out
          have eR : dR.an = ansR (gs.map (·.f)) (askZ s.q) := HdR2.out
          have lP := HoP.out.len m hm4
          have lR := HoR.out.len 0 (by decide)
          obtain ⟨xP, hxP⟩ : ∃ x, (P.all m).length = x := ⟨_, rfl⟩
          obtain ⟨xR, hxR⟩ : ∃ x, (R.all 0).length = x := ⟨_, rfl⟩
          rw [hxP] at cP hcP hrP lP
          rw [hxR] at cR hcR hrR lR
          have p0 : w7.cell? ⟨gP, xP * 9, none⟩ = _ := hrP 0 _ rfl
          have p1 := hrP 1 _ rfl
          have p2 := hrP 2 _ rfl
          have p3 := hrP 3 _ rfl
          have p4 := hrP 4 _ rfl
          have p5 := hrP 5 _ rfl
          have p6 := hrP 6 _ rfl
          have p7 := hrP 7 _ rfl
          have p8 := hrP 8 _ rfl
          have r0 : w7.cell? ⟨gR, xR * 9, none⟩ = _ := hrR 0 _ rfl
          have r1 := hrR 1 _ rfl
          have r2 := hrR 2 _ rfl
          have r3 := hrR 3 _ rfl
          have r4 := hrR 4 _ rfl
          have r5 := hrR 5 _ rfl
          have r6 := hrR 6 _ rfl
          have r7 := hrR 7 _ rfl
          have r8 := hrR 8 _ rfl
          rw [eP] at p8
          rw [eR] at r8
          have cR' : w7.cell? ⟨q, 1, none⟩ = some (.slice (some ⟨gR, 0, none⟩) (xR + 1) capR) := cR
          have hpl7 := HT7.out.pp.pl
          have hql7 := HT7.out.pr.pl
          have hu1 : (dP.un == 0) = false := by simp; omega
          have hu2 : (dR.un == 0) = false := by simp; omega
          obtain ⟨ans, hans⟩ : ∃ x, ansR (gs.map (·.f)) (askZ s.q) = x := ⟨_, rfl⟩
          rw [hans] at p8 r8
          rw [hans]
          have HM8 : Hid (gs'.map (·.f) = fsR (gs.map (·.f)) (askZ s.dn.q)) := HM7.out
          have mI : (m : Int) < 4 := by omega
          have mn : ¬ (m : Int) < 0 := by omega
          have xPI : ((xP + 1 : Nat) : Int) - 1 = (xP : Int) := by omega
          have xRI : ((xR + 1 : Nat) : Int) - 1 = (xR : Int) := by omega
          clear hrP hrR eP eR hxP hxR cR hans hfs' HO HF7 HM7 HB7 HT3 HdP2 HdR2 c0 c1 c2 c3 c4 c5 HSc HdP1 HdR1 HT2 HQP HQR
          go_region
          go_wp2
          go_region
          go_wp2
          go_roundw
          case rel => exact ⟨k + 1, by omega, by go_num, fa', fcap', gs', Z3, v3, Z4, v4, picksP P1 m 6, picksP R1 0 6, rfl, hfc', HT7.out.grow (by repeat (first | exact Below.refl _ _ | refine Below.drew ?_ | refine Below.alloc ?_ (by simp) _)), by rw [HM8.out]; exact HstP.out, by rw [HM8.out]; exact HstR.out⟩
          case measure => simp [intOf]; omega
    · obtain rfl : k = n := by omega
      go_wp2
      go_ret
      exact ⟨rfl, HT.out.bl⟩

end Go.Proofs.YtenaepdmlknlcaaGreatDoor
