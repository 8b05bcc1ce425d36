import Derived.Test.YtenaepdmlknlcaaGreatDoorF36
namespace Go.Proofs.YtenaepdmlknlcaaGreatDoor
open Go.RowKit Go.Shelf

/-- What pick leaves. -/
def PickD (b0 p A n : Nat) (Z : Nat → Prop) (v : Nat → Value) (P : Pl) (w : World) (e : Ending) (w' : World) : Prop := e = .returned (.bool true) ∧ ∃ Z' v', PN b0 p A Z v Z' v' (pickP P n) w w'
theorem all_same (P : Pl) (n : Nat) : (fun k => if k = n then P.all n else P.all k) = P.all := by
  funext k; split
  · rename_i e; rw [e]
  · rfl
theorem dn_raw {P : Pl} {w : World} {b0 n : Nat} (h : ∀ d ∈ P.all n, RqOk d.q ∧ RawU w b0 d.pa d.pn d.q.ps) {k : Nat} {x x' : Dn} (hx : (P.all n)[k]? = some x) (e : x'.q = x.q ∧ x'.pa = x.pa ∧ x'.pn = x.pn) : ∀ d ∈ (P.all n).set k x', RqOk d.q ∧ RawU w b0 d.pa d.pn d.q.ps := by
  intro d hd
  rcases List.mem_or_eq_of_mem_set hd with hd | rfl
  · exact h d hd
  · rw [e.1, e.2.1, e.2.2]; exact h x (List.mem_of_getElem? hx)

theorem set_self {l : List Dn} {k : Nat} {x : Dn} (h : l[k]? = some x) : l.set k x = l := by
  apply List.ext_getElem?
  intro i
  rw [List.getElem?_set]
  split
  · rename_i e
    subst e
    rw [h]
    have := (List.getElem?_eq_some_iff.1 h).1
    simp [this]
  · rfl
theorem set_get {l : List Dn} {k : Nat} {x y : Dn} (h : l[k]? = some x) : (l.set k y)[k]? = some y := by
  have := (List.getElem?_eq_some_iff.1 h).1
  simp [this]
/-- The row of a session, behind stores of what became of a request. -/
theorem row_stored {w : World} {b0 g cap k : Nat} {l : List Dn} {x x' : Dn} (hx : l[k]? = some x) {j : Nat} (hj : j < 9) {u : Value} (e : dnV x' = (dnV x).set j u) (h : w.ownsRow b0 57 9 (.slice (some ⟨g, 0, none⟩) l.length cap) l.length (flatD l)) : (w.setCell ⟨g, k * 9 + j, none⟩ u).ownsRow b0 57 9 (.slice (some ⟨g, 0, none⟩) (l.set k x').length cap) (l.set k x').length (flatD (l.set k x')) := by
  have := (h.stored (k * 9 + j) u).1
  rw [List.length_set, flatD_set hx j u hj e]
  exact this

set_option maxRecDepth 100000 in
set_option maxHeartbeats 4000000 in
theorem pick_any {w : World} {b0 p A : Nat} {Z : Nat → Prop} {v : Nat → Value} {P : Pl} (h : PlayAt w b0 p A Z v P) (ho : PlOk P) {n : Nat} (hn : n < 4) (hlen : (P.all n).length ≤ 2199023255488) (ht : P.time ≤ 100000000000000) :
    Calls Tryz.prog 18 #[.pointer (some ⟨p, 0, none⟩), .int .i64 (n : Int)] w (PickD b0 p A n Z v P w) := by
  have hb0 : b0 ≤ w.heap.size := by have := h.p0; have := h.pl; omega
  have ht0 := ho.t
  have hc0 := h.c0
  have hc5 := h.c5
  have hpl := h.pl
  have hf5 := h.fz 5 (by omega)
  have o := pickM_out ho.a.ok hn
  have han0 := ho.a.an n hn
  have hidle : openN (P.all n) = 0 → (pickM P.a n).1 = false ∧ ((pickM P.a n).2.ss n).an = [] := fun e => by
    have hw : waitS (P.a.ss n) = 0 := by rw [← ho.cnt n hn]; exact e
    rw [pickM_idle hw]; exact ⟨rfl, han0⟩
  have hout : ((pickM P.a n).1 = false ∧ ((pickM P.a n).2.ss n).an = []) ∨ ((pickM P.a n).1 = true ∧ ((pickM P.a n).2.ss n).an = []) ∨ ((pickM P.a n).1 = true ∧ ∃ y, ((pickM P.a n).2.ss n).an = [y]) := by
    cases hd : (pickM P.a n).1 with
    | false => exact .inl ⟨rfl, by rw [(o.still hd).2.2.2, han0]⟩
    | true =>
      rcases (o.moved hd).2 with ⟨_, m2⟩ | ⟨_, x, m2⟩
      · exact .inr (.inl ⟨rfl, by rw [m2, han0]⟩)
      · exact .inr (.inr ⟨rfl, x, by rw [m2, han0]; rfl⟩)
  have HU : Hid (∀ d ∈ P.all n, 0 ≤ d.un) := ho.un n hn
  have HP : Hid (∀ (W : World) (Y : Nat → Prop), AtlasIn W A Y P.a → Calls Tryz.prog 43 #[.pointer (some ⟨A, 0, none⟩), .int .i64 (n : Int)] W fun e w' => e = .returned (.tuple #[.bool (pickM P.a n).1, .int .i64 0]) ∧ AtlasNext A Y (pickM P.a n).2 W w') := fun W Y hW => Pick_in hW hn (by rw [han0]; simp)
  have HA : Hid (∀ (W : World) (Y : Nat → Prop), AtlasIn W A Y (pickM P.a n).2 → Calls Tryz.prog 44 #[.pointer (some ⟨A, 0, none⟩), .int .i64 (n : Int)] W fun e w' => ∃ (va : Option Addr) (m cap : Nat), e = .returned (.tuple #[.slice va m cap, .int .i64 0]) ∧ m = ((pickM P.a n).2.ss n).an.length ∧ w'.ownsRow 0 9 1 (.slice va m cap) m (((pickM P.a n).2.ss n).an.map .string) ∧ (∀ b, (Value.slice va m cap).ownBlock = some b → Y b) ∧ AtlasNext A Y (turnM P.a n) W w') := fun W Y hW => Answers_out hW hn
  obtain ⟨pa, hpa⟩ : ∃ x, (pickM P.a n).2 = x := ⟨_, rfl⟩
  obtain ⟨did, hdid⟩ : ∃ x, (pickM P.a n).1 = x := ⟨_, rfl⟩
  obtain ⟨an, han⟩ : ∃ x, (pa.ss n).an = x := ⟨_, rfl⟩
  obtain ⟨ta, hta⟩ : ∃ x, turnM P.a n = x := ⟨_, rfl⟩
  have HQ : Hid (pickP P n = { a := ta, all := fun k => if k = n then updD did (P.time + 1) an.head? (P.all n) else P.all k, time := P.time + 1, moved := did }) := by show pickP P n = _; unfold pickP; rw [hta, hdid, hpa, han]
  rw [hpa, hdid, han] at hout hidle
  rw [hpa, hdid] at HP
  rw [hpa, han, hta] at HA
  have hm1 : an.length ≤ 1 := by rcases hout with ⟨_, e⟩ | ⟨_, e⟩ | ⟨_, y, e⟩ <;> (rw [e]; simp)
  have HOut : Hid _ := hout
  have HIdle : Hid _ := hidle
  clear hout hidle o han0 hpa hdid han hta
  have HTick := h.tick (P.time + 1)
  have HT : Hid _ := HTick
  have HB : Hid (b0 ≤ w.heap.size) := hb0
  have HL : Hid ((P.all n).length ≤ 2199023255488) := hlen
  clear HTick h ho hb0
  have hnI : (n : Int) < 4 := by omega
  have hnn : ¬ (n : Int) < 0 := by omega
  go_enter Tryz.func18, Tryz.ntmps18
  go_wp2_with (first
    | (go_at_call 43; refine Calls.mono (HP.out _ _ HT.out.pl.atl) ?_; rintro e w2 ⟨rfl, Z2, hA2, hZ2, hF2⟩; dsimp only; have HP2 : Hid _ := HT.out.pl.nextZ hA2 hZ2 hF2; have hc2 := HP2.out.pl.c0; have hA2' : Hid _ := hA2; clear hA2 hZ2 hF2)
    | (go_at_call 44; refine Calls.mono (HA.out _ _ hA2'.out) ?_; rintro e w3 ⟨va, m, acap, rfl, hm, hown3, hZa, Z3, hA3, hZ3, hF3⟩; dsimp only; have HP3 : Hid _ := HP2.out.pl.nextZ hA3 hZ3 hF3; have hf6 := HP3.out.pl.fz 6 (by omega); have hc6 := HP3.out.pl.c6; have hpl3 := HP3.out.pl.pl; have hmI : ¬ (1 : Int) < (m : Int) := (by omega); have HOA : Hid _ := hown3; have HZa : Hid _ := hZa; have Hm : Hid _ := hm; clear hA3 hZ3 hF3 hown3 hZa hm))
  have hc5' : (w3.setCell ⟨p, 6, none⟩ (.bool did)).cell? ⟨p, 5, none⟩ = some (.int .i64 (P.time + 1)) := (cell_ne w3 _ (.inr (by omega))).trans HP3.out.pl.c5
  have HP4 : Hid _ := HP3.out.pl.tell did
  have HAll : Hid _ := (HT.out.trans HP2.out).trans (HP3.out.trans HP4.out)
  obtain ⟨a, cap, hv, hcap, hg⟩ := row_form (HP4.out.pl.row n hn)
  have hcr := HP4.out.pl.cr n hn
  rw [hv] at hcr
  dsimp only at hv hcap hg hcr
  obtain ⟨k0, hk0⟩ : ∃ k0, (P.all n).length = k0 := ⟨_, rfl⟩
  have Hk0 : Hid ((P.all n).length = k0) := hk0
  have Hv : Hid (v n = .slice a (P.all n).length cap) := hv
  have Hg : Hid (0 < k0 → ∃ g, a = some ⟨g, 0, none⟩ ∧ b0 ≤ g) := by rw [hk0] at hg; exact hg
  rw [hk0] at hcr hcap
  have hk4 : k0 ≤ 2199023255488 := by rw [← hk0]; exact HL.out
  have hpl4 := HP4.out.pl.pl
  clear hv hg hk0 hf5 hc5 hc0 hc2 hf6 hc6 hlen
  go_loop [9] (fun i => ∃ k : Nat, k ≤ k0 ∧ i = .int .i64 k ∧ ∀ (j : Nat) x, j < k → (P.all n)[j]? = some x → 0 < x.un) (fun i => k0 - (intOf i).toNat)
  case atStart => exact ⟨0, Nat.zero_le _, rfl, fun j x hj => by omega⟩
  case round =>
    obtain ⟨k, hk, rfl, hdone⟩ := hrel
    have HD : Hid (∀ (j : Nat) x, j < k → (P.all n)[j]? = some x → 0 < x.un) := hdone
    clear hdone
    by_cases hlt : k < k0
    · obtain ⟨g, rfl, hgb⟩ := Hg.out (by omega)
      obtain ⟨x, hx⟩ : ∃ x, (P.all n)[k]? = some x := ⟨_, List.getElem?_eq_getElem (by rw [Hk0.out]; exact hlt)⟩
      have hrow := HP4.out.pl.row n hn
      rw [Hv.out] at hrow
      dsimp only at hrow
      have hgl : g < w3.heap.size := by have := (hrow.lt g rfl).2; simpa using this
      have hgp : g ≠ p := fun e => HP4.out.pl.rp n hn (by unfold inRow; rw [Hv.out, e]; rfl)
      have hcell : ∀ j u, j < 9 → (dnV x)[j]? = some u → (w3.setCell ⟨p, 6, none⟩ (.bool did)).cell? ⟨g, k * 9 + j, none⟩ = some u := fun j u hj hu => by
        rw [hrow.cellAt (k * 9 + j) (by rw [Hk0.out]; omega), flatD_get hx j hj]; exact hu
      have hfzg : ∀ j, (w3.setCell ⟨p, 6, none⟩ (.bool did)).frozen? ⟨g, j, none⟩ = false := fun j => hrow.frozenAt j
      have hc6x := hcell 6 (.int .i64 x.fr) (by omega) rfl
      have hc7x := hcell 7 (.int .i64 x.un) (by omega) rfl
      have hc8x := hcell 8 (.string x.an) (by omega) rfl
      have hf6x := hfzg (k * 9 + 6)
      have hf7x := hfzg (k * 9 + 7)
      have hf8x := hfzg (k * 9 + 8)
      have HRow : Hid _ := hrow
      have hxu := HU.out x (List.mem_of_getElem? hx)
      have Hx : Hid _ := hx
      clear hcell hfzg hrow hx
      have hkI : (k : Int) < (k0 : Int) := by omega
      have hkn : ¬ (k : Int) < 0 := by omega
      by_cases hun : 0 < x.un
      · go_wp2
        go_round
        case rel =>
          refine ⟨k + 1, by omega, by go_num, fun j y hj hy => ?_⟩
          by_cases e : j = k
          · rw [e, Hx.out] at hy; rw [← Option.some.inj hy]; exact hun
          · exact HD.out j y (by omega) hy
        case measure => simp [intOf]; omega
      · have hun0 : x.un = 0 := by omega
        have hun' : ¬ 0 < x.un := hun
        have hraw := HP4.out.pl.raw n hn
        have Hraw : Hid _ := hraw
        clear hraw
        have hvn : ∀ M : World, Fr (fun c _ => (v n).ownBlock = some c) M M := fun M => Fr.refl _ M
        have Hvb : Hid ((v n).ownBlock = some g) := by show (v n).ownBlock = some g; rw [Hv.out]; rfl
        rcases HOut.out with ⟨rfl, rfl⟩ | ⟨rfl, rfl⟩ | ⟨rfl, y, rfl⟩
        · obtain rfl : m = 0 := Hm.out
          go_wp2
          go_ret
          refine ⟨rfl, Z3, v, ?_⟩
          have e1 : updOne false (P.time + 1) none x = x := by unfold updOne; simp
          rw [HQ.out, updD_at HD.out Hx.out (by omega), List.head?_nil, e1, set_self Hx.out, all_same]
          exact HAll.out
        · obtain rfl : m = 0 := Hm.out
          by_cases hfr : x.fr = 0
          · rw [hfr] at hc6x
            go_wp2
            go_ret
            refine ⟨rfl, Z3, v, ?_⟩
            have e1 : updOne true (P.time + 1) none x = { x with fr := P.time + 1 } := by unfold updOne; simp [hfr]
            rw [HQ.out, updD_at HD.out Hx.out (by omega), List.head?_nil, e1]
            refine HAll.out.trans (HP4.out.pl.inrow hn (l := (P.all n).set k { x with fr := P.time + 1 }) ?_ ?_ ?_)
            · exact (hvn _).setCell (b := g) (i := k * 9 + 6) (.inl Hvb.out) _
            · rw [Hv.out]
              have := row_stored (x' := { x with fr := P.time + 1 }) Hx.out (j := 6) (by omega) rfl HRow.out
              rw [List.length_set] at this ⊢
              exact this
            · exact dn_raw Hraw.out Hx.out ⟨rfl, rfl, rfl⟩
          · go_wp2
            go_ret
            refine ⟨rfl, Z3, v, ?_⟩
            have e1 : updOne true (P.time + 1) none x = x := by unfold updOne; simp [hfr]
            rw [HQ.out, updD_at HD.out Hx.out (by omega), List.head?_nil, e1, set_self Hx.out, all_same]
            exact HAll.out
        · obtain rfl : m = 1 := Hm.out
          obtain ⟨ga, ca, hga⟩ := ownsRow_succ HOA.out
          obtain ⟨rfl, rfl⟩ : va = some ⟨ga, 0, none⟩ ∧ acap = ca := by cases hga; exact ⟨rfl, rfl⟩
          have hZg : Z2 ga := HZa.out ga rfl
          have hgap : ga ≠ p := fun e => HP2.out.pl.pz (by rw [← e]; exact hZg)
          have hgag : ga ≠ g := fun e => HP2.out.pl.rz n hn g (by unfold inRow; exact Hvb.out) (by rw [← e]; exact hZg)
          have hoa : w3.ownsRow 0 9 1 (.slice (some ⟨ga, 0, none⟩) 1 acap) 1 [.string y] := HOA.out
          have hca : w3.cell? ⟨ga, 0, none⟩ = some (.string y) := hoa.cellAt 0 (by omega)
          have hgal : ga < w3.heap.size := (hoa.lt ga rfl).2
          clear hga hZg hoa
          by_cases hfr : x.fr = 0
          · rw [hfr] at hc6x
            go_wp2
            go_ret
            refine ⟨rfl, Z3, v, ?_⟩
            have e1 : updOne true (P.time + 1) (some y) x = { x with fr := P.time + 1, un := P.time + 1, an := y } := by unfold updOne; simp [hfr]
            rw [HQ.out, updD_at HD.out Hx.out (by omega), List.head?_cons, e1]
            refine HAll.out.trans (HP4.out.pl.inrow hn (l := (P.all n).set k { x with fr := P.time + 1, un := P.time + 1, an := y }) ?_ ?_ ?_)
            · exact (((hvn _).setCell (b := g) (i := k * 9 + 6) (.inl Hvb.out) _).setCell (b := g) (i := k * 9 + 7) (.inl Hvb.out) _).setCell (b := g) (i := k * 9 + 8) (.inl Hvb.out) _
            · rw [Hv.out]
              have h1 := row_stored (x' := { x with fr := P.time + 1 }) Hx.out (j := 6) (by omega) rfl HRow.out
              have h2 := row_stored (x := { x with fr := P.time + 1 }) (x' := { x with fr := P.time + 1, un := P.time + 1 }) (set_get Hx.out) (j := 7) (by omega) rfl h1
              have h3 := row_stored (x := { x with fr := P.time + 1, un := P.time + 1 }) (x' := { x with fr := P.time + 1, un := P.time + 1, an := y }) (set_get (x := { x with fr := P.time + 1 }) (set_get Hx.out)) (j := 8) (by omega) rfl h2
              rw [List.set_set, List.set_set] at h3
              rw [List.length_set] at h3 ⊢
              exact h3
            · exact dn_raw Hraw.out Hx.out ⟨rfl, rfl, rfl⟩
          · go_wp2
            go_ret
            refine ⟨rfl, Z3, v, ?_⟩
            have e1 : updOne true (P.time + 1) (some y) x = { x with un := P.time + 1, an := y } := by unfold updOne; simp [hfr]
            rw [HQ.out, updD_at HD.out Hx.out (by omega), List.head?_cons, e1]
            refine HAll.out.trans (HP4.out.pl.inrow hn (l := (P.all n).set k { x with un := P.time + 1, an := y }) ?_ ?_ ?_)
            · exact ((hvn _).setCell (b := g) (i := k * 9 + 7) (.inl Hvb.out) _).setCell (b := g) (i := k * 9 + 8) (.inl Hvb.out) _
            · rw [Hv.out]
              have h2 := row_stored (x' := { x with un := P.time + 1 }) Hx.out (j := 7) (by omega) rfl HRow.out
              have h3 := row_stored (x := { x with un := P.time + 1 }) (x' := { x with un := P.time + 1, an := y }) (set_get Hx.out) (j := 8) (by omega) rfl h2
              rw [List.set_set] at h3
              rw [List.length_set] at h3 ⊢
              exact h3
            · exact dn_raw Hraw.out Hx.out ⟨rfl, rfl, rfl⟩
    · obtain rfl : k = k0 := by omega
      have h0 : openN (P.all n) = 0 := openN_all fun j x hj => HD.out j x (by rw [Hk0.out] at hj; exact hj)
      obtain ⟨rfl, rfl⟩ := HIdle.out h0
      obtain rfl : m = 0 := Hm.out
      go_wp2
      go_ret
      refine ⟨rfl, Z3, v, ?_⟩
      rw [HQ.out, updD_all fun j x hj => HD.out j x (by rw [Hk0.out] at hj; exact hj), all_same]
      exact HAll.out

end Go.Proofs.YtenaepdmlknlcaaGreatDoor

namespace Go.Proofs.YtenaepdmlknlcaaGreatDoor
open Go.RowKit Go.Shelf

/-- A step of a script. -/
structure Stt where
  snd : Int
  n : Int
  q : Rq
  pa : Option Addr
  pn : Nat
  pc : Nat
def Stt.dn (s : Stt) : Dn := ⟨s.q, s.pa, s.pn, s.pc, 0, 0, ⟨#[]⟩⟩
def Stt.ses (s : Stt) : Nat := (pkZ s.n 4).toNat
/-- A script in memory, below b0. -/
structure SttAt (w : World) (b0 b off : Nat) (s : Stt) : Prop where
  c0 : w.cell? ⟨b, off, none⟩ = some (.int .i64 s.snd)
  c1 : w.cell? ⟨b, off + 1, none⟩ = some (.int .i64 s.n)
  c2 : w.cell? ⟨b, off + 2, none⟩ = some (.int .i64 s.q.k)
  c3 : w.cell? ⟨b, off + 3, none⟩ = some (.int .i64 s.q.a)
  c4 : w.cell? ⟨b, off + 4, none⟩ = some (.int .i64 s.q.b)
  c5 : w.cell? ⟨b, off + 5, none⟩ = some (.int .i64 s.q.c)
  c6 : w.cell? ⟨b, off + 6, none⟩ = some (.int .i64 s.q.d)
  c7 : w.cell? ⟨b, off + 7, none⟩ = some (.slice s.pa s.pn s.pc)
  snd : i64 s.snd
  n : i64 s.n
  q : RqOk s.q
  raw : RawU w b0 s.pa s.pn s.q.ps
def ScrAt (w : World) (b0 : Nat) (a : Option Addr) (l : List Stt) : Prop := l = [] ∨ ∃ b off, a = some ⟨b, off, none⟩ ∧ b < b0 ∧ ∀ (i : Nat) s, l[i]? = some s → SttAt w b0 b (off + i * 8) s
theorem SttAt.below {w w' : World} {b0 b off : Nat} {s : Stt} (h : SttAt w b0 b off s) (hb : Below b0 w w') (hl : b < b0) : SttAt w' b0 b off s := by
  have hc : ∀ i, w'.cell? ⟨b, i, none⟩ = w.cell? ⟨b, i, none⟩ := fun i => hb.cell (p := ⟨b, i, none⟩) hl
  exact ⟨(hc _).trans h.c0, (hc _).trans h.c1, (hc _).trans h.c2, (hc _).trans h.c3, (hc _).trans h.c4, (hc _).trans h.c5, (hc _).trans h.c6, (hc _).trans h.c7, h.snd, h.n, h.q, h.raw.below hb⟩
theorem ScrAt.below {w w' : World} {b0 : Nat} {a : Option Addr} {l : List Stt} (h : ScrAt w b0 a l) (hb : Below b0 w w') : ScrAt w' b0 a l := h.imp id fun ⟨b, off, e, hl, hc⟩ => ⟨b, off, e, hl, fun i s hs => (hc i s hs).below hb hl⟩
/-- One step of a script: the play, and how many requests may still be sent. -/
def stepP (x : Pl × Int) (s : Stt) : Pl × Int := if s.snd.tmod 2 = 0 then (pickP x.1 s.ses, x.2) else (if 0 < x.2 then sendP x.1 s.ses s.dn else x.1, x.2 - 1)
def playP (P : Pl) (most : Int) (l : List Stt) : Pl × Int := l.foldl stepP (P, most)
theorem play_snoc {P : Pl} {most : Int} {l : List Stt} {k : Nat} {s : Stt} (h : l[k]? = some s) : playP P most (l.take (k + 1)) = stepP (playP P most (l.take k)) s := by
  unfold playP
  rw [List.take_add_one, h, List.foldl_append]
  rfl
theorem ses_lt (s : Stt) : s.ses < 4 := by
  have := pkZ_bd s.n 4 (by decide)
  unfold Stt.ses; omega
theorem updD_len {did : Bool} {t : Int} {an : Option ByteArray} : ∀ l : List Dn, (updD did t an l).length = l.length
  | [] => rfl
  | d :: r => by
    unfold updD
    split
    · rw [List.length_cons, updD_len r, List.length_cons]
    · rfl
theorem pick_len (P : Pl) (n k : Nat) : ((pickP P n).all k).length = (P.all k).length := by
  show (if k = n then updD _ _ _ (P.all n) else P.all k).length = _
  split
  · rename_i e; rw [updD_len, e]
  · rfl
theorem send_len (P : Pl) (n k : Nat) (d : Dn) : ((sendP P n d).all k).length ≤ (P.all k).length + 1 := by
  unfold sendP
  split
  · omega
  · dsimp only
    split
    · rename_i e; rw [List.length_append, e]; simp
    · omega
/-- What is kept while a script is played. -/
structure PlayB (P0 : Pl) (most : Int) (k : Nat) (x : Pl × Int) : Prop where
  ok : PlOk x.1
  len : ∀ n, n < 4 → (x.1.all n).length ≤ (P0.all n).length + k
  t : x.1.time ≤ P0.time + k
  m : most - k ≤ x.2 ∧ x.2 ≤ most
theorem PlayB.step {P0 : Pl} {most : Int} {k : Nat} {x : Pl × Int} (h : PlayB P0 most k x) (s : Stt) : PlayB P0 most (k + 1) (stepP x s) := by
  have hs := ses_lt s
  unfold stepP
  split
  · refine ⟨pickP_ok h.ok hs, fun n hn => ?_, ?_, ?_⟩
    · dsimp only; rw [pick_len]; have := h.len n hn; omega
    · have := h.t; show x.1.time + 1 ≤ _; omega
    · have := h.m; dsimp only; omega
  · refine ⟨?_, fun n hn => ?_, ?_, ?_⟩
    · dsimp only; split
      · exact sendP_ok h.ok hs rfl
      · exact h.ok
    · have := h.len n hn
      dsimp only; split
      · have := send_len x.1 s.ses n s.dn; omega
      · omega
    · have := h.t
      dsimp only; split
      · have : (sendP x.1 s.ses s.dn).time = x.1.time := by unfold sendP; split <;> rfl
        omega
      · omega
    · have := h.m; dsimp only; omega
theorem play_bounds (P0 : Pl) (most : Int) (h : PlOk P0) (l : List Stt) : ∀ k, k ≤ l.length → PlayB P0 most k (playP P0 most (l.take k))
  | 0, _ => ⟨h, fun n _ => Nat.le_refl _, by show P0.time ≤ _; omega, ⟨by show most - ((0 : Nat) : Int) ≤ most; omega, Int.le_refl most⟩⟩
  | k + 1, hk => by
    obtain ⟨s, hs⟩ : ∃ s, l[k]? = some s := ⟨_, List.getElem?_eq_getElem (by omega)⟩
    rw [play_snoc hs]
    exact (play_bounds P0 most h l k (by omega)).step s

/-- How many requests may be sent bounds what is sent. -/
theorem step_most (x : Pl × Int) (s : Stt) (n : Nat) (c : Int) (h0 : (((x.1.all n).length : Nat) : Int) ≤ c) (h : (((x.1.all n).length : Nat) : Int) + x.2 ≤ c) : ((((stepP x s).1.all n).length : Nat) : Int) ≤ c ∧ ((((stepP x s).1.all n).length : Nat) : Int) + (stepP x s).2 ≤ c := by
  unfold stepP
  split
  · dsimp only; rw [pick_len]; exact ⟨h0, h⟩
  · dsimp only
    split
    · have := send_len x.1 s.ses n s.dn; omega
    · omega
theorem play_most (P : Pl) (most : Int) (hm : 0 ≤ most) (l : List Stt) (n : Nat) : ((((playP P most l).1.all n).length : Nat) : Int) ≤ (((P.all n).length : Nat) : Int) + most := by
  have key : ∀ (l : List Stt) (x : Pl × Int) (c : Int), (((x.1.all n).length : Nat) : Int) ≤ c → (((x.1.all n).length : Nat) : Int) + x.2 ≤ c → ((((l.foldl stepP x).1.all n).length : Nat) : Int) ≤ c := by
    intro l
    induction l with
    | nil => intro x c h0 _; exact h0
    | cons s l ih => intro x c h0 h; rw [List.foldl_cons]; obtain ⟨h1, h2⟩ := step_most x s n c h0 h; exact ih _ c h1 h2
  exact key l (P, most) _ (by show (((P.all n).length : Nat) : Int) ≤ _; omega) (by show (((P.all n).length : Nat) : Int) + most ≤ _; omega)

set_option maxRecDepth 100000 in
set_option maxHeartbeats 2000000 in
theorem play_any {w : World} {b0 p A : Nat} {Z : Nat → Prop} {v : Nat → Value} {P : Pl} (h : PlayAt w b0 p A Z v P) (ho : PlOk P) (hP : ∀ n, n < 4 → (P.all n).length ≤ 1000) (hT : P.time ≤ 1000) (a : Option Addr) (n cap : Nat) (l : List Stt) (hl : ScrAt w b0 a l) (hn : n = l.length) (hlen : n ≤ 2199023255488) (hcap : n ≤ cap) (most : Int) (hm0 : 0 ≤ most) (hm1 : most ≤ 1000000) :
    Calls Tryz.prog 24 #[.pointer (some ⟨p, 0, none⟩), .slice a n cap, .int .i64 most] w fun e w' => e = .returned (.bool true) ∧ ∃ Z' v', PN b0 p A Z v Z' v' (playP P most l).1 w w' := by
  have Hn : Hid (n = l.length) := hn
  have HB : Hid (∀ k, k ≤ l.length → PlayB P most k (playP P most (l.take k))) := fun k hk => play_bounds P most ho l k hk
  have HS : Hid (ScrAt w b0 a l) := hl
  have HP : Hid (∀ n, n < 4 → (P.all n).length ≤ 1000) := hP
  have H0 : Hid (PlayAt w b0 p A Z v P) := h
  clear hn hl h ho hP
  go_enter Tryz.func24, Tryz.ntmps24
  go_wp2
  go_loopw [7, 2] (fun i mo wr => ∃ k : Nat, k ≤ n ∧ i = .int .i64 k ∧ mo = .int .i64 (playP P most (l.take k)).2 ∧ ∃ Z' v', PN b0 p A Z v Z' v' (playP P most (l.take k)).1 w wr) (fun i _ _ => n - (intOf i).toNat)
  case atStart => exact ⟨0, Nat.zero_le _, rfl, rfl, Z, v, PN.refl H0.out⟩
  case round =>
    obtain ⟨k, hk, rfl, rfl, Z1, v1, hpn⟩ := hrel
    have HN : Hid (PN b0 p A Z v Z1 v1 (playP P most (l.take k)).1 w wr) := hpn
    have hb := HB.out k (by have := Hn.out; omega)
    have hmb := hb.m
    have htb := hb.t
    have hlb : ∀ j, j < 4 → ((playP P most (l.take k)).1.all j).length ≤ 2000000 := fun j hj => by have := play_most P most hm0 (l.take k) j; have := HP.out j hj; omega
    have HOk : Hid (PlOk (playP P most (l.take k)).1) := hb.ok
    have Hlb : Hid _ := hlb
    clear hpn hb hlb
    by_cases hlt : k < n
    · obtain ⟨s, hs⟩ : ∃ s, l[k]? = some s := ⟨_, List.getElem?_eq_getElem (by have := Hn.out; omega)⟩
      have Hs : Hid (playP P most (l.take (k + 1)) = stepP (playP P most (l.take k)) s) := play_snoc hs
      obtain ⟨b, off, rfl, hbb, hsc⟩ : ∃ b off, a = some ⟨b, off, none⟩ ∧ b < b0 ∧ SttAt wr b0 b (off + k * 8) s := by
        rcases HS.out with e | ⟨b, off, e, hb, hc⟩
        · rw [e] at hs; simp at hs
        · exact ⟨b, off, e, hb, (hc k s hs).below (HN.out.below H0.out) hb⟩
      obtain ⟨c0, c1, c2, c3, c4, c5, c6, c7, hi1, hi2, hq, hr⟩ := hsc
      obtain ⟨j, hj, hj4⟩ : ∃ j : Nat, pkZ s.n 4 = (j : Int) ∧ j < 4 := ⟨(pkZ s.n 4).toNat, by have := pkZ_bd s.n 4 (by decide); omega, ses_lt s⟩
      have Hj : Hid (s.ses = j) := by show s.ses = j; unfold Stt.ses; omega
      have HC : Hid (∀ W : World, Calls Tryz.prog 28 #[.int .i64 s.n, .int .i64 4] W fun e w' => e = .returned (.int .i64 (j : Int)) ∧ w' = W) := fun W => by rw [← hj]; exact kpick_any s.n 4 hi2 (by decide) (by decide) W
      have HPk : Hid (Calls Tryz.prog 18 #[.pointer (some ⟨p, 0, none⟩), .int .i64 (j : Int)] wr (PickD b0 p A j Z1 v1 (playP P most (l.take k)).1 wr)) := pick_any HN.out.pl HOk.out hj4 (by have := Hlb.out j hj4; omega) (by omega)
      have HSd : Hid (Calls Tryz.prog 17 #[.pointer (some ⟨p, 0, none⟩), .int .i64 (j : Int), .agg #[.int .i64 s.q.k, .int .i64 s.q.a, .int .i64 s.q.b, .int .i64 s.q.c, .int .i64 s.q.d, .slice s.pa s.pn s.pc]] wr (SendPost b0 p A j Z1 v1 (playP P most (l.take k)).1 s.dn wr)) := send_any HN.out.pl HOk.out hj4 (by have := Hlb.out j hj4; omega) s.dn hq hr rfl rfl rfl
      obtain ⟨Pk, hPk⟩ : ∃ x, (playP P most (l.take k)).1 = x := ⟨_, rfl⟩
      obtain ⟨mo, hmo⟩ : ∃ x, (playP P most (l.take k)).2 = x := ⟨_, rfl⟩
      have Hst : Hid (playP P most (l.take (k + 1)) = if s.snd.tmod 2 = 0 then (pickP Pk j, mo) else (if 0 < mo then sendP Pk j s.dn else Pk, mo - 1)) := by show _ = _; rw [Hs.out]; unfold stepP; rw [Hj.out, hPk, hmo]
      rw [hPk] at HPk HSd HN
      rw [hmo] at hmb
      rw [hmo]
      clear hq hr Hs Hlb HOk hj hPk hmo HS HB
      have hkI : (k : Int) < (n : Int) := by omega
      have hkn : ¬ (k : Int) < 0 := by omega
      have hmw : IntKind.i64.wrap (mo - 1) = mo - 1 := by rw [IntKind.wrap_i64]; omega
      by_cases hsd : s.snd.tmod 2 = 0
      · go_wp2_with (first
          | (go_at_call 28; refine Calls.mono (HC.out _) ?_; rintro e w1 ⟨rfl, rfl⟩; dsimp only)
          | (go_at_call 18; refine Calls.mono HPk.out ?_; rintro e w2 ⟨rfl, hex⟩; dsimp only; have HX : Hid _ := hex; clear hex))
        go_roundw
        case rel =>
          obtain ⟨Z2, v2, h2⟩ := HX.out
          refine ⟨k + 1, by omega, by go_num, ?_, Z2, v2, ?_⟩
          · rw [Hst.out, if_pos hsd]
          · rw [Hst.out, if_pos hsd]; exact HN.out.trans h2
        case measure => simp [intOf]; omega
      · by_cases hmp : 0 < mo
        · go_wp2_with (first
            | (go_at_call 28; refine Calls.mono (HC.out _) ?_; rintro e w1 ⟨rfl, rfl⟩; dsimp only)
            | (go_at_call 17; refine Calls.mono HSd.out ?_; rintro e w2 ⟨rfl, hex⟩; dsimp only; have HX : Hid _ := hex; clear hex))
          go_roundw
          case rel =>
            obtain ⟨Z2, v2, h2⟩ := HX.out
            refine ⟨k + 1, by omega, by go_num, ?_, Z2, v2, ?_⟩
            · rw [Hst.out, if_neg hsd]
            · rw [Hst.out, if_neg hsd, if_pos hmp]; exact HN.out.trans h2
          case measure => simp [intOf]; omega
        · go_wp2_with (first
            | (go_at_call 28; refine Calls.mono (HC.out _) ?_; rintro e w1 ⟨rfl, rfl⟩; dsimp only))
          go_roundw
          case rel =>
            refine ⟨k + 1, by omega, by go_num, ?_, Z1, v1, ?_⟩
            · rw [Hst.out, if_neg hsd]
            · rw [Hst.out, if_neg hsd, if_neg hmp]; exact HN.out
          case measure => simp [intOf]; omega
    · obtain rfl : k = n := by omega
      go_wp2
      go_ret
      refine ⟨rfl, Z1, v1, ?_⟩
      have : l.take k = l := List.take_of_length_le (by have := Hn.out; omega)
      rw [this] at HN
      exact HN.out

end Go.Proofs.YtenaepdmlknlcaaGreatDoor
