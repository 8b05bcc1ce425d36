import Derived.Test.YtenaepdmlknlcaaGreatDoorE35
import Derived.Test.YtenaepdmlknlcaaGreatDoorE11
import Derived.Deep.DeepAppendWide
import Derived.Deep.DeepAppendRoom
namespace Go.Proofs.YtenaepdmlknlcaaGreatDoor
open Go.RowKit Go.Shelf

theorem ownsRow_base {w : World} {b0 : Nat} {e : TypeId} {size : Nat} {v : Value} {n : Nat} {xs : List Value} (h : w.ownsRow 0 e size v n xs) (hb : ∀ k, v.ownBlock = some k → b0 ≤ k) : w.ownsRow b0 e size v n xs :=
  ⟨h.1, h.2.imp id fun ⟨g, cap, cur, e1, _, e3⟩ => ⟨g, cap, cur, e1, hb g (by rw [e1]; rfl), e3⟩⟩
theorem ownsRow_base0 {w : World} {b0 : Nat} {e : TypeId} {size : Nat} {v : Value} {n : Nat} {xs : List Value} (h : w.ownsRow b0 e size v n xs) : w.ownsRow 0 e size v n xs :=
  ⟨h.1, h.2.imp id fun ⟨g, cap, cur, e1, _, e3⟩ => ⟨g, cap, cur, e1, Nat.zero_le _, e3⟩⟩
/-- A row's value. -/
theorem row_form {w : World} {b0 : Nat} {e : TypeId} {size : Nat} {v : Value} {n : Nat} {xs : List Value} (h : w.ownsRow b0 e size v n xs) : ∃ (a : Option Addr) (cap : Nat), v = .slice a n cap ∧ n ≤ cap ∧ (0 < n → ∃ g, a = some ⟨g, 0, none⟩ ∧ b0 ≤ g) := by
  rcases h.2 with ⟨e1, e2⟩ | ⟨g, cap, cur, e1, e2, _, e4, _⟩
  · exact ⟨none, 0, by rw [e2]; exact e1, by omega, fun h => by omega⟩
  · exact ⟨some ⟨g, 0, none⟩, cap, e1, e4, fun _ => ⟨g, rfl, e2⟩⟩
/-- The blocks of a play: its atlas's, its own, its rows'. -/
def PB (Z : Nat → Prop) (p : Nat) (v : Nat → Value) (b : Nat) : Prop := Z b ∨ b = p ∨ ∃ n, n < 4 ∧ (v n).ownBlock = some b
theorem PlayAt.pb {w : World} {b0 p A : Nat} {Z : Nat → Prop} {v : Nat → Value} {P : Pl} (h : PlayAt w b0 p A Z v P) {b : Nat} (hb : PB Z p v b) : b0 ≤ b ∧ b < w.heap.size := by
  rcases hb with hb | hb | ⟨n, hn, hb⟩
  · exact ⟨h.z0 b hb, (h.atl.lt hb).2⟩
  · rw [hb]; exact ⟨h.p0, h.pl⟩
  · exact (h.row n hn).lt b hb
/-- A play behind some calls: what it is, where it lies, what else is as it was. -/
structure PN (b0 p A : Nat) (Z : Nat → Prop) (v : Nat → Value) (Z' : Nat → Prop) (v' : Nat → Value) (P' : Pl) (w w' : World) : Prop where
  pl : PlayAt w' b0 p A Z' v' P'
  sub : ∀ b, PB Z' p v' b → PB Z p v b ∨ w.heap.size ≤ b
  fr : Fr (fun b _ => PB Z p v b) w w'
theorem PN.refl {w : World} {b0 p A : Nat} {Z : Nat → Prop} {v : Nat → Value} {P : Pl} (h : PlayAt w b0 p A Z v P) : PN b0 p A Z v Z v P w w := ⟨h, fun _ hb => .inl hb, Fr.refl _ w⟩
theorem PN.trans {b0 p A : Nat} {Z Z' Z'' : Nat → Prop} {v v' v'' : Nat → Value} {P' P'' : Pl} {w w' w'' : World} (h : PN b0 p A Z v Z' v' P' w w') (k : PN b0 p A Z' v' Z'' v'' P'' w' w'') : PN b0 p A Z v Z'' v'' P'' w w'' :=
  ⟨k.pl, fun b hb => (k.sub b hb).elim (h.sub b) (fun e => .inr (Nat.le_trans h.fr.size e)), h.fr.trans_new k.fr fun b _i hb e => (h.sub b e).elim id (fun e => absurd hb (Nat.not_lt.2 e))⟩
theorem PN.below {b0 p A : Nat} {Z Z' : Nat → Prop} {v v' : Nat → Value} {P P' : Pl} {w w' : World} (h : PN b0 p A Z v Z' v' P' w w') (h0 : PlayAt w b0 p A Z v P) : Below b0 w w' :=
  h.fr.below (by have := h0.p0; have := h0.pl; omega) fun b i hb e => by have := (h0.pb e).1; omega
/-- What a play is behind stores into itself and into one of its rows. -/
theorem PlayAt.step {w w' : World} {b0 p A : Nat} {Z : Nat → Prop} {v : Nat → Value} {P : Pl} (h : PlayAt w b0 p A Z v P) {n : Nat} (hn : n < 4) (hF : Fr (fun c _ => (v n).ownBlock = some c ∨ c = p) w w') {v' : Value} {P' : Pl} (ha : P'.a = P.a) (hsame : ∀ k, k ≠ n → P'.all k = P.all k)
    (c0 : w'.cell? ⟨p, 0, none⟩ = some (.pointer (some ⟨A, 0, none⟩))) (cr : ∀ k, k < 4 → w'.cell? ⟨p, 1 + k, none⟩ = some (if k = n then v' else v k)) (c5 : w'.cell? ⟨p, 5, none⟩ = some (.int .i64 P'.time)) (c6 : w'.cell? ⟨p, 6, none⟩ = some (.bool P'.moved)) (fz : ∀ i, i < 7 → w'.frozen? ⟨p, i, none⟩ = false)
    (hown : w'.ownsRow 0 57 9 v' (P'.all n).length (flatD (P'.all n))) (hblk : ∀ k, v'.ownBlock = some k → (v n).ownBlock = some k ∨ w.heap.size ≤ k) (hraw : ∀ d ∈ P'.all n, RqOk d.q ∧ RawU w b0 d.pa d.pn d.q.ps) :
    PN b0 p A Z v Z (updN v n v') P' w w' := by
  have hb0 : b0 ≤ w.heap.size := by have := h.p0; have := h.pl; omega
  have hrow : ∀ k, k < 4 → ∀ c, (v k).ownBlock = some c → b0 ≤ c ∧ c < w.heap.size := fun k hk c hc => (h.row k hk).lt c hc
  have hB : Below b0 w w' := hF.below hb0 fun b i hb e => by
    rcases e with e | e
    · have := (hrow n hn b e).1; omega
    · have := h.p0; omega
  have hv' : ∀ k, v'.ownBlock = some k → b0 ≤ k ∧ k ≠ p ∧ ¬ Z k ∧ ∀ m, m < 4 → m ≠ n → (v m).ownBlock ≠ some k := by
    intro k e
    rcases hblk k e with e1 | e1
    · exact ⟨(hrow n hn k e1).1, fun e2 => h.rp n hn (by rw [← e2]; exact e1), h.rz n hn k e1, fun m hm hne e3 => h.rr n m hn hm (fun e => hne e.symm) k e1 e3⟩
    · refine ⟨by omega, fun e2 => by have := h.pl; omega, fun hz => by have := (h.atl.lt hz).2; omega, fun m hm _ e3 => by have := (hrow m hm k e3).2; omega⟩
  refine ⟨⟨?_, h.b8, h.z0, h.p0, h.pz, Nat.lt_of_lt_of_le h.pl hF.size, c0, fun k hk => ?_, c5, c6, fz, fun k hk => ?_, fun k hk => ?_, fun k hk b hb => ?_, fun k m hk hm hkm b hb => ?_, fun k hk d hd => ?_⟩, fun b hb => ?_, hF.mono fun c i e => e.elim (fun e => .inr (.inr ⟨n, hn, e⟩)) (fun e => .inr (.inl e))⟩
  · rw [ha]
    refine h.atl.fr hF fun b i e => ?_
    rcases e with e | e
    · exact ⟨by have := (hrow n hn b e).1; have := h.b8; omega, h.rz n hn b e⟩
    · exact ⟨by have := h.b8; have := h.p0; omega, by rw [e]; exact h.pz⟩
  · have := cr k hk
    unfold updN
    exact this
  · by_cases e : k = n
    · subst e
      rw [updN_same]
      exact ownsRow_base hown fun c hc => (hv' c hc).1
    · rw [updN_ne _ _ _ e, hsame k e]
      refine ownsRow_fr' hF (h.row k hk) fun c i hc e2 => ?_
      rcases e2 with e2 | e2
      · exact h.rr k n hk hn e c hc e2
      · exact h.rp k hk (by rw [← e2]; exact hc)
  · unfold inRow
    by_cases e : k = n
    · subst e
      rw [updN_same]
      exact fun hb => (hv' p hb).2.1 rfl
    · rw [updN_ne _ _ _ e]
      exact h.rp k hk
  · unfold inRow at hb
    by_cases e : k = n
    · subst e
      rw [updN_same] at hb
      exact (hv' b hb).2.2.1
    · rw [updN_ne _ _ _ e] at hb
      exact h.rz k hk b hb
  · unfold inRow at hb ⊢
    by_cases e : k = n
    · subst e
      rw [updN_same] at hb
      rw [updN_ne _ _ _ (Ne.symm hkm)]
      exact (hv' b hb).2.2.2 m hm (Ne.symm hkm)
    · rw [updN_ne _ _ _ e] at hb
      by_cases e2 : m = n
      · subst e2
        rw [updN_same]
        exact fun e3 => (hv' b e3).2.2.2 k hk e hb
      · rw [updN_ne _ _ _ e2]
        exact h.rr k m hk hm hkm b hb
  · by_cases e : k = n
    · subst e
      exact ⟨(hraw d hd).1, (hraw d hd).2.below hB⟩
    · rw [hsame k e] at hd
      exact ⟨(h.raw k hk d hd).1, (h.raw k hk d hd).2.below hB⟩
  · rcases hb with hb | hb | ⟨k, hk, hb⟩
    · exact .inl (.inl hb)
    · exact .inl (.inr (.inl hb))
    · by_cases e : k = n
      · subst e
        rw [updN_same] at hb
        exact (hblk b hb).imp (fun e => .inr (.inr ⟨k, hk, e⟩)) id
      · rw [updN_ne _ _ _ e] at hb
        exact .inl (.inr (.inr ⟨k, hk, hb⟩))
/-- A call on its atlas, its blocks named. -/
theorem PlayAt.nextZ {w w' : World} {b0 p A : Nat} {Z Z' : Nat → Prop} {v : Nat → Value} {P : Pl} (h : PlayAt w b0 p A Z v P) {a' : Atl} (h1 : AtlasIn w' A Z' a') (h2 : ∀ b, Z' b → Z b ∨ w.heap.size ≤ b) (h3 : Fr (fun b _ => Z b) w w') : PN b0 p A Z v Z' v { P with a := a' } w w' := by
  have hs : b0 ≤ w.heap.size := by have := h.p0; have := h.pl; omega
  have hB : Below b0 w w' := h3.below hs fun b i hb e => by have := h.z0 b e; omega
  have hc : ∀ i, w'.cell? ⟨p, i, none⟩ = w.cell? ⟨p, i, none⟩ := fun i => h3.cell p i h.pl h.pz
  have hf : ∀ i, w'.frozen? ⟨p, i, none⟩ = w.frozen? ⟨p, i, none⟩ := fun i => h3.frozen p i h.pl h.pz
  refine ⟨⟨h1, h.b8, fun b hb => (h2 b hb).elim (h.z0 b) (fun e => Nat.le_trans hs e), h.p0, fun hb => (h2 p hb).elim h.pz (fun e => by have := h.pl; omega), Nat.lt_of_lt_of_le h.pl h3.size, (hc 0).trans h.c0, fun n hn => (hc _).trans (h.cr n hn), (hc 5).trans h.c5, (hc 6).trans h.c6, fun i hi => (hf i).trans (h.fz i hi), fun n hn => ?_, h.rp, fun n hn b hb hz => ?_, h.rr, fun n hn d hd => ⟨(h.raw n hn d hd).1, (h.raw n hn d hd).2.below hB⟩⟩, fun b hb => ?_, h3.mono fun b i e => .inl e⟩
  · exact ownsRow_fr' h3 (h.row n hn) (fun b i e e' => h.rz n hn b e e')
  · rcases h2 b hz with e | e
    · exact h.rz n hn b hb e
    · have := ((h.row n hn).lt b hb).2; omega
  · rcases hb with hb | hb | hb
    · exact (h2 b hb).imp (fun e => .inl e) id
    · exact .inl (.inr (.inl hb))
    · exact .inl (.inr (.inr hb))
theorem PlayAt.grow {w w' : World} {b0 p A : Nat} {Z : Nat → Prop} {v : Nat → Value} {P : Pl} (h : PlayAt w b0 p A Z v P) (hb : Below w.heap.size w w') : PN b0 p A Z v Z v P w w' :=
  h.nextZ (a' := P.a) (h.atl.below hb) (fun _ hz => .inl hz) (Fr.of_below hb)
theorem updN_self {α : Type} (f : Nat → α) (n : Nat) : updN f n (f n) = f := by
  funext k; unfold updN; split
  · rename_i e; rw [e]
  · rfl
/-- The time is told. -/
theorem PlayAt.tick {w : World} {b0 p A : Nat} {Z : Nat → Prop} {v : Nat → Value} {P : Pl} (h : PlayAt w b0 p A Z v P) (t : Int) : PN b0 p A Z v Z v { P with time := t } w (w.setCell ⟨p, 5, none⟩ (.int .i64 t)) := by
  have hF : Fr (fun c _ => (v 0).ownBlock = some c ∨ c = p) w (w.setCell ⟨p, 5, none⟩ (.int .i64 t)) := (Fr.refl _ w).setCell (b := p) (i := 5) (.inl (.inr rfl)) _
  have := h.step (n := 0) (by omega) hF (v' := v 0) (P' := { P with time := t }) rfl (fun _ _ => rfl) ((cell_ne w _ (.inr (by omega))).trans h.c0) (fun k hk => by rw [cell_ne w _ (.inr (by omega)), h.cr k hk]; split <;> simp_all) (cell_eq h.c5 _) ((cell_ne w _ (.inr (by omega))).trans h.c6) (fun i hi => by rw [World.frozen?_setCell]; exact h.fz i hi)
    (ownsRow_fr' ((Fr.refl (OfB p) w).setCell (b := p) (i := 5) (.inl rfl) _) (ownsRow_base0 (h.row 0 (by omega))) (fun c i hc e => h.rp 0 (by omega) (by have : c = p := e; rw [← this]; exact hc))) (fun k hk => .inl hk) (h.raw 0 (by omega))
  rwa [updN_self] at this
/-- Whether a step was done is told. -/
theorem PlayAt.tell {w : World} {b0 p A : Nat} {Z : Nat → Prop} {v : Nat → Value} {P : Pl} (h : PlayAt w b0 p A Z v P) (t : Bool) : PN b0 p A Z v Z v { P with moved := t } w (w.setCell ⟨p, 6, none⟩ (.bool t)) := by
  have hF : Fr (fun c _ => (v 0).ownBlock = some c ∨ c = p) w (w.setCell ⟨p, 6, none⟩ (.bool t)) := (Fr.refl _ w).setCell (b := p) (i := 6) (.inl (.inr rfl)) _
  have := h.step (n := 0) (by omega) hF (v' := v 0) (P' := { P with moved := t }) rfl (fun _ _ => rfl) ((cell_ne w _ (.inr (by omega))).trans h.c0) (fun k hk => by rw [cell_ne w _ (.inr (by omega)), h.cr k hk]; split <;> simp_all) ((cell_ne w _ (.inr (by omega))).trans h.c5) (cell_eq h.c6 _) (fun i hi => by rw [World.frozen?_setCell]; exact h.fz i hi)
    (ownsRow_fr' ((Fr.refl (OfB p) w).setCell (b := p) (i := 6) (.inl rfl) _) (ownsRow_base0 (h.row 0 (by omega))) (fun c i hc e => h.rp 0 (by omega) (by have : c = p := e; rw [← this]; exact hc))) (fun k hk => .inl hk) (h.raw 0 (by omega))
  rwa [updN_self] at this
/-- A row is changed where it lies. -/
theorem PlayAt.inrow {w w' : World} {b0 p A : Nat} {Z : Nat → Prop} {v : Nat → Value} {P : Pl} (h : PlayAt w b0 p A Z v P) {n : Nat} (hn : n < 4) {l : List Dn} (hF : Fr (fun c _ => (v n).ownBlock = some c) w w') (hown : w'.ownsRow b0 57 9 (v n) l.length (flatD l)) (hraw : ∀ d ∈ l, RqOk d.q ∧ RawU w b0 d.pa d.pn d.q.ps) : PN b0 p A Z v Z v { P with all := fun k => if k = n then l else P.all k } w w' := by
  have hp : ∀ i, w'.cell? ⟨p, i, none⟩ = w.cell? ⟨p, i, none⟩ := fun i => hF.cell p i h.pl (h.rp n hn)
  have := h.step hn (hF.mono fun c i e => .inl e) (v' := v n) (P' := { P with all := fun k => if k = n then l else P.all k }) rfl (fun k hk => if_neg hk) ((hp 0).trans h.c0) (fun k hk => by rw [hp, h.cr k hk]; split <;> simp_all) ((hp 5).trans h.c5) ((hp 6).trans h.c6) (fun i hi => (hF.frozen p i h.pl (h.rp n hn)).trans (h.fz i hi))
    (by dsimp only; rw [if_pos rfl]; exact ownsRow_base0 hown) (fun k hk => .inl hk) (by dsimp only; rw [if_pos rfl]; exact hraw)
  rwa [updN_self] at this
/-- A row is put in another's place. -/
theorem PlayAt.put {w w3 : World} {b0 p A : Nat} {Z : Nat → Prop} {v : Nat → Value} {P : Pl} (h : PlayAt w b0 p A Z v P) {n : Nat} (hn : n < 4) {v3 : Value} {l : List Dn} (hF : Fr (fun c _ => (v n).ownBlock = some c) w w3) (hown : w3.ownsRow 0 57 9 v3 l.length (flatD l)) (hblk : ∀ k, v3.ownBlock = some k → (v n).ownBlock = some k ∨ w.heap.size ≤ k) (hraw : ∀ d ∈ l, RqOk d.q ∧ RawU w b0 d.pa d.pn d.q.ps) :
    PN b0 p A Z v Z (updN v n v3) { P with all := fun k => if k = n then l else P.all k } w (w3.setCell ⟨p, 1 + n, none⟩ v3) := by
  have hp : ∀ i, w3.cell? ⟨p, i, none⟩ = w.cell? ⟨p, i, none⟩ := fun i => hF.cell p i h.pl (h.rp n hn)
  have hne : v3.ownBlock ≠ some p := fun e => by
    rcases hblk p e with e1 | e1
    · exact h.rp n hn e1
    · have := h.pl; omega
  refine h.step hn ((hF.mono fun c i e => .inl e).setCell (b := p) (i := 1 + n) (.inl (.inr rfl)) _) (v' := v3) (P' := { P with all := fun k => if k = n then l else P.all k }) rfl (fun k hk => if_neg hk) ((cell_ne w3 _ (.inr (by omega))).trans ((hp 0).trans h.c0)) (fun k hk => ?_) ((cell_ne w3 _ (.inr (by omega))).trans ((hp 5).trans h.c5)) ((cell_ne w3 _ (.inr (by omega))).trans ((hp 6).trans h.c6)) (fun i hi => by rw [World.frozen?_setCell]; exact (hF.frozen p i h.pl (h.rp n hn)).trans (h.fz i hi)) ?_ hblk (by dsimp only; rw [if_pos rfl]; exact hraw)
  · split
    · rename_i e; rw [e]; exact cell_eq ((hp (1 + n)).trans (h.cr n hn)) _
    · rename_i e; rw [cell_ne w3 _ (.inr (by omega)), hp, h.cr k hk]
  · dsimp only
    rw [if_pos rfl]
    exact ownsRow_fr' (frB p w3 _ _) hown fun c i hc e => hne (by have : c = p := e; rw [← this]; exact hc)
/-- What is written elsewhere leaves a play alone. -/
theorem PlayAt.fr {M : Nat → Nat → Prop} {w w' : World} (hf : Fr M w w') {b0 p A : Nat} {Z : Nat → Prop} {v : Nat → Value} {P : Pl} (h : PlayAt w b0 p A Z v P) (hM : ∀ b i, M b i → b0 ≤ b ∧ ¬ PB Z p v b) : PlayAt w' b0 p A Z v P := by
  have hs : b0 ≤ w.heap.size := by have := h.p0; have := h.pl; omega
  have hB : Below b0 w w' := hf.below hs fun b i hb e => by have := (hM b i e).1; omega
  have hp : ∀ i, ¬ M p i := fun i e => (hM p i e).2 (.inr (.inl rfl))
  refine ⟨h.atl.fr hf fun b i e => ⟨by have := (hM b i e).1; have := h.b8; omega, fun hz => (hM b i e).2 (.inl hz)⟩, h.b8, h.z0, h.p0, h.pz, Nat.lt_of_lt_of_le h.pl hf.size, (hf.cell p 0 h.pl (hp 0)).trans h.c0, fun n hn => (hf.cell p _ h.pl (hp _)).trans (h.cr n hn), (hf.cell p 5 h.pl (hp 5)).trans h.c5, (hf.cell p 6 h.pl (hp 6)).trans h.c6, fun i hi => (hf.frozen p i h.pl (hp i)).trans (h.fz i hi), fun n hn => ownsRow_fr' hf (h.row n hn) fun b i e e' => (hM b i e').2 (.inr (.inr ⟨n, hn, e⟩)), h.rp, h.rz, h.rr, fun n hn d hd => ⟨(h.raw n hn d hd).1, (h.raw n hn d hd).2.below hB⟩⟩

end Go.Proofs.YtenaepdmlknlcaaGreatDoor

namespace Go.Proofs.YtenaepdmlknlcaaGreatDoor
open Go.RowKit Go.Shelf

theorem info57 : (Tryz.prog.info? 57).map (fun i => (i.zero, i.size, i.bytes)) = some (some (.agg #[.int .i64 0, .int .i64 0, .int .i64 0, .int .i64 0, .int .i64 0, .slice none 0 0, .int .i64 0, .int .i64 0, .string ⟨#[]⟩]), 9, 96) := by kernel_rfl
theorem Fr.undrew {M : Nat → Nat → Prop} {A B : World} (h : Fr M A.drew B) : Fr M A B := ⟨h.os, h.tape, h.output, h.size, h.block, h.cell, h.frozen⟩
/-- An append to a row of our own whose bytes come near to what memory bears: it stays where it is, or lies in a new block. -/
theorem run_append_wide {P : Program} (w : World) (t ty : TypeId)
    (e : TypeId) (i : TypeInfo) (z : Value) (size bytes : Nat) (h1 : P.underlying t = some (.slice e)) (h2 : P.info? e = some i) (h3 : i.zero = some z) (h4 : i.size = size) (h5 : i.bytes = bytes) (h6 : z.cells.size = size) (h7 : 0 < size)
    (v : Value) (n : Nat) (xs : List Value) (hown : w.ownsRow 0 e size v n xs)
    (ad : Addr) (m c : Nat) (news : List Value) (hn : news.length = m * size) (hc : ∀ j u, news[j]? = some u → w.cell? (ad.add j) = some u) (h1c : ∀ u ∈ news, u.oneCell' = true)
    (b1 : n + m ≤ maxLen) (b2 : ((n + m) + (n + m) / 4 + 192) * bytes ≤ 281474976710656) :
    ∃ v' w', (Builtin.append_ #[t, t] ty #[v, .slice (some ad) m c]).run P w = .ok v' w' ∧ w'.ownsRow 0 e size v' (n + m) (xs ++ news) ∧ (∀ k, v'.ownBlock = some k → v.ownBlock = some k ∨ w.heap.size ≤ k) ∧ Fr (fun c _ => v.ownBlock = some c) w w' := by
  obtain ⟨v', w', hrun, r1, r2, _⟩ := run_append_own_wide (P := P) w 0 t ty e i z size bytes h1 h2 h3 h4 h5 h6 h7 v n xs hown ad m c news hn hc h1c b1 b2 (Nat.zero_le _)
  have hb : ∀ k, k < w.heap.size → ¬ v.ownBlock = some k → w'.heap[k]? = w.heap[k]? := fun k hk hne => r2.block k hk (fun e => hne e.symm)
  refine ⟨v', w', hrun, r1, ?_, ⟨r2.os, r2.tape, r2.output, r2.size, fun k hk hne => hb k hk (hne 0), fun k j hk hne => World.cell?_of_block (w := w) (hb k hk hne), fun k j hk hne => World.frozen?_of_block (w := w) (hb k hk hne)⟩⟩
  rcases hown.2 with ⟨rfl, rfl⟩ | ⟨g, cap, cur, rfl, _, e3, e4, e5, e6, e7⟩
  · obtain rfl : xs = [] := List.eq_nil_of_length_eq_zero (by simpa using hown.1)
    obtain ⟨v2, w2, hrun2, k1, _⟩ := run_append_own_wide (P := P) w w.heap.size t ty e i z size bytes h1 h2 h3 h4 h5 h6 h7 (.slice none 0 0) 0 [] (World.ownsRow_nil w _ e size) ad m c news hn hc h1c b1 b2 (Nat.le_refl _)
    obtain ⟨rfl, rfl⟩ : v' = v2 ∧ w' = w2 := by rw [hrun] at hrun2; injection hrun2 with q1 q2; exact ⟨q1, q2⟩
    exact fun k hk => .inr (k1.lt k hk).1
  · by_cases hr : n + m ≤ cap
    · obtain ⟨w2, hrun2, _⟩ := run_append_own_spare (P := P) w 0 t ty e i size h1 h2 h4 g n cap xs hown ad m c news hn hc h1c hr
      obtain ⟨rfl, rfl⟩ : v' = _ ∧ w' = w2 := by rw [hrun] at hrun2; injection hrun2 with q1 q2; exact ⟨q1, q2⟩
      exact fun k hk => .inl hk
    · have hrun2 := run_append_grow (P := P) w t ty e i z h1 h2 h3 ⟨g, 0, none⟩ n cap xs (by rw [h4]; exact hown.1) (hown.cells (g := g) rfl) ad m c news (by rw [h4]; exact hn) hc (by omega) (by simp only [maxLen] at b1; omega) (by rw [h5]; exact growslice_fits_wide (by omega) b2)
      rw [hrun] at hrun2
      injection hrun2 with q1 q2
      subst q1
      exact fun k hk => .inr (by cases hk; exact Nat.le_refl _)
theorem step_append_wide {P : Program} {ops : Array Oper} {o : Oper} {a : Act} {w : World} {K : Act → World → Prop} {Q : Exit → Act → World → Prop} {E : Prop}
    (hg : o.guard = none) (s x : Operand) (t : TypeId) (hop : o.op = Op.call { callee := Callee.builtin Builtin.append, args := #[s, x], argTypes := #[t, t] })
    (e : TypeId) (i : TypeInfo) (z : Value) (size bytes : Nat) (h1 : P.underlying t = some (.slice e)) (h2 : P.info? e = some i) (h3 : i.zero = some z) (h4 : i.size = size) (h5 : i.bytes = bytes) (h6 : z.cells.size = size) (h7 : 0 < size)
    (v : Value) (n : Nat) (xs : List Value) (hs : a.eval s = v) (hown : w.ownsRow 0 e size v n xs)
    (ad : Addr) (m c : Nat) (news : List Value) (hx : a.eval x = .slice (some ad) m c) (hn : news.length = m * size) (hc : ∀ j u, news[j]? = some u → w.cell? (ad.add j) = some u) (h1c : ∀ u ∈ news, u.oneCell' = true)
    (b1 : n + m ≤ maxLen) (b2 : ((n + m) + (n + m) / 4 + 192) * bytes ≤ 281474976710656)
    (h : ∀ v' w', w'.ownsRow 0 e size v' (n + m) (xs ++ news) → (∀ k, v'.ownBlock = some k → v.ownBlock = some k ∨ w.heap.size ≤ k) → Fr (fun c _ => v.ownBlock = some c) w w' → K (a.put o.dst v') w') :
    if Region.wanted o (yielded ops a.tmps) = true then Oper.wp P o a w K Q else E := by
  have hw : Region.wanted o (yielded ops a.tmps) = true := by simp [Region.wanted, hg]
  rw [if_pos hw]
  obtain ⟨v', w', hrun, r1, r2, r3⟩ := run_append_wide (P := P) w t o.type e i z size bytes h1 h2 h3 h4 h5 h6 h7 v n xs hown ad m c news hn hc h1c b1 b2
  unfold Oper.wp
  simp [execOp, hop, resolve, invoke, builtin, hs, hx, hrun, Result.andThen]
  exact h v' w' r1 r2 r3

/-- What send leaves. -/
def SendPost (b0 p A n : Nat) (Z : Nat → Prop) (v : Nat → Value) (P : Pl) (d : Dn) (w : World) (e : Ending) (w' : World) : Prop := e = .returned (.bool true) ∧ ∃ Z' v', PN b0 p A Z v Z' v' (sendP P n d) w w'

set_option maxRecDepth 100000 in
set_option maxHeartbeats 2000000 in
theorem send_any {w : World} {b0 p A : Nat} {Z : Nat → Prop} {v : Nat → Value} {P : Pl} (h : PlayAt w b0 p A Z v P) (ho : PlOk P) {n : Nat} (hn : n < 4) (hlen : (P.all n).length ≤ 2199023255488) (d : Dn) (hq : RqOk d.q) (hr : RawU w b0 d.pa d.pn d.q.ps) (hf : d.fr = 0) (hu : d.un = 0) (ha : d.an = ⟨#[]⟩) :
    Calls Tryz.prog 17 #[.pointer (some ⟨p, 0, none⟩), .int .i64 (n : Int), rqV d.q (.slice d.pa d.pn d.pc)] w (SendPost b0 p A n Z v P d w) := by
  have hb0 : b0 ≤ w.heap.size := by have := h.p0; have := h.pl; omega
  obtain ⟨a, cap, hv, hcap, hg⟩ := row_form (h.row n hn)
  have hc0 := h.c0
  have hcr := h.cr n hn
  have hpl := h.pl
  have hfz := h.fz (1 + n) (by omega)
  rw [hv] at hcr
  have HH : Hid (PlayAt w b0 p A Z v P) := h
  have HO : Hid (PlOk P) := ho
  have Hv : Hid (v n = .slice a (P.all n).length cap) := hv
  have HL : Hid ((P.all n).length ≤ 2199023255488) := hlen
  have HT : Hid (∀ W : World, Below w.heap.size w W → Calls Tryz.prog 45 #[rqV d.q (.slice d.pa d.pn d.pc)] W fun e w' => e = .returned (.string (textT d.q)) ∧ Below W.heap.size W w') := fun W hW => text_any d.q hq d.pa d.pn d.pc W ((hr.at hb0).below hW)
  have HR : Hid (RqOk d.q ∧ RawU w b0 d.pa d.pn d.q.ps) := ⟨hq, hr⟩
  have hop : ∀ k, openN ((P.all n).take k) ≤ 6 := fun k => by
    have h1 := openN_take_le (P.all n) k
    have h2 := ho.cnt n hn
    have h3 := (ho.a.ok.ss n hn).w
    omega
  obtain ⟨m, hm⟩ : ∃ m, (P.all n).length = m := ⟨_, rfl⟩
  have Hm : Hid ((P.all n).length = m) := hm
  have Hg : Hid (0 < m → ∃ g, a = some ⟨g, 0, none⟩ ∧ b0 ≤ g) := by rw [hm] at hg; exact hg
  rw [hm] at hcr hcap hlen
  have hB0 : ∀ o : Obj, Below w.heap.size w (w.alloc o) := fun o => (Below.refl _ _).alloc (Nat.le_refl _) _
  have Hdn : Hid (dnV d = [.int .i64 d.q.k, .int .i64 d.q.a, .int .i64 d.q.b, .int .i64 d.q.c, .int .i64 d.q.d, .slice d.pa d.pn d.pc, .int .i64 0, .int .i64 0, .string ⟨#[]⟩]) := by show dnV d = _; unfold dnV; rw [hf, hu, ha]
  clear h ho hv hq hr hf hu ha hm hg
  have hnI : (n : Int) < 4 := by omega
  have hnn : ¬ (n : Int) < 0 := by omega
  go_enter Tryz.func17, Tryz.ntmps17
  go_wp2
  go_loop [7, 8] (fun o i => ∃ k : Nat, k ≤ m ∧ i = .int .i64 k ∧ o = .int .i64 ((openN ((P.all n).take k) : Nat) : Int)) (fun _ i => m - (intOf i).toNat)
  case atStart => exact ⟨0, Nat.zero_le _, rfl, rfl⟩
  case round =>
    obtain ⟨k, hk, rfl, rfl⟩ := hrel
    by_cases hlt : k < m
    · obtain ⟨g, rfl, hgb⟩ := Hg.out (by omega)
      obtain ⟨x, hx⟩ : ∃ x, (P.all n)[k]? = some x := ⟨_, List.getElem?_eq_getElem (by rw [Hm.out]; exact hlt)⟩
      have hrow := HH.out.row n hn
      rw [Hv.out] at hrow
      have hgl : g < w.heap.size := (hrow.lt g rfl).2
      have hcx : w.cell? ⟨g, k * 9 + 7, none⟩ = some (.int .i64 x.un) := by
        rw [hrow.cellAt (k * 9 + 7) (by rw [Hm.out]; omega), flatD_get hx 7 (by omega)]; rfl
      have Hs : Hid (openN ((P.all n).take (k + 1)) = openN ((P.all n).take k) + if x.un = 0 then 1 else 0) := openN_take hx
      have h6 := hop k
      have h7 := hop (k + 1)
      clear hrow
      obtain ⟨o, hO⟩ : ∃ o, openN ((P.all n).take k) = o := ⟨_, rfl⟩
      rw [hO] at Hs h6
      rw [hO]
      have hkI : (k : Int) < (m : Int) := by omega
      have hkn : ¬ (k : Int) < 0 := by omega
      by_cases hxu : x.un = 0
      · rw [hxu] at hcx
        go_wp2
        go_round
        case rel => exact ⟨k + 1, by omega, by go_num, by rw [Hs.out, if_pos hxu]; go_num⟩
        case measure => simp [intOf]; omega
      · go_wp2
        go_round
        case rel => exact ⟨k + 1, by omega, by go_num, by rw [Hs.out, if_neg hxu]; go_num⟩
        case measure => simp [intOf]; omega
    · obtain rfl : k = m := by omega
      have hall : (P.all n).take k = P.all n := List.take_of_length_le (by rw [Hm.out]; exact Nat.le_refl _)
      rw [hall]
      have h6 : openN (P.all n) ≤ 6 := by have := hop k; rw [hall] at this; exact this
      by_cases he : openN (P.all n) = 6
      · rw [he]
        go_wp2
        go_ret
        refine ⟨rfl, Z, v, ?_⟩
        unfold sendP
        rw [if_pos he]
        exact HH.out.grow (hB0 _)
      · have HW : Hid (waitS (P.a.ss n) < 6) := by
          have h1 := (HO.out.a.ok.ss n hn).w
          have h2 := HO.out.cnt n hn
          show waitS (P.a.ss n) < 6
          omega
        have heI : ¬ ((openN (P.all n) : Nat) : Int) = 6 := by omega
        have Hsp : Hid (sendP P n d = { P with a := sendM P.a n (textT d.q), all := fun k => if k = n then P.all n ++ [d] else P.all k }) := by show sendP P n d = _; unfold sendP; rw [if_neg he]
        obtain ⟨i57, hi0, hz0, hz1, hz2⟩ := info_parts info57
        have HI : Hid (Tryz.prog.info? 57 = some i57 ∧ i57.zero = some (.agg #[.int .i64 0, .int .i64 0, .int .i64 0, .int .i64 0, .int .i64 0, .slice none 0 0, .int .i64 0, .int .i64 0, .string ⟨#[]⟩]) ∧ i57.size = 9 ∧ i57.bytes = 96) := ⟨hi0, hz0, hz1, hz2⟩
        clear hi0 hz0 hz1 hz2 hall h6 he hop
        obtain ⟨⟨qk, qa, qb, qc, qd, qps⟩, pa, pn, pc, fr, un, an⟩ := d
        dsimp only [rqV] at *
        go_wp2_with fail
        go_region_with (first
          | (go_at_call 45; refine Calls.mono (HT.out _ (by first | exact hB0 _ | exact (hB0 _).drew)) ?_; rintro e w1 ⟨rfl, hb1⟩; dsimp only; have HB1 : Hid (Below w.heap.size w w1) := Below.trans (by first | exact hB0 _ | exact (hB0 _).drew) (hb1.mono (by simp)); have c01 : w1.cell? ⟨p, 0, none⟩ = some (.pointer (some ⟨A, 0, none⟩)) := (HB1.out.cell (p := ⟨p, 0, none⟩) hpl).trans hc0; have hs1 : w.heap.size < w1.heap.size := (by have := hb1.size; simp at this; omega); have Hk : Hid (∀ i u, ([.int .i64 qk, .int .i64 qa, .int .i64 qb, .int .i64 qc, .int .i64 qd, .slice pa pn pc] : List Value)[i]? = some u → w1.cell? ⟨w.heap.size, i, none⟩ = some u) := (fun i u hi => (hb1.cell (p := ⟨w.heap.size, i, none⟩) (by simp)).trans (by show (w.alloc _).cell? _ = _; rw [World.cell?_alloc_new]; simpa using hi)); clear hb1)
          | (go_at_call 42; refine Calls.mono (Send_in (HH.out.atl.below HB1.out) hn (textT _) (textT_size _) HW.out) ?_; rintro e w2 ⟨rfl, Z2, hA2, hZ2, hF2⟩; dsimp only; have HP2 : Hid _ := (HH.out.grow HB1.out).trans ((HH.out.grow HB1.out).pl.nextZ hA2 hZ2 hF2); clear hA2 hZ2; have HF2 : Hid _ := hF2; clear hF2))
        all_goals
          have hzs : ∀ b, Z b → b < w.heap.size := fun b hb => (HH.out.atl.lt hb).2
          have hq2 : ∀ i u, ([.int .i64 qk, .int .i64 qa, .int .i64 qb, .int .i64 qc, .int .i64 qd, .slice pa pn pc] : List Value)[i]? = some u → w2.cell? ⟨w.heap.size, i, none⟩ = some u := fun i u hi => (HF2.out.cell w.heap.size i hs1 (fun e => by have := hzs _ e; omega)).trans (Hk.out i u hi)
          have q0 := hq2 0 _ rfl
          have q1 := hq2 1 _ rfl
          have q2 := hq2 2 _ rfl
          have q3 := hq2 3 _ rfl
          have q4 := hq2 4 _ rfl
          have q5 := hq2 5 _ rfl
          have hpl1 : p < w1.heap.size := by omega
          have cr2 : w2.cell? ⟨p, 1 + n, none⟩ = some (.slice a k cap) := (HF2.out.cell p (1 + n) hpl1 HH.out.pz).trans ((HB1.out.cell (p := ⟨p, 1 + n, none⟩) hpl).trans hcr)
          have f2 : w2.frozen? ⟨p, 1 + n, none⟩ = false := (HF2.out.frozen p (1 + n) hpl1 HH.out.pz).trans ((HB1.out.frozen (p := ⟨p, 1 + n, none⟩) hpl).trans hfz)
          have hs2 := HF2.out.size
          have hpl2 : p < w2.heap.size := by omega
          have hbl2 : w.heap.size < w2.heap.size := by omega
          have hpn2 : p ≠ w2.heap.size := by omega
          have HO2 : Hid (w2.ownsRow 0 57 9 (.slice a k cap) k (flatD (P.all n))) := by
            have := ownsRow_base0 (HP2.out.pl.row n hn)
            rw [Hv.out] at this
            dsimp only at this
            rw [Hm.out] at this
            exact this
          have HN : Hid ((Value.slice a k cap).ownBlock ≠ some p) := fun e => HH.out.rp n hn (by unfold inRow; rw [Hv.out, Hm.out]; exact e)
          clear hq2 hzs HF2 Hk HB1 HT HW c01 hc0 hcr hfz hs1 hpl1 hs2
          go_wp2_with fail
          go_region_law (refine step_append_wide rfl (.tmp 51) (.tmp 54) 58 rfl 57 i57 (.agg #[.int .i64 0, .int .i64 0, .int .i64 0, .int .i64 0, .int .i64 0, .slice none 0 0, .int .i64 0, .int .i64 0, .string ⟨#[]⟩]) 9 96 Tryz.underlying58 HI.out.1 HI.out.2.1 HI.out.2.2.1 HI.out.2.2.2 rfl (by decide) (.slice a k cap) k (flatD (P.all n)) rfl (HO2.out.alloc _) ⟨w2.heap.size, 0, none⟩ 1 1 [.int .i64 qk, .int .i64 qa, .int .i64 qb, .int .i64 qc, .int .i64 qd, .slice pa pn pc, .int .i64 0, .int .i64 0, .string ⟨#[]⟩] rfl rfl (fun j u hj => by
                rw [addr_add]
                match j, hj with
                | 0, hj => simp at hj; subst hj; simp [go_sem]
                | 1, hj => simp at hj; subst hj; simp [go_sem]
                | 2, hj => simp at hj; subst hj; simp [go_sem]
                | 3, hj => simp at hj; subst hj; simp [go_sem]
                | 4, hj => simp at hj; subst hj; simp [go_sem]
                | 5, hj => simp at hj; subst hj; simp [go_sem]
                | 6, hj => simp at hj; subst hj; simp [go_sem]
                | 7, hj => simp at hj; subst hj; simp [go_sem]
                | 8, hj => simp at hj; subst hj; simp [go_sem]
                | j + 9, hj => simp at hj) (fun u hu => by simp only [List.mem_cons, List.not_mem_nil, or_false] at hu; rcases hu with hu | hu | hu | hu | hu | hu | hu | hu | hu <;> (rw [hu]; rfl)) (by unfold maxLen; omega) (by omega) ?_; intro v3 w3 hown3 hfr3 hF3; obtain ⟨g3, c3, rfl, _, _⟩ := ownsRow_more hown3; have Hown3 : Hid _ := hown3; have Hfr3 : Hid _ := hfr3; have HF3 : Hid _ := hF3; have c3' : w3.cell? ⟨p, 1 + n, none⟩ = some (.slice a k cap) := ((hF3.cell p (1 + n) (by simp; omega) (fun e => HN.out e)).trans (by simp [go_sem, hpl2, cr2])); have f3' : w3.frozen? ⟨p, 1 + n, none⟩ = false := ((hF3.frozen p (1 + n) (by simp; omega) (fun e => HN.out e)).trans (by simp [go_sem, hpl2, f2])); clear hown3 hfr3 hF3)
          all_goals
            go_wp2_with fail
            go_ret
            refine ⟨rfl, Z2, updN v n (.slice (some ⟨g3, 0, none⟩) (k + 1) c3), ?_⟩
            rw [Hsp.out]
            have hg := HP2.out.pl.grow (w' := w2.alloc (.cells #[.int .i64 qk, .int .i64 qa, .int .i64 qb, .int .i64 qc, .int .i64 qd, .slice pa pn pc, .int .i64 0, .int .i64 0, .string ⟨#[]⟩] 57)) ((Below.refl _ _).alloc (Nat.le_refl _) _)
            refine HP2.out.trans (hg.trans (hg.pl.put hn (l := P.all n ++ [_]) (v3 := .slice (some ⟨g3, 0, none⟩) (k + 1) c3) (w3 := w3) ?_ ?_ ?_ ?_))
            · rw [Hv.out, Hm.out]; first | exact HF3.out | exact Fr.undrew HF3.out
            · rw [List.length_append, Hm.out, flatD_append]
              have := Hown3.out
              rw [← Hdn.out] at this
              have e1 : flatD [(⟨⟨qk, qa, qb, qc, qd, qps⟩, pa, pn, pc, fr, un, an⟩ : Dn)] = dnV ⟨⟨qk, qa, qb, qc, qd, qps⟩, pa, pn, pc, fr, un, an⟩ := by simp [flatD]
              rw [e1]
              exact this
            · rw [Hv.out, Hm.out]; exact Hfr3.out
            · intro d hd
              rcases List.mem_append.1 hd with hd | hd
              · exact hg.pl.raw n hn d hd
              · rw [List.mem_singleton.1 hd]
                exact ⟨HR.out.1, HR.out.2.below (HP2.out.below HH.out |>.trans (hg.below HP2.out.pl))⟩

end Go.Proofs.YtenaepdmlknlcaaGreatDoor
