import Derived.Test.YtenaepdmlknlcaaGreatDoorF38
namespace Go.Proofs.YtenaepdmlknlcaaGreatDoor
open Go.RowKit Go.Shelf

theorem set_nx_eq (a : Atl) (g : Gr) (n : Nat) (s : Ses) (m : Nat) : ((a.set g n s).ss m).nx = if m = n then s.nx else (a.ss m).nx := by
  rw [set_ss]; split <;> rfl
theorem set_nx_fun (a : Atl) (g : Gr) (n : Nat) (s : Ses) : (fun m => ((a.set g n s).ss m).nx) = fun m => if m = n then s.nx else (a.ss m).nx := funext fun m => set_nx_eq a g n s m
theorem chS_ne {a : Atl} {n : Nat} {x : Option Stp} (hc : ∀ id p z, chS x = some (id, p, z) → 0 < z → chS (a.ss n).nx = some (id, p, z)) : ∀ m, m < 4 → ∀ id p z, chS (if m = n then x else (a.ss m).nx) = some (id, p, z) → 0 < z → chS (a.ss m).nx = some (id, p, z) := by
  intro m _ id p z h hz
  split at h
  · rename_i e; rw [e]; exact hc id p z h hz
  · exact h
/-- A step that changes nothing but what the session does next, and the lock. -/
theorem inv_nx {a : Atl} {T : Int} (h : Inv a T) (ho : AtlOk a) {n : Nat} {g' : Gr} (hS : g'.S = a.g.S) (hf : g'.fs = a.g.fs) {s' : Ses} (hG : GoneOk a.g s'.nx) (hN : NoteOk a.g (fun m => if m = n then s'.nx else (a.ss m).nx) s'.nx) (hc : ∀ id p z, chS s'.nx = some (id, p, z) → 0 < z → chS (a.ss n).nx = some (id, p, z)) : Inv (a.set g' n s') T := by
  have e : ∀ s, GoneOk g' s ↔ GoneOk a.g s := fun s => by unfold GoneOk; rw [hS, hf]
  have e2 : ∀ f s, NoteOk g' f s ↔ NoteOk a.g f s := fun f s => by unfold NoteOk; rw [hS, hf]
  refine ⟨fun k hk => ?_, ⟨fun k hk => ?_, fun k x hk hx => ?_, fun k x hk hx => ?_⟩, fun m hm => ?_, fun m hm => ?_⟩
  · rw [set_g, hS]; exact h.age k hk
  · rw [set_g, hS]; exact h.kept.u k hk
  · rw [set_g, hS] at hx; exact h.kept.t k x hk hx
  · rw [set_g, hS] at hx; rw [set_g, hf]; exact h.kept.b k x hk hx
  · rw [set_g, e, set_nx_eq]
    split
    · exact hG
    · exact h.gone m hm
  · rw [set_g, e2, set_nx_fun, set_nx_eq]
    split
    · exact hN
    · exact (h.note m hm).other (chS_ne hc) (fun st hst => (ho.ss m hm).nx st hst)
/-- A step that changes what a shard keeps, and ends its request. -/
theorem inv_ks {a : Atl} {T : Int} (h : Inv a T) (ho : AtlOk a) {n q : Nat} (_hq : q < 4) {ks' : List Kp} (hu : Uniq ks') {t : Tl} (htg : t.good) (hts : shN t = q)
    (hm : ∀ x ∈ ks', x ∈ a.g.S.ks q ∨ (x = ⟨t, bodyF a.g.fs t⟩ ∧ ∀ m, m < 4 → ∀ id p z, chS (a.ss m).nx = some (id, p, z) → t.z < (z : Int) → hitT (boxesF p a.g.fs id) t = false)) {s' : Ses} (hs : s'.nx = none) : Inv (a.set { a.g with S := a.g.S.setK q ks' } n s') T := by
  have ek : ∀ k, (a.g.S.setK q ks').ks k = if k = q then ks' else a.g.S.ks k := fun k => rfl
  have ea : (a.g.S.setK q ks').age = a.g.S.age := rfl
  have e2 : ∀ f s, NoteOk { a.g with S := a.g.S.setK q ks' } f s ↔ NoteOk a.g f s := fun f s => by unfold NoteOk; exact Iff.rfl
  have hmem : ∀ k x, k < 4 → x ∈ (a.g.S.setK q ks').ks k → x ∈ a.g.S.ks k ∨ (k = q ∧ x = ⟨t, bodyF a.g.fs t⟩ ∧ ∀ m, m < 4 → ∀ id p z, chS (a.ss m).nx = some (id, p, z) → t.z < (z : Int) → hitT (boxesF p a.g.fs id) t = false) := by
    intro k x hk hx
    rw [ek] at hx
    split at hx
    · rename_i e
      rcases hm x hx with h1 | h1
      · exact .inl (by rw [e]; exact h1)
      · exact .inr ⟨e, h1⟩
    · exact .inl hx
  have hc : ∀ id p z, chS s'.nx = some (id, p, z) → 0 < z → chS (a.ss n).nx = some (id, p, z) := fun id p z e => by rw [hs] at e; cases e
  refine ⟨fun k hk => h.age k hk, ⟨fun k hk => ?_, fun k x hk hx => ?_, fun k x hk hx => ?_⟩, fun m hm' => ?_, fun m hm' => ?_⟩
  · show Uniq ((a.g.S.setK q ks').ks k)
    rw [ek]; split
    · exact hu
    · exact h.kept.u k hk
  · rcases hmem k x hk hx with h1 | ⟨e, h1, _⟩
    · exact h.kept.t k x hk h1
    · rw [h1, e]; exact ⟨htg, hts⟩
  · show x.body = bodyF a.g.fs x.t
    rcases hmem k x hk hx with h1 | ⟨e, h1, _⟩
    · exact h.kept.b k x hk h1
    · rw [h1]
  · rw [set_g, set_nx_eq]
    intro id p z e k x hk hx hz
    split at e
    · rw [hs] at e; cases e
    · rcases hmem k x hk hx with h1 | ⟨_, h1, h2⟩
      · exact h.gone m hm' id p z e k x hk h1 hz
      · rw [h1] at hz ⊢; exact h2 m hm' id p z e hz
  · rw [set_g, e2, set_nx_fun, set_nx_eq]
    split
    · rw [hs]; trivial
    · exact (h.note m hm').other (chS_ne hc) (fun st hst => (ho.ss m hm').nx st hst)
theorem wrap_small {x : Int} (h0 : 0 ≤ x) (h1 : x < 4611686018427387904) : IntKind.i64.wrap (x + 1) = x + 1 := by rw [IntKind.wrap_i64]; omega
/-- The tiles of a zoom are forgotten. -/
theorem inv_forget {a : Atl} {T : Int} (h : Inv a T) (ho : AtlOk a) (hl : LockOk a) (hT : T < 4611686018427387904) {n : Nat} (hn : n < 4) {id : Int} {p : Option Feat} {z : Nat} (hz : z ≤ 3) (hnx : (a.ss n).nx = some (.forget id p z)) {s' : Ses} (hs : chS s'.nx = some (id, p, z + 1)) (hs2 : ∀ g f, NoteOk g f s'.nx) : Inv (a.set { a.g with S := forgetS z (boxesF p a.g.fs id) a.g.S } n s') (T + 1) := by
  obtain ⟨bs, hbs⟩ : ∃ bs, boxesF p a.g.fs id = bs := ⟨_, rfl⟩
  have hage : ∀ k, k < 4 → (forgetS z bs a.g.S).age k = if olderK bs k (tilesZ z) = true then a.g.S.age k + 1 else a.g.S.age k := by
    intro k hk
    show (if olderK bs k (tilesZ z) = true then IntKind.i64.wrap (a.g.S.age k + 1) else a.g.S.age k) = _
    have := h.age k hk
    rw [wrap_small this.1 (by omega)]
  have hks : ∀ k, (forgetS z bs a.g.S).ks k = forgetK bs k (tilesZ z) (a.g.S.ks k) := fun k => rfl
  have hfu : ∀ k, k < 4 → Uniq (forgetK bs k (tilesZ z) (a.g.S.ks k)) ∧ ∀ x ∈ forgetK bs k (tilesZ z) (a.g.S.ks k), x ∈ a.g.S.ks k ∧ ∀ t ∈ tilesZ z, hitT bs t = true → shN t = k → x.t ≠ t := fun k hk => forget_uniq bs k (tilesZ z) _ (h.kept.u k hk)
  have hone : ∀ m, m < 4 → ∀ i q y, chS (a.ss m).nx = some (i, q, y) → m = n := fun m hm i q y e => hl.one m n hm hn (chS_hold e) (by rw [hnx]; rfl)
  rw [hbs]
  refine ⟨fun k hk => ?_, ⟨fun k hk => ?_, fun k x hk hx => ?_, fun k x hk hx => ?_⟩, fun m hm => ?_, fun m hm => ?_⟩
  · show 0 ≤ (forgetS z bs a.g.S).age k ∧ (forgetS z bs a.g.S).age k ≤ T + 1
    have := h.age k hk
    rw [hage k hk]
    split <;> omega
  · exact (hfu k hk).1
  · exact h.kept.t k x hk ((hfu k hk).2 x hx).1
  · exact h.kept.b k x hk ((hfu k hk).2 x hx).1
  · rw [set_g, set_nx_eq]
    split
    · intro i q y e k x hk hx hzy
      rw [hs] at e
      simp only [Option.some.injEq, Prod.mk.injEq] at e
      obtain ⟨rfl, rfl, rfl⟩ := e
      obtain ⟨x1, x2⟩ := (hfu k hk).2 x hx
      show hitT (boxesF p a.g.fs id) x.t = false
      by_cases e : x.t.z < (z : Int)
      · exact h.gone n hn id p z (by rw [hnx]; rfl) k x hk x1 e
      · obtain ⟨tg, ts⟩ := h.kept.t k x hk x1
        have hm' := tile_mem tg (z := z) (by omega) hz
        cases hh : hitT bs x.t with
        | false => rw [hbs]; exact hh
        | true => exact absurd rfl (x2 x.t hm' hh ts)
    · rename_i hne
      intro i q y e
      exact absurd (hone m hm i q y e) hne
  · rw [set_g, set_nx_fun, set_nx_eq]
    split
    · exact hs2 _ _
    · rename_i hne
      have hm' := h.note m hm
      have hso := fun st hst => (ho.ss m hm).nx st hst
      generalize (a.ss m).nx = x at hm' hso
      unfold NoteOk at hm' ⊢
      split
      · rename_i t mm ag
        show ag ≤ (forgetS z bs a.g.S).age (shN t)
        have := hage (shN t) (shN_lt t)
        have hm2 : ag ≤ a.g.S.age (shN t) := hm'
        rw [this]; split <;> omega
      · rename_i t mm ag fs
        have hm2 : ag ≤ a.g.S.age (shN t) ∧ _ := hm'
        have hg : t.good := (hso _ rfl).1
        have ha := hage (shN t) (shN_lt t)
        refine ⟨?_, fun e => ?_⟩
        · show ag ≤ (forgetS z bs a.g.S).age (shN t)
          rw [ha]; split <;> omega
        · have e' : (forgetS z bs a.g.S).age (shN t) = ag := e
          rw [ha] at e'
          have hold : olderK bs (shN t) (tilesZ z) = false := by
            cases ho' : olderK bs (shN t) (tilesZ z) with
            | false => rfl
            | true => rw [ho', if_pos rfl] at e'; omega
          rw [hold, if_neg (by simp)] at e'
          obtain ⟨b1, b2⟩ := hm2.2 e'
          refine ⟨b1, fun k hk i q y hc hzy => ?_⟩
          show hitT (boxesF q a.g.fs i) t = false
          dsimp only at hc
          split at hc
          · rename_i ek
            rw [hs] at hc
            simp only [Option.some.injEq, Prod.mk.injEq] at hc
            obtain ⟨rfl, rfl, rfl⟩ := hc
            by_cases ez : t.z < (z : Int)
            · exact b2 n hn id p z (by dsimp only; rw [hnx]; rfl) ez
            · have hmem := tile_mem hg (z := z) (by omega) hz
              rw [hbs]
              cases hh : hitT bs t with
              | false => rfl
              | true =>
                have : olderK bs (shN t) (tilesZ z) = true := by
                  unfold olderK
                  rw [List.any_eq_true]
                  exact ⟨t, hmem, by rw [hh]; simp⟩
                rw [hold] at this; cases this
          · rename_i ek
            exact absurd (hone k hk i q y hc) ek
      · trivial
/-- The change itself. -/
theorem inv_finish {a : Atl} {T : Int} (h : Inv a T) (ho : AtlOk a) (hl : LockOk a) {n : Nat} (hn : n < 4) {id : Int} {p : Option Feat} (hnx : (a.ss n).nx = some (.finish id p)) {s' : Ses} (hs : s'.nx = none) : Inv (a.set { a.g with lk := false, fs := (a.g.fs.filter fun f => !(f.id == id)) ++ p.toList } n s') T := by
  have hpo : PutOk id p := (ho.ss n hn).nx _ hnx
  have hone : ∀ m, m < 4 → ∀ i q y, chS (a.ss m).nx = some (i, q, y) → m = n := fun m hm i q y e => hl.one m n hm hn (chS_hold e) (by rw [hnx]; rfl)
  have hch : chS (a.ss n).nx = some (id, p, 4) := by rw [hnx]; rfl
  have good3 : ∀ {t : Tl}, t.good → t.z < ((4 : Nat) : Int) := fun {t} hg => by
    unfold Tl.good tileB at hg
    rw [decide_eq_true_eq] at hg
    omega
  refine ⟨fun k hk => h.age k hk, ⟨fun k hk => h.kept.u k hk, fun k x hk hx => h.kept.t k x hk hx, fun k x hk hx => ?_⟩, fun m hm => ?_, fun m hm => ?_⟩
  · have hg := (h.kept.t k x hk hx).1
    show x.body = bodyF (newFs a.g.fs id p) x.t
    rw [body_change ho.g.fs hpo hg (h.gone n hn id p 4 hch k x hk hx (good3 hg))]
    exact h.kept.b k x hk hx
  · rw [set_g, set_nx_eq]
    intro i q y e
    split at e
    · rw [hs] at e; cases e
    · rename_i hne
      exact absurd (hone m hm i q y e) hne
  · rw [set_g, set_nx_fun, set_nx_eq]
    split
    · rw [hs]; trivial
    · rename_i hne
      have hm' := h.note m hm
      have hso := fun st hst => (ho.ss m hm).nx st hst
      generalize (a.ss m).nx = x at hm' hso
      unfold NoteOk at hm' ⊢
      split
      · exact hm'
      · rename_i t mm ag fs
        have hm2 : ag ≤ a.g.S.age (shN t) ∧ _ := hm'
        have hg : t.good := (hso _ rfl).1
        refine ⟨hm2.1, fun e => ⟨?_, fun k hk i q y hc => ?_⟩⟩
        · obtain ⟨b1, b2⟩ := hm2.2 e
          show bodyF fs t = bodyF (newFs a.g.fs id p) t
          rw [body_change ho.g.fs hpo hg (b2 n hn id p 4 hch (good3 hg))]
          exact b1
        · dsimp only at hc
          split at hc
          · rw [hs] at hc; cases hc
          · rename_i ek
            exact absurd (hone k hk i q y hc) ek
      · trivial
theorem Inv.mono {a : Atl} {T T' : Int} (h : Inv a T) (ht : T ≤ T') : Inv a T' := ⟨fun k hk => ⟨(h.age k hk).1, by have := (h.age k hk).2; omega⟩, h.kept, h.gone, h.note⟩
/-- A pick keeps it. -/
theorem inv_do {a : Atl} {T : Int} (h : Inv a T) (ho : AtlOk a) (hl : LockOk a) (hT : T < 4611686018427387904) {n : Nat} (hn : n < 4) {st : Stp} {s : Ses} (hst : StpOk st) (hnx : (a.ss n).nx = some st ∨ ((a.ss n).nx = none ∧ holdS (some st) = false ∧ (∀ g f, NoteOk g f (some st)))) : Inv (doM a n s st).2 (T + 1) := by
  have hch : chS (some st) = none ∨ chS (some st) = chS (a.ss n).nx := by
    rcases hnx with e | ⟨_, e, _⟩
    · exact .inr (by rw [e])
    · left
      cases hc : chS (some st) with
      | none => rfl
      | some x => have := chS_hold hc; rw [e] at this; cases this
  have hfree : a.g.lk = false → ∀ m, m < 4 → chS (a.ss m).nx = none := fun e m hm => by
    cases hc : chS (a.ss m).nx with
    | none => rfl
    | some x => have := chS_hold hc; rw [hl.free e m hm] at this; cases this
  cases st with
  | bad => exact (inv_nx h ho (n := n) (g' := a.g) rfl rfl (s' := { s with nx := none, an := s.an ++ [s400] }) (fun id p z e => by cases e) trivial (fun id p z e => by cases e)).mono (by omega)
  | look t m =>
    cases e : useK t (a.g.S.ks (shN t)) with
    | none =>
      unfold doM; rw [stepM_look0 e]
      exact (inv_nx h ho (n := n) (g' := a.g) rfl rfl (s' := { s with nx := some (.note t m (a.g.S.age (shN t))) }) (fun id p z e => by cases e) (Int.le_refl _) (fun id p z e => by cases e)).mono (by omega)
    | some x =>
      obtain ⟨b, ks⟩ := x
      unfold doM; rw [stepM_look1 e]
      obtain ⟨u1, u2, u3⟩ := use_uniq (h.kept.u _ (shN_lt t)) e
      exact (inv_ks h ho (n := n) (shN_lt t) u1 (t := t) hst rfl (fun x hx => .inl (u2 x hx)) (s' := { s with nx := none, an := s.an ++ [tellS m b] }) rfl).mono (by omega)
  | note t m ag =>
    cases e : a.g.lk with
    | true =>
      unfold doM; rw [stepM_note0 e]
      rcases hnx with e1 | ⟨_, _, e3⟩
      · refine (inv_nx h ho (n := n) (g' := a.g) rfl rfl (s' := { s with nx := some (.note t m ag) }) (fun id p z e => by cases e) ?_ (fun id p z e => by cases e)).mono (by omega)
        have := h.note n hn
        rw [e1] at this
        exact this
      · exact (inv_nx h ho (n := n) (g' := a.g) rfl rfl (s' := { s with nx := some (.note t m ag) }) (fun id p z e => by cases e) (e3 _ _) (fun id p z e => by cases e)).mono (by omega)
    | false =>
      unfold doM; rw [stepM_note1 e]
      refine (inv_nx h ho (n := n) (g' := a.g) rfl rfl (s' := { s with nx := some (.draw t m ag a.g.fs) }) (fun id p z e => by cases e) ⟨?_, fun _ => ⟨rfl, fun k hk id p z hc => ?_⟩⟩ (fun id p z e => by cases e)).mono (by omega)
      · rcases hnx with e1 | ⟨_, _, e3⟩
        · have := h.note n hn
          rw [e1] at this
          exact this
        · exact e3 a.g (fun _ => none)
      · dsimp only at hc
        split at hc
        · cases hc
        · rw [hfree e k hk] at hc; cases hc
  | draw t m ag fs =>
    have hd : NoteOk a.g (fun m => (a.ss m).nx) (some (.draw t m ag fs)) := by
      rcases hnx with e1 | ⟨_, _, e3⟩
      · have := h.note n hn; rw [e1] at this; exact this
      · exact e3 _ _
    have hd2 : ag ≤ a.g.S.age (shN t) ∧ _ := hd
    by_cases e : a.g.S.age (shN t) = ag
    · have hw : doM a n s (.draw t m ag fs) = (true, a.set { a.g with S := a.g.S.setK (shN t) (keepK a.g.S.room t (bodyF fs t) (a.g.S.ks (shN t))) } n { s with nx := none, an := s.an ++ [tellS m (bodyF fs t)] }) := by
        unfold doM stepM; dsimp only; rw [if_pos e]
      rw [hw]
      obtain ⟨b1, b2⟩ := hd2.2 e
      refine (inv_ks h ho (n := n) (shN_lt t) (keep_uniq (h.kept.u _ (shN_lt t))) (t := t) hst.1 rfl (fun x hx => ?_) (s' := { s with nx := none, an := s.an ++ [tellS m (bodyF fs t)] }) rfl).mono (by omega)
      rcases keepK_mem hx with h1 | h1
      · exact .inl h1
      · exact .inr ⟨by rw [h1, b1], b2⟩
    · have hw : doM a n s (.draw t m ag fs) = (true, a.set a.g n { s with nx := none, an := s.an ++ [tellS m (bodyF fs t)] }) := by
        unfold doM stepM; dsimp only; rw [if_neg e]
      rw [hw]
      exact (inv_nx h ho (n := n) (g' := a.g) rfl rfl (s' := { s with nx := none, an := s.an ++ [tellS m (bodyF fs t)] }) (fun id p z e => by cases e) trivial (fun id p z e => by cases e)).mono (by omega)
  | lock id p =>
    cases e : a.g.lk with
    | true =>
      unfold doM; rw [stepM_lock0 e]
      exact (inv_nx h ho (n := n) (g' := a.g) rfl rfl (s' := { s with nx := some (.lock id p) }) (fun id p z e => by cases e) trivial (fun id p z e => by cases e)).mono (by omega)
    | false =>
      unfold doM; rw [stepM_lock1 e]
      refine (inv_nx h ho (n := n) (g' := { a.g with lk := true }) rfl rfl (s' := { s with nx := some (.forget id p 0) }) (fun i q z e k x hk hx hz => ?_) trivial (fun i q z e hz => ?_)).mono (by omega)
      · have e' : some (id, p, 0) = some (i, q, z) := e
        simp only [Option.some.injEq, Prod.mk.injEq] at e'
        obtain ⟨rfl, rfl, rfl⟩ := e'
        have hg := (h.kept.t k x hk hx).1
        unfold Tl.good tileB at hg
        rw [decide_eq_true_eq] at hg
        omega
      · have e' : some (id, p, 0) = some (i, q, z) := e
        simp only [Option.some.injEq, Prod.mk.injEq] at e'
        omega
  | forget id p z =>
    have e1 : (a.ss n).nx = some (.forget id p z) := by
      rcases hnx with e1 | ⟨_, e2, _⟩
      · exact e1
      · cases e2
    have hz : z ≤ 3 := hst.2
    unfold doM stepM
    refine inv_forget h ho hl hT hn hz e1 ?_ ?_
    · by_cases e3 : z = 3
      · rw [if_pos e3, e3]; rfl
      · rw [if_neg e3]; rfl
    · intro g f
      by_cases e3 : z = 3
      · rw [if_pos e3]; trivial
      · rw [if_neg e3]; trivial
  | finish id p =>
    have e1 : (a.ss n).nx = some (.finish id p) := by
      rcases hnx with e1 | ⟨_, e2, _⟩
      · exact e1
      · cases e2
    unfold doM stepM
    exact (inv_finish h ho hl hn e1 rfl).mono (by omega)
theorem firstS_note (r : Rd) : ∀ g f, NoteOk g f (some (firstS r)) := by
  intro g f; cases r <;> trivial
theorem inv_pick {a : Atl} {T : Int} (h : Inv a T) (ho : AtlOk a) (hl : LockOk a) (hT : T < 4611686018427387904) {n : Nat} (hn : n < 4) : Inv (pickM a n).2 (T + 1) := by
  unfold pickM
  split
  · rename_i st e
    exact inv_do h ho hl hT hn ((ho.ss n hn).nx st e) (.inl e)
  · rename_i e
    split
    · exact h.mono (by omega)
    · exact inv_do h ho hl hT hn (firstS_ok (readP_ok _)) (.inr ⟨e, firstS_hold _, firstS_note _⟩)
theorem inv_ss {a b : Atl} {T : Int} (h : Inv a T) (hg : b.g = a.g) (hn : ∀ m, (b.ss m).nx = (a.ss m).nx) : Inv b T := by
  have hf : (fun m => (b.ss m).nx) = fun m => (a.ss m).nx := funext hn
  refine ⟨fun k hk => ?_, ?_, fun m hm => ?_, fun m hm => ?_⟩
  · rw [hg]; exact h.age k hk
  · rw [hg]; exact h.kept
  · rw [hg, hn]; exact h.gone m hm
  · rw [hg, hf, hn]; exact h.note m hm
theorem inv_tell {a : Atl} {T : Int} (h : Inv a T) (n : Nat) : Inv (tellM a n) T := inv_ss h rfl (fun m => tell_nx a n m)
theorem inv_send {a : Atl} {T : Int} (h : Inv a T) (n : Nat) (x : ByteArray) : Inv (sendM a n x) T := by
  refine inv_ss h rfl fun m => ?_
  unfold sendM; rw [set_ss]; split
  · rename_i e; rw [e]
  · rfl

end Go.Proofs.YtenaepdmlknlcaaGreatDoor
