import Derived.Test.YtenaepdmlknlcaaGreatDoorF21
import Derived.Test.YtenaepdmlknlcaaGreatDoorF22
import Derived.Test.YtenaepdmlknlcaaGreatDoorF28
namespace Go.Proofs.YtenaepdmlknlcaaGreatDoor
open Go.RowKit Go.Shelf

/-! The steps of requests, on the atlas. -/

theorem bodyR_congr {vs us : List FV} (h : vs.map (·.f) = us.map (·.f)) (p c r : Int) : bodyR vs p c r = bodyR us p c r := by
  have hp : ∀ (x : Bx) (o o' : Option FV) (v u : FV), o.map (·.f) = o'.map (·.f) → v.f = u.f → (pickV x o v).map (·.f) = (pickV x o' u).map (·.f) := fun x o o' v u ho hv => by
    unfold pickV
    rw [hv]
    split
    · cases o with
      | none =>
        cases o' with
        | none => simpa using hv
        | some b => cases ho
      | some a =>
        cases o' with
        | none => cases ho
        | some b =>
          have hab : a.f = b.f := by simpa using ho
          simp only [hab]
          split
          · simpa using hv
          · simpa using hab
    · exact ho
  have hf : ∀ (x : Bx) (vs us : List FV) (o o' : Option FV), vs.map (·.f) = us.map (·.f) → o.map (·.f) = o'.map (·.f) → (vs.foldl (pickV x) o).map (·.f) = (us.foldl (pickV x) o').map (·.f) := by
    intro x vs
    induction vs with
    | nil => intro us o o' h ho; cases us with
      | nil => exact ho
      | cons _ _ => cases h
    | cons v r ih => intro us o o' h ho; cases us with
      | nil => cases h
      | cons u s =>
        simp only [List.map_cons, List.cons.injEq] at h
        exact ih s _ _ h.2 (hp x o o' v u ho h.1)
  have ht : ∀ x, tcol (topOf x vs) = tcol (topOf x us) := fun x => by
    have := hf x vs us none none h rfl
    unfold topOf
    revert this
    generalize vs.foldl (pickV x) none = o
    generalize us.foldl (pickV x) none = o'
    intro this
    cases o with
    | none => cases o' with
      | none => rfl
      | some _ => cases this
    | some a => cases o' with
      | none => cases this
      | some b =>
        have hab : a.f = b.f := by simpa using this
        simp [tcol, hab]
  have hc : colR vs p c r = colR us p c r := by
    funext k
    unfold colR
    rw [ht]
  unfold bodyR
  rw [hc]
theorem bodyR_mk {vs : List FV} {fs : List Feat} (h : vs.map (·.f) = fs) (t : Tl) : bodyR vs (pZ t.z) t.c t.r = bodyL fs t := by
  refine bodyR_congr ?_ _ _ _
  rw [h, List.map_map]
  exact (List.map_id fs).symm
theorem nodup_inj {α β : Type} {f : α → β} : ∀ {l : List α}, (l.map f).Nodup → ∀ {a b : α}, a ∈ l → b ∈ l → f a = f b → a = b
  | [], _, _, _, ha, _, _ => by cases ha
  | c :: r, h, a, b, ha, hb, e => by
    have h' := List.nodup_cons.1 (show (f c :: r.map f).Nodup from h)
    rcases List.mem_cons.1 ha with rfl | ha2
    · rcases List.mem_cons.1 hb with rfl | hb2
      · rfl
      · exact absurd (by rw [e]; exact List.mem_map_of_mem hb2) h'.1
    · rcases List.mem_cons.1 hb with rfl | hb2
      · exact absurd (by rw [← e]; exact List.mem_map_of_mem ha2) h'.1
      · exact nodup_inj h'.2 ha2 hb2 e
theorem dist_of {vs : List FV} (h : DistF (vs.map (·.f))) : Dist vs := by
  intro a ha b hb
  by_cases e : a.f.id = b.f.id
  · left
    have : (vs.map (fun v => v.f.id)).Nodup := by
      have h' : ((vs.map (·.f)).map (·.id)).Nodup := h
      rwa [List.map_map] at h'
    exact nodup_inj this ha hb e
  · exact .inr e

/-- What never changes has grown, and rows have moved, by new blocks alone. -/
structure GExt (w : World) (x : Wit) (I1 : Nat → Prop) (sv1 : Nat → Value) : Prop where
  i0 : ∀ b, x.I b → I1 b
  i1 : ∀ b, I1 b → x.I b ∨ w.heap.size ≤ b
  sv : ∀ k b, k < 4 → (sv1 k).ownBlock = some b → (x.sv k).ownBlock = some b ∨ w.heap.size ≤ b
theorem GExt.same (w : World) (x : Wit) : GExt w x x.I x.sv := ⟨fun _ h => h, fun _ h => .inl h, fun _ _ _ h => .inl h⟩
/-- What a step leaves. -/
structure StepOut (A : Nat) (x : Wit) (a : Atl) (g' : Gr) (w w' : World) (I1 : Nat → Prop) (sv1 : Nat → Value) : Prop where
  at' : AtlasAt w' A { x with I := I1, sv := sv1 } { a with g := g' }
  ext : GExt w x I1 sv1
  fr : Fr (GM A x) w w'
def StepPost (A : Nat) (x : Wit) (a : Atl) (r : Res × Gr) (w : World) (e : Ending) (w' : World) : Prop := match r with
  | (.blocked, _) => e = .returned (.agg #[.bool true, .nilFunc, .string ⟨#[]⟩]) ∧ Below w.heap.size w w'
  | (.next st', g') => ∃ f' b' I1 sv1, e = .returned (.agg #[.bool false, .func f' b' #[], .string ⟨#[]⟩]) ∧ StpAt I1 w' st' (.func f' b' #[]) ∧ StepOut A x a g' w w' I1 sv1
  | (.answer an, g') => ∃ I1 sv1, e = .returned (.agg #[.bool false, .nilFunc, .string an]) ∧ StepOut A x a g' w w' I1 sv1

theorem AtlasAt.below {w w' : World} (hb : Below w.heap.size w w') {A : Nat} {x : Wit} {a : Atl} (h : AtlasAt w A x a) : AtlasAt w' A x a := h.fr (M := fun _ _ => False) (Fr.of_below hb) (fun _ _ e => e.elim)
theorem StepOut.still {A : Nat} {x : Wit} {a : Atl} {w w' : World} (h : AtlasAt w A x a) (hb : Below w.heap.size w w') : StepOut A x a a.g w w' x.I x.sv := ⟨h.below hb, GExt.same w x, Fr.of_below hb⟩
theorem AtlasAt.rootOk {w : World} {A : Nat} {x : Wit} {a : Atl} (h : AtlasAt w A x a) : ∃ ro vs, w.cell? ⟨A, 0, none⟩ = some (.pointer ro) ∧ RootT x.I w ro vs ∧ vs.map (·.f) = a.g.fs ∧ (∀ v ∈ vs, Good x.I w v) ∧ DistF (vs.map (·.f)) := by
  obtain ⟨ro, r0, vs, h1, h2, h3⟩ := h.root
  exact ⟨ro, vs, r0, h1, h2, h3, by rw [h2]; exact h.ok.g.fs.dist⟩
/-- One shard's row was changed. -/
theorem AtlasAt.shard {w w1 : World} {A : Nat} {x : Wit} {a : Atl} (h : AtlasAt w A x a) {q : Nat} (hq : q < 4) {v' : Value} {ks : List Kp} (hok : GrOk { a.g with S := a.g.S.setK q ks }) (hs : ShAt w1 A (2 + 1 + q * 2) v' ks) (hfr : ∀ g, v'.ownBlock = some g → (x.sv q).ownBlock = some g ∨ w.heap.size ≤ g) (hf : Fr (ShM A (2 + 1 + q * 2) (x.sv q)) w w1) :
    StepOut A x a { a.g with S := a.g.S.setK q ks } w w1 x.I (fun k => if k = q then v' else x.sv k) := by
  have hA := h.A8
  have hM : ∀ b i, ShM A (2 + 1 + q * 2) (x.sv q) b i → GM A x b i := fun b i e => by
    rcases e with ⟨rfl, rfl⟩ | e
    · exact .inl ⟨rfl, by omega⟩
    · exact .inr ⟨q, hq, e⟩
  have hnA : ∀ i, ShM A (2 + 1 + q * 2) (x.sv q) A i → i = 2 + 1 + q * 2 := fun i e => by
    rcases e with ⟨_, e⟩ | e
    · exact e
    · exact absurd (show x.own A (q + 1) = some A by rw [own_sh x A q hq]; exact e) (h.apart 0 (q + 1) A (by omega) (by omega) (by omega) (own_A x A))
  have hnI : ∀ b i, x.I b → ¬ ShM A (2 + 1 + q * 2) (x.sv q) b i := fun b i hb e => by
    rcases e with ⟨rfl, _⟩ | e
    · exact (h.ownI 0 _ (by omega) (own_A x _)).1 hb
    · exact (h.ownI (q + 1) b (by omega) (by rw [own_sh x A q hq]; exact e)).1 hb
  have hS : Same x.I w w1 := Same.fr hf (fun b hb => (h.lt b hb).2) hnI
  have hF : Fr (GM A x) w w1 := hf.mono hM
  have hext : GExt w x x.I (fun k => if k = q then v' else x.sv k) := ⟨fun _ h => h, fun _ h => .inl h, fun k b hk e => by
    by_cases hkq : k = q
    · rw [if_pos hkq] at e; rw [hkq]; exact hfr b e
    · rw [if_neg hkq] at e; exact .inl e⟩
  obtain ⟨ro, r0, r1⟩ := h.root
  refine ⟨h.ground hok hF ⟨ro, (hf.cell A 0 hA.2 (fun e => by have := hnA _ e; omega)).trans r0, r1.same hS⟩ ((hf.frozen A 0 hA.2 (fun e => by have := hnA _ e; omega)).trans h.rf) ((hf.cell A 1 hA.2 (fun e => by have := hnA _ e; omega)).trans h.lk) ((hf.frozen A 1 hA.2 (fun e => by have := hnA _ e; omega)).trans h.lf) (h.sh.upd hq hs hf hfr) (fun _ h => h) (fun b hb => .inl hb) hext.sv, hext, hF⟩

end Go.Proofs.YtenaepdmlknlcaaGreatDoor

namespace Go.Proofs.YtenaepdmlknlcaaGreatDoor
open Go.RowKit Go.Shelf

theorem step_bad {w : World} {A : Nat} {x : Wit} {a : Atl} (h : AtlasAt w A x a) :
    Calls Tryz.prog 176 #[.pointer (some ⟨A, 0, none⟩)] w (StepPost A x a (stepM a.g .bad) w) :=
  (refuse_any _ w).mono fun _ _ ⟨he, hb⟩ => ⟨x.I, x.sv, he, .still h hb⟩

theorem step_look {w : World} {A : Nat} {x : Wit} {a : Atl} (h : AtlasAt w A x a) (t : Tl) (m : ByteArray) (ht : t.good) :
    Calls Tryz.prog 174 #[getV t m 0 none, .pointer (some ⟨A, 0, none⟩)] w (StepPost A x a (stepM a.g (.look t m)) w) := by
  cases e : useK t (a.g.S.ks (shN t)) with
  | none =>
    rw [stepM_look0 e]
    exact (look_miss A 0 t (good_ok ht) m 0 none x.sv a.g.S w h.sh (useK_none e)).mono fun _ _ ⟨he, hb⟩ => ⟨_, _, x.I, x.sv, he, rfl, .still h hb⟩
  | some r =>
    obtain ⟨b, ks⟩ := r
    have hok := (stepM_ok h.ok.g (s := .look t m) ht).1
    rw [stepM_look1 e] at hok ⊢
    obtain ⟨i, k, h1, h2, rfl, rfl⟩ := useK_some e
    refine (look_hit A 0 t (good_ok ht) m 0 none x.sv a.g.S i k w h.gl h.sh h1 h2 (h.ok.g.body _ k (shN4 t) (List.mem_of_getElem? h2)) h.A8.1 (fun b hb => (h.ownI (shN t + 1) b (by have := shN4 t; omega) (by rw [own_sh x A _ (shN4 t)]; exact hb)).2.1)).mono ?_
    rintro e w' ⟨rfl, v', hs, hfr, hf⟩
    exact ⟨x.I, _, rfl, h.shard (shN4 t) hok hs hfr hf⟩

theorem step_note {w : World} {A : Nat} {x : Wit} {a : Atl} (h : AtlasAt w A x a) (t : Tl) (m : ByteArray) (age : Int) :
    Calls Tryz.prog 191 #[getV t m age none, .pointer (some ⟨A, 0, none⟩)] w (StepPost A x a (stepM a.g (.note t m age)) w) := by
  cases e : a.g.lk with
  | true =>
    rw [stepM_note0 e]
    exact (note_locked A 0 t m age none w (by have := h.lk; rwa [e] at this)).mono fun _ _ ⟨he, hb⟩ => ⟨he, hb⟩
  | false =>
    rw [stepM_note1 e]
    obtain ⟨ro, r0, r1⟩ := h.root
    refine (note_open A 0 t m age none ro w (by have := h.lk; rwa [e] at this) r0).mono ?_
    rintro e' w' ⟨rfl, hb⟩
    exact ⟨_, _, x.I, x.sv, rfl, ⟨ro, rfl, r1.same (Same.of_below hb (fun b hb => (h.lt b hb).2))⟩, .still h hb⟩

theorem step_lock {w : World} {A : Nat} {x : Wit} {a : Atl} (h : AtlasAt w A x a) (id : Int) (p : Option Feat) (q : Option Addr) (hq : PutAt x.I w q p) :
    Calls Tryz.prog 175 #[chgV id q 0, .pointer (some ⟨A, 0, none⟩)] w (StepPost A x a (stepM a.g (.lock id p)) w) := by
  have hA := h.A8
  cases e : a.g.lk with
  | true =>
    rw [stepM_lock0 e]
    exact (lock_locked A 0 id 0 q w (by have := h.lk; rwa [e] at this)).mono fun _ _ ⟨he, hb⟩ => ⟨he, hb⟩
  | false =>
    rw [stepM_lock1 e]
    refine (lock_open A 0 id 0 q w (by have := h.lk; rwa [e] at this) h.lf).mono ?_
    rintro e' w' ⟨rfl, h1, h2, hf⟩
    have hF : Fr (GM A x) w w' := hf.mono fun c j e => .inl ⟨e.1, by have := e.2; omega⟩
    have hnI : ∀ b i, x.I b → ¬ (b = A ∧ i = 0 + 1) := fun b i hb e => (h.ownI 0 A (by omega) (own_A x A)).1 (by rw [← e.1]; exact hb)
    have hS : Same x.I w w' := Same.fr hf (fun b hb => (h.lt b hb).2) hnI
    obtain ⟨ro, r0, r1⟩ := h.root
    refine ⟨_, _, x.I, x.sv, rfl, ⟨q, rfl, hq.same hS⟩, ⟨h.ground (g' := { a.g with lk := true }) ⟨h.ok.g.fs, h.ok.g.r0, h.ok.g.r8, h.ok.g.len, h.ok.g.body⟩ hF ⟨ro, (hf.cell A 0 hA.2 (fun e => by omega)).trans r0, r1.same hS⟩ ((hf.frozen A 0 hA.2 (fun e => by omega)).trans h.rf) h1 h2 (h.sh.fr hf (fun i _ e => by omega) (fun k g i hk e e' => ?_)) (fun _ h => h) (fun b hb => .inl hb) (fun _ _ _ h => .inl h), GExt.same w x, hF⟩⟩
    exact h.apart 0 (k + 1) A (by omega) (by omega) (by omega) (own_A x A) (by rw [own_sh x A k hk, ← e'.1]; exact e)

theorem step_forget {w : World} {A : Nat} {x : Wit} {a : Atl} (h : AtlasAt w A x a) (id : Int) (p : Option Feat) (q : Option Addr) (z : Nat) (hz : z ≤ 3) (hpo : PutOk id p) (hq : PutAt x.I w q p) :
    Calls Tryz.prog 193 #[chgV id q (z : Int), .pointer (some ⟨A, 0, none⟩)] w (StepPost A x a (stepM a.g (.forget id p z)) w) := by
  have hA := h.A8
  obtain ⟨ro, vs, r0, hR, hfs, hg, hd⟩ := h.rootOk
  refine (forget_step A 0 x.I id q p z ro vs x.sv a.g.S w hz hA.2 r0 (fun b hb => (h.lt b hb).2) hq hR hg hd h.sh).mono ?_
  rintro e w' ⟨rfl, sv', hsh, hown, hf⟩
  rw [hfs] at hsh
  have hF : Fr (GM A x) w w' := hf.mono fun c j e => by
    rcases e with ⟨rfl, e⟩ | ⟨k, hk, e⟩
    · exact .inl ⟨rfl, by omega⟩
    · exact .inr ⟨k, hk, e⟩
  have hnA : ∀ i, FgM A (0 + 2) x.sv A i → 3 ≤ i := fun i e => by
    rcases e with ⟨_, e⟩ | ⟨k, hk, e⟩
    · omega
    · exact absurd (show x.own A (k + 1) = some A by rw [own_sh x A k hk]; exact e) (h.apart 0 (k + 1) A (by omega) (by omega) (by omega) (own_A x A))
  have hnI : ∀ b i, x.I b → ¬ FgM A (0 + 2) x.sv b i := fun b i hb e => by
    rcases e with ⟨rfl, _⟩ | ⟨k, hk, e⟩
    · exact (h.ownI 0 _ (by omega) (own_A x _)).1 hb
    · exact (h.ownI (k + 1) b (by omega) (by rw [own_sh x A k hk]; exact e)).1 hb
  have hS : Same x.I w w' := Same.fr hf (fun b hb => (h.lt b hb).2) hnI
  have hok := (stepM_ok h.ok.g (s := .forget id p z) ⟨hpo, hz⟩).1
  have hext : GExt w x x.I sv' := ⟨fun _ h => h, fun _ h => .inl h, fun k b hk e => .inl (by rw [← hown k hk]; exact e)⟩
  have hat : StepOut A x a { a.g with S := forgetS z (boxesF p a.g.fs id) a.g.S } w w' x.I sv' := by
    obtain ⟨ro, r0, r1⟩ := h.root
    exact ⟨h.ground hok hF ⟨ro, (hf.cell A 0 hA.2 (fun e => by have := hnA _ e; omega)).trans r0, r1.same hS⟩ ((hf.frozen A 0 hA.2 (fun e => by have := hnA _ e; omega)).trans h.rf) ((hf.cell A 1 hA.2 (fun e => by have := hnA _ e; omega)).trans h.lk) ((hf.frozen A 1 hA.2 (fun e => by have := hnA _ e; omega)).trans h.lf) hsh (fun _ h => h) (fun b hb => .inl hb) hext.sv, hext, hF⟩
  show StepPost A x a (.next (if z = 3 then .finish id p else .forget id p (z + 1)), _) w _ w'
  by_cases h3 : z = 3
  · rw [if_pos h3, show nextF id q z = .func (.func 208) #[chgV id q 3] #[] from if_pos h3]
    exact ⟨_, _, x.I, sv', rfl, ⟨q, rfl, hq.same hS⟩, hat⟩
  · rw [if_neg h3, show nextF id q z = .func (.func 193) #[chgV id q ((z + 1 : Nat) : Int)] #[] from if_neg h3]
    exact ⟨_, _, x.I, sv', rfl, ⟨q, rfl, hq.same hS⟩, hat⟩

theorem step_finish {w : World} {A : Nat} {x : Wit} {a : Atl} (h : AtlasAt w A x a) (id : Int) (p : Option Feat) (q : Option Addr) (hpo : PutOk id p) (hq : PutAt x.I w q p) :
    Calls Tryz.prog 208 #[chgV id q 3, .pointer (some ⟨A, 0, none⟩)] w (StepPost A x a (stepM a.g (.finish id p)) w) := by
  have hA := h.A8
  obtain ⟨ro, vs, r0, hR, hfs, hg, hd⟩ := h.rootOk
  have hIA : ¬ x.I A := (h.ownI 0 A (by omega) (own_A x A)).1
  refine (finish_step A 0 x.I id q p ro vs w hA.2 hIA r0 h.rf ⟨_, h.lk⟩ h.lf (fun b hb => (h.lt b hb).2) hq hpo hR hg).mono ?_
  rintro e w' ⟨rfl, ⟨ro', q1, us, q2, q3, q4, q6, q7⟩, q5, hf⟩
  have hF : Fr (GM A x) w w' := hf.mono fun c j e => .inl ⟨e.1, by have := e.2; omega⟩
  have hS : Same x.I w w' := Same.fr hf (fun b hb => (h.lt b hb).2) (fun b i hb e => hIA (by rw [← e.1]; exact hb))
  have hok := (stepM_ok h.ok.g (s := .finish id p) hpo).1
  have hsz := hf.size
  have hext : GExt w x (okN x.I (w.heap.size + 2) w'.heap.size) x.sv := ⟨fun _ h => .inl h, fun _ h => h.imp _root_.id (fun e => by omega), fun _ _ _ h => .inl h⟩
  rw [hfs]
  refine ⟨okN x.I (w.heap.size + 2) w'.heap.size, x.sv, rfl, ⟨h.ground hok hF ⟨ro', q1, (vs.filter fun v => !(v.f.id == id)) ++ us, q2, ?_, fun v hv => ?_⟩ q6 q5 q7 (h.sh.fr hf (fun i _ e => by omega) (fun k g i hk e e' => ?_)) hext.i0 (fun b hb => ?_) hext.sv, hext, hF⟩⟩
  · show List.map _ _ = (a.g.fs.filter fun f => !(f.id == id)) ++ p.toList
    rw [List.map_append, q3, ← hfs]
    congr 1
    rw [List.filter_map]
    rfl
  · rcases List.mem_append.1 hv with hv | hv
    · exact ((hg v (List.mem_filter.1 hv).1).same hS).mono (fun b hb => .inl hb)
    · exact ((q4 v hv).same hS).mono (fun b hb => .inl hb)
  · exact h.apart 0 (k + 1) A (by omega) (by omega) (by omega) (own_A x A) (by rw [own_sh x A k hk, ← e'.1]; exact e)
  · rcases hb with hb | hb
    · exact .inl hb
    · refine .inr ⟨by omega, hb.2, fun k hk e => ?_⟩
      have := (h.ownI (k + 1) b (by omega) (by rw [own_sh x A k hk]; exact e)).2.2
      omega

end Go.Proofs.YtenaepdmlknlcaaGreatDoor

namespace Go.Proofs.YtenaepdmlknlcaaGreatDoor
open Go.RowKit Go.Shelf

theorem step_draw {w : World} {A : Nat} {x : Wit} {a : Atl} (h : AtlasAt w A x a) (t : Tl) (m : ByteArray) (age : Int) (ro : Option Addr) (fs : List Feat) (ht : t.good) (hfs : FsOk fs) (hro : TreeAt x.I w ro fs) :
    Calls Tryz.prog 205 #[getV t m age ro, .pointer (some ⟨A, 0, none⟩)] w (StepPost A x a (stepM a.g (.draw t m age fs)) w) := by
  have hA := h.A8
  have hI : ∀ b, x.I b → b < w.heap.size := fun b hb => (h.lt b hb).2
  have hsize := bodyF_size hfs.valid t
  obtain ⟨vs, hR, hm, hg⟩ := hro
  have hB : ∀ W, Below w.heap.size w W → Calls Tryz.prog 32 #[.agg #[.pointer ro], .agg #[.int .i64 t.z, .int .i64 t.c, .int .i64 t.r]] W fun e w' => e = .returned (.string (bodyF fs t)) ∧ Below W.heap.size W w' := fun W hW => by
    refine (Body_root x.I ro vs t.z t.c t.r W (fun b hb => Nat.lt_of_lt_of_le (hI b hb) hW.size) (RootT.same hR (Same.of_below hW hI)) (fun v hv => Good.same (Same.of_below hW hI) (hg v hv)) (dist_of (by rw [hm]; exact hfs.dist)) ht).mono ?_
    rintro e w' ⟨rfl, hb⟩
    refine ⟨?_, hb⟩
    rw [bodyR_mk hm]
    rfl
  have hT : ∀ W, Gl W → Calls Tryz.prog 188 #[getV t m age ro, .string (bodyF fs t)] W fun e w' => e = .returned (.agg #[.bool false, .nilFunc, .string (tellS m (bodyF fs t))]) ∧ Below W.heap.size W w' := fun W g => tell_any t.z t.c t.r age m (bodyF fs t) ro hsize W g
  have hok := (stepM_ok h.ok.g (s := .draw t m age fs) ⟨ht, hfs⟩).1
  have hq := shN4 t
  show Calls _ _ _ _ (StepPost A x a (.answer (tellS m (bodyF fs t)), if a.g.S.age (shN t) = age then _ else _) w)
  by_cases hage : a.g.S.age (shN t) = age
  · have hok' : GrOk { a.g with S := a.g.S.setK (shN t) (keepK a.g.S.room t (bodyF fs t) (a.g.S.ks (shN t))) } := by
      have h1 : GrOk (if a.g.S.age (shN t) = age then { a.g with S := a.g.S.setK (shN t) (keepK a.g.S.room t (bodyF fs t) (a.g.S.ks (shN t))) } else a.g) := hok
      rwa [if_pos hage] at h1
    rw [if_pos hage]
    have hown : ∀ b i, ShM A (2 + 1 + shN t * 2) (x.sv (shN t)) b i → b < w.heap.size ∧ 8 ≤ b := fun b i e => by
      rcases e with ⟨rfl, _⟩ | e
      · exact ⟨hA.2, hA.1⟩
      · have := h.ownI (shN t + 1) b (by omega) (by rw [own_sh x A _ hq]; exact e)
        exact ⟨this.2.2, this.2.1⟩
    have hlen := h.ok.g.len (shN t) hq
    have hr8 := h.ok.g.r8
    refine (draw_gen A 0 t m (bodyF fs t) age ro (ShM A (2 + 1 + shN t * 2) (x.sv (shN t))) (fun W w' => ∃ v', ShAt w' A (2 + 1 + shN t * 2) v' (keepK a.g.S.room t (bodyF fs t) (a.g.S.ks (shN t))) ∧ (∀ g, v'.ownBlock = some g → (x.sv (shN t)).ownBlock = some g ∨ W.heap.size ≤ g)) w h.gl hA.2 hown hB (fun W hW => ?_) hT).mono ?_
    · have hs := h.sh.below hW
      have hk := Keep_core A 2 (shN t) t (bodyF fs t) (x.sv (shN t)) (a.g.S.ks (shN t)) age a.g.S.room W (hs.sh _ hq) hs.room (by rw [← hage]; exact (hs.age _ hq).1) (by omega) (fun W' => of_any A 2 t (good_ok ht) W')
      exact hk.mono fun e w' ⟨he, v', h1, h2, h3⟩ => ⟨he, ⟨v', h1, h2⟩, h3⟩
    · rintro e w' ⟨rfl, W1, W2, hb1, hsz, ⟨v', hs', hv'⟩, hf2, hf3⟩
      have hlt : ∀ g, v'.ownBlock = some g → (x.sv (shN t)).ownBlock = some g ∨ w.heap.size ≤ g := fun g e => (hv' g e).imp _root_.id (fun h => by omega)
      have hF : Fr (ShM A (2 + 1 + shN t * 2) (x.sv (shN t))) w w' := ((Fr.of_below hb1).trans hf2).trans_new hf3 (fun b i hb e => by omega)
      refine ⟨x.I, _, rfl, h.shard hq hok' (hs'.fr hf3 (fun e => by omega) (fun g i e e' => ?_)) hlt hF⟩
      rcases hv' g e with k | k
      · have := (hown g i (.inr k)).1; omega
      · omega
  · rw [if_neg hage]
    refine (draw_gen A 0 t m (bodyF fs t) age ro (fun _ _ => False) (fun _ _ => True) w h.gl hA.2 (fun _ _ e => e.elim) hB (fun W hW => ?_) hT).mono ?_
    · exact (Keep_other A 2 t (good_ok ht) (bodyF fs t) age x.sv a.g.S W (h.sh.below hW) hage).mono fun e w' ⟨he, hb⟩ => ⟨he, trivial, Fr.of_below hb⟩
    · rintro e w' ⟨rfl, W1, W2, hb1, hsz, _, hf2, hf3⟩
      have hF : Fr (fun b _ => b = w.heap.size + 1) w w' := ((Fr.of_below hb1).trans (hf2.mono fun _ _ e => e.elim)).trans hf3
      refine ⟨x.I, x.sv, rfl, ⟨h.fr hF (fun b i e => ⟨by omega, fun hb => by have := (h.lt b hb).2; omega, fun ⟨i, hi, e'⟩ => by have := (h.ownI i b hi e').2.2; omega⟩), GExt.same w x, hF.mono_new (fun b i hb e => by omega)⟩⟩

/-- A step of whatever kind. -/
theorem step_any {w : World} {A : Nat} {x : Wit} {a : Atl} (h : AtlasAt w A x a) {st : Stp} (hst : StpOk st) {f : Nat} {b : Array Value} (hv : StpAt x.I w st (.func (.func f) b #[])) :
    Calls Tryz.prog f (b.push (.pointer (some ⟨A, 0, none⟩))) w (StepPost A x a (stepM a.g st) w) := by
  cases st with
  | bad => cases hv; exact step_bad h
  | look t m => cases hv; exact step_look h t m hst
  | note t m age => cases hv; exact step_note h t m age
  | draw t m age fs => obtain ⟨ro, e, k⟩ := hv; cases e; exact step_draw h t m age ro fs hst.1 hst.2 k
  | lock id p => obtain ⟨q, e, k⟩ := hv; cases e; exact step_lock h id p q k
  | forget id p z => obtain ⟨q, e, k⟩ := hv; cases e; exact step_forget h id p q z hst.2 hst.1 k
  | finish id p => obtain ⟨q, e, k⟩ := hv; cases e; exact step_finish h id p q hst k

end Go.Proofs.YtenaepdmlknlcaaGreatDoor

namespace Go.Proofs.YtenaepdmlknlcaaGreatDoor
open Go.RowKit Go.Shelf

set_option maxRecDepth 100000 in
set_option maxHeartbeats 1000000 in
/-- A pick whose step is followed by another, which the step chooses. -/
theorem pick_then2 (A o mo f : Nat) (b : Array Value) (R : Fn → Array Value → World → Prop) (w : World) (h1 : w.cell? ⟨A, o + 1, none⟩ = some (.func (.func f) b #[])) (hE : Enters f)
    (hC : Calls Tryz.prog f (b.push (.pointer (some ⟨A, mo, none⟩))) w fun e w' => ∃ f' b', e = .returned (.agg #[.bool false, .func f' b' #[], .string ⟨#[]⟩]) ∧ R f' b' w' ∧ w'.cell? ⟨A, o + 1, none⟩ = some (.func (.func f) b #[]) ∧ w'.frozen? ⟨A, o + 1, none⟩ = false) :
    Calls Tryz.prog 77 #[.pointer (some ⟨A, o, none⟩), .pointer (some ⟨A, mo, none⟩)] w fun e w' => e = .returned (.bool true) ∧ ∃ f' b' w1, R f' b' w1 ∧ w' = (w1.setCell ⟨A, o + 1, none⟩ (.func f' b' #[])).alloc (.cells #[.bool false, .func f' b' #[], .string ⟨#[]⟩] 231) := by
  have HC : Hid _ := hC
  clear hC
  have heq := eql_fn (.func f) b #[]
  have hE' := hE (b.push (.pointer (some ⟨A, mo, none⟩))) w
  clear hE
  go_enter Tryz.func77, Tryz.ntmps77
  go_wp2_with (refine Calls.mono HC.out ?_; rintro e w1 ⟨f', b', rfl, hR1, q1, q2⟩; dsimp only; have heq' := eql_fn f' b' #[]; have hA1 : A < w1.heap.size := World.block_lt_of_cell? w1 _ q1)
  go_ret
  exact ⟨rfl, f', b', w1, hR1, rfl⟩

/-- What an atlas relies on has grown by new blocks alone. -/
structure Ext (A : Nat) (w : World) (x y : Wit) : Prop where
  i : ∀ b, y.I b → x.I b ∨ w.heap.size ≤ b
  own : ∀ i b, i < 13 → y.own A i = some b → x.own A i = some b ∨ w.heap.size ≤ b
theorem Ext.refl (A : Nat) (w : World) (x : Wit) : Ext A w x x := ⟨fun _ h => .inl h, fun _ _ _ h => .inl h⟩
theorem Ext.trans {A : Nat} {w w1 : World} {x y z : Wit} (h : Ext A w x y) (k : Ext A w1 y z) (hs : w.heap.size ≤ w1.heap.size) : Ext A w x z :=
  ⟨fun b hb => (k.i b hb).elim (h.i b) (fun e => .inr (by omega)), fun i b hi hb => (k.own i b hi hb).elim (h.own i b hi) (fun e => .inr (by omega))⟩
theorem Ext.Own {A : Nat} {w : World} {x y : Wit} (h : Ext A w x y) {b : Nat} (hb : y.Own A b) : x.Own A b ∨ w.heap.size ≤ b := by
  obtain ⟨i, hi, e⟩ := hb
  exact (h.own i b hi e).imp (fun e => ⟨i, hi, e⟩) _root_.id
abbrev OwnM (A : Nat) (x : Wit) : Nat → Nat → Prop := fun b _ => x.Own A b
theorem Fr.own {A : Nat} {w w1 w2 : World} {x y : Wit} (h : Fr (OwnM A x) w w1) (k : Fr (OwnM A y) w1 w2) (he : Ext A w x y) : Fr (OwnM A x) w w2 :=
  h.trans_new k (fun b i hb e => (he.Own e).elim _root_.id (fun e => by omega))
theorem GM.own {A : Nat} {x : Wit} {b i : Nat} (h : GM A x b i) : x.Own A b := by
  rcases h with ⟨rfl, _⟩ | ⟨k, hk, e⟩
  · exact ⟨0, by omega, own_A x _⟩
  · exact ⟨k + 1, by omega, by rw [own_sh x A k hk]; exact e⟩
theorem SM.own {A : Nat} {x : Wit} {n : Nat} (hn : n < 4) {b i : Nat} (h : SM A x n b i) : x.Own A b := by
  rcases h with ⟨rfl, _⟩ | rfl | e
  · exact ⟨0, by omega, own_A x _⟩
  · exact ⟨n + 5, by omega, own_ch x A n hn⟩
  · exact ⟨n + 9, by omega, by rw [own_an]; exact e⟩
theorem GExt.ext {A : Nat} {w : World} {x : Wit} {I1 : Nat → Prop} {sv1 : Nat → Value} (h : GExt w x I1 sv1) : Ext A w x { x with I := I1, sv := sv1 } := by
  refine ⟨h.i1, fun i b hi e => ?_⟩
  rw [own_sv] at e
  by_cases h0 : i = 0
  · rw [if_pos h0] at e; left; rw [h0]; exact e
  · rw [if_neg h0] at e
    by_cases h1 : i < 5
    · rw [if_pos h1] at e
      refine (h.sv (i - 1) b (by omega) e).imp (fun e' => ?_) _root_.id
      have := own_sh x A (i - 1) (by omega)
      rw [show i - 1 + 1 = i by omega] at this
      rw [this]; exact e'
    · rw [if_neg h1] at e; exact .inl e
theorem Ext.ses {A : Nat} {w : World} {x : Wit} {n : Nat} {I1 : Nat → Prop} {v nv : Value} {sn rn : Nat} (hI : ∀ b, I1 b → x.I b ∨ w.heap.size ≤ b) (hv : ∀ b, v.ownBlock = some b → (x.av n).ownBlock = some b ∨ w.heap.size ≤ b) : Ext A w x (x.ses n I1 v nv sn rn) := by
  refine ⟨hI, fun i b hi e => ?_⟩
  rw [own_ses] at e
  by_cases h9 : i = n + 9
  · rw [if_pos h9] at e
    exact (hv b e).imp (fun e => by rw [h9, own_an]; exact e) _root_.id
  · rw [if_neg h9] at e; exact .inl e

theorem first_at {I : Nat → Prop} {n0 : Nat} {w' : World} {rd : Rd} {v : Value} (h : FirstV n0 w' rd v) (hok : RdOk rd) : StpAt (okN I n0 w'.heap.size) w' (firstS rd) v := by
  cases rd with
  | bad => exact h
  | get t m => exact h
  | del id => exact ⟨none, h, rfl⟩
  | put f =>
    obtain ⟨R, a, n, cap, e, h1, h2, h3, h4, h5, h6⟩ := h
    have hl := valid_len (show validF f = true from hok)
    rcases h5 with h5 | ⟨g, off, ea, hp⟩
    · rw [h5] at hl; simp at hl
    · obtain ⟨h6a, h6b⟩ := h6 g off ea
      subst h6b
      have hR : R < w'.heap.size := World.block_lt_of_cell? w' ⟨R, 0, none⟩ (h2 0 _ rfl).1
      refine ⟨some ⟨R, 5, none⟩, e, R, g, 0, cap, rfl, .inr ⟨h1, hR⟩, (h2 5 _ rfl).1, (h2 6 _ rfl).1, (h2 7 _ rfl).1, (h2 8 _ rfl).1, ?_, hok, .inr ⟨h6a, hp.1⟩, by rw [← h3]; exact h4, hp.2⟩
      have := (h2 9 _ rfl).1
      rw [ea, h3] at this
      exact this

/-- The next step is noted. -/
theorem AtlasAt.setNext {w1 : World} {A : Nat} {x : Wit} {a : Atl} (h : AtlasAt w1 A x a) {n : Nat} (hn : n < 4) {st' : Stp} (hst : StpOk st') {f' : Fn} {b' : Array Value} (hv : StpAt x.I w1 st' (.func f' b' #[])) (hbusy : ∃ st, (a.ss n).nx = some st) (o : Obj) :
    ∃ y, AtlasAt ((w1.setCell ⟨A, 11 + n * 3 + 1, none⟩ (.func f' b' #[])).alloc o) A y (a.set a.g n { a.ss n with nx := some st' }) ∧ Ext A w1 x y ∧ Fr (OwnM A x) w1 ((w1.setCell ⟨A, 11 + n * 3 + 1, none⟩ (.func f' b' #[])).alloc o) := by
  have hA := h.A8
  have hs := h.ses n hn
  have hok := h.ok.ss n hn
  obtain ⟨st, hst0⟩ := hbusy
  have hf : Fr (fun b i => b = A ∧ i = 11 + n * 3 + 1) w1 ((w1.setCell ⟨A, 11 + n * 3 + 1, none⟩ (.func f' b' #[])).alloc o) := ((Fr.refl _ w1).setCell (b := A) (i := 11 + n * 3 + 1) (.inl ⟨rfl, rfl⟩) _).alloc o
  have hF : Fr (SM A x n) w1 ((w1.setCell ⟨A, 11 + n * 3 + 1, none⟩ (.func f' b' #[])).alloc o) := hf.mono fun b i e => .inl ⟨e.1, by omega, by omega⟩
  have hcb : x.cb n ≠ A := fun e => h.apart 0 (n + 5) A (by omega) (by omega) (by omega) (own_A x A) (by rw [own_ch x A n hn, e])
  have hS : Same x.I w1 ((w1.setCell ⟨A, 11 + n * 3 + 1, none⟩ (.func f' b' #[])).alloc o) := Same.fr hf (fun b hb => (h.lt b hb).2) (fun b i hb e => (h.ownI 0 A (by omega) (own_A x A)).1 (by rw [← e.1]; exact hb))
  have hc1 : ((w1.setCell ⟨A, 11 + n * 3 + 1, none⟩ (.func f' b' #[])).alloc o).cell? ⟨A, 11 + n * 3 + 1, none⟩ = some (.func f' b' #[]) := (cell_alloc_lt _ _ _ (by simp [World.setCell]; exact hA.2)).trans (cell_eq hs.q.c1 _)
  have hw : waitS { a.ss n with nx := some st' } ≤ 6 := by
    have := hok.w
    rw [waitS_eq] at this ⊢
    rw [hst0] at this
    exact this
  refine ⟨x.ses n x.I (x.av n) (.func f' b' #[]) (x.sn n) (x.rn n), h.session hn (s' := { a.ss n with nx := some st' }) ⟨hok.q, hw, fun s e => by cases e; exact hst, hok.an⟩ hF ⟨⟨?_, ?_, ?_, hs.q.le, .inr ⟨f', b', ?_⟩⟩, ?_, ?_, ?_⟩ (fun _ h => h) (fun b hb => .inl hb) (fun b hb => ⟨?_, .inl hb⟩), Ext.ses (fun _ h => .inl h) (fun _ h => .inl h), hF.mono fun b i e => SM.own hn e⟩
  · exact (hf.cell A _ hA.2 (fun e => by omega)).trans hs.q.c0
  · show _ = some (updN x.nv n _ n)
    rw [updN_same]
    exact hc1
  · show _ = some (Obj.chan 6 _ false (updN x.sn n _ n) (updN x.rn n _ n) false)
    rw [updN_same, updN_same]
    exact (hf.block _ (Array.getElem?_eq_some_iff.1 hs.q.ch).1 (fun i e => hcb e.1)).trans hs.q.ch
  · show updN x.nv n _ n = _
    rw [updN_same]
  · have : (w1.setCell ⟨A, 11 + n * 3 + 1, none⟩ (.func f' b' #[])).frozen? ⟨A, 11 + n * 3 + 1, none⟩ = false := by rw [World.frozen?_setCell]; exact hs.f1
    exact (frozen_alloc_lt _ _ _ (by simp [World.setCell]; exact hA.2)).trans this
  · show NxAt x.I _ (some st') (updN x.nv n _ n)
    rw [updN_same]
    exact StpAt.same hS hv
  · show AnsAt _ A _ (updN x.av n _ n) _
    rw [updN_same]
    exact hs.an.fr hf (fun e => by omega) (fun g i e e' => hs.an.ne (by rw [e, e'.1]))
  · have := (h.ownI (n + 9) b (by omega) (by rw [own_an]; exact hb)).2.2
    exact Nat.lt_of_lt_of_le this hF.size

/-- An answer is noted. -/
theorem AtlasAt.setAnswer {w1 w' : World} {A : Nat} {x : Wit} {a : Atl} (h : AtlasAt w1 A x a) {n : Nat} (hn : n < 4) {an : ByteArray} {v' : Value} (hbusy : ∃ st, (a.ss n).nx = some st) (han : (a.ss n).an.length + 1 ≤ 4000000)
    (h1 : AnsAt w' A (11 + n * 3) v' ((a.ss n).an.map .string ++ [.string an])) (h2 : ∀ k, v'.ownBlock = some k → (x.av n).ownBlock = some k ∨ w1.heap.size ≤ k) (h3 : w'.cell? ⟨A, 11 + n * 3 + 1, none⟩ = some .nilFunc) (h4 : w'.frozen? ⟨A, 11 + n * 3 + 1, none⟩ = false) (hf : Fr (fun c j => (c = A ∧ (j = 11 + n * 3 + 1 ∨ j = 11 + n * 3 + 2)) ∨ (x.av n).ownBlock = some c) w1 w') :
    ∃ y, AtlasAt w' A y (a.set a.g n { a.ss n with nx := none, an := (a.ss n).an ++ [an] }) ∧ Ext A w1 x y ∧ Fr (OwnM A x) w1 w' := by
  have hA := h.A8
  have hs := h.ses n hn
  have hok := h.ok.ss n hn
  obtain ⟨st, hst0⟩ := hbusy
  have hF : Fr (SM A x n) w1 w' := hf.mono fun b i e => by
    rcases e with ⟨rfl, e⟩ | e
    · exact .inl ⟨rfl, by omega, by omega⟩
    · exact .inr (.inr e)
  have hnA : ∀ i, ((A = A ∧ (i = 11 + n * 3 + 1 ∨ i = 11 + n * 3 + 2)) ∨ (x.av n).ownBlock = some A) → i = 11 + n * 3 + 1 ∨ i = 11 + n * 3 + 2 := fun i e => e.elim (fun e => e.2) (fun e => absurd e hs.an.ne)
  have hw : waitS { a.ss n with nx := none, an := (a.ss n).an ++ [an] } ≤ 6 := by
    have := hok.w
    rw [waitS_eq] at this ⊢
    rw [hst0] at this
    show (a.ss n).q.length + 0 ≤ 6
    omega
  refine ⟨x.ses n x.I v' .nilFunc (x.sn n) (x.rn n), h.session hn (s' := { a.ss n with nx := none, an := (a.ss n).an ++ [an] }) ⟨hok.q, hw, fun s e => (by cases e), (by rw [List.length_append]; exact han)⟩ hF ⟨⟨?_, ?_, ?_, hs.q.le, .inl ?_⟩, h4, ?_, ?_⟩ (fun _ h => h) (fun b hb => .inl hb) (fun b hb => ⟨?_, h2 b hb⟩), Ext.ses (fun _ h => .inl h) h2, hF.mono fun b i e => SM.own hn e⟩
  · exact (hf.cell A _ hA.2 (fun e => by have := hnA _ e; omega)).trans hs.q.c0
  · show _ = some (updN x.nv n _ n)
    rw [updN_same]
    exact h3
  · show _ = some (Obj.chan 6 _ false (updN x.sn n _ n) (updN x.rn n _ n) false)
    rw [updN_same, updN_same]
    refine (hf.block _ (Array.getElem?_eq_some_iff.1 hs.q.ch).1 (fun i e => ?_)).trans hs.q.ch
    rcases e with ⟨e, _⟩ | e
    · exact h.apart 0 (n + 5) A (by omega) (by omega) (by omega) (own_A x A) (by rw [own_ch x A n hn, e])
    · exact h.apart (n + 5) (n + 9) _ (by omega) (by omega) (by omega) (own_ch x A n hn) (by rw [own_an]; exact e)
  · show updN x.nv n _ n = _
    rw [updN_same]
  · show NxAt x.I _ none (updN x.nv n _ n)
    rw [updN_same]
    rfl
  · show AnsAt _ A _ (updN x.av n _ n) _
    rw [updN_same, List.map_append]
    exact h1
  · obtain ⟨cur, hc⟩ := ownsRow_cells h1.own hb
    exact (Array.getElem?_eq_some_iff.1 hc).1

end Go.Proofs.YtenaepdmlknlcaaGreatDoor
