import Derived.Test.YtenaepdmlknlcaaGreatDoorE41
import Derived.Test.YtenaepdmlknlcaaGreatDoorE35
import Derived.Test.YtenaepdmlknlcaaGreatDoorE18
import Derived.Test.YtenaepdmlknlcaaGreatDoorE40
import Derived.Test.YtenaepdmlknlcaaGreatDoorE36
namespace Go.Proofs.YtenaepdmlknlcaaGreatDoor
open Go.RowKit Go.Shelf

/-! The search for a row, without memory. -/
def goneAt (g : List Bool) (i : Nat) : Bool := (g[i]?).getD true
def overB (l : List Dn) (g : List Bool) : Bool := (List.range l.length).all fun i => goneAt g i || (match l[i]? with | some d => d.un == 0 | none => true)
def firstB (l : List Dn) (g : List Bool) (i : Nat) (fr : Int) : Bool := (List.range l.length).all fun k => !(k != i && !goneAt g k && (match l[k]? with | some d => decide (0 < d.un) && decide (d.un < fr) | none => false))
def candB (l : List Dn) (g : List Bool) (fs : List Feat) (i : Nat) : Bool := match l[i]? with
  | none => false
  | some d => !goneAt g i && !(d.fr == 0) && firstB l g i d.fr && !(decide (0 < d.un) && !decide (ansR fs (askZ d.q) = d.an)) && !(d.un == 0 && decide (kindZ d.q = 2))
def askAt (l : List Dn) (i : Nat) (fs : List Feat) : List Feat := match l[i]? with
  | none => fs
  | some d => fsR fs (askZ d.q)
def rowB : Nat → List Dn → List Bool → List Feat → Bool
  | 0, l, g, _ => overB l g
  | k + 1, l, g, fs => overB l g || (List.range l.length).any fun i => candB l g fs i && rowB k l (g.set i true) (askAt l i fs)
/-- A row that is good. -/
def Good1 (l : List Dn) : List Nat → List Feat → Prop
  | [], _ => True
  | i :: S, fs => (∃ d, l[i]? = some d ∧ 0 < d.fr ∧ 0 < d.un ∧ d.an = ansR fs (askZ d.q)) ∧ Good1 l S (askAt l i fs)
theorem row_true (l : List Dn) (hun : ∀ (i : Nat) (d : Dn), l[i]? = some d → 0 ≤ d.un) : ∀ (S : List Nat) (k : Nat) (g : List Bool) (fs : List Feat), S.length ≤ k → g.length = l.length → S.Nodup → (∀ i ∈ S, goneAt g i = false) → (∀ (i : Nat) (d : Dn), l[i]? = some d → 0 < d.un → goneAt g i = false → i ∈ S) →
    S.Pairwise (fun i j => ∀ d e, l[i]? = some d → l[j]? = some e → d.fr ≤ e.un) → Good1 l S fs → rowB k l g fs = true := by
  intro S
  induction S with
  | nil =>
    intro k g fs _ _ _ _ hall _ _
    have ho : overB l g = true := by
      unfold overB
      rw [List.all_eq_true]
      intro i _
      cases hg : goneAt g i with
      | true => rfl
      | false =>
        cases hl : l[i]? with
        | none => rfl
        | some d =>
          have h0 := hun i d hl
          have : ¬ 0 < d.un := fun hu => by have := hall i d hl hu hg; cases this
          simp
          omega
    cases k with
    | zero => exact ho
    | succ k => unfold rowB; rw [ho]; rfl
  | cons i S ih =>
    intro k g fs hk hlen hnd hg hall hpw hgood
    obtain ⟨⟨d, hd, hf, hu, ha⟩, hrest⟩ := hgood
    cases k with
    | zero => simp at hk
    | succ k =>
      have hil : i < l.length := (List.getElem?_eq_some_iff.1 hd).1
      have hni : i ∉ S := (List.nodup_cons.1 hnd).1
      have hgi := hg i (by simp)
      have hset : ∀ j, goneAt (g.set i true) j = (decide (j = i) || goneAt g j) := fun j => by
        unfold goneAt
        rw [List.getElem?_set]
        by_cases e : i = j
        · subst e; rw [if_pos rfl, if_pos (by omega)]; simp
        · rw [if_neg e]
          have : decide (j = i) = false := by simp; omega
          rw [this, Bool.false_or]
      unfold rowB
      rw [Bool.or_eq_true]
      right
      rw [List.any_eq_true]
      refine ⟨i, List.mem_range.2 hil, ?_⟩
      rw [Bool.and_eq_true]
      constructor
      · unfold candB
        rw [hd]
        dsimp only
        have hfb : firstB l g i d.fr = true := by
          unfold firstB
          rw [List.all_eq_true]
          intro j _
          rw [Bool.not_eq_true']
          by_cases e : j = i
          · subst e; simp
          · cases hgj : goneAt g j with
            | true => simp
            | false =>
              cases hl : l[j]? with
              | none => simp
              | some x =>
                dsimp only
                by_cases hx : 0 < x.un
                · have hm : j ∈ S := (List.mem_cons.1 (hall j x hl hx hgj)).resolve_left e
                  have := (List.pairwise_cons.1 hpw).1 j hm d x hd hl
                  have h2 : decide (x.un < d.fr) = false := by simp; omega
                  rw [h2]; simp
                · have h2 : decide (0 < x.un) = false := by simp; omega
                  rw [h2]; simp
        rw [hgi, hfb, ← ha]
        have h1 : (d.fr == 0) = false := by simp; omega
        have h2 : (d.un == 0) = false := by simp; omega
        rw [h1, h2]
        simp
      · refine ih k _ _ (by simp at hk; omega) (by rw [List.length_set]; exact hlen) (List.nodup_cons.1 hnd).2 (fun j hj => ?_) (fun j x hx hxu hgj => ?_) (List.pairwise_cons.1 hpw).2 hrest
        · rw [hset]
          have : decide (j = i) = false := by simp; intro e; exact hni (e ▸ hj)
          rw [this, Bool.false_or]; exact hg j (by simp [hj])
        · rw [hset, Bool.or_eq_false_iff] at hgj
          have e : j ≠ i := by simpa using hgj.1
          exact (List.mem_cons.1 (hall j x hx hxu hgj.2)).resolve_left e
/-- All requests, session by session. -/
def flatP4 (P : Pl) : List Dn := P.all 0 ++ P.all 1 ++ P.all 2 ++ P.all 3
def offP (P : Pl) : Nat → Nat
  | 0 => 0
  | 1 => (P.all 0).length
  | 2 => (P.all 0).length + (P.all 1).length
  | _ => (P.all 0).length + (P.all 1).length + (P.all 2).length
theorem flat_get {P : Pl} {n i : Nat} (hn : n < 4) {d : Dn} (h : (P.all n)[i]? = some d) : (flatP4 P)[offP P n + i]? = some d := by
  have hl := (List.getElem?_eq_some_iff.1 h).1
  unfold flatP4
  match n, hn with
  | 0, _ =>
    rw [List.getElem?_append_left (by simp [offP]; omega), List.getElem?_append_left (by simp [offP]; omega), List.getElem?_append_left (by simp [offP]; omega)]
    simpa [offP] using h
  | 1, _ =>
    rw [List.getElem?_append_left (by simp [offP]; omega), List.getElem?_append_left (by simp [offP]; omega), List.getElem?_append_right (by simp [offP])]
    simpa [offP] using h
  | 2, _ =>
    rw [List.getElem?_append_left (by simp [offP]; omega), List.getElem?_append_right (by simp only [offP, List.length_append]; omega), show offP P 2 + i - (P.all 0 ++ P.all 1).length = i by simp only [offP, List.length_append]; omega]
    exact h
  | 3, _ =>
    rw [List.getElem?_append_right (by simp only [offP, List.length_append]; omega), show offP P 3 + i - (P.all 0 ++ P.all 1 ++ P.all 2).length = i by simp only [offP, List.length_append]; omega]
    exact h
theorem flat_inv {P : Pl} {j : Nat} {d : Dn} (h : (flatP4 P)[j]? = some d) : ∃ n i, n < 4 ∧ j = offP P n + i ∧ (P.all n)[i]? = some d := by
  have hl := (List.getElem?_eq_some_iff.1 h).1
  unfold flatP4 at h hl
  simp only [List.length_append] at hl
  by_cases h0 : j < (P.all 0).length
  · rw [List.getElem?_append_left (by simp; omega), List.getElem?_append_left (by simp; omega), List.getElem?_append_left (by omega)] at h
    exact ⟨0, j, by omega, by simp [offP], h⟩
  · by_cases h1 : j < (P.all 0).length + (P.all 1).length
    · rw [List.getElem?_append_left (by simp; omega), List.getElem?_append_left (by simp; omega), List.getElem?_append_right (by omega)] at h
      exact ⟨1, _, by omega, by simp [offP]; omega, h⟩
    · by_cases h2 : j < (P.all 0).length + (P.all 1).length + (P.all 2).length
      · rw [List.getElem?_append_left (by simp; omega), List.getElem?_append_right (by simp; omega)] at h
        exact ⟨2, _, by omega, by simp [offP]; omega, h⟩
      · rw [List.getElem?_append_right (by simp; omega)] at h
        exact ⟨3, _, by omega, by simp [offP]; omega, h⟩
theorem off_inj {P : Pl} {n m i j : Nat} (hn : n < 4) (hm : m < 4) (hi : i < (P.all n).length) (hj : j < (P.all m).length) (h : offP P n + i = offP P m + j) : n = m ∧ i = j := by
  match n, hn, m, hm with
  | 0, _, 0, _ => simp [offP] at h; omega
  | 0, _, 1, _ => simp [offP] at h; omega
  | 0, _, 2, _ => simp [offP] at h; omega
  | 0, _, 3, _ => simp [offP] at h; omega
  | 1, _, 0, _ => simp [offP] at h; omega
  | 1, _, 1, _ => simp [offP] at h; omega
  | 1, _, 2, _ => simp [offP] at h; omega
  | 1, _, 3, _ => simp [offP] at h; omega
  | 2, _, 0, _ => simp [offP] at h; omega
  | 2, _, 1, _ => simp [offP] at h; omega
  | 2, _, 2, _ => simp [offP] at h; omega
  | 2, _, 3, _ => simp [offP] at h; omega
  | 3, _, 0, _ => simp [offP] at h; omega
  | 3, _, 1, _ => simp [offP] at h; omega
  | 3, _, 2, _ => simp [offP] at h; omega
  | 3, _, 3, _ => simp [offP] at h; omega
/-- The events of requests that were answered. -/
def ansE (P : Pl) (e : Ev) : Bool := match (P.all e.n)[e.i]? with
  | some d => decide (0 < d.un)
  | none => false
def idxE (P : Pl) (e : Ev) : Nat := offP P e.n + e.i
theorem good_rep {P : Pl} (hun : ∀ n, n < 4 → ∀ d ∈ P.all n, 0 ≤ d.un) : ∀ (H : List Ev) (fs fe : List Feat), Rep P fs H fe → (∀ e ∈ H, e.n < 4 ∧ ∃ d, (P.all e.n)[e.i]? = some d ∧ 0 < d.fr) → Good1 (flatP4 P) ((H.filter (ansE P)).map (idxE P)) fs
  | [], _, _, _, _ => trivial
  | e :: H, fs, fe, h, hok => by
    obtain ⟨d, a1, a2, a3, a4⟩ := h
    obtain ⟨hn, d', b1, b2⟩ := hok e (by simp)
    rw [a1] at b1
    obtain rfl := Option.some.inj b1
    have hd0 := hun e.n hn d (List.mem_of_getElem? a1)
    have ih := fun fs' h' => good_rep hun H fs' fe h' fun x hx => hok x (by simp [hx])
    by_cases hu : 0 < d.un
    · have ea : ansE P e = true := by unfold ansE; rw [a1]; simpa using hu
      rw [List.filter_cons_of_pos ea, List.map_cons]
      have hg := flat_get hn a1
      refine ⟨⟨d, hg, b2, hu, a2 hu⟩, ?_⟩
      have e2 : askAt (flatP4 P) (idxE P e) fs = fsR fs (askZ d.q) := by unfold askAt idxE; rw [hg]
      rw [e2]
      exact ih _ a4
    · have ea : ¬ ansE P e = true := by unfold ansE; rw [a1]; simpa using hu
      rw [List.filter_cons_of_neg ea]
      obtain ⟨t, m, ag, _, hq⟩ := a3 (by omega)
      rw [hq] at a4
      exact ih _ a4
/-- A row is found. -/
theorem lin_row {P : Pl} {H : List Ev} (h : Lin P H) (hun : ∀ n, n < 4 → ∀ d ∈ P.all n, 0 ≤ d.un) : ∃ K, ∀ k, K ≤ k → rowB k (flatP4 P) (List.replicate (flatP4 P).length false) [] = true := by
  refine ⟨_, fun k hk => row_true (flatP4 P) (fun i d hd => ?_) ((H.filter (ansE P)).map (idxE P)) k _ [] hk (by simp) ?_ (fun i hi => ?_) (fun i d hd hu _ => ?_) ?_ (good_rep hun H [] _ h.rep fun e he => ?_)⟩
  · obtain ⟨n, j, hn, _, hj⟩ := flat_inv hd
    exact hun n hn d (List.mem_of_getElem? hj)
  · unfold List.Nodup
    rw [List.pairwise_map]
    refine (h.inj.filter (ansE P)).imp_of_mem ?_
    intro a b ha hb hab e
    obtain ⟨na, _, da, ga, _⟩ := h.ok a (List.mem_filter.1 ha).1
    obtain ⟨nb, _, db, gb, _⟩ := h.ok b (List.mem_filter.1 hb).1
    obtain ⟨e1, e2⟩ := off_inj na nb (List.getElem?_eq_some_iff.1 ga).1 (List.getElem?_eq_some_iff.1 gb).1 e
    rcases hab with h1 | h1
    · exact h1 e1
    · exact h1 e2
  · obtain ⟨e, he, rfl⟩ := List.mem_map.1 hi
    obtain ⟨ne, _, de, ge, _⟩ := h.ok e (List.mem_filter.1 he).1
    have hl := (List.getElem?_eq_some_iff.1 (flat_get ne ge)).1
    unfold goneAt idxE
    rw [List.getElem?_replicate, if_pos hl]
    rfl
  · obtain ⟨n, j, hn, rfl, hj⟩ := flat_inv hd
    obtain ⟨e, he, rfl, rfl⟩ := h.all n hn j d hj hu
    refine List.mem_map.2 ⟨e, List.mem_filter.2 ⟨he, ?_⟩, rfl⟩
    unfold ansE; rw [hj]; simpa using hu
  · rw [List.pairwise_map]
    refine (h.inc.filter (ansE P)).imp_of_mem ?_
    intro a b ha hb hab d x hd hx
    obtain ⟨na, _, da, ga, _, a5, _⟩ := h.ok a (List.mem_filter.1 ha).1
    obtain ⟨nb, _, db, gb, _, _, b6⟩ := h.ok b (List.mem_filter.1 hb).1
    have hbu := (List.mem_filter.1 hb).2
    unfold ansE at hbu
    rw [gb] at hbu
    rw [idxE, flat_get na ga] at hd
    rw [idxE, flat_get nb gb] at hx
    obtain rfl := Option.some.inj hd
    obtain rfl := Option.some.inj hx
    have := b6 (by simpa using hbu)
    omega
  · obtain ⟨ne, _, de, ge, fe, _⟩ := h.ok e he
    exact ⟨ne, de, ge, fe⟩
end Go.Proofs.YtenaepdmlknlcaaGreatDoor

namespace Go.Proofs.YtenaepdmlknlcaaGreatDoor
open Go.RowKit Go.Shelf

/-! Lists of features in memory. -/
def fgV (g : FG) : List Value := [.int .i64 g.f.id, .int .i64 g.f.kd, .int .i64 g.f.ht, .int .i64 g.f.col, .slice g.a g.f.ps.length g.cap]
def flatG (l : List FG) : List Value := l.flatMap fgV
theorem flatG_append (a b : List FG) : flatG (a ++ b) = flatG a ++ flatG b := List.flatMap_append
theorem flatG_one (g : FG) : flatG [g] = fgV g := by simp [flatG]
theorem flatG_get : ∀ {l : List FG} {i : Nat} {g : FG}, l[i]? = some g → ∀ j, j < 5 → (flatG l)[i * 5 + j]? = (fgV g)[j]?
  | [], i, g, h, _, _ => by simp at h
  | x :: l, 0, g, h, j, hj => by
    simp at h; subst h
    show (fgV x ++ flatG l)[0 * 5 + j]? = _
    rw [Nat.zero_mul, Nat.zero_add, List.getElem?_append_left (by show j < 5; exact hj)]
  | x :: l, i + 1, g, h, j, hj => by
    show (fgV x ++ flatG l)[(i + 1) * 5 + j]? = _
    rw [List.getElem?_append_right (by show 5 ≤ _; omega), show (i + 1) * 5 + j - (fgV x).length = i * 5 + j by show (i + 1) * 5 + j - 5 = _; omega]
    exact flatG_get (l := l) (by simpa using h) j hj
/-- A feature's places are in memory, in blocks of Q. -/
structure FgOk (Q : Nat → Prop) (w : World) (g : FG) : Prop where
  pts : PtsAt w.heap.size w g.a g.f.ps
  cap : g.f.ps.length ≤ g.cap
  few : g.f.ps.length ≤ 6
  q : ∀ x, g.a = some x → Q x.block
/-- A list of features, all in blocks of Q. -/
def FeatsQ (Q : Nat → Prop) (w : World) (a : Option Addr) (gs : List FG) : Prop := gs = [] ∨ ∃ b off, a = some ⟨b, off, none⟩ ∧ Q b ∧ b < w.heap.size ∧ ∀ (i : Nat) g, gs[i]? = some g → FgOk Q w g ∧ ∀ j u, (fgV g)[j]? = some u → w.cell? ⟨b, off + i * 5 + j, none⟩ = some u
theorem PtsAt.frB {M : Nat → Nat → Prop} {A B : World} (h : Fr M A B) {a : Option Addr} {ps : Pts} (hp : PtsAt A.heap.size A a ps) (hm : ∀ x i, a = some x → ¬ M x.block i) : PtsAt B.heap.size B a ps := by
  rcases hp with e | ⟨b, off, e, hb, hc⟩
  · exact .inl e
  · refine .inr ⟨b, off, e, Nat.lt_of_lt_of_le hb h.size, fun k x y he => ⟨(h.cell b _ hb (hm _ _ e)).trans (hc k x y he).1, (h.cell b _ hb (hm _ _ e)).trans (hc k x y he).2⟩⟩
theorem FgOk.fr {Q : Nat → Prop} {M : Nat → Nat → Prop} {A B : World} (h : Fr M A B) {g : FG} (k : FgOk Q A g) (hm : ∀ b i, M b i → ¬ Q b) : FgOk Q B g :=
  ⟨k.pts.frB h fun x _i e hM => hm _ _ hM (k.q x e), k.cap, k.few, k.q⟩
theorem FeatsQ.fr {Q : Nat → Prop} {M : Nat → Nat → Prop} {A B : World} (h : Fr M A B) {a : Option Addr} {gs : List FG} (k : FeatsQ Q A a gs) (hm : ∀ b i, M b i → ¬ Q b) : FeatsQ Q B a gs := by
  rcases k with e | ⟨b, off, e, hq, hb, hc⟩
  · exact .inl e
  · exact .inr ⟨b, off, e, hq, Nat.lt_of_lt_of_le hb h.size, fun i g hg => ⟨(hc i g hg).1.fr h hm, fun j u hj => (h.cell b _ hb (fun hM => hm _ _ hM hq)).trans ((hc i g hg).2 j u hj)⟩⟩
theorem FeatsQ.below {Q : Nat → Prop} {A B : World} (h : Below A.heap.size A B) {a : Option Addr} {gs : List FG} (k : FeatsQ Q A a gs) : FeatsQ Q B a gs := k.fr (M := fun _ _ => False) (Fr.of_below h) (fun _ _ e => e.elim)
theorem FgOk.mono {Q R : Nat → Prop} (h : ∀ b, Q b → R b) {w : World} {g : FG} (k : FgOk Q w g) : FgOk R w g := ⟨k.pts, k.cap, k.few, fun x e => h _ (k.q x e)⟩
theorem FeatsQ.mono {Q R : Nat → Prop} (h : ∀ b, Q b → R b) {w : World} {a : Option Addr} {gs : List FG} (k : FeatsQ Q w a gs) : FeatsQ R w a gs := by
  rcases k with e | ⟨b, off, e, hq, hb, hc⟩
  · exact .inl e
  · exact .inr ⟨b, off, e, h _ hq, hb, fun i g hg => ⟨(hc i g hg).1.mono h, (hc i g hg).2⟩⟩
theorem FeatsQ.mem {Q : Nat → Prop} {w : World} {a : Option Addr} {gs : List FG} (k : FeatsQ Q w a gs) : ∀ g ∈ gs, FgOk Q w g := by
  intro g hg
  rcases k with e | ⟨b, off, e, hq, hb, hc⟩
  · rw [e] at hg; cases hg
  · obtain ⟨i, hi, e'⟩ := List.getElem_of_mem hg
    exact (hc i g (by rw [List.getElem?_eq_getElem hi, e'])).1
theorem FeatsQ.go {Q : Nat → Prop} {w : World} {a : Option Addr} {gs : List FG} (k : FeatsQ Q w a gs) : FeatsGO w a gs := by
  rcases k with e | ⟨b, off, e, hq, hb, hc⟩
  · exact .inl e
  · refine .inr ⟨b, off, e, hb, fun i g hg => ?_⟩
    obtain ⟨h1, h2⟩ := hc i g hg
    exact ⟨h2 0 _ rfl, h2 1 _ rfl, h2 2 _ rfl, h2 3 _ rfl, h2 4 _ rfl, h1.pts, h1.cap, by have := h1.few; omega⟩
theorem FeatsQ.row {Q : Nat → Prop} {w : World} {base : Nat} {v : Value} {gs : List FG} (h : w.ownsRow base 32 5 v gs.length (flatG gs)) (hq : ∀ b, v.ownBlock = some b → Q b) (hg : ∀ g ∈ gs, FgOk Q w g) : ∃ a cap, v = .slice a gs.length cap ∧ gs.length ≤ cap ∧ FeatsQ Q w a gs := by
  obtain ⟨a, cap, rfl, hc, hs⟩ := row_form h
  refine ⟨a, cap, rfl, hc, ?_⟩
  by_cases h0 : gs = []
  · exact .inl h0
  · obtain ⟨g, rfl, _⟩ := hs (List.length_pos_iff.2 h0)
    refine .inr ⟨g, 0, rfl, hq g rfl, (h.lt g rfl).2, fun i x hx => ⟨hg x (List.mem_of_getElem? hx), fun j u hj => ?_⟩⟩
    have hj5 : j < 5 := by
      have := (List.getElem?_eq_some_iff.1 hj).1
      exact this
    have hi := (List.getElem?_eq_some_iff.1 hx).1
    rw [Nat.zero_add, h.cellAt (i * 5 + j) (by omega), flatG_get hx j hj5, hj]
theorem hasF_snoc (id : Int) (fs : List Feat) (f : Feat) : hasF id (fs ++ [f]) = (hasF id fs || f.id == id) := by
  unfold hasF; simp
theorem info32 : (Tryz.prog.info? 32).map (fun i => (i.zero, i.size, i.bytes)) = some (some (.agg #[.int .i64 0, .int .i64 0, .int .i64 0, .int .i64 0, .slice none 0 0]), 5, 56) := by kernel_rfl
def notId (id : Int) (g : FG) : Bool := !(g.f.id == id)

set_option maxRecDepth 100000 in
set_option maxHeartbeats 2000000 in
theorem without_any (Q : Nat → Prop) (a : Option Addr) (n cap : Nat) (gs : List FG) (id : Int) (w : World) (h : FeatsQ Q w a gs) (hn : n = gs.length) (hcap : n ≤ cap) (hn2 : n ≤ 1000) :
    Calls Tryz.prog 48 #[.slice a n cap, .int .i64 id] w fun e w' => ∃ v, e = .returned (.tuple #[v, .bool (hasF id (gs.map (·.f)))]) ∧ w'.ownsRow w.heap.size 32 5 v (gs.filter (notId id)).length (flatG (gs.filter (notId id))) ∧ Below w.heap.size w w' := by
  have Hn : Hid (n = gs.length) := hn
  have HF : Hid (FeatsQ Q w a gs) := h
  obtain ⟨i32, hi0, hz0, hz1, hz2⟩ := info_parts info32
  have HI : Hid (Tryz.prog.info? 32 = some i32 ∧ i32.zero = some (.agg #[.int .i64 0, .int .i64 0, .int .i64 0, .int .i64 0, .slice none 0 0]) ∧ i32.size = 5 ∧ i32.bytes = 56) := ⟨hi0, hz0, hz1, hz2⟩
  clear hi0 hz0 hz1 hz2 h hn
  go_enter Tryz.func48, Tryz.ntmps48
  go_wp2
  go_loopw [6, 7, 8] (fun out is i wr => ∃ k : Nat, k ≤ n ∧ i = .int .i64 k ∧ is = .bool (hasF id ((gs.take k).map (·.f))) ∧ ∃ v, out = v ∧ wr.ownsRow w.heap.size 32 5 v ((gs.take k).filter (notId id)).length (flatG ((gs.take k).filter (notId id))) ∧ Below w.heap.size w wr) (fun _ _ i _ => n - (intOf i).toNat)
  case atStart => exact ⟨0, Nat.zero_le _, rfl, rfl, _, rfl, World.ownsRow_nil _ _ _ _, Below.refl _ _⟩
  case round =>
    obtain ⟨k, hk, rfl, rfl, out, rfl, hown, hbl⟩ := hrel
    have HOwn : Hid (wr.ownsRow w.heap.size 32 5 u6 ((gs.take k).filter (notId id)).length (flatG ((gs.take k).filter (notId id)))) := hown
    have HBl : Hid (Below w.heap.size w wr) := hbl
    clear hown
    by_cases hlt : k < n
    · obtain ⟨x, hx⟩ : ∃ x, gs[k]? = some x := ⟨_, List.getElem?_eq_getElem (by have := Hn.out; omega)⟩
      have htk : gs.take (k + 1) = gs.take k ++ [x] := by rw [List.take_add_one, hx]; rfl
      obtain ⟨b, off, rfl, hbw, hcx⟩ : ∃ b off, a = some ⟨b, off, none⟩ ∧ b < w.heap.size ∧ ∀ j u, (fgV x)[j]? = some u → w.cell? ⟨b, off + k * 5 + j, none⟩ = some u := by
        rcases HF.out with e | ⟨b, off, e, _, hb, hc⟩
        · rw [e] at hx; simp at hx
        · exact ⟨b, off, e, hb, (hc k x hx).2⟩
      have hcr : ∀ j u, (fgV x)[j]? = some u → wr.cell? ⟨b, off + k * 5 + j, none⟩ = some u := fun j u hj => (hbl.cell (p := ⟨b, off + k * 5 + j, none⟩) hbw).trans (hcx j u hj)
      have c0 : wr.cell? ⟨b, off + k * 5, none⟩ = some (.int .i64 x.f.id) := hcr 0 _ rfl
      have c1 : wr.cell? ⟨b, off + k * 5 + 1, none⟩ = some (.int .i64 x.f.kd) := hcr 1 _ rfl
      have c2 : wr.cell? ⟨b, off + k * 5 + 2, none⟩ = some (.int .i64 x.f.ht) := hcr 2 _ rfl
      have c3 : wr.cell? ⟨b, off + k * 5 + 3, none⟩ = some (.int .i64 x.f.col) := hcr 3 _ rfl
      have c4 : wr.cell? ⟨b, off + k * 5 + 4, none⟩ = some (.slice x.a x.f.ps.length x.cap) := hcr 4 _ rfl
      have hs := hbl.size
      have hkI : (k : Int) < (n : Int) := by omega
      have hkn : ¬ (k : Int) < 0 := by omega
      have hfl : ((gs.take k).filter (notId id)).length ≤ k := Nat.le_trans (List.length_filter_le _ _) (List.length_take_le _ _)
      clear hcx hcr hx hbl
      have HX1 : Hid (hasF id ((gs.take (k + 1)).map (·.f)) = (hasF id ((gs.take k).map (·.f)) || x.f.id == id)) := by show _ = _; rw [htk, List.map_append]; exact hasF_snoc _ _ _
      have HX2 : Hid ((gs.take (k + 1)).filter (notId id) = (gs.take k).filter (notId id) ++ [x].filter (notId id)) := by show _ = _; rw [htk, List.filter_append]
      clear htk
      by_cases hid : x.f.id = id
      · rw [hid] at c0
        have hf1 : [x].filter (notId id) = [] := by simp [notId, hid]
        go_wp2
        go_roundw
        case rel => exact ⟨k + 1, by omega, by go_num, by rw [HX1.out]; simp [hid], _, rfl, by rw [HX2.out, hf1, List.append_nil]; exact HOwn.out, HBl.out⟩
        case measure => simp [intOf]; omega
      · have hf1 : [x].filter (notId id) = [x] := by simp [notId, hid]
        go_wp2_with (at_builtin; refine wpList_append_own _ rfl (.tmp 22) (.tmp 27) 22 rfl w.heap.size 32 i32 (.agg #[.int .i64 0, .int .i64 0, .int .i64 0, .int .i64 0, .slice none 0 0]) 5 56 Tryz.underlying22 HI.out.1 HI.out.2.1 HI.out.2.2.1 HI.out.2.2.2 rfl (by decide) u6 ((gs.take k).filter (notId id)).length (flatG ((gs.take k).filter (notId id))) rfl (HOwn.out.alloc _) ⟨wr.heap.size, 0, none⟩ 1 1 (fgV x) rfl rfl (fun j u hj => by
                  rw [addr_add]
                  match j, hj with
                  | 0, hj => simp [fgV] at hj; subst hj; simp [go_sem]
                  | 1, hj => simp [fgV] at hj; subst hj; simp [go_sem]
                  | 2, hj => simp [fgV] at hj; subst hj; simp [go_sem]
                  | 3, hj => simp [fgV] at hj; subst hj; simp [go_sem]
                  | 4, hj => simp [fgV] at hj; subst hj; simp [go_sem]
                  | j + 5, hj => simp [fgV] at hj) (fun u hu => by simp only [fgV, List.mem_cons, List.not_mem_nil, or_false] at hu; rcases hu with hu | hu | hu | hu | hu <;> (rw [hu]; rfl)) (by unfold maxLen; omega) (by omega) (by simp; omega) ?_; intro v3 w3 hown3 hgrow3 _; have hb3 : Below w.heap.size wr w3 := ((Below.refl _ wr).alloc hs _).grown hgrow3 (by simp; omega) (fun k hk => (HOwn.out.lt k hk).1); have HO3 : Hid _ := hown3; have HB3 : Hid _ := hb3; clear hown3 hgrow3 hb3)
        go_roundw
        case rel =>
          refine ⟨k + 1, by omega, by go_num, by rw [HX1.out]; simp [hid, List.map_take], _, rfl, ?_, HBl.out.trans HB3.out⟩
          rw [HX2.out, hf1, List.length_append, flatG_append, flatG_one]
          exact HO3.out
        case measure => simp [intOf]; omega
    · obtain rfl : k = n := by omega
      have hall : gs.take k = gs := List.take_of_length_le (by have := Hn.out; omega)
      rw [hall] at HOwn
      rw [hall]
      go_wp2
      go_ret2
      exact ⟨u6, rfl, HOwn.out, HBl.out⟩

end Go.Proofs.YtenaepdmlknlcaaGreatDoor
