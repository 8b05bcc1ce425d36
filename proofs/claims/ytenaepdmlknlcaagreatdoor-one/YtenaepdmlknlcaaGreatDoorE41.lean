import Derived.Test.YtenaepdmlknlcaaGreatDoorE40
namespace Go.Proofs.YtenaepdmlknlcaaGreatDoor
open Go.RowKit Go.Shelf

theorem rep_mem {P : Pl} {H : List Ev} : ∀ {fs fe : List Feat}, Rep P fs H fe → ∀ e ∈ H, ∃ d, (P.all e.n)[e.i]? = some d ∧ (d.un = 0 → isDraw (P.a.ss e.n).nx) := by
  induction H with
  | nil => intro fs fe _ e he; cases he
  | cons x H ih =>
    intro fs fe h e he
    obtain ⟨d, a1, a2, a3, a4⟩ := h
    rcases List.mem_cons.1 he with rfl | he
    · refine ⟨d, a1, fun hu => ?_⟩
      obtain ⟨t, m, ag, c1, _⟩ := a3 hu
      rw [c1]; trivial
    · exact ih a4 e he
theorem askZ_good (q : Rq) : askZ q ≠ .bad := by
  unfold askZ; split
  · intro e; cases e
  · split <;> (intro e; cases e)
theorem updOne_still (t : Int) (d : Dn) : updOne false t none d = d := by
  unfold updOne; simp
/-- A pick that finds nothing to do. -/
theorem lin_same {P Q : Pl} {H : List Ev} (h : Lin P H) (ha : ∀ k, Q.all k = P.all k) (hq : ∀ k, (Q.a.ss k).q = (P.a.ss k).q) (hn : ∀ k, (Q.a.ss k).nx = (P.a.ss k).nx) (hf : Q.a.g.fs = P.a.g.fs) (ht : P.time ≤ Q.time) : Lin Q H := by
  refine ⟨fun k hk => ?_, fun e he => ?_, h.inc, h.inj, fun k hk i x hx hu => ?_, ?_⟩
  · obtain ⟨A, B, e1, e2, e3⟩ := h.ses k hk
    refine ⟨A, B, by rw [ha, e1], ⟨e2.done, e2.opn, fun e => ?_, fun st e => ?_⟩, fun e => ?_⟩
    · rw [hn] at e; rw [hq]; exact e2.idle e
    · rw [hn] at e
      rw [hq]
      obtain ⟨d, B', b1, b2, b3, b4, b5, b6, b7⟩ := e2.busy st e
      exact ⟨d, B', b1, b2, b3, b4, b5, by omega, b7⟩
    · rw [hn] at e; exact e3 e
  · obtain ⟨a1, a2, x, a3, a4⟩ := h.ok e he
    exact ⟨a1, by omega, x, by rw [ha]; exact a3, a4⟩
  · rw [ha] at hx; exact h.all k hk i x hx hu
  · rw [hf]
    exact Rep.other h.rep fun e he x hx => ⟨x, by rw [ha]; exact hx, rfl, fun fs c1 c2 => ⟨c1, fun hu => by rw [hn]; exact c2 hu⟩⟩
theorem turn_set {a : Atl} {n : Nat} {b : Bool} {g : Gr} {s : Ses} (h : pickM a n = (b, a.set g n s)) : turnM a n = a.set g n { s with an := [] } := by
  unfold turnM; rw [h, tell_set]
/-- The request that a session comes to. -/
theorem cur_of {P : Pl} {n : Nat} {A B : List Dn} (hS : SesL (P.a.ss n) A B P.time) (han : (P.a.ss n).an = []) (hT : 0 ≤ P.time) :
    (B = [] ∧ pickM P.a n = (false, P.a)) ∨ ∃ d B' st, B = d :: B' ∧ pickM P.a n = doM P.a n ⟨B'.map (fun d => textT d.q), (P.a.ss n).nx, []⟩ st ∧ stOf (askZ d.q) st ∧ (d.fr = 0 → isFirst st) ∧ ((P.a.ss n).nx = some st ∨ ((P.a.ss n).nx = none ∧ isFirst st)) ∧ 0 ≤ d.fr ∧ d.fr ≤ P.time ∧ (∀ x ∈ B', x.fr = 0) := by
  cases hx : (P.a.ss n).nx with
  | none =>
    obtain ⟨h1, h2⟩ := hS.idle hx
    cases B with
    | nil =>
      left
      refine ⟨rfl, ?_⟩
      unfold pickM
      rw [hx, h1]
      rfl
    | cons d B' =>
      right
      have ht := (hS.opn d (by simp))
      refine ⟨d, B', firstS (readP (textT d.q)), rfl, ?_, by rw [readP_text]; exact stOf_first _, fun _ => ?_, .inr ⟨rfl, ?_⟩, by rw [h2 d (by simp)]; exact Int.le_refl 0, ?_, fun x hx => h2 x (by simp [hx])⟩
      · unfold pickM
        rw [hx, h1]
        show doM P.a n { P.a.ss n with q := B'.map fun d => textT d.q } _ = _
        have : ({ P.a.ss n with q := B'.map fun d => textT d.q } : Ses) = ⟨B'.map (fun d => textT d.q), none, []⟩ := by
          show (⟨B'.map fun d => textT d.q, (P.a.ss n).nx, (P.a.ss n).an⟩ : Ses) = _
          rw [hx, han]
        rw [this]
      · cases readP (textT d.q) <;> trivial
      · cases readP (textT d.q) <;> trivial
      · rw [h2 d (by simp)]; exact hT
  | some st =>
    right
    obtain ⟨d, B', b1, b2, b3, b4, b5, b6, b7⟩ := hS.busy st hx
    refine ⟨d, B', st, b1, ?_, b3, fun e => ?_, .inl rfl, b5, b6, b7⟩
    · unfold pickM
      rw [hx]
      show doM P.a n (P.a.ss n) st = _
      have : P.a.ss n = ⟨B'.map (fun d => textT d.q), some st, []⟩ := by
        rw [← b2, ← hx, ← han]
      rw [this]
    · have := b4 e
      cases st <;> first | trivial | exact this.elim

theorem pick_list {P : Pl} {n : Nat} {A B' : List Dn} {d : Dn} {did : Bool} {g' : Gr} {s' : Ses} (hp : pickM P.a n = (did, P.a.set g' n s')) (hA : P.all n = A ++ d :: B') (hdone : ∀ x ∈ A, 0 < x.un) (hd : d.un = 0) :
    PickL P n A d B' (updOne did (P.time + 1) s'.an.head? d) (pickP P n) ∧ (pickP P n).a = P.a.set g' n { s' with an := [] } := by
  have ha : (pickP P n).a = P.a.set g' n { s' with an := [] } := turn_set hp
  refine ⟨⟨?_, fun k hk => ?_, fun k hk => ?_, rfl, rfl⟩, ha⟩
  · show (if n = n then updD (pickM P.a n).1 (P.time + 1) ((pickM P.a n).2.ss n).an.head? (P.all n) else P.all n) = _
    rw [if_pos rfl, hp, hA, set_at, updD_app hdone, updD_head hd]
  · show (if k = n then _ else P.all k) = _
    rw [if_neg hk]
  · rw [ha, set_ss, if_neg hk]
theorem ev_at {P : Pl} {H : List Ev} (h : Lin P H) {n : Nat} {A B' : List Dn} {d : Dn} (hA : P.all n = A ++ d :: B') (hdone : ∀ x ∈ A, 0 < x.un) (hB : ∀ x ∈ B', x.fr = 0) {e : Ev} (he : e ∈ H) (en : e.n = n) {x : Dn} (hx : (P.all e.n)[e.i]? = some x) (hu : x.un = 0) : e.i = A.length := by
  obtain ⟨_, _, y, hy, y0, _⟩ := h.ok e he
  rw [hx] at hy
  obtain rfl := Option.some.inj hy
  rw [en, hA] at hx
  by_cases h1 : e.i < A.length
  · rw [List.getElem?_append_left h1] at hx
    have := hdone x (List.mem_of_getElem? hx)
    omega
  · by_cases h2 : e.i = A.length
    · exact h2
    · rw [List.getElem?_append_right (by omega)] at hx
      obtain ⟨j, hj⟩ : ∃ j, e.i - A.length = j + 1 := ⟨e.i - A.length - 1, by omega⟩
      rw [hj] at hx
      have := hB x (List.mem_of_getElem? (by simpa using hx))
      omega
theorem rep_keep {P Q : Pl} {H : List Ev} (h : Lin P H) {n : Nat} {A B' : List Dn} {d d' : Dn} (hA : P.all n = A ++ d :: B') (hdone : ∀ x ∈ A, 0 < x.un) (hd : d.un = 0) (hB : ∀ x ∈ B', x.fr = 0) (hp : PickL P n A d B' d' Q)
    (hq : ∀ fs, (∃ t m ag, (P.a.ss n).nx = some (.draw t m ag fs) ∧ askZ d.q = .get t m) → 0 < d'.un ∧ d'.an = ansR fs (askZ d.q)) : Rep Q [] H P.a.g.fs := by
  refine Rep.other h.rep fun e he x hx => ?_
  by_cases en : e.n = n
  · by_cases ei : e.i = A.length
    · have ex : x = d := by
        rw [en, ei, hA, List.getElem?_append_right (Nat.le_refl _)] at hx
        simpa using hx.symm
      refine ⟨d', by rw [en, ei, hp.alln, List.getElem?_append_right (Nat.le_refl _)]; simp, by rw [hp.q, ex], fun fs c1 c2 => ?_⟩
      rw [ex] at c2
      rw [en] at c2
      obtain ⟨q1, q2⟩ := hq fs (c2 hd)
      exact ⟨fun _ => by rw [hp.q]; exact q2, fun hu => by omega⟩
    · refine ⟨x, ?_, rfl, fun fs c1 c2 => ⟨c1, fun hu => absurd (ev_at h hA hdone hB he en hx hu) ei⟩⟩
      rw [en, hp.alln]
      rw [en, hA] at hx
      by_cases h1 : e.i < A.length
      · rw [List.getElem?_append_left h1] at hx ⊢; exact hx
      · rw [List.getElem?_append_right (by omega)] at hx ⊢
        obtain ⟨j, hj⟩ : ∃ j, e.i - A.length = j + 1 := ⟨e.i - A.length - 1, by omega⟩
        rw [hj] at hx ⊢
        simpa using hx
  · exact ⟨x, by rw [hp.oth _ en]; exact hx, rfl, fun fs c1 c2 => ⟨c1, fun hu => by rw [hp.ss _ en]; exact c2 hu⟩⟩
/-- No event is of a request that is open, unless it is drawn. -/
theorem ev_none {P : Pl} {H : List Ev} (h : Lin P H) {n : Nat} {A B' : List Dn} {d : Dn} (hA : P.all n = A ++ d :: B') (hd : d.un = 0) (hnd : ¬ isDraw (P.a.ss n).nx) : ∀ e ∈ H, e.n ≠ n ∨ e.i ≠ A.length := by
  intro e he
  by_cases en : e.n = n
  · by_cases ei : e.i = A.length
    · obtain ⟨x, hx, hy⟩ := rep_mem h.rep e he
      have ex : x = d := by
        rw [en, ei, hA, List.getElem?_append_right (Nat.le_refl _)] at hx
        simpa using hx.symm
      rw [ex, en] at hy
      exact absurd (hy hd) hnd
    · exact .inr ei
  · exact .inl en
/-- A pick that finds its session's step blocked. -/
theorem lin_blocked {P : Pl} {H : List Ev} (h : Lin P H) {n : Nat} (hn : n < 4) {A B' : List Dn} {d : Dn} {st : Stp} (hA : P.all n = A ++ d :: B') (hS : SesL (P.a.ss n) A (d :: B') P.time) (hB : ∀ x ∈ B', x.fr = 0) (hf0 : 0 ≤ d.fr) (hf1 : d.fr ≤ P.time)
    (hp : pickM P.a n = (false, P.a.set P.a.g n ⟨B'.map (fun d => textT d.q), some st, []⟩)) (hst : stOf (askZ d.q) st) (hl : d.fr = 0 → isLock st) (hnd : ¬ isDraw (P.a.ss n).nx) (hnd' : ¬ isDraw (some st)) : Lin (pickP P n) H := by
  have hd : d.un = 0 := hS.opn d (by simp)
  obtain ⟨hL, ha⟩ := pick_list hp hA hS.done hd
  have e0 : updOne false (P.time + 1) (([] : List ByteArray).head?) d = d := updOne_still _ _
  rw [e0] at hL
  refine lin_pick h hn hA hS hL (.inl rfl) (.inl rfl) ⟨A, d :: B', hL.alln, ?_, fun hx => ?_⟩ (fun e he en ei => ?_) (fun e => ?_) (fun hu => by omega) ?_
  · rw [ha, set_at, hL.time]
    refine ⟨hS.done, hS.opn, fun e => (by cases e), fun st' e => ?_⟩
    obtain rfl : st = st' := by simpa using e
    exact ⟨d, B', rfl, rfl, hst, hl, hf0, by omega, hB⟩
  · rw [ha, set_at] at hx; exact absurd hx hnd'
  · rcases ev_none h hA hd hnd e he with h1 | h1
    · exact absurd en h1
    · exact absurd ei h1
  · have := congrArg List.length e; simp at this
  · rw [ha, set_g]
    exact rep_keep h hA hS.done hd hB hL fun fs ⟨t, m, ag, e, _⟩ => absurd (by rw [e]; trivial) hnd
/-- A pick that goes on. -/
theorem lin_next {P : Pl} {H : List Ev} (h : Lin P H) (hT : 0 ≤ P.time) {n : Nat} (hn : n < 4) {A B' : List Dn} {d : Dn} {st : Stp} {g' : Gr} (hA : P.all n = A ++ d :: B') (hS : SesL (P.a.ss n) A (d :: B') P.time) (hB : ∀ x ∈ B', x.fr = 0) (hf0 : 0 ≤ d.fr) (hf1 : d.fr ≤ P.time)
    (hp : pickM P.a n = (true, P.a.set g' n ⟨B'.map (fun d => textT d.q), some st, []⟩)) (hg : g'.fs = P.a.g.fs) (hst : stOf (askZ d.q) st) (hnd : ¬ isDraw (P.a.ss n).nx) (hw : ¬ isDraw (some st) ∨ ∃ t m ag, st = .draw t m ag P.a.g.fs ∧ askZ d.q = .get t m) : ∃ H', Lin (pickP P n) H' := by
  have hd : d.un = 0 := hS.opn d (by simp)
  obtain ⟨hL, ha⟩ := pick_list hp hA hS.done hd
  obtain ⟨d', hd'⟩ : ∃ x, updOne true (P.time + 1) (([] : List ByteArray).head?) d = x := ⟨_, rfl⟩
  have u1 : d'.un = 0 := by rw [← hd']; exact hd
  have u2 : d'.fr = if d.fr = 0 then P.time + 1 else d.fr := by rw [← hd']; simp [updOne]
  have u3 : 0 < d'.fr ∧ d'.fr ≤ P.time + 1 := by rw [u2]; split <;> omega
  have u4 : d'.fr = d.fr ∨ d.fr = 0 := by
    rw [u2]; split
    · exact .inr (by assumption)
    · exact .inl rfl
  change PickL P n A d B' (updOne true (P.time + 1) (([] : List ByteArray).head?) d) (pickP P n) at hL
  rw [hd'] at hL
  have hses : ∀ H' : List Ev, (isDraw (some st) → ∃ e ∈ H', e.n = n ∧ e.i = A.length) → ∃ A' B'', (pickP P n).all n = A' ++ B'' ∧ SesL ((pickP P n).a.ss n) A' B'' (pickP P n).time ∧ (isDraw ((pickP P n).a.ss n).nx → ∃ e ∈ H', e.n = n ∧ e.i = A'.length) := fun H' hH => by
    refine ⟨A, d' :: B', hL.alln, ?_, fun hx => ?_⟩
    · rw [ha, set_at, hL.time]
      refine ⟨hS.done, fun x hx => ?_, fun e => (by cases e), fun st' e => ?_⟩
      · rcases List.mem_cons.1 hx with rfl | hx
        · exact u1
        · exact hS.opn x (by simp [hx])
      · obtain rfl : st = st' := by simpa using e
        exact ⟨d', B', rfl, rfl, by rw [hL.q]; exact hst, fun e => by omega, by omega, by omega, hB⟩
    · rw [ha, set_at] at hx; exact hH hx
  have hno := ev_none h hA hd hnd
  have hrk : Rep (pickP P n) [] H P.a.g.fs := rep_keep h hA hS.done hd hB hL fun fs ⟨t, m, ag, e, _⟩ => absurd (by rw [e]; trivial) hnd
  rcases hw with hw | ⟨t, m, ag, rfl, hq⟩
  · refine ⟨H, lin_pick h hn hA hS hL u4 (.inl rfl) (hses H fun e => absurd e hw) (fun e he en ei => ?_) (fun e => ?_) (fun hu => by omega) ?_⟩
    · rcases hno e he with h1 | h1
      · exact absurd en h1
      · exact absurd ei h1
    · have := congrArg List.length e; simp at this
    · rw [ha, set_g, hg]; exact hrk
  · refine ⟨H ++ [⟨n, A.length, P.time + 1⟩], lin_pick h hn hA hS hL u4 (.inr rfl) (hses _ fun _ => ⟨⟨n, A.length, P.time + 1⟩, by simp, rfl, rfl⟩) (fun e he en ei => ?_) (fun _ => hno) (fun hu => by omega) ?_⟩
    · rcases List.mem_append.1 he with he | he
      · rcases hno e he with h1 | h1
        · exact absurd en h1
        · exact absurd ei h1
      · rw [List.mem_singleton.1 he]
        exact ⟨u3.1, u3.2, fun hu => by omega⟩
    · have := Rep.snoc hrk (e := ⟨n, A.length, P.time + 1⟩) (d := d') (by show ((pickP P n).all n)[A.length]? = _; rw [hL.alln, List.getElem?_append_right (Nat.le_refl _)]; simp) (fun hu => by omega) (fun _ => ⟨t, m, ag, by show ((pickP P n).a.ss n).nx = _; rw [ha, set_at], by rw [hL.q]; exact hq⟩)
      rw [hL.q, hq] at this
      rw [ha, set_g, hg]
      exact this
/-- A pick that answers. -/
theorem lin_answer {P : Pl} {H : List Ev} (h : Lin P H) (hT : 0 ≤ P.time) {n : Nat} (hn : n < 4) {A B' : List Dn} {d : Dn} {x : ByteArray} {g' : Gr} (hA : P.all n = A ++ d :: B') (hS : SesL (P.a.ss n) A (d :: B') P.time) (hB : ∀ x ∈ B', x.fr = 0) (hf0 : 0 ≤ d.fr) (hf1 : d.fr ≤ P.time)
    (hp : pickM P.a n = (true, P.a.set g' n ⟨B'.map (fun d => textT d.q), none, [x]⟩))
    (hw : (¬ isDraw (P.a.ss n).nx ∧ x = ansR P.a.g.fs (askZ d.q) ∧ g'.fs = fsR P.a.g.fs (askZ d.q)) ∨ ∃ t m ag fs, (P.a.ss n).nx = some (.draw t m ag fs) ∧ askZ d.q = .get t m ∧ x = tellS m (bodyF fs t) ∧ g'.fs = P.a.g.fs) : ∃ H', Lin (pickP P n) H' := by
  have hd : d.un = 0 := hS.opn d (by simp)
  obtain ⟨hL, ha⟩ := pick_list hp hA hS.done hd
  obtain ⟨d', hd'⟩ : ∃ y, updOne true (P.time + 1) (([x] : List ByteArray).head?) d = y := ⟨_, rfl⟩
  have u1 : d'.un = P.time + 1 := by rw [← hd']; rfl
  have u0 : d'.an = x := by rw [← hd']; rfl
  have u2 : d'.fr = if d.fr = 0 then P.time + 1 else d.fr := by rw [← hd']; simp [updOne]
  have u3 : 0 < d'.fr ∧ d'.fr ≤ P.time + 1 := by rw [u2]; split <;> omega
  have u4 : d'.fr = d.fr ∨ d.fr = 0 := by
    rw [u2]; split
    · exact .inr (by assumption)
    · exact .inl rfl
  change PickL P n A d B' (updOne true (P.time + 1) (([x] : List ByteArray).head?) d) (pickP P n) at hL
  rw [hd'] at hL
  have hat : ((pickP P n).all n)[A.length]? = some d' := by rw [hL.alln, List.getElem?_append_right (Nat.le_refl _)]; simp
  have hses : ∀ H' : List Ev, ∃ A' B'', (pickP P n).all n = A' ++ B'' ∧ SesL ((pickP P n).a.ss n) A' B'' (pickP P n).time ∧ (isDraw ((pickP P n).a.ss n).nx → ∃ e ∈ H', e.n = n ∧ e.i = A'.length) := fun H' => by
    refine ⟨A ++ [d'], B', by rw [hL.alln]; simp, ?_, fun hx => ?_⟩
    · rw [ha, set_at]
      refine ⟨fun y hy => ?_, fun y hy => hS.opn y (by simp [hy]), fun _ => ⟨rfl, hB⟩, fun st e => (by cases e)⟩
      rcases List.mem_append.1 hy with hy | hy
      · exact hS.done y hy
      · rw [List.mem_singleton.1 hy]; omega
    · rw [ha, set_at] at hx; exact hx.elim
  rcases hw with ⟨hnd, hx, hg⟩ | ⟨t, m, ag, fs, hdr, hq, hx, hg⟩
  · have hno := ev_none h hA hd hnd
    have hrk : Rep (pickP P n) [] H P.a.g.fs := rep_keep h hA hS.done hd hB hL fun fs ⟨t, m, ag, e, _⟩ => absurd (by rw [e]; trivial) hnd
    refine ⟨H ++ [⟨n, A.length, P.time + 1⟩], lin_pick h hn hA hS hL u4 (.inr rfl) (hses _) (fun e he en ei => ?_) (fun _ => hno) (fun hu => ⟨⟨n, A.length, P.time + 1⟩, by simp, rfl, rfl⟩) ?_⟩
    · rcases List.mem_append.1 he with he | he
      · rcases hno e he with h1 | h1
        · exact absurd en h1
        · exact absurd ei h1
      · rw [List.mem_singleton.1 he]
        exact ⟨u3.1, u3.2, fun hu => by show P.time + 1 ≤ d'.un; omega⟩
    · have := Rep.snoc hrk (e := ⟨n, A.length, P.time + 1⟩) (d := d') hat (fun _ => by rw [u0, hL.q]; exact hx) (fun hu => by omega)
      rw [hL.q] at this
      rw [ha, set_g, hg]
      exact this
  · obtain ⟨A1, B1, e1, e2, e3⟩ := h.ses n hn
    have eA : A1.length = A.length := by
      obtain ⟨y, B2, b1, _⟩ := e2.busy _ hdr
      subst b1
      rw [hA] at e1
      by_cases l1 : A1.length < A.length
      · have g1 : (A ++ d :: B')[A1.length]? = some y := by rw [e1, List.getElem?_append_right (Nat.le_refl _)]; simp
        rw [List.getElem?_append_left l1] at g1
        have := hS.done y (List.mem_of_getElem? g1)
        have := e2.opn y (by simp)
        omega
      · by_cases l2 : A.length < A1.length
        · have g1 : (A1 ++ y :: B2)[A.length]? = some d := by rw [← e1, List.getElem?_append_right (Nat.le_refl _)]; simp
          rw [List.getElem?_append_left l2] at g1
          have := e2.done d (List.mem_of_getElem? g1)
          omega
        · omega
    obtain ⟨ev, hev, en, ei⟩ := e3 (by rw [hdr]; trivial)
    rw [eA] at ei
    refine ⟨H, lin_pick h hn hA hS hL u4 (.inl rfl) (hses _) (fun e he en ei => ?_) (fun e => ?_) (fun hu => ⟨ev, hev, en, ei⟩) ?_⟩
    · obtain ⟨_, a2, y, a3, a4, a5, _⟩ := h.ok e he
      have ey : y = d := by
        rw [en, ei, hA, List.getElem?_append_right (Nat.le_refl _)] at a3
        simpa using a3.symm
      rw [ey] at a4 a5
      refine ⟨u3.1, ?_, fun _ => by omega⟩
      rw [u2, if_neg (by omega)]
      exact a5
    · have := congrArg List.length e; simp at this
    · rw [ha, set_g, hg]
      refine rep_keep h hA hS.done hd hB hL fun fs' ⟨t', m', ag', e, e'⟩ => ⟨by omega, ?_⟩
      rw [hdr] at e
      obtain ⟨rfl, rfl, rfl, rfl⟩ : t = t' ∧ m = m' ∧ ag = ag' ∧ fs = fs' := by simpa using e
      rw [u0, hx, hq]
      rfl
end Go.Proofs.YtenaepdmlknlcaaGreatDoor

namespace Go.Proofs.YtenaepdmlknlcaaGreatDoor
open Go.RowKit Go.Shelf

theorem stOf_lock {r : Rd} {id : Int} {p : Option Feat} (h : stOf r (.lock id p)) (z : Nat) : stOf r (.forget id p z) := by
  cases r with
  | bad => cases h
  | get t m => rcases h with h | ⟨_, h⟩ | ⟨_, _, h⟩ <;> cases h
  | put f =>
    rcases h with h | ⟨_, h⟩ | h
    · cases h; exact .inr (.inl ⟨z, rfl⟩)
    · cases h
    · cases h
  | del i =>
    rcases h with h | ⟨_, h⟩ | h
    · cases h; exact .inr (.inl ⟨z, rfl⟩)
    · cases h
    · cases h
theorem stOf_forget {r : Rd} {id : Int} {p : Option Feat} {z : Nat} (h : stOf r (.forget id p z)) (z' : Nat) : stOf r (.forget id p z') ∧ stOf r (.finish id p) := by
  cases r with
  | bad => cases h
  | get t m => rcases h with h | ⟨_, h⟩ | ⟨_, _, h⟩ <;> cases h
  | put f =>
    rcases h with h | ⟨_, h⟩ | h
    · cases h
    · cases h; exact ⟨.inr (.inl ⟨z', rfl⟩), .inr (.inr rfl)⟩
    · cases h
  | del i =>
    rcases h with h | ⟨_, h⟩ | h
    · cases h
    · cases h; exact ⟨.inr (.inl ⟨z', rfl⟩), .inr (.inr rfl)⟩
    · cases h
theorem stOf_finish {r : Rd} {id : Int} {p : Option Feat} (h : stOf r (.finish id p)) (fs : List Feat) : ansF (hasF id fs) p = ansR fs r ∧ (fs.filter fun f => !(f.id == id)) ++ p.toList = fsR fs r := by
  cases r with
  | bad => cases h
  | get t m => rcases h with h | ⟨_, h⟩ | ⟨_, _, h⟩ <;> cases h
  | put f =>
    rcases h with h | ⟨_, h⟩ | h
    · cases h
    · cases h
    · cases h; exact ⟨rfl, rfl⟩
  | del i =>
    rcases h with h | ⟨_, h⟩ | h
    · cases h
    · cases h
    · cases h; exact ⟨rfl, rfl⟩
theorem stOf_get {r : Rd} {t : Tl} {m : ByteArray} (h : stOf r (.look t m) ∨ (∃ ag, stOf r (.note t m ag)) ∨ ∃ ag fs, stOf r (.draw t m ag fs)) : r = .get t m := by
  cases r with
  | bad => rcases h with h | ⟨_, h⟩ | ⟨_, _, h⟩ <;> cases h
  | get t' m' =>
    rcases h with h | ⟨_, h⟩ | ⟨_, _, h⟩
    · rcases h with h | ⟨_, h⟩ | ⟨_, _, h⟩ <;> cases h; rfl
    · rcases h with h | ⟨_, h⟩ | ⟨_, _, h⟩ <;> cases h; rfl
    · rcases h with h | ⟨_, h⟩ | ⟨_, _, h⟩ <;> cases h; rfl
  | put f => rcases h with h | ⟨_, h⟩ | ⟨_, _, h⟩ <;> (rcases h with h | ⟨_, h⟩ | h <;> cases h)
  | del i => rcases h with h | ⟨_, h⟩ | ⟨_, _, h⟩ <;> (rcases h with h | ⟨_, h⟩ | h <;> cases h)
/-- The row goes on, whatever a pick finds. -/
theorem lin_pickP {P : Pl} {H : List Ev} (h : Lin P H) (hT : 0 ≤ P.time) (hk : KeptOk P.a.g) (han : ∀ n, n < 4 → (P.a.ss n).an = []) {n : Nat} (hn : n < 4) : ∃ H', Lin (pickP P n) H' := by
  obtain ⟨A, B, hA, hS, _⟩ := h.ses n hn
  rcases cur_of hS (han n hn) hT with ⟨rfl, hp⟩ | ⟨d, B', st, rfl, hp, hst, hf, hnx, hf0, hf1, hB⟩
  · rw [List.append_nil] at hA
    refine ⟨H, lin_same h (fun k => ?_) (fun k => ?_) (fun k => ?_) ?_ (by show P.time ≤ P.time + 1; omega)⟩
    · show (if k = n then updD (pickM P.a n).1 (P.time + 1) ((pickM P.a n).2.ss n).an.head? (P.all n) else P.all k) = _
      split
      · rename_i e
        rw [hA, updD_done hS.done, e, hA]
      · rfl
    · show ((turnM P.a n).ss k).q = _
      unfold turnM; rw [hp, tell_q]
    · show ((turnM P.a n).ss k).nx = _
      unfold turnM; rw [hp, tell_nx]
    · show (turnM P.a n).g.fs = _
      unfold turnM; rw [hp]; rfl
  · have hblk : ∀ g', stepM P.a.g st = (.blocked, g') → pickM P.a n = (false, P.a.set P.a.g n ⟨B'.map (fun d => textT d.q), some st, []⟩) := fun g' e => by rw [hp]; unfold doM; rw [e]
    have hnxt : ∀ st' g', stepM P.a.g st = (.next st', g') → pickM P.a n = (true, P.a.set g' n ⟨B'.map (fun d => textT d.q), some st', []⟩) := fun st' g' e => by rw [hp]; unfold doM; rw [e]
    have hans : ∀ x g', stepM P.a.g st = (.answer x, g') → pickM P.a n = (true, P.a.set g' n ⟨B'.map (fun d => textT d.q), none, [x]⟩) := fun x g' e => by rw [hp]; unfold doM; rw [e]; rfl
    have hnd : ¬ isDraw (some st) → ¬ isDraw (P.a.ss n).nx := fun hs => by
      rcases hnx with e | ⟨e, _⟩
      · rw [e]; exact hs
      · rw [e]; exact id
    cases st with
    | bad =>
      exfalso
      cases hq : askZ d.q with
      | bad => exact askZ_good _ hq
      | get t m => rw [hq] at hst; rcases hst with h | ⟨_, h⟩ | ⟨_, _, h⟩ <;> cases h
      | put f => rw [hq] at hst; rcases hst with h | ⟨_, h⟩ | h <;> cases h
      | del i => rw [hq] at hst; rcases hst with h | ⟨_, h⟩ | h <;> cases h
    | look t m =>
      have hq := stOf_get (.inl hst)
      cases e : useK t (P.a.g.S.ks (shN t)) with
      | none =>
        exact lin_next h hT hn hA hS hB hf0 hf1 (hnxt _ _ (stepM_look0 e)) rfl (by rw [hq]; exact .inr (.inl ⟨_, rfl⟩)) (hnd id) (.inl id)
      | some y =>
        obtain ⟨b, ks⟩ := y
        have hm := (use_uniq (hk.u (shN t) (shN_lt t)) e).2.2
        have hb := hk.b (shN t) _ (shN_lt t) hm
        dsimp only at hb
        refine lin_answer h hT hn hA hS hB hf0 hf1 (hans _ _ (by show stepM _ (.look t m) = _; unfold stepM; dsimp only; rw [e])) (.inl ⟨hnd id, ?_, ?_⟩)
        · rw [hq, hb]; rfl
        · rw [hq]; rfl
    | note t m ag =>
      have hq := stOf_get (.inr (.inl ⟨_, hst⟩))
      cases hl : P.a.g.lk with
      | true => exact ⟨H, lin_blocked h hn hA hS hB hf0 hf1 (hblk P.a.g (by unfold stepM; dsimp only; rw [if_pos hl])) hst (fun e => by have := hf e; exact this.elim) (hnd id) id⟩
      | false => exact lin_next h hT hn hA hS hB hf0 hf1 (hnxt _ _ (stepM_note1 hl)) rfl (by rw [hq]; exact .inr (.inr ⟨_, _, rfl⟩)) (hnd id) (.inr ⟨t, m, ag, rfl, hq⟩)
    | draw t m ag fs =>
      have hq := stOf_get (.inr (.inr ⟨_, _, hst⟩))
      have hn' : (P.a.ss n).nx = some (.draw t m ag fs) := hnx.elim id (fun e => e.2.elim)
      exact lin_answer h hT hn hA hS hB hf0 hf1 (hans _ _ rfl) (.inr ⟨t, m, ag, fs, hn', hq, rfl, by split <;> rfl⟩)
    | lock id p =>
      cases hl : P.a.g.lk with
      | true => exact ⟨H, lin_blocked h hn hA hS hB hf0 hf1 (hblk P.a.g (by unfold stepM; dsimp only; rw [if_pos hl])) hst (fun _ => trivial) (hnd fun e => e) fun e => e⟩
      | false => exact lin_next h hT hn hA hS hB hf0 hf1 (hnxt _ _ (stepM_lock1 hl)) rfl (stOf_lock hst 0) (hnd fun e => e) (.inl fun e => e)
    | forget id p z =>
      refine lin_next h hT hn hA hS hB hf0 hf1 (hnxt _ _ rfl) rfl ?_ (hnd fun e => e) (.inl ?_)
      · split
        · exact (stOf_forget hst 0).2
        · exact (stOf_forget hst _).1
      · split <;> exact fun e => e
    | finish id p =>
      obtain ⟨f1, f2⟩ := stOf_finish hst P.a.g.fs
      exact lin_answer h hT hn hA hS hB hf0 hf1 (hans _ _ rfl) (.inl ⟨hnd fun e => e, f1, f2⟩)
end Go.Proofs.YtenaepdmlknlcaaGreatDoor
