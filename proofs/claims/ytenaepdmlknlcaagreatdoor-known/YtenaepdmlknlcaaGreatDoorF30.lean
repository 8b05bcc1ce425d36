import Derived.Test.YtenaepdmlknlcaaGreatDoorF29
import Derived.Test.YtenaepdmlknlcaaGreatDoorF20
import Derived.Test.YtenaepdmlknlcaaGreatDoorF26
import Derived.Test.YtenaepdmlknlcaaGreatDoorF27
namespace Go.Proofs.YtenaepdmlknlcaaGreatDoor
open Go.RowKit Go.Shelf

/-- A request leaves the queue, to be worked at. -/
theorem begin_model {w : World} {A : Nat} {x : Wit} {a : Atl} (h : AtlasAt w A x a) {n : Nat} (hn : n < 4) (hnx : (a.ss n).nx = none) {t : ByteArray} {q : List ByteArray} (hq : (a.ss n).q = t :: q) :
    Calls Tryz.prog 119 #[.pointer (some ⟨A, 11 + n * 3, none⟩)] w fun e w' => e = .returned (.bool true) ∧ ∃ y, AtlasAt w' A y (a.set a.g n { a.ss n with q := q, nx := some (firstS (readP t)) }) ∧ Ext A w x y ∧ Fr (OwnM A x) w w' ∧ y.av n = x.av n := by
  have hA := h.A8
  have hs := h.ses n hn
  have hok := h.ok.ss n hn
  have hnv : x.nv n = .nilFunc := by have := hs.nx; rw [hnx] at this; exact this
  have hch := hs.q.ch
  have h1 := hs.q.c1
  rw [hnv] at h1
  rw [hq] at hch
  have hcb := h.ownI (n + 5) (x.cb n) (by omega) (own_ch x A n hn)
  refine (begin_some A (11 + n * 3) (x.cb n) 6 (x.sn n) (x.rn n) _ t (hok.q t (by rw [hq]; simp)) w h.gl hcb.2.1 hs.q.c0 h1 hs.f1 hch (by simp) (by simp)).mono ?_
  rintro e w' ⟨rfl, f, b, c1, f1, hfv, hch', hf⟩
  refine ⟨rfl, ?_⟩
  have hne : x.cb n ≠ A := fun e => h.apart 0 (n + 5) A (by omega) (by omega) (by omega) (own_A x A) (by rw [own_ch x A n hn, e])
  have hF : Fr (SM A x n) w w' := hf.mono fun b i e => by
    rcases e with ⟨rfl, _⟩ | ⟨rfl, e⟩
    · exact .inr (.inl rfl)
    · exact .inl ⟨rfl, by omega, by omega⟩
  have hw : waitS { a.ss n with q := q, nx := some (firstS (readP t)) } ≤ 6 := by
    have := hok.w
    rw [waitS_eq] at this ⊢
    rw [hnx, hq] at this
    show q.length + 1 ≤ 6
    simp [busyS] at this
    omega
  have hext : Array.extract ((List.map Value.string (t :: q)).toArray) 1 ((List.map Value.string (t :: q)).toArray).size = (q.map .string).toArray := by
    simp
    exact List.take_of_length_le (by simp)
  rw [hext] at hch'
  refine ⟨x.ses n (okN x.I w.heap.size w'.heap.size) (x.av n) (.func f b #[]) (x.sn n) (x.rn n + 1), h.session hn (s' := { a.ss n with q := q, nx := some (firstS (readP t)) }) ⟨fun y hy => hok.q y (by rw [hq]; exact List.mem_cons_of_mem _ hy), hw, fun s e => (by cases e; exact firstS_ok (readP_ok t)), hok.an⟩ hF ⟨⟨?_, ?_, ?_, ?_, .inr ⟨f, b, ?_⟩⟩, f1, ?_, ?_⟩ (fun _ h => .inl h) (fun b' hb => ?_) (fun b' hb => ⟨?_, .inl hb⟩), Ext.ses (fun _ h => h.imp _root_.id (fun e => e.1)) (fun _ h => .inl h), hF.mono fun b i e => SM.own hn e, updN_same _ _ _⟩
  · exact (hf.cell A _ hA.2 (fun e => by rcases e with ⟨e, _⟩ | ⟨_, e⟩; exact hne e.symm; omega)).trans hs.q.c0
  · show _ = some (updN x.nv n _ n)
    rw [updN_same]
    exact c1
  · show _ = some (Obj.chan 6 _ false (updN x.sn n _ n) (updN x.rn n _ n) false)
    rw [updN_same, updN_same]
    exact hch'
  · have := hok.w
    rw [waitS_eq, hq] at this
    simp at this ⊢
    omega
  · show updN x.nv n _ n = _
    rw [updN_same]
  · show NxAt (okN x.I w.heap.size w'.heap.size) _ (some (firstS (readP t))) (updN x.nv n _ n)
    rw [updN_same]
    exact first_at hfv (readP_ok t)
  · show AnsAt _ A _ (updN x.av n _ n) _
    rw [updN_same]
    refine hs.an.fr hf (fun e => ?_) (fun g i e e' => ?_)
    · rcases e with ⟨e, _⟩ | ⟨_, e⟩
      · exact hne e.symm
      · omega
    · rcases e' with ⟨rfl, _⟩ | ⟨rfl, _⟩
      · exact h.apart (n + 5) (n + 9) _ (by omega) (by omega) (by omega) (own_ch x A n hn) (by rw [own_an]; exact e)
      · exact hs.an.ne e
  · rcases hb with hb | hb
    · exact .inl hb
    · refine .inr ⟨hb.1, hb.2, fun e => ?_⟩
      have := (h.ownI (n + 9) b' (by omega) (by rw [own_an]; exact e)).2.2
      omega
  · have := (h.ownI (n + 9) b' (by omega) (by rw [own_an]; exact hb)).2.2
    exact Nat.lt_of_lt_of_le this hF.size

/-- What a pick leaves. -/
def PickPost (A : Nat) (x : Wit) (r : Bool × Atl) (w : World) (e : Ending) (w' : World) : Prop :=
  e = .returned (.bool r.1) ∧ ∃ y, AtlasAt w' A y r.2 ∧ Ext A w x y ∧ Fr (OwnM A x) w w'

theorem set_same (a : Atl) (n : Nat) : a.set a.g n (a.ss n) = a := by
  cases a with
  | mk g ss =>
    show Atl.mk g (fun k => if k = n then ss n else ss k) = Atl.mk g ss
    congr 1
    funext k
    by_cases h : k = n
    · rw [if_pos h, h]
    · rw [if_neg h]
theorem set_set (a : Atl) (g g' : Gr) (n : Nat) (s s' : Ses) : ({ a.set g n s with g := g' } : Atl).set g' n s' = a.set g' n s' := by
  show Atl.mk g' _ = Atl.mk g' _
  congr 1
  funext k
  by_cases h : k = n
  · rw [if_pos h, if_pos h]
  · rw [if_neg h, if_neg h]
    show (if k = n then s else a.ss k) = _
    rw [if_neg h]
/-- A step of a session whose request has come to st, in the world in which that is noted. -/
theorem do_model {w : World} {A : Nat} {x : Wit} {a : Atl} (h : AtlasAt w A x a) {n : Nat} (hn : n < 4) {st : Stp} (hnx : (a.ss n).nx = some st) (han : (a.ss n).an.length + 1 ≤ 4000000) :
    Calls Tryz.prog 77 #[.pointer (some ⟨A, 11 + n * 3, none⟩), .pointer (some ⟨A, 0, none⟩)] w (PickPost A x (doM a n (a.ss n) st) w) := by
  have hs := h.ses n hn
  have hst : StpOk st := (h.ok.ss n hn).nx st hnx
  have hv : StpAt x.I w st (x.nv n) := by have := hs.nx; rw [hnx] at this; exact this
  obtain ⟨f, b, hfb, hE⟩ := hv.fn
  rw [hfb] at hv
  have hc : w.cell? ⟨A, 11 + n * 3 + 1, none⟩ = some (.func (.func f) b #[]) := by rw [← hfb]; exact hs.q.c1
  have hC := step_any h hst hv
  have hok2 := (stepM_ok h.ok.g hst).2
  have hsame : { a.ss n with nx := some st } = a.ss n := by
    cases e : a.ss n with
    | mk q nx an => rw [e] at hnx; simp only at hnx; rw [hnx]
  unfold doM
  generalize stepM a.g st = r at hC hok2
  obtain ⟨res, g⟩ := r
  cases res with
  | blocked =>
    refine (pick_blocked A (11 + n * 3) 0 f b w h.A8.2 hc hE (hC.mono fun e w' hp => hp)).mono ?_
    rintro e w' ⟨rfl, hb⟩
    refine ⟨rfl, x, ?_, Ext.refl A w x, Fr.of_below hb⟩
    show AtlasAt w' A x (a.set a.g n { a.ss n with nx := some st })
    rw [hsame, set_same]
    exact h.below hb
  | next st' =>
    refine (pick_then2 A (11 + n * 3) 0 f b (fun f' b' w1 => ∃ I1 sv1, StpAt I1 w1 st' (.func f' b' #[]) ∧ StepOut A x a g w w1 I1 sv1) w hc hE (hC.mono ?_)).mono ?_
    · rintro e w1 ⟨f', b', I1, sv1, rfl, h1, h2⟩
      refine ⟨f', b', rfl, ⟨I1, sv1, h1, h2⟩, ?_, (h2.at'.ses n hn).f1⟩
      have := (h2.at'.ses n hn).q.c1
      rw [← hfb]
      exact this
    · rintro e w' ⟨rfl, f', b', w1, ⟨I1, sv1, h1, h2⟩, rfl⟩
      obtain ⟨y, hy, hext, hfr⟩ := h2.at'.setNext hn (hok2 st' rfl) h1 ⟨st, hnx⟩ (.cells #[.bool false, .func f' b' #[], .string ⟨#[]⟩] 231)
      exact ⟨rfl, y, hy, h2.ext.ext.trans hext h2.fr.size, (h2.fr.mono fun b i e => GM.own e).own hfr h2.ext.ext⟩
  | answer an =>
    refine (pick_answer A (11 + n * 3) 0 f b an (x.av n) ((a.ss n).an.map .string) (fun w1 => ∃ I1 sv1, StepOut A x a g w w1 I1 sv1) w hc hE (by rw [List.length_map]; omega) (hC.mono ?_) ?_).mono ?_
    · rintro e w1 ⟨I1, sv1, rfl, h2⟩
      exact ⟨rfl, I1, sv1, h2⟩
    · rintro w1 ⟨I1, sv1, h2⟩
      have hs1 := h2.at'.ses n hn
      refine ⟨⟨?_, hs1.f1⟩, hs1.an⟩
      have := hs1.q.c1
      rw [← hfb]
      exact this
    · rintro e w' ⟨rfl, w1, v', ⟨I1, sv1, h2⟩, k1, k2, k3, k4, k5⟩
      obtain ⟨y, hy, hext, hfr⟩ := h2.at'.setAnswer hn ⟨st, hnx⟩ han k1 k2 k3 k4 k5
      exact ⟨rfl, y, hy, h2.ext.ext.trans hext h2.fr.size, (h2.fr.mono fun b i e => GM.own e).own hfr h2.ext.ext⟩

end Go.Proofs.YtenaepdmlknlcaaGreatDoor

namespace Go.Proofs.YtenaepdmlknlcaaGreatDoor
open Go.RowKit Go.Shelf

/-- The cells of a new atlas, k of whose sessions have got a channel. -/
def newC (n : Int) (cs : Nat → Nat) (k j : Nat) : Value :=
  if j = 0 then .pointer none else if j = 1 then .bool false else if j = 2 then .int .i64 n
  else if j < 11 then (if (j - 3) % 2 = 0 then .slice none 0 0 else .int .i64 0)
  else if (j - 11) % 3 = 0 then (if (j - 11) / 3 < k then .chan (some (cs ((j - 11) / 3))) else .chan none)
  else if (j - 11) % 3 = 1 then .nilFunc else .slice none 0 0

structure NewInv (n : Int) (A : Nat) (w wr : World) (cs : Nat → Nat) (k : Nat) : Prop where
  c : ∀ j, j < 23 → wr.cell? ⟨A, j, none⟩ = some (newC n cs k j)
  f : ∀ j, wr.frozen? ⟨A, j, none⟩ = false
  ch : ∀ m, m < k → wr.heap[cs m]? = some (.chan 6 #[] false 0 0 false) ∧ A < cs m ∧ cs m < wr.heap.size
  up : ∀ m m', m < m' → m' < k → cs m < cs m'
  b : Below w.heap.size w wr
  lt : A < wr.heap.size

theorem newC0 (n : Int) (cs : Nat → Nat) (k m : Nat) : newC n cs k (11 + m * 3) = if m < k then .chan (some (cs m)) else .chan none := by
  unfold newC
  rw [if_neg (by omega), if_neg (by omega), if_neg (by omega), if_neg (by omega), if_pos (by omega), show (11 + m * 3 - 11) / 3 = m by omega]
theorem newC1 (n : Int) (cs : Nat → Nat) (k m : Nat) : newC n cs k (11 + m * 3 + 1) = .nilFunc := by
  unfold newC
  rw [if_neg (by omega), if_neg (by omega), if_neg (by omega), if_neg (by omega), if_neg (by omega), if_pos (by omega)]
theorem newC2 (n : Int) (cs : Nat → Nat) (k m : Nat) : newC n cs k (11 + m * 3 + 2) = .slice none 0 0 := by
  unfold newC
  rw [if_neg (by omega), if_neg (by omega), if_neg (by omega), if_neg (by omega), if_neg (by omega), if_neg (by omega)]
/-- Nothing but the channel of session k is another. -/
theorem newC_step (n : Int) (cs : Nat → Nat) (k c j : Nat) (h : j ≠ 11 + k * 3) : newC n (fun m => if m = k then c else cs m) (k + 1) j = newC n cs k j := by
  unfold newC
  by_cases h0 : j = 0
  · rw [if_pos h0, if_pos h0]
  rw [if_neg h0, if_neg h0]
  by_cases h1 : j = 1
  · rw [if_pos h1, if_pos h1]
  rw [if_neg h1, if_neg h1]
  by_cases h2 : j = 2
  · rw [if_pos h2, if_pos h2]
  rw [if_neg h2, if_neg h2]
  by_cases h3 : j < 11
  · rw [if_pos h3, if_pos h3]
  rw [if_neg h3, if_neg h3]
  by_cases h4 : (j - 11) % 3 = 0
  · rw [if_pos h4, if_pos h4]
    have hk : (j - 11) / 3 ≠ k := by omega
    by_cases h5 : (j - 11) / 3 < k
    · rw [if_pos (by omega), if_pos h5]
      show Value.chan (some (if (j - 11) / 3 = k then c else cs ((j - 11) / 3))) = _
      rw [if_neg hk]
    · rw [if_neg (by omega), if_neg h5]
  · rw [if_neg h4, if_neg h4]
theorem NewInv.step {n : Int} {A : Nat} {w wr : World} {cs : Nat → Nat} {k : Nat} (h : NewInv n A w wr cs k) (_hk : k < 4) (hw : w.heap.size ≤ A) {w2 : World} (hb : Below wr.heap.size wr w2) (hc : w2.heap[wr.heap.size + 1]? = some (.chan 6 #[] false 0 0 false)) :
    NewInv n A w (((w2.setCell ⟨A, 11 + k * 3, none⟩ (.chan (some (wr.heap.size + 1)))).setCell ⟨A, 11 + k * 3 + 1, none⟩ .nilFunc).setCell ⟨A, 11 + k * 3 + 2, none⟩ (.slice none 0 0)) (fun m => if m = k then wr.heap.size + 1 else cs m) (k + 1) := by
  have hA := h.lt
  have hlt : wr.heap.size + 1 < w2.heap.size := (Array.getElem?_eq_some_iff.1 hc).1
  have hcell : ∀ j, j < 23 → w2.cell? ⟨A, j, none⟩ = some (newC n cs k j) := fun j hj => (hb.cell (p := ⟨A, j, none⟩) hA).trans (h.c j hj)
  have hblk : ∀ b, b ≠ A → (((w2.setCell ⟨A, 11 + k * 3, none⟩ (.chan (some (wr.heap.size + 1)))).setCell ⟨A, 11 + k * 3 + 1, none⟩ .nilFunc).setCell ⟨A, 11 + k * 3 + 2, none⟩ (.slice none 0 0)).heap[b]? = w2.heap[b]? := fun b hb => by
    rw [Below.heap_setCell _ _ _ _ (fun e => hb e), Below.heap_setCell _ _ _ _ (fun e => hb e), Below.heap_setCell _ _ _ _ (fun e => hb e)]
  have hsz : (((w2.setCell ⟨A, 11 + k * 3, none⟩ (.chan (some (wr.heap.size + 1)))).setCell ⟨A, 11 + k * 3 + 1, none⟩ .nilFunc).setCell ⟨A, 11 + k * 3 + 2, none⟩ (.slice none 0 0)).heap.size = w2.heap.size := by simp [World.setCell]
  have hz := hb.size
  refine ⟨fun j hj => ?_, fun j => ?_, fun m hm => ?_, fun m m' hm hm' => ?_, ?_, by rw [hsz]; omega⟩
  · by_cases j2 : j = 11 + k * 3 + 2
    · subst j2
      rw [newC2]
      exact cell_eq (v := newC n cs k (11 + k * 3 + 2)) ((cell_ne _ _ (.inr (by omega))).trans ((cell_ne _ _ (.inr (by omega))).trans (hcell _ hj))) _
    rw [cell_ne _ _ (.inr (fun e => j2 e.symm))]
    by_cases j1 : j = 11 + k * 3 + 1
    · subst j1
      rw [newC1]
      exact cell_eq (v := newC n cs k (11 + k * 3 + 1)) ((cell_ne _ _ (.inr (by omega))).trans (hcell _ hj)) _
    rw [cell_ne _ _ (.inr (fun e => j1 e.symm))]
    by_cases j0 : j = 11 + k * 3
    · subst j0
      rw [newC0, if_pos (by omega), if_pos rfl]
      exact cell_eq (hcell _ hj) _
    · rw [cell_ne _ _ (.inr (fun e => j0 e.symm)), newC_step n cs k _ j j0]
      exact hcell j hj
  · rw [World.frozen?_setCell, World.frozen?_setCell, World.frozen?_setCell]
    exact (hb.frozen (p := ⟨A, j, none⟩) hA).trans (h.f j)
  · by_cases hmk : m = k
    · rw [if_pos hmk, hblk _ (by omega), hsz]
      exact ⟨hc, by omega, hlt⟩
    · rw [if_neg hmk, hsz]
      have := h.ch m (by omega)
      rw [hblk _ (by omega)]
      exact ⟨(hb.block _ this.2.2).trans this.1, this.2.1, by omega⟩
  · have := h.ch
    by_cases hk' : m' = k
    · rw [if_pos hk', if_neg (by omega)]
      have := (h.ch m (by omega)).2.2
      omega
    · rw [if_neg hk', if_neg (by omega)]
      exact h.up m m' hm (by omega)
  · have hset : ∀ (W : World) (i : Nat) (u : Value), Below w.heap.size W (W.setCell ⟨A, i, none⟩ u) := fun W i u => (Below.refl _ W).setCell (p := ⟨A, i, none⟩) hw u
    exact (((h.b.trans (hb.mono h.b.size)).trans (hset _ _ _)).trans (hset _ _ _)).trans (hset _ _ _)

set_option maxRecDepth 100000 in
set_option maxHeartbeats 1000000 in
theorem New_ok (n : Int) (w : World) (h0 : ¬ n < 0) (h8 : n ≤ 8) :
    Calls Tryz.prog 41 #[.int .i64 n] w fun e w' => ∃ (A : Nat) (cs : Nat → Nat), e = .returned (.tuple #[.pointer (some ⟨A, 0, none⟩), .int .i64 0]) ∧ w.heap.size ≤ A ∧ A < w'.heap.size ∧ (∀ j, j < 23 → w'.cell? ⟨A, j, none⟩ = some (newC n cs 4 j)) ∧ (∀ j, w'.frozen? ⟨A, j, none⟩ = false) ∧ (∀ m, m < 4 → w'.heap[cs m]? = some (.chan 6 #[] false 0 0 false) ∧ A < cs m) ∧ (∀ m m', m < m' → m' < 4 → cs m < cs m') ∧ Below w.heap.size w w' := by
  have h8' : ¬ 8 < n := by omega
  go_enter Tryz.func41, Tryz.ntmps41
  go_wp2_with (go_at_call 74; refine (shNew_any n _).mono ?_; rintro e w1 ⟨rfl, hb1⟩; dsimp only)
  have hA : w.heap.size ≤ w1.heap.size := hb1.size
  go_loopw [17] (fun i wr => ∃ (k : Nat) (cs : Nat → Nat), k ≤ 4 ∧ i = .int .i64 k ∧ NewInv n w1.heap.size w wr cs k) (fun i _ => 4 - (intOf i).toNat)
  case atStart =>
    refine ⟨0, fun _ => 0, by omega, rfl, fun j hj => ?_, fun j => by simp [go_sem], fun m hm => by omega, fun m m' h1 h2 => by omega, hb1.alloc hA _, by simp⟩
    rcases j with _ | _ | _ | _ | _ | _ | _ | _ | _ | _ | _ | _ | _ | _ | _ | _ | _ | _ | _ | _ | _ | _ | _ | j
    iterate 23 (· simp [go_sem, newC])
    omega
  case round =>
    obtain ⟨k, cs, hk, rfl, hinv⟩ := hrel
    have HInv : Hid (NewInv n w1.heap.size w wr cs k) := hinv
    have hlt := hinv.lt
    by_cases h4 : k < 4
    · have hk4 : (k : Int) < 4 := by omega
      have hk0 : (0 : Int) ≤ (k : Int) := by omega
      have q0 := hinv.c (11 + k * 3) (by omega)
      have q1 := hinv.c (11 + k * 3 + 1) (by omega)
      have q2 := hinv.c (11 + k * 3 + 2) (by omega)
      rw [newC0, if_neg (by omega)] at q0
      rw [newC1] at q1
      rw [newC2] at q2
      have p0 := hinv.f (11 + k * 3)
      have p1 := hinv.f (11 + k * 3 + 1)
      have p2 := hinv.f (11 + k * 3 + 2)
      clear hinv
      go_upto_region 7 with fail
      go_region_with (go_at_call 75; refine (newSession_any _).mono ?_; rintro e w2 ⟨rfl, hch, hsz, hb2⟩; dsimp only; have r0 := (hb2.cell (p := ⟨w1.heap.size, 11 + k * 3, none⟩) hlt).trans q0; have r1 := (hb2.cell (p := ⟨w1.heap.size, 11 + k * 3 + 1, none⟩) hlt).trans q1; have r2 := (hb2.cell (p := ⟨w1.heap.size, 11 + k * 3 + 2, none⟩) hlt).trans q2; have s0 := (hb2.frozen (p := ⟨w1.heap.size, 11 + k * 3, none⟩) hlt).trans p0; have s1 := (hb2.frozen (p := ⟨w1.heap.size, 11 + k * 3 + 1, none⟩) hlt).trans p1; have s2 := (hb2.frozen (p := ⟨w1.heap.size, 11 + k * 3 + 2, none⟩) hlt).trans p2)
      all_goals
        go_wp2
        refine ⟨⟨k + 1, _, by omega, by go_num, HInv.out.step h4 hA ((Below.refl _ wr).drew.trans hb2) hch⟩, by simp [intOf]; omega⟩
    · obtain rfl : k = 4 := by omega
      go_wp2
      refine bodyPost_ret (v := .tuple #[.pointer (some ⟨w1.heap.size, 0, none⟩), .int .i64 0]) (by simp [results, Tryz.results41, go_sem]) rfl ⟨w1.heap.size, cs, rfl, hA, hlt, HInv.out.c, HInv.out.f, fun m hm => ⟨(HInv.out.ch m hm).1, (HInv.out.ch m hm).2.1⟩, HInv.out.up, HInv.out.b⟩

end Go.Proofs.YtenaepdmlknlcaaGreatDoor

namespace Go.Proofs.YtenaepdmlknlcaaGreatDoor
open Go.RowKit Go.Shelf

theorem set_nx (a : Atl) (g g' : Gr) (n : Nat) (s : Ses) (F : Ses → Ses) : ({ a.set g n s with g := g' } : Atl).set g' n (F (({ a.set g n s with g := g' } : Atl).ss n)) = a.set g' n (F s) := by
  have e : ({ a.set g n s with g := g' } : Atl).ss n = s := if_pos rfl
  rw [e, set_set]

/-- A pick that begins a request. -/
theorem beginDo_model {w : World} {A : Nat} {x : Wit} {a : Atl} (h : AtlasAt w A x a) {n : Nat} (hn : n < 4) (hnx : (a.ss n).nx = none) {t : ByteArray} {q : List ByteArray} (hq : (a.ss n).q = t :: q) (han : (a.ss n).an.length + 1 ≤ 4000000) :
    Calls Tryz.prog 77 #[.pointer (some ⟨A, 11 + n * 3, none⟩), .pointer (some ⟨A, 0, none⟩)] w (PickPost A x (doM a n { a.ss n with q := q } (firstS (readP t))) w) := by
  have hs := h.ses n hn
  have hnv : x.nv n = .nilFunc := by have := hs.nx; rw [hnx] at this; exact this
  have hc : w.cell? ⟨A, 11 + n * 3 + 1, none⟩ = some .nilFunc := by rw [← hnv]; exact hs.q.c1
  have hst : StpOk (firstS (readP t)) := firstS_ok (readP_ok t)
  generalize hstE : firstS (readP t) = st at hst
  have hB := begin_model h hn hnx hq
  rw [hstE] at hB
  have hok2 := (stepM_ok h.ok.g hst).2
  have hsn : (a.set a.g n { a.ss n with q := q, nx := some st }).ss n = { a.ss n with q := q, nx := some st } := if_pos rfl
  -- the step's own function, in the world in which the request is noted
  have hX : ∀ (w0 : World) (y : Wit), AtlasAt w0 A y (a.set a.g n { a.ss n with q := q, nx := some st }) → ∃ f b, w0.cell? ⟨A, 11 + n * 3 + 1, none⟩ = some (.func (.func f) b #[]) ∧ y.nv n = .func (.func f) b #[] ∧ Enters f ∧ Calls Tryz.prog f (b.push (.pointer (some ⟨A, 0, none⟩))) w0 (StepPost A y (a.set a.g n { a.ss n with q := q, nx := some st }) (stepM a.g st) w0) := fun w0 y hy => by
    have hs0 := hy.ses n hn
    rw [hsn] at hs0
    have hv : StpAt y.I w0 st (y.nv n) := hs0.nx
    obtain ⟨f, b, hfb, hE⟩ := hv.fn
    rw [hfb] at hv
    exact ⟨f, b, by rw [← hfb]; exact hs0.q.c1, hfb, hE, step_any hy hst hv⟩
  unfold doM
  generalize stepM a.g st = r at hX hok2
  obtain ⟨res, g⟩ := r
  cases res with
  | blocked =>
    refine (pick_begin_blocked A (11 + n * 3) 0 (fun w0 => ∃ y, AtlasAt w0 A y (a.set a.g n { a.ss n with q := q, nx := some st }) ∧ Ext A w x y ∧ Fr (OwnM A x) w w0 ∧ y.av n = x.av n) w hc hB ?_).mono ?_
    · rintro w0 ⟨y, hy, _⟩
      obtain ⟨f, b, h1, _, h2, h3⟩ := hX w0 y hy
      exact ⟨f, b, h1, h2, h3.mono fun e w' hp => hp⟩
    · rintro e w' ⟨rfl, w0, ⟨y, hy, hext, hfr, _⟩, hb⟩
      exact ⟨rfl, y, hy.below hb, hext, hfr.trans (Fr.of_below hb)⟩
  | next st' =>
    refine (pick_begin_then A (11 + n * 3) 0 (fun w0 => ∃ y, AtlasAt w0 A y (a.set a.g n { a.ss n with q := q, nx := some st }) ∧ Ext A w x y ∧ Fr (OwnM A x) w w0 ∧ y.av n = x.av n) (fun w0 f' b' w1 => ∃ y, (AtlasAt w0 A y (a.set a.g n { a.ss n with q := q, nx := some st }) ∧ Ext A w x y ∧ Fr (OwnM A x) w w0) ∧ ∃ I1 sv1, StpAt I1 w1 st' (.func f' b' #[]) ∧ StepOut A y (a.set a.g n { a.ss n with q := q, nx := some st }) g w0 w1 I1 sv1) w hc hB ?_).mono ?_
    · rintro w0 ⟨y, hy, hext, hfr, _⟩
      obtain ⟨f, b, h1, hfb, h2, h3⟩ := hX w0 y hy
      refine ⟨f, b, h1, h2, h3.mono ?_⟩
      rintro e w1 ⟨f', b', I1, sv1, rfl, k1, k2⟩
      refine ⟨f', b', rfl, ⟨y, ⟨hy, hext, hfr⟩, I1, sv1, k1, k2⟩, ?_, (k2.at'.ses n hn).f1⟩
      have := (k2.at'.ses n hn).q.c1
      rw [← hfb]
      exact this
    · rintro e w' ⟨rfl, w0, _, f', b', w1, ⟨y, ⟨hy, hext, hfr⟩, I1, sv1, k1, k2⟩, rfl⟩
      obtain ⟨z, hz, hext2, hfr2⟩ := k2.at'.setNext hn (hok2 st' rfl) k1 ⟨st, by show ((a.set a.g n _).ss n).nx = _; rw [hsn]⟩ (.cells #[.bool false, .func f' b' #[], .string ⟨#[]⟩] 231)
      have hfr1 := (hfr.own (k2.fr.mono fun b i e => GM.own e) hext)
      have hext1 := hext.trans k2.ext.ext hfr.size
      refine ⟨rfl, z, ?_, hext1.trans hext2 hfr1.size, hfr1.own hfr2 hext1⟩
      have := set_nx a a.g g n { a.ss n with q := q, nx := some st } (fun s => { s with nx := some st' })
      exact Eq.mp (congrArg (AtlasAt _ A z) this) hz
  | answer an =>
    refine (pick_begin_answer A (11 + n * 3) 0 (x.av n) ((a.ss n).an.map .string) (fun w0 => ∃ y, AtlasAt w0 A y (a.set a.g n { a.ss n with q := q, nx := some st }) ∧ Ext A w x y ∧ Fr (OwnM A x) w w0 ∧ y.av n = x.av n) (fun w0 an' w1 => an' = an ∧ ∃ y, (AtlasAt w0 A y (a.set a.g n { a.ss n with q := q, nx := some st }) ∧ Ext A w x y ∧ Fr (OwnM A x) w w0 ∧ y.av n = x.av n) ∧ ∃ I1 sv1, StepOut A y (a.set a.g n { a.ss n with q := q, nx := some st }) g w0 w1 I1 sv1) w hc (by rw [List.length_map]; omega) hB ?_).mono ?_
    · rintro w0 ⟨y, hy, hext, hfr, hav⟩
      obtain ⟨f, b, h1, hfb, h2, h3⟩ := hX w0 y hy
      refine ⟨f, b, h1, h2, h3.mono ?_⟩
      rintro e w1 ⟨I1, sv1, rfl, k2⟩
      have hs1 := k2.at'.ses n hn
      refine ⟨an, rfl, ⟨rfl, y, ⟨hy, hext, hfr, hav⟩, I1, sv1, k2⟩, ⟨?_, hs1.f1⟩, ?_⟩
      · have := hs1.q.c1
        rw [← hfb]
        exact this
      · have h5 : AnsAt w1 A (11 + n * 3) (y.av n) (((a.set a.g n { a.ss n with q := q, nx := some st }).ss n).an.map .string) := hs1.an
        rw [hav, hsn] at h5
        exact h5
    · rintro e w' ⟨rfl, w0, _, an', w1, v', ⟨rfl, y, ⟨hy, hext, hfr, hav⟩, I1, sv1, k2⟩, k3, k4, k5, k6, k7⟩
      have hX2 : ({ a.set a.g n { a.ss n with q := q, nx := some st } with g := g } : Atl).ss n = { a.ss n with q := q, nx := some st } := hsn
      obtain ⟨z, hz, hext2, hfr2⟩ := k2.at'.setAnswer hn (an := an') (v' := v') ⟨st, by rw [hX2]⟩ (by rw [hX2]; exact han) (by rw [hX2]; exact k3) (by intro k hk; rw [← hav] at k4; exact k4 k hk) k5 k6 (by rw [← hav] at k7; exact k7)
      have hfr1 := (hfr.own (k2.fr.mono fun b i e => GM.own e) hext)
      have hext1 := hext.trans k2.ext.ext hfr.size
      refine ⟨rfl, z, ?_, hext1.trans hext2 hfr1.size, hfr1.own hfr2 hext1⟩
      have := set_nx a a.g g n { a.ss n with q := q, nx := some st } (fun s => { s with nx := none, an := s.an ++ [an'] })
      exact Eq.mp (congrArg (AtlasAt _ A z) this) hz

theorem pick_model {w : World} {A : Nat} {x : Wit} {a : Atl} (h : AtlasAt w A x a) {n : Nat} (hn : n < 4) (han : (a.ss n).an.length + 1 ≤ 4000000) :
    Calls Tryz.prog 77 #[.pointer (some ⟨A, 11 + n * 3, none⟩), .pointer (some ⟨A, 0, none⟩)] w (PickPost A x (pickM a n) w) := by
  unfold pickM
  cases hnx : (a.ss n).nx with
  | some st => exact do_model h hn hnx han
  | none =>
    cases hq : (a.ss n).q with
    | nil =>
      have hs := h.ses n hn
      have hnv : x.nv n = .nilFunc := by have := hs.nx; rw [hnx] at this; exact this
      have hch := hs.q.ch
      have hc := hs.q.c1
      rw [hnv] at hc
      rw [hq] at hch
      refine (pick_idle A (11 + n * 3) 0 (x.cb n) 6 (x.sn n) (x.rn n) w hs.q.c0 hc hch).mono ?_
      rintro e w' ⟨rfl, rfl⟩
      exact ⟨rfl, x, h, Ext.refl A _ x, Fr.refl _ _⟩
    | cons t q => exact beginDo_model h hn hnx hq han
/-- Pick. -/
theorem Pick_model {w : World} {A : Nat} {x : Wit} {a : Atl} (h : AtlasAt w A x a) {n : Nat} (hn : n < 4) (han : (a.ss n).an.length + 1 ≤ 4000000) :
    Calls Tryz.prog 43 #[.pointer (some ⟨A, 0, none⟩), .int .i64 (n : Int)] w fun e w' => e = .returned (.tuple #[.bool (pickM a n).1, .int .i64 0]) ∧ ∃ y, AtlasAt w' A y (pickM a n).2 ∧ Ext A w x y ∧ Fr (OwnM A x) w w' := by
  have hd : Below w.heap.size w w.drew := (Below.refl _ w).drew
  refine Pick_any A n (pickM a n).1 _ w hn ((pick_model (h.below hd) hn han).mono ?_)
  rintro e w' ⟨rfl, y, hy, hext, hfr⟩
  exact ⟨rfl, y, hy, ⟨hext.i, hext.own⟩, (Fr.of_below hd).trans hfr⟩

end Go.Proofs.YtenaepdmlknlcaaGreatDoor

namespace Go.Proofs.YtenaepdmlknlcaaGreatDoor
open Go.RowKit Go.Shelf

theorem busy_nx {I : Nat → Prop} {w : World} {s : Option Stp} {v : Value} (h : NxAt I w s v) : busyN v = busyS s := by
  cases s with
  | none => have : v = .nilFunc := h; rw [this]; rfl
  | some st => obtain ⟨f, b, e, _⟩ := StpAt.fn h; rw [e]; rfl

/-- Send, where there is room in the queue. -/
theorem Send_model {w : World} {A : Nat} {x : Wit} {a : Atl} (h : AtlasAt w A x a) {n : Nat} (hn : n < 4) (t : ByteArray) (ht : t.size ≤ 200) (hw : waitS (a.ss n) < 6) :
    Calls Tryz.prog 42 #[.pointer (some ⟨A, 0, none⟩), .int .i64 (n : Int), .string t] w fun e w' => e = .returned (.int .i64 0) ∧ ∃ y, AtlasAt w' A y (sendM a n t) ∧ Ext A w x y ∧ Fr (OwnM A x) w w' := by
  have hA := h.A8
  have hs := h.ses n hn
  have hok := h.ok.ss n hn
  have hwt : ((a.ss n).q.map Value.string).toArray.size + busyN (x.nv n) < 6 := by
    rw [busy_nx hs.nx]
    rw [waitS_eq] at hw
    simpa using hw
  refine (Send_ok A n (x.cb n) 6 _ (x.sn n) (x.rn n) (x.nv n) t w hn hs.q hwt ht (by omega)).mono ?_
  rintro e w' ⟨rfl, rfl⟩
  refine ⟨rfl, ?_⟩
  have hcl := (h.ownI (n + 5) (x.cb n) (by omega) (own_ch x A n hn)).2.2
  have hne : x.cb n ≠ A := fun e => h.apart 0 (n + 5) A (by omega) (by omega) (by omega) (own_A x A) (by rw [own_ch x A n hn, e])
  have hf : Fr (fun b _ => b = x.cb n) w (w.setChan (x.cb n) 6 (((a.ss n).q.map Value.string).toArray.push (.string t)) false (x.sn n + 1) (x.rn n) false) := (Fr.refl _ w).setChan (c := x.cb n) (.inl rfl) _ _ _ _ _ _ ⟨_, _, _, _, _, _, hs.q.ch⟩
  have hF : Fr (SM A x n) w _ := hf.mono fun b i e => .inr (.inl e)
  have hS : Same x.I w _ := Same.fr hf (fun b hb => (h.lt b hb).2) (fun b i hb e => (h.ownI (n + 5) (x.cb n) (by omega) (own_ch x A n hn)).1 (by rw [← e]; exact hb))
  have hw2 : waitS { a.ss n with q := (a.ss n).q ++ [t] } ≤ 6 := by
    rw [waitS_eq] at hw ⊢
    show ((a.ss n).q ++ [t]).length + busyS (a.ss n).nx ≤ 6
    rw [List.length_append]
    simp
    omega
  refine ⟨x.ses n x.I (x.av n) (x.nv n) (x.sn n + 1) (x.rn n), h.session hn (s' := { a.ss n with q := (a.ss n).q ++ [t] }) ⟨fun y hy => ?_, hw2, hok.nx, hok.an⟩ hF ⟨⟨?_, ?_, ?_, ?_, ?_⟩, ?_, ?_, ?_⟩ (fun _ h => h) (fun b hb => .inl hb) (fun b hb => ⟨?_, .inl hb⟩), Ext.ses (fun _ h => .inl h) (fun _ h => .inl h), hF.mono fun b i e => SM.own hn e⟩
  · rcases List.mem_append.1 hy with hy | hy
    · exact hok.q y hy
    · simp at hy; subst hy; exact ht
  · exact (hf.cell A _ hA.2 (fun e => hne e.symm)).trans hs.q.c0
  · show _ = some (updN x.nv n _ n)
    rw [updN_same]
    exact (hf.cell A _ hA.2 (fun e => hne e.symm)).trans hs.q.c1
  · show _ = some (Obj.chan 6 (((a.ss n).q ++ [t]).map Value.string).toArray false (updN x.sn n _ n) (updN x.rn n _ n) false)
    rw [updN_same, updN_same, List.map_append]
    have := Conc.heap_setChan w (x.cb n) 6 (((a.ss n).q.map Value.string).toArray.push (.string t)) false (x.sn n + 1) (x.rn n) false hcl
    have e : (((a.ss n).q.map Value.string).toArray.push (.string t)) = ((a.ss n).q.map Value.string ++ [t].map Value.string).toArray := by simp
    rw [e] at this ⊢
    exact this
  · rw [waitS_eq] at hw2
    have : ((a.ss n).q ++ [t]).length ≤ 6 := by
      have h1 : ((a.ss n).q ++ [t]).length + busyS (a.ss n).nx ≤ 6 := hw2
      omega
    simp at this ⊢
    omega
  · show updN x.nv n (x.nv n) n = .nilFunc ∨ ∃ f b, updN x.nv n (x.nv n) n = .func f b #[]
    rw [updN_same]
    exact hs.q.nx
  · exact (hf.frozen A _ hA.2 (fun e => hne e.symm)).trans hs.f1
  · show NxAt x.I _ (a.ss n).nx (updN x.nv n _ n)
    rw [updN_same]
    exact hs.nx.same hS
  · show AnsAt _ A _ (updN x.av n _ n) _
    rw [updN_same]
    exact hs.an.fr hf (fun e => hne e.symm) (fun g i e e' => h.apart (n + 5) (n + 9) _ (by omega) (by omega) (by omega) (own_ch x A n hn) (by rw [own_an, ← e']; exact e))
  · have := (h.ownI (n + 9) b (by omega) (by rw [own_an]; exact hb)).2.2
    exact Nat.lt_of_lt_of_le this hF.size

/-- Answers: they are the caller's from now on. -/
theorem Answers_model' {w : World} {A : Nat} {x : Wit} {a : Atl} (h : AtlasAt w A x a) {n : Nat} (hn : n < 4) :
    Calls Tryz.prog 44 #[.pointer (some ⟨A, 0, none⟩), .int .i64 (n : Int)] w fun e w' => ∃ (va : Option Addr) (m cap : Nat), e = .returned (.tuple #[.slice va m cap, .int .i64 0]) ∧ m = (a.ss n).an.length ∧ w'.ownsRow 0 9 1 (.slice va m cap) m ((a.ss n).an.map .string) ∧ (∀ b, (Value.slice va m cap).ownBlock = some b → x.Own A b) ∧ ∃ y, (∀ b, (Value.slice va m cap).ownBlock = some b → ¬ (y.I b ∨ y.Own A b)) ∧ AtlasAt w' A y (tellM a n) ∧ Ext A w x y ∧ Fr (OwnM A x) w w' := by
  have hA := h.A8
  have hs := h.ses n hn
  have hok := h.ok.ss n hn
  obtain ⟨va, m, cap, hv, hm⟩ : ∃ (va : Option Addr) (m cap : Nat), x.av n = .slice va m cap ∧ m = (a.ss n).an.length := by
    rcases hs.an.own.2 with ⟨e1, e2⟩ | ⟨g, cap, cur, e1, _⟩
    · exact ⟨none, 0, 0, e1, by rw [List.length_map] at e2; exact e2.symm⟩
    · exact ⟨_, _, cap, e1, by rw [List.length_map]⟩
  have hc := hs.an.c
  rw [hv] at hc
  refine (Answers_any A n va m cap w hn hc hs.an.f).mono ?_
  rintro e w' ⟨rfl, rfl⟩
  have hf : Fr (fun b i => b = A ∧ i = 11 + n * 3 + 2) w (w.setCell ⟨A, 11 + n * 3 + 2, none⟩ (.slice none 0 0)) := (Fr.refl _ w).setCell (b := A) (i := 11 + n * 3 + 2) (.inl ⟨rfl, rfl⟩) _
  have hF : Fr (SM A x n) w _ := hf.mono fun b i e => .inl ⟨e.1, by omega, by omega⟩
  have hS : Same x.I w _ := Same.fr hf (fun b hb => (h.lt b hb).2) (fun b i hb e => (h.ownI 0 A (by omega) (own_A x A)).1 (by rw [← e.1]; exact hb))
  have hown : (w.setCell ⟨A, 11 + n * 3 + 2, none⟩ (.slice none 0 0)).ownsRow 0 9 1 (.slice va m cap) m ((a.ss n).an.map .string) := by
    have h1 := ownsRow_fr' hf hs.an.own (fun k i e e' => hs.an.ne (by rw [e, e'.1]))
    rw [hv, List.length_map, ← hm] at h1
    exact h1
  have hcb : x.cb n ≠ A := fun e => h.apart 0 (n + 5) A (by omega) (by omega) (by omega) (own_A x A) (by rw [own_ch x A n hn, e])
  refine ⟨va, m, cap, rfl, hm, hown, fun b hb => ⟨n + 9, by omega, by rw [own_an, hv]; exact hb⟩, x.ses n x.I (.slice none 0 0) (x.nv n) (x.sn n) (x.rn n), (fun b hb => by
    have hx : x.own A (n + 9) = some b := by rw [own_an, hv]; exact hb
    rintro (hi | ⟨i, hi, e⟩)
    · exact (h.ownI (n + 9) b (by omega) hx).1 hi
    · rw [own_ses] at e
      split at e
      · cases e
      · rename_i hne; exact h.apart (n + 9) i b (by omega) hi (fun e => hne e.symm) hx e), h.session hn (s' := { a.ss n with an := [] }) ⟨hok.q, hok.w, hok.nx, by simp⟩ hF ⟨⟨?_, ?_, ?_, hs.q.le, ?_⟩, ?_, ?_, ?_⟩ (fun _ h => h) (fun b hb => .inl hb) (fun b hb => by cases hb), Ext.ses (fun _ h => .inl h) (fun _ h => by cases h), hF.mono fun b i e => SM.own hn e⟩
  · exact (hf.cell A _ hA.2 (fun e => by omega)).trans hs.q.c0
  · show _ = some (updN x.nv n _ n)
    rw [updN_same]
    exact (hf.cell A _ hA.2 (fun e => by omega)).trans hs.q.c1
  · show _ = some (Obj.chan 6 _ false (updN x.sn n _ n) (updN x.rn n _ n) false)
    rw [updN_same, updN_same]
    exact (hf.block _ (Array.getElem?_eq_some_iff.1 hs.q.ch).1 (fun i e => hcb e.1)).trans hs.q.ch
  · show updN x.nv n (x.nv n) n = .nilFunc ∨ ∃ f b, updN x.nv n (x.nv n) n = .func f b #[]
    rw [updN_same]
    exact hs.q.nx
  · rw [World.frozen?_setCell]; exact hs.f1
  · show NxAt x.I _ (a.ss n).nx (updN x.nv n _ n)
    rw [updN_same]
    exact hs.nx.same hS
  · show AnsAt _ A _ (updN x.av n _ n) _
    rw [updN_same]
    exact ⟨cell_eq hs.an.c _, by rw [World.frozen?_setCell]; exact hs.an.f, World.ownsRow_nil _ _ _ _, by simp [Value.ownBlock], by simp⟩

theorem Answers_model {w : World} {A : Nat} {x : Wit} {a : Atl} (h : AtlasAt w A x a) {n : Nat} (hn : n < 4) :
    Calls Tryz.prog 44 #[.pointer (some ⟨A, 0, none⟩), .int .i64 (n : Int)] w fun e w' => ∃ (va : Option Addr) (m cap : Nat), e = .returned (.tuple #[.slice va m cap, .int .i64 0]) ∧ m = (a.ss n).an.length ∧ w'.ownsRow 0 9 1 (.slice va m cap) m ((a.ss n).an.map .string) ∧ ∃ y, AtlasAt w' A y (tellM a n) ∧ Ext A w x y ∧ Fr (OwnM A x) w w' :=
  (Answers_model' h hn).mono fun _ _ ⟨va, m, cap, h1, h2, h3, _, y, _, h4⟩ => ⟨va, m, cap, h1, h2, h3, y, h4⟩
/-- Look. -/
theorem Look_model {w : World} {A : Nat} {x : Wit} {a : Atl} (h : AtlasAt w A x a) (hl : a.g.fs.length ≤ 1000000000) :
    Calls Tryz.prog 26 #[.pointer (some ⟨A, 0, none⟩)] w fun e w' => e = .returned (.agg #[.int .i64 (a.g.fs.length : Int), .bool a.g.lk, .int .i64 (waitM a : Int)]) ∧ Below w.heap.size w w' := by
  obtain ⟨ro, vs, r0, hR, hfs, hg, hd⟩ := h.rootOk
  have hI : ∀ b, x.I b → b < w.heap.size := fun b hb => (h.lt b hb).2
  have hlen : vs.length = a.g.fs.length := by rw [← hfs, List.length_map]
  have hk := Look_gen A ro a.g.fs.length a.g.lk (fun n => waitS (a.ss n)) w h.A8.2 r0 h.lk (fun k hk => by have := (h.ok.ss k hk).w; omega)
    (fun W hW => by
      have := Count_any x.I ro vs W (fun b hb => Nat.lt_of_lt_of_le (hI b hb) hW.size) (RootT.same hR (Same.of_below hW hI)) (fun v hv => Good.same (Same.of_below hW hI) (hg v hv)) (by omega)
      rw [hlen] at this
      exact this)
    (fun k W hk hW => by
      have hs := (h.below hW).ses k hk
      have h1 := waiting_any A (11 + k * 3) (x.cb k) 6 _ (x.sn k) (x.rn k) (x.nv k) W hs.q
      refine h1.mono ?_
      rintro e w' ⟨rfl, rfl⟩
      refine ⟨?_, rfl⟩
      rw [busy_nx hs.nx, waitS_eq]
      simp)
  refine hk.mono ?_
  rintro e w' ⟨rfl, hb⟩
  refine ⟨?_, hb⟩
  have : sumW (fun n => waitS (a.ss n)) 4 = waitM a := by simp [sumW, waitM, sum4]
  rw [this]

/-- Kept. -/
theorem Kept_model {w : World} {A : Nat} {x : Wit} {a : Atl} (h : AtlasAt w A x a) {k : Nat} (hk : k < 4) :
    Calls Tryz.prog 27 #[.pointer (some ⟨A, 0, none⟩), .int .i64 (k : Int)] w fun e w' => ∃ (va : Option Addr) (m cap : Nat), e = .returned (.tuple #[.slice va m cap, .int .i64 0]) ∧ m = (a.g.S.ks k).length ∧ w'.ownsRow w.heap.size 24 3 (.slice va m cap) m (flatT ((a.g.S.ks k).map (·.t))) ∧ Below w.heap.size w w' :=
  Kept_any A k (x.sv k) (a.g.S.ks k) w hk (h.sh.sh k hk)

end Go.Proofs.YtenaepdmlknlcaaGreatDoor
