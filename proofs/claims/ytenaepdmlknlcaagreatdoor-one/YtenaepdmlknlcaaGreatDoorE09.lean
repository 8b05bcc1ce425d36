import Derived.Test.YtenaepdmlknlcaaGreatDoorE03
import Derived.Test.YtenaepdmlknlcaaGreatDoorE06
import Derived.Laws.AppendOwn
import Derived.Laws.OwnMore
import Derived.Deep.RegionLaw
import Derived.Test.YtenaepdmlknlcaaGreatDoorE08
namespace Go.Proofs.YtenaepdmlknlcaaGreatDoor
open Go.RowKit Go.Shelf

theorem kind_from {b : Nat} {w : World} (W : World) (s : Wd) (hF : Fr (OfB b) w W) (h : WdAt W b s) :
    Calls Tryz.prog 214 #[.pointer (some ⟨b, 0, none⟩)] W fun e w' => e = .returned (.int .i64 s.kind.1) ∧ WdAt w' b s.kind.2 ∧ Fr (OfB b) w w' :=
  (kind_any b s W h).mono fun _ _ ⟨he, hw, hf⟩ => ⟨he, hw, hF.trans hf⟩

theorem Wd.short_kind {s : Wd} (h : s.short) : s.kind.2.short := by
  unfold Wd.kind
  split
  · exact (Wd.short_next h).2
  · exact (Wd.short_next h).2

/-- The words behind the four that every put has. -/
def Wd.four (s : Wd) : Wd := s.number.2.kind.2.number.2.number.2

def sliceLen : Option Value → Nat | some (.slice _ n _) => n | _ => 0

theorem ownsRow_fr {M : Nat → Nat → Prop} {A B : World} (h : Fr M A B) {base : Nat} {e : TypeId} {size : Nat} {v : Value} {n : Nat} {xs : List Value} (o : A.ownsRow base e size v n xs) (hm : ∀ k i, base ≤ k → ¬ M k i) : B.ownsRow base e size v n xs := by
  obtain ⟨h1, h2⟩ := o
  refine ⟨h1, h2.imp id ?_⟩
  rintro ⟨g, cap, cur, e1, e2, e3, e4⟩
  exact ⟨g, cap, cur, e1, e2, (h.block g (Array.getElem?_eq_some_iff.1 e3).1 (fun i => hm g i e2)).trans e3, e4⟩

theorem ownsRow_more {w : World} {base : Nat} {e : TypeId} {size : Nat} {v : Value} {n : Nat} {xs : List Value} (o : w.ownsRow base e size v (n + 1) xs) : ∃ g cap : Nat, v = .slice (some ⟨g, 0, none⟩) (n + 1) cap ∧ base ≤ g ∧ n + 1 ≤ cap := by
  rcases o.2 with ⟨_, h⟩ | ⟨g, cap, cur, h1, h2, _, h4, _⟩
  · omega
  · exact ⟨g, cap, h1, h2, h4⟩

def flatP : Pts → List Value
  | [] => []
  | p :: ps => .int .i64 p.1 :: .int .i64 p.2 :: flatP ps
theorem flatP_append (a b : Pts) : flatP (a ++ b) = flatP a ++ flatP b := by
  induction a with
  | nil => rfl
  | cons p a ih => simp only [List.cons_append, flatP, ih]
theorem flatP_get (ps : Pts) (k : Nat) (x y : Int) (h : ps[k]? = some (x, y)) : (flatP ps)[k * 2]? = some (.int .i64 x) ∧ (flatP ps)[k * 2 + 1]? = some (.int .i64 y) := by
  induction ps generalizing k with
  | nil => simp at h
  | cons p ps ih =>
    cases k with
    | zero => simp at h; subst h; exact ⟨rfl, rfl⟩
    | succ k =>
      have := ih k (by simpa using h)
      rw [show (k + 1) * 2 = k * 2 + 1 + 1 by omega]
      simpa [flatP] using this

theorem Q5.fr {M : Nat → Nat → Prop} {A B : World} (h : Fr M A B) {b : Nat} {v0 v1 v2 v3 v4 : Value} (q : Q5 A b v0 v1 v2 v3 v4) (hm : ∀ i, ¬ M b i) : Q5 B b v0 v1 v2 v3 v4 :=
  have hb : b < A.heap.size := World.block_lt_of_cell? A ⟨b, 0, none⟩ q.c0
  ⟨(h.cell b 0 hb (hm _)).trans q.c0, (h.cell b 1 hb (hm _)).trans q.c1, (h.cell b 2 hb (hm _)).trans q.c2, (h.cell b 3 hb (hm _)).trans q.c3, (h.cell b 4 hb (hm _)).trans q.c4, (h.frozen b 0 hb (hm _)).trans q.f0, (h.frozen b 1 hb (hm _)).trans q.f1, (h.frozen b 2 hb (hm _)).trans q.f2, (h.frozen b 3 hb (hm _)).trans q.f3, (h.frozen b 4 hb (hm _)).trans q.f4⟩

theorem info29p : (Tryz.prog.info? 29).map (fun i => (i.zero, i.size, i.bytes)) = some (some (.agg #[.int .i64 0, .int .i64 0]), 2, 16) := by kernel_rfl

/-- How a put's places are read, at a step of the loop. -/
structure PlIn (b F : Nat) (w4 : World) (i0 i1 i2 i3 : Int) (L : List ByteArray) (wg : Bool) (k : Nat) (pv : Value) (wr : World) : Prop where
  kl : k ≤ L.length
  wd : WdAt wr b ⟨L.drop k, wg || !((L.take k).all ptOk)⟩
  q : Q5 wr F (.int .i64 i0) (.int .i64 i1) (.int .i64 i2) (.int .i64 i3) pv
  own : wr.ownsRow (F + 1) 29 2 pv k (flatP ((L.take k).map ptOf))
  fr : Fr (OfB b) w4 wr

theorem WdAt.len {w : World} {b : Nat} {s : Wd} (h : WdAt w b s) : sliceLen (w.cell? ⟨b, 0, none⟩) = s.left.length := by
  obtain ⟨⟨sb, off, cap, e0, _⟩, _⟩ := h
  rw [e0]; rfl

theorem PlIn.step {b F : Nat} {w4 : World} {i0 i1 i2 i3 : Int} {L : List ByteArray} {wg : Bool} {k : Nat} {pv v : Value} {wr w5 w3 : World} {x : ByteArray} (h : PlIn b F w4 i0 i1 i2 i3 L wg k pv wr) (hk : k < L.length) (htk : L.take (k + 1) = L.take k ++ [x]) (hF : w4.heap.size = F) (hbF : b < F)
    (hw5 : WdAt w5 b ⟨L.drop (k + 1), wg || !((L.take (k + 1)).all ptOk)⟩) (hf5 : Fr (OfB b) wr w5) (hB3 : Below (F + 1) w5 w3) (own : w3.ownsRow (F + 1) 29 2 v (k + 1) (flatP ((L.take k).map ptOf) ++ [.int .i64 (ptOf x).1, .int .i64 (ptOf x).2])) :
    PlIn b F w4 i0 i1 i2 i3 L wg (k + 1) v (w3.setCell ⟨F, 4, none⟩ v) ∧ sliceLen ((w3.setCell ⟨F, 4, none⟩ v).cell? ⟨b, 0, none⟩) < sliceLen (wr.cell? ⟨b, 0, none⟩) := by
  have hwd : WdAt (w3.setCell ⟨F, 4, none⟩ v) b ⟨L.drop (k + 1), wg || !((L.take (k + 1)).all ptOk)⟩ :=
    (hw5.fr (Fr.of_below' hB3) (fun c _ hc e => by omega)).fr (frB F w3 4 v) (fun c _ hc e => by have : c = F := e; omega)
  refine ⟨⟨hk, hwd, ?_, ?_, ?_⟩, ?_⟩
  · obtain ⟨c0, c1, c2, c3, c4, f0, f1, f2, f3, f4⟩ := (h.q.fr hf5 (fun i e => by have : F = b := e; omega)).below hB3 (Nat.lt_succ_self F)
    exact ⟨(cell_ne _ _ (.inr (by decide))).trans c0, (cell_ne _ _ (.inr (by decide))).trans c1, (cell_ne _ _ (.inr (by decide))).trans c2, (cell_ne _ _ (.inr (by decide))).trans c3, cell_eq c4 _, by rw [World.frozen?_setCell]; exact f0, by rw [World.frozen?_setCell]; exact f1, by rw [World.frozen?_setCell]; exact f2, by rw [World.frozen?_setCell]; exact f3, by rw [World.frozen?_setCell]; exact f4⟩
  · rw [htk, List.map_append, flatP_append]
    exact ownsRow_fr (frB F w3 4 v) own (fun c _ hc e => by have : c = F := e; omega)
  · exact ((h.fr.trans hf5).trans_new (Fr.of_below' hB3) (fun c _ hc e => by omega)).trans_new (frB F w3 4 v) (fun c _ hc e => by have : c = F := e; omega)
  · rw [hwd.len, h.wd.len]
    simp only [List.length_drop]
    omega

theorem addr0 (g j : Nat) : (⟨g, 0, none⟩ : Addr).add j = ⟨g, j, none⟩ := by
  simp [Addr.add]
  exact fun h => h.symm

theorem PlIn.done {b F : Nat} {w4 : World} {i0 i1 i2 i3 : Int} {L : List ByteArray} {wg : Bool} {k : Nat} {pv : Value} {wr : World} (h : PlIn b F w4 i0 i1 i2 i3 L wg k pv wr) (hk : ¬ k < L.length) :
    ∃ (a : Option Addr) (cap : Nat), pv = .slice a L.length cap ∧ L.length ≤ cap ∧ PtsAt wr.heap.size wr a (L.map ptOf) ∧ ∀ g o, a = some ⟨g, o, none⟩ → F + 1 ≤ g ∧ o = 0 := by
  have hk' : k = L.length := by have := h.kl; omega
  subst hk'
  have own := h.own
  rw [List.take_length] at own
  have hown := own
  rcases own.2 with ⟨h1, h2⟩ | ⟨g, cap, cur, h1, h2, h3, h4, _⟩
  · refine ⟨none, 0, by rw [h2]; exact h1, by omega, .inl ?_, fun g o e => by cases e⟩
    rw [List.length_eq_zero_iff.1 h2]; rfl
  · subst h1
    refine ⟨some ⟨g, 0, none⟩, cap, rfl, h4, .inr ⟨g, 0, rfl, (Array.getElem?_eq_some_iff.1 h3).1, fun k x y e => ?_⟩, fun g' o e => by cases e; exact ⟨h2, rfl⟩⟩
    have hc := hown.cells (g := g) rfl
    obtain ⟨e1, e2⟩ := flatP_get _ k x y e
    have r1 := hc _ _ e1
    have r2 := hc _ _ e2
    rw [addr0] at r1 r2
    rw [Nat.zero_add]
    exact ⟨r1, r2⟩

theorem PtsAt.fr {M : Nat → Nat → Prop} {A B : World} (h : Fr M A B) {a : Option Addr} {ps : Pts} (hp : PtsAt A.heap.size A a ps) (hm : ∀ g o i, a = some ⟨g, o, none⟩ → ¬ M g i) : PtsAt B.heap.size B a ps :=
  hp.elim .inl fun ⟨b, off, e, p⟩ => .inr ⟨b, off, e, Nat.lt_of_lt_of_le p.1 h.size, fun k x y ek => ⟨(h.cell b _ p.1 (hm b off _ e)).trans (p.2 k x y ek).1, (h.cell b _ p.1 (hm b off _ e)).trans (p.2 k x y ek).2⟩⟩

theorem set5fr (w : World) (b : Nat) (u0 u1 u2 u3 u4 : Value) : Fr (OfB b) w (set5 w b u0 u1 u2 u3 u4) :=
  ((((frB b w 0 u0).setCell (b := b) (i := 1) (.inl rfl) u1).setCell (b := b) (i := 2) (.inl rfl) u2).setCell (b := b) (i := 3) (.inl rfl) u3).setCell (b := b) (i := 4) (.inl rfl) u4

def FeatPost (b : Nat) (st : Wd) (w : World) (e : Ending) (w' : World) : Prop :=
  ∃ (a : Option Addr) (n cap : Nat), e = .returned (.agg #[.int .i64 st.number.1, .int .i64 st.number.2.kind.1, .int .i64 st.number.2.kind.2.number.1, .int .i64 st.number.2.kind.2.number.2.number.1, .slice a n cap]) ∧
    n = st.four.left.length ∧ n ≤ cap ∧ PtsAt w'.heap.size w' a (st.four.left.map ptOf) ∧ (∀ g o, a = some ⟨g, o, none⟩ → w.heap.size ≤ g ∧ o = 0) ∧
    WdAt w' b ⟨[], (st.four.wrong || !(st.four.left.all ptOk)) || !(validF ⟨st.number.1, st.number.2.kind.1, st.number.2.kind.2.number.1, st.number.2.kind.2.number.2.number.1, st.four.left.map ptOf⟩)⟩ ∧ Fr (OfB b) w w'

theorem Wd.short_four {s : Wd} (h : s.short) : s.four.short := Wd.short_number (Wd.short_number (Wd.short_kind (Wd.short_number h)))
theorem Wd.next_len (s : Wd) : s.next.2.left.length ≤ s.left.length := by
  obtain ⟨l, q⟩ := s
  cases l with
  | nil => exact Nat.le_refl _
  | cons x xs => exact Nat.le_succ _
theorem Wd.kind_left (s : Wd) : s.kind.2.left = s.next.2.left := by unfold Wd.kind; split <;> rfl
theorem Wd.four_len (s : Wd) : s.four.left.length ≤ s.left.length := by
  have h1 := Wd.next_len s
  have h2 := Wd.next_len s.number.2
  have h3 := Wd.next_len s.number.2.kind.2
  have h4 := Wd.next_len s.number.2.kind.2.number.2
  have e1 : s.number.2.left = s.next.2.left := rfl
  have e2 := Wd.kind_left s.number.2
  have e3 : s.number.2.kind.2.number.2.left = s.number.2.kind.2.next.2.left := rfl
  have e4 : s.four.left = s.number.2.kind.2.number.2.next.2.left := rfl
  rw [e4]; rw [e1] at h2; rw [e2] at h3; rw [e3] at h4
  omega

set_option maxRecDepth 100000 in
set_option maxHeartbeats 2000000 in
theorem feature_any (b : Nat) (st : Wd) (hs : st.short) (hlen : st.left.length ≤ 1000) (w : World) (g : Gl w) (hb : 8 ≤ b) (h : WdAt w b st) :
    Calls Tryz.prog 199 #[.pointer (some ⟨b, 0, none⟩)] w (FeatPost b st w) := by
  have HL : Hid (b < w.heap.size) := h.lt
  have HB : Hid (¬ w.heap.size = b) := fun e => by have := h.lt; omega
  have HW : Hid (WdAt (w.alloc (.cells #[.int .i64 0, .int .i64 0, .int .i64 0, .int .i64 0, .slice none 0 0] 32)) b st) := h.alloc _
  have HG : Hid (Gl (w.alloc (.cells #[.int .i64 0, .int .i64 0, .int .i64 0, .int .i64 0, .slice none 0 0] 32))) := g.below ((Below.refl _ _).alloc (Nat.le_refl _) _) g.sz
  have HQ : Hid (Q5 (w.alloc (.cells #[.int .i64 0, .int .i64 0, .int .i64 0, .int .i64 0, .slice none 0 0] 32)) w.heap.size (.int .i64 0) (.int .i64 0) (.int .i64 0) (.int .i64 0) (.slice none 0 0)) := Q5.new _ _ _ _ _ _ _
  have HS : Hid st.short := hs
  have HLen : Hid (st.left.length ≤ 1000) := hlen
  clear g h hs hlen
  go_enter Tryz.func199, Tryz.ntmps199
  go_wp2_with (first
    | (go_at_call 212; refine (number_from HG.out hb _ _ (Wd.short_number (Wd.short_kind (Wd.short_number HS.out))) hf3 hw3).mono ?_; rintro e w4 ⟨rfl, hw4, hf4⟩; dsimp only)
    | (go_at_call 212; refine (number_from HG.out hb _ _ (Wd.short_kind (Wd.short_number HS.out)) hf2 hw2).mono ?_; rintro e w3 ⟨rfl, hw3, hf3⟩; dsimp only)
    | (go_at_call 214; refine (kind_from _ _ hf1 hw1).mono ?_; rintro e w2 ⟨rfl, hw2, hf2⟩; dsimp only)
    | (go_at_call 212; refine (number_from HG.out hb _ _ HS.out (Fr.refl _ _) HW.out).mono ?_; rintro e w1 ⟨rfl, hw1, hf1⟩; dsimp only))
  have HW4 : Hid (WdAt w4 b st.four) := hw4
  have HF4 : Hid _ := hf4
  have hbw4 : b < w4.heap.size := hw4.lt
  have HP : Hid (FeatPost b st w = FeatPost b st w) := rfl
  obtain ⟨i0, hi0⟩ : ∃ i, st.number.1 = i := ⟨_, rfl⟩
  obtain ⟨i1, hi1⟩ : ∃ i, st.number.2.kind.1 = i := ⟨_, rfl⟩
  obtain ⟨i2, hi2⟩ : ∃ i, st.number.2.kind.2.number.1 = i := ⟨_, rfl⟩
  obtain ⟨i3, hi3⟩ : ∃ i, st.number.2.kind.2.number.2.number.1 = i := ⟨_, rfl⟩
  have HI : Hid (st.number.1 = i0 ∧ st.number.2.kind.1 = i1 ∧ st.number.2.kind.2.number.1 = i2 ∧ st.number.2.kind.2.number.2.number.1 = i3) := ⟨hi0, hi1, hi2, hi3⟩
  rw [hi0, hi1, hi2, hi3]
  clear hi0 hi1 hi2 hi3 hw1 hw2 hw3 hw4 hf1 hf2 hf3 hf4
  obtain ⟨L, hL⟩ : ∃ L, st.four.left = L := ⟨_, rfl⟩
  obtain ⟨wg, hwg⟩ : ∃ q, st.four.wrong = q := ⟨_, rfl⟩
  have HLw : Hid (st.four = ⟨L, wg⟩) := by show st.four = _; rw [← hL, ← hwg]
  clear hL hwg
  obtain ⟨F, hF⟩ : ∃ F, w4.heap.size = F := ⟨_, rfl⟩
  have HFe : Hid (w4.heap.size = F) := hF
  have hbF : b < F := by omega
  rw [hF]
  go_loopw [] (fun wr => ∃ (k : Nat) (pv : Value), Hid (PlIn b F w4 i0 i1 i2 i3 L wg k pv wr)) (fun wr => sliceLen (wr.cell? ⟨b, 0, none⟩))
  case atStart =>
    refine ⟨0, .slice none 0 0, ⟨Nat.zero_le _, ?_, ?_, World.ownsRow_nil _ _ _ _, (Fr.refl _ _).alloc _⟩⟩
    · have h := HW4.out.alloc (.cells #[.int .i64 i0, .int .i64 i1, .int .i64 i2, .int .i64 i3, .slice none 0 0] 32)
      rw [HLw.out] at h
      simpa using h
    · have h := Q5.new w4 (.int .i64 i0) (.int .i64 i1) (.int .i64 i2) (.int .i64 i3) (.slice none 0 0) 32
      rwa [HFe.out] at h
  case round =>
    obtain ⟨k, pv, HPl⟩ := hrel
    have hFr : F < wr.heap.size := World.block_lt_of_cell? wr ⟨F, 4, none⟩ HPl.out.q.c4
    have q4 : wr.cell? ⟨F, 4, none⟩ = some pv := HPl.out.q.c4
    have q4f : wr.frozen? ⟨F, 4, none⟩ = false := HPl.out.q.f4
    by_cases hk : k < L.length
    · obtain ⟨x, hx⟩ : ∃ x, L[k]? = some x := ⟨L[k], List.getElem?_eq_getElem hk⟩
      have hd : L.drop k = x :: L.drop (k + 1) := by
        rw [List.drop_eq_getElem_cons hk]
        rw [List.getElem?_eq_getElem hk] at hx
        cases hx; rfl
      have htk : L.take (k + 1) = L.take k ++ [x] := by rw [List.take_add_one, hx]; rfl
      have hwd := HPl.out.wd
      obtain ⟨q, hq⟩ : ∃ q, (wg || !((L.take k).all ptOk)) = q := ⟨_, rfl⟩
      have hq' : (q || !ptOk x) = (wg || !((L.take (k + 1)).all ptOk)) := by
        rw [← hq, htk, List.all_append]
        simp only [List.all_cons, List.all_nil, Bool.and_true]
        cases wg <;> cases (L.take k).all ptOk <;> cases ptOk x <;> rfl
      rw [hq, hd] at hwd
      have hsh : (⟨x :: L.drop (k + 1), q⟩ : Wd).short := fun y hy => by
        have h4 := Wd.short_four HS.out
        rw [HLw.out] at h4
        exact h4 y (List.mem_of_mem_drop (i := k) (by rw [hd]; exact hy))
      have HPc : Hid (∀ W, Below wr.heap.size wr W → Calls Tryz.prog 215 #[.pointer (some ⟨b, 0, none⟩)] W fun e w' => e = .returned (.agg #[.int .i64 (ptOf x).1, .int .i64 (ptOf x).2]) ∧ Hid (WdAt w' b ⟨L.drop (k + 1), wg || !((L.take (k + 1)).all ptOk)⟩) ∧ Fr (OfB b) wr w') := fun W hW => by
        rw [← hq']
        exact (place_any b ⟨x :: L.drop (k + 1), q⟩ hsh W (((HG.out.ofB HF4.out hb).ofB HPl.out.fr hb).below hW ((HG.out.ofB HF4.out hb).ofB HPl.out.fr hb).sz) hb (hwd.below hW (Nat.le_refl _))).mono fun _ _ ⟨he, h1, h2⟩ => ⟨he, h1, (Fr.of_below hW).trans h2⟩
      obtain ⟨⟨sb, off, cap, e0, _⟩, _⟩ := hwd
      simp only [List.length_cons] at e0
      obtain ⟨m, hm⟩ : ∃ m, (L.drop (k + 1)).length = m := ⟨_, rfl⟩
      rw [hm] at e0
      have Hm : Hid ((L.drop (k + 1)).length = m) := hm
      have Hx : Hid (L[k]? = some x ∧ L.take (k + 1) = L.take k ++ [x]) := ⟨hx, htk⟩
      obtain ⟨i29, hi29, hz0, hz1, hz2⟩ := info_parts info29p
      have HI29 : Hid (Tryz.prog.info? 29 = some i29 ∧ i29.zero = some (.agg #[.int .i64 0, .int .i64 0]) ∧ i29.size = 2 ∧ i29.bytes = 16) := ⟨hi29, hz0, hz1, hz2⟩
      clear hi29 hz0 hz1 hz2 hm hx htk hd hsh hq hq'
      have hk3 : k < 1000 := by
        have h1 := Wd.four_len st
        rw [HLw.out] at h1
        have h2 := HLen.out
        dsimp only at h1
        omega
      go_upto_region 3 with fail
      go_region_law (first
        | (go_simp; go_at_call 215; refine Calls.mono (HPc.out _ (by first | exact (Below.refl _ _).drew | exact Below.refl _ _)) ?_; rintro e w5 ⟨rfl, hw5, hf5⟩; dsimp only; have s5 : w5.cell? ⟨F, 4, none⟩ = some pv := (hf5.cell F 4 hFr (fun e => (by have : F = b := e; omega))).trans q4; have hz5 : F < w5.heap.size := Nat.lt_of_lt_of_le hFr hf5.size; have Hod : Hid (w5.ownsRow (F + 1) 29 2 pv k (flatP ((L.take k).map ptOf))) := ownsRow_fr hf5 HPl.out.own (fun c _ hc e => (by have : c = b := e; omega)))
        | (refine step_append_own rfl (.tmp 20) (.tmp 23) 30 rfl (F + 1) 29 i29 (.agg #[.int .i64 0, .int .i64 0]) 2 16 Tryz.underlying30 HI29.out.1 HI29.out.2.1 HI29.out.2.2.1 HI29.out.2.2.2 rfl (by decide) pv k (flatP ((L.take k).map ptOf)) rfl (Hod.out.alloc _) ⟨w5.heap.size, 0, none⟩ 1 1 [.int .i64 (ptOf x).1, .int .i64 (ptOf x).2] rfl rfl (fun j u hj => by
                rw [addr_add]
                match j, hj with
                | 0, hj => simp at hj; subst hj; simp [go_sem]
                | 1, hj => simp at hj; subst hj; simp [go_sem]
                | j + 2, hj => simp at hj) (fun u hu => by simp at hu; rcases hu with hu | hu <;> (subst hu; rfl)) (by unfold maxLen; omega) (by omega) (by simp; omega) ?_; intro v3 w3 hown3 hgrow3; obtain ⟨g3, c3, rfl, hg3, hc3⟩ := ownsRow_more hown3; have Hown3 : Hid (w3.ownsRow (F + 1) 29 2 (.slice (some ⟨g3, 0, none⟩) (k + 1) c3) (k + 1) (flatP ((L.take k).map ptOf) ++ [.int .i64 (ptOf x).1, .int .i64 (ptOf x).2])) := hown3; have hB3 : Below (F + 1) w5 w3 := (((Below.refl _ _).alloc (by omega) _).grown hgrow3 (by simp; omega) (fun k hk => ((Hod.out.lt k hk).1))); have s3 : w3.cell? ⟨F, 4, none⟩ = some pv := (hB3.cell (p := ⟨F, 4, none⟩) (Nat.lt_succ_self F)).trans s5; have fz3 : w3.frozen? ⟨F, 4, none⟩ = false := (hB3.frozen (p := ⟨F, 4, none⟩) (Nat.lt_succ_self F)).trans ((hf5.frozen F 4 hFr (fun e => (by have : F = b := e; omega))).trans q4f); clear hown3 hgrow3))
      all_goals
        go_wp2
        exact ⟨⟨k + 1, _, (PlIn.step HPl.out hk Hx.out.2 HFe.out hbF hw5.out hf5 hB3 Hown3.out).1⟩, (PlIn.step HPl.out hk Hx.out.2 HFe.out hbF hw5.out hf5 hB3 Hown3.out).2⟩
    · obtain ⟨a, cap, rfl, hcap, hpts, hg⟩ := HPl.out.done hk
      have hwd := HPl.out.wd
      have hkl : k = L.length := by have := HPl.out.kl; omega
      rw [hkl, List.drop_length, List.take_length] at hwd
      obtain ⟨n, hn⟩ : ∃ n, L.length = n := ⟨_, rfl⟩
      have Hn : Hid (L.length = n) := hn
      rw [hn] at q4 hcap
      have hn3 : n ≤ 1000 := by
        have h1 := Wd.four_len st
        rw [HLw.out] at h1
        have h2 := HLen.out
        dsimp only at h1
        omega
      have HWd : Hid (WdAt wr b ⟨[], wg || !(L.all ptOk)⟩) := hwd
      have HPt : Hid (PtsAt wr.heap.size wr a (L.map ptOf) ∧ ∀ g o, a = some ⟨g, o, none⟩ → F + 1 ≤ g ∧ o = 0) := ⟨hpts, hg⟩
      have hQ := HPl.out.q
      have HQr : Hid (Q5 wr F (.int .i64 i0) (.int .i64 i1) (.int .i64 i2) (.int .i64 i3) (.slice a n cap)) := by
        show Q5 wr F _ _ _ _ _
        rw [hn] at hQ
        exact hQ
      obtain ⟨⟨sb, off, cp, e0, _⟩, _⟩ := hwd
      simp only [List.length_nil] at e0
      clear hpts hg hkl hQ hn hk
      obtain ⟨q0, q1, q2, q3, _, _, _, _, _, _⟩ := HQr.out
      have HIF : Hid (∀ W, Below wr.heap.size wr W → Calls Tryz.prog 52 #[.agg #[.int .i64 i0, .int .i64 i1, .int .i64 i2, .int .i64 i3, .slice a n cap]] W fun e w' => e = .returned (.bool (validF ⟨i0, i1, i2, i3, L.map ptOf⟩)) ∧ Below W.heap.size W w') := fun W hW =>
        IsFeature_any i0 i1 i2 i3 a n cap (L.map ptOf) W ((HPt.out.1.fr (M := fun _ _ => False) (Fr.of_below hW) (fun _ _ _ _ e => e))) (by rw [List.length_map]; exact Hn.out.symm) (by omega)
      go_wp2_with (first
        | (go_at_call 52; refine Calls.mono (HIF.out _ (by first | exact Below.refl _ _ | exact (Below.refl _ _).drew)) ?_; rintro e w6 ⟨rfl, hb6⟩; dsimp only)
        | (go_at_call 213; refine (check_any b _ _ _ (HWd.out.below hb6 (Nat.le_refl _))).mono ?_; rintro e w7 ⟨rfl, hw7, hb7⟩; dsimp only; have hF7 : Fr (OfB b) wr w7 := (Fr.of_below hb6).trans hb7; obtain ⟨p0, p1, p2, p3, p4, _, _, _, _, _⟩ := HQr.out.fr hF7 (fun i e => (by have : F = b := e; omega)); have hF8 := (HF4.out.trans HPl.out.fr).trans hF7; obtain ⟨r0, r1, r2, r3, r4, g0, g1, g2, g3, g4⟩ := HQ.out.fr hF8 (fun i e => HB.out e)))
      have hl8 := HL.out
      refine bodyPost_ret (v := .agg #[.int .i64 i0, .int .i64 i1, .int .i64 i2, .int .i64 i3, .slice a n cap]) (by simp [results, Tryz.results199, go_sem, r0, r1, r2, r3, r4]) rfl ?_
      refine ⟨a, n, cap, ?_, ?_, hcap, ?_, ?_, ?_, ?_⟩
      · rw [HI.out.1, HI.out.2.1, HI.out.2.2.1, HI.out.2.2.2]
      · rw [HLw.out]; exact Hn.out.symm
      · rw [HLw.out]
        refine (HPt.out.1.fr hF7 (fun g o i e hm => ?_)).fr (set5fr w7 w.heap.size _ _ _ _ _) (fun g o i e hm => ?_)
        · have : g = b := hm
          have := (HPt.out.2 g o e).1
          omega
        · have : g = w.heap.size := hm
          have h1 := (HPt.out.2 g o e).1
          have h2 := HF4.out.size
          rw [World.size_alloc] at h2
          omega
      · intro g o e
        have h1 := HPt.out.2 g o e
        have h2 := HF4.out.size
        rw [World.size_alloc] at h2
        exact ⟨by omega, h1.2⟩
      · rw [HLw.out, HI.out.1, HI.out.2.1, HI.out.2.2.1, HI.out.2.2.2]
        exact hw7.fr (set5fr w7 w.heap.size _ _ _ _ _) (fun c _ hc e => by have : c = w.heap.size := e; omega)
      · exact (((Fr.refl _ w).alloc _).trans hF8).trans_new (set5fr w7 w.heap.size _ _ _ _ _) (fun c _ hc e => by have : c = w.heap.size := e; omega)

end Go.Proofs.YtenaepdmlknlcaaGreatDoor

namespace Go.Proofs.YtenaepdmlknlcaaGreatDoor
open Go.RowKit Go.Shelf

/-- Cells of a block, none of them frozen. -/
def KA (w : World) (b : Nat) (vs : List Value) : Prop := ∀ (i : Nat) v, vs[i]? = some v → w.cell? ⟨b, i, none⟩ = some v ∧ w.frozen? ⟨b, i, none⟩ = false
theorem KA.fr {M : Nat → Nat → Prop} {A B : World} (h : Fr M A B) {b : Nat} {vs : List Value} (k : KA A b vs) (hm : ∀ i, ¬ M b i) : KA B b vs := fun i v e =>
  have hb : b < A.heap.size := World.block_lt_of_cell? A ⟨b, i, none⟩ (k i v e).1
  ⟨(h.cell b i hb (hm i)).trans (k i v e).1, (h.frozen b i hb (hm i)).trans (k i v e).2⟩
theorem KA.new (w : World) (vs : List Value) (t : TypeId) : KA (w.alloc (.cells vs.toArray t)) w.heap.size vs := fun i v e => by
  simp [go_sem, e]

theorem KA.all11 {w : World} {b : Nat} {v0 v1 v2 v3 v4 v5 v6 v7 v8 v9 v10 : Value} (k : KA w b [v0, v1, v2, v3, v4, v5, v6, v7, v8, v9, v10]) : (w.cell? ⟨b, 0, none⟩ = some v0 ∧ w.cell? ⟨b, 1, none⟩ = some v1 ∧ w.cell? ⟨b, 2, none⟩ = some v2 ∧ w.cell? ⟨b, 3, none⟩ = some v3 ∧ w.cell? ⟨b, 4, none⟩ = some v4 ∧ w.cell? ⟨b, 5, none⟩ = some v5 ∧ w.cell? ⟨b, 6, none⟩ = some v6 ∧ w.cell? ⟨b, 7, none⟩ = some v7 ∧ w.cell? ⟨b, 8, none⟩ = some v8 ∧ w.cell? ⟨b, 9, none⟩ = some v9 ∧ w.cell? ⟨b, 10, none⟩ = some v10) ∧ w.frozen? ⟨b, 0, none⟩ = false ∧ w.frozen? ⟨b, 1, none⟩ = false ∧ w.frozen? ⟨b, 2, none⟩ = false ∧ w.frozen? ⟨b, 3, none⟩ = false ∧ w.frozen? ⟨b, 4, none⟩ = false ∧ w.frozen? ⟨b, 5, none⟩ = false ∧ w.frozen? ⟨b, 6, none⟩ = false ∧ w.frozen? ⟨b, 7, none⟩ = false ∧ w.frozen? ⟨b, 8, none⟩ = false ∧ w.frozen? ⟨b, 9, none⟩ = false ∧ w.frozen? ⟨b, 10, none⟩ = false :=
  ⟨⟨(k 0 _ rfl).1, (k 1 _ rfl).1, (k 2 _ rfl).1, (k 3 _ rfl).1, (k 4 _ rfl).1, (k 5 _ rfl).1, (k 6 _ rfl).1, (k 7 _ rfl).1, (k 8 _ rfl).1, (k 9 _ rfl).1, (k 10 _ rfl).1⟩, (k 0 _ rfl).2, (k 1 _ rfl).2, (k 2 _ rfl).2, (k 3 _ rfl).2, (k 4 _ rfl).2, (k 5 _ rfl).2, (k 6 _ rfl).2, (k 7 _ rfl).2, (k 8 _ rfl).2, (k 9 _ rfl).2, (k 10 _ rfl).2⟩
theorem set11fr (w : World) (b : Nat) (u0 u1 u2 u3 u4 u5 u6 u7 u8 u9 u10 : Value) : Fr (OfB b) w (((((((((((w.setCell ⟨b, 0, none⟩ u0).setCell ⟨b, 1, none⟩ u1).setCell ⟨b, 2, none⟩ u2).setCell ⟨b, 3, none⟩ u3).setCell ⟨b, 4, none⟩ u4).setCell ⟨b, 5, none⟩ u5).setCell ⟨b, 6, none⟩ u6).setCell ⟨b, 7, none⟩ u7).setCell ⟨b, 8, none⟩ u8).setCell ⟨b, 9, none⟩ u9).setCell ⟨b, 10, none⟩ u10) := (((((((((((frB b w 0 u0).setCell (b := b) (i := 1) (.inl rfl) u1).setCell (b := b) (i := 2) (.inl rfl) u2).setCell (b := b) (i := 3) (.inl rfl) u3).setCell (b := b) (i := 4) (.inl rfl) u4).setCell (b := b) (i := 5) (.inl rfl) u5).setCell (b := b) (i := 6) (.inl rfl) u6).setCell (b := b) (i := 7) (.inl rfl) u7).setCell (b := b) (i := 8) (.inl rfl) u8).setCell (b := b) (i := 9) (.inl rfl) u9).setCell (b := b) (i := 10) (.inl rfl) u10)

/-- What a request asks for. -/
inductive Rd where
  | bad
  | get (t : Tl) (m : ByteArray)
  | put (f : Feat)
  | del (id : Int)

def zeroR : List Value := [.int .i64 0, .int .i64 0, .int .i64 0, .int .i64 0, .string ⟨#[]⟩, .int .i64 0, .int .i64 0, .int .i64 0, .int .i64 0, .slice none 0 0, .int .i64 0]

def isGet (x : ByteArray) : Bool := x.toList == [103, 101, 116]
def isPut (x : ByteArray) : Bool := x.toList == [112, 117, 116]
def isDel (x : ByteArray) : Bool := x.toList == [100, 101, 108]

theorem get_any (b : Nat) (st : Wd) (hs : st.short) (w : World) (g : Gl w) (hb : 8 ≤ b) (h : WdAt w b st) (hget : isGet st.next.1 = true) :
    Calls Tryz.prog 178 #[.pointer (some ⟨b, 0, none⟩)] w fun e w' => e = .returned (.agg #[.int .i64 1, .int .i64 st.next.2.tile.1.z, .int .i64 st.next.2.tile.1.c, .int .i64 st.next.2.tile.1.r, .string st.next.2.tile.2.mark.1, .int .i64 0, .int .i64 0, .int .i64 0, .int .i64 0, .slice none 0 0, .int .i64 0]) ∧ WdAt w' b st.next.2.tile.2.mark.2 ∧ Fr (OfB b) w w' := by
  have HL : Hid (b < w.heap.size) := h.lt
  have HW : Hid (WdAt (w.alloc (.cells zeroR.toArray 270)) b st) := h.alloc _
  have HG : Hid (Gl (w.alloc (.cells zeroR.toArray 270))) := g.below ((Below.refl _ _).alloc (Nat.le_refl _) _) g.sz
  have HK : Hid (KA (w.alloc (.cells zeroR.toArray 270)) w.heap.size zeroR) := KA.new _ _ _
  have HS : Hid st.next.2.short := (Wd.short_next hs).2
  have HN : Hid _ := next_any b st _ HW.out
  obtain ⟨x, hx⟩ : ∃ x, st.next.1 = x := ⟨_, rfl⟩
  have HX : Hid (st.next.1 = x) := hx
  rw [hx] at hget
  unfold isGet at hget
  clear g h hs hx
  unfold zeroR at HW HG HK HN
  go_enter Tryz.func178, Tryz.ntmps178
  go_wp2_with (first
    | (go_at_call 196; refine Calls.mono HN.out ?_; rintro e w1 ⟨rfl, hw1, hf1⟩; dsimp only; rw [HX.out])
    | (go_at_call 197; refine (tile_any b _ HS.out _ (HG.out.ofB hf1 hb) hb hw1).mono ?_; rintro e w2 ⟨rfl, hw2, hf2⟩; dsimp only; have hF2 := hf1.trans hf2)
    | (go_at_call 198; refine (mark_any b _ _ hw2).mono ?_; rintro e w3 ⟨rfl, hw3, hf3⟩; dsimp only; have hF3 := hF2.trans hf3; obtain ⟨⟨a0, a1, a2, a3, a4, a5, a6, a7, a8, a9, a10⟩, z0, z1, z2, z3, z4, z5, z6, z7, z8, z9, z10⟩ := (HK.out.fr hF3 (fun i e => (by have : w.heap.size = b := e; have := HL.out; omega))).all11))
  exact bodyPost_ret (v := .agg #[.int .i64 1, .int .i64 _, .int .i64 _, .int .i64 _, .string _, .int .i64 0, .int .i64 0, .int .i64 0, .int .i64 0, .slice none 0 0, .int .i64 0]) (by simp [results, Tryz.results178, go_sem, a0, a1, a2, a3, a4, a5, a6, a7, a8, a9, a10]) rfl ⟨rfl, hw3.fr (set11fr w3 w.heap.size _ _ _ _ _ _ _ _ _ _ _) (fun c _ hc e => by have : c = w.heap.size := e; have := HL.out; omega), (((Fr.refl _ w).alloc _).trans hF3).trans_new (set11fr w3 w.heap.size _ _ _ _ _ _ _ _ _ _ _) (fun c _ hc e => by have : c = w.heap.size := e; omega)⟩

/-- What a put's feature is in memory, and the words behind it. -/
def PutMem (b : Nat) (st : Wd) (w : World) (a : Option Addr) (n cap : Nat) (w' : World) : Prop :=
  n = st.four.left.length ∧ n ≤ cap ∧ PtsAt w'.heap.size w' a (st.four.left.map ptOf) ∧ (∀ g o, a = some ⟨g, o, none⟩ → w.heap.size ≤ g ∧ o = 0) ∧
    WdAt w' b ⟨[], (st.four.wrong || !(st.four.left.all ptOk)) || !(validF ⟨st.number.1, st.number.2.kind.1, st.number.2.kind.2.number.1, st.number.2.kind.2.number.2.number.1, st.four.left.map ptOf⟩)⟩ ∧ Fr (OfB b) w w'

theorem del_any (b : Nat) (st : Wd) (hs : st.short) (w : World) (g : Gl w) (hb : 8 ≤ b) (h : WdAt w b st) (h1 : isGet st.next.1 = false) (h2 : isPut st.next.1 = false) (h3 : isDel st.next.1 = true) :
    Calls Tryz.prog 178 #[.pointer (some ⟨b, 0, none⟩)] w fun e w' => e = .returned (.agg #[.int .i64 3, .int .i64 0, .int .i64 0, .int .i64 0, .string ⟨#[]⟩, .int .i64 0, .int .i64 0, .int .i64 0, .int .i64 0, .slice none 0 0, .int .i64 st.next.2.id.1]) ∧ WdAt w' b st.next.2.id.2 ∧ Fr (OfB b) w w' := by
  have HL : Hid (b < w.heap.size) := h.lt
  have HW : Hid (WdAt (w.alloc (.cells zeroR.toArray 270)) b st) := h.alloc _
  have HG : Hid (Gl (w.alloc (.cells zeroR.toArray 270))) := g.below ((Below.refl _ _).alloc (Nat.le_refl _) _) g.sz
  have HK : Hid (KA (w.alloc (.cells zeroR.toArray 270)) w.heap.size zeroR) := KA.new _ _ _
  have HS : Hid st.next.2.short := (Wd.short_next hs).2
  have HN : Hid _ := next_any b st _ HW.out
  obtain ⟨x, hx⟩ : ∃ x, st.next.1 = x := ⟨_, rfl⟩
  have HX : Hid (st.next.1 = x) := hx
  rw [hx] at h1 h2 h3
  unfold isGet at h1
  unfold isPut at h2
  unfold isDel at h3
  clear g h hs hx
  unfold zeroR at HW HG HK HN
  go_enter Tryz.func178, Tryz.ntmps178
  go_wp2_with (first
    | (go_at_call 196; refine Calls.mono HN.out ?_; rintro e w1 ⟨rfl, hw1, hf1⟩; dsimp only; rw [HX.out])
    | (go_at_call 200; refine (id_any b _ HS.out _ (HG.out.ofB hf1 hb) hb hw1).mono ?_; rintro e w2 ⟨rfl, hw2, hf2⟩; dsimp only; have hF2 := hf1.trans hf2; obtain ⟨⟨a0, a1, a2, a3, a4, a5, a6, a7, a8, a9, a10⟩, z0, z1, z2, z3, z4, z5, z6, z7, z8, z9, z10⟩ := (HK.out.fr hF2 (fun i e => (by have : w.heap.size = b := e; have := HL.out; omega))).all11))
  exact bodyPost_ret (v := .agg #[.int .i64 3, .int .i64 0, .int .i64 0, .int .i64 0, .string ⟨#[]⟩, .int .i64 0, .int .i64 0, .int .i64 0, .int .i64 0, .slice none 0 0, .int .i64 _]) (by simp [results, Tryz.results178, go_sem, a0, a1, a2, a3, a4, a5, a6, a7, a8, a9, a10]) rfl ⟨rfl, hw2.fr (set11fr w2 w.heap.size _ _ _ _ _ _ _ _ _ _ _) (fun c _ hc e => by have : c = w.heap.size := e; have := HL.out; omega), (((Fr.refl _ w).alloc _).trans hF2).trans_new (set11fr w2 w.heap.size _ _ _ _ _ _ _ _ _ _ _) (fun c _ hc e => by have : c = w.heap.size := e; omega)⟩

theorem other_any (b : Nat) (st : Wd) (hs : st.short) (w : World) (g : Gl w) (_hb : 8 ≤ b) (h : WdAt w b st) (h1 : isGet st.next.1 = false) (h2 : isPut st.next.1 = false) (h3 : isDel st.next.1 = false) :
    Calls Tryz.prog 178 #[.pointer (some ⟨b, 0, none⟩)] w fun e w' => e = .returned (.agg zeroR.toArray) ∧ WdAt w' b ⟨st.next.2.left, true⟩ ∧ Fr (OfB b) w w' := by
  have HL : Hid (b < w.heap.size) := h.lt
  have HW : Hid (WdAt (w.alloc (.cells zeroR.toArray 270)) b st) := h.alloc _
  have HG : Hid (Gl (w.alloc (.cells zeroR.toArray 270))) := g.below ((Below.refl _ _).alloc (Nat.le_refl _) _) g.sz
  have HK : Hid (KA (w.alloc (.cells zeroR.toArray 270)) w.heap.size zeroR) := KA.new _ _ _
  have HS : Hid st.next.2.short := (Wd.short_next hs).2
  have HN : Hid _ := next_any b st _ HW.out
  obtain ⟨x, hx⟩ : ∃ x, st.next.1 = x := ⟨_, rfl⟩
  have HX : Hid (st.next.1 = x) := hx
  rw [hx] at h1 h2 h3
  unfold isGet at h1
  unfold isPut at h2
  unfold isDel at h3
  clear g h hs hx
  unfold zeroR at HW HG HK HN
  go_enter Tryz.func178, Tryz.ntmps178
  go_wp2_with (first
    | (go_at_call 196; refine Calls.mono HN.out ?_; rintro e w1 ⟨rfl, hw1, hf1⟩; dsimp only; rw [HX.out]; have c1 := hw1.c1; have f1 := hw1.f1; obtain ⟨⟨a0, a1, a2, a3, a4, a5, a6, a7, a8, a9, a10⟩, z0, z1, z2, z3, z4, z5, z6, z7, z8, z9, z10⟩ := (HK.out.fr (hf1.trans (frB b w1 1 (.bool true))) (fun i e => (by have : w.heap.size = b := e; have := HL.out; omega))).all11))
  exact bodyPost_ret (v := .agg #[.int .i64 0, .int .i64 0, .int .i64 0, .int .i64 0, .string ⟨#[]⟩, .int .i64 0, .int .i64 0, .int .i64 0, .int .i64 0, .slice none 0 0, .int .i64 0]) (by simp [results, Tryz.results178, go_sem, a0, a1, a2, a3, a4, a5, a6, a7, a8, a9, a10]) rfl ⟨rfl, hw1.bad.fr (set11fr _ w.heap.size _ _ _ _ _ _ _ _ _ _ _) (fun c _ hc e => by have : c = w.heap.size := e; have := HL.out; omega), (((Fr.refl _ w).alloc _).trans (hf1.trans (frB b w1 1 (.bool true)))).trans_new (set11fr _ w.heap.size _ _ _ _ _ _ _ _ _ _ _) (fun c _ hc e => by have : c = w.heap.size := e; omega)⟩

theorem put_any (b : Nat) (st : Wd) (hs : st.short) (w : World) (g : Gl w) (hb : 8 ≤ b) (h : WdAt w b st) (hlen : st.left.length ≤ 1000) (h1 : isGet st.next.1 = false) (h2 : isPut st.next.1 = true) :
    Calls Tryz.prog 178 #[.pointer (some ⟨b, 0, none⟩)] w fun e w' => ∃ (a : Option Addr) (n cap : Nat), e = .returned (.agg #[.int .i64 2, .int .i64 0, .int .i64 0, .int .i64 0, .string ⟨#[]⟩, .int .i64 st.next.2.number.1, .int .i64 st.next.2.number.2.kind.1, .int .i64 st.next.2.number.2.kind.2.number.1, .int .i64 st.next.2.number.2.kind.2.number.2.number.1, .slice a n cap, .int .i64 0]) ∧ Hid (PutMem b st.next.2 w a n cap w') := by
  have HL : Hid (b < w.heap.size) := h.lt
  have HW : Hid (WdAt (w.alloc (.cells zeroR.toArray 270)) b st) := h.alloc _
  have HG : Hid (Gl (w.alloc (.cells zeroR.toArray 270))) := g.below ((Below.refl _ _).alloc (Nat.le_refl _) _) g.sz
  have HK : Hid (KA (w.alloc (.cells zeroR.toArray 270)) w.heap.size zeroR) := KA.new _ _ _
  have HS : Hid st.next.2.short := (Wd.short_next hs).2
  have HN : Hid _ := next_any b st _ HW.out
  obtain ⟨x, hx⟩ : ∃ x, st.next.1 = x := ⟨_, rfl⟩
  have HX : Hid (st.next.1 = x) := hx
  have HQ : Hid (st.next.2.left.length ≤ 1000) := Nat.le_trans (Wd.next_len st) hlen
  rw [hx] at h1 h2
  unfold isGet at h1
  unfold isPut at h2
  clear g h hs hx hlen
  unfold zeroR at HW HG HK HN
  go_enter Tryz.func178, Tryz.ntmps178
  go_wp2_with (first
    | (go_at_call 196; refine Calls.mono HN.out ?_; rintro e w1 ⟨rfl, hw1, hf1⟩; dsimp only; rw [HX.out])
    | (go_at_call 199; refine Calls.mono (feature_any b _ HS.out HQ.out _ (HG.out.ofB hf1 hb) hb hw1) ?_; rintro e w2 ⟨a, n, cap, rfl, hm⟩; have HM : Hid _ := hm; clear hm; dsimp only; have hF2 := hf1.trans HM.out.2.2.2.2.2; obtain ⟨⟨a0, a1, a2, a3, a4, a5, a6, a7, a8, a9, a10⟩, z0, z1, z2, z3, z4, z5, z6, z7, z8, z9, z10⟩ := (HK.out.fr hF2 (fun i e => (by have : w.heap.size = b := e; have := HL.out; omega))).all11))
  have hl := HL.out
  have hs1 := hf1.size
  rw [World.size_alloc] at hs1
  obtain ⟨m1, m2, m3, m4, m5, m6⟩ := HM.out
  refine bodyPost_ret (v := .agg #[.int .i64 2, .int .i64 0, .int .i64 0, .int .i64 0, .string ⟨#[]⟩, .int .i64 _, .int .i64 _, .int .i64 _, .int .i64 _, .slice a n cap, .int .i64 0]) (by simp [results, Tryz.results178, go_sem, a0, a1, a2, a3, a4, a5, a6, a7, a8, a9, a10]) rfl ⟨a, n, cap, rfl, m1, m2, ?_, ?_, ?_, ?_⟩
  · exact m3.fr (set11fr w2 w.heap.size _ _ _ _ _ _ _ _ _ _ _) (fun g o i e hm => by have : g = w.heap.size := hm; have := (m4 g o e).1; omega)
  · exact fun g o e => ⟨by have := (m4 g o e).1; omega, (m4 g o e).2⟩
  · exact m5.fr (set11fr w2 w.heap.size _ _ _ _ _ _ _ _ _ _ _) (fun c _ hc e => by have : c = w.heap.size := e; omega)
  · exact (((Fr.refl _ w).alloc _).trans hF2).trans_new (set11fr w2 w.heap.size _ _ _ _ _ _ _ _ _ _ _) (fun c _ hc e => by have : c = w.heap.size := e; omega)

end Go.Proofs.YtenaepdmlknlcaaGreatDoor
