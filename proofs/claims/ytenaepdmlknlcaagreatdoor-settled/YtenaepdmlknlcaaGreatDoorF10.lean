import Derived.Test.YtenaepdmlknlcaaGreatDoorF09
import Derived.Lib.SplitLaws
import Derived.Lib.SliceRun
import Derived.Deep.RegionLaw
namespace Go.Proofs.YtenaepdmlknlcaaGreatDoor
open Go.RowKit Go.Shelf

/-- The words of a text. -/
def wordsOf (s : ByteArray) : List ByteArray := Lib.splitB ⟨#[32]⟩ 0 (Lib.countB s ⟨#[32]⟩) s

theorem extract_size_le (s : ByteArray) (i j : Nat) : (s.extract i j).size ≤ s.size := by
  rw [ByteArray.size_extract]
  omega

theorem splitB_size (sep : ByteArray) (k : Nat) : ∀ (s x : ByteArray), x ∈ Lib.splitB sep 0 k s → x.size ≤ s.size := by
  induction k with
  | zero => intro s x hx; simp [Lib.splitB] at hx; subst hx; exact Nat.le_refl _
  | succ k ih =>
    intro s x hx
    unfold Lib.splitB at hx
    split at hx
    · simp at hx; subst hx; exact Nat.le_refl _
    · rw [List.mem_cons] at hx
      rcases hx with rfl | hx
      · exact extract_size_le _ _ _
      · exact Nat.le_trans (ih _ x hx) (extract_size_le _ _ _)

theorem wordsOf_len (s : ByteArray) : (wordsOf s).length = Lib.countB s ⟨#[32]⟩ + 1 := Lib.splitB_all _ (by decide) 0 _ _ rfl
theorem words_short (s : ByteArray) (h : s.size ≤ 200) (q : Bool) : (⟨wordsOf s, q⟩ : Wd).short := fun x hx => Nat.le_trans (splitB_size _ _ _ _ hx) (by omega)

def putOf (t : Wd) : Feat := ⟨t.number.1, t.number.2.kind.1, t.number.2.kind.2.number.1, t.number.2.kind.2.number.2.number.1, t.four.left.map ptOf⟩
def putWrong (t : Wd) : Bool := (t.four.wrong || !(t.four.left.all ptOk)) || !(validF (putOf t))

/-- What the text of a request asks for. -/
def readW (t : Wd) : Rd :=
  if isGet t.next.1 = true then (if t.next.2.tile.2.mark.2.wrong = true ∨ t.next.2.tile.2.mark.2.left ≠ [] then .bad else .get t.next.2.tile.1 t.next.2.tile.2.mark.1)
  else if isPut t.next.1 = true then (if putWrong t.next.2 = true then .bad else .put (putOf t.next.2))
  else if isDel t.next.1 = true then (if t.next.2.id.2.wrong = true ∨ t.next.2.id.2.left ≠ [] then .bad else .del t.next.2.id.1)
  else .bad
def readP (s : ByteArray) : Rd := readW ⟨wordsOf s, false⟩

/-- A request, as a value; what it points at is newer than w. -/
def RdVal (n0 : Nat) (w' : World) : Rd → Array Value → Prop
  | .bad, vs => vs = zeroR.toArray
  | .get t m, vs => vs = #[.int .i64 1, .int .i64 t.z, .int .i64 t.c, .int .i64 t.r, .string m, .int .i64 0, .int .i64 0, .int .i64 0, .int .i64 0, .slice none 0 0, .int .i64 0]
  | .put f, vs => ∃ (a : Option Addr) (n cap : Nat), vs = #[.int .i64 2, .int .i64 0, .int .i64 0, .int .i64 0, .string ⟨#[]⟩, .int .i64 f.id, .int .i64 f.kd, .int .i64 f.ht, .int .i64 f.col, .slice a n cap, .int .i64 0] ∧ n = f.ps.length ∧ n ≤ cap ∧ PtsAt w'.heap.size w' a f.ps ∧ ∀ g o, a = some ⟨g, o, none⟩ → n0 ≤ g ∧ o = 0
  | .del id, vs => vs = #[.int .i64 3, .int .i64 0, .int .i64 0, .int .i64 0, .string ⟨#[]⟩, .int .i64 0, .int .i64 0, .int .i64 0, .int .i64 0, .slice none 0 0, .int .i64 id]

/-- What request does with words at block b: a value, the words that are left. -/
def ReqOut (b : Nat) (st : Wd) (w : World) (e : Ending) (w' : World) : Prop :=
  ∃ (i0 i1 i2 i3 : Int) (m : ByteArray) (i5 i6 i7 i8 : Int) (a : Option Addr) (n cap : Nat) (i10 : Int) (t : Wd), e = .returned (.agg #[.int .i64 i0, .int .i64 i1, .int .i64 i2, .int .i64 i3, .string m, .int .i64 i5, .int .i64 i6, .int .i64 i7, .int .i64 i8, .slice a n cap, .int .i64 i10]) ∧ WdAt w' b t ∧ Fr (OfB b) w w' ∧ ((t.wrong = true ∨ t.left ≠ []) → readW st = .bad) ∧ (¬ (t.wrong = true ∨ t.left ≠ []) → RdVal w.heap.size w' (readW st) #[.int .i64 i0, .int .i64 i1, .int .i64 i2, .int .i64 i3, .string m, .int .i64 i5, .int .i64 i6, .int .i64 i7, .int .i64 i8, .slice a n cap, .int .i64 i10])

theorem request_any (b : Nat) (st : Wd) (hs : st.short) (hlen : st.left.length ≤ 1000) (w : World) (g : Gl w) (hb : 8 ≤ b) (h : WdAt w b st) :
    Calls Tryz.prog 178 #[.pointer (some ⟨b, 0, none⟩)] w (ReqOut b st w) := by
  by_cases h1 : isGet st.next.1 = true
  · refine (get_any b st hs w g hb h h1).mono ?_
    rintro e w' ⟨rfl, hw, hf⟩
    exact ⟨_, _, _, _, _, _, _, _, _, _, _, _, _, _, rfl, hw, hf, fun e => by rw [readW, if_pos h1, if_pos e], fun e => by rw [readW, if_pos h1, if_neg e]; rfl⟩
  · have h1' : isGet st.next.1 = false := by simpa using h1
    by_cases h2 : isPut st.next.1 = true
    · refine (put_any b st hs w g hb h hlen h1' h2).mono ?_
      rintro e w' ⟨a, n, cap, rfl, m1, m2, m3, m4, m5, m6⟩
      refine ⟨_, _, _, _, _, _, _, _, _, _, _, _, _, _, rfl, m5, m6, fun e => ?_, fun e => ?_⟩
      · have e' : putWrong st.next.2 = true := e.elim id (fun h => absurd rfl h)
        rw [readW, if_neg h1, if_pos h2, if_pos e']
      · have e' : ¬ putWrong st.next.2 = true := fun h => e (.inl h)
        rw [readW, if_neg h1, if_pos h2, if_neg e']
        exact ⟨a, n, cap, rfl, by rw [m1]; simp [putOf], m2, m3, m4⟩
    · have h2' : isPut st.next.1 = false := by simpa using h2
      by_cases h3 : isDel st.next.1 = true
      · refine (del_any b st hs w g hb h h1' h2' h3).mono ?_
        rintro e w' ⟨rfl, hw, hf⟩
        exact ⟨_, _, _, _, _, _, _, _, _, _, _, _, _, _, rfl, hw, hf, fun e => by rw [readW, if_neg h1, if_neg h2, if_pos h3, if_pos e], fun e => by rw [readW, if_neg h1, if_neg h2, if_pos h3, if_neg e]; rfl⟩
      · have h3' : isDel st.next.1 = false := by simpa using h3
        refine (other_any b st hs w g hb h h1' h2' h3').mono ?_
        rintro e w' ⟨rfl, hw, hf⟩
        exact ⟨_, _, _, _, _, _, _, _, _, _, _, _, _, _, rfl, hw, hf, fun e => by rw [readW, if_neg h1, if_neg h2, if_neg h3], fun e => absurd (.inl rfl) e⟩

theorem RdVal_bad (n0 : Nat) (w' : World) : RdVal n0 w' .bad #[.int .i64 0, .int .i64 0, .int .i64 0, .int .i64 0, .string ⟨#[]⟩, .int .i64 0, .int .i64 0, .int .i64 0, .int .i64 0, .slice none 0 0, .int .i64 0] := rfl

theorem RdVal.fr {M : Nat → Nat → Prop} {A B : World} (hf : Fr M A B) {n0 n1 : Nat} {r : Rd} {vs : Array Value} (h : RdVal n0 A r vs) (hM : ∀ g i, n0 ≤ g → ¬ M g i) (hn : n1 ≤ n0) : RdVal n1 B r vs := by
  cases r with
  | bad => exact h
  | get t m => exact h
  | del id => exact h
  | put f =>
    obtain ⟨a, n, cap, e, h1, h2, h3, h4⟩ := h
    exact ⟨a, n, cap, e, h1, h2, h3.fr hf (fun g o i ea => hM g i (h4 g o ea).1), fun g o ea => ⟨Nat.le_trans hn (h4 g o ea).1, (h4 g o ea).2⟩⟩

/-- The words of a text, as they are laid down. -/
theorem Split_any (s : ByteArray) (hs : s.size ≤ 200) (w : World) (g : Gl w) :
    Calls Tryz.prog 177 #[.string s, .string ⟨#[32]⟩] w fun e w' => ∃ n, n = (wordsOf s).length ∧ e = .returned (.slice (some ⟨w.heap.size, 0, none⟩) n n) ∧ Below w.heap.size w w' ∧ w'.heap.size = w.heap.size + 1 ∧ ∀ (i : Nat) x, (wordsOf s)[i]? = some x → w'.cell? ⟨w.heap.size, i, none⟩ = some (.string x) := by
  obtain ⟨m, hm⟩ := g.m1
  refine (Tryz.strings_Split s ⟨#[32]⟩ m w (Nat.lt_of_le_of_lt hs (by decide)) hm (by decide)).mono ?_
  rintro e w' ⟨rfl, rfl⟩
  refine ⟨_, rfl, ?_, (Below.refl _ _).alloc (Nat.le_refl _) _, by simp, fun i x e => ?_⟩
  · rw [wordsOf_len]
  · have e' : (Lib.splitB ⟨#[32]⟩ 0 (Lib.countB s ⟨#[32]⟩) s)[i]? = some x := e
    simp [go_sem, e']

theorem words_at {w' : World} {s : ByteArray} {sb n : Nat} (hn : n = (wordsOf s).length) (hsb : sb < w'.heap.size) (hc : ∀ (i : Nat) x, (wordsOf s)[i]? = some x → w'.cell? ⟨sb, i, none⟩ = some (.string x)) :
    WdAt (w'.alloc (.cells #[.slice (some ⟨sb, 0, none⟩) n n, .bool false] 297)) w'.heap.size ⟨wordsOf s, false⟩ := by
  refine ⟨⟨sb, 0, n, by rw [← hn]; simp [go_sem], by rw [hn]; exact Nat.le_refl _, hsb, fun i x e => ?_⟩, by simp [go_sem], by simp [go_sem], by simp [go_sem]⟩
  rw [Nat.zero_add]
  exact (((Below.refl w'.heap.size w').alloc (Nat.le_refl _) _).cell (p := ⟨sb, i, none⟩) hsb).trans (hc i x e)

set_option maxRecDepth 100000 in
set_option maxHeartbeats 1000000 in
theorem Read_any (s : ByteArray) (hs : s.size ≤ 200) (w : World) (g : Gl w) :
    Calls Tryz.prog 152 #[.string s] w fun e w' => ∃ vs : Array Value, e = .returned (.agg vs) ∧ RdVal w.heap.size w' (readP s) vs ∧ Below w.heap.size w w' := by
  have HS : Hid (s.size ≤ 200) := hs
  have HG : Hid (Gl (w.alloc (.cells #[.int .i64 0, .int .i64 0, .int .i64 0, .int .i64 0, .string ⟨#[]⟩, .int .i64 0, .int .i64 0, .int .i64 0, .int .i64 0, .slice none 0 0, .int .i64 0] 270))) := g.below ((Below.refl _ _).alloc (Nat.le_refl _) _) g.sz
  have HK : Hid (KA (w.alloc (.cells #[.int .i64 0, .int .i64 0, .int .i64 0, .int .i64 0, .string ⟨#[]⟩, .int .i64 0, .int .i64 0, .int .i64 0, .int .i64 0, .slice none 0 0, .int .i64 0] 270)) w.heap.size zeroR) := KA.new w zeroR 270
  have hg7 := g.sz
  have HLn : Hid ((wordsOf s).length ≤ 1000) := by
    show (wordsOf s).length ≤ 1000
    rw [wordsOf_len]
    have := Lib.countB_le ⟨#[32]⟩ (by decide) _ s (Nat.le_refl _)
    omega
  clear g hs
  go_enter Tryz.func152, Tryz.ntmps152
  go_wp2_with (first
    | (go_at_call 177; refine Calls.mono (Split_any s HS.out _ HG.out) ?_; rintro e w1 ⟨n1, hn1, rfl, hb1, hz1, hc1⟩; have HN1 : Hid (n1 = (wordsOf s).length) := hn1; clear hn1; rw [World.size_alloc]; rw [World.size_alloc] at hc1 hz1; have HC1 : Hid (∀ (i : Nat) x, (wordsOf s)[i]? = some x → w1.cell? ⟨w.heap.size + 1, i, none⟩ = some (.string x)) := hc1; clear hc1; dsimp only)
    | (go_at_call 178; have hwd := words_at HN1.out (show w.heap.size + 1 < w1.heap.size by omega) HC1.out; rw [hz1] at hwd; refine Calls.mono (request_any _ _ (words_short s HS.out false) HLn.out _ ((HG.out.below hb1 HG.out.sz).below ((Below.refl _ _).alloc (Nat.le_refl _) _) (HG.out.below hb1 HG.out.sz).sz) (by omega) hwd) ?_; rintro e w2 ⟨i0, i1, i2, i3, m, i5, i6, i7, i8, a, n, cap, i10, t, rfl, hw2, hf2, hbad, hgood⟩; have HB : Hid _ := hbad; have HGd : Hid _ := hgood; have HW2 : Hid _ := hw2; clear hwd hbad hgood; have hz2 : w.heap.size + 1 + 1 < w2.heap.size := hw2.lt; have hz3 : w.heap.size < w2.heap.size := (by omega); obtain ⟨⟨sb, off, cp, e0, _⟩, e1, _, _⟩ := hw2; have hF2 : Fr (OfB (w.heap.size + 1 + 1)) (w.alloc (.cells #[.int .i64 0, .int .i64 0, .int .i64 0, .int .i64 0, .string ⟨#[]⟩, .int .i64 0, .int .i64 0, .int .i64 0, .int .i64 0, .slice none 0 0, .int .i64 0] 270)) w2 := ((Fr.of_below hb1).alloc _).trans hf2; obtain ⟨⟨a0, a1, a2, a3, a4, a5, a6, a7, a8, a9, a10⟩, z0, z1, z2, z3, z4, z5, z6, z7, z8, z9, z10⟩ := KA.all11 (HK.out.fr hF2 (fun i e => (by have : w.heap.size = w.heap.size + 1 + 1 := e; omega))); dsimp only))
  all_goals
    have hBel : ∀ (o : Obj) (u0 u1 u2 u3 u4 u5 u6 u7 u8 u9 u10 : Value), Below w.heap.size w ((((((((((((w2.setCell ⟨w.heap.size, 0, none⟩ u0).setCell ⟨w.heap.size, 1, none⟩ u1).setCell ⟨w.heap.size, 2, none⟩ u2).setCell ⟨w.heap.size, 3, none⟩ u3).setCell ⟨w.heap.size, 4, none⟩ u4).setCell ⟨w.heap.size, 5, none⟩ u5).setCell ⟨w.heap.size, 6, none⟩ u6).setCell ⟨w.heap.size, 7, none⟩ u7).setCell ⟨w.heap.size, 8, none⟩ u8).setCell ⟨w.heap.size, 9, none⟩ u9).setCell ⟨w.heap.size, 10, none⟩ u10).alloc o) := fun o u0 u1 u2 u3 u4 u5 u6 u7 u8 u9 u10 =>
      ((((Below.refl _ w).alloc (Nat.le_refl _) _).trans (hF2.below (by simp) (fun c i hc e => by have : c = w.heap.size + 1 + 1 := e; omega))).trans ((set11fr w2 w.heap.size u0 u1 u2 u3 u4 u5 u6 u7 u8 u9 u10).below (by omega) (fun c i hc e => by have : c = w.heap.size := e; omega))).alloc (Nat.le_trans (Nat.le_of_lt hz3) (set11fr w2 w.heap.size u0 u1 u2 u3 u4 u5 u6 u7 u8 u9 u10).size) o
  · rename_i hw
    have hr : readP s = .bad := HB.out (.inl hw)
    rw [hr]
    exact bodyPost_ret (v := .agg #[.int .i64 0, .int .i64 0, .int .i64 0, .int .i64 0, .string ⟨#[]⟩, .int .i64 0, .int .i64 0, .int .i64 0, .int .i64 0, .slice none 0 0, .int .i64 0]) (by simp [results, Tryz.results152, go_sem, hz3, a0, a1, a2, a3, a4, a5, a6, a7, a8, a9, a10]) rfl ⟨_, rfl, RdVal_bad _ _, hBel _ _ _ _ _ _ _ _ _ _ _ _⟩
  · rename_i hw hl
    have hr : readP s = .bad := HB.out (.inr (fun e => by rw [e] at hl; exact absurd hl (by decide)))
    rw [hr]
    exact bodyPost_ret (v := .agg #[.int .i64 0, .int .i64 0, .int .i64 0, .int .i64 0, .string ⟨#[]⟩, .int .i64 0, .int .i64 0, .int .i64 0, .int .i64 0, .slice none 0 0, .int .i64 0]) (by simp [results, Tryz.results152, go_sem, hz3, a0, a1, a2, a3, a4, a5, a6, a7, a8, a9, a10]) rfl ⟨_, rfl, RdVal_bad _ _, hBel _ _ _ _ _ _ _ _ _ _ _ _⟩
  · rename_i hw hl
    have hgd := HGd.out (fun e => e.elim hw (fun e => e (List.length_eq_zero_iff.1 (by omega))))
    refine bodyPost_ret (v := .agg #[.int .i64 i0, .int .i64 i1, .int .i64 i2, .int .i64 i3, .string m, .int .i64 i5, .int .i64 i6, .int .i64 i7, .int .i64 i8, .slice a n cap, .int .i64 i10]) (by simp [results, Tryz.results152, go_sem, hz3, a0, a1, a2, a3, a4, a5, a6, a7, a8, a9, a10]) rfl ⟨_, rfl, ?_, hBel _ _ _ _ _ _ _ _ _ _ _ _⟩
    refine RdVal.fr (M := OfB w.heap.size) ((set11fr w2 w.heap.size _ _ _ _ _ _ _ _ _ _ _).alloc _) hgd (fun g i hg e => ?_) (by simp; omega)
    have : g = w.heap.size := e
    simp at hg
    omega

end Go.Proofs.YtenaepdmlknlcaaGreatDoor

namespace Go.Proofs.YtenaepdmlknlcaaGreatDoor
open Go.RowKit Go.Shelf

/-- A tile that is kept, with its body. -/
structure Kp where
  t : Tl
  body : ByteArray

def flatK : List Kp → List Value
  | [] => []
  | k :: ks => .int .i64 k.t.z :: .int .i64 k.t.c :: .int .i64 k.t.r :: .string k.body :: flatK ks

def KepAt (w : World) (g : Nat) (ks : List Kp) : Prop := ∀ (i : Nat) k, ks[i]? = some k → w.cell? ⟨g, i * 4, none⟩ = some (.int .i64 k.t.z) ∧ w.cell? ⟨g, i * 4 + 1, none⟩ = some (.int .i64 k.t.c) ∧ w.cell? ⟨g, i * 4 + 2, none⟩ = some (.int .i64 k.t.r) ∧ w.cell? ⟨g, i * 4 + 3, none⟩ = some (.string k.body)

/-- take's own function: is it the tile? -/
theorem isTile_cl (T : Nat) (t : Tl) (k : Kp) (w : World) (h0 : w.cell? ⟨T, 0, none⟩ = some (.int .i64 t.z)) (h1 : w.cell? ⟨T, 1, none⟩ = some (.int .i64 t.c)) (h2 : w.cell? ⟨T, 2, none⟩ = some (.int .i64 t.r)) :
    Calls Tryz.prog 219 #[.agg #[.int .i64 k.t.z, .int .i64 k.t.c, .int .i64 k.t.r, .string k.body], .pointer (some ⟨T, 0, none⟩)] w fun e w' => e = .returned (.bool (decide (k.t = t))) ∧ Below w.heap.size w w' := by
  have hT := World.block_lt_of_cell? w ⟨T, 0, none⟩ h0
  obtain ⟨⟨kz, kc, kr⟩, body⟩ := k
  obtain ⟨z, c, r⟩ := t
  dsimp only at h0 h1 h2 ⊢
  go_enter Tryz.func219, Tryz.ntmps219
  go_wp2
  all_goals
    go_ret
    exact ⟨rfl, (Below.refl _ _).alloc (Nat.le_refl _) _⟩

/-- Where the tile is among those that are kept. -/
def tileIx (t : Tl) (ks : List Kp) : Option Nat := ks.findIdx? fun k => decide (k.t = t)

def ixV (t : Tl) (ks : List Kp) : Int := match tileIx t ks with | some i => (i : Int) | none => -1
theorem tileIx_hit {t : Tl} {ks : List Kp} {k : Nat} {x : Kp} (h : ∀ j y, j < k → ks[j]? = some y → ¬ y.t = t) (hx : ks[k]? = some x) (e : x.t = t) : tileIx t ks = some k := by
  unfold tileIx
  rw [List.findIdx?_eq_some_iff_getElem]
  obtain ⟨hk, hx'⟩ := List.getElem?_eq_some_iff.1 hx
  refine ⟨hk, by rw [hx']; simpa using e, fun j hj => ?_⟩
  have := h j _ hj (List.getElem?_eq_getElem (by omega))
  simpa using this
theorem tileIx_none {t : Tl} {ks : List Kp} (h : ∀ j y, j < ks.length → ks[j]? = some y → ¬ y.t = t) : tileIx t ks = none := by
  unfold tileIx
  rw [List.findIdx?_eq_none_iff]
  intro x hx
  obtain ⟨j, hj, e⟩ := List.mem_iff_getElem.1 hx
  have := h j x hj (by rw [List.getElem?_eq_getElem hj, e])
  simpa using this

theorem KepAt.below {n : Nat} {A B : World} (h : Below n A B) {g : Nat} {ks : List Kp} (hg : g < n) (k : KepAt A g ks) : KepAt B g ks := fun i x e =>
  have hc := fun o => h.cell (p := ⟨g, o, none⟩) hg
  ⟨(hc _).trans (k i x e).1, (hc _).trans (k i x e).2.1, (hc _).trans (k i x e).2.2.1, (hc _).trans (k i x e).2.2.2⟩

set_option maxHeartbeats 1000000 in
theorem IndexFunc_any (T : Nat) (t : Tl) (a : Option Addr) (n cap : Nat) (ks : List Kp) (w : World) (hn : n = ks.length) (hcap : n ≤ cap) (hn9 : n ≤ 1000000) (ha : ks = [] ∨ ∃ g, a = some ⟨g, 0, none⟩ ∧ g < w.heap.size ∧ KepAt w g ks) (hT : T < w.heap.size) (h0 : w.cell? ⟨T, 0, none⟩ = some (.int .i64 t.z)) (h1 : w.cell? ⟨T, 1, none⟩ = some (.int .i64 t.c)) (h2 : w.cell? ⟨T, 2, none⟩ = some (.int .i64 t.r)) :
    Calls Tryz.prog 218 #[.slice a n cap, .func (.func 219) #[] #[.pointer (some ⟨T, 0, none⟩)]] w fun e w' => e = .returned (.int .i64 (ixV t ks)) ∧ Below w.heap.size w w' := by
  have HT : Hid (w.cell? ⟨T, 0, none⟩ = some (.int .i64 t.z) ∧ w.cell? ⟨T, 1, none⟩ = some (.int .i64 t.c) ∧ w.cell? ⟨T, 2, none⟩ = some (.int .i64 t.r)) := ⟨h0, h1, h2⟩
  have Hn : Hid (n = ks.length) := hn
  have HA : Hid (ks = [] ∨ ∃ g, a = some ⟨g, 0, none⟩ ∧ g < w.heap.size ∧ KepAt w g ks) := ha
  clear h0 h1 h2 hn ha
  go_enter Tryz.func218, Tryz.ntmps218
  go_wp2_with fail
  go_loopw [8] (fun i wr => ∃ k : Nat, k ≤ n ∧ i = .int .i64 k ∧ Hid (∀ j x, j < k → ks[j]? = some x → ¬ x.t = t) ∧ Below w.heap.size w wr) (fun i _ => n - (intOf i).toNat)
  case atStart => exact ⟨0, by omega, rfl, fun j x hj => by omega, Below.refl _ _⟩
  case round =>
    obtain ⟨k, hk, rfl, HJ, hB⟩ := hrel
    by_cases hlt : k < n
    · obtain ⟨x, hx⟩ : ∃ x, ks[k]? = some x := ⟨ks[k]'(by rw [← Hn.out]; exact hlt), List.getElem?_eq_getElem _⟩
      obtain ⟨g, rfl, hg, hK⟩ := HA.out.resolve_left (fun e => by rw [e] at hx; simp at hx)
      obtain ⟨x0, x1, x2, x3⟩ := (hK.below hB hg) k x hx
      have HX : Hid (ks[k]? = some x) := hx
      have hI : (k : Int) < (n : Int) := by omega
      have hI0 : (0 : Int) ≤ (k : Int) := by omega
      have HC : Hid (∀ W, Below w.heap.size w W → Calls Tryz.prog 219 #[.agg #[.int .i64 x.t.z, .int .i64 x.t.c, .int .i64 x.t.r, .string x.body], .pointer (some ⟨T, 0, none⟩)] W fun e w' => e = .returned (.bool (decide (x.t = t))) ∧ Below W.heap.size W w') := fun W hW =>
        isTile_cl T t x W ((hW.cell (p := ⟨T, 0, none⟩) hT).trans HT.out.1) ((hW.cell (p := ⟨T, 1, none⟩) hT).trans HT.out.2.1) ((hW.cell (p := ⟨T, 2, none⟩) hT).trans HT.out.2.2)
      have Hm : Hid (∀ b : Bool, decide (x.t = t) = b → (b = true → x.t = t) ∧ (b = false → ¬ x.t = t)) := fun b e => ⟨fun e' => by rw [e'] at e; simpa using e, fun e' => by rw [e'] at e; simpa using e⟩
      obtain ⟨q, hq⟩ : ∃ q, decide (x.t = t) = q := ⟨_, rfl⟩
      have HQ := Hm.out q hq
      rw [hq] at HC
      obtain ⟨xz, xc, xr, xb, e0, e1, e2, e3⟩ : ∃ a b c d, x.t.z = a ∧ x.t.c = b ∧ x.t.r = c ∧ x.body = d := ⟨_, _, _, _, rfl, rfl, rfl, rfl⟩
      rw [e0] at x0; rw [e1] at x1; rw [e2] at x2; rw [e3] at x3; rw [e0, e1, e2, e3] at HC
      have HQ' : Hid ((q = true → x.t = t) ∧ (q = false → ¬ x.t = t)) := HQ
      clear HQ Hm hx hK hq e0 e1 e2 e3
      cases q with
      | true =>
        go_wp2_with (go_at_call 219; refine Calls.mono (HC.out _ hB) ?_; rintro e w2 ⟨rfl, hb2⟩; dsimp only)
        go_ret
        rw [ixV, tileIx_hit HJ.out HX.out (HQ'.out.1 (by first | trivial | rfl))]
        exact ⟨rfl, hB.trans (hb2.mono hB.size)⟩
      | false =>
        go_wp2_with (go_at_call 219; refine Calls.mono (HC.out _ hB) ?_; rintro e w2 ⟨rfl, hb2⟩; dsimp only)
        refine ⟨⟨k + 1, by omega, by go_num, fun j y hj ey => ?_, hB.trans (hb2.mono hB.size)⟩, by simp [intOf]; omega⟩
        by_cases hjk : j = k
        · subst hjk
          have := HX.out
          rw [this] at ey
          cases ey
          exact HQ'.out.2 (by first | trivial | rfl)
        · exact HJ.out j y (by omega) ey
    · obtain rfl : k = n := by omega
      go_wp2
      go_ret
      rw [ixV, tileIx_none (fun j y hj => HJ.out j y (by rw [Hn.out]; exact hj))]
      exact ⟨rfl, hB⟩

end Go.Proofs.YtenaepdmlknlcaaGreatDoor

namespace Go.Proofs.YtenaepdmlknlcaaGreatDoor
open Go.RowKit Go.Shelf

theorem heap_setCell {w : World} {g o : Nat} {cur : Array Value} {e : TypeId} {fz : Nat × Nat} (v : Value) (h : w.heap[g]? = some (.cells cur e fz)) : (w.setCell ⟨g, o, none⟩ v).heap[g]? = some (.cells (cur.setIfInBounds o v) e fz) := by
  simp [World.setCell, Array.getElem?_modify, h]

theorem heap_setCells {g : Nat} {e : TypeId} {fz : Nat × Nat} (vs : List Value) : ∀ (o : Nat) (w : World) (cur : Array Value), w.heap[g]? = some (.cells cur e fz) → o + vs.length ≤ cur.size →
    ∃ cur' : Array Value, (w.setCells g o vs).heap[g]? = some (.cells cur' e fz) ∧ cur'.size = cur.size ∧ cur'.toList = cur.toList.take o ++ vs ++ cur.toList.drop (o + vs.length) := by
  induction vs with
  | nil => intro o w cur h _; exact ⟨cur, h, rfl, by simp⟩
  | cons v r ih =>
    intro o w cur h hl
    simp only [List.length_cons] at hl
    obtain ⟨cur', h1, h2, h3⟩ := ih (o + 1) (w.setCell ⟨g, o, none⟩ v) (cur.setIfInBounds o v) (heap_setCell v h) (by simp; omega)
    refine ⟨cur', h1, by simpa using h2, ?_⟩
    rw [h3]
    have hs : (cur.setIfInBounds o v).toList = cur.toList.take o ++ v :: cur.toList.drop (o + 1) := by
      rw [Array.toList_setIfInBounds]
      exact List.set_eq_take_append_cons_drop.trans (by rw [if_pos (by simp; omega)])
    have ho : (cur.toList.take o).length = o := by simp; omega
    have hs' : (cur.setIfInBounds o v).toList = (cur.toList.take o ++ [v]) ++ cur.toList.drop (o + 1) := by rw [hs]; simp
    have ho' : (cur.toList.take o ++ [v]).length = o + 1 := by rw [List.length_append, ho]; rfl
    rw [hs', List.take_left' ho', List.drop_append, ho']
    simp only [List.length_cons, List.append_assoc, List.cons_append]
    rw [show o + 1 + r.length - (o + 1) = r.length by omega, List.drop_drop, List.drop_eq_nil_of_le (by omega), List.nil_append, show o + 1 + r.length = o + (r.length + 1) by omega, List.nil_append]

theorem fr_setCells (g : Nat) (vs : List Value) : ∀ (o : Nat) (w : World), Fr (OfB g) w (w.setCells g o vs) := by
  induction vs with
  | nil => intro o w; exact Fr.refl _ _
  | cons v r ih => intro o w; exact (frB g w o v).trans (ih (o + 1) _)

/-- A value of a kept tile without content. -/
def zeroKp : Value := .agg #[.int .i64 0, .int .i64 0, .int .i64 0, .string ⟨#[]⟩]

theorem run_clear4 (w : World) (ty : TypeId) (g o c : Nat) (hc : ∀ j, j < 4 → (w.cell? ⟨g, o + j, none⟩).isSome = true) (hf : ∀ j, j < 4 → w.frozen? ⟨g, o + j, none⟩ = false) :
    (Builtin.clear_ #[121] ty #[.slice (some ⟨g, o, none⟩) 1 c]).run Tryz.prog w = .ok (.tuple #[]) (w.setCells g o [.int .i64 0, .int .i64 0, .int .i64 0, .string ⟨#[]⟩]) := by
  have hzc : (Builtin.zeroCells zeroKp.cells 1).toList = [.int .i64 0, .int .i64 0, .int .i64 0, .string ⟨#[]⟩] := by kernel_rfl
  have hst := run_storeCells_cells (P := Tryz.prog) g o [.int .i64 0, .int .i64 0, .int .i64 0, .string ⟨#[]⟩] 0 w (by simpa using hc) (by simpa using hf) (by simp [Value.oneCell'])
  simp only [Nat.add_zero] at hst
  have hv : ∀ w, (zeroValue 178).run Tryz.prog w = .ok zeroKp w := Tryz.zeroValue178
  simp [Builtin.clear_, run_underlying Tryz.underlying121, hv, hzc, hst]

theorem info178 : (Tryz.prog.info? 178).map (fun i => (i.zero, i.size, i.bytes)) = some (some (.agg #[.int .i64 0, .int .i64 0, .int .i64 0, .string ⟨#[]⟩]), 4, 40) := by kernel_rfl

set_option maxRecDepth 100000 in
set_option maxHeartbeats 2000000 in
/-- One kept tile is taken out of a row. -/
theorem Delete1_any (base g m cap i : Nat) (xs : List Value) (w : World) (own : w.ownsRow base 178 4 (.slice (some ⟨g, 0, none⟩) (m + 1) cap) (m + 1) xs) (h1 : ∀ u ∈ xs, u.oneCell' = true) (hi : i < m + 1) (hn : m + 1 ≤ 1000000) :
    Calls Tryz.prog 220 #[.slice (some ⟨g, 0, none⟩) (m + 1) cap, .int .i64 i, .int .i64 ((i : Int) + 1)] w fun e w' => e = .returned (.slice (some ⟨g, 0, none⟩) m cap) ∧ w'.ownsRow base 178 4 (.slice (some ⟨g, 0, none⟩) m cap) m (xs.take (i * 4) ++ xs.drop ((i + 1) * 4)) ∧ Fr (OfB g) w w' := by
  obtain ⟨hl, hor⟩ := own
  obtain ⟨g', cap', cur, eq, hbg, hg, hnc, hcm, hcs, htk⟩ := hor.resolve_left (fun e => by cases e.1)
  cases eq
  obtain ⟨i178, hi0, hz0, hz1, hz2⟩ := info_parts info178
  have hcell : ∀ j u, xs[j]? = some u → w.cell? ⟨g, j, none⟩ = some u := fun j u hj => by
    have hj' : j < (m + 1) * 4 := by have := (List.getElem?_eq_some_iff.1 hj).1; omega
    simp only [World.cell?, hg]
    rw [← Array.getElem?_toList]
    rw [← htk, List.getElem?_take, if_pos hj'] at hj
    exact hj
  have hsome : ∀ j, j < (m + 1) * 4 → (w.cell? ⟨g, j, none⟩).isSome = true := fun j hj => by
    rw [hcell j _ (List.getElem?_eq_getElem (by omega))]; rfl
  have hfz : ∀ (W : World), Fr (OfB g) w W → True := fun _ _ => trivial
  have hf0 : ∀ j, w.frozen? ⟨g, j, none⟩ = false := fun j => by simp [World.frozen?, hg]
  obtain ⟨news, hnews⟩ : ∃ news, news = xs.drop ((i + 1) * 4) := ⟨_, rfl⟩
  have hlen : news.length = (m + 1 - (i + 1)) * 4 := by rw [hnews, List.length_drop]; omega
  have hget : ∀ t u, news[t]? = some u → xs[(i + 1) * 4 + t]? = some u := fun t u e => by rwa [hnews, List.getElem?_drop] at e
  obtain ⟨A, hA, hsrc⟩ : ∃ A : Addr, (if cap = i + 1 then some (⟨g, 0, none⟩ : Addr) else some ⟨g, (i + 1) * 4, none⟩) = some A ∧ Hid (∀ t u, news[t]? = some u → w.drew.cell? (A.add t) = some u) := by
    by_cases h : cap = i + 1
    · refine ⟨⟨g, 0, none⟩, by simp [h], fun t u hu => ?_⟩
      have h0 : news.length = 0 := by rw [hlen]; omega
      rw [List.length_eq_zero_iff.1 h0] at hu
      simp at hu
    · refine ⟨⟨g, (i + 1) * 4, none⟩, by simp [h], fun t u hu => ?_⟩
      rw [Addr.add_lit]
      exact hcell _ u (hget t u hu)
  have s1 : Hid (news.length = (m + 1 - (i + 1)) * 4) := hlen
  have s2 : Hid (∀ u ∈ news, u.oneCell' = true) := fun u hu => h1 u (by rw [hnews] at hu; exact List.mem_of_mem_drop hu)
  have s3 : Hid (∀ t, t < news.length → (w.drew.cell? ⟨g, 0 + i * 4 + t, none⟩).isSome = true ∧ w.drew.frozen? ⟨g, 0 + i * 4 + t, none⟩ = false) := fun t ht => by
    rw [hlen] at ht
    exact ⟨hsome _ (by omega), hf0 _⟩
  obtain ⟨W1, hW1⟩ : ∃ W1, W1 = w.drew.setCells g (0 + i * 4) news := ⟨_, rfl⟩
  obtain ⟨cur1, k1, k2, k3⟩ := heap_setCells news (0 + i * 4) w.drew cur hg (by rw [hlen, hcs]; omega)
  rw [← hW1] at k1
  have hcl : ∀ ty, (Builtin.clear_ #[121] ty #[.slice (some ⟨g, m * 4, none⟩) 1 (cap - m)]).run Tryz.prog W1 = .ok (.tuple #[]) (W1.setCells g (m * 4) [.int .i64 0, .int .i64 0, .int .i64 0, .string ⟨#[]⟩]) := fun ty =>
    run_clear4 W1 ty g (m * 4) _ (fun j hj => by
      have hlt : m * 4 + j < cur1.size := by rw [k2, hcs]; omega
      simp only [World.cell?, k1]
      rw [Array.getElem?_eq_getElem hlt]; rfl) (fun j hj => by simp [World.frozen?, k1])
  have hW : Hid (W1 = w.drew.setCells g (0 + i * 4) news) := hW1
  have hic : i ≤ cap := by omega
  have hjc : i + 1 ≤ cap := by omega
  have hI1 : (0 : Int) ≤ (i : Int) + 1 := by omega
  have hI2 : (i : Int) + 1 ≤ (m : Int) + 1 := by omega
  have HFin : Hid (xs.length = (m + 1) * 4 ∧ news = xs.drop ((i + 1) * 4) ∧ W1.heap[g]? = some (.cells cur1 178 (0, 0)) ∧ cur1.size = cap * 4 ∧ cur1.toList = cur.toList.take (0 + i * 4) ++ news ++ cur.toList.drop (0 + i * 4 + news.length) ∧ cur.toList.take ((m + 1) * 4) = xs) := ⟨hl, hnews, k1, k2.trans hcs, k3, htk⟩
  clear hor hcell hsome hfz hf0 hget hlen hnews k1 k2 k3 hg htk h1 hl hW1 hcs
  go_enter Tryz.func220, Tryz.ntmps220
  go_wp2_with fail
  go_region_law (refine step_append_room rfl (.tmp 22) (.tmp 25) 121 rfl 178 i178 4 Tryz.underlying121 hi0 hz1 g 0 i cap (by simp [Act.eval, Act.put]) A (m + 1 - (i + 1)) (cap - (i + 1)) news (by simp [Act.eval, Act.put]) s1.out hsrc.out s2.out (by omega) s3.out ?_; rw [← hW.out])
  rw [show i + (m - i) = m by omega]
  have hcapm : ¬ cap = m := by omega
  have hmc : m ≤ cap := by omega
  have hI3 : (m : Int) ≤ (m : Int) + 1 := by omega
  go_wp2
  go_ret
  obtain ⟨f1, f2, f3, f4, f5, f6⟩ := HFin.out
  obtain ⟨cur2, k1, k2, k3⟩ := heap_setCells [.int .i64 0, .int .i64 0, .int .i64 0, .string ⟨#[]⟩] (m * 4) W1 cur1 f3 (by rw [f4]; simp; omega)
  refine ⟨rfl, ⟨?_, .inr ⟨g, cap, cur2, rfl, hbg, k1, hmc, hcm, k2.trans f4, ?_⟩⟩, ?_⟩
  · simp only [List.length_append, List.length_take, List.length_drop]
    omega
  · have hcl : cur.toList.length = cap * 4 := by
      have h1 := congrArg List.length f5
      simp only [List.length_append, List.length_take, List.length_drop, Array.length_toList] at h1
      have h2 := congrArg List.length f6
      simp only [List.length_take, Array.length_toList] at h2
      rw [Array.length_toList]
      have h3 : news.length = (m + 1 - (i + 1)) * 4 := s1.out
      omega
    have e1 : (cur.toList.take (i * 4)) = xs.take (i * 4) := by
      rw [← f6, List.take_take, Nat.min_eq_left (by omega)]
    have h3 : news.length = (m + 1 - (i + 1)) * 4 := s1.out
    have e2 : (xs.take (i * 4) ++ news).length = m * 4 := by
      rw [List.length_append, List.length_take, h3]; omega
    rw [k3, List.append_assoc, List.take_left' (by rw [List.length_take, Array.length_toList, f4]; omega), f5, Nat.zero_add, e1, List.take_left' e2, f2]
  · have hW' : W1 = w.drew.setCells g (0 + i * 4) news := hW.out
    rw [hW']
    exact (((Fr.refl (OfB g) w).drew).trans (fr_setCells g news _ _)).trans (fr_setCells g _ _ _)

end Go.Proofs.YtenaepdmlknlcaaGreatDoor
