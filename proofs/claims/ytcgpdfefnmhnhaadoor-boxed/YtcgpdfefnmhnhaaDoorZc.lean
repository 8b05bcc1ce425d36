import Derived.Test.YtcgpdfefnmhnhaaDoorZb
namespace Go.Proofs.YtcgpdfefnmhnhaaDoor
open Go.RowKit Go.Shelf

def aF (p c r : Int) (a n : Nat) : Feat := ⟨4, 3, 0, 5, [(c * (8 * p) + a * p, r * (8 * p) + 2 * p), (c * (8 * p) + a * p + n * p - 1, r * (8 * p) + 2 * p), (c * (8 * p) + a * p + n * p - 1, r * (8 * p) + 2 * p + p - 1), (c * (8 * p) + a * p, r * (8 * p) + 2 * p + p - 1)]⟩
def lF (h p c r : Int) (a n : Nat) : Feat := ⟨3, 2, h, 6, [(c * (8 * p) + a * p + 1, r * (8 * p) + 2 * p + 1), (c * (8 * p) + a * p + n * p - 1, r * (8 * p) + 2 * p + 1)]⟩

theorem body_two (h p c r : Int) (a n C pb po cap pb' po' cap' : Nat) (hp : p = 32 ∨ p = 16 ∨ p = 8 ∨ p = 4) (hn : 1 ≤ n) (han : a + n ≤ 8) (hC : (h = 0 ∧ C = 5) ∨ (h = 1 ∧ C = 6)) :
    bodyS [⟨aF p c r a n, pb, po, cap⟩, ⟨lF h p c r a n, pb', po', cap'⟩] p c r = ⟨(Lib.decDigits (16 + a) ++ [120, 48, 44] ++ Lib.decDigits n ++ [120] ++ Lib.decDigits C ++ [44] ++ Lib.decDigits (48 - a - n) ++ [120, 48]).toArray⟩ := by
  have hcol : ∀ k, k < 64 → (colZ [⟨aF p c r a n, pb, po, cap⟩, ⟨lF h p c r a n, pb', po', cap'⟩] p c r k).toNat = if inRunB a n k then C else 0 := by
    intro k hk
    have cA := cover_area p c r a n k hp hk hn han
    have cL := cover_line p c r a n k hp hk hn han
    unfold colZ
    cases hin : inRunB a n k with
    | false =>
      rw [hin] at cA cL
      rw [col_none (pixZ p c r k) ⟨aF p c r a n, pb, po, cap⟩ ⟨lF h p c r a n, pb', po', cap'⟩ cA cL]; rfl
    | true =>
      rw [hin] at cA cL
      rw [col_two (pixZ p c r k) ⟨aF p c r a n, pb, po, cap⟩ ⟨lF h p c r a n, pb', po', cap'⟩ (meets_area p c r a n k hk hp hn hin han) (meets_line p c r a n k hk hp hn hin han) cA cL]
      rcases hC with ⟨rfl, rfl⟩ | ⟨rfl, rfl⟩ <;> rfl
  have hlist : ((List.range 64).map fun k => (colZ [⟨aF p c r a n, pb, po, cap⟩, ⟨lF h p c r a n, pb', po', cap'⟩] p c r k).toNat) = List.replicate (15 + a + 1) 0 ++ (List.replicate (n - 1 + 1) C ++ List.replicate (47 - a - n + 1) 0) := by
    rw [show 15 + a + 1 = 16 + a from by omega, show n - 1 + 1 = n from by omega, show 47 - a - n + 1 = 48 - a - n from by omega, ← range_three a n C han]
    apply List.map_congr_left
    intro k hk
    exact hcol k (List.mem_range.1 hk)
  unfold bodyS
  rw [hlist, txts, rle_three _ _ _ _ (by omega), show 15 + a + 1 = 16 + a from by omega, show n - 1 + 1 = n from by omega, show 47 - a - n + 1 = 48 - a - n from by omega]
  have h0 : Lib.decDigits 0 = [48] := by rw [Lib.decDigits]; rfl
  simp [Lib.join, List.intercalate, txt, h0]

theorem valid_a (p c r : Int) (a n : Nat) (hp : p = 32 ∨ p = 16 ∨ p = 8 ∨ p = 4) (hn : 1 ≤ n) (han : a + n ≤ 8) (h1 : 0 ≤ c) (h3 : 0 ≤ r) (hc : 8 * p * c ≤ 256 - 8 * p) (hr : 8 * p * r ≤ 256 - 8 * p) : validF (aF p c r a n) = true := by
  unfold validF aF
  dsimp only
  simp only [List.all_cons, List.all_nil, inW, inB, mayB, List.length_cons, List.length_nil, Bool.and_eq_true, decide_eq_true_eq, and_true]
  rcases hp with rfl | rfl | rfl | rfl <;> refine ⟨⟨⟨⟨?_, ?_⟩, ?_⟩, ?_⟩, ?_⟩ <;> first | omega | (simp only [true_and]; omega)
theorem valid_l (h p c r : Int) (a n : Nat) (hh : h = 0 ∨ h = 1) (hp : p = 32 ∨ p = 16 ∨ p = 8 ∨ p = 4) (hn : 1 ≤ n) (han : a + n ≤ 8) (h1 : 0 ≤ c) (h3 : 0 ≤ r) (hc : 8 * p * c ≤ 256 - 8 * p) (hr : 8 * p * r ≤ 256 - 8 * p) : validF (lF h p c r a n) = true := by
  unfold validF lF
  dsimp only
  simp only [List.all_cons, List.all_nil, inW, inB, mayB, List.length_cons, List.length_nil, Bool.and_eq_true, decide_eq_true_eq, and_true]
  rcases hp with rfl | rfl | rfl | rfl <;> refine ⟨⟨⟨⟨?_, ?_⟩, ?_⟩, ?_⟩, ?_⟩ <;> first | omega | (simp only [true_and]; omega)

def wantS (a n C : Nat) : ByteArray := ⟨(Lib.decDigits (16 + a) ++ [120, 48, 44] ++ Lib.decDigits n ++ [120] ++ Lib.decDigits C ++ [44] ++ Lib.decDigits (48 - a - n) ++ [120, 48]).toArray⟩

theorem draw_two (W : World) (S PA PL : Nat) (z p c r h X0 Y0 X1 Y1 XL YL : Int) (a n C : Nat) (hz : ZP z p) (hp : p = 32 ∨ p = 16 ∨ p = 8 ∨ p = 4) (hn : 1 ≤ n) (han : a + n ≤ 8) (hC : (h = 0 ∧ C = 5) ∨ (h = 1 ∧ C = 6))
    (hX0 : X0 = c * (8 * p) + a * p) (hY0 : Y0 = r * (8 * p) + 2 * p) (hX1 : X1 = c * (8 * p) + a * p + n * p - 1) (hY1 : Y1 = r * (8 * p) + 2 * p + p - 1) (hXL : XL = c * (8 * p) + a * p + 1) (hYL : YL = r * (8 * p) + 2 * p + 1)
    (h1 : 0 ≤ c) (h2 : c ≤ 7) (h3 : 0 ≤ r) (h4 : r ≤ 7) (hc : 8 * p * c ≤ 256 - 8 * p) (hr : 8 * p * r ≤ 256 - 8 * p)
    (hS : S < W.heap.size) (hA : PA < W.heap.size) (hL : PL < W.heap.size) (hw3 : 3 < W.heap.size) (htab : W.cell? ⟨3, 15, none⟩ = some (.int .u8 4))
    (s0 : W.cell? ⟨S, 0, none⟩ = some (.int .i64 4)) (s1 : W.cell? ⟨S, 1, none⟩ = some (.int .i64 3)) (s2 : W.cell? ⟨S, 2, none⟩ = some (.int .i64 0)) (s3 : W.cell? ⟨S, 3, none⟩ = some (.int .i64 5)) (s4 : W.cell? ⟨S, 4, none⟩ = some (.slice (some ⟨PA, 0, none⟩) 4 4))
    (s5 : W.cell? ⟨S, 5, none⟩ = some (.int .i64 3)) (s6 : W.cell? ⟨S, 6, none⟩ = some (.int .i64 2)) (s7 : W.cell? ⟨S, 7, none⟩ = some (.int .i64 h)) (s8 : W.cell? ⟨S, 8, none⟩ = some (.int .i64 6)) (s9 : W.cell? ⟨S, 9, none⟩ = some (.slice (some ⟨PL, 0, none⟩) 2 2))
    (a0 : W.cell? ⟨PA, 0, none⟩ = some (.int .i64 X0)) (a1 : W.cell? ⟨PA, 1, none⟩ = some (.int .i64 Y0)) (a2 : W.cell? ⟨PA, 2, none⟩ = some (.int .i64 X1)) (a3 : W.cell? ⟨PA, 3, none⟩ = some (.int .i64 Y0)) (a4 : W.cell? ⟨PA, 4, none⟩ = some (.int .i64 X1)) (a5 : W.cell? ⟨PA, 5, none⟩ = some (.int .i64 Y1)) (a6 : W.cell? ⟨PA, 6, none⟩ = some (.int .i64 X0)) (a7 : W.cell? ⟨PA, 7, none⟩ = some (.int .i64 Y1))
    (l0 : W.cell? ⟨PL, 0, none⟩ = some (.int .i64 XL)) (l1 : W.cell? ⟨PL, 1, none⟩ = some (.int .i64 YL)) (l2 : W.cell? ⟨PL, 2, none⟩ = some (.int .i64 X1)) (l3 : W.cell? ⟨PL, 3, none⟩ = some (.int .i64 YL)) :
    Calls Tryd.prog 5 #[.slice (some ⟨S, 0, none⟩) 2 2, .agg #[.int .i64 z, .int .i64 c, .int .i64 r]] W fun e w' => ∃ m : ByteArray, e = .returned (.tuple #[.string m, .string (wantS a n C), .int .i64 0]) ∧ m.size = 8 ∧ Below W.heap.size W w' := by
  subst hX0 hY0 hX1 hY1 hXL hYL
  have hB := body_two h p c r a n C PA 0 4 PL 0 2 hp hn han hC
  have hD := Draw_small S 0 2 2 [⟨aF p c r a n, PA, 0, 4⟩, ⟨lF h p c r a n, PL, 0, 2⟩] z p c r W ⟨hS, fun i v e => by
    match i, e with
    | 0, e =>
      simp at e
      subst e
      refine ⟨⟨s0, s1, s2, s3, s4⟩, valid_a p c r a n hp hn han h1 h3 hc hr, hA, by simp [aF], fun k x y e => ?_⟩
      match k, e with
      | 0, e => simp [aF] at e; obtain ⟨rfl, rfl⟩ := e; exact ⟨a0, a1⟩
      | 1, e => simp [aF] at e; obtain ⟨rfl, rfl⟩ := e; exact ⟨a2, a3⟩
      | 2, e => simp [aF] at e; obtain ⟨rfl, rfl⟩ := e; exact ⟨a4, a5⟩
      | 3, e => simp [aF] at e; obtain ⟨rfl, rfl⟩ := e; exact ⟨a6, a7⟩
      | k + 4, e => simp [aF] at e
    | 1, e =>
      simp at e
      subst e
      refine ⟨⟨s5, s6, s7, s8, s9⟩, valid_l h p c r a n (by omega) hp hn han h1 h3 hc hr, hL, by simp [lF], fun k x y e => ?_⟩
      match k, e with
      | 0, e => simp [lF] at e; obtain ⟨rfl, rfl⟩ := e; exact ⟨l0, l1⟩
      | 1, e => simp [lF] at e; obtain ⟨rfl, rfl⟩ := e; exact ⟨l2, l3⟩
      | k + 2, e => simp [lF] at e
    | i + 2, e => simp at e⟩ rfl (by omega) (by omega) (fun k v e j hj => by
    match k, e with
    | 0, e => rfl
    | 1, e =>
      simp at e
      subst e
      have hj3 : (3 : Int) = (j : Int) := hj
      simp [seenB, aF]; omega
    | k + 2, e => simp at e) hz (by
    have hm : manyZ z * (8 * p) = 256 := by rcases hz with ⟨rfl, rfl⟩ | ⟨rfl, rfl⟩ | ⟨rfl, rfl⟩ | ⟨rfl, rfl⟩ <;> rfl
    have hz3 : 0 ≤ z ∧ z ≤ 3 := by rcases hz with ⟨rfl, _⟩ | ⟨rfl, _⟩ | ⟨rfl, _⟩ | ⟨rfl, _⟩ <;> omega
    simp only [tileB, decide_eq_true_eq]
    rcases hz with ⟨rfl, rfl⟩ | ⟨rfl, rfl⟩ | ⟨rfl, rfl⟩ | ⟨rfl, rfl⟩ <;> simp [manyZ] <;> omega) h1 h2 h3 h4 hc hr htab hw3
  rw [hB] at hD
  exact hD

theorem decimal_var (x : Int) (k : Nat) (w : World) (hx : x = (k : Int)) (hk : k < 100) :
    Calls Tryd.prog 6 #[.int .i64 x] w fun e w' => ∃ d : ByteArray, e = .returned (.string d) ∧ Hid (d = ⟨(Lib.decDigits k).toArray⟩) ∧ d.size ≤ 2 ∧ w' = w := by
  subst hx
  refine (decimal_any k w hk).mono ?_
  rintro e w' ⟨rfl, rfl⟩
  have h := decDigits_short k hk
  exact ⟨_, rfl, rfl, by show (Lib.decDigits k).toArray.size ≤ 2; simpa using h, rfl⟩

theorem want_eq {a n C : Nat} {d1 d2 d3 d4 : ByteArray} (h1 : d1 = ⟨(Lib.decDigits (16 + a)).toArray⟩) (h2 : d2 = ⟨(Lib.decDigits n).toArray⟩) (h3 : d3 = ⟨(Lib.decDigits C).toArray⟩) (h4 : d4 = ⟨(Lib.decDigits (48 - a - n)).toArray⟩) :
    ((wantS a n C).toList = (d1 ++ { data := #[120, 48, 44] } ++ d2 ++ { data := #[120] } ++ d3 ++ { data := #[44] } ++ d4 ++ { data := #[120, 48] }).toList) = True := by
  subst h1 h2 h3 h4
  refine eq_true (congrArg _ ?_)
  apply ByteArray.ext
  simp [wantS, ByteArray.data_append]

theorem below_six (w : World) (o1 o2 o3 o4 o5 o6 : Obj) : Below w.heap.size w ((((((w.alloc o1).alloc o2).alloc o3).alloc o4).alloc o5).alloc o6) :=
  ((((((Below.refl _ _).alloc (Nat.le_refl _) _).alloc (by simp) _).alloc (by simp <;> omega) _).alloc (by simp <;> omega) _).alloc (by simp <;> omega) _).alloc (by simp <;> omega) _

end Go.Proofs.YtcgpdfefnmhnhaaDoor
