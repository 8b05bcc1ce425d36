import Derived.Test.YtenaepdmlknlcaaGreatDoorG10
import Derived.Test.YtenaepdmlknlcaaGreatDoorG06
import Derived.Test.YtenaepdmlknlcaaGreatDoorG01
import Derived.Test.YtenaepdmlknlcaaGreatDoorG09
namespace Go.Proofs.YtenaepdmlknlcaaGreatDoor
open Go.RowKit Go.Shelf

theorem digs_dec (n : Nat) : digs 10 n = Lib.decDigits n := by
  induction n using Nat.strongRecOn with
  | _ n ih =>
    rw [digs, Lib.decDigits]
    by_cases h : n < 10
    · rw [dif_pos (.inl h), dif_pos h, dch, if_pos h]
    · rw [dif_neg (by omega), dif_neg h, ih (n / 10) (by omega), dch, if_pos (by omega)]

/-- A run's words. -/
def runT (n c : Nat) : List UInt8 := digs 10 n ++ [120] ++ digs 10 c
theorem txt_run (n c : Nat) : (txt n c).data.toList = runT n c := by simp [txt, runT, digs_dec]

def stp (t : List UInt8 × Nat × Nat) (c : Nat) : List UInt8 × Nat × Nat := if c = t.2.2 then (t.1, t.2.1 + 1, t.2.2) else (t.1 ++ runT t.2.1 t.2.2 ++ [44], 1, c)
def fin (t : List UInt8 × Nat × Nat) : List UInt8 := t.1 ++ runT t.2.1 t.2.2
def joinR (l : List (Nat × Nat)) : List UInt8 := Lib.join (l.map fun r => runT r.1 r.2) [44]
theorem joinR_cons (n c n' c' : Nat) (l : List (Nat × Nat)) : joinR ((n, c) :: (n', c') :: l) = runT n c ++ [44] ++ joinR ((n', c') :: l) := by
  simp [joinR, Lib.join]
theorem joinR_one (n c : Nat) : joinR [(n, c)] = runT n c := by simp [joinR, Lib.join]

theorem fin_fold : ∀ (r : List Nat) (s : List UInt8) (n c : Nat), fin (r.foldl stp (s, n, c)) = s ++ joinR ((n + lead c r, c) :: rle (r.drop (lead c r)))
  | [], s, n, c => by simp [fin, lead, rle, joinR_one]
  | d :: r, s, n, c => by
    by_cases h : d = c
    · subst h
      have e : stp (s, n, d) d = (s, n + 1, d) := by simp [stp]
      have e2 : lead d (d :: r) = lead d r + 1 := by simp [lead]
      rw [List.foldl_cons, e, fin_fold r s (n + 1) d, e2, List.drop_succ_cons]
      congr 4
      omega
    · have e : stp (s, n, c) d = (s ++ runT n c ++ [44], 1, d) := by simp [stp, h]
      have e2 : lead c (d :: r) = 0 := by simp [lead, h]
      rw [List.foldl_cons, e, fin_fold r _ 1 d, e2, List.drop_zero, Nat.add_zero, rle, joinR_cons, Nat.add_comm (lead d r) 1]
      simp only [List.append_assoc]

theorem join_txts (cs : List Nat) : Lib.join ((txts cs).map (·.data.toList)) [44] = joinR (rle cs) := by
  rw [joinR, txts, List.map_map]
  congr 2
  funext r
  exact txt_run r.1 r.2

/-- What is written behind a number of pixels. -/
def stN (f : Nat → Nat) : Nat → List UInt8 × Nat × Nat
  | 0 => ([], 1, f 0)
  | k + 1 => stp (stN f k) (f (k + 1))
theorem stN_fold (f : Nat → Nat) : ∀ k, stN f k = ((List.range' 1 k).map f).foldl stp ([], 1, f 0)
  | 0 => rfl
  | k + 1 => by rw [stN, stN_fold f k, List.range'_concat, List.map_append, List.foldl_append, Nat.one_mul, Nat.add_comm 1 k]; rfl
theorem fin_stN (f : Nat → Nat) : fin (stN f 63) = Lib.join ((txts ((List.range 64).map f)).map (·.data.toList)) [44] := by
  rw [join_txts, stN_fold, fin_fold, List.nil_append]
  have e : (List.range 64).map f = f 0 :: (List.range' 1 63).map f := by rw [List.range_eq_range', List.range'_succ]; rfl
  rw [e, rle, Nat.add_comm 1]

theorem digs_short (n : Nat) (h : n < 100) : (digs 10 n).length ≤ 2 := by rw [digs_dec]; exact decDigits_short n h
theorem stN_bd (f : Nat → Nat) (hf : ∀ k, f k < 100) : ∀ k, k < 64 → (stN f k).1.length ≤ 6 * k ∧ (stN f k).2.1 ≤ k + 1 ∧ (stN f k).2.2 < 100
  | 0, _ => ⟨by simp [stN], by simp [stN], hf 0⟩
  | k + 1, h => by
    obtain ⟨h1, h2, h3⟩ := stN_bd f hf k (by omega)
    rw [stN, stp]
    split
    · exact ⟨by simp only []; omega, by simp only []; omega, h3⟩
    · refine ⟨?_, by simp only []; omega, hf _⟩
      have := digs_short (stN f k).2.1 (by omega)
      have := digs_short (stN f k).2.2 h3
      simp only [runT, List.length_append, List.length_cons, List.length_nil]
      omega

/-- Who doesn't meet the box is not seen in it. -/
theorem fold_filter (x : Bx) : ∀ (vs : List FV) (o : Option FV), (∀ v ∈ vs, meetF x v = false → coverB v.f.kd v.f.ps x.l x.t x.r x.b = false) → (vs.filter (meetF x)).foldl (pickV x) o = vs.foldl (pickV x) o
  | [], _, _ => rfl
  | v :: r, o, h => by
    have ih := fun o => fold_filter x r o (fun u hu => h u (by simp [hu]))
    by_cases hm : meetF x v = true
    · rw [List.filter_cons_of_pos hm, List.foldl_cons, List.foldl_cons, ih]
    · have hm' : meetF x v = false := by simpa using hm
      rw [List.filter_cons_of_neg (by simpa using hm), List.foldl_cons, ih]
      congr 1
      simp [pickV, h v (by simp) hm']
theorem top_filter (x : Bx) (vs : List FV) (hv : ∀ v ∈ vs, validF v.f = true) (hx : x.l ≤ x.r) (hy : x.t ≤ x.b) : topOf x (vs.filter (meetF x)) = topOf x vs :=
  fold_filter x vs none fun v h hm => by
    cases hc : coverB v.f.kd v.f.ps x.l x.t x.r x.b with
    | false => rfl
    | true => rw [cover_meets v x (hv v h) hx hy hc] at hm; cases hm

end Go.Proofs.YtenaepdmlknlcaaGreatDoor

namespace Go.Proofs.YtenaepdmlknlcaaGreatDoor
open Go.RowKit

theorem PtsAt.at {n0 : Nat} {w : World} {a : Option Addr} {ps : Pts} (hp : PtsAt n0 w a ps) {k : Nat} (hk : k < ps.length) :
    ∃ b off x y, a = some ⟨b, off, none⟩ ∧ b < n0 ∧ ps[k]? = some (x, y) ∧ w.cell? ⟨b, off + k * 2, none⟩ = some (.int .i64 x) ∧ w.cell? ⟨b, off + k * 2 + 1, none⟩ = some (.int .i64 y) := by
  rcases hp with rfl | ⟨b, off, rfl, h⟩
  · simp at hk
  · obtain ⟨x, y, h1, h2, h3⟩ := h.at hk
    exact ⟨b, off, x, y, rfl, h.1, h1, h2, h3⟩

set_option maxRecDepth 100000 in
set_option maxHeartbeats 4000000 in
theorem rIsFeature_any (id kd ht col : Int) (a : Option Addr) (n cap : Nat) (ps : Pts) (w : World) (hp : PtsAt w.heap.size w a ps) (hn : n = ps.length) (hn2 : n ≤ 1000000000000000) :
    Calls Tryz.prog 63 #[.agg #[.int .i64 id, .int .i64 kd, .int .i64 ht, .int .i64 col, .slice a n cap]] w fun e w' => e = .returned (.bool (validF ⟨id, kd, ht, col, ps⟩)) ∧ Below w.heap.size w w' := by
  have hB : ∀ o1 : Obj, Below w.heap.size w (w.alloc o1) := fun o1 => (Below.refl _ _).alloc (Nat.le_refl _) _
  have Hn : Hid (n = ps.length) := hn
  have Hp : Hid (PtsAt w.heap.size w a ps) := hp
  clear hn hp
  have HF : Hid ((id < 1 ∨ 99 < id ∨ ht < -9 ∨ 9 < ht ∨ col < 1 ∨ 9 < col) → validF ⟨id, kd, ht, col, ps⟩ = false) := by
    intro h
    simp only [validF, inB]
    rw [Bool.eq_false_iff]
    simp
    omega
  by_cases c1 : id < 1
  · go_enter Tryz.func63, Tryz.ntmps63
    go_wp2
    go_ret
    exact ⟨ret_bool (HF.out (by omega)).symm, hB _⟩
  by_cases c2 : 99 < id
  · go_enter Tryz.func63, Tryz.ntmps63
    go_wp2
    go_ret
    exact ⟨ret_bool (HF.out (by omega)).symm, hB _⟩
  by_cases c3 : ht < -9
  · go_enter Tryz.func63, Tryz.ntmps63
    go_wp2
    go_ret
    exact ⟨ret_bool (HF.out (by omega)).symm, hB _⟩
  by_cases c4 : 9 < ht
  · go_enter Tryz.func63, Tryz.ntmps63
    go_wp2
    go_ret
    exact ⟨ret_bool (HF.out (by omega)).symm, hB _⟩
  by_cases c5 : col < 1
  · go_enter Tryz.func63, Tryz.ntmps63
    go_wp2
    go_ret
    exact ⟨ret_bool (HF.out (by omega)).symm, hB _⟩
  by_cases c6 : 9 < col
  · go_enter Tryz.func63, Tryz.ntmps63
    go_wp2
    go_ret
    exact ⟨ret_bool (HF.out (by omega)).symm, hB _⟩
  clear HF
  have HT : Hid (validF ⟨id, kd, ht, col, ps⟩ = (mayB kd n && ps.all inW)) := by
    show validF ⟨id, kd, ht, col, ps⟩ = _
    have e1 : inB id 1 99 = true := by simp [inB]; omega
    have e2 : inB ht (-9) 9 = true := by simp [inB]; omega
    have e3 : inB col 1 9 = true := by simp [inB]; omega
    simp only [validF, e1, e2, e3, ← Hn.out, Bool.true_and]
  rw [HT.out]
  clear HT
  go_enter Tryz.func63, Tryz.ntmps63
  go_wp2
  go_loopw [3] (fun i wr => ∃ k : Nat, k ≤ n ∧ i = .int .i64 (k : Int) ∧ (ps.take k).all inW = true ∧ wr.cell? ⟨w.heap.size, 4, none⟩ = some (.slice a n cap) ∧ wr.cell? ⟨w.heap.size, 1, none⟩ = some (.int .i64 kd) ∧ Below w.heap.size w wr ∧ w.heap.size < wr.heap.size) (fun i _ => n - (intOf i).toNat)
  case atStart => exact ⟨0, by omega, rfl, rfl, by simp [go_sem], by simp [go_sem], hB _, by simp⟩
  case round =>
    obtain ⟨k, hk, rfl, hall, cl, ck, hBw, hs⟩ := hrel
    have Hall : Hid ((ps.take k).all inW = true) := hall
    clear hall
    by_cases hlt : k < n
    · obtain ⟨b, off, x, y, rfl, hb, hxy, hx, hy⟩ := (Hp.out.below hBw).at (k := k) (by rw [← Hn.out]; exact hlt)
      have Hxy : Hid (ps[k]? = some (x, y)) := hxy
      clear hxy
      by_cases hx1 : inB x 0 255 = true
      · by_cases hy1 : inB y 0 255 = true
        · go_wp2_with (go_at_call 105; refine (rin_any _ _ _ _).mono ?_; rintro e w2 ⟨rfl, rfl⟩)
          go_roundw
          case rel => exact ⟨k + 1, by omega, by go_num, all_take_succ Hxy.out Hall.out (by simp [inW, hx1, hy1]), cl, ck, hBw, hs⟩
          case measure => simp [intOf]; omega
        · have hy1' : inB y 0 255 = false := by simpa using hy1
          clear hy1
          have Hv : Hid (ps.all inW = false) := all_false Hxy.out (by simp [inW, hy1'])
          go_wp2_with (go_at_call 105; refine (rin_any _ _ _ _).mono ?_; rintro e w2 ⟨rfl, rfl⟩)
          go_ret
          exact ⟨ret_bool (by rw [Hv.out, Bool.and_false]), hBw⟩
      · have hx1' : inB x 0 255 = false := by simpa using hx1
        clear hx1
        have Hv : Hid (ps.all inW = false) := all_false Hxy.out (by simp [inW, hx1'])
        go_wp2_with (go_at_call 105; refine (rin_any _ _ _ _).mono ?_; rintro e w2 ⟨rfl, rfl⟩)
        go_ret
        exact ⟨ret_bool (by rw [Hv.out, Bool.and_false]), hBw⟩
    · have Hv : Hid ((mayB kd n && ps.all inW) = mayB kd n) := by
        show (mayB kd n && ps.all inW) = mayB kd n
        have h1 := Hall.out
        rw [show k = ps.length by have := Hn.out; omega, List.take_length] at h1
        rw [h1, Bool.and_true]
      clear Hall Hp
      by_cases k1 : kd = 1
      · subst k1
        go_wp2
        go_ret
        exact ⟨ret_bool (by rw [Hv.out, Bool.eq_iff_iff]; simp [mayB] <;> omega), hBw⟩
      by_cases k2 : kd = 2
      · subst k2
        by_cases n1 : 2 ≤ n
        · go_wp2
          go_ret
          exact ⟨ret_bool (by rw [Hv.out, Bool.eq_iff_iff]; simp [mayB] <;> omega), hBw⟩
        · go_wp2
          go_ret
          exact ⟨ret_bool (by rw [Hv.out, Bool.eq_iff_iff]; simp [mayB] <;> omega), hBw⟩
      by_cases k3 : kd = 3
      · subst k3
        by_cases n1 : 3 ≤ n
        · go_wp2
          go_ret
          exact ⟨ret_bool (by rw [Hv.out, Bool.eq_iff_iff]; simp [mayB] <;> omega), hBw⟩
        · go_wp2
          go_ret
          exact ⟨ret_bool (by rw [Hv.out, Bool.eq_iff_iff]; simp [mayB] <;> omega), hBw⟩
      · go_wp2
        go_ret
        exact ⟨ret_bool (by rw [Hv.out, Bool.eq_iff_iff]; simp [mayB] <;> omega), hBw⟩

end Go.Proofs.YtenaepdmlknlcaaGreatDoor

namespace Go.Proofs.YtenaepdmlknlcaaGreatDoor
open Go.RowKit Go.Shelf

/-- The colours of the pixels. -/
def colR (vs : List FV) (p c r : Int) (k : Nat) : Nat := (tcol (topOf (pixZ p c r k) vs)).toNat
def bodyR (vs : List FV) (p c r : Int) : List UInt8 := fin (stN (colR vs p c r) 63)

theorem add_lists (w : World) (x y z : List UInt8) (hz : x ++ y = z) (hx : x.length ≤ 1000) (hy : y.length ≤ 1000) : (Op.stringOp .add ⟨x.toArray⟩ ⟨y.toArray⟩).run Tryz.prog w = .ok (.string ⟨z.toArray⟩) w := by
  rw [← hz]; exact run_string_add_lists w x y (by omega) (by omega)

set_option maxRecDepth 100000 in
set_option maxHeartbeats 4000000 in
theorem rBody_at (a : Option Addr) (n cap : Nat) (vs : List FV) (z m W8 p c r : Int) (w : World) (hf : FeatsO w a vs) (hn : n = vs.length) (hn2 : n ≤ 1000000000000000) (hval : ∀ v ∈ vs, validF v.f = true)
    (hz : (z = 0 ∧ m = 1 ∧ W8 = 256 ∧ p = 32) ∨ (z = 1 ∧ m = 2 ∧ W8 = 128 ∧ p = 16) ∨ (z = 2 ∧ m = 4 ∧ W8 = 64 ∧ p = 8) ∨ (z = 3 ∧ m = 8 ∧ W8 = 32 ∧ p = 4)) (h1 : 0 ≤ c) (h2 : c ≤ 7) (h3 : 0 ≤ r) (h4 : r ≤ 7) (hc : 8 * p * c ≤ 256 - 8 * p) (hr : 8 * p * r ≤ 256 - 8 * p) :
    Calls Tryz.prog 64 #[.slice a n cap, .agg #[.int .i64 z, .int .i64 c, .int .i64 r]] w fun e w' => e = .returned (.string ⟨(bodyR vs p c r).toArray⟩) ∧ Below w.heap.size w w' := by
  have hB : ∀ o1 : Obj, Below w.heap.size w (w.alloc o1) := fun o1 => (Below.refl _ _).alloc (Nat.le_refl _) _
  have hf100 : ∀ k, colR vs p c r k < 100 := fun k => by
    have := tcol_bd (pixZ p c r k) vs hval
    unfold colR
    omega
  have HF : Hid (∀ k, k < 64 → (stN (colR vs p c r) k).1.length ≤ 6 * k ∧ (stN (colR vs p c r) k).2.1 ≤ k + 1 ∧ (stN (colR vs p c r) k).2.2 < 100) := stN_bd _ hf100
  have HF1 : Hid (∀ k, colR vs p c r k < 100) := hf100
  have HP : Hid (∀ W : World, Calls Tryz.prog 106 #[.int .i64 z] W fun e w' => e = .returned (.int .i64 m) ∧ w' = W) := fun W => by
    have := power_any z W (by omega)
    rwa [show manyZ z = m by unfold manyZ; rcases hz with ⟨rfl, rfl, _⟩ | ⟨rfl, rfl, _⟩ | ⟨rfl, rfl, _⟩ | ⟨rfl, rfl, _⟩ <;> rfl] at this
  have HD : Hid (∀ (x : Nat) (W : World), x < 100 → Calls Tryz.prog 108 #[.int .i64 (x : Int), .int .i64 10] W fun e w' => e = .returned (.string ⟨(digs 10 x).toArray⟩) ∧ ∃ q, w' = W.drewN q) := fun x W hx => digits_any x 10 W (by omega) (by decide) (by decide)
  have HC : Hid (∀ (k : Nat) (W : World), k < 64 → Below w.heap.size w W → Calls Tryz.prog 107 #[.slice a n cap, .int .i64 (c * W8 + (k : Int) % 8 * p), .int .i64 (r * W8 + (k : Int) / 8 * p), .int .i64 p] W fun e w' => e = .returned (.int .i64 ((colR vs p c r k : Nat) : Int)) ∧ Below W.heap.size W w') := fun k W hk hW => by
    have e : (⟨c * W8 + (k : Int) % 8 * p, r * W8 + (k : Int) / 8 * p, c * W8 + (k : Int) % 8 * p + p, r * W8 + (k : Int) / 8 * p + p⟩ : Bx) = pixZ p c r k := by
      unfold pixZ
      rcases hz with ⟨_, _, rfl, rfl⟩ | ⟨_, _, rfl, rfl⟩ | ⟨_, _, rfl, rfl⟩ | ⟨_, _, rfl, rfl⟩ <;> (congr 1 <;> omega)
    have h := rcolour_any a n cap vs (c * W8 + (k : Int) % 8 * p) (r * W8 + (k : Int) / 8 * p) p W (hf.below hW) hn hn2
      (by rcases hz with ⟨_, _, rfl, rfl⟩ | ⟨_, _, rfl, rfl⟩ | ⟨_, _, rfl, rfl⟩ | ⟨_, _, rfl, rfl⟩ <;> omega) (by rcases hz with ⟨_, _, rfl, rfl⟩ | ⟨_, _, rfl, rfl⟩ | ⟨_, _, rfl, rfl⟩ | ⟨_, _, rfl, rfl⟩ <;> omega) (by omega)
      (by rcases hz with ⟨_, _, rfl, rfl⟩ | ⟨_, _, rfl, rfl⟩ | ⟨_, _, rfl, rfl⟩ | ⟨_, _, rfl, rfl⟩ <;> omega) (by rcases hz with ⟨_, _, rfl, rfl⟩ | ⟨_, _, rfl, rfl⟩ | ⟨_, _, rfl, rfl⟩ | ⟨_, _, rfl, rfl⟩ <;> omega) (by omega)
    rw [e] at h
    have hb := tcol_bd (pixZ p c r k) vs hval
    rwa [show tcol (topOf (pixZ p c r k) vs) = ((colR vs p c r k : Nat) : Int) by unfold colR; omega] at h
  have HR : Hid (bodyR vs p c r = fin (stN (colR vs p c r) 63)) := rfl
  clear hf hn hval hf100
  obtain ⟨f, hfe⟩ : ∃ f, colR vs p c r = f := ⟨_, rfl⟩
  rw [hfe] at HF HF1 HC HR
  clear hfe
  rw [HR.out]
  have b1 : 0 ≤ c * W8 ∧ c * W8 ≤ 256 := by rcases hz with ⟨_, _, rfl, rfl⟩ | ⟨_, _, rfl, rfl⟩ | ⟨_, _, rfl, rfl⟩ | ⟨_, _, rfl, rfl⟩ <;> omega
  have b2 : 0 ≤ r * W8 ∧ r * W8 ≤ 256 := by rcases hz with ⟨_, _, rfl, rfl⟩ | ⟨_, _, rfl, rfl⟩ | ⟨_, _, rfl, rfl⟩ | ⟨_, _, rfl, rfl⟩ <;> omega
  have b3 : 0 ≤ p ∧ p ≤ 32 := by omega
  have q1 : (256 : Int) / m = W8 := by rcases hz with ⟨_, rfl, rfl, rfl⟩ | ⟨_, rfl, rfl, rfl⟩ | ⟨_, rfl, rfl, rfl⟩ | ⟨_, rfl, rfl, rfl⟩ <;> rfl
  have q2 : W8 / 8 = p := by rcases hz with ⟨_, _, rfl, rfl⟩ | ⟨_, _, rfl, rfl⟩ | ⟨_, _, rfl, rfl⟩ | ⟨_, _, rfl, rfl⟩ <;> rfl
  have q3 : 1 ≤ m ∧ m ≤ 8 := by omega
  have q4 : 0 ≤ W8 ∧ W8 ≤ 256 := by omega
  obtain ⟨b11, b12⟩ := b1
  obtain ⟨b21, b22⟩ := b2
  obtain ⟨b31, b32⟩ := b3
  obtain ⟨q31, q32⟩ := q3
  obtain ⟨q41, q42⟩ := q4
  clear hz hc hr HR
  go_enter Tryz.func64, Tryz.ntmps64
  go_wp2_with (go_at_call 106; refine Calls.mono (HP.out _) ?_; rintro e w2 ⟨rfl, rfl⟩)
  rw [q1, q2]
  clear q1 q2 q31 q32 HP
  go_loopw [7, 8, 9, 10] (fun sv rv lv kv wr => ∃ (K : Nat) (sl : List UInt8) (rn la : Int), K ≤ 64 ∧ kv = .int .i64 (K : Int) ∧ sv = .string ⟨sl.toArray⟩ ∧ rv = .int .i64 rn ∧ lv = .int .i64 la ∧ Hid ((K = 0 ∧ sl = [] ∧ rn = 0 ∧ la = -1) ∨ ∃ k, K = k + 1 ∧ sl = (stN f k).1 ∧ rn = ((stN f k).2.1 : Nat) ∧ la = ((stN f k).2.2 : Nat)) ∧ wr.cell? ⟨w.heap.size, 1, none⟩ = some (.int .i64 c) ∧ wr.cell? ⟨w.heap.size, 2, none⟩ = some (.int .i64 r) ∧ Below w.heap.size w wr ∧ w.heap.size < wr.heap.size) (fun _ _ _ kv _ => 64 - (intOf kv).toNat)
  case atStart => exact ⟨0, [], 0, -1, by omega, rfl, rfl, rfl, rfl, .inl ⟨rfl, rfl, rfl, rfl⟩, by simp [go_sem], by simp [go_sem], hB _, by simp⟩
  case round =>
    obtain ⟨K, sl, rn, la, hK, rfl, rfl, rfl, rfl, HI, c1, c2, hBw, hs⟩ := hrel
    by_cases hlt : K < 64
    · have hm1 : 0 ≤ (K : Int) % 8 * p ∧ (K : Int) % 8 * p ≤ 256 := by
        have e1 : 0 ≤ (K : Int) % 8 ∧ (K : Int) % 8 ≤ 7 := by omega
        refine ⟨Int.mul_nonneg e1.1 b31, Int.le_trans (Int.mul_le_mul e1.2 b32 b31 (by omega)) (by decide)⟩
      have hm2 : 0 ≤ (K : Int) / 8 * p ∧ (K : Int) / 8 * p ≤ 256 := by
        have e1 : 0 ≤ (K : Int) / 8 ∧ (K : Int) / 8 ≤ 7 := by omega
        refine ⟨Int.mul_nonneg e1.1 b31, Int.le_trans (Int.mul_le_mul e1.2 b32 b31 (by omega)) (by decide)⟩
      obtain ⟨m11, m12⟩ := hm1
      obtain ⟨m21, m22⟩ := hm2
      have hcK := HF1.out K
      go_upto_region 10 with (go_at_call 107; refine Calls.mono (HC.out K _ hlt hBw) ?_; rintro e w2 ⟨rfl, hb2⟩)
      obtain ⟨hc2, hf2⟩ := bcell hb2
      have hB2 : Below w.heap.size w w2 := hBw.trans (hb2.mono (by omega))
      have hs2 := hb2.size
      have c1' := (hc2 w.heap.size 1 hs).trans c1
      have c2' := (hc2 w.heap.size 2 hs).trans c2
      clear hc2 hf2 c1 c2 m11 m12 m21 m22
      have HK : Hid (f K = f K) := rfl
      obtain ⟨x, hx⟩ : ∃ x, f K = x := ⟨_, rfl⟩
      have HX : Hid (f K = x) := hx
      rw [hx] at hcK ⊢
      clear hx HK
      rcases HI.out with ⟨e0, rfl, rfl, rfl⟩ | ⟨k, e0, hsl, hrn, hla⟩
      · have HN : Hid ((0 = K + 1 ∧ ([] : List UInt8) = [] ∧ (1 : Int) = 0 ∧ (x : Int) = -1) ∨ ∃ k, K + 1 = k + 1 ∧ ([] : List UInt8) = (stN f k).1 ∧ (1 : Int) = ((stN f k).2.1 : Nat) ∧ (x : Int) = ((stN f k).2.2 : Nat)) := by
          refine .inr ⟨0, by omega, rfl, rfl, ?_⟩
          have := HX.out
          rw [e0] at this
          show (x : Int) = ((f 0 : Nat) : Int)
          rw [this]
        subst e0
        go_wp2
        go_roundw
        case rel => exact ⟨1, [], 1, (x : Int), by omega, by go_num, by first | rfl | simp, by go_num, by go_num, .inr (HN.out.resolve_left (by omega)), c1', c2', hB2, by omega⟩
        case measure => simp [intOf]
      · have hk64 : k < 64 := by omega
        obtain ⟨d1, d2, d3⟩ := HF.out k hk64
        obtain ⟨y, hy⟩ : ∃ y, (stN f k).2.2 = y := ⟨_, rfl⟩
        obtain ⟨g, hg⟩ : ∃ g, (stN f k).2.1 = g := ⟨_, rfl⟩
        have HT : Hid (stN f (k + 1) = stp (sl, g, y) x) := by
          show stN f (k + 1) = _
          rw [stN, ← hsl.symm, ← hg, ← hy]
          congr 1
          rw [← e0]; exact HX.out
        rw [hy] at hla d3
        rw [hg] at hrn d2
        rw [← hsl] at d1
        subst hla hrn
        clear hy hg hsl HX
        have hk0 : (0 : Int) < (K : Int) := by omega
        by_cases heq : x = y
        · have HN : Hid ((0 = K + 1 ∧ sl = [] ∧ ((g : Int) + 1) = 0 ∧ (x : Int) = -1) ∨ ∃ k, K + 1 = k + 1 ∧ sl = (stN f k).1 ∧ ((g : Int) + 1) = ((stN f k).2.1 : Nat) ∧ (x : Int) = ((stN f k).2.2 : Nat)) := by
            refine .inr ⟨k + 1, by omega, ?_, ?_, ?_⟩ <;> (rw [HT.out, stp, if_pos heq])
            · simp
            · show (x : Int) = (y : Int)
              omega
          clear HT
          subst heq
          go_wp2
          go_roundw
          case rel => exact ⟨K + 1, sl, (g : Int) + 1, (x : Int), by omega, by go_num, rfl, by go_num, by go_num, .inr (HN.out.resolve_left (by omega)), c1', c2', hB2, by omega⟩
          case measure => simp [intOf]; omega
        · have hne : (x : Int) ≠ (y : Int) := by omega
          have hd : decide ((x : Int) = (y : Int)) = false := decide_eq_false (by omega)
          have hg100 : g < 100 := by omega
          have hlg := digs_short g hg100
          have hly := digs_short y d3
          obtain ⟨l1, e1⟩ : ∃ l, sl ++ digs 10 g = l := ⟨_, rfl⟩
          obtain ⟨l2, e2⟩ : ∃ l, l1 ++ [120] = l := ⟨_, rfl⟩
          obtain ⟨l3, e3⟩ : ∃ l, l2 ++ digs 10 y = l := ⟨_, rfl⟩
          obtain ⟨l4, e4⟩ : ∃ l, l3 ++ [44] = l := ⟨_, rfl⟩
          have n1 : l1.length = sl.length + (digs 10 g).length := by rw [← e1, List.length_append]
          have n2 : l2.length = l1.length + 1 := by rw [← e2, List.length_append]; rfl
          have n3 : l3.length = l2.length + (digs 10 y).length := by rw [← e3, List.length_append]
          have a1 : ∀ W : World, Sem.run Tryz.prog (Op.stringOp .add ⟨sl.toArray⟩ ⟨(digs 10 g).toArray⟩) W = .ok (.string ⟨l1.toArray⟩) W := fun W => add_lists W _ _ _ e1 (by omega) (by omega)
          have a2 : ∀ W : World, Sem.run Tryz.prog (Op.stringOp .add ⟨l1.toArray⟩ ⟨#[120]⟩) W = .ok (.string ⟨l2.toArray⟩) W := fun W => add_lists W l1 [120] _ e2 (by omega) (by simp)
          have a3 : ∀ W : World, Sem.run Tryz.prog (Op.stringOp .add ⟨l2.toArray⟩ ⟨(digs 10 y).toArray⟩) W = .ok (.string ⟨l3.toArray⟩) W := fun W => add_lists W _ _ _ e3 (by omega) (by omega)
          have a4 : ∀ W : World, Sem.run Tryz.prog (Op.stringOp .add ⟨l3.toArray⟩ ⟨#[44]⟩) W = .ok (.string ⟨l4.toArray⟩) W := fun W => add_lists W l3 [44] _ e4 (by omega) (by simp)
          have HN : Hid ((0 = K + 1 ∧ l4 = [] ∧ (1 : Int) = 0 ∧ (x : Int) = -1) ∨ ∃ k, K + 1 = k + 1 ∧ l4 = (stN f k).1 ∧ (1 : Int) = ((stN f k).2.1 : Nat) ∧ (x : Int) = ((stN f k).2.2 : Nat)) := by
            refine .inr ⟨k + 1, by omega, ?_, ?_, ?_⟩ <;> (rw [HT.out, stp, if_neg heq])
            · rw [← e4, ← e3, ← e2, ← e1]
              simp only [runT, List.append_assoc]
            · rfl
          clear HT e1 e2 e3 e4 n1 n2 n3 heq d1 d2 hlg hly
          go_wp2_with (go_at_call 108; refine Calls.mono (HD.out _ _ (by assumption)) ?_; rintro e w3 ⟨rfl, q1, rfl⟩)
          go_roundw
          case rel => exact ⟨K + 1, l4, 1, (x : Int), by omega, by go_num, rfl, by go_num, by go_num, .inr (HN.out.resolve_left (by omega)), c1', c2', below_drewN hB2 _, by simp; omega⟩
          case measure => simp [intOf]; omega
    · rcases HI.out with ⟨e0, rfl, rfl, rfl⟩ | ⟨k, e0, hsl, hrn, hla⟩
      · omega
      · obtain rfl : k = 63 := by omega
        obtain ⟨d1, d2, d3⟩ := HF.out 63 (by decide)
        obtain ⟨y, hy⟩ : ∃ y, (stN f 63).2.2 = y := ⟨_, rfl⟩
        obtain ⟨g, hg⟩ : ∃ g, (stN f 63).2.1 = g := ⟨_, rfl⟩
        have HT : Hid (fin (stN f 63) = sl ++ runT g y) := by
          show fin (stN f 63) = _
          rw [fin, ← hsl, hg, hy]
        rw [hy] at hla d3
        rw [hg] at hrn d2
        rw [← hsl] at d1
        subst hla hrn
        clear hy hg hsl HF HF1 HC HI
        have hg100 : g < 100 := by omega
        have hlg := digs_short g hg100
        have hly := digs_short y d3
        obtain ⟨l1, e1⟩ : ∃ l, sl ++ digs 10 g = l := ⟨_, rfl⟩
        obtain ⟨l2, e2⟩ : ∃ l, l1 ++ [120] = l := ⟨_, rfl⟩
        obtain ⟨l3, e3⟩ : ∃ l, l2 ++ digs 10 y = l := ⟨_, rfl⟩
        have n1 : l1.length = sl.length + (digs 10 g).length := by rw [← e1, List.length_append]
        have n2 : l2.length = l1.length + 1 := by rw [← e2, List.length_append]; rfl
        have a1 : ∀ W : World, Sem.run Tryz.prog (Op.stringOp .add ⟨sl.toArray⟩ ⟨(digs 10 g).toArray⟩) W = .ok (.string ⟨l1.toArray⟩) W := fun W => add_lists W _ _ _ e1 (by omega) (by omega)
        have a2 : ∀ W : World, Sem.run Tryz.prog (Op.stringOp .add ⟨l1.toArray⟩ ⟨#[120]⟩) W = .ok (.string ⟨l2.toArray⟩) W := fun W => add_lists W l1 [120] _ e2 (by omega) (by simp)
        have a3 : ∀ W : World, Sem.run Tryz.prog (Op.stringOp .add ⟨l2.toArray⟩ ⟨(digs 10 y).toArray⟩) W = .ok (.string ⟨l3.toArray⟩) W := fun W => add_lists W _ _ _ e3 (by omega) (by omega)
        have HN : Hid (l3 = fin (stN f 63)) := by
          show l3 = _
          rw [HT.out, ← e3, ← e2, ← e1]
          simp only [runT, List.append_assoc]
        clear HT e1 e2 e3 n1 n2 d1 d2 hlg hly c1 c2
        go_wp2_with (go_at_call 108; refine Calls.mono (HD.out _ _ (by assumption)) ?_; rintro e w3 ⟨rfl, q1, rfl⟩)
        go_ret
        exact ⟨ret_str HN.out, below_drewN hBw _⟩

theorem rBody_any (a : Option Addr) (n cap : Nat) (vs : List FV) (z p c r : Int) (w : World) (hf : FeatsO w a vs) (hn : n = vs.length) (hn2 : n ≤ 1000000000000000) (hval : ∀ v ∈ vs, validF v.f = true)
    (hz : ZP z p) (h1 : 0 ≤ c) (h2 : c ≤ 7) (h3 : 0 ≤ r) (h4 : r ≤ 7) (hc : 8 * p * c ≤ 256 - 8 * p) (hr : 8 * p * r ≤ 256 - 8 * p) :
    Calls Tryz.prog 64 #[.slice a n cap, .agg #[.int .i64 z, .int .i64 c, .int .i64 r]] w fun e w' => e = .returned (.string ⟨(bodyR vs p c r).toArray⟩) ∧ Below w.heap.size w w' := by
  rcases hz with ⟨rfl, rfl⟩ | ⟨rfl, rfl⟩ | ⟨rfl, rfl⟩ | ⟨rfl, rfl⟩
  · exact rBody_at a n cap vs 0 1 256 32 c r w hf hn hn2 hval (by omega) h1 h2 h3 h4 hc hr
  · exact rBody_at a n cap vs 1 2 128 16 c r w hf hn hn2 hval (by omega) h1 h2 h3 h4 hc hr
  · exact rBody_at a n cap vs 2 4 64 8 c r w hf hn hn2 hval (by omega) h1 h2 h3 h4 hc hr
  · exact rBody_at a n cap vs 3 8 32 4 c r w hf hn hn2 hval (by omega) h1 h2 h3 h4 hc hr

end Go.Proofs.YtenaepdmlknlcaaGreatDoor
