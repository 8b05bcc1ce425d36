import Derived.Test.YtbphndloichnaaaGreatDoorG17
import Derived.Test.YtbphndloichnaaaGreatDoorG09
import Derived.Test.YtbphndloichnaaaGreatDoorG02
import Derived.Test.YtbphndloichnaaaGreatDoorG01
namespace Go.Proofs.YtbphndloichnaaaGreatDoor
open Go.RowKit Go.Shelf

theorem digs_dec (n : Nat) : digs 10 n = Lib.decDigits n := by
  induction n using Nat.strongRecOn with
  | _ n ih =>
    rw [digs, Lib.decDigits]
    by_cases h : n < 10
    · rw [dif_pos (.inl h), dif_pos h, dch, if_pos h]
    · rw [dif_neg (by omega), dif_neg h, ih (n / 10) (by omega), dch, if_pos (by omega)]

/-- A run's words. -/
def runT (n c : Nat) : List UInt8 := digs 10 n ++ [120] ++ digs 10 c
theorem txt_run (n c : Nat) : (txt n c).data.toList = runT n c := by simp [txt, runT, digs_dec]

def stp (t : List UInt8 × Nat × Nat) (c : Nat) : List UInt8 × Nat × Nat := if c = t.2.2 then (t.1, t.2.1 + 1, t.2.2) else (t.1 ++ runT t.2.1 t.2.2 ++ [44], 1, c)
def fin (t : List UInt8 × Nat × Nat) : List UInt8 := t.1 ++ runT t.2.1 t.2.2
def joinR (l : List (Nat × Nat)) : List UInt8 := Lib.join (l.map fun r => runT r.1 r.2) [44]
theorem joinR_cons (n c n' c' : Nat) (l : List (Nat × Nat)) : joinR ((n, c) :: (n', c') :: l) = runT n c ++ [44] ++ joinR ((n', c') :: l) := by
  simp [joinR, Lib.join]
theorem joinR_one (n c : Nat) : joinR [(n, c)] = runT n c := by simp [joinR, Lib.join]

theorem fin_fold : ∀ (r : List Nat) (s : List UInt8) (n c : Nat), fin (r.foldl stp (s, n, c)) = s ++ joinR ((n + lead c r, c) :: rle (r.drop (lead c r)))
  | [], s, n, c => by simp [fin, lead, rle, joinR_one]
  | d :: r, s, n, c => by
    by_cases h : d = c
    · subst h
      have e : stp (s, n, d) d = (s, n + 1, d) := by simp [stp]
      have e2 : lead d (d :: r) = lead d r + 1 := by simp [lead]
      rw [List.foldl_cons, e, fin_fold r s (n + 1) d, e2, List.drop_succ_cons]
      congr 4
      omega
    · have e : stp (s, n, c) d = (s ++ runT n c ++ [44], 1, d) := by simp [stp, h]
      have e2 : lead c (d :: r) = 0 := by simp [lead, h]
      rw [List.foldl_cons, e, fin_fold r _ 1 d, e2, List.drop_zero, Nat.add_zero, rle, joinR_cons, Nat.add_comm (lead d r) 1]
      simp only [List.append_assoc]

theorem join_txts (cs : List Nat) : Lib.join ((txts cs).map (·.data.toList)) [44] = joinR (rle cs) := by
  rw [joinR, txts, List.map_map]
  congr 2
  funext r
  exact txt_run r.1 r.2

/-- What is written behind a number of pixels. -/
def stN (f : Nat → Nat) : Nat → List UInt8 × Nat × Nat
  | 0 => ([], 1, f 0)
  | k + 1 => stp (stN f k) (f (k + 1))
theorem stN_fold (f : Nat → Nat) : ∀ k, stN f k = ((List.range' 1 k).map f).foldl stp ([], 1, f 0)
  | 0 => rfl
  | k + 1 => by rw [stN, stN_fold f k, List.range'_concat, List.map_append, List.foldl_append, Nat.one_mul, Nat.add_comm 1 k]; rfl
theorem fin_stN (f : Nat → Nat) : fin (stN f 63) = Lib.join ((txts ((List.range 64).map f)).map (·.data.toList)) [44] := by
  rw [join_txts, stN_fold, fin_fold, List.nil_append]
  have e : (List.range 64).map f = f 0 :: (List.range' 1 63).map f := by rw [List.range_eq_range', List.range'_succ]; rfl
  rw [e, rle, Nat.add_comm 1]

theorem digs_short (n : Nat) (h : n < 100) : (digs 10 n).length ≤ 2 := by rw [digs_dec]; exact decDigits_short n h
theorem stN_bd (f : Nat → Nat) (hf : ∀ k, f k < 100) : ∀ k, k < 64 → (stN f k).1.length ≤ 6 * k ∧ (stN f k).2.1 ≤ k + 1 ∧ (stN f k).2.2 < 100
  | 0, _ => ⟨by simp [stN], by simp [stN], hf 0⟩
  | k + 1, h => by
    obtain ⟨h1, h2, h3⟩ := stN_bd f hf k (by omega)
    rw [stN, stp]
    split
    · exact ⟨by simp only []; omega, by simp only []; omega, h3⟩
    · refine ⟨?_, by simp only []; omega, hf _⟩
      have := digs_short (stN f k).2.1 (by omega)
      have := digs_short (stN f k).2.2 h3
      simp only [runT, List.length_append, List.length_cons, List.length_nil]
      omega

/-- Who doesn't meet the box is not seen in it. -/
theorem fold_filter (x : Bx) : ∀ (vs : List FV) (o : Option FV), (∀ v ∈ vs, meetF x v = false → coverB v.f.kd v.f.ps x.l x.t x.r x.b = false) → (vs.filter (meetF x)).foldl (pickV x) o = vs.foldl (pickV x) o
  | [], _, _ => rfl
  | v :: r, o, h => by
    have ih := fun o => fold_filter x r o (fun u hu => h u (by simp [hu]))
    by_cases hm : meetF x v = true
    · rw [List.filter_cons_of_pos hm, List.foldl_cons, List.foldl_cons, ih]
    · have hm' : meetF x v = false := by simpa using hm
      rw [List.filter_cons_of_neg (by simpa using hm), List.foldl_cons, ih]
      congr 1
      simp [pickV, h v (by simp) hm']
theorem top_filter (x : Bx) (vs : List FV) (hv : ∀ v ∈ vs, validF v.f = true) (hx : x.l ≤ x.r) (hy : x.t ≤ x.b) : topOf x (vs.filter (meetF x)) = topOf x vs :=
  fold_filter x vs none fun v h hm => by
    cases hc : coverB v.f.kd v.f.ps x.l x.t x.r x.b with
    | false => rfl
    | true => rw [cover_meets v x (hv v h) hx hy hc] at hm; cases hm

end Go.Proofs.YtbphndloichnaaaGreatDoor
namespace Go.Proofs.YtbphndloichnaaaGreatDoor
open Go.RowKit

theorem PtsAt.at {n0 : Nat} {w : World} {a : Option Addr} {ps : Pts} (hp : PtsAt n0 w a ps) {k : Nat} (hk : k < ps.length) :
    ∃ b off x y, a = some ⟨b, off, none⟩ ∧ b < n0 ∧ ps[k]? = some (x, y) ∧ w.cell? ⟨b, off + k * 2, none⟩ = some (.int .i64 x) ∧ w.cell? ⟨b, off + k * 2 + 1, none⟩ = some (.int .i64 y) := by
  rcases hp with rfl | ⟨b, off, rfl, h⟩
  · simp at hk
  · obtain ⟨x, y, h1, h2, h3⟩ := h.at hk
    exact ⟨b, off, x, y, rfl, h.1, h1, h2, h3⟩

set_option maxRecDepth 100000 in
set_option maxHeartbeats 4000000 in
theorem rIsFeature_any (id kd ht col : Int) (a : Option Addr) (n cap : Nat) (ps : Pts) (w : World) (hp : PtsAt w.heap.size w a ps) (hn : n = ps.length) (hn2 : n ≤ 1000000000000000) :
    Calls Tryz.prog 63 #[.agg #[.int .i64 id, .int .i64 kd, .int .i64 ht, .int .i64 col, .slice a n cap]] w fun e w' => e = .returned (.bool (validF ⟨id, kd, ht, col, ps⟩)) ∧ Below w.heap.size w w' := by
  have hB : ∀ o1 : Obj, Below w.heap.size w (w.alloc o1) := fun o1 => (Below.refl _ _).alloc (Nat.le_refl _) _
  have Hn : Hid (n = ps.length) := hn
  have Hp : Hid (PtsAt w.heap.size w a ps) := hp
  clear hn hp
  have HF : Hid ((id < 1 ∨ 99 < id ∨ ht < -9 ∨ 9 < ht ∨ col < 1 ∨ 9 < col) → validF ⟨id, kd, ht, col, ps⟩ = false) := by
    intro h
    simp only [validF, inB]
    rw [Bool.eq_false_iff]
    simp
    omega
  by_cases c1 : id < 1
  · go_enter Tryz.func63, Tryz.ntmps63
    go_wp2
    go_ret
    exact ⟨ret_bool (HF.out (by omega)).symm, hB _⟩
  by_cases c2 : 99 < id
  · go_enter Tryz.func63, Tryz.ntmps63
    go_wp2
    go_ret
    exact ⟨ret_bool (HF.out (by omega)).symm, hB _⟩
  by_cases c3 : ht < -9
  · go_enter Tryz.func63, Tryz.ntmps63
    go_wp2
    go_ret
    exact ⟨ret_bool (HF.out (by omega)).symm, hB _⟩
  by_cases c4 : 9 < ht
  · go_enter Tryz.func63, Tryz.ntmps63
    go_wp2
    go_ret
    exact ⟨ret_bool (HF.out (by omega)).symm, hB _⟩
  by_cases c5 : col < 1
  · go_enter Tryz.func63, Tryz.ntmps63
    go_wp2
    go_ret
    exact ⟨ret_bool (HF.out (by omega)).symm, hB _⟩
  by_cases c6 : 9 < col
  · go_enter Tryz.func63, Tryz.ntmps63
    go_wp2
    go_ret
    exact ⟨ret_bool (HF.out (by omega)).symm, hB _⟩
  clear HF
  have HT : Hid (validF ⟨id, kd, ht, col, ps⟩ = (mayB kd n && ps.all inW)) := by
    show validF ⟨id, kd, ht, col, ps⟩ = _
    have e1 : inB id 1 99 = true := by simp [inB]; omega
    have e2 : inB ht (-9) 9 = true := by simp [inB]; omega
    have e3 : inB col 1 9 = true := by simp [inB]; omega
    simp only [validF, e1, e2, e3, ← Hn.out, Bool.true_and]
  rw [HT.out]
  clear HT
  go_enter Tryz.func63, Tryz.ntmps63
  go_wp2
  go_loopw [3] (fun i wr => ∃ k : Nat, k ≤ n ∧ i = .int .i64 (k : Int) ∧ (ps.take k).all inW = true ∧ wr.cell? ⟨w.heap.size, 4, none⟩ = some (.slice a n cap) ∧ wr.cell? ⟨w.heap.size, 1, none⟩ = some (.int .i64 kd) ∧ Below w.heap.size w wr ∧ w.heap.size < wr.heap.size) (fun i _ => n - (intOf i).toNat)
  case atStart => exact ⟨0, by omega, rfl, rfl, by simp [go_sem], by simp [go_sem], hB _, by simp⟩
  case round =>
    obtain ⟨k, hk, rfl, hall, cl, ck, hBw, hs⟩ := hrel
    have Hall : Hid ((ps.take k).all inW = true) := hall
    clear hall
    by_cases hlt : k < n
    · obtain ⟨b, off, x, y, rfl, hb, hxy, hx, hy⟩ := (Hp.out.below hBw).at (k := k) (by rw [← Hn.out]; exact hlt)
      have Hxy : Hid (ps[k]? = some (x, y)) := hxy
      clear hxy
      by_cases hx1 : inB x 0 255 = true
      · by_cases hy1 : inB y 0 255 = true
        · go_wp2_with (go_at_call 105; refine (rin_any _ _ _ _).mono ?_; rintro e w2 ⟨rfl, rfl⟩)
          go_roundw
          case rel => exact ⟨k + 1, by omega, by go_num, all_take_succ Hxy.out Hall.out (by simp [inW, hx1, hy1]), cl, ck, hBw, hs⟩
          case measure => simp [intOf]; omega
        · have hy1' : inB y 0 255 = false := by simpa using hy1
          clear hy1
          have Hv : Hid (ps.all inW = false) := all_false Hxy.out (by simp [inW, hy1'])
          go_wp2_with (go_at_call 105; refine (rin_any _ _ _ _).mono ?_; rintro e w2 ⟨rfl, rfl⟩)
          go_ret
          exact ⟨ret_bool (by rw [Hv.out, Bool.and_false]), hBw⟩
      · have hx1' : inB x 0 255 = false := by simpa using hx1
        clear hx1
        have Hv : Hid (ps.all inW = false) := all_false Hxy.out (by simp [inW, hx1'])
        go_wp2_with (go_at_call 105; refine (rin_any _ _ _ _).mono ?_; rintro e w2 ⟨rfl, rfl⟩)
        go_ret
        exact ⟨ret_bool (by rw [Hv.out, Bool.and_false]), hBw⟩
    · have Hv : Hid ((mayB kd n && ps.all inW) = mayB kd n) := by
        show (mayB kd n && ps.all inW) = mayB kd n
        have h1 := Hall.out
        rw [show k = ps.length by have := Hn.out; omega, List.take_length] at h1
        rw [h1, Bool.and_true]
      clear Hall Hp
      by_cases k1 : kd = 1
      · subst k1
        go_wp2
        go_ret
        exact ⟨ret_bool (by rw [Hv.out, Bool.eq_iff_iff]; simp [mayB] <;> omega), hBw⟩
      by_cases k2 : kd = 2
      · subst k2
        by_cases n1 : 2 ≤ n
        · go_wp2
          go_ret
          exact ⟨ret_bool (by rw [Hv.out, Bool.eq_iff_iff]; simp [mayB] <;> omega), hBw⟩
        · go_wp2
          go_ret
          exact ⟨ret_bool (by rw [Hv.out, Bool.eq_iff_iff]; simp [mayB] <;> omega), hBw⟩
      by_cases k3 : kd = 3
      · subst k3
        by_cases n1 : 3 ≤ n
        · go_wp2
          go_ret
          exact ⟨ret_bool (by rw [Hv.out, Bool.eq_iff_iff]; simp [mayB] <;> omega), hBw⟩
        · go_wp2
          go_ret
          exact ⟨ret_bool (by rw [Hv.out, Bool.eq_iff_iff]; simp [mayB] <;> omega), hBw⟩
      · go_wp2
        go_ret
        exact ⟨ret_bool (by rw [Hv.out, Bool.eq_iff_iff]; simp [mayB] <;> omega), hBw⟩

end Go.Proofs.YtbphndloichnaaaGreatDoor
