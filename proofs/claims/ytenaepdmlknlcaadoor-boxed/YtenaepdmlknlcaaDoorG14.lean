import Derived.Test.YtenaepdmlknlcaaDoorG13
namespace Go.Proofs.YtenaepdmlknlcaaDoor
open Go.RowKit Go.Shelf

/-- A list of features in memory. -/
def FeatsAt (w : World) (b off : Nat) (vs : List FV) : Prop :=
  b < w.heap.size ∧ ∀ (i : Nat) v, vs[i]? = some v → (w.cell? ⟨b, off + i * 5, none⟩ = some (.int .i64 v.f.id) ∧ w.cell? ⟨b, off + i * 5 + 1, none⟩ = some (.int .i64 v.f.kd) ∧ w.cell? ⟨b, off + i * 5 + 2, none⟩ = some (.int .i64 v.f.ht) ∧ w.cell? ⟨b, off + i * 5 + 3, none⟩ = some (.int .i64 v.f.col) ∧ w.cell? ⟨b, off + i * 5 + 4, none⟩ = some (.slice (some ⟨v.pb, v.po, none⟩) v.f.ps.length v.cap)) ∧ Good (· < w.heap.size) w v

def seenB (vs : List FV) (k : Nat) (j : Nat) : Bool := (vs.take k).any fun v => v.f.id == (j : Int)
theorem seenB_succ {vs : List FV} {k : Nat} {v : FV} (h : vs[k]? = some v) (j : Nat) : seenB vs (k + 1) j = (seenB vs k j || v.f.id == (j : Int)) := by
  simp [seenB, List.take_add_one, h]

theorem join_short' (cs : List Nat) (hc : ∀ c ∈ cs, c < 100) (hn : cs.length ≤ 64) : (Lib.join ((txts cs).map (·.data.toList)) [44]).length ≤ 1000 := by
  have hb := rle_bd cs.length cs (Nat.le_refl _)
  have hx : ∀ x ∈ (txts cs).map (·.data.toList), x.length ≤ 5 := by
    intro x hx
    simp only [txts, List.map_map, List.mem_map, Function.comp] at hx
    obtain ⟨p, hp, rfl⟩ := hx
    have h1 := hb.2 p hp
    have h2 := decDigits_short p.1 (by omega)
    have h3 := decDigits_short p.2 (hc _ h1.2)
    simp [txt]; omega
  have hl : ((txts cs).map (·.data.toList)).length ≤ 64 := by simp [txts]; omega
  generalize (txts cs).map (·.data.toList) = l at *
  cases l with
  | nil => simp [Lib.join_nil]
  | cons x r =>
    rw [Lib.join_cons, List.length_append]
    have h1 := joinTail_short [44] rfl r (fun y hy => hx y (by simp [hy]))
    have h2 := hx x (by simp)
    simp at hl
    omega

theorem zero45 : Tryd.zeroCells45 = Array.replicate 100 (Value.bool false) := by kernel_rfl

set_option maxRecDepth 100000 in
set_option maxHeartbeats 2000000 in
theorem AreFeatures_true (b off n cap : Nat) (vs : List FV) (w : World) (hf : FeatsAt w b off vs) (hn : n = vs.length) (hn2 : n ≤ 1000) (hd : ∀ (k : Nat) v, vs[k]? = some v → ∀ j : Nat, v.f.id = (j : Int) → seenB vs k j = false) :
    Calls Tryd.prog 8 #[.slice (some ⟨b, off, none⟩) n cap] w fun e w' => e = .returned (.bool true) ∧ Below w.heap.size w w' := by
  have Hf : Hid (FeatsAt w b off vs) := hf
  have Hn : Hid (n = vs.length) := hn
  have Hd : Hid (∀ (k : Nat) v, vs[k]? = some v → ∀ j : Nat, v.f.id = (j : Int) → seenB vs k j = false) := hd
  have hb := hf.1
  clear hf hn hd
  go_enter Tryd.func8, Tryd.ntmps8
  go_wp2
  have h45 : ∀ j, j < 100 → (w.alloc (.cells Tryd.zeroCells45 45)).cell? ⟨w.heap.size, j, none⟩ = some (.bool false) := fun j hj => by
    rw [World.cell?_alloc_new, zero45]
    simp [hj]
  have H45 : Hid _ := h45
  clear h45
  go_loopw [8] (fun i wr => ∃ k : Nat, k ≤ n ∧ i = .int .i64 k ∧ (∀ j, j < 100 → wr.cell? ⟨w.heap.size, j, none⟩ = some (.bool (seenB vs k j))) ∧ (∀ j, wr.frozen? ⟨w.heap.size, j, none⟩ = false) ∧ Below w.heap.size w wr ∧ w.heap.size < wr.heap.size) (fun i _ => n - (intOf i).toNat)
  case atStart => exact ⟨0, by omega, rfl, fun j hj => by rw [H45.out j hj]; simp [seenB], fun j => by simp [go_sem], (Below.refl _ _).alloc (Nat.le_refl _) _, by simp⟩
  case round =>
    obtain ⟨k, hk, rfl, hcs, hfz, hB, hs⟩ := hrel
    have Hcs : Hid (∀ j, j < 100 → wr.cell? ⟨w.heap.size, j, none⟩ = some (.bool (seenB vs k j))) := hcs
    have Hfz : Hid (∀ j, wr.frozen? ⟨w.heap.size, j, none⟩ = false) := hfz
    clear hcs hfz
    by_cases hlt : k < n
    · have hkl : k < vs.length := by have := Hn.out; omega
      obtain ⟨v, hv⟩ : ∃ v, vs[k]? = some v := ⟨vs[k], List.getElem?_eq_getElem hkl⟩
      obtain ⟨⟨a0, a1, a2, a3, a4⟩, hgood⟩ := Hf.out.2 k v hv
      obtain ⟨hval, hpb, hcapv, hpts⟩ := hgood
      have hvv := hval
      simp only [validF, Bool.and_eq_true, inB, decide_eq_true_eq] at hvv
      have hid1 : 1 ≤ v.f.id ∧ v.f.id ≤ 99 := by omega
      obtain ⟨dd, hdd⟩ : ∃ dd : Nat, v.f.id = (dd : Int) := ⟨v.f.id.toNat, by omega⟩
      have hseen := Hd.out k v hv dd hdd
      have HS : Hid (∀ j, seenB vs (k + 1) j = (seenB vs k j || v.f.id == (j : Int))) := seenB_succ hv
      have HP : Hid (Places w.heap.size w v.pb v.po v.f.ps) := ⟨hpb, hpts⟩
      have Hval : Hid (validF v.f = true) := hval
      have hmay : mayB v.f.kd v.f.ps.length = true := by simp only [validF, Bool.and_eq_true] at hval; exact hval.1.2
      have hlen6 : v.f.ps.length ≤ 6 := by simp [mayB] at hmay; omega
      clear hv hpts hval hvv hmay hcapv hpb
      obtain ⟨⟨id, kd, ht, col, ps⟩, pb, po, cap'⟩ := v
      dsimp only at *
      subst hdd
      have hd1 : 1 ≤ dd := by omega
      have hd2 : dd < 100 := by omega
      have hdI : (dd : Int) < 100 := by omega
      have hd0 : (0 : Int) ≤ (dd : Int) := by omega
      have e0 := (hB.cell (p := ⟨b, off + k * 5, none⟩) hb).trans a0
      have e1 := (hB.cell (p := ⟨b, off + k * 5 + 1, none⟩) hb).trans a1
      have e2 := (hB.cell (p := ⟨b, off + k * 5 + 2, none⟩) hb).trans a2
      have e3 := (hB.cell (p := ⟨b, off + k * 5 + 3, none⟩) hb).trans a3
      have e4 := (hB.cell (p := ⟨b, off + k * 5 + 4, none⟩) hb).trans a4
      have hbr : b < wr.heap.size := by omega
      clear a0 a1 a2 a3 a4 hid1
      have hBo : ∀ o : Obj, Below w.heap.size w (wr.alloc o) := fun o => hB.alloc hB.size o
      go_wp2_with (go_at_call 12; refine (IsFeature_any (dd : Int) kd ht col (some ⟨pb, po, none⟩) ps.length cap' ps _ (.inr ⟨pb, po, rfl, (HP.out.below (hBo _)).mono (by simp; omega)⟩) rfl (by omega)).mono ?_; rintro e w2 ⟨rfl, hb2⟩; rw [Hval.out]; have hz2 : wr.heap.size < w2.heap.size := (by have := hb2.size; simp at this; omega); have hB2 : Below wr.heap.size wr w2 := ((Below.refl _ _).alloc (Nat.le_refl _) _).trans (hb2.mono (by simp)); have c1 := (Q5.new wr (.int .i64 (dd : Int)) (.int .i64 kd) (.int .i64 ht) (.int .i64 col) (.slice (some ⟨pb, po, none⟩) ps.length cap') 30).below hb2 (by simp); have c2 := c1.c0; have c3 := (hB2.cell (p := ⟨w.heap.size, dd, none⟩) hs).trans ((Hcs.out dd hd2).trans (by rw [hseen])); have c4 := (hB2.frozen (p := ⟨w.heap.size, dd, none⟩) hs).trans (Hfz.out dd))
      refine ⟨⟨k + 1, by omega, by go_num, fun j hj => ?_, fun j => ?_, (hB.trans (hB2.mono hB.size)).trans (below_set1 w.heap.size w2 w.heap.size dd (Nat.le_refl _) _), Nat.lt_of_lt_of_le (by omega) (below_set1 w.heap.size w2 w.heap.size dd (Nat.le_refl _) _).size⟩, by simp [intOf]; omega⟩
      · rw [HS.out j]
        by_cases hjd : j = dd
        · subst hjd
          rw [World.cell?_setCell_same _ _ _ c3]
          simp
        · rw [World.cell?_setCell_other _ _ _ _ (by intro e; injection e with _ e2 _; exact hjd e2.symm), hB2.cell (p := ⟨w.heap.size, j, none⟩) hs, Hcs.out j hj]
          have hne : ((dd : Int) == (j : Int)) = false := by rw [beq_eq_false_iff_ne]; omega
          rw [hne, Bool.or_false]
      · rw [World.frozen?_setCell, hB2.frozen (p := ⟨w.heap.size, j, none⟩) hs]
        exact Hfz.out j
    · go_wp2
      go_ret
      exact ⟨rfl, hB⟩

theorem tcol_bd (x : Bx) (vs : List FV) (h : ∀ z ∈ vs, validF z.f = true) : 0 ≤ tcol (topOf x vs) ∧ tcol (topOf x vs) < 100 := by
  cases ho : topOf x vs with
  | none => simp [tcol]
  | some u =>
    have := top_valid x vs h u ho
    simp only [validF, Bool.and_eq_true, inB, decide_eq_true_eq] at this
    simp only [tcol]
    omega

def bodyS (vs : List FV) (p c r : Int) : ByteArray := ⟨(Lib.join ((txts ((List.range 64).map fun n => (colZ vs p c r n).toNat)).map (·.data.toList)) [44]).toArray⟩

theorem FeatsAt.good {w : World} {b off : Nat} {vs : List FV} (h : FeatsAt w b off vs) : ∀ v ∈ vs, Good (· < w.heap.size) w v := fun v hv => by
  obtain ⟨i, hi, rfl⟩ := List.mem_iff_getElem.1 hv
  exact (h.2 i _ (List.getElem?_eq_getElem hi)).2

theorem bodyS_size (vs : List FV) (p c r : Int) (h : ∀ n, 0 ≤ colZ vs p c r n ∧ colZ vs p c r n < 100) : (bodyS vs p c r).size ≤ 1000 := by
  show (Lib.join ((txts ((List.range 64).map fun n => (colZ vs p c r n).toNat)).map (·.data.toList)) [44]).toArray.size ≤ 1000
  rw [List.size_toArray]
  exact join_short' _ (fun x hx => by
    simp only [List.mem_map, List.mem_range] at hx
    obtain ⟨n, _, rfl⟩ := hx
    have := h n
    omega) (by simp)

end Go.Proofs.YtenaepdmlknlcaaDoor
namespace Go.Proofs.YtenaepdmlknlcaaDoor
open Go.RowKit Go.Shelf

set_option maxRecDepth 100000 in
set_option maxHeartbeats 2000000 in
theorem Draw_small (b off n cap : Nat) (vs : List FV) (z p c r : Int) (w : World) (hf : FeatsAt w b off vs) (hn : n = vs.length) (hn1 : 1 ≤ n) (hn2 : n ≤ 4) (hd : ∀ (k : Nat) v, vs[k]? = some v → ∀ j : Nat, v.f.id = (j : Int) → seenB vs k j = false)
    (hz : ZP z p) (ht : tileB z c r = true) (h1 : 0 ≤ c) (h2 : c ≤ 7) (h3 : 0 ≤ r) (h4 : r ≤ 7) (hc : 8 * p * c ≤ 256 - 8 * p) (hr : 8 * p * r ≤ 256 - 8 * p)
    (htab : w.cell? ⟨3, 15, none⟩ = some (.int .u8 4)) (hw3 : 3 < w.heap.size) :
    Calls Tryd.prog 5 #[.slice (some ⟨b, off, none⟩) n cap, .agg #[.int .i64 z, .int .i64 c, .int .i64 r]] w fun e w' => ∃ m : ByteArray, e = .returned (.tuple #[.string m, .string (bodyS vs p c r), .int .i64 0]) ∧ m.size = 8 ∧ Below w.heap.size w w' := by
  have Hf : Hid (FeatsAt w b off vs) := hf
  have Hn : Hid (n = vs.length) := hn
  have Hd : Hid (∀ (k : Nat) v, vs[k]? = some v → ∀ j : Nat, v.f.id = (j : Int) → seenB vs k j = false) := hd
  have Htile : Hid (tileB z c r = true) := ht
  have Htab : Hid (w.cell? ⟨3, 15, none⟩ = some (.int .u8 4)) := htab
  have HZ : Hid (ZP z p) := hz
  have Hcr : Hid (8 * p * c ≤ 256 - 8 * p ∧ 8 * p * r ≤ 256 - 8 * p) := ⟨hc, hr⟩
  have hb := hf.1
  clear hf hn hd ht htab hz hc hr
  have hBo : ∀ o : Obj, Below w.heap.size w (w.alloc o) := fun o => (Below.refl _ _).alloc (Nat.le_refl _) o
  have hFeat : ∀ W : World, Below w.heap.size w W → FeatsAt W b off vs := fun W hW => ⟨Nat.lt_of_lt_of_le hb hW.size, fun i v e => by
    obtain ⟨⟨a0, a1, a2, a3, a4⟩, g⟩ := Hf.out.2 i v e
    have hc := fun o => hW.cell (p := ⟨b, o, none⟩) hb
    have g' := Good.below hW (fun _ h => h) g
    exact ⟨⟨(hc _).trans a0, (hc _).trans a1, (hc _).trans a2, (hc _).trans a3, (hc _).trans a4⟩, g'.1, Nat.lt_of_lt_of_le g'.2.1 hW.size, g'.2.2.1, g'.2.2.2⟩⟩
  have HFeat : Hid _ := hFeat
  clear hFeat
  go_enter Tryd.func5, Tryd.ntmps5
  go_wp2_with (first
    | (go_at_call 7; refine (IsTile_any z c r _).mono ?_; rintro e w1 ⟨rfl, hb1⟩; rw [Htile.out]; have hB1 : Below w.heap.size w w1 := (hBo _).trans (hb1.mono (by simp)); have hz1 : w.heap.size < w1.heap.size := (by have := hb1.size; simp at this; omega); have q1 : w1.cell? ⟨w.heap.size, 0, none⟩ = some (.int .i64 z) ∧ w1.cell? ⟨w.heap.size, 1, none⟩ = some (.int .i64 c) ∧ w1.cell? ⟨w.heap.size, 2, none⟩ = some (.int .i64 r) := ⟨(hb1.cell (p := ⟨w.heap.size, 0, none⟩) (by simp)).trans (by simp [go_sem]), (hb1.cell (p := ⟨w.heap.size, 1, none⟩) (by simp)).trans (by simp [go_sem]), (hb1.cell (p := ⟨w.heap.size, 2, none⟩) (by simp)).trans (by simp [go_sem])⟩; have Q1 : Hid _ := q1; clear q1 hb1)
    | (go_at_call 8; refine (AreFeatures_true b off n cap vs _ (HFeat.out _ hB1) Hn.out (by omega) Hd.out).mono ?_; rintro e w2 ⟨rfl, hb2⟩; have hB2 : Below w.heap.size w w2 := hB1.trans (hb2.mono hB1.size); have hz2 := hb2.size; have q2 := And.intro ((hb2.cell (p := ⟨w.heap.size, 0, none⟩) hz1).trans Q1.out.1) (And.intro ((hb2.cell (p := ⟨w.heap.size, 1, none⟩) hz1).trans Q1.out.2.1) ((hb2.cell (p := ⟨w.heap.size, 2, none⟩) hz1).trans Q1.out.2.2)); have Q2 : Hid _ := q2; clear q2))
  go_loopw [21] (fun i wr => ∃ k : Nat, k ≤ n ∧ i = .int .i64 k ∧ ((k = 0 ∧ wr.cell? ⟨w2.heap.size, 0, none⟩ = some (.pointer none)) ∨ (1 ≤ k ∧ ∃ q x, wr.cell? ⟨w2.heap.size, 0, none⟩ = some (.pointer (some ⟨q, 0, none⟩)) ∧ IsT (fun b => b < wr.heap.size ∧ b ≠ w2.heap.size) wr 1 q (vs.take k) x)) ∧ wr.frozen? ⟨w2.heap.size, 0, none⟩ = false ∧ (wr.cell? ⟨w.heap.size, 0, none⟩ = some (.int .i64 z) ∧ wr.cell? ⟨w.heap.size, 1, none⟩ = some (.int .i64 c) ∧ wr.cell? ⟨w.heap.size, 2, none⟩ = some (.int .i64 r)) ∧ Below w.heap.size w wr ∧ w2.heap.size < wr.heap.size) (fun i _ => n - (intOf i).toNat)
  case atStart =>
    have hA : ∀ o : Obj, Below w2.heap.size w2 (w2.alloc o) := fun o => (Below.refl _ _).alloc (Nat.le_refl _) o
    exact ⟨0, by omega, rfl, .inl ⟨rfl, by simp [go_sem]⟩, by simp [go_sem], ⟨((hA _).cell (p := ⟨w.heap.size, 0, none⟩) (show w.heap.size < w2.heap.size by omega)).trans Q2.out.1, ((hA _).cell (p := ⟨w.heap.size, 1, none⟩) (show w.heap.size < w2.heap.size by omega)).trans Q2.out.2.1, ((hA _).cell (p := ⟨w.heap.size, 2, none⟩) (show w.heap.size < w2.heap.size by omega)).trans Q2.out.2.2⟩, hB2.alloc hB2.size _, by simp⟩
  case round =>
    obtain ⟨k, hk, rfl, htree, hfz, hti, hB, hs⟩ := hrel
    by_cases hlt : k < n
    · have hkl : k < vs.length := by have := Hn.out; omega
      obtain ⟨v, hv⟩ : ∃ v, vs[k]? = some v := ⟨vs[k], List.getElem?_eq_getElem hkl⟩
      obtain ⟨⟨e0, e1, e2, e3, e4⟩, hgood⟩ := (HFeat.out wr hB).2 k v hv
      obtain ⟨hval, _, hcapv, _⟩ := hgood
      have hg0 := (Hf.out.2 k v hv).2
      have hpb0 : v.pb < w.heap.size := hg0.2.1
      have hmay : mayB v.f.kd v.f.ps.length = true := by simp only [validF, Bool.and_eq_true] at hval; exact hval.1.2
      have hlen : 1 ≤ v.f.ps.length ∧ v.f.ps.length ≤ 6 := by simp [mayB] at hmay; omega
      have HTk : Hid (vs.take (k + 1) = vs.take k ++ [v]) := by show vs.take (k + 1) = _; rw [List.take_add_one, hv]; rfl
      have hbr : b < wr.heap.size := Nat.lt_of_lt_of_le hb hB.size
      have HPl : Hid (∀ W : World, Below w.heap.size w W → Places W.heap.size W v.pb v.po v.f.ps) := fun W hW => ⟨Nat.lt_of_lt_of_le hpb0 hW.size, fun j a b' e => ⟨(hW.cell (p := ⟨v.pb, v.po + j * 2, none⟩) hpb0).trans (hg0.2.2.2 j a b' e).1, (hW.cell (p := ⟨v.pb, v.po + j * 2 + 1, none⟩) hpb0).trans (hg0.2.2.2 j a b' e).2⟩⟩
      have hA : ∀ o : Obj, Below wr.heap.size wr (wr.alloc o) := fun o => (Below.refl _ _).alloc (Nat.le_refl _) o
      clear hval hmay hg0 hv
      obtain ⟨f, pb, po, cap'⟩ := v
      dsimp only at *
      have Hlen : Hid (1 ≤ f.ps.length ∧ f.ps.length ≤ 6) := hlen
      have Hcv : Hid (f.ps.length ≤ cap') := hcapv
      clear hlen hcapv
      rcases htree with ⟨hk0', hroot⟩ | ⟨hk1, q, x, hroot, hIT⟩
      · have Hk0 : Hid (k = 0) := hk0'
        clear hk0'
        have Hw9 : Hid (∀ W : World, W = wr.alloc (.cells #[.int .i64 f.id, .int .i64 f.kd, .int .i64 f.ht, .int .i64 f.col, .slice (some ⟨pb, po, none⟩) f.ps.length cap'] 30) → _) := fun W hW => With_nil (fun b => b < W.heap.size ∧ b ≠ w2.heap.size) f pb po f.ps.length cap' W (fun b hb => hb.1) ⟨by rw [hW]; simp; omega, by omega⟩ (HPl.out W (by rw [hW]; exact hB.alloc hB.size _)) rfl Hlen.out.1 Hlen.out.2 Hcv.out
        go_wp2_with (go_at_call 9; refine Calls.mono (Hw9.out _ rfl) ?_; rintro e w3 ⟨q', x', rfl, hIT3, hb3⟩; have hz3 : wr.heap.size + 1 ≤ w3.heap.size := (by have := hb3.size; simp at this; omega); have hB3 : Below wr.heap.size wr w3 := (hA _).trans (hb3.mono (by simp)); have s1 := (hB3.cell (p := ⟨w2.heap.size, 0, none⟩) hs).trans hroot; have s2 := (hB3.frozen (p := ⟨w2.heap.size, 0, none⟩) hs).trans hfz; have HIT3 : Hid (IsT (okN (fun b => b < wr.heap.size + 1 ∧ b ≠ w2.heap.size) (wr.heap.size + 1) w3.heap.size) w3 1 q' [⟨f, pb, po, cap'⟩] x') := (by first | exact hIT3 | (simp only [World.size_alloc] at hIT3; exact hIT3)) ; clear hIT3)
        have hsame : Same (okN (fun b => b < wr.heap.size + 1 ∧ b ≠ w2.heap.size) (wr.heap.size + 1) w3.heap.size) w3 (w3.setCell ⟨w2.heap.size, 0, none⟩ (.pointer (some ⟨q', 0, none⟩))) := same_set w3 w2.heap.size 0 _ (fun h => h.elim (fun h => h.2 rfl) (fun h => by have := h.1; omega))
        have hset : Below w2.heap.size w3 (w3.setCell ⟨w2.heap.size, 0, none⟩ (.pointer (some ⟨q', 0, none⟩))) := below_set1 _ w3 _ 0 (Nat.le_refl _) _
        refine ⟨⟨k + 1, by omega, by go_num, .inr ⟨by omega, q', x', World.cell?_setCell_same _ _ _ s1, ?_⟩, by rw [World.frozen?_setCell]; exact s2, ⟨(hset.cell (p := ⟨w.heap.size, 0, none⟩) (show w.heap.size < w2.heap.size by omega)).trans ((hB3.cell (p := ⟨w.heap.size, 0, none⟩) (show w.heap.size < wr.heap.size by omega)).trans hti.1), (hset.cell (p := ⟨w.heap.size, 1, none⟩) (show w.heap.size < w2.heap.size by omega)).trans ((hB3.cell (p := ⟨w.heap.size, 1, none⟩) (show w.heap.size < wr.heap.size by omega)).trans hti.2.1), (hset.cell (p := ⟨w.heap.size, 2, none⟩) (show w.heap.size < w2.heap.size by omega)).trans ((hB3.cell (p := ⟨w.heap.size, 2, none⟩) (show w.heap.size < wr.heap.size by omega)).trans hti.2.2)⟩, (hB.trans (hB3.mono hB.size)).trans (hset.mono (by omega)), Nat.lt_of_lt_of_le (by omega) hset.size⟩, by simp [intOf]; omega⟩
        rw [HTk.out]
        rw [Hk0.out, List.take_zero, List.nil_append]
        exact (IsT.same hsame HIT3.out).mono (fun b hb => hb.elim (fun h => ⟨Nat.lt_of_lt_of_le h.1 (Nat.le_trans (by omega) hset.size), h.2⟩) (fun h => ⟨Nat.lt_of_lt_of_le h.2 hset.size, by have := h.1; omega⟩))
      · have HIT : Hid (IsT (fun b => b < wr.heap.size ∧ b ≠ w2.heap.size) wr 1 q (vs.take k) x) := hIT
        clear hIT
        have Hw9 : Hid (∀ W : World, W = wr.alloc (.cells #[.int .i64 f.id, .int .i64 f.kd, .int .i64 f.ht, .int .i64 f.col, .slice (some ⟨pb, po, none⟩) f.ps.length cap'] 30) → _) := fun W hW => With_more (fun b => b < W.heap.size ∧ b ≠ w2.heap.size) f pb po f.ps.length cap' q (vs.take k) x W (by
          rw [hW]
          exact (HIT.out.same (Same.of_below (hA _) (fun b hb => hb.1))).mono (fun b hb => ⟨by simp; have := hb.1; omega, hb.2⟩)) (by rw [List.length_take]; omega) (fun b hb => hb.1) ⟨by rw [hW]; simp; omega, by omega⟩ (HPl.out W (by rw [hW]; exact hB.alloc hB.size _)) rfl Hlen.out.1 Hlen.out.2 Hcv.out
        go_wp2_with (go_at_call 9; refine Calls.mono (Hw9.out _ rfl) ?_; rintro e w3 ⟨q', x', rfl, hIT3, hb3⟩; have hz3 : wr.heap.size + 1 ≤ w3.heap.size := (by have := hb3.size; simp at this; omega); have hB3 : Below wr.heap.size wr w3 := (hA _).trans (hb3.mono (by simp)); have s1 := (hB3.cell (p := ⟨w2.heap.size, 0, none⟩) hs).trans hroot; have s2 := (hB3.frozen (p := ⟨w2.heap.size, 0, none⟩) hs).trans hfz; have HIT3 : Hid (IsT (okN (fun b => b < wr.heap.size + 1 ∧ b ≠ w2.heap.size) (wr.heap.size + 1) w3.heap.size) w3 1 q' (vs.take k ++ [⟨f, pb, po, cap'⟩]) x') := (by first | exact hIT3 | (simp only [World.size_alloc] at hIT3; exact hIT3)) ; clear hIT3)
        have hsame : Same (okN (fun b => b < wr.heap.size + 1 ∧ b ≠ w2.heap.size) (wr.heap.size + 1) w3.heap.size) w3 (w3.setCell ⟨w2.heap.size, 0, none⟩ (.pointer (some ⟨q', 0, none⟩))) := same_set w3 w2.heap.size 0 _ (fun h => h.elim (fun h => h.2 rfl) (fun h => by have := h.1; omega))
        have hset : Below w2.heap.size w3 (w3.setCell ⟨w2.heap.size, 0, none⟩ (.pointer (some ⟨q', 0, none⟩))) := below_set1 _ w3 _ 0 (Nat.le_refl _) _
        refine ⟨⟨k + 1, by omega, by go_num, .inr ⟨by omega, q', x', World.cell?_setCell_same _ _ _ s1, ?_⟩, by rw [World.frozen?_setCell]; exact s2, ⟨(hset.cell (p := ⟨w.heap.size, 0, none⟩) (show w.heap.size < w2.heap.size by omega)).trans ((hB3.cell (p := ⟨w.heap.size, 0, none⟩) (show w.heap.size < wr.heap.size by omega)).trans hti.1), (hset.cell (p := ⟨w.heap.size, 1, none⟩) (show w.heap.size < w2.heap.size by omega)).trans ((hB3.cell (p := ⟨w.heap.size, 1, none⟩) (show w.heap.size < wr.heap.size by omega)).trans hti.2.1), (hset.cell (p := ⟨w.heap.size, 2, none⟩) (show w.heap.size < w2.heap.size by omega)).trans ((hB3.cell (p := ⟨w.heap.size, 2, none⟩) (show w.heap.size < wr.heap.size by omega)).trans hti.2.2)⟩, (hB.trans (hB3.mono hB.size)).trans (hset.mono (by omega)), Nat.lt_of_lt_of_le (by omega) hset.size⟩, by simp [intOf]; omega⟩
        rw [HTk.out]
        skip
        exact (IsT.same hsame HIT3.out).mono (fun b hb => hb.elim (fun h => ⟨Nat.lt_of_lt_of_le h.1 (Nat.le_trans (by omega) hset.size), h.2⟩) (fun h => ⟨Nat.lt_of_lt_of_le h.2 hset.size, by have := h.1; omega⟩))
    · obtain rfl : k = n := by omega
      rcases htree with ⟨hk0, _⟩ | ⟨_, q, x, hroot, hIT⟩
      · omega
      · have hIT' : IsT (fun b => b < wr.heap.size ∧ b ≠ w2.heap.size) wr 1 q vs x := by
          rw [show vs.take k = vs from by rw [Hn.out]; exact List.take_length] at hIT
          exact hIT
        have hcol : ∀ n, 0 ≤ colZ vs p c r n ∧ colZ vs p c r n < 100 := fun n => tcol_bd _ _ (fun z hz => (Hf.out.good z (List.mem_filter.1 hz).1).1)
        have hBd := Body_any (fun b => b < wr.heap.size ∧ b ≠ w2.heap.size) 1 q vs x z p c r wr (fun b hb => hb.1) hIT' (fun v hv => by
          obtain ⟨i, hi, rfl⟩ := List.mem_iff_getElem.1 hv
          have g := ((HFeat.out wr hB).2 i _ (List.getElem?_eq_getElem hi)).2
          have g0 := (Hf.out.2 i _ (List.getElem?_eq_getElem hi)).2
          exact ⟨g.1, ⟨g.2.1, by have := g0.2.1; omega⟩, g.2.2.1, g.2.2.2⟩) hcol HZ.out h1 h2 h3 h4 Hcr.out.1 Hcr.out.2
        have HBd : Hid _ := hBd
        have Hsz := bodyS_size vs p c r hcol
        have HM : Hid (∀ w4 : World, Below w.heap.size w w4 → _) := fun w4 hw4 => Mark_any (bodyS vs p c r) w4 Hsz ((hw4.cell (p := ⟨3, 15, none⟩) hw3).trans Htab.out) (Nat.lt_of_lt_of_le hw3 hw4.size)
        clear hBd hIT hIT' hcol
        obtain ⟨t0, t1, t2⟩ := hti
        go_wp2_with (first
          | (go_at_call 10; refine Calls.mono HBd.out ?_; rintro e w4 ⟨rfl, hb4⟩; have hB4 : Below w.heap.size w w4 := hB.trans (hb4.mono hB.size))
          | (go_at_call 11; refine Calls.mono (HM.out _ hB4) ?_; rintro e w5 ⟨m, rfl, hm8, hb5⟩))
        go_ret3
        exact ⟨m, rfl, hm8, hB4.trans (hb5.mono hB4.size)⟩

end Go.Proofs.YtenaepdmlknlcaaDoor
