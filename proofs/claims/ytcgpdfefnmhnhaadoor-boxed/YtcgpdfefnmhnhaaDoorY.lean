import Derived.Test.YtcgpdfefnmhnhaaDoorX
namespace Go.Proofs.YtcgpdfefnmhnhaaDoor
open Go.RowKit Go.Shelf

/-- A list of features in memory. -/
def FeatsAt (w : World) (b off : Nat) (vs : List FV) : Prop :=
  b < w.heap.size ∧ ∀ (i : Nat) v, vs[i]? = some v → (w.cell? ⟨b, off + i * 5, none⟩ = some (.int .i64 v.f.id) ∧ w.cell? ⟨b, off + i * 5 + 1, none⟩ = some (.int .i64 v.f.kd) ∧ w.cell? ⟨b, off + i * 5 + 2, none⟩ = some (.int .i64 v.f.ht) ∧ w.cell? ⟨b, off + i * 5 + 3, none⟩ = some (.int .i64 v.f.col) ∧ w.cell? ⟨b, off + i * 5 + 4, none⟩ = some (.slice (some ⟨v.pb, v.po, none⟩) v.f.ps.length v.cap)) ∧ Good (· < w.heap.size) w v

def seenB (vs : List FV) (k : Nat) (j : Nat) : Bool := (vs.take k).any fun v => v.f.id == (j : Int)
theorem seenB_succ {vs : List FV} {k : Nat} {v : FV} (h : vs[k]? = some v) (j : Nat) : seenB vs (k + 1) j = (seenB vs k j || v.f.id == (j : Int)) := by
  simp [seenB, List.take_add_one, h]

theorem join_short' (cs : List Nat) (hc : ∀ c ∈ cs, c < 100) (hn : cs.length ≤ 64) : (Lib.join ((txts cs).map (·.data.toList)) [44]).length ≤ 1000 := by
  have hb := rle_bd cs.length cs (Nat.le_refl _)
  have hx : ∀ x ∈ (txts cs).map (·.data.toList), x.length ≤ 5 := by
    intro x hx
    simp only [txts, List.map_map, List.mem_map, Function.comp] at hx
    obtain ⟨p, hp, rfl⟩ := hx
    have h1 := hb.2 p hp
    have h2 := decDigits_short p.1 (by omega)
    have h3 := decDigits_short p.2 (hc _ h1.2)
    simp [txt]; omega
  have hl : ((txts cs).map (·.data.toList)).length ≤ 64 := by simp [txts]; omega
  generalize (txts cs).map (·.data.toList) = l at *
  cases l with
  | nil => simp [Lib.join_nil]
  | cons x r =>
    rw [Lib.join_cons, List.length_append]
    have h1 := joinTail_short [44] rfl r (fun y hy => hx y (by simp [hy]))
    have h2 := hx x (by simp)
    simp at hl
    omega

theorem zero45 : Tryd.zeroCells45 = Array.replicate 100 (Value.bool false) := by kernel_rfl

set_option maxRecDepth 100000 in
set_option maxHeartbeats 2000000 in
theorem AreFeatures_true (b off n cap : Nat) (vs : List FV) (w : World) (hf : FeatsAt w b off vs) (hn : n = vs.length) (hn2 : n ≤ 1000) (hd : ∀ (k : Nat) v, vs[k]? = some v → ∀ j : Nat, v.f.id = (j : Int) → seenB vs k j = false) :
    Calls Tryd.prog 8 #[.slice (some ⟨b, off, none⟩) n cap] w fun e w' => e = .returned (.bool true) ∧ Below w.heap.size w w' := by
  have Hf : Hid (FeatsAt w b off vs) := hf
  have Hn : Hid (n = vs.length) := hn
  have Hd : Hid (∀ (k : Nat) v, vs[k]? = some v → ∀ j : Nat, v.f.id = (j : Int) → seenB vs k j = false) := hd
  have hb := hf.1
  clear hf hn hd
  go_enter Tryd.func8, Tryd.ntmps8
  go_wp2
  have h45 : ∀ j, j < 100 → (w.alloc (.cells Tryd.zeroCells45 45)).cell? ⟨w.heap.size, j, none⟩ = some (.bool false) := fun j hj => by
    rw [World.cell?_alloc_new, zero45]
    simp [hj]
  have H45 : Hid _ := h45
  clear h45
  go_loopw [8] (fun i wr => ∃ k : Nat, k ≤ n ∧ i = .int .i64 k ∧ (∀ j, j < 100 → wr.cell? ⟨w.heap.size, j, none⟩ = some (.bool (seenB vs k j))) ∧ (∀ j, wr.frozen? ⟨w.heap.size, j, none⟩ = false) ∧ Below w.heap.size w wr ∧ w.heap.size < wr.heap.size) (fun i _ => n - (intOf i).toNat)
  case atStart => exact ⟨0, by omega, rfl, fun j hj => by rw [H45.out j hj]; simp [seenB], fun j => by simp [go_sem], (Below.refl _ _).alloc (Nat.le_refl _) _, by simp⟩
  case round =>
    obtain ⟨k, hk, rfl, hcs, hfz, hB, hs⟩ := hrel
    have Hcs : Hid (∀ j, j < 100 → wr.cell? ⟨w.heap.size, j, none⟩ = some (.bool (seenB vs k j))) := hcs
    have Hfz : Hid (∀ j, wr.frozen? ⟨w.heap.size, j, none⟩ = false) := hfz
    clear hcs hfz
    by_cases hlt : k < n
    · have hkl : k < vs.length := by have := Hn.out; omega
      obtain ⟨v, hv⟩ : ∃ v, vs[k]? = some v := ⟨vs[k], List.getElem?_eq_getElem hkl⟩
      obtain ⟨⟨a0, a1, a2, a3, a4⟩, hgood⟩ := Hf.out.2 k v hv
      obtain ⟨hval, hpb, hcapv, hpts⟩ := hgood
      have hvv := hval
      simp only [validF, Bool.and_eq_true, inB, decide_eq_true_eq] at hvv
      have hid1 : 1 ≤ v.f.id ∧ v.f.id ≤ 99 := by omega
      obtain ⟨dd, hdd⟩ : ∃ dd : Nat, v.f.id = (dd : Int) := ⟨v.f.id.toNat, by omega⟩
      have hseen := Hd.out k v hv dd hdd
      have HS : Hid (∀ j, seenB vs (k + 1) j = (seenB vs k j || v.f.id == (j : Int))) := seenB_succ hv
      have HP : Hid (Places w.heap.size w v.pb v.po v.f.ps) := ⟨hpb, hpts⟩
      have Hval : Hid (validF v.f = true) := hval
      have hmay : mayB v.f.kd v.f.ps.length = true := by simp only [validF, Bool.and_eq_true] at hval; exact hval.1.2
      have hlen6 : v.f.ps.length ≤ 6 := by simp [mayB] at hmay; omega
      clear hv hpts hval hvv hmay hcapv hpb
      obtain ⟨⟨id, kd, ht, col, ps⟩, pb, po, cap'⟩ := v
      dsimp only at *
      subst hdd
      have hd1 : 1 ≤ dd := by omega
      have hd2 : dd < 100 := by omega
      have hdI : (dd : Int) < 100 := by omega
      have hd0 : (0 : Int) ≤ (dd : Int) := by omega
      have e0 := (hB.cell (p := ⟨b, off + k * 5, none⟩) hb).trans a0
      have e1 := (hB.cell (p := ⟨b, off + k * 5 + 1, none⟩) hb).trans a1
      have e2 := (hB.cell (p := ⟨b, off + k * 5 + 2, none⟩) hb).trans a2
      have e3 := (hB.cell (p := ⟨b, off + k * 5 + 3, none⟩) hb).trans a3
      have e4 := (hB.cell (p := ⟨b, off + k * 5 + 4, none⟩) hb).trans a4
      have hbr : b < wr.heap.size := by omega
      clear a0 a1 a2 a3 a4 hid1
      have hBo : ∀ o : Obj, Below w.heap.size w (wr.alloc o) := fun o => hB.alloc hB.size o
      go_wp2_with (go_at_call 12; refine (IsFeature_any (dd : Int) kd ht col (some ⟨pb, po, none⟩) ps.length cap' ps _ (.inr ⟨pb, po, rfl, (HP.out.below (hBo _)).mono (by simp; omega)⟩) rfl (by omega)).mono ?_; rintro e w2 ⟨rfl, hb2⟩; rw [Hval.out]; have hz2 : wr.heap.size < w2.heap.size := (by have := hb2.size; simp at this; omega); have hB2 : Below wr.heap.size wr w2 := ((Below.refl _ _).alloc (Nat.le_refl _) _).trans (hb2.mono (by simp)); have c1 := (Q5.new wr (.int .i64 (dd : Int)) (.int .i64 kd) (.int .i64 ht) (.int .i64 col) (.slice (some ⟨pb, po, none⟩) ps.length cap') 30).below hb2 (by simp); have c2 := c1.c0; have c3 := (hB2.cell (p := ⟨w.heap.size, dd, none⟩) hs).trans ((Hcs.out dd hd2).trans (by rw [hseen])); have c4 := (hB2.frozen (p := ⟨w.heap.size, dd, none⟩) hs).trans (Hfz.out dd))
      refine ⟨⟨k + 1, by omega, by go_num, fun j hj => ?_, fun j => ?_, (hB.trans (hB2.mono hB.size)).trans (below_set1 w.heap.size w2 w.heap.size dd (Nat.le_refl _) _), Nat.lt_of_lt_of_le (by omega) (below_set1 w.heap.size w2 w.heap.size dd (Nat.le_refl _) _).size⟩, by simp [intOf]; omega⟩
      · rw [HS.out j]
        by_cases hjd : j = dd
        · subst hjd
          rw [World.cell?_setCell_same _ _ _ c3]
          simp
        · rw [World.cell?_setCell_other _ _ _ _ (by intro e; injection e with _ e2 _; exact hjd e2.symm), hB2.cell (p := ⟨w.heap.size, j, none⟩) hs, Hcs.out j hj]
          have hne : ((dd : Int) == (j : Int)) = false := by rw [beq_eq_false_iff_ne]; omega
          rw [hne, Bool.or_false]
      · rw [World.frozen?_setCell, hB2.frozen (p := ⟨w.heap.size, j, none⟩) hs]
        exact Hfz.out j
    · go_wp2
      go_ret
      exact ⟨rfl, hB⟩

theorem tcol_bd (x : Bx) (vs : List FV) (h : ∀ z ∈ vs, validF z.f = true) : 0 ≤ tcol (topOf x vs) ∧ tcol (topOf x vs) < 100 := by
  cases ho : topOf x vs with
  | none => simp [tcol]
  | some u =>
    have := top_valid x vs h u ho
    simp only [validF, Bool.and_eq_true, inB, decide_eq_true_eq] at this
    simp only [tcol]
    omega

def bodyS (vs : List FV) (p c r : Int) : ByteArray := ⟨(Lib.join ((txts ((List.range 64).map fun n => (colZ vs p c r n).toNat)).map (·.data.toList)) [44]).toArray⟩

theorem FeatsAt.good {w : World} {b off : Nat} {vs : List FV} (h : FeatsAt w b off vs) : ∀ v ∈ vs, Good (· < w.heap.size) w v := fun v hv => by
  obtain ⟨i, hi, rfl⟩ := List.mem_iff_getElem.1 hv
  exact (h.2 i _ (List.getElem?_eq_getElem hi)).2

theorem bodyS_size (vs : List FV) (p c r : Int) (h : ∀ n, 0 ≤ colZ vs p c r n ∧ colZ vs p c r n < 100) : (bodyS vs p c r).size ≤ 1000 := by
  show (Lib.join ((txts ((List.range 64).map fun n => (colZ vs p c r n).toNat)).map (·.data.toList)) [44]).toArray.size ≤ 1000
  rw [List.size_toArray]
  exact join_short' _ (fun x hx => by
    simp only [List.mem_map, List.mem_range] at hx
    obtain ⟨n, _, rfl⟩ := hx
    have := h n
    omega) (by simp)

end Go.Proofs.YtcgpdfefnmhnhaaDoor
