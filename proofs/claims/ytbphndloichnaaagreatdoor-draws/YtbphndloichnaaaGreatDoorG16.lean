import Derived.Test.YtbphndloichnaaaGreatDoorG15
import Derived.Test.YtbphndloichnaaaGreatDoorG05
import Derived.Test.YtbphndloichnaaaGreatDoorG09
import Derived.Deep.QuietTactic
import Derived.BigQuiet
namespace Go.Proofs.YtbphndloichnaaaGreatDoor
open Go.RowKit Go.Shelf

/-- A list of features in memory. -/
def FeatsAt (w : World) (b off : Nat) (vs : List FV) : Prop :=
  b < w.heap.size ∧ ∀ (i : Nat) v, vs[i]? = some v → (w.cell? ⟨b, off + i * 5, none⟩ = some (.int .i64 v.f.id) ∧ w.cell? ⟨b, off + i * 5 + 1, none⟩ = some (.int .i64 v.f.kd) ∧ w.cell? ⟨b, off + i * 5 + 2, none⟩ = some (.int .i64 v.f.ht) ∧ w.cell? ⟨b, off + i * 5 + 3, none⟩ = some (.int .i64 v.f.col) ∧ w.cell? ⟨b, off + i * 5 + 4, none⟩ = some (.slice (some ⟨v.pb, v.po, none⟩) v.f.ps.length v.cap)) ∧ Good (· < w.heap.size) w v

def seenB (vs : List FV) (k : Nat) (j : Nat) : Bool := (vs.take k).any fun v => v.f.id == (j : Int)
theorem seenB_succ {vs : List FV} {k : Nat} {v : FV} (h : vs[k]? = some v) (j : Nat) : seenB vs (k + 1) j = (seenB vs k j || v.f.id == (j : Int)) := by
  simp [seenB, List.take_add_one, h]

theorem join_short' (cs : List Nat) (hc : ∀ c ∈ cs, c < 100) (hn : cs.length ≤ 64) : (Lib.join ((txts cs).map (·.data.toList)) [44]).length ≤ 1000 := by
  have hb := rle_bd cs.length cs (Nat.le_refl _)
  have hx : ∀ x ∈ (txts cs).map (·.data.toList), x.length ≤ 5 := by
    intro x hx
    simp only [txts, List.map_map, List.mem_map, Function.comp] at hx
    obtain ⟨p, hp, rfl⟩ := hx
    have h1 := hb.2 p hp
    have h2 := decDigits_short p.1 (by omega)
    have h3 := decDigits_short p.2 (hc _ h1.2)
    simp [txt]; omega
  have hl : ((txts cs).map (·.data.toList)).length ≤ 64 := by simp [txts]; omega
  generalize (txts cs).map (·.data.toList) = l at *
  cases l with
  | nil => simp [Lib.join_nil]
  | cons x r =>
    rw [Lib.join_cons, List.length_append]
    have h1 := joinTail_short [44] rfl r (fun y hy => hx y (by simp [hy]))
    have h2 := hx x (by simp)
    simp at hl
    omega

theorem zero45 : Tryz.zeroCells138 = Array.replicate 100 (Value.bool false) := by kernel_rfl

set_option maxRecDepth 100000 in
set_option maxHeartbeats 2000000 in
theorem AreFeatures_true (b off n cap : Nat) (vs : List FV) (w : World) (hf : FeatsAt w b off vs) (hn : n = vs.length) (hn2 : n ≤ 1000) (hd : ∀ (k : Nat) v, vs[k]? = some v → ∀ j : Nat, v.f.id = (j : Int) → seenB vs k j = false) :
    Calls Tryz.prog 30 #[.slice (some ⟨b, off, none⟩) n cap] w fun e w' => e = .returned (.bool true) ∧ Below w.heap.size w w' := by
  have Hf : Hid (FeatsAt w b off vs) := hf
  have Hn : Hid (n = vs.length) := hn
  have Hd : Hid (∀ (k : Nat) v, vs[k]? = some v → ∀ j : Nat, v.f.id = (j : Int) → seenB vs k j = false) := hd
  have hb := hf.1
  clear hf hn hd
  go_enter Tryz.func30, Tryz.ntmps30
  go_wp2
  have h45 : ∀ j, j < 100 → (w.alloc (.cells Tryz.zeroCells138 138)).cell? ⟨w.heap.size, j, none⟩ = some (.bool false) := fun j hj => by
    rw [World.cell?_alloc_new, zero45]
    simp [hj]
  have H45 : Hid _ := h45
  clear h45
  go_loopw [8] (fun i wr => ∃ k : Nat, k ≤ n ∧ i = .int .i64 k ∧ (∀ j, j < 100 → wr.cell? ⟨w.heap.size, j, none⟩ = some (.bool (seenB vs k j))) ∧ (∀ j, wr.frozen? ⟨w.heap.size, j, none⟩ = false) ∧ Below w.heap.size w wr ∧ w.heap.size < wr.heap.size) (fun i _ => n - (intOf i).toNat)
  case atStart => exact ⟨0, by omega, rfl, fun j hj => by rw [H45.out j hj]; simp [seenB], fun j => by simp [go_sem], (Below.refl _ _).alloc (Nat.le_refl _) _, by simp⟩
  case round =>
    obtain ⟨k, hk, rfl, hcs, hfz, hB, hs⟩ := hrel
    have Hcs : Hid (∀ j, j < 100 → wr.cell? ⟨w.heap.size, j, none⟩ = some (.bool (seenB vs k j))) := hcs
    have Hfz : Hid (∀ j, wr.frozen? ⟨w.heap.size, j, none⟩ = false) := hfz
    clear hcs hfz
    by_cases hlt : k < n
    · have hkl : k < vs.length := by have := Hn.out; omega
      obtain ⟨v, hv⟩ : ∃ v, vs[k]? = some v := ⟨vs[k], List.getElem?_eq_getElem hkl⟩
      obtain ⟨⟨a0, a1, a2, a3, a4⟩, hgood⟩ := Hf.out.2 k v hv
      obtain ⟨hval, hpb, hcapv, hpts⟩ := hgood
      have hvv := hval
      simp only [validF, Bool.and_eq_true, inB, decide_eq_true_eq] at hvv
      have hid1 : 1 ≤ v.f.id ∧ v.f.id ≤ 99 := by omega
      obtain ⟨dd, hdd⟩ : ∃ dd : Nat, v.f.id = (dd : Int) := ⟨v.f.id.toNat, by omega⟩
      have hseen := Hd.out k v hv dd hdd
      have HS : Hid (∀ j, seenB vs (k + 1) j = (seenB vs k j || v.f.id == (j : Int))) := seenB_succ hv
      have HP : Hid (Places w.heap.size w v.pb v.po v.f.ps) := ⟨hpb, hpts⟩
      have Hval : Hid (validF v.f = true) := hval
      have hmay : mayB v.f.kd v.f.ps.length = true := by simp only [validF, Bool.and_eq_true] at hval; exact hval.1.2
      have hlen6 : v.f.ps.length ≤ 6 := by simp [mayB] at hmay; omega
      clear hv hpts hval hvv hmay hcapv hpb
      obtain ⟨⟨id, kd, ht, col, ps⟩, pb, po, cap'⟩ := v
      dsimp only at *
      subst hdd
      have hd1 : 1 ≤ dd := by omega
      have hd2 : dd < 100 := by omega
      have hdI : (dd : Int) < 100 := by omega
      have hd0 : (0 : Int) ≤ (dd : Int) := by omega
      have e0 := (hB.cell (p := ⟨b, off + k * 5, none⟩) hb).trans a0
      have e1 := (hB.cell (p := ⟨b, off + k * 5 + 1, none⟩) hb).trans a1
      have e2 := (hB.cell (p := ⟨b, off + k * 5 + 2, none⟩) hb).trans a2
      have e3 := (hB.cell (p := ⟨b, off + k * 5 + 3, none⟩) hb).trans a3
      have e4 := (hB.cell (p := ⟨b, off + k * 5 + 4, none⟩) hb).trans a4
      have hbr : b < wr.heap.size := by omega
      clear a0 a1 a2 a3 a4 hid1
      have hBo : ∀ o : Obj, Below w.heap.size w (wr.alloc o) := fun o => hB.alloc hB.size o
      go_wp2_with (go_at_call 52; refine (IsFeature_any (dd : Int) kd ht col (some ⟨pb, po, none⟩) ps.length cap' ps _ (.inr ⟨pb, po, rfl, (HP.out.below (hBo _)).mono (by simp; omega)⟩) rfl (by omega)).mono ?_; rintro e w2 ⟨rfl, hb2⟩; rw [Hval.out]; have hz2 : wr.heap.size < w2.heap.size := (by have := hb2.size; simp at this; omega); have hB2 : Below wr.heap.size wr w2 := ((Below.refl _ _).alloc (Nat.le_refl _) _).trans (hb2.mono (by simp)); have c1 := (Q5.new wr (.int .i64 (dd : Int)) (.int .i64 kd) (.int .i64 ht) (.int .i64 col) (.slice (some ⟨pb, po, none⟩) ps.length cap') 32).below hb2 (by simp); have c2 := c1.c0; have c3 := (hB2.cell (p := ⟨w.heap.size, dd, none⟩) hs).trans ((Hcs.out dd hd2).trans (by rw [hseen])); have c4 := (hB2.frozen (p := ⟨w.heap.size, dd, none⟩) hs).trans (Hfz.out dd))
      refine ⟨⟨k + 1, by omega, by go_num, fun j hj => ?_, fun j => ?_, (hB.trans (hB2.mono hB.size)).trans (below_set1 w.heap.size w2 w.heap.size dd (Nat.le_refl _) _), Nat.lt_of_lt_of_le (by omega) (below_set1 w.heap.size w2 w.heap.size dd (Nat.le_refl _) _).size⟩, by simp [intOf]; omega⟩
      · rw [HS.out j]
        by_cases hjd : j = dd
        · subst hjd
          rw [World.cell?_setCell_same _ _ _ c3]
          simp
        · rw [World.cell?_setCell_other _ _ _ _ (by intro e; injection e with _ e2 _; exact hjd e2.symm), hB2.cell (p := ⟨w.heap.size, j, none⟩) hs, Hcs.out j hj]
          have hne : ((dd : Int) == (j : Int)) = false := by rw [beq_eq_false_iff_ne]; omega
          rw [hne, Bool.or_false]
      · rw [World.frozen?_setCell, hB2.frozen (p := ⟨w.heap.size, j, none⟩) hs]
        exact Hfz.out j
    · go_wp2
      go_ret
      exact ⟨rfl, hB⟩

theorem tcol_bd (x : Bx) (vs : List FV) (h : ∀ z ∈ vs, validF z.f = true) : 0 ≤ tcol (topOf x vs) ∧ tcol (topOf x vs) < 100 := by
  cases ho : topOf x vs with
  | none => simp [tcol]
  | some u =>
    have := top_valid x vs h u ho
    simp only [validF, Bool.and_eq_true, inB, decide_eq_true_eq] at this
    simp only [tcol]
    omega

def bodyS (vs : List FV) (p c r : Int) : ByteArray := ⟨(Lib.join ((txts ((List.range 64).map fun n => (colZ vs p c r n).toNat)).map (·.data.toList)) [44]).toArray⟩

theorem FeatsAt.good {w : World} {b off : Nat} {vs : List FV} (h : FeatsAt w b off vs) : ∀ v ∈ vs, Good (· < w.heap.size) w v := fun v hv => by
  obtain ⟨i, hi, rfl⟩ := List.mem_iff_getElem.1 hv
  exact (h.2 i _ (List.getElem?_eq_getElem hi)).2

theorem bodyS_size (vs : List FV) (p c r : Int) (h : ∀ n, 0 ≤ colZ vs p c r n ∧ colZ vs p c r n < 100) : (bodyS vs p c r).size ≤ 1000 := by
  show (Lib.join ((txts ((List.range 64).map fun n => (colZ vs p c r n).toNat)).map (·.data.toList)) [44]).toArray.size ≤ 1000
  rw [List.size_toArray]
  exact join_short' _ (fun x hx => by
    simp only [List.mem_map, List.mem_range] at hx
    obtain ⟨n, _, rfl⟩ := hx
    have := h n
    omega) (by simp)

end Go.Proofs.YtbphndloichnaaaGreatDoor
namespace Go.Proofs.YtbphndloichnaaaGreatDoor
open Go.RowKit

def FeatsO (w : World) (a : Option Addr) (vs : List FV) : Prop := vs = [] ∨ ∃ b off, a = some ⟨b, off, none⟩ ∧ FeatsAt w b off vs

theorem FeatsAt.below {A B : World} (h : Below A.heap.size A B) {b off : Nat} {vs : List FV} (f : FeatsAt A b off vs) : FeatsAt B b off vs := by
  obtain ⟨hc, _⟩ := bcell h
  refine ⟨Nat.lt_of_lt_of_le f.1 h.size, fun i v e => ?_⟩
  obtain ⟨⟨c0, c1, c2, c3, c4⟩, g1, g2, g3, g4⟩ := f.2 i v e
  exact ⟨⟨(hc _ _ f.1).trans c0, (hc _ _ f.1).trans c1, (hc _ _ f.1).trans c2, (hc _ _ f.1).trans c3, (hc _ _ f.1).trans c4⟩, g1, Nat.lt_of_lt_of_le g2 h.size, g3, fun k x y q => ⟨(hc _ _ g2).trans (g4 k x y q).1, (hc _ _ g2).trans (g4 k x y q).2⟩⟩
theorem FeatsO.below {A B : World} (h : Below A.heap.size A B) {a : Option Addr} {vs : List FV} (f : FeatsO A a vs) : FeatsO B a vs :=
  f.elim .inl fun ⟨b, off, e, p⟩ => .inr ⟨b, off, e, p.below h⟩

theorem FeatsAt.get {w : World} {b off : Nat} {vs : List FV} (h : FeatsAt w b off vs) {k : Nat} {v : FV} (hv : vs[k]? = some v) :
    ∃ (id kd ht col : Int) (pb po n cap : Nat) (ps : Pts), v = ⟨⟨id, kd, ht, col, ps⟩, pb, po, cap⟩ ∧ n = ps.length ∧ w.cell? ⟨b, off + k * 5, none⟩ = some (.int .i64 id) ∧ w.cell? ⟨b, off + k * 5 + 1, none⟩ = some (.int .i64 kd) ∧ w.cell? ⟨b, off + k * 5 + 2, none⟩ = some (.int .i64 ht) ∧ w.cell? ⟨b, off + k * 5 + 3, none⟩ = some (.int .i64 col) ∧ w.cell? ⟨b, off + k * 5 + 4, none⟩ = some (.slice (some ⟨pb, po, none⟩) n cap) ∧ Places w.heap.size w pb po ps ∧ mayB kd n = true ∧ ps.all inW = true ∧ n ≤ cap := by
  obtain ⟨⟨c0, c1, c2, c3, c4⟩, g1, g2, g3, g4⟩ := h.2 k v hv
  obtain ⟨⟨id, kd, ht, col, ps⟩, pb, po, cap⟩ := v
  simp only [validF, Bool.and_eq_true] at g1
  exact ⟨id, kd, ht, col, pb, po, ps.length, cap, ps, rfl, rfl, c0, c1, c2, c3, c4, ⟨g2, g4⟩, g1.1.2, g1.2, g3⟩

theorem top_succ (x : Bx) {vs : List FV} {k : Nat} {v : FV} (h : vs[k]? = some v) : topOf x (vs.take (k + 1)) = pickV x (topOf x (vs.take k)) v := by
  rw [topOf, topOf, List.take_add_one, h, List.foldl_append]
  rfl

/-- Which place, and what it holds. -/
def BestAt (x : Bx) (vs : List FV) (k : Nat) (best : Int) : Prop := (best = -1 ∧ topOf x (vs.take k) = none) ∨ ∃ (j : Nat) (u : FV), j < k ∧ best = (j : Int) ∧ vs[j]? = some u ∧ topOf x (vs.take k) = some u

set_option maxRecDepth 100000 in
set_option maxHeartbeats 4000000 in
theorem rcolour_any (a : Option Addr) (n cap : Nat) (vs : List FV) (x y p : Int) (w : World) (hf : FeatsO w a vs) (hn : n = vs.length) (hn2 : n ≤ 1000000000000000)
    (h5 : 0 ≤ x) (h6 : 0 ≤ y) (h7 : 0 ≤ p) (g5 : x ≤ 300) (g6 : y ≤ 300) (g7 : p ≤ 300) :
    Calls Tryz.prog 107 #[.slice a n cap, .int .i64 x, .int .i64 y, .int .i64 p] w fun e w' => e = .returned (.int .i64 (tcol (topOf ⟨x, y, x + p, y + p⟩ vs))) ∧ Below w.heap.size w w' := by
  have Hn : Hid (n = vs.length) := hn
  have Hf : Hid (FeatsO w a vs) := hf
  clear hn hf
  go_enter Tryz.func107, Tryz.ntmps107
  go_wp2
  go_loopw [9, 10] (fun bt i wr => ∃ (k : Nat) (best : Int), k ≤ n ∧ i = .int .i64 (k : Int) ∧ bt = .int .i64 best ∧ Hid (BestAt ⟨x, y, x + p, y + p⟩ vs k best) ∧ Below w.heap.size w wr) (fun _ i _ => n - (intOf i).toNat)
  case atStart => exact ⟨0, -1, by omega, rfl, rfl, Or.inl ⟨rfl, by simp [topOf]⟩, Below.refl _ _⟩
  case round =>
    obtain ⟨k, best, hk, rfl, rfl, HB, hBw⟩ := hrel
    have hsz := hBw.size
    by_cases hlt : k < n
    · have HfR : Hid (FeatsO wr a vs) := Hf.out.below hBw
      obtain ⟨v, hv⟩ : ∃ v, vs[k]? = some v := ⟨vs[k]'(by rw [← Hn.out]; exact hlt), List.getElem?_eq_getElem _⟩
      obtain ⟨b, off, rfl, hF⟩ := HfR.out.resolve_left (fun e => by rw [e] at hv; simp at hv)
      have HF : Hid (FeatsAt wr b off vs) := hF
      have hbw := hF.1
      obtain ⟨id, kd, ht, col, pb, po, m, pcap, ps, ev, hm, c0, c1, c2, c3, c4, hP, hmay, hall, hcap⟩ := hF.get hv
      have HS : Hid (topOf ⟨x, y, x + p, y + p⟩ (vs.take (k + 1)) = pickV ⟨x, y, x + p, y + p⟩ (topOf ⟨x, y, x + p, y + p⟩ (vs.take k)) v) := top_succ _ hv
      have Hv : Hid (vs[k]? = some v) := hv
      have HC : Hid (∀ W : World, Below wr.heap.size wr W → Calls Tryz.prog 141 #[.agg #[.int .i64 id, .int .i64 kd, .int .i64 ht, .int .i64 col, .slice (some ⟨pb, po, none⟩) m pcap], .int .i64 x, .int .i64 y, .int .i64 p] W fun e w' => e = .returned (.bool (coverB kd ps x y (x + p) (y + p))) ∧ Below W.heap.size W w') := fun W hW => by
        have := rCovers_any id kd ht col pb po m pcap ps x y p W ((hP.below hW).mono hW.size) hm hmay hall h5 h6 h7 g5 g6 g7
        rw [cover_eq _ _ _ _ _ h7 (by rw [← hm]; exact hmay)] at this
        exact this
      have HE : Hid (v = ⟨⟨id, kd, ht, col, ps⟩, pb, po, pcap⟩) := ev
      clear hF hv hP hmay hall ev hm hcap HfR
      have hk2 : ((k : Int)).toNat = k := by omega
      have hk3 : (k : Int) < (n : Int) := by omega
      have hbest : Hid (best = -1 ∨ ∃ j : Nat, j < k ∧ best = (j : Int)) := by
        rcases HB.out with ⟨h, _⟩ | ⟨j, u, h1, h2, _⟩
        · exact .inl h
        · exact .inr ⟨j, h1, h2⟩
      go_upto_region 6 with (go_at_call 141; refine Calls.mono (HC.out _ (by first | exact Below.refl _ _ | exact (Below.refl _ _).drew)) ?_; rintro e w2 ⟨rfl, hb2⟩)
      obtain ⟨hc2, hf2⟩ := bcell hb2
      have hB2 : Below w.heap.size w w2 := hBw.trans (hb2.mono hsz)
      have hs2 := hb2.size
      by_cases hcov : coverB kd ps x y (x + p) (y + p) = true
      · rw [hcov]
        rcases HB.out with ⟨rfl, htop⟩ | ⟨j, u, hj, rfl, hu, htop⟩
        · have HR : Hid (BestAt ⟨x, y, x + p, y + p⟩ vs (k + 1) (k : Int)) := by
            refine Or.inr ⟨k, v, by omega, rfl, Hv.out, ?_⟩
            rw [HS.out, htop, pickV, HE.out]
            simp only [hcov, if_true]
          clear HS htop HE Hv HC HB hbest
          go_quiet (fail)
          go_wp2
          go_roundw
          case rel => exact ⟨k + 1, (k : Int), by omega, by go_num, by go_num, HR, below_drewN hB2 _⟩
          case measure => simp [intOf]; omega
        · obtain ⟨id', kd', ht', col', pb', po', m', pcap', ps', ev', hm', d0, d1, d2, d3, d4, hP', hmay', hall', hcap'⟩ := HF.out.get hu
          have HSp : Hid (topOf ⟨x, y, x + p, y + p⟩ (vs.take (k + 1)) = if aboveB ht id ht' id' then some v else some u) := by
            show topOf _ _ = _
            rw [HS.out, htop, pickV, HE.out, ev']
            simp only [hcov, if_true]
          have Hu : Hid (vs[j]? = some u) := hu
          have HN : Hid (aboveB ht id ht' id' = true → BestAt ⟨x, y, x + p, y + p⟩ vs (k + 1) (k : Int)) := fun h => Or.inr ⟨k, v, by omega, rfl, Hv.out, by rw [HSp.out, h]; rfl⟩
          have HO : Hid (aboveB ht id ht' id' = false → BestAt ⟨x, y, x + p, y + p⟩ vs (k + 1) (j : Int)) := fun h => Or.inr ⟨j, u, by omega, rfl, Hu.out, by rw [HSp.out, h]; rfl⟩
          have e2 := (hc2 b (off + k * 5 + 2) hbw).trans c2
          have e0 := (hc2 b (off + k * 5) hbw).trans c0
          have f2 := (hc2 b (off + j * 5 + 2) hbw).trans d2
          have f0 := (hc2 b (off + j * 5) hbw).trans d0
          have hj2 : ((j : Int)).toNat = j := by omega
          have hj3 : (j : Int) < (n : Int) := by omega
          have hj0 : decide ((j : Int) < 0) = false := by simp
          clear HS htop HE Hv HC HB hbest ev' hm' d0 d1 d2 d3 d4 hP' hmay' hall' hcap' hu HSp Hu c0 c1 c2 c3 c4 hc2 hf2 HF hcov
          by_cases t1 : ht' < ht
          · have HR := HN.out (by simp only [aboveB]; rw [if_neg (by omega)]; simpa using t1)
            have HR : Hid (BestAt ⟨x, y, x + p, y + p⟩ vs (k + 1) (k : Int)) := HR
            clear HN HO
            go_quiet (fail)
            go_wp2
            go_roundw
            case rel => exact ⟨k + 1, (k : Int), by omega, by go_num, by go_num, HR, below_drewN hB2 _⟩
            case measure => simp [intOf]; omega
          · have t1' : decide (ht' < ht) = false := by simpa using t1
            by_cases t2 : ht = ht'
            · subst t2
              by_cases t3 : id' < id
              · have HR : Hid (BestAt ⟨x, y, x + p, y + p⟩ vs (k + 1) (k : Int)) := HN.out (by simp only [aboveB, if_true]; simpa using t3)
                clear HN HO
                go_quiet (fail)
                go_wp2
                go_roundw
                case rel => exact ⟨k + 1, (k : Int), by omega, by go_num, by go_num, HR, below_drewN hB2 _⟩
                case measure => simp [intOf]; omega
              · have t3' : decide (id' < id) = false := by simpa using t3
                have HR : Hid (BestAt ⟨x, y, x + p, y + p⟩ vs (k + 1) (j : Int)) := HO.out (by simp only [aboveB, if_true]; exact t3')
                clear HN HO
                go_quiet (fail)
                go_wp2
                go_roundw
                case rel => exact ⟨k + 1, (j : Int), by omega, by go_num, by go_num, HR, below_drewN hB2 _⟩
                case measure => simp [intOf]; omega
            · have t2' : decide (ht = ht') = false := by simpa using t2
              have HR : Hid (BestAt ⟨x, y, x + p, y + p⟩ vs (k + 1) (j : Int)) := HO.out (by simp only [aboveB]; rw [if_neg t2]; exact t1')
              clear HN HO
              go_quiet (fail)
              go_wp2
              go_roundw
              case rel => exact ⟨k + 1, (j : Int), by omega, by go_num, by go_num, HR, below_drewN hB2 _⟩
              case measure => simp [intOf]; omega
      · have hcov' : coverB kd ps x y (x + p) (y + p) = false := by simpa using hcov
        have HR : Hid (BestAt ⟨x, y, x + p, y + p⟩ vs (k + 1) best) := by
          have e : topOf ⟨x, y, x + p, y + p⟩ (vs.take (k + 1)) = topOf ⟨x, y, x + p, y + p⟩ (vs.take k) := by
            rw [HS.out, HE.out]
            generalize topOf ⟨x, y, x + p, y + p⟩ (vs.take k) = o
            simp [pickV, hcov']
          rcases HB.out with ⟨h1, h2⟩ | ⟨j, u, h1, h2, h3, h4⟩
          · exact Or.inl ⟨h1, e.trans h2⟩
          · exact Or.inr ⟨j, u, by omega, h2, h3, e.trans h4⟩
        rw [hcov']
        clear hcov hcov' HS HE Hv HC HB hbest HF
        go_quiet (fail)
        go_wp2
        go_roundw
        case rel => exact ⟨k + 1, best, by omega, by go_num, by go_num, HR, below_drewN hB2 _⟩
        case measure => simp [intOf]; omega
    · have HK : Hid (vs.take k = vs) := by
        show vs.take k = vs
        rw [show k = vs.length by have := Hn.out; omega, List.take_length]
      rcases HB.out with ⟨rfl, htop⟩ | ⟨j, u, hj, rfl, hu, htop⟩
      · have HT : Hid (tcol (topOf ⟨x, y, x + p, y + p⟩ vs) = 0) := by
          have h := htop
          rw [HK.out] at h
          show tcol _ = 0
          rw [h]; rfl
        clear htop HK
        go_wp2
        go_ret
        exact ⟨ret_int HT.out.symm, hBw⟩
      · have HfR : Hid (FeatsO wr a vs) := Hf.out.below hBw
        obtain ⟨b, off, rfl, hF⟩ := HfR.out.resolve_left (fun e => by rw [e] at hu; simp at hu)
        obtain ⟨id', kd', ht', col', pb', po', m', pcap', ps', ev', hm', d0, d1, d2, d3, d4, hP', hmay', hall', hcap'⟩ := hF.get hu
        have HT : Hid (tcol (topOf ⟨x, y, x + p, y + p⟩ vs) = col') := by
          have h := htop
          rw [HK.out] at h
          show tcol _ = col'
          rw [h, ev']; rfl
        have hj2 : ((j : Int)).toNat = j := by omega
        have hj3 : (j : Int) < (n : Int) := by omega
        clear htop HK hF HfR hu ev' hm' d0 d1 d2 d4 hP' hmay' hall' hcap' Hf HB
        go_wp2
        go_ret
        exact ⟨ret_int HT.out.symm, hBw⟩

end Go.Proofs.YtbphndloichnaaaGreatDoor
