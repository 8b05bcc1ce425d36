import Derived.Test.YtenaepdmlknlcaaGreatDoorF13
import Derived.Test.YtenaepdmlknlcaaGreatDoorF12
import Derived.Test.YtenaepdmlknlcaaGreatDoorF01
namespace Go.Proofs.YtenaepdmlknlcaaGreatDoor
open Go.RowKit Go.Shelf

theorem digs_dec (n : Nat) : digs 10 n = Lib.decDigits n := by
  induction n using Nat.strongRecOn with
  | _ n ih =>
    rw [digs, Lib.decDigits]
    by_cases h : n < 10
    · rw [dif_pos (.inl h), dif_pos h, dch, if_pos h]
    · rw [dif_neg (by omega), dif_neg h, ih (n / 10) (by omega), dch, if_pos (by omega)]

/-- A run's words. -/
def runT (n c : Nat) : List UInt8 := digs 10 n ++ [120] ++ digs 10 c
theorem txt_run (n c : Nat) : (txt n c).data.toList = runT n c := by simp [txt, runT, digs_dec]

def stp (t : List UInt8 × Nat × Nat) (c : Nat) : List UInt8 × Nat × Nat := if c = t.2.2 then (t.1, t.2.1 + 1, t.2.2) else (t.1 ++ runT t.2.1 t.2.2 ++ [44], 1, c)
def fin (t : List UInt8 × Nat × Nat) : List UInt8 := t.1 ++ runT t.2.1 t.2.2
def joinR (l : List (Nat × Nat)) : List UInt8 := Lib.join (l.map fun r => runT r.1 r.2) [44]
theorem joinR_cons (n c n' c' : Nat) (l : List (Nat × Nat)) : joinR ((n, c) :: (n', c') :: l) = runT n c ++ [44] ++ joinR ((n', c') :: l) := by
  simp [joinR, Lib.join]
theorem joinR_one (n c : Nat) : joinR [(n, c)] = runT n c := by simp [joinR, Lib.join]

theorem fin_fold : ∀ (r : List Nat) (s : List UInt8) (n c : Nat), fin (r.foldl stp (s, n, c)) = s ++ joinR ((n + lead c r, c) :: rle (r.drop (lead c r)))
  | [], s, n, c => by simp [fin, lead, rle, joinR_one]
  | d :: r, s, n, c => by
    by_cases h : d = c
    · subst h
      have e : stp (s, n, d) d = (s, n + 1, d) := by simp [stp]
      have e2 : lead d (d :: r) = lead d r + 1 := by simp [lead]
      rw [List.foldl_cons, e, fin_fold r s (n + 1) d, e2, List.drop_succ_cons]
      congr 4
      omega
    · have e : stp (s, n, c) d = (s ++ runT n c ++ [44], 1, d) := by simp [stp, h]
      have e2 : lead c (d :: r) = 0 := by simp [lead, h]
      rw [List.foldl_cons, e, fin_fold r _ 1 d, e2, List.drop_zero, Nat.add_zero, rle, joinR_cons, Nat.add_comm (lead d r) 1]
      simp only [List.append_assoc]

theorem join_txts (cs : List Nat) : Lib.join ((txts cs).map (·.data.toList)) [44] = joinR (rle cs) := by
  rw [joinR, txts, List.map_map]
  congr 2
  funext r
  exact txt_run r.1 r.2

/-- What is written behind a number of pixels. -/
def stN (f : Nat → Nat) : Nat → List UInt8 × Nat × Nat
  | 0 => ([], 1, f 0)
  | k + 1 => stp (stN f k) (f (k + 1))
theorem stN_fold (f : Nat → Nat) : ∀ k, stN f k = ((List.range' 1 k).map f).foldl stp ([], 1, f 0)
  | 0 => rfl
  | k + 1 => by rw [stN, stN_fold f k, List.range'_concat, List.map_append, List.foldl_append, Nat.one_mul, Nat.add_comm 1 k]; rfl
theorem fin_stN (f : Nat → Nat) : fin (stN f 63) = Lib.join ((txts ((List.range 64).map f)).map (·.data.toList)) [44] := by
  rw [join_txts, stN_fold, fin_fold, List.nil_append]
  have e : (List.range 64).map f = f 0 :: (List.range' 1 63).map f := by rw [List.range_eq_range', List.range'_succ]; rfl
  rw [e, rle, Nat.add_comm 1]

theorem digs_short (n : Nat) (h : n < 100) : (digs 10 n).length ≤ 2 := by rw [digs_dec]; exact decDigits_short n h
theorem stN_bd (f : Nat → Nat) (hf : ∀ k, f k < 100) : ∀ k, k < 64 → (stN f k).1.length ≤ 6 * k ∧ (stN f k).2.1 ≤ k + 1 ∧ (stN f k).2.2 < 100
  | 0, _ => ⟨by simp [stN], by simp [stN], hf 0⟩
  | k + 1, h => by
    obtain ⟨h1, h2, h3⟩ := stN_bd f hf k (by omega)
    rw [stN, stp]
    split
    · exact ⟨by simp only []; omega, by simp only []; omega, h3⟩
    · refine ⟨?_, by simp only []; omega, hf _⟩
      have := digs_short (stN f k).2.1 (by omega)
      have := digs_short (stN f k).2.2 h3
      simp only [runT, List.length_append, List.length_cons, List.length_nil]
      omega

/-- Who doesn't meet the box is not seen in it. -/
theorem fold_filter (x : Bx) : ∀ (vs : List FV) (o : Option FV), (∀ v ∈ vs, meetF x v = false → coverB v.f.kd v.f.ps x.l x.t x.r x.b = false) → (vs.filter (meetF x)).foldl (pickV x) o = vs.foldl (pickV x) o
  | [], _, _ => rfl
  | v :: r, o, h => by
    have ih := fun o => fold_filter x r o (fun u hu => h u (by simp [hu]))
    by_cases hm : meetF x v = true
    · rw [List.filter_cons_of_pos hm, List.foldl_cons, List.foldl_cons, ih]
    · have hm' : meetF x v = false := by simpa using hm
      rw [List.filter_cons_of_neg (by simpa using hm), List.foldl_cons, ih]
      congr 1
      simp [pickV, h v (by simp) hm']
theorem top_filter (x : Bx) (vs : List FV) (hv : ∀ v ∈ vs, validF v.f = true) (hx : x.l ≤ x.r) (hy : x.t ≤ x.b) : topOf x (vs.filter (meetF x)) = topOf x vs :=
  fold_filter x vs none fun v h hm => by
    cases hc : coverB v.f.kd v.f.ps x.l x.t x.r x.b with
    | false => rfl
    | true => rw [cover_meets v x (hv v h) hx hy hc] at hm; cases hm

end Go.Proofs.YtenaepdmlknlcaaGreatDoor

namespace Go.Proofs.YtenaepdmlknlcaaGreatDoor
open Go.RowKit

end Go.Proofs.YtenaepdmlknlcaaGreatDoor

namespace Go.Proofs.YtenaepdmlknlcaaGreatDoor
open Go.RowKit Go.Shelf

/-- The colours of the pixels. -/
def colR (vs : List FV) (p c r : Int) (k : Nat) : Nat := (tcol (topOf (pixZ p c r k) vs)).toNat
def bodyR (vs : List FV) (p c r : Int) : List UInt8 := fin (stN (colR vs p c r) 63)

end Go.Proofs.YtenaepdmlknlcaaGreatDoor

namespace Go.Proofs.YtenaepdmlknlcaaGreatDoor
open Go.RowKit Go.Shelf

/-- A feature, and where its places lie, if there are any. -/
structure FG where
  f : Feat
  a : Option Addr
  cap : Nat
def FG.fv (g : FG) : FV := match g.a with
  | some x => ⟨g.f, x.block, x.off, g.cap⟩
  | none => ⟨g.f, 0, 0, g.cap⟩
theorem FG.fv_f (g : FG) : g.fv.f = g.f := by unfold FG.fv; split <;> rfl

structure FeatAt (w : World) (b off : Nat) (g : FG) : Prop where
  c0 : w.cell? ⟨b, off, none⟩ = some (.int .i64 g.f.id)
  c1 : w.cell? ⟨b, off + 1, none⟩ = some (.int .i64 g.f.kd)
  c2 : w.cell? ⟨b, off + 2, none⟩ = some (.int .i64 g.f.ht)
  c3 : w.cell? ⟨b, off + 3, none⟩ = some (.int .i64 g.f.col)
  c4 : w.cell? ⟨b, off + 4, none⟩ = some (.slice g.a g.f.ps.length g.cap)
  pts : PtsAt w.heap.size w g.a g.f.ps
  cap : g.f.ps.length ≤ g.cap
  few : g.f.ps.length ≤ 1000000000000000
theorem FeatAt.below {A B : World} (h : Below A.heap.size A B) {b off : Nat} {g : FG} (hb : b < A.heap.size) (f : FeatAt A b off g) : FeatAt B b off g := by
  obtain ⟨hc, _⟩ := bcell h
  exact ⟨(hc _ _ hb).trans f.c0, (hc _ _ hb).trans f.c1, (hc _ _ hb).trans f.c2, (hc _ _ hb).trans f.c3, (hc _ _ hb).trans f.c4, (f.pts.below h).mono h.size, f.cap, f.few⟩

def FeatsG (w : World) (b off : Nat) (gs : List FG) : Prop := b < w.heap.size ∧ ∀ (i : Nat) g, gs[i]? = some g → FeatAt w b (off + i * 5) g
def FeatsGO (w : World) (a : Option Addr) (gs : List FG) : Prop := gs = [] ∨ ∃ b off, a = some ⟨b, off, none⟩ ∧ FeatsG w b off gs
theorem FeatsG.below {A B : World} (h : Below A.heap.size A B) {b off : Nat} {gs : List FG} (f : FeatsG A b off gs) : FeatsG B b off gs :=
  ⟨Nat.lt_of_lt_of_le f.1 h.size, fun i g e => (f.2 i g e).below h f.1⟩
theorem FeatsGO.below {A B : World} (h : Below A.heap.size A B) {a : Option Addr} {gs : List FG} (f : FeatsGO A a gs) : FeatsGO B a gs :=
  f.elim .inl fun ⟨b, off, e, p⟩ => .inr ⟨b, off, e, p.below h⟩

theorem FeatsG.feats {w : World} {b off : Nat} {gs : List FG} (h : FeatsG w b off gs) (hv : ∀ g ∈ gs, validF g.f = true) : FeatsAt w b off (gs.map FG.fv) := by
  refine ⟨h.1, fun i v e => ?_⟩
  rw [List.getElem?_map, Option.map_eq_some_iff] at e
  obtain ⟨g, hg, rfl⟩ := e
  have hgv := hv g (List.mem_of_getElem? hg)
  obtain ⟨c0, c1, c2, c3, c4, hp, hc, _⟩ := h.2 i g hg
  have hne : g.f.ps ≠ [] := by
    intro e
    simp only [validF, Bool.and_eq_true] at hgv
    have := hgv.1.2
    rw [e] at this
    simp [mayB] at this
  obtain ⟨pb, po, ha, hP⟩ := hp.resolve_left hne
  obtain ⟨f, a, cap⟩ := g
  simp only at ha hP c0 c1 c2 c3 c4 hc hgv
  subst ha
  exact ⟨⟨c0, c1, c2, c3, c4⟩, hgv, hP.1, hc, hP.2⟩
theorem FeatsGO.feats {w : World} {a : Option Addr} {gs : List FG} (h : FeatsGO w a gs) (hv : ∀ g ∈ gs, validF g.f = true) : FeatsO w a (gs.map FG.fv) :=
  h.elim (fun e => .inl (by rw [e]; rfl)) fun ⟨b, off, e, p⟩ => .inr ⟨b, off, e, p.feats hv⟩

def seenG (gs : List FG) (i : Nat) (id : Int) : Bool := (gs.take i).any fun g => g.f.id == id
def okTo (gs : List FG) : Nat → Bool
  | 0 => true
  | i + 1 => okTo gs i && (match gs[i]? with | some g => validF g.f && !seenG gs i g.f.id | none => true)
theorem okTo_succ {gs : List FG} {i : Nat} {g : FG} (h : gs[i]? = some g) : okTo gs (i + 1) = (okTo gs i && (validF g.f && !seenG gs i g.f.id)) := by rw [okTo, h]
theorem okTo_not {gs : List FG} {i : Nat} (h : okTo gs i = false) : ∀ d, okTo gs (i + d) = false
  | 0 => h
  | d + 1 => by
    have := okTo_not h d
    show okTo gs (i + d + 1) = false
    rw [okTo, this, Bool.false_and]
theorem okTo_none {gs : List FG} {i n : Nat} (h : okTo gs i = false) (hi : i ≤ n) : okTo gs n = false := by
  have := okTo_not h (n - i)
  rwa [show i + (n - i) = n by omega] at this
theorem okTo_at {gs : List FG} : ∀ {n : Nat}, okTo gs n = true → ∀ {i : Nat} {g : FG}, i < n → gs[i]? = some g → validF g.f = true ∧ seenG gs i g.f.id = false
  | 0, _, _, _, hi, _ => absurd hi (by omega)
  | n + 1, h, i, g, hi, hg => by
    rw [okTo, Bool.and_eq_true] at h
    by_cases e : i = n
    · subst e
      have := h.2
      rw [hg] at this
      simp only [Bool.and_eq_true, Bool.not_eq_true'] at this
      exact this
    · exact okTo_at h.1 (by omega) hg
theorem okTo_valid {gs : List FG} (h : okTo gs gs.length = true) : ∀ g ∈ gs, validF g.f = true := fun g hg => by
  obtain ⟨i, hi, rfl⟩ := List.mem_iff_getElem.1 hg
  exact (okTo_at h hi (List.getElem?_eq_getElem hi)).1
theorem seenG_succ {gs : List FG} {k : Nat} {g : FG} (h : gs[k]? = some g) (id : Int) : seenG gs (k + 1) id = (seenG gs k id || g.f.id == id) := by
  simp [seenG, List.take_add_one, h]
theorem seenG_more {gs : List FG} {k i : Nat} {id : Int} (h : seenG gs k id = true) (hk : k ≤ i) : seenG gs i id = true := by
  unfold seenG at *
  rw [List.any_eq_true] at h ⊢
  obtain ⟨g, hg, e⟩ := h
  exact ⟨g, (List.take_sublist_take_left hk).mem hg, e⟩

/-- How wide a pixel is. -/
def pZ (z : Int) : Int := if z = 0 then 32 else if z = 1 then 16 else if z = 2 then 8 else 4
/-- What the document answers. -/
def drawV (gs : List FG) (z c r : Int) : Value :=
  if tileB z c r && okTo gs gs.length then .tuple #[.string ⟨(markN (bodyR (gs.map FG.fv) (pZ z) c r)).toArray⟩, .string ⟨(bodyR (gs.map FG.fv) (pZ z) c r).toArray⟩, .int .i64 0]
  else .tuple #[.string ⟨#[]⟩, .string ⟨#[]⟩, .int .i64 1]
theorem tile_facts {z c r : Int} (h : tileB z c r = true) : ZP z (pZ z) ∧ 0 ≤ c ∧ c ≤ 7 ∧ 0 ≤ r ∧ r ≤ 7 ∧ 8 * pZ z * c ≤ 256 - 8 * pZ z ∧ 8 * pZ z * r ≤ 256 - 8 * pZ z := by
  simp only [tileB, decide_eq_true_eq] at h
  obtain ⟨h1, h2, h3, h4, h5, h6⟩ := h
  have hz : z = 0 ∨ z = 1 ∨ z = 2 ∨ z = 3 := by omega
  rcases hz with rfl | rfl | rfl | rfl <;> simp [manyZ, pZ, ZP] at * <;> omega

theorem drawV_no {gs : List FG} {z c r : Int} (h : tileB z c r = false ∨ okTo gs gs.length = false) : drawV gs z c r = .tuple #[.string ⟨#[]⟩, .string ⟨#[]⟩, .int .i64 1] := by
  unfold drawV
  rcases h with h | h <;> simp [h]

theorem bodyR_length (vs : List FV) (p c r : Int) (hv : ∀ v ∈ vs, validF v.f = true) : (bodyR vs p c r).length ≤ 1000 := by
  have hf : ∀ k, colR vs p c r k < 100 := fun k => by
    have := tcol_bd (pixZ p c r k) vs hv
    unfold colR
    omega
  obtain ⟨h1, h2, h3⟩ := stN_bd _ hf 63 (by decide)
  have := digs_short (stN (colR vs p c r) 63).2.1 (by omega)
  have := digs_short (stN (colR vs p c r) 63).2.2 h3
  simp only [bodyR, fin, runT, List.length_append, List.length_cons, List.length_nil]
  omega

end Go.Proofs.YtenaepdmlknlcaaGreatDoor

namespace Go.Proofs.YtenaepdmlknlcaaGreatDoor
open Go.RowKit Go.Shelf

set_option maxRecDepth 100000 in
set_option maxHeartbeats 2000000 in
theorem AreFeatures_any (a : Option Addr) (n cap : Nat) (gs : List FG) (w : World) (hf : FeatsGO w a gs) (hn : n = gs.length) (hn2 : n ≤ 1000000000000000) :
    Calls Tryz.prog 30 #[.slice a n cap] w fun e w' => e = .returned (.bool (okTo gs gs.length)) ∧ Below w.heap.size w w' := by
  have Hf : Hid (FeatsGO w a gs) := hf
  have Hn : Hid (n = gs.length) := hn
  clear hf hn
  go_enter Tryz.func30, Tryz.ntmps30
  go_wp2
  have h45 : ∀ j, j < 100 → (w.alloc (.cells Tryz.zeroCells138 138)).cell? ⟨w.heap.size, j, none⟩ = some (.bool false) := fun j hj => by
    rw [World.cell?_alloc_new, zero45]
    simp [hj]
  have H45 : Hid _ := h45
  clear h45
  go_loopw [8] (fun i wr => ∃ k : Nat, k ≤ n ∧ i = .int .i64 k ∧ Hid (okTo gs k = true) ∧ Hid (∀ j : Nat, j < 100 → wr.cell? ⟨w.heap.size, j, none⟩ = some (.bool (seenG gs k (j : Int)))) ∧ Hid (∀ j, wr.frozen? ⟨w.heap.size, j, none⟩ = false) ∧ Below w.heap.size w wr ∧ w.heap.size < wr.heap.size) (fun i _ => n - (intOf i).toNat)
  case atStart => exact ⟨0, by omega, rfl, rfl, fun j hj => by rw [H45.out j hj]; simp [seenG], fun j => by simp [go_sem], (Below.refl _ _).alloc (Nat.le_refl _) _, by simp⟩
  case round =>
    obtain ⟨k, hk, rfl, HO, Hcs, Hfz, hB, hs⟩ := hrel
    by_cases hlt : k < n
    · obtain ⟨g, hg⟩ : ∃ g, gs[k]? = some g := ⟨gs[k]'(by rw [← Hn.out]; exact hlt), List.getElem?_eq_getElem _⟩
      have HfR : Hid (FeatsGO wr a gs) := Hf.out.below hB
      obtain ⟨b, off, rfl, hF⟩ := HfR.out.resolve_left (fun e => by rw [e] at hg; simp at hg)
      have hbr := hF.1
      have HS : Hid (okTo gs (k + 1) = (validF g.f && !seenG gs k g.f.id)) := by
        show okTo gs (k + 1) = _
        rw [okTo_succ hg, HO.out, Bool.true_and]
      have HL : Hid (okTo gs (k + 1) = false → okTo gs gs.length = false) := fun h => okTo_none h (by rw [← Hn.out]; exact hlt)
      have HN : Hid (∀ j : Int, seenG gs (k + 1) j = (seenG gs k j || g.f.id == j)) := fun j => seenG_succ hg j
      obtain ⟨⟨id, kd, ht, col, ps⟩, pa, pcap⟩ := g
      obtain ⟨c0, c1, c2, c3, c4, hpt, hcp, hfew⟩ := hF.2 k _ hg
      simp only at c0 c1 c2 c3 c4 hpt hcp hfew
      obtain ⟨m, hm⟩ : ∃ m, m = ps.length := ⟨_, rfl⟩
      have HV : Hid (∀ W : World, Below wr.heap.size wr W → Calls Tryz.prog 52 #[.agg #[.int .i64 id, .int .i64 kd, .int .i64 ht, .int .i64 col, .slice pa m pcap]] W fun e w' => e = .returned (.bool (validF ⟨id, kd, ht, col, ps⟩)) ∧ Below W.heap.size W w') := fun W hW => IsFeature_any id kd ht col pa m pcap ps W ((hpt.below hW).mono hW.size) hm (by omega)
      rw [← hm] at c4
      clear hm hpt hcp hfew hF HfR hg
      have hBo : ∀ o : Obj, Below wr.heap.size wr (wr.alloc o) := fun o => (Below.refl _ _).alloc (Nat.le_refl _) o
      by_cases hv : validF ⟨id, kd, ht, col, ps⟩ = true
      · obtain ⟨dd, hdd, hd1, hd2⟩ : ∃ dd : Nat, id = (dd : Int) ∧ 1 ≤ dd ∧ dd < 100 := by
          have hvv := hv
          simp only [validF, Bool.and_eq_true, inB, decide_eq_true_eq] at hvv
          exact ⟨id.toNat, by omega, by omega, by omega⟩
        subst hdd
        have Hv : Hid (validF ⟨(dd : Int), kd, ht, col, ps⟩ = true) := hv
        clear hv
        have hdI : (dd : Int) < 100 := by omega
        have hd0 : (0 : Int) ≤ (dd : Int) := by omega
        by_cases hsn : seenG gs k (dd : Int) = true
        · have HE : Hid (okTo gs gs.length = false) := HL.out (by rw [HS.out]; simp [hsn])
          clear HL HS HN
          go_wp2_with (go_at_call 52; refine Calls.mono (HV.out _ (hBo _)) ?_; rintro e w2 ⟨rfl, hb2⟩; rw [Hv.out]; have hz2 : wr.heap.size < w2.heap.size := (by have := hb2.size; simp at this; omega); have hB2 : Below wr.heap.size wr w2 := ((Below.refl _ _).alloc (Nat.le_refl _) _).trans (hb2.mono (by simp)); have c1 := (Q5.new wr (.int .i64 (dd : Int)) (.int .i64 kd) (.int .i64 ht) (.int .i64 col) (.slice pa m pcap) 32).below hb2 (by simp); have c2 := c1.c0; have c3 := (hB2.cell (p := ⟨w.heap.size, dd, none⟩) hs).trans ((Hcs.out dd hd2).trans (by rw [hsn])); have c4 := (hB2.frozen (p := ⟨w.heap.size, dd, none⟩) hs).trans (Hfz.out dd))
          go_ret
          exact ⟨ret_bool HE.out.symm, hB.trans (hB2.mono hB.size)⟩
        · have hsn' : seenG gs k (dd : Int) = false := by simpa using hsn
          have HO2 : Hid (okTo gs (k + 1) = true) := by
            show okTo gs (k + 1) = true
            rw [HS.out, hsn', Hv.out]; rfl
          clear HL HS hsn
          go_wp2_with (go_at_call 52; refine Calls.mono (HV.out _ (hBo _)) ?_; rintro e w2 ⟨rfl, hb2⟩; rw [Hv.out]; have hz2 : wr.heap.size < w2.heap.size := (by have := hb2.size; simp at this; omega); have hB2 : Below wr.heap.size wr w2 := ((Below.refl _ _).alloc (Nat.le_refl _) _).trans (hb2.mono (by simp)); have c1 := (Q5.new wr (.int .i64 (dd : Int)) (.int .i64 kd) (.int .i64 ht) (.int .i64 col) (.slice pa m pcap) 32).below hb2 (by simp); have c2 := c1.c0; have c3 := (hB2.cell (p := ⟨w.heap.size, dd, none⟩) hs).trans ((Hcs.out dd hd2).trans (by rw [hsn'])); have c4 := (hB2.frozen (p := ⟨w.heap.size, dd, none⟩) hs).trans (Hfz.out dd))
          refine ⟨⟨k + 1, by omega, by go_num, HO2, fun j hj => ?_, fun j => ?_, (hB.trans (hB2.mono hB.size)).trans (below_set1 w.heap.size w2 w.heap.size dd (Nat.le_refl _) _), Nat.lt_of_lt_of_le (by omega) (below_set1 w.heap.size w2 w.heap.size dd (Nat.le_refl _) _).size⟩, by simp [intOf]; omega⟩
          · rw [HN.out (j : Int)]
            by_cases hjd : j = dd
            · subst hjd
              rw [World.cell?_setCell_same _ _ _ c3]
              simp
            · rw [World.cell?_setCell_other _ _ _ _ (by intro e; injection e with _ e2 _; exact hjd e2.symm), hB2.cell (p := ⟨w.heap.size, j, none⟩) hs, Hcs.out j hj]
              have hne : ((dd : Int) == (j : Int)) = false := by rw [beq_eq_false_iff_ne]; omega
              rw [hne, Bool.or_false]
          · rw [World.frozen?_setCell, hB2.frozen (p := ⟨w.heap.size, j, none⟩) hs]
            exact Hfz.out j
      · have hv' : validF ⟨id, kd, ht, col, ps⟩ = false := by simpa using hv
        have HE : Hid (okTo gs gs.length = false) := HL.out (by rw [HS.out, hv', Bool.false_and])
        have Hv : Hid (validF ⟨id, kd, ht, col, ps⟩ = false) := hv'
        clear HL HS hv hv' HN
        go_wp2_with (go_at_call 52; refine Calls.mono (HV.out _ (hBo _)) ?_; rintro e w2 ⟨rfl, hb2⟩; rw [Hv.out]; have hB2 : Below wr.heap.size wr w2 := ((Below.refl _ _).alloc (Nat.le_refl _) _).trans (hb2.mono (by simp)))
        go_ret
        exact ⟨ret_bool HE.out.symm, hB.trans (hB2.mono hB.size)⟩
    · have HE : Hid (okTo gs gs.length = true) := by
        have := HO.out
        rwa [show k = gs.length by have := Hn.out; omega] at this
      go_wp2
      go_ret
      exact ⟨ret_bool HE.out.symm, hB⟩

end Go.Proofs.YtenaepdmlknlcaaGreatDoor

namespace Go.Proofs.YtenaepdmlknlcaaGreatDoor
open Go.RowKit Go.Shelf

theorem digs_big {v : Nat} (h : 16 ≤ v) : digs 16 v = digs 16 (v / 16) ++ [dch (v % 16)] := by
  rw [digs, dif_neg (by omega)]
theorem digs_small {v : Nat} (h : v < 16) : digs 16 v = [dch v] := by rw [digs, dif_pos (.inl h)]
abbrev alphaT : ByteArray := ⟨#[48, 49, 50, 51, 52, 53, 54, 55, 56, 57, 97, 98, 99, 100, 101, 102, 103, 104, 105, 106, 107, 108, 109, 110, 111, 112, 113, 114, 115, 116, 117, 118, 119, 120, 121, 122]⟩
theorem alpha_at (d : Nat) (hd : d < 16) (h : d < alphaT.size) : alphaT[d]'h = dch d := by
  match d, hd with
  | 0, _ => rfl
  | 1, _ => rfl
  | 2, _ => rfl
  | 3, _ => rfl
  | 4, _ => rfl
  | 5, _ => rfl
  | 6, _ => rfl
  | 7, _ => rfl
  | 8, _ => rfl
  | 9, _ => rfl
  | 10, _ => rfl
  | 11, _ => rfl
  | 12, _ => rfl
  | 13, _ => rfl
  | 14, _ => rfl
  | 15, _ => rfl
  | _ + 16, h => omega
theorem str_nums (L : List UInt8) : strOfNums (L.map fun b => (b.toNat : Int)) = ⟨L.toArray⟩ := by
  rw [strOfNums, List.map_map]
  congr 2
  have : ((fun n : Int => UInt8.ofNat n.toNat) ∘ fun b : UInt8 => (b.toNat : Int)) = id := by
    funext b
    simp
  rw [this, List.map_id]

/-- The bytes l lie from i on. -/
def BytesAt (W : World) (A i : Nat) (l : List UInt8) : Prop := ∀ t ch, l[t]? = some ch → W.cell? ⟨A, i + t, none⟩ = some (.int .u8 (ch.toNat : Int))
theorem BytesAt.cons {W : World} {A i : Nat} {l : List UInt8} (h : BytesAt W A (i + 1) l) {c0 : Value} (hc : W.cell? ⟨A, i, none⟩ = some c0) (x : UInt8) : BytesAt (W.setCell ⟨A, i, none⟩ (.int .u8 (x.toNat : Int))) A i (x :: l) := by
  intro t ch ht
  cases t with
  | zero =>
    simp at ht
    subst ht
    exact World.cell?_setCell_same _ _ _ hc
  | succ t =>
    simp at ht
    have := h t ch ht
    rw [World.cell?_setCell_other _ _ _ _ (by intro e; injection e with _ e2 _; omega)]
    rw [show i + (t + 1) = i + 1 + t by omega]
    exact this

set_option maxRecDepth 100000 in
set_option maxHeartbeats 2000000 in
theorem fb16_ex (n : Nat) (w : World) (h1 : n < 4294967296) (ht : w.cell? ⟨3, 15, none⟩ = some (.int .u8 4)) (h3 : 3 < w.heap.size) :
    Calls Tryz.prog 135 #[.slice none 0 0, .int .u64 (n : Int), .int .i64 16, .bool false, .bool false] w fun e w' => e = .returned (.tuple #[.slice none 0 0, .string ⟨(digs 16 n).toArray⟩]) ∧ (digs 16 n).length ≤ 8 ∧ Below w.heap.size w w' := by
  go_enter Tryz.func135, Tryz.ntmps135
  go_wp2_with (first
    | (go_at_call 165; refine (pow16 _).mono ?_; rintro e w' ⟨rfl, rfl⟩)
    | (go_at_call 166; refine (tz16 _ (by simp [go_sem, *])).mono ?_; rintro e w' ⟨rfl, rfl⟩))
  have hcell : ∀ j, j < 65 → (w.alloc (.cells Tryz.zeroCells280 280)).cell? ⟨w.heap.size, j, none⟩ = some (.int .u8 0) := fun j hj => by
    rw [World.cell?_alloc_new]
    rw [zero125]
    simp [hj]
  have HC : Hid _ := hcell
  clear hcell
  go_loopw [1, 13] (fun uv iv wr => ∃ (m i v : Nat) (l : List UInt8), i + 1 + m = 65 ∧ m ≤ 7 ∧ uv = .int .u64 (v : Int) ∧ iv = .int .i64 ((i : Int) + 1) ∧ Hid ((v : Int) < fbB m) ∧ v < 4294967296 ∧ Hid (l.length = m ∧ BytesAt wr w.heap.size (i + 1) l ∧ digs 16 n = digs 16 v ++ l) ∧ Hid (∀ j, j < 65 → ∃ c : Int, wr.cell? ⟨w.heap.size, j, none⟩ = some (.int .u8 c) ∧ 0 ≤ c ∧ c < 256) ∧ Hid (∀ j, wr.frozen? ⟨w.heap.size, j, none⟩ = false) ∧ Below w.heap.size w wr ∧ w.heap.size < wr.heap.size) (fun uv _ _ => (intOf uv).toNat)
  case atStart => exact ⟨0, 64, n, [], rfl, by omega, rfl, rfl, by show (n : Int) < fbB 0; simp [fbB]; omega, h1, ⟨rfl, fun t ch h => by simp at h, by simp⟩, fun j hj => ⟨0, HC.out j hj, by omega, by omega⟩, fun j => by simp [go_sem], (Below.refl _ _).alloc (Nat.le_refl _) _, by simp⟩
  case round =>
    clear h1
    obtain ⟨m, i, v, l, him, hm, rfl, rfl, HvB, hv1, HL, Hcs, Hfz, hB, hs⟩ := hrel
    have hi65 : i < 65 := by omega
    have hiI : (i : Int) < 65 := by omega
    have hi0 : (0 : Int) ≤ (i : Int) := by omega
    obtain ⟨ci, hci, hci0, hci1⟩ := Hcs.out i hi65
    have hfi := Hfz.out i
    by_cases hge : 16 ≤ v
    · have hst := fb_step hm (by omega) HvB.out (by omega)
      have HST : Hid (m ≤ 6 ∧ (v : Int) / 16 < fbB (m + 1)) := hst
      clear hst
      obtain ⟨dd, hdd⟩ : ∃ dd : Nat, dd = v % 16 := ⟨_, rfl⟩
      have hand : bits BinOp.and IntKind.u64 (v : Int) 15 = (dd : Int) := by rw [and15 _ (by omega) (by omega), hdd]; rfl
      have hdd16 : dd < 16 := by omega
      have hddI : (dd : Int) < 36 := by omega
      have HD : Hid (digs 16 n = digs 16 (v / 16) ++ (dch dd :: l)) := by
        show digs 16 n = _
        rw [HL.out.2.2, digs_big hge, hdd, List.append_assoc]; rfl
      clear hdd
      have hgeI : (16 : Int) ≤ (v : Int) := by omega
      go_wp2
      have hal := alpha_at dd hdd16 (by show dd < 36; omega)
      have hi1 : i - 1 + 1 = i := by have := HST.out.1; omega
      refine ⟨⟨m + 1, i - 1, v / 16, dch dd :: l, by have := HST.out.1; omega, by have := HST.out.1; omega, rfl, ?_, ?_, by omega, ⟨by simp [HL.out.1], ?_, HD.out⟩, bytes_set Hcs.out i _, fun j => ?_, hB.trans (below_set1 w.heap.size wr w.heap.size i (Nat.le_refl _) _), Nat.lt_of_lt_of_le hs (below_set1 w.heap.size wr w.heap.size i (Nat.le_refl _) _).size⟩, ?_⟩
      · have h : (i : Int) = ((i - 1 : Nat) : Int) + 1 := by omega
        rw [← h]
      · have := HST.out.2
        show ((v / 16 : Nat) : Int) < _
        omega
      · have := BytesAt.cons HL.out.2.1 hci (dch dd)
        rw [hi1]
        rw [← hal] at this ⊢
        exact this
      · rw [World.frozen?_setCell]; exact Hfz.out j
      · show ((v : Int) / 16).toNat < (v : Int).toNat
        omega
    · have hdd16 : v < 16 := by omega
      have hddI : (v : Int) < 36 := by omega
      have hltI : (v : Int) < 16 := by omega
      have hal := alpha_at v hdd16 (by show v < 36; omega)
      have HD : Hid (digs 16 n = dch v :: l) := by
        show digs 16 n = _
        rw [HL.out.2.2, digs_small hdd16]; rfl
      have hlen : l.length = 64 - i := by rw [HL.out.1]; omega
      have hconv : ∀ x : UInt8, Sem.run Tryz.prog (convert 197 9 (.slice (some ⟨w.heap.size, i, none⟩) (65 - i) (65 - i))) (wr.setCell ⟨w.heap.size, i, none⟩ (.int .u8 (x.toNat : Int))) = .ok (.string (strOfNums ((x :: l).map fun b => (b.toNat : Int)))) (wr.setCell ⟨w.heap.size, i, none⟩ (.int .u8 (x.toNat : Int))) := fun x =>
        run_convert_bytes_arg _ 197 5 Tryz.underlying197 Tryz.underlying5 w.heap.size i (65 - i) (65 - i) _ (by simp; omega) (fun j hj => by
          have hjl : j < (x :: l).length := by rw [List.length_cons, hlen]; omega
          have := BytesAt.cons HL.out.2.1 hci x j _ (List.getElem?_eq_getElem hjl)
          rw [this, List.getD_eq_getElem?_getD, List.getElem?_map, List.getElem?_eq_getElem hjl]
          rfl) 9 Tryz.underlying9
      have HLn : Hid (l.length + 1 ≤ 8) := by show _ ≤ _; rw [HL.out.1]; omega
      have hi1 : (i : Int) ≤ 65 := by omega
      clear HL Hcs Hfz hal hlen
      go_wp2
      go_ret2
      have key : ∀ x : UInt8, x = dch v → Ending.returned (.tuple #[.slice none 0 0, .string (strOfNums ((x.toNat : Int) :: l.map fun b => (b.toNat : Int)))]) = .returned (.tuple #[.slice none 0 0, .string ⟨(digs 16 n).toArray⟩]) := by
        rintro _ rfl
        rw [HD.out, ← str_nums]
        rfl
      exact ⟨key _ (alpha_at v hdd16 (by show v < 36; omega)), by rw [HD.out]; exact HLn.out, hB.trans (below_set1 w.heap.size wr w.heap.size i (Nat.le_refl _) _)⟩

set_option maxHeartbeats 1000000 in
theorem FormatUint_ex (n : Nat) (w : World) (h1 : n < 4294967296) (ht : w.cell? ⟨3, 15, none⟩ = some (.int .u8 4)) (h3 : 3 < w.heap.size) :
    Calls Tryz.prog 59 #[.int .u64 (n : Int), .int .i64 16] w fun e w' => e = .returned (.string ⟨(digs 16 n).toArray⟩) ∧ (digs 16 n).length ≤ 8 ∧ Below w.heap.size w w' := by
  have h35 : Calls Tryz.prog 98 #[.int .u64 (n : Int), .int .i64 16] w fun e w' => e = .returned (.string ⟨(digs 16 n).toArray⟩) ∧ (digs 16 n).length ≤ 8 ∧ Below w.heap.size w w' := by
    go_enter Tryz.func98, Tryz.ntmps98
    go_wp2_with (go_at_call 135; refine (fb16_ex n _ h1 ht h3).mono ?_; rintro e w1 ⟨rfl, hs2, hb1⟩)
    go_ret
    exact ⟨rfl, hs2, hb1⟩
  have H35 : Hid _ := h35
  clear h35
  go_enter Tryz.func59, Tryz.ntmps59
  go_wp2_with (go_at_call 98; refine Calls.mono H35.out ?_; rintro e w1 ⟨rfl, hs2, hb1⟩)
  go_ret
  exact ⟨rfl, hs2, hb1⟩

theorem repeatL_zero (c : Nat) : Lib.repeatL [48] c = List.replicate c 48 := by
  induction c with
  | zero => rfl
  | succ c ih => simpa [Lib.repeatL, List.replicate_succ] using ih

set_option maxHeartbeats 1000000 in
theorem Mark_ex (b : ByteArray) (w : World) (hb : b.size ≤ 1000000) (ht : w.cell? ⟨3, 15, none⟩ = some (.int .u8 4)) (h3 : 3 < w.heap.size) :
    Calls Tryz.prog 33 #[.string b] w fun e w' => e = .returned (.string ⟨(markN b.data.toList).toArray⟩) ∧ Below w.heap.size w w' := by
  have hlt := sumN_lt b.data.toList
  have HM : Hid (markN b.data.toList = padN (digs 16 (sumN b.data.toList))) := rfl
  have HS : Hid (∀ W : World, Calls Tryz.prog 60 #[.string b] W fun e w' => e = .returned (.int .u32 ((sumN b.data.toList : Nat) : Int)) ∧ w' = W) := fun W => sum_ex b W hb
  obtain ⟨n, hn⟩ : ∃ n, sumN b.data.toList = n := ⟨_, rfl⟩
  rw [hn] at hlt HM HS
  clear hn
  have HF : Hid (∀ W : World, W.cell? ⟨3, 15, none⟩ = some (.int .u8 4) → 3 < W.heap.size → Calls Tryz.prog 59 #[.int .u64 (n : Int), .int .i64 16] W fun e w' => e = .returned (.string ⟨(digs 16 n).toArray⟩) ∧ (digs 16 n).length ≤ 8 ∧ Below W.heap.size W w') := fun W => FormatUint_ex n W hlt
  obtain ⟨d, hd⟩ : ∃ d, digs 16 n = d := ⟨_, rfl⟩
  rw [hd] at HM HF
  clear hd
  obtain ⟨zl, hzl⟩ : ∃ zl : List UInt8, zl = List.replicate (8 - d.length) 48 := ⟨_, rfl⟩
  have HR : Hid (∀ W : World, Calls Tryz.prog 61 #[.string ⟨#[48]⟩, .int .i64 ((8 - d.length : Nat) : Int)] W fun e w' => e = .returned (.string ⟨zl.toArray⟩) ∧ Below W.heap.size W w') := fun W => by
    have := repeat0 (8 - d.length) W (by omega)
    rwa [repeatL_zero, ← hzl] at this
  have hzn : zl.length ≤ 8 := by rw [hzl, List.length_replicate]; omega
  obtain ⟨pl, hpl⟩ : ∃ pl : List UInt8, zl ++ d = pl := ⟨_, rfl⟩
  have HP : Hid (pl = markN b.data.toList) := by show pl = _; rw [HM.out, padN, ← hpl, hzl]
  have HA : Hid (d.length ≤ 8 → ∀ W : World, Sem.run Tryz.prog (Op.stringOp .add ⟨zl.toArray⟩ ⟨d.toArray⟩) W = .ok (.string ⟨pl.toArray⟩) W) := fun hd W => by rw [← hpl]; exact run_string_add_lists W _ _ (by omega) (by omega)
  clear hzl hpl HM
  go_enter Tryz.func33, Tryz.ntmps33
  go_wp2_with (first
    | (go_at_call 60; refine Calls.mono (HS.out _) ?_; rintro e w1 ⟨rfl, rfl⟩)
    | (go_at_call 59; refine Calls.mono (HF.out _ ht h3) ?_; rintro e w2 ⟨rfl, hs2, hb2⟩; have hadd := HA.out hs2)
    | (go_at_call 61; rw [show (8 : Int) - (d.length : Int) = ((8 - d.length : Nat) : Int) from by omega]; refine Calls.mono (HR.out _) ?_; rintro e w3 ⟨rfl, hb3⟩))
  go_ret
  exact ⟨ret_str HP.out, hb2.trans (hb3.mono hb2.size)⟩

end Go.Proofs.YtenaepdmlknlcaaGreatDoor

namespace Go.Proofs.YtenaepdmlknlcaaGreatDoor
open Go.RowKit Go.Shelf

theorem above_iff (h i h' i' : Int) : aboveB h i h' i' = true ↔ (h' < h ∨ (h = h' ∧ i' < i)) := by
  unfold aboveB
  split
  · rename_i e; subst e; simp
  · simp; omega

def abv (a b : FV) : Bool := aboveB a.f.ht a.f.id b.f.ht b.f.id
def cov (x : Bx) (a : FV) : Bool := coverB a.f.kd a.f.ps x.l x.t x.r x.b
theorem pick_none (x : Bx) (a : FV) (h : cov x a = true) : pickV x none a = some a := by unfold pickV; unfold cov at h; simp [h]
theorem pick_some (x : Bx) (u a : FV) (h : cov x a = true) : pickV x (some u) a = if abv a u = true then some a else some u := by unfold pickV abv; unfold cov at h; simp [h]
theorem pick_not (x : Bx) (o : Option FV) (a : FV) (h : cov x a = false) : pickV x o a = o := by unfold pickV; unfold cov at h; simp [h]

theorem pick_comm (x : Bx) (a b : FV) (h : a.f.id ≠ b.f.id) (o : Option FV) : pickV x (pickV x o a) b = pickV x (pickV x o b) a := by
  cases ca : cov x a with
  | false => rw [pick_not x _ a ca, pick_not x _ a ca]
  | true =>
    cases cb : cov x b with
    | false => rw [pick_not x _ b cb, pick_not x _ b cb]
    | true =>
      have e1 := above_iff a.f.ht a.f.id b.f.ht b.f.id
      have e2 := above_iff b.f.ht b.f.id a.f.ht a.f.id
      change abv a b = true ↔ _ at e1
      change abv b a = true ↔ _ at e2
      cases o with
      | none =>
        rw [pick_none x a ca, pick_none x b cb, pick_some x a b cb, pick_some x b a ca]
        by_cases h1 : abv b a = true
        · rw [if_pos h1, if_neg (by rw [e1]; rw [e2] at h1; omega)]
        · rw [if_neg h1, if_pos (by rw [e1]; rw [e2] at h1; omega)]
      | some u =>
        have e3 := above_iff a.f.ht a.f.id u.f.ht u.f.id
        have e4 := above_iff b.f.ht b.f.id u.f.ht u.f.id
        change abv a u = true ↔ _ at e3
        change abv b u = true ↔ _ at e4
        rw [pick_some x u a ca, pick_some x u b cb]
        by_cases h1 : abv a u = true
        · rw [if_pos h1, pick_some x a b cb]
          by_cases h2 : abv b u = true
          · rw [if_pos h2, pick_some x b a ca]
            by_cases h3 : abv b a = true
            · rw [if_pos h3, if_neg (by rw [e1]; rw [e2] at h3; omega)]
            · rw [if_neg h3, if_pos (by rw [e1]; rw [e2] at h3; omega)]
          · rw [if_neg h2, pick_some x u a ca, if_pos h1, if_neg (by rw [e2]; rw [e3] at h1; rw [e4] at h2; omega)]
        · rw [if_neg h1, pick_some x u b cb]
          by_cases h2 : abv b u = true
          · rw [if_pos h2, pick_some x b a ca, if_neg (by rw [e1]; rw [e3] at h1; rw [e4] at h2; omega)]
          · rw [if_neg h2, pick_some x u a ca, if_neg h1]

/-- No two have the same number. -/
def Dist (vs : List FV) : Prop := ∀ a ∈ vs, ∀ b ∈ vs, a = b ∨ a.f.id ≠ b.f.id
theorem top_perm (x : Bx) {vs us : List FV} (hp : us.Perm vs) (hd : Dist vs) : topOf x us = topOf x vs := by
  unfold topOf
  refine hp.foldl_eq' (fun a ha b hb z => ?_) none
  rcases hd a (hp.mem_iff.1 ha) b (hp.mem_iff.1 hb) with rfl | h
  · rfl
  · exact pick_comm x a b h z

theorem okTo_dist {gs : List FG} (h : okTo gs gs.length = true) : Dist (gs.map FG.fv) := by
  have key : ∀ (i j : Nat) (a b : FG), i < j → gs[i]? = some a → gs[j]? = some b → a.f.id ≠ b.f.id := by
    intro i j a b hij ha hb e
    have hj : j < gs.length := (List.getElem?_eq_some_iff.1 hb).1
    have := (okTo_at h hj hb).2
    have hs : seenG gs (i + 1) b.f.id = true := by rw [seenG_succ ha]; simp [e]
    rw [seenG_more hs hij] at this
    cases this
  intro a ha b hb
  obtain ⟨i, hi⟩ := List.mem_iff_getElem?.1 ha
  obtain ⟨j, hj⟩ := List.mem_iff_getElem?.1 hb
  rw [List.getElem?_map, Option.map_eq_some_iff] at hi hj
  obtain ⟨ga, hga, rfl⟩ := hi
  obtain ⟨gb, hgb, rfl⟩ := hj
  rw [FG.fv_f, FG.fv_f]
  rcases Nat.lt_trichotomy i j with h1 | h1 | h1
  · exact .inr (key i j ga gb h1 hga hgb)
  · subst h1
    rw [hga] at hgb
    cases hgb
    exact .inl rfl
  · exact .inr (fun e => key j i gb ga h1 hgb hga e.symm)

/-- What the program's tree shows is what the document's list shows. -/
theorem col_eq {vs us : List FV} (hp : us.Perm vs) (hd : Dist vs) (hv : ∀ v ∈ vs, validF v.f = true) {p c r : Int} (h0 : 0 ≤ p) (n : Nat) : (colZ us p c r n).toNat = colR vs p c r n := by
  unfold colZ colR
  rw [top_filter _ us (fun v h => hv v (hp.mem_iff.1 h)) (by simp only [pixZ]; omega) (by simp only [pixZ]; omega), top_perm _ hp hd]
theorem body_eq {vs us : List FV} (hp : us.Perm vs) (hd : Dist vs) (hv : ∀ v ∈ vs, validF v.f = true) {p c r : Int} (h0 : 0 ≤ p) :
    Lib.join ((txts ((List.range 64).map fun n => (colZ us p c r n).toNat)).map (·.data.toList)) [44] = bodyR vs p c r := by
  rw [bodyR, fin_stN]
  congr 4
  funext n
  exact col_eq hp hd hv h0 n

end Go.Proofs.YtenaepdmlknlcaaGreatDoor
