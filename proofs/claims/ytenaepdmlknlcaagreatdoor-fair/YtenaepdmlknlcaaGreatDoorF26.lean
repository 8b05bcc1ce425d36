import Derived.Test.YtenaepdmlknlcaaGreatDoorF25
import Derived.Test.YtenaepdmlknlcaaGreatDoorF20
import Derived.Test.YtenaepdmlknlcaaGreatDoorF23
namespace Go.Proofs.YtenaepdmlknlcaaGreatDoor
open Go.RowKit Go.Shelf

attribute [local go_sem] Oper.semAt_some

theorem KeepsFrom.fr {M : Nat → Nat → Prop} {B n : Nat} {W W' : World} (h : Fr M W W') (hM : ∀ b i, M b i → b < n) (hB : n ≤ B) : KeepsFrom B W W' :=
  ⟨h.size, fun i o hi he _ => (h.block i (Array.getElem?_eq_some_iff.1 he).1 (fun j e => by have := hM i j e; omega)).trans he⟩
theorem tilesZ_good {z : Nat} (hz : z ≤ 3) : ∀ t ∈ tilesZ z, t.good := by
  intro t ht
  unfold Tl.good
  match z, hz with
  | 0, _ => revert t; decide
  | 1, _ => revert t; decide
  | 2, _ => revert t; decide
  | 3, _ => revert t; decide
theorem good_ok {t : Tl} (h : t.good) : t.ok := by
  obtain ⟨h1, h2, h3, h4, h5, _, _⟩ := tile_facts h
  exact ⟨by rcases h1 with ⟨e, _⟩ | ⟨e, _⟩ | ⟨e, _⟩ | ⟨e, _⟩ <;> omega, by rcases h1 with ⟨e, _⟩ | ⟨e, _⟩ | ⟨e, _⟩ | ⟨e, _⟩ <;> omega, h2, h3, h4, h5⟩
theorem Square_good {t : Tl} (h : t.good) (W : World) : Calls Tryz.prog 93 #[.agg #[.int .i64 t.z, .int .i64 t.c, .int .i64 t.r]] W fun e w' => e = .returned (bxV (squareZ t)) ∧ Below W.heap.size W w' := by
  obtain ⟨h1, h2, h3, h4, h5, h6, h7⟩ := tile_facts h
  exact Square_any t.z (pZ t.z) t.c t.r W h1 h2 h3 h4 h5
theorem number_good {t : Tl} (h : t.ok) (W : World) : Calls Tryz.prog 217 #[.agg #[.int .i64 t.z, .int .i64 t.c, .int .i64 t.r]] W fun e w' => e = .returned (.int .i64 ((shN t : Nat) : Int)) ∧ Below W.heap.size W w' := by
  refine (number_tile t.z t.c t.r W h.1 h.2.1 h.2.2.1 h.2.2.2.1 h.2.2.2.2.1 h.2.2.2.2.2).mono ?_
  rintro e w' ⟨rfl, hb⟩
  refine ⟨?_, hb⟩
  have := Int.emod_nonneg (t.z + t.c + t.r) (show (4 : Int) ≠ 0 by decide)
  rw [show ((shN t : Nat) : Int) = (t.z + t.c + t.r) % 4 from Int.toNat_of_nonneg this]

/-- The shards behind the forgetting, of which the first k have grown older. -/
def agS (z : Nat) (bs : List Bx) (S : Shs) (k : Nat) : Shs := { S with ks := fun j => forgetK bs j (tilesZ z) (S.ks j), age := fun j => if j < k ∧ olderK bs j (tilesZ z) = true then IntKind.i64.wrap (S.age j + 1) else S.age j }
structure AgI (A so n0 z : Nat) (bs : List Bx) (vs vs' : Nat → Value) (S : Shs) (w : World) (D k : Nat) (W : World) : Prop where
  c0 : W.cell? ⟨n0, 0, none⟩ = some (.pointer (some ⟨A, so, none⟩))
  old : ∀ k, k < 4 → W.cell? ⟨n0 + 1 + 1, k, none⟩ = some (.bool (olderK bs k (tilesZ z))) ∧ W.frozen? ⟨n0 + 1 + 1, k, none⟩ = false
  sh : ShsAt W A so vs' (agS z bs S k)
  fr : Fr (FgM A so vs) w W
  hK : W.heap[D]? = some (.deferred (some []))

theorem wrapE (n : Int) : IntKind.i64.wrap n = wrap64 n := by rw [IntKind.wrap_i64, wrap64]
theorem forgetS_ag (z : Nat) (bs : List Bx) (S : Shs) : forgetS z bs S = agS z bs S 4 := by
  have : ∀ j, (j < 4 ∧ olderK bs j (tilesZ z) = true) ↔ olderK bs j (tilesZ z) = true := fun j => by
    refine ⟨fun h => h.2, fun h => ⟨?_, h⟩⟩
    obtain ⟨t, _, ht⟩ := List.any_eq_true.1 h
    simp only [Bool.and_eq_true, decide_eq_true_eq] at ht
    rw [← ht.2]
    exact shN_lt t
  simp only [agS, forgetS, this]
theorem AgI.skip {A so n0 z : Nat} {bs : List Bx} {vs vs' : Nat → Value} {S : Shs} {w : World} {D k : Nat} {W : World} (h : AgI A so n0 z bs vs vs' S w D k W) (hol : olderK bs k (tilesZ z) = false) : AgI A so n0 z bs vs vs' S w D (k + 1) W := by
  have e : agS z bs S (k + 1) = agS z bs S k := by
    have : ∀ j, (j < k + 1 ∧ olderK bs j (tilesZ z) = true) ↔ (j < k ∧ olderK bs j (tilesZ z) = true) := fun j => by
      by_cases hj : j = k
      · subst hj; simp [hol]
      · constructor <;> (rintro ⟨h1, h2⟩; exact ⟨by omega, h2⟩)
    simp only [agS, this]
  exact ⟨h.c0, h.old, by rw [e]; exact h.sh, h.fr, h.hK⟩
theorem AgI.step {A so n0 z : Nat} {bs : List Bx} {vs vs' : Nat → Value} {S : Shs} {w : World} {D k : Nat} {W : World} (h : AgI A so n0 z bs vs vs' S w D k W) (hol : olderK bs k (tilesZ z) = true) (hk : k < 4) (hA : A < n0) (hn : n0 + 1 + 1 < D) (hv : ∀ j g, j < 4 → (vs' j).ownBlock = some g → g ≠ A) :
    AgI A so n0 z bs vs vs' S w D (k + 1) (W.setCell ⟨A, so + 1 + k * 2 + 1, none⟩ (.int .i64 (IntKind.i64.wrap (S.age k + 1)))) := by
  obtain ⟨q1, q2⟩ := h.sh.age k hk
  refine ⟨(cell_ne _ _ (.inl (by omega))).trans h.c0, fun j hj => ⟨(cell_ne _ _ (.inl (by omega))).trans (h.old j hj).1, by rw [World.frozen?_setCell]; exact (h.old j hj).2⟩, ?_, h.fr.setCell (b := A) (i := so + 1 + k * 2 + 1) (.inl (.inl ⟨rfl, by omega, by omega⟩)) _, (Below.heap_setCell _ _ _ _ (fun e => by simp only at e; omega)).trans h.hK⟩
  have hF : Fr (fun b i => b = A ∧ i = so + 1 + k * 2 + 1) W (W.setCell ⟨A, so + 1 + k * 2 + 1, none⟩ (.int .i64 (IntKind.i64.wrap (S.age k + 1)))) := (Fr.refl _ W).setCell (b := A) (i := so + 1 + k * 2 + 1) (.inl ⟨rfl, rfl⟩) _
  have hlt : A < W.heap.size := World.block_lt_of_cell? W _ q1
  refine ⟨(hF.cell A so hlt (fun e => by omega)).trans h.sh.room, fun j hj => (h.sh.sh j hj).fr hF (fun e => by omega) (fun g i e m => hv j g hj e m.1), fun j hj => ?_, h.sh.apart⟩
  by_cases hjk : j = k
  · subst hjk
    refine ⟨?_, by rw [World.frozen?_setCell]; exact q2⟩
    rw [cell_eq q1]
    have : (agS z bs S (j + 1)).age j = IntKind.i64.wrap (S.age j + 1) := if_pos ⟨by omega, hol⟩
    rw [this]
  · refine ⟨?_, by rw [World.frozen?_setCell]; exact (h.sh.age j hj).2⟩
    rw [cell_ne _ _ (.inr (by omega)), (h.sh.age j hj).1]
    have : (agS z bs S (k + 1)).age j = (agS z bs S k).age j := by
      unfold agS
      dsimp only
      by_cases hc : j < k ∧ olderK bs j (tilesZ z) = true
      · rw [if_pos hc, if_pos ⟨by omega, hc.2⟩]
      · rw [if_neg hc, if_neg (fun e => hc ⟨by omega, e.2⟩)]
    rw [this]

set_option maxRecDepth 100000 in
set_option maxHeartbeats 4000000 in
theorem Forget_any (A so z : Nat) (a : Option Addr) (n cap : Nat) (bs : List Bx) (vs : Nat → Value) (S : Shs) (w : World) (hz : z ≤ 3) (h : ShsAt w A so vs S) (hn : n = bs.length) (hcap : n ≤ cap) (hn9 : n ≤ 1000) (ha : bs = [] ∨ ∃ g, a = some ⟨g, 0, none⟩ ∧ g < w.heap.size ∧ (∀ i, ¬ FgM A so vs g i) ∧ BxsAt w g bs) :
    Calls Tryz.prog 206 #[.pointer (some ⟨A, so, none⟩), .int .i64 (z : Int), .slice a n cap] w fun e w' => e = .returned (.tuple #[]) ∧ ∃ vs', ShsAt w' A so vs' (forgetS z bs S) ∧ (∀ k, k < 4 → (vs' k).ownBlock = (vs k).ownBlock) ∧ Fr (FgM A so vs) w w' := by
  have hA : A < w.heap.size := World.block_lt_of_cell? w ⟨A, so, none⟩ h.room
  have hvs : ∀ k g, k < 4 → (vs k).ownBlock = some g → g < w.heap.size := fun k g hk e => (h.sh k hk).ownLt g e
  have hMlt : ∀ b i, FgM A so vs b i → b < w.heap.size := fun b i e => by
    rcases e with ⟨rfl, _⟩ | ⟨k, hk, e⟩
    · exact hA
    · exact hvs k b hk e
  have HS : Hid (ShsAt w A so vs S) := h
  have Hn : Hid (n = bs.length) := hn
  have HCt : Hid (∀ (t : Tl) (W : World), Fr (FgM A so vs) w W → Calls Tryz.prog 223 #[.slice a n cap, .func (.func 158) #[bxV (squareZ t)] #[]] W fun e w' => e = .returned (.bool (hitT bs t)) ∧ Below W.heap.size W w') := fun t W hW =>
    Contains_any (squareZ t) a n cap bs W hn hcap (by omega) (ha.imp _root_.id fun ⟨g, e1, e2, e3, e4⟩ => ⟨g, e1, Nat.lt_of_lt_of_le e2 hW.size, fun i x ex => ⟨(hW.cell g _ e2 (e3 _)).trans (e4 i x ex).1, (hW.cell g _ e2 (e3 _)).trans (e4 i x ex).2.1, (hW.cell g _ e2 (e3 _)).trans (e4 i x ex).2.2.1, (hW.cell g _ e2 (e3 _)).trans (e4 i x ex).2.2.2⟩⟩)
  clear h hn ha hcap hn9
  refine (callsIn_wide (n := 4)).1 ?_
  refine callsIn_of_wp_marks Tryz.func206 rfl trivial ?_ rfl
  simp only [Tryz.ntmps206, List.size_toArray, List.length_cons, List.length_nil, Nat.reduceAdd, Nat.reduceSub, Array.replicate_succ, Array.replicate_zero, List.push_toArray, List.append_toArray, List.nil_append, List.cons_append]
  gi_wp2_with (refine ⟨trivial, ?_⟩; gi_at_call 222; refine (callsIn_wide.2 (PTiles_any _ _)).mono ?_; rintro e w1 ⟨rfl, rfl⟩)
  have hb4 : ∀ o1 o2 o3 o4 : Obj, Below w.heap.size w ((((w.alloc o1).alloc o2).alloc o3).alloc o4) := fun o1 o2 o3 o4 => ((((Below.refl _ _).alloc (Nat.le_refl _) _).alloc (by simp) _).alloc (by simp <;> omega) _).alloc (by simp <;> omega) _
  obtain ⟨c, hzc⟩ : ∃ c : Nat, (z = 0 ∧ c = 1) ∨ (z = 1 ∧ c = 2) ∨ (z = 2 ∧ c = 4) ∨ (z = 3 ∧ c = 8) := by
    match z, hz with
    | 0, _ => exact ⟨1, by omega⟩
    | 1, _ => exact ⟨2, by omega⟩
    | 2, _ => exact ⟨4, by omega⟩
    | 3, _ => exact ⟨8, by omega⟩
  refine wpIn_rangeFunc_ownH (F := Fence.wide) rfl (by omega) (gf := 233) (lb := #[.pointer (some ⟨w.heap.size + 1 + 1 + 1, 0, none⟩)]) rfl trivial (enters_of Tryz.func233 (by kernel_rfl) rfl)
    (tiles_stops (fun t => t.good) z c (tilesZ_good hz) hzc (w.heap.size + 1 + 1 + 1) _ _ (by simp [go_sem]))
    keepB_t keepB_b (Below.refl _ _) (fun _ => rfl)
    (fun pre W => FgI A so w.heap.size a n cap bs vs S w (pre.map Subtype.val) W)
    (fun _ _ _ => False)
    (fun s X Y row hs hg hr => FgI.kept hs hg (fun r e => ⟨by have := (hr r e).1; simp at this; omega, (hr r e).2⟩))
    (fun _ _ _ _ _ hs _ _ => hs)
    ?start
    (fun t a' W => ∃ Bv, w.heap.size + 1 + 1 + 1 < Bv ∧ K3 W Bv (.int .i64 t.1.z) (.int .i64 t.1.c) (.int .i64 t.1.r) ∧
      a' = { tmps := #[.pointer (some ⟨A, so, none⟩), .int .i64 (z : Int), .slice a n cap, .pointer (some ⟨w.heap.size, 0, none⟩), undef, .pointer (some ⟨w.heap.size + 1, 0, none⟩), .pointer (some ⟨w.heap.size + 1 + 1, 0, none⟩), .pointer (some ⟨Bv, 0, none⟩), undef, .int .i64 (z : Int), .func (.func 233) #[] #[.pointer (some ⟨w.heap.size + 1 + 1 + 1, 0, none⟩)], .agg #[.int .i64 t.1.z, .int .i64 t.1.c, .int .i64 t.1.r], undef, undef, undef, undef, undef, undef, undef, undef, undef, undef, undef, undef, undef, undef, undef, undef, undef, undef, undef, undef, undef, undef, undef, undef, undef, undef, undef, undef, undef, undef, undef, undef], defers := [] })
    (fun v a' s X Y row hs hg hr => by obtain ⟨Bv, h1, h2, h3⟩ := hs; exact ⟨Bv, h1, ⟨cell_kept h2.c0 hg (fun r e => (hr r e).2), cell_kept h2.c1 hg (fun r e => (hr r e).2), cell_kept h2.c2 hg (fun r e => (hr r e).2), (frozen_kept h2.c0 hg (fun r e => (hr r e).2)).trans h2.f0, (frozen_kept h2.c1 hg (fun r e => (hr r e).2)).trans h2.f1, (frozen_kept h2.c2 hg (fun r e => (hr r e).2)).trans h2.f2⟩, h3⟩)
    ?assign ?body ?done ?stop
  case start =>
    refine ⟨by simp [go_sem], by simp [go_sem], fun k hk => ?_, ⟨vs, ?_, fun _ _ => rfl⟩, Fr.of_below (hb4 _ _ _ _), by simp⟩
    · match k, hk with
      | 0, _ => simp [go_sem, olderK]
      | 1, _ => simp [go_sem, olderK]
      | 2, _ => simp [go_sem, olderK]
      | 3, _ => simp [go_sem, olderK]
    · exact HS.out.below (hb4 _ _ _ _)
  case assign =>
    rintro l pre t W K hI hK
    gi_wp2
    have hal : Below W.heap.size W (W.alloc (.cells #[.int .i64 t.1.z, .int .i64 t.1.c, .int .i64 t.1.r] 24)) := (Below.refl _ _).alloc (Nat.le_refl _) _
    exact hK _ _ ((KeepsOthers.alloc _ _).from _) ⟨hal.size, fun o v e => (hal.cell (p := ⟨w.heap.size + 1 + 1 + 1, o, none⟩) hI.big).trans e⟩ (hI.below hal) ⟨W.heap.size, hI.big, K3.new _ _ _ _ _, rfl⟩
  case body =>
    rintro l pre t a' W hl hr hI ⟨Bv, hBv, hk3, rfl⟩ hlen
    obtain ⟨t, hg⟩ := t
    dsimp only at hk3 ⊢
    have HI : Hid (FgI A so w.heap.size a n cap bs vs S w (pre.map Subtype.val) W) := hI
    have hBvlt : Bv < W.heap.size := World.block_lt_of_cell? W _ hk3.c0
    have HSq : Hid (∀ W' : World, Calls Tryz.prog 93 #[.agg #[.int .i64 t.z, .int .i64 t.c, .int .i64 t.r]] W' fun e w' => e = .returned (bxV (squareZ t)) ∧ Below W'.heap.size W' w') := fun W' => Square_good hg W'
    have HCq : Hid (∀ W' : World, Below W.heap.size W W' → Calls Tryz.prog 223 #[.slice a n cap, .func (.func 158) #[bxV (squareZ t)] #[]] W' fun e w' => e = .returned (.bool (hitT bs t)) ∧ Below W'.heap.size W' w') := fun W' hW' => HCt.out t W' (hI.fr.trans (Fr.of_below hW'))
    obtain ⟨tz, htz⟩ : ∃ q, t.z = q := ⟨_, rfl⟩
    obtain ⟨tc, htc⟩ : ∃ q, t.c = q := ⟨_, rfl⟩
    obtain ⟨tr, htr⟩ : ∃ q, t.r = q := ⟨_, rfl⟩
    obtain ⟨sq, hsq⟩ : ∃ q, bxV (squareZ t) = q := ⟨_, rfl⟩
    have HOf : Hid (∀ W' : World, Calls Tryz.prog 202 #[.pointer (some ⟨A, so, none⟩), .agg #[.int .i64 tz, .int .i64 tc, .int .i64 tr]] W' fun e w' => e = .returned (.pointer (some ⟨A, so + 1 + shN t * 2, none⟩)) ∧ Below W'.heap.size W' w') := fun W' => by rw [← htz, ← htc, ← htr]; exact of_any A so t (good_ok hg) W'
    have HNm : Hid (∀ W' : World, Calls Tryz.prog 217 #[.agg #[.int .i64 tz, .int .i64 tc, .int .i64 tr]] W' fun e w' => e = .returned (.int .i64 ((shN t : Nat) : Int)) ∧ Below W'.heap.size W' w') := fun W' => by rw [← htz, ← htc, ← htr]; exact number_good (good_ok hg) W'
    have HTk : Hid (∀ (v : Value) (ks : List Kp) (W' : World), ShAt W' A (so + 1 + shN t * 2) v ks → Calls Tryz.prog 203 #[.pointer (some ⟨A, so + 1 + shN t * 2, none⟩), .agg #[.int .i64 tz, .int .i64 tc, .int .i64 tr]] W' fun e w' => ∃ s q, e = .returned (.tuple #[.string s, .bool q]) ∧ ∃ v', ShAt w' A (so + 1 + shN t * 2) v' (dropT t ks) ∧ v'.ownBlock = v.ownBlock ∧ Fr (ShM A (so + 1 + shN t * 2) v) W' w') := fun v ks W' h => by rw [← htz, ← htc, ← htr]; exact take_any A _ t v ks W' h
    rw [htz, htc, htr] at HSq hk3
    rw [hsq] at HSq HCq
    obtain ⟨k0, k1, k2, _, _, _⟩ := hk3
    have c0 := hI.c0
    have c1 := hI.c1
    have l0 : w.heap.size < W.heap.size := World.block_lt_of_cell? W _ c0
    have l1 : w.heap.size + 1 < W.heap.size := World.block_lt_of_cell? W _ c1
    have l2 : w.heap.size + 1 + 1 < W.heap.size := by have := hI.big; omega
    have l3 := hI.big
    obtain ⟨o1, o2⟩ := hI.old (shN t) (shN_lt t)
    have hlt4 : (shN t : Int) < 4 := by have := shN_lt t; omega
    have hge0 : (0 : Int) ≤ (shN t : Int) := by omega
    clear hI
    rw [htz, htc, htr]
    obtain ⟨q, hq⟩ : ∃ q, hitT bs t = q := ⟨_, rfl⟩
    rw [hq] at HCq
    have HQ : Hid (hitT bs t = q) := hq
    clear hq
    have hdr : Below W.heap.size W W.drew := (Below.refl _ W).drew
    cases q with
    | false =>
      gi_wp2_with fail
      gi_region_with (first
        | (refine ⟨trivial, ?_⟩; gi_at_call 93; refine (CallsIn.inRound l (callsIn_wide.2 (HSq.out _))).mono ?_; rintro e w2 ⟨rfl, hb2⟩; dsimp only; have hB2 : Below W.heap.size W w2 := hdr.trans hb2; have p1 := (hB2.cell (p := ⟨w.heap.size + 1, 0, none⟩) l1).trans c1)
        | (refine ⟨trivial, ?_⟩; gi_at_call 223; refine (CallsIn.inRound l (callsIn_wide.2 (HCq.out _ hB2))).mono ?_; rintro e w3 ⟨rfl, hb3⟩; dsimp only))
      all_goals
        gi_wp2
        have hB3 : Below W.heap.size W w3 := hB2.trans (hb3.mono hB2.size)
        refine ⟨KeepsFrom.of_grownBy (grown_of_below hB3) (fun j e => by cases e), ⟨hB3.size, fun o v e => (hB3.cell (p := ⟨w.heap.size + 1 + 1 + 1, o, none⟩) l3).trans e⟩, ?_⟩
        show FgI A so w.heap.size a n cap bs vs S w ((pre ++ [(⟨t, hg⟩ : { t : Tl // t.good })]).map Subtype.val) w3
        rw [List.map_append]
        exact HI.out.miss hB3 HQ.out
    | true =>
      obtain ⟨vs', hsh, hvs'⟩ := HI.out.sh
      have HSh : Hid (ShsAt W A so vs' (fgS bs S (pre.map Subtype.val))) := hsh
      have HVs : Hid (∀ k, k < 4 → (vs' k).ownBlock = (vs k).ownBlock) := hvs'
      have hnm : ∀ b i, w.heap.size ≤ b → ¬ ShM A (so + 1 + shN t * 2) (vs' (shN t)) b i := fun b i hb e => by
        rcases e with ⟨rfl, _⟩ | e
        · omega
        · have := hvs _ b (shN_lt t) ((HVs.out _ (shN_lt t)).symm.trans e); omega
      clear hsh hvs'
      gi_wp2_with fail
      gi_region_with (first
        | (refine ⟨trivial, ?_⟩; gi_at_call 93; refine (CallsIn.inRound l (callsIn_wide.2 (HSq.out _))).mono ?_; rintro e w2 ⟨rfl, hb2⟩; dsimp only; have hB2 : Below W.heap.size W w2 := hdr.trans hb2; have p1 := (hB2.cell (p := ⟨w.heap.size + 1, 0, none⟩) l1).trans c1)
        | (refine ⟨trivial, ?_⟩; gi_at_call 223; refine (CallsIn.inRound l (callsIn_wide.2 (HCq.out _ hB2))).mono ?_; rintro e w3 ⟨rfl, hb3⟩; dsimp only))
      all_goals
        have hB3 : Below W.heap.size W w3.drew := (hB2.trans (hb3.mono hB2.size)).drew
        have d0 := (hB3.cell (p := ⟨w.heap.size, 0, none⟩) l0).trans c0
        have e0 := (hB3.cell (p := ⟨Bv, 0, none⟩) hBvlt).trans k0
        have e1 := (hB3.cell (p := ⟨Bv, 1, none⟩) hBvlt).trans k1
        have e2 := (hB3.cell (p := ⟨Bv, 2, none⟩) hBvlt).trans k2
        gi_wp2_with fail
        gi_region_with (first
          | (refine ⟨trivial, ?_⟩; gi_at_call 202; refine (CallsIn.inRound l (callsIn_wide.2 (HOf.out _))).mono ?_; rintro e w4 ⟨rfl, hb4'⟩; dsimp only; have hB4 : Below W.heap.size W w4 := hB3.trans (hb4'.mono hB3.size); have r0 := (hB4.cell (p := ⟨Bv, 0, none⟩) hBvlt).trans k0; have r1 := (hB4.cell (p := ⟨Bv, 1, none⟩) hBvlt).trans k1; have r2 := (hB4.cell (p := ⟨Bv, 2, none⟩) hBvlt).trans k2)
          | (refine ⟨trivial, ?_⟩; gi_at_call 203; refine (CallsIn.inRound l (callsIn_wide.2 (HTk.out _ _ _ ((HSh.out.sh (shN t) (shN_lt t)).below hB4)))).mono ?_; rintro e w5 ⟨s5, q5, rfl, v5, h5, hv5, hf5⟩; dsimp only; have HF5 : Hid _ := hf5; have H5 : Hid _ := h5; have x0 := (hf5.cell Bv 0 (Nat.lt_of_lt_of_le hBvlt hB4.size) (hnm _ _ (by omega))).trans r0; have x1 := (hf5.cell Bv 1 (Nat.lt_of_lt_of_le hBvlt hB4.size) (hnm _ _ (by omega))).trans r1; have x2 := (hf5.cell Bv 2 (Nat.lt_of_lt_of_le hBvlt hB4.size) (hnm _ _ (by omega))).trans r2; have y1 := ((hf5.cell (w.heap.size + 1 + 1) (shN t) (Nat.lt_of_lt_of_le l2 hB4.size) (hnm _ _ (by omega))).trans (hB4.cell (p := ⟨w.heap.size + 1 + 1, shN t, none⟩) l2)).trans o1; have y2 := ((hf5.frozen (w.heap.size + 1 + 1) (shN t) (Nat.lt_of_lt_of_le l2 hB4.size) (hnm _ _ (by omega))).trans (hB4.frozen (p := ⟨w.heap.size + 1 + 1, shN t, none⟩) l2)).trans o2; have l5 : w.heap.size + 1 + 1 < w5.heap.size := Nat.lt_of_lt_of_le l2 (Nat.le_trans hB4.size hf5.size); clear hf5 h5))
        all_goals
          gi_wp2_with (refine ⟨trivial, ?_⟩; gi_at_call 217; refine (CallsIn.inRound l (callsIn_wide.2 (HNm.out _))).mono ?_; rintro e w6 ⟨rfl, hb6⟩; dsimp only; have z1 := (hb6.cell (p := ⟨w.heap.size + 1 + 1, shN t, none⟩) l5).trans y1; have z2 := (hb6.frozen (p := ⟨w.heap.size + 1 + 1, shN t, none⟩) l5).trans y2)
          refine ⟨?_, ?_, ?_⟩
          · refine ((KeepsFrom.of_grownBy (grown_of_below hB4) (fun j e => by cases e)).trans ((KeepsFrom.fr HF5.out (fun b i e => ?_) (Nat.le_refl _)).trans (KeepsFrom.of_grownBy (grown_of_below hb6) (fun j e => by cases e)))).trans ((KeepsOthers.setCell _ _ _).from _)
            have : ¬ w.heap.size ≤ b := fun h => hnm b i h e
            simp
            omega
          · have hF6 : Fr (ShM A (so + 1 + shN t * 2) (vs' (shN t))) W w6 := ((Fr.of_below hB4).trans HF5.out).trans (Fr.of_below hb6)
            refine ⟨by simp [World.setCell]; exact hF6.size, fun o v e => ?_⟩
            exact (cell_ne _ _ (.inl (by omega))).trans ((hF6.cell _ o l3 (hnm _ _ (by omega))).trans e)
          · show FgI A so w.heap.size a n cap bs vs S w ((pre ++ [(⟨t, hg⟩ : { t : Tl // t.good })]).map Subtype.val) _
            rw [List.map_append]
            exact HI.out.hit HQ.out hA hvs (Nat.le_refl _) HSh.out HVs.out hB4 H5.out hv5 HF5.out hb6
  case done =>
    rintro D ys W hD hys hI hK
    have hys' : ys.map Subtype.val = tilesZ z := hys
    rw [hys'] at hI
    clear hys hys'
    have HI : Hid (FgI A so w.heap.size a n cap bs vs S w (tilesZ z) W) := hI
    obtain ⟨vs', hsh, hvs'⟩ := hI.sh
    have HVs : Hid (∀ k, k < 4 → (vs' k).ownBlock = (vs k).ownBlock) := hvs'
    have hD3 : w.heap.size + 1 + 1 + 1 < D := by simp at hD; omega
    have hsh0 : AgI A so w.heap.size z bs vs vs' S w D 0 W := ⟨hI.c0, hI.old, by
      have e : agS z bs S 0 = fgS bs S (tilesZ z) := by simp [agS, fgS]
      rw [e]; exact hsh, hI.fr, hK⟩
    clear hI hsh hvs' hK
    gi_wp2
    gi_loopw [25] (fun i wr => ∃ k : Nat, k ≤ 4 ∧ i = .int .i64 k ∧ AgI A so w.heap.size z bs vs vs' S w D k wr) (fun i _ => 4 - (intOf i).toNat)
    case atStart => exact ⟨0, by omega, rfl, hsh0⟩
    case round =>
      obtain ⟨k, hk, rfl, hag⟩ := hrel
      have HAg : Hid (AgI A so w.heap.size z bs vs vs' S w D k wr) := hag
      by_cases h4 : k < 4
      · have hk4 : (k : Int) < 4 := by omega
        have hk0 : (0 : Int) ≤ (k : Int) := by omega
        obtain ⟨o1, o2⟩ := hag.old k h4
        have c0 := hag.c0
        obtain ⟨q1, q2⟩ := hag.sh.age k h4
        have e : (agS z bs S k).age k = S.age k := by unfold agS; exact if_neg (by omega)
        rw [e] at q1
        clear hag e
        cases hol : olderK bs k (tilesZ z) with
        | false =>
          rw [hol] at o1
          gi_wp2
          exact ⟨⟨k + 1, by omega, by go_num, HAg.out.skip hol⟩, by simp [intOf]; omega⟩
        | true =>
          rw [hol] at o1
          have hAlt : A < wr.heap.size := World.block_lt_of_cell? wr _ q1
          gi_wp2_with fail
          gi_region
          all_goals
            gi_wp2
            refine ⟨⟨k + 1, by omega, by go_num, ?_⟩, by simp [intOf]; omega⟩
            have h1 : AgI A so w.heap.size z bs vs vs' S w D (k + 1) (wr.setCell ⟨A, so + 1 + k * 2 + 1, none⟩ (.int .i64 (wrap64 (S.age k + 1)))) := wrapE (S.age k + 1) ▸ HAg.out.step hol h4 hA (by omega) (fun j g hj e e' => by
              have h2 := HAg.out.sh.sh j hj
              exact h2.ne (by rw [e, e']))
            exact ⟨h1.c0, h1.old, h1.sh.below ((Below.refl _ _).drew), h1.fr.drew, h1.hK⟩
      · obtain rfl : k = 4 := by omega
        gi_wp2
        have hK4 := HAg.out.hK
        have hg4 := grownBy_putObj' wr D (.deferred none)
        refine ⟨by simp, .inl ⟨_, _, rfl, run_takeDeferred hK4, ?_⟩⟩
        refine ⟨.tuple #[], by simp [results, Tryz.results206, go_sem], rfl, vs', ?_, HVs.out, HAg.out.fr.grown hg4 (fun r e => by cases e; omega)⟩
        rw [forgetS_ag]
        exact HAg.out.sh.grown hg4 (fun r e => by cases e; exact ⟨_, hK4, rfl⟩)
  case stop =>
    rintro D c pre W _ _ h _
    exact h.elim

end Go.Proofs.YtenaepdmlknlcaaGreatDoor

namespace Go.Proofs.YtenaepdmlknlcaaGreatDoor
open Go.RowKit Go.Shelf

def flatT : List Tl → List Value
  | [] => []
  | t :: ts => .int .i64 t.z :: .int .i64 t.c :: .int .i64 t.r :: flatT ts
theorem flatT_append (a b : List Tl) : flatT (a ++ b) = flatT a ++ flatT b := by
  induction a with
  | nil => rfl
  | cons t ts ih => simp [flatT, ih]
theorem info24 : (Tryz.prog.info? 24).map (fun i => (i.zero, i.size, i.bytes)) = some (some (.agg #[.int .i64 0, .int .i64 0, .int .i64 0]), 3, 24) := by kernel_rfl

set_option maxRecDepth 100000 in
set_option maxHeartbeats 1000000 in
/-- The tiles that a shard keeps. -/
theorem Tiles_any (A so q : Nat) (v : Value) (ks : List Kp) (w : World) (hq : q < 4) (h : ShAt w A (so + 1 + q * 2) v ks) :
    Calls Tryz.prog 51 #[.pointer (some ⟨A, so, none⟩), .int .i64 (q : Int)] w fun e w' => ∃ v' : Value, e = .returned v' ∧ w'.ownsRow w.heap.size 24 3 v' ks.length (flatT (ks.map (·.t))) ∧ Below w.heap.size w w' := by
  obtain ⟨hc, hf, own, hne, hlt⟩ := h
  have hq4 : (q : Int) < 4 := by omega
  have hq0 : (0 : Int) ≤ (q : Int) := by omega
  obtain ⟨a, cap, rfl, ha, hcap⟩ : ∃ (a : Option Addr) (cap : Nat), v = .slice a ks.length cap ∧ (ks = [] ∨ ∃ g, a = some ⟨g, 0, none⟩ ∧ g < w.heap.size ∧ KepAt w g ks) ∧ ks.length ≤ cap := by
    rcases own.2 with ⟨e1, e2⟩ | ⟨g, cap, cur, e1, _, e3, e4, _⟩
    · exact ⟨none, 0, by rw [e2]; exact e1, .inl (List.length_eq_zero_iff.1 e2), by omega⟩
    · subst e1
      exact ⟨_, cap, rfl, .inr ⟨g, rfl, (Array.getElem?_eq_some_iff.1 e3).1, KepAt.own own⟩, e4⟩
  obtain ⟨n, hn⟩ : ∃ n, ks.length = n := ⟨_, rfl⟩
  rw [hn] at hc hcap
  have Hn : Hid (n = ks.length) := hn.symm
  have HA : Hid (ks = [] ∨ ∃ g, a = some ⟨g, 0, none⟩ ∧ g < w.heap.size ∧ KepAt w g ks) := ha
  have hn9 : n ≤ 1000 := by omega
  obtain ⟨i24, hi0, hz0, hz1, hz2⟩ := info_parts info24
  have HI : Hid (Tryz.prog.info? 24 = some i24 ∧ i24.zero = some (.agg #[.int .i64 0, .int .i64 0, .int .i64 0]) ∧ i24.size = 3 ∧ i24.bytes = 24) := ⟨hi0, hz0, hz1, hz2⟩
  rw [hn]
  clear own hne hf hn ha hlt hi0 hz0 hz1 hz2
  go_enter Tryz.func51, Tryz.ntmps51
  go_wp2
  go_loopw [5, 16] (fun out i wr => ∃ k : Nat, k ≤ n ∧ i = .int .i64 k ∧ wr.ownsRow w.heap.size 24 3 out k (flatT ((ks.take k).map (·.t))) ∧ Below w.heap.size w wr) (fun _ i _ => n - (intOf i).toNat)
  case atStart => exact ⟨0, Nat.zero_le _, rfl, World.ownsRow_nil _ _ _ _, Below.refl _ _⟩
  case round =>
    obtain ⟨k, hk, rfl, hown, hB⟩ := hrel
    have Hown : Hid (wr.ownsRow w.heap.size 24 3 u5 k (flatT ((ks.take k).map (·.t)))) := hown
    clear hown
    by_cases hlt : k < n
    · obtain ⟨x, hx⟩ : ∃ x, ks[k]? = some x := ⟨ks[k]'(by have := Hn.out; omega), List.getElem?_eq_getElem _⟩
      rcases HA.out with h | ⟨g, rfl, hg, hkep⟩
      · rw [h] at hx; cases hx
      obtain ⟨p0, p1, p2, p3⟩ := hkep k x hx
      have r0 := (hB.cell (p := ⟨g, k * 4, none⟩) hg).trans p0
      have r1 := (hB.cell (p := ⟨g, k * 4 + 1, none⟩) hg).trans p1
      have r2 := (hB.cell (p := ⟨g, k * 4 + 2, none⟩) hg).trans p2
      have r3 := (hB.cell (p := ⟨g, k * 4 + 3, none⟩) hg).trans p3
      have HX : Hid (flatT ((ks.take (k + 1)).map (·.t)) = flatT ((ks.take k).map (·.t)) ++ [.int .i64 x.t.z, .int .i64 x.t.c, .int .i64 x.t.r]) := by
        show flatT _ = _
        rw [List.take_add_one, hx, List.map_append, flatT_append]; rfl
      have hkI : (k : Int) < (n : Int) := by omega
      have hk0 : (0 : Int) ≤ (k : Int) := by omega
      clear p0 p1 p2 p3 hkep hx
      go_wp2_with (at_builtin; refine wpList_append_own _ rfl (.tmp 20) (.tmp 23) 80 rfl w.heap.size 24 i24 (.agg #[.int .i64 0, .int .i64 0, .int .i64 0]) 3 24 Tryz.underlying80 HI.out.1 HI.out.2.1 HI.out.2.2.1 HI.out.2.2.2 rfl (by decide) u5 k (flatT ((ks.take k).map (·.t))) rfl ((Hown.out.alloc _).alloc _) ⟨wr.heap.size + 1, 0, none⟩ 1 1 [.int .i64 x.t.z, .int .i64 x.t.c, .int .i64 x.t.r] rfl rfl (fun j u hj => by
        rw [addr_add]
        match j, hj with
        | 0, hj => simp at hj; subst hj; simp [go_sem]
        | 1, hj => simp at hj; subst hj; simp [go_sem]
        | 2, hj => simp at hj; subst hj; simp [go_sem]
        | j + 3, hj => simp at hj) (fun u hu => by simp at hu; rcases hu with hu | hu | hu <;> (subst hu; rfl)) (by unfold maxLen; omega) (by omega) (by have := hB.size; simp; omega) ?_; intro v3 w3 hown3 hgrow3 _; have hB3 : Below w.heap.size w w3 := (((hB.alloc hB.size _).alloc (by have := hB.size; simp; omega) _)).grown hgrow3 (by have := hB.size; simp; omega) (fun k hk => (Hown.out.lt k hk).1); have Hown3 : Hid _ := hown3; clear hown3 hgrow3)
      go_roundw
      case rel => exact ⟨k + 1, by omega, by go_num, by rw [HX.out]; exact Hown3.out, hB3⟩
      case measure => simp [intOf]; omega
    · obtain rfl : k = n := by omega
      have hd : decide ((k : Int) < (k : Int)) = false := by simp
      have HT : Hid (ks.take k = ks) := by show ks.take k = ks; rw [Hn.out, List.take_length]
      have hown := Hown.out
      rw [HT.out] at hown
      have Hown' : Hid _ := hown
      clear Hown hown
      obtain ⟨u, rfl⟩ : ∃ u, u = u5 := ⟨_, rfl⟩
      go_wp2
      go_ret
      exact ⟨_, rfl, Hown'.out, hB⟩

end Go.Proofs.YtenaepdmlknlcaaGreatDoor

namespace Go.Proofs.YtenaepdmlknlcaaGreatDoor
open Go.RowKit Go.Shelf

set_option maxRecDepth 100000 in
set_option maxHeartbeats 1000000 in
/-- What a shard keeps, told. -/
theorem Kept_any (A q : Nat) (v : Value) (ks : List Kp) (w : World) (hq : q < 4) (h : ShAt w A (2 + 1 + q * 2) v ks) :
    Calls Tryz.prog 27 #[.pointer (some ⟨A, 0, none⟩), .int .i64 (q : Int)] w fun e w' => ∃ (a : Option Addr) (n cap : Nat), e = .returned (.tuple #[.slice a n cap, .int .i64 0]) ∧ n = ks.length ∧ w'.ownsRow w.heap.size 24 3 (.slice a n cap) n (flatT (ks.map (·.t))) ∧ Below w.heap.size w w' := by
  have hq4 : (q : Int) < 4 := by omega
  have hq0 : (0 : Int) ≤ (q : Int) := by omega
  have HT : Hid (∀ W : World, Below w.heap.size w W → Calls Tryz.prog 51 #[.pointer (some ⟨A, 2, none⟩), .int .i64 (q : Int)] W fun e w' => ∃ (a : Option Addr) (n cap : Nat), e = .returned (.slice a n cap) ∧ n = ks.length ∧ w'.ownsRow w.heap.size 24 3 (.slice a n cap) n (flatT (ks.map (·.t))) ∧ Below w.heap.size w w') := fun W hW => by
    refine (Tiles_any A 2 q v ks W hq (h.below hW)).mono ?_
    rintro e w' ⟨v', rfl, hown, hb⟩
    have hB := hW.trans (hb.mono hW.size)
    rcases hown.2 with ⟨e1, e2⟩ | ⟨g, cap, cur, e1, e2, e3, e4, e5⟩
    · subst e1
      exact ⟨none, 0, 0, rfl, e2.symm, ⟨by rw [hown.1, e2], .inl ⟨rfl, rfl⟩⟩, hB⟩
    · subst e1
      exact ⟨_, _, cap, rfl, rfl, ⟨hown.1, .inr ⟨g, cap, cur, rfl, Nat.le_trans hW.size e2, e3, e4, e5⟩⟩, hB⟩
  clear h
  go_enter Tryz.func27, Tryz.ntmps27
  go_wp2_with (go_at_call 51; refine Calls.mono (HT.out _ (Below.refl _ _)) ?_; rintro e w1 ⟨a, n, cap, rfl, hn, hown, hb⟩; dsimp only; have HO : Hid _ := hown; have HN : Hid (n = ks.length) := hn; clear hown hn)
  exact bodyPost_ret (v := .tuple #[.slice a n cap, .int .i64 0]) (by simp [results, Tryz.results27, go_sem]) rfl ⟨a, n, cap, rfl, HN.out, HO.out, hb⟩

end Go.Proofs.YtenaepdmlknlcaaGreatDoor
