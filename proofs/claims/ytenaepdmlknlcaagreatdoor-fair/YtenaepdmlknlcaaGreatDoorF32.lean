import Derived.Test.YtenaepdmlknlcaaGreatDoorF31
namespace Go.Proofs.YtenaepdmlknlcaaGreatDoor
open Go.RowKit Go.Shelf

theorem info29 : (Tryz.prog.info? 29).map (fun i => (i.zero, i.size, i.bytes)) = some (some (.agg #[.int .i64 0, .int .i64 0]), 2, 16) := by kernel_rfl
theorem raw_i64 {q : Rq} (h : RqOk q) (k : Nat) : i64 (rawAt q k) := by
  unfold rawAt
  rw [List.getD_eq_getElem?_getD]
  cases e : q.ps[k]? with
  | none => exact ⟨by simp, by simp⟩
  | some x => exact h.ps x (List.mem_of_getElem? e)
theorem raw_get {q : Rq} {k : Nat} {r : Int} (h : rawAt q k = r) (hk : k < q.ps.length) : q.ps[k]? = some r := by
  unfold rawAt at h
  rw [List.getD_eq_getElem?_getD, List.getElem?_eq_getElem hk] at h
  rw [List.getElem?_eq_getElem hk, ← h]; rfl
theorem nPl_le (q : Rq) : nPl q ≤ 6 := by
  have h := pkZ_bd q.b 3 (by decide)
  unfold nPl
  dsimp only
  split
  · split <;> omega
  · omega
/-- A feature that is being made: k of its places are there. -/
def FtI (q : Rq) (n0 : Nat) (x y z u : Int) (pv : Value) (w : World) (k : Nat) (W : World) : Prop :=
  ∃ v : Value, W.cell? ⟨n0 + 1 + 1, 0, none⟩ = some (.int .i64 x) ∧ W.cell? ⟨n0 + 1 + 1, 1, none⟩ = some (.int .i64 y) ∧ W.cell? ⟨n0 + 1 + 1, 2, none⟩ = some (.int .i64 z) ∧ W.cell? ⟨n0 + 1 + 1, 3, none⟩ = some (.int .i64 u) ∧ W.cell? ⟨n0 + 1 + 1, 4, none⟩ = some v ∧ W.frozen? ⟨n0 + 1 + 1, 4, none⟩ = false ∧ Q5 W (n0 + 1) (.int .i64 0) (.int .i64 0) (.int .i64 0) (.int .i64 0) (.slice none 0 0) ∧ W.cell? ⟨n0, 5, none⟩ = some pv ∧ W.ownsRow (n0 + 3) 29 2 v k (flatP ((List.range k).map fun i => placeZ (rawAt q i))) ∧ Below n0 w W

theorem nPl_pos (q : Rq) : 1 ≤ nPl q := by
  have h := pkZ_bd q.b 3 (by decide)
  unfold nPl
  dsimp only
  split
  · split <;> omega
  · omega
theorem PlacesOf {wr V : World} {base g n cap : Nat} {ps : Pts} (h : wr.ownsRow base 29 2 (.slice (some ⟨g, 0, none⟩) n cap) n (flatP ps)) (hn : n = ps.length) {b : Nat} (_hb : Below b wr V) (hf : Fr (OfB b) wr V) (hg : g ≠ b) : Places V.heap.size V g 0 ps := by
  have hg1 := (h.lt g rfl).2
  refine ⟨Nat.lt_of_lt_of_le hg1 hf.size, fun k x y e => ?_⟩
  have hk := (List.getElem?_eq_some_iff.1 e).1
  have hget : ∀ (ps : Pts) (k : Nat) (x y : Int), ps[k]? = some (x, y) → (flatP ps)[k * 2]? = some (.int .i64 x) ∧ (flatP ps)[k * 2 + 1]? = some (.int .i64 y) := by
    intro ps
    induction ps with
    | nil => intro k x y e; simp at e
    | cons p r ih =>
      intro k x y e
      cases k with
      | zero => simp at e; subst e; exact ⟨rfl, rfl⟩
      | succ k =>
        have := ih k x y (by simpa using e)
        rw [show (k + 1) * 2 = k * 2 + 2 by omega]
        exact this
  obtain ⟨h1, h2⟩ := hget ps k x y e
  rw [Nat.zero_add]
  have hc : ∀ i, V.cell? ⟨g, i, none⟩ = wr.cell? ⟨g, i, none⟩ := fun i => hf.cell g i hg1 (fun e => hg e)
  rw [hc, hc]
  exact ⟨(h.cellAt (k * 2) (by omega)).trans h1, (h.cellAt (k * 2 + 1) (by omega)).trans h2⟩
theorem FtI.step {q : Rq} {n0 : Nat} {x y z u : Int} {pv : Value} {w : World} {k : Nat} {W w3 : World} (h : FtI q n0 x y z u pv w k W) (hb : Below (n0 + 3) W w3) {g c : Nat} (hown : w3.ownsRow (n0 + 3) 29 2 (.slice (some ⟨g, 0, none⟩) (k + 1) c) (k + 1) (flatP ((List.range (k + 1)).map fun i => placeZ (rawAt q i)))) : FtI q n0 x y z u pv w (k + 1) (w3.setCell ⟨n0 + 1 + 1, 4, none⟩ (.slice (some ⟨g, 0, none⟩) (k + 1) c)) := by
  obtain ⟨v, m0, m1, m2, m3, m4, g4, mres, m5, mown, mB⟩ := h
  have hc : ∀ b i, b < n0 + 3 → w3.cell? ⟨b, i, none⟩ = W.cell? ⟨b, i, none⟩ := fun b i h => hb.cell (p := ⟨b, i, none⟩) h
  have hf : ∀ b i, b < n0 + 3 → w3.frozen? ⟨b, i, none⟩ = W.frozen? ⟨b, i, none⟩ := fun b i h => hb.frozen (p := ⟨b, i, none⟩) h
  have hgb : n0 + 3 ≤ g := (hown.lt g rfl).1
  refine ⟨_, (cell_ne _ _ (.inr (by omega))).trans ((hc _ _ (by omega)).trans m0), (cell_ne _ _ (.inr (by omega))).trans ((hc _ _ (by omega)).trans m1), (cell_ne _ _ (.inr (by omega))).trans ((hc _ _ (by omega)).trans m2), (cell_ne _ _ (.inr (by omega))).trans ((hc _ _ (by omega)).trans m3), cell_eq ((hc _ _ (by omega)).trans m4) _, by rw [World.frozen?_setCell]; exact (hf _ _ (by omega)).trans g4, ?_, (cell_ne _ _ (.inl (by omega))).trans ((hc _ _ (by omega)).trans m5), ?_, (mB.trans (hb.mono (by omega))).trans (below_set1 _ _ _ _ (by omega) _)⟩
  · exact (mres.below hb (by omega)).below (below_set1 (n0 + 1 + 1) w3 (n0 + 1 + 1) 4 (Nat.le_refl _) _) (by omega)
  · exact ownsRow_fr' (frB (n0 + 1 + 1) w3 4 _) hown (fun b i e e' => by cases e; have : g = n0 + 1 + 1 := e'; omega)

set_option maxRecDepth 100000 in
set_option maxHeartbeats 2000000 in
theorem qfeat_any (q : Rq) (hq : RqOk q) (pa : Option Addr) (pn pc : Nat) (w : World) (hr : RawAt w pa pn q.ps) :
    Calls Tryz.prog 47 #[rqV q (.slice pa pn pc)] w fun e w' => ∃ (b cap : Nat), e = .returned (.agg #[.int .i64 (featZ q).id, .int .i64 (featZ q).kd, .int .i64 (featZ q).ht, .int .i64 (featZ q).col, .slice (some ⟨b, 0, none⟩) (featZ q).ps.length cap]) ∧ w.heap.size ≤ b ∧ (featZ q).ps.length ≤ cap ∧ Places w'.heap.size w' b 0 (featZ q).ps ∧ Below w.heap.size w w' := by
  have HC1 : Hid (∀ W : World, Calls Tryz.prog 28 #[.int .i64 q.a, .int .i64 6] W fun e w' => e = .returned (.int .i64 (pkZ q.a 6)) ∧ w' = W) := fun W => kpick_any q.a 6 hq.a (by decide) (by decide) W
  have HC2 : Hid (∀ W : World, Calls Tryz.prog 28 #[.int .i64 q.b, .int .i64 3] W fun e w' => e = .returned (.int .i64 (pkZ q.b 3)) ∧ w' = W) := fun W => kpick_any q.b 3 hq.b (by decide) (by decide) W
  have HC3 : Hid (∀ W : World, Calls Tryz.prog 28 #[.int .i64 q.c, .int .i64 19] W fun e w' => e = .returned (.int .i64 (pkZ q.c 19)) ∧ w' = W) := fun W => kpick_any q.c 19 hq.c (by decide) (by decide) W
  have HC4 : Hid (∀ W : World, Calls Tryz.prog 28 #[.int .i64 q.d, .int .i64 9] W fun e w' => e = .returned (.int .i64 (pkZ q.d 9)) ∧ w' = W) := fun W => kpick_any q.d 9 hq.d (by decide) (by decide) W
  obtain ⟨a0, a1⟩ := pkZ_bd q.a 6 (by decide)
  obtain ⟨b0, b1⟩ := pkZ_bd q.b 3 (by decide)
  obtain ⟨c0, c1⟩ := pkZ_bd q.c 19 (by decide)
  obtain ⟨d0, d1⟩ := pkZ_bd q.d 9 (by decide)
  have HF : Hid ((featZ q).id = 1 + pkZ q.a 6 ∧ (featZ q).kd = 1 + pkZ q.b 3 ∧ (featZ q).ht = pkZ q.c 19 - 9 ∧ (featZ q).col = 1 + pkZ q.d 9) := ⟨rfl, rfl, rfl, rfl⟩
  obtain ⟨x, hx⟩ : ∃ x, pkZ q.a 6 = x := ⟨_, rfl⟩
  obtain ⟨y, hy⟩ : ∃ x, pkZ q.b 3 = x := ⟨_, rfl⟩
  obtain ⟨z, hz⟩ : ∃ x, pkZ q.c 19 = x := ⟨_, rfl⟩
  obtain ⟨u, hu⟩ : ∃ x, pkZ q.d 9 = x := ⟨_, rfl⟩
  rw [hx] at HC1 a0 a1 HF
  rw [hy] at HC2 b0 b1 HF
  rw [hz] at HC3 c0 c1 HF
  rw [hu] at HC4 d0 d1 HF
  obtain ⟨qa, hqa⟩ : ∃ x, q.a = x := ⟨_, rfl⟩
  obtain ⟨qb, hqb⟩ : ∃ x, q.b = x := ⟨_, rfl⟩
  obtain ⟨qc, hqc⟩ : ∃ x, q.c = x := ⟨_, rfl⟩
  obtain ⟨qd, hqd⟩ : ∃ x, q.d = x := ⟨_, rfl⟩
  obtain ⟨qk, hqk⟩ : ∃ x, q.k = x := ⟨_, rfl⟩
  rw [hqa] at HC1
  rw [hqb] at HC2
  rw [hqc] at HC3
  rw [hqd] at HC4
  have HR : Hid (RawAt w pa pn q.ps) := hr
  have HQ : Hid (RqOk q) := hq
  have e0 : rqV q (.slice pa pn pc) = .agg #[.int .i64 qk, .int .i64 qa, .int .i64 qb, .int .i64 qc, .int .i64 qd, .slice pa pn pc] := by rw [← hqk, ← hqa, ← hqb, ← hqc, ← hqd]
  rw [e0]
  clear hr hq e0
  go_enter Tryz.func47, Tryz.ntmps47
  have hw1 : IntKind.i64.wrap (1 + x) = 1 + x := by rw [IntKind.wrap_i64]; omega
  have hw2 : IntKind.i64.wrap (1 + y) = 1 + y := by rw [IntKind.wrap_i64]; omega
  have hw3 : IntKind.i64.wrap (z - 9) = z - 9 := by rw [IntKind.wrap_i64]; omega
  have hw4 : IntKind.i64.wrap (1 + u) = 1 + u := by rw [IntKind.wrap_i64]; omega
  have hBq : ∀ o1 o2 o3 : Obj, Below w.heap.size w (((w.alloc o1).alloc o2).alloc o3).drew := fun o1 o2 o3 => ((((Below.refl _ _).alloc (Nat.le_refl _) _).alloc (by simp) _).alloc (by simp; omega) _).drew
  go_wp2_with fail
  go_cut [3] (fun v wc => v = .pointer (some ⟨w.heap.size + 1 + 1, 0, none⟩) ∧ Q5 wc (w.heap.size + 1 + 1) (.int .i64 (1 + x)) (.int .i64 (1 + y)) (.int .i64 (z - 9)) (.int .i64 (1 + u)) (.slice none 0 0) ∧ Q5 wc (w.heap.size + 1) (.int .i64 0) (.int .i64 0) (.int .i64 0) (.int .i64 0) (.slice none 0 0) ∧ wc.cell? ⟨w.heap.size, 5, none⟩ = some (.slice pa pn pc) ∧ Below w.heap.size w wc)
  case first =>
    go_region_held3 (fun w' => w'.cell? ⟨w.heap.size, 1, none⟩ = some (.int .i64 qa) ∧ w'.cell? ⟨w.heap.size, 2, none⟩ = some (.int .i64 qb) ∧ w'.cell? ⟨w.heap.size, 3, none⟩ = some (.int .i64 qc) ∧ w'.cell? ⟨w.heap.size, 4, none⟩ = some (.int .i64 qd)) (first | (simp [go_sem]; done) | (simp [go_sem, *]; done))
      (first
        | (go_at_call_of 28 (Value.int IntKind.i64 qa); refine Calls.mono (HC1.out _) ?_; rintro e w1 ⟨rfl, rfl⟩; dsimp only)
        | (go_at_call_of 28 (Value.int IntKind.i64 qb); refine Calls.mono (HC2.out _) ?_; rintro e w1 ⟨rfl, rfl⟩; dsimp only)
        | (go_at_call_of 28 (Value.int IntKind.i64 qc); refine Calls.mono (HC3.out _) ?_; rintro e w1 ⟨rfl, rfl⟩; dsimp only)
        | (go_at_call_of 28 (Value.int IntKind.i64 qd); refine Calls.mono (HC4.out _) ?_; rintro e w1 ⟨rfl, rfl⟩; dsimp only))
    all_goals
      go_wp2_with fail
      go_meet
      exact ⟨rfl, by constructor <;> simp [go_sem], by constructor <;> simp [go_sem], by simp [go_sem], hBq _ _ _⟩
  case rest =>
    obtain ⟨rfl, q1, q2, c5, hB⟩ := hcut
    have HQ1 : Hid _ := q1
    have HQ2 : Hid _ := q2
    obtain ⟨k0, k1, k2, k3, k4, f0, f1, f2, f3, f4⟩ := q1
    have hpn : Hid (pn = q.ps.length) := HR.out.1
    obtain ⟨i29, hi0, hz0, hz1, hz2⟩ := info_parts info29
    have HI : Hid (Tryz.prog.info? 29 = some i29 ∧ i29.zero = some (.agg #[.int .i64 0, .int .i64 0]) ∧ i29.size = 2 ∧ i29.bytes = 16) := ⟨hi0, hz0, hz1, hz2⟩
    have HFt : Hid (FtI q w.heap.size (1 + x) (1 + y) (z - 9) (1 + u) (.slice pa pn pc) w 0 wc) := ⟨.slice none 0 0, k0, k1, k2, k3, k4, f4, HQ2.out, c5, World.ownsRow_nil _ _ _ _, hB⟩
    clear hi0 hz0 hz1 hz2 q2
    by_cases hy0 : y = 0
    · have hNI : ((nPl q : Nat) : Int) = 1 := by
        unfold nPl
        rw [hy, hy0]
        simp
      subst hy0
      go_upto_region 7 with fail
      go_wp2_with fail
      go_loopw [5] (fun i wr => ∃ k : Nat, k ≤ nPl q ∧ i = .int .i64 k ∧ FtI q w.heap.size (1 + x) (1 + 0) (z - 9) (1 + u) (.slice pa pn pc) w k wr) (fun i _ => nPl q - (intOf i).toNat)
      case atStart => exact ⟨0, Nat.zero_le _, rfl, HFt.out⟩
      case round =>
        obtain ⟨k, hk, rfl, hft⟩ := hrel
        have HFk : Hid (FtI q w.heap.size (1 + x) (1 + 0) (z - 9) (1 + u) (.slice pa pn pc) w k wr) := hft
        obtain ⟨v, m0, m1, m2, m3, m4, g4, mres, m5, mown, mB⟩ := hft
        have HOwn : Hid (wr.ownsRow (w.heap.size + 3) 29 2 v k (flatP ((List.range k).map fun i => placeZ (rawAt q i)))) := mown
        have lF : w.heap.size + 1 + 1 < wr.heap.size := World.block_lt_of_cell? wr _ m4
        clear mown
        by_cases hlt : k < nPl q
        · have hkN : (k : Int) < 1 := by have := hNI; omega
          have hk0 : (0 : Int) ≤ (k : Int) := by omega
          have HPl : Hid (∀ W : World, Calls Tryz.prog 79 #[.int .i64 (rawAt q k)] W fun e w' => e = .returned (.agg #[.int .i64 (placeZ (rawAt q k)).1, .int .i64 (placeZ (rawAt q k)).2]) ∧ Below W.heap.size W w') := fun W => qplace_any (rawAt q k) (raw_i64 HQ.out k) W
          obtain ⟨px, hpx⟩ : ∃ v, (placeZ (rawAt q k)).1 = v := ⟨_, rfl⟩
          obtain ⟨py, hpy⟩ : ∃ v, (placeZ (rawAt q k)).2 = v := ⟨_, rfl⟩
          have HX : Hid (flatP ((List.range (k + 1)).map fun i => placeZ (rawAt q i)) = flatP ((List.range k).map fun i => placeZ (rawAt q i)) ++ [.int .i64 px, .int .i64 py]) := by
            show flatP _ = _
            rw [List.range_succ, List.map_append, flatP_append, ← hpx, ← hpy]; rfl
          rw [hpx, hpy] at HPl
          obtain ⟨r, hr⟩ : ∃ r, rawAt q k = r := ⟨_, rfl⟩
          rw [hr] at HPl
          have hk6 : k < 6 := by have := nPl_le q; omega
          by_cases hkp : k < pn
          · obtain ⟨b, off, rfl, hbl, hcell⟩ := HR.out.2.resolve_left (fun e => by have := hpn.out; rw [e] at this; simp at this; omega)
            have hkc := hcell k r (raw_get hr (by have := hpn.out; omega))
            have hkc' := (mB.cell (p := ⟨b, off + k, none⟩) hbl).trans hkc
            have hkpI : (k : Int) < (pn : Int) := by omega
            clear hcell
            go_wp2_with (first
              | (go_at_call 79; refine Calls.mono (HPl.out _) ?_; rintro e w2 ⟨rfl, hb2⟩; dsimp only; have hs2 := hb2.size; have lF2 : w.heap.size + 1 + 1 < w2.heap.size := Nat.lt_of_lt_of_le lF hs2; have n4 := (hb2.cell (p := ⟨w.heap.size + 1 + 1, 4, none⟩) lF).trans m4; have ng4 := (hb2.frozen (p := ⟨w.heap.size + 1 + 1, 4, none⟩) lF).trans g4; have HO2 : Hid (w2.ownsRow (w.heap.size + 3) 29 2 v k (flatP ((List.range k).map fun i => placeZ (rawAt q i)))) := ownsRow_fr' (M := fun _ _ => False) (Fr.of_below hb2) HOwn.out (fun _ _ _ e => e))
              | (at_builtin; refine wpList_append_own _ rfl (.tmp 59) (.tmp 61) 30 rfl (w.heap.size + 3) 29 i29 (.agg #[.int .i64 0, .int .i64 0]) 2 16 Tryz.underlying30 HI.out.1 HI.out.2.1 HI.out.2.2.1 HI.out.2.2.2 rfl (by decide) v k (flatP ((List.range k).map fun i => placeZ (rawAt q i))) rfl ((HO2.out.alloc _).alloc _) ⟨w2.heap.size + 1, 0, none⟩ 1 1 [.int .i64 px, .int .i64 py] rfl rfl (fun j u hj => by
                  rw [addr_add]
                  match j, hj with
                  | 0, hj => simp at hj; subst hj; simp [go_sem]
                  | 1, hj => simp at hj; subst hj; simp [go_sem]
                  | j + 2, hj => simp at hj) (fun u hu => by simp at hu; rcases hu with hu | hu <;> (subst hu; rfl)) (by unfold maxLen; omega) (by omega) (by have := mB.size; simp; omega) ?_; intro v3 w3 hown3 hgrow3 _; have hb3 : Below (w.heap.size + 3) wr w3 := (((Below.refl _ wr).trans (hb2.mono (by omega))).alloc (by omega) _ |>.alloc (by simp; omega) _).grown hgrow3 (by simp; omega) (fun k hk => (HOwn.out.lt k hk).1); obtain ⟨g3, c3, rfl, hg3, _⟩ := ownsRow_more hown3; have HO3 : Hid (w3.ownsRow (w.heap.size + 3) 29 2 (.slice (some ⟨g3, 0, none⟩) (k + 1) c3) (k + 1) (flatP ((List.range k).map fun i => placeZ (rawAt q i)) ++ [.int .i64 px, .int .i64 py])) := hown3; have s4 := (hb3.cell (p := ⟨w.heap.size + 1 + 1, 4, none⟩) (show w.heap.size + 1 + 1 < w.heap.size + 3 by omega)).trans m4; have sg4 := (hb3.frozen (p := ⟨w.heap.size + 1 + 1, 4, none⟩) (show w.heap.size + 1 + 1 < w.heap.size + 3 by omega)).trans g4; clear hown3 hgrow3))
            exact ⟨⟨k + 1, by omega, by go_num, HFk.out.step hb3 (by rw [HX.out]; exact HO3.out)⟩, by simp [intOf]; omega⟩
          · have hr0 : r = 0 := by
              rw [← hr]
              unfold rawAt
              rw [List.getD_eq_getElem?_getD, List.getElem?_eq_none (by have := hpn.out; omega)]
              rfl
            subst hr0
            have hkpI : ¬ (k : Int) < (pn : Int) := by omega
            go_wp2_with (first
              | (go_at_call 79; refine Calls.mono (HPl.out _) ?_; rintro e w2 ⟨rfl, hb2⟩; dsimp only; have hs2 := hb2.size; have lF2 : w.heap.size + 1 + 1 < w2.heap.size := Nat.lt_of_lt_of_le lF hs2; have n4 := (hb2.cell (p := ⟨w.heap.size + 1 + 1, 4, none⟩) lF).trans m4; have ng4 := (hb2.frozen (p := ⟨w.heap.size + 1 + 1, 4, none⟩) lF).trans g4; have HO2 : Hid (w2.ownsRow (w.heap.size + 3) 29 2 v k (flatP ((List.range k).map fun i => placeZ (rawAt q i)))) := ownsRow_fr' (M := fun _ _ => False) (Fr.of_below hb2) HOwn.out (fun _ _ _ e => e))
              | (at_builtin; refine wpList_append_own _ rfl (.tmp 59) (.tmp 61) 30 rfl (w.heap.size + 3) 29 i29 (.agg #[.int .i64 0, .int .i64 0]) 2 16 Tryz.underlying30 HI.out.1 HI.out.2.1 HI.out.2.2.1 HI.out.2.2.2 rfl (by decide) v k (flatP ((List.range k).map fun i => placeZ (rawAt q i))) rfl ((HO2.out.alloc _).alloc _) ⟨w2.heap.size + 1, 0, none⟩ 1 1 [.int .i64 px, .int .i64 py] rfl rfl (fun j u hj => by
                  rw [addr_add]
                  match j, hj with
                  | 0, hj => simp at hj; subst hj; simp [go_sem]
                  | 1, hj => simp at hj; subst hj; simp [go_sem]
                  | j + 2, hj => simp at hj) (fun u hu => by simp at hu; rcases hu with hu | hu <;> (subst hu; rfl)) (by unfold maxLen; omega) (by omega) (by have := mB.size; simp; omega) ?_; intro v3 w3 hown3 hgrow3 _; have hb3 : Below (w.heap.size + 3) wr w3 := (((Below.refl _ wr).trans (hb2.mono (by omega))).alloc (by omega) _ |>.alloc (by simp; omega) _).grown hgrow3 (by simp; omega) (fun k hk => (HOwn.out.lt k hk).1); obtain ⟨g3, c3, rfl, hg3, _⟩ := ownsRow_more hown3; have HO3 : Hid (w3.ownsRow (w.heap.size + 3) 29 2 (.slice (some ⟨g3, 0, none⟩) (k + 1) c3) (k + 1) (flatP ((List.range k).map fun i => placeZ (rawAt q i)) ++ [.int .i64 px, .int .i64 py])) := hown3; have s4 := (hb3.cell (p := ⟨w.heap.size + 1 + 1, 4, none⟩) (show w.heap.size + 1 + 1 < w.heap.size + 3 by omega)).trans m4; have sg4 := (hb3.frozen (p := ⟨w.heap.size + 1 + 1, 4, none⟩) (show w.heap.size + 1 + 1 < w.heap.size + 3 by omega)).trans g4; clear hown3 hgrow3))
            exact ⟨⟨k + 1, by omega, by go_num, HFk.out.step hb3 (by rw [HX.out]; exact HO3.out)⟩, by simp [intOf]; omega⟩
        · obtain rfl : k = nPl q := by omega
          obtain ⟨N, hN⟩ : ∃ N, nPl q = N + 1 := ⟨nPl q - 1, by have := nPl_pos q; omega⟩
          have hown := HOwn.out
          rw [hN] at hown
          obtain ⟨g, c, rfl⟩ := ownsRow_succ hown
          have hgl := (hown.lt g rfl)
          have hcap : N + 1 ≤ c := by
            rcases hown.2 with ⟨h, _⟩ | ⟨g', c', cur, h, _, _, hle, _⟩
            · cases h
            · cases h; exact hle
          have HO : Hid (wr.ownsRow (w.heap.size + 3) 29 2 (.slice (some ⟨g, 0, none⟩) (N + 1) c) (N + 1) (flatP (featZ q).ps)) := by
            show wr.ownsRow _ _ _ _ _ _
            rw [← hN] at hown ⊢
            exact hown
          have hlenP : (featZ q).ps.length = N + 1 := by rw [← hN]; simp [featZ]
          have hkN : ¬ ((nPl q : Nat) : Int) < 1 := by have := hNI; omega
          have mres' := mres
          obtain ⟨t0, t1, t2, t3, t4, s0, s1, s2, s3, s4⟩ := mres'
          clear hown HOwn
          go_wp2
          have kk := mres.set (.int .i64 (1 + x)) (.int .i64 1) (.int .i64 (z - 9)) (.int .i64 (1 + u)) (.slice (some ⟨g, 0, none⟩) (N + 1) c)
          refine bodyPost_ret (v := .agg #[.int .i64 (1 + x), .int .i64 1, .int .i64 (z - 9), .int .i64 (1 + u), .slice (some ⟨g, 0, none⟩) (N + 1) c]) (by simp [results, Tryz.results47, go_sem, kk.c0, kk.c1, kk.c2, kk.c3, kk.c4]) rfl ⟨g, c, ?_, by omega, by (first | exact hcap | (rw [hlenP]; exact hcap)), ?_, mB.trans (below_set5 w.heap.size wr (w.heap.size + 1) (by omega) _ _ _ _ _)⟩
          · rw [HF.out.1, HF.out.2.1, HF.out.2.2.1, HF.out.2.2.2]; simp []
          · refine PlacesOf (HO.out) (by rw [hlenP]) (below_set5 (w.heap.size + 1) wr (w.heap.size + 1) (Nat.le_refl _) _ _ _ _ _) (fr_set5 (w.heap.size + 1) wr _ _ _ _ _) (by omega)
    · have h1y : (1 : Int) < 1 + y := by omega
      by_cases hlen : 1 + y < (pn : Int)
      · by_cases h6 : (6 : Int) < (pn : Int)
        · have hNI : ((nPl q : Nat) : Int) = 6 := by
            have := hpn.out
            unfold nPl
            rw [hy]
            dsimp only
            rw [if_pos ⟨by omega, by omega⟩, if_pos (by omega)]
            rfl
          go_upto_region 7 with fail
          go_wp2_with fail
          go_loopw [5] (fun i wr => ∃ k : Nat, k ≤ nPl q ∧ i = .int .i64 k ∧ FtI q w.heap.size (1 + x) (1 + y) (z - 9) (1 + u) (.slice pa pn pc) w k wr) (fun i _ => nPl q - (intOf i).toNat)
          case atStart => exact ⟨0, Nat.zero_le _, rfl, HFt.out⟩
          case round =>
            obtain ⟨k, hk, rfl, hft⟩ := hrel
            have HFk : Hid (FtI q w.heap.size (1 + x) (1 + y) (z - 9) (1 + u) (.slice pa pn pc) w k wr) := hft
            obtain ⟨v, m0, m1, m2, m3, m4, g4, mres, m5, mown, mB⟩ := hft
            have HOwn : Hid (wr.ownsRow (w.heap.size + 3) 29 2 v k (flatP ((List.range k).map fun i => placeZ (rawAt q i)))) := mown
            have lF : w.heap.size + 1 + 1 < wr.heap.size := World.block_lt_of_cell? wr _ m4
            clear mown
            by_cases hlt : k < nPl q
            · have hkN : (k : Int) < 6 := by have := hNI; omega
              have hk0 : (0 : Int) ≤ (k : Int) := by omega
              have HPl : Hid (∀ W : World, Calls Tryz.prog 79 #[.int .i64 (rawAt q k)] W fun e w' => e = .returned (.agg #[.int .i64 (placeZ (rawAt q k)).1, .int .i64 (placeZ (rawAt q k)).2]) ∧ Below W.heap.size W w') := fun W => qplace_any (rawAt q k) (raw_i64 HQ.out k) W
              obtain ⟨px, hpx⟩ : ∃ v, (placeZ (rawAt q k)).1 = v := ⟨_, rfl⟩
              obtain ⟨py, hpy⟩ : ∃ v, (placeZ (rawAt q k)).2 = v := ⟨_, rfl⟩
              have HX : Hid (flatP ((List.range (k + 1)).map fun i => placeZ (rawAt q i)) = flatP ((List.range k).map fun i => placeZ (rawAt q i)) ++ [.int .i64 px, .int .i64 py]) := by
                show flatP _ = _
                rw [List.range_succ, List.map_append, flatP_append, ← hpx, ← hpy]; rfl
              rw [hpx, hpy] at HPl
              obtain ⟨r, hr⟩ : ∃ r, rawAt q k = r := ⟨_, rfl⟩
              rw [hr] at HPl
              have hk6 : k < 6 := by have := nPl_le q; omega
              by_cases hkp : k < pn
              · obtain ⟨b, off, rfl, hbl, hcell⟩ := HR.out.2.resolve_left (fun e => by have := hpn.out; rw [e] at this; simp at this; omega)
                have hkc := hcell k r (raw_get hr (by have := hpn.out; omega))
                have hkc' := (mB.cell (p := ⟨b, off + k, none⟩) hbl).trans hkc
                have hkpI : (k : Int) < (pn : Int) := by omega
                clear hcell
                go_wp2_with (first
                  | (go_at_call 79; refine Calls.mono (HPl.out _) ?_; rintro e w2 ⟨rfl, hb2⟩; dsimp only; have hs2 := hb2.size; have lF2 : w.heap.size + 1 + 1 < w2.heap.size := Nat.lt_of_lt_of_le lF hs2; have n4 := (hb2.cell (p := ⟨w.heap.size + 1 + 1, 4, none⟩) lF).trans m4; have ng4 := (hb2.frozen (p := ⟨w.heap.size + 1 + 1, 4, none⟩) lF).trans g4; have HO2 : Hid (w2.ownsRow (w.heap.size + 3) 29 2 v k (flatP ((List.range k).map fun i => placeZ (rawAt q i)))) := ownsRow_fr' (M := fun _ _ => False) (Fr.of_below hb2) HOwn.out (fun _ _ _ e => e))
                  | (at_builtin; refine wpList_append_own _ rfl (.tmp 59) (.tmp 61) 30 rfl (w.heap.size + 3) 29 i29 (.agg #[.int .i64 0, .int .i64 0]) 2 16 Tryz.underlying30 HI.out.1 HI.out.2.1 HI.out.2.2.1 HI.out.2.2.2 rfl (by decide) v k (flatP ((List.range k).map fun i => placeZ (rawAt q i))) rfl ((HO2.out.alloc _).alloc _) ⟨w2.heap.size + 1, 0, none⟩ 1 1 [.int .i64 px, .int .i64 py] rfl rfl (fun j u hj => by
                      rw [addr_add]
                      match j, hj with
                      | 0, hj => simp at hj; subst hj; simp [go_sem]
                      | 1, hj => simp at hj; subst hj; simp [go_sem]
                      | j + 2, hj => simp at hj) (fun u hu => by simp at hu; rcases hu with hu | hu <;> (subst hu; rfl)) (by unfold maxLen; omega) (by omega) (by have := mB.size; simp; omega) ?_; intro v3 w3 hown3 hgrow3 _; have hb3 : Below (w.heap.size + 3) wr w3 := (((Below.refl _ wr).trans (hb2.mono (by omega))).alloc (by omega) _ |>.alloc (by simp; omega) _).grown hgrow3 (by simp; omega) (fun k hk => (HOwn.out.lt k hk).1); obtain ⟨g3, c3, rfl, hg3, _⟩ := ownsRow_more hown3; have HO3 : Hid (w3.ownsRow (w.heap.size + 3) 29 2 (.slice (some ⟨g3, 0, none⟩) (k + 1) c3) (k + 1) (flatP ((List.range k).map fun i => placeZ (rawAt q i)) ++ [.int .i64 px, .int .i64 py])) := hown3; have s4 := (hb3.cell (p := ⟨w.heap.size + 1 + 1, 4, none⟩) (show w.heap.size + 1 + 1 < w.heap.size + 3 by omega)).trans m4; have sg4 := (hb3.frozen (p := ⟨w.heap.size + 1 + 1, 4, none⟩) (show w.heap.size + 1 + 1 < w.heap.size + 3 by omega)).trans g4; clear hown3 hgrow3))
                exact ⟨⟨k + 1, by omega, by go_num, HFk.out.step hb3 (by rw [HX.out]; exact HO3.out)⟩, by simp [intOf]; omega⟩
              · exfalso; have := hNI; omega
            · obtain rfl : k = nPl q := by omega
              obtain ⟨N, hN⟩ : ∃ N, nPl q = N + 1 := ⟨nPl q - 1, by have := nPl_pos q; omega⟩
              have hown := HOwn.out
              rw [hN] at hown
              obtain ⟨g, c, rfl⟩ := ownsRow_succ hown
              have hgl := (hown.lt g rfl)
              have hcap : N + 1 ≤ c := by
                rcases hown.2 with ⟨h, _⟩ | ⟨g', c', cur, h, _, _, hle, _⟩
                · cases h
                · cases h; exact hle
              have HO : Hid (wr.ownsRow (w.heap.size + 3) 29 2 (.slice (some ⟨g, 0, none⟩) (N + 1) c) (N + 1) (flatP (featZ q).ps)) := by
                show wr.ownsRow _ _ _ _ _ _
                rw [← hN] at hown ⊢
                exact hown
              have hlenP : (featZ q).ps.length = N + 1 := by rw [← hN]; simp [featZ]
              have hkN : ¬ ((nPl q : Nat) : Int) < 6 := by have := hNI; omega
              have mres' := mres
              obtain ⟨t0, t1, t2, t3, t4, s0, s1, s2, s3, s4⟩ := mres'
              clear hown HOwn
              go_wp2
              have kk := mres.set (.int .i64 (1 + x)) (.int .i64 (1 + y)) (.int .i64 (z - 9)) (.int .i64 (1 + u)) (.slice (some ⟨g, 0, none⟩) (N + 1) c)
              refine bodyPost_ret (v := .agg #[.int .i64 (1 + x), .int .i64 (1 + y), .int .i64 (z - 9), .int .i64 (1 + u), .slice (some ⟨g, 0, none⟩) (N + 1) c]) (by simp [results, Tryz.results47, go_sem, kk.c0, kk.c1, kk.c2, kk.c3, kk.c4]) rfl ⟨g, c, ?_, by omega, by (first | exact hcap | (rw [hlenP]; exact hcap)), ?_, mB.trans (below_set5 w.heap.size wr (w.heap.size + 1) (by omega) _ _ _ _ _)⟩
              · first | (rw [HF.out.1, HF.out.2.1, HF.out.2.2.1, HF.out.2.2.2, hlenP]; done) | rw [HF.out.1, HF.out.2.1, HF.out.2.2.1, HF.out.2.2.2] | exact rfl
              · refine PlacesOf (HO.out) (by rw [hlenP]) (below_set5 (w.heap.size + 1) wr (w.heap.size + 1) (Nat.le_refl _) _ _ _ _ _) (fr_set5 (w.heap.size + 1) wr _ _ _ _ _) (by omega)
        · have hNI : ((nPl q : Nat) : Int) = (pn : Int) := by
            have := hpn.out
            unfold nPl
            rw [hy]
            dsimp only
            rw [if_pos ⟨by omega, by omega⟩, if_neg (by omega)]
            omega
          go_upto_region 7 with fail
          go_wp2_with fail
          go_loopw [5] (fun i wr => ∃ k : Nat, k ≤ nPl q ∧ i = .int .i64 k ∧ FtI q w.heap.size (1 + x) (1 + y) (z - 9) (1 + u) (.slice pa pn pc) w k wr) (fun i _ => nPl q - (intOf i).toNat)
          case atStart => exact ⟨0, Nat.zero_le _, rfl, HFt.out⟩
          case round =>
            obtain ⟨k, hk, rfl, hft⟩ := hrel
            have HFk : Hid (FtI q w.heap.size (1 + x) (1 + y) (z - 9) (1 + u) (.slice pa pn pc) w k wr) := hft
            obtain ⟨v, m0, m1, m2, m3, m4, g4, mres, m5, mown, mB⟩ := hft
            have HOwn : Hid (wr.ownsRow (w.heap.size + 3) 29 2 v k (flatP ((List.range k).map fun i => placeZ (rawAt q i)))) := mown
            have lF : w.heap.size + 1 + 1 < wr.heap.size := World.block_lt_of_cell? wr _ m4
            clear mown
            by_cases hlt : k < nPl q
            · have hkN : (k : Int) < (pn : Int) := by have := hNI; omega
              have hk0 : (0 : Int) ≤ (k : Int) := by omega
              have HPl : Hid (∀ W : World, Calls Tryz.prog 79 #[.int .i64 (rawAt q k)] W fun e w' => e = .returned (.agg #[.int .i64 (placeZ (rawAt q k)).1, .int .i64 (placeZ (rawAt q k)).2]) ∧ Below W.heap.size W w') := fun W => qplace_any (rawAt q k) (raw_i64 HQ.out k) W
              obtain ⟨px, hpx⟩ : ∃ v, (placeZ (rawAt q k)).1 = v := ⟨_, rfl⟩
              obtain ⟨py, hpy⟩ : ∃ v, (placeZ (rawAt q k)).2 = v := ⟨_, rfl⟩
              have HX : Hid (flatP ((List.range (k + 1)).map fun i => placeZ (rawAt q i)) = flatP ((List.range k).map fun i => placeZ (rawAt q i)) ++ [.int .i64 px, .int .i64 py]) := by
                show flatP _ = _
                rw [List.range_succ, List.map_append, flatP_append, ← hpx, ← hpy]; rfl
              rw [hpx, hpy] at HPl
              obtain ⟨r, hr⟩ : ∃ r, rawAt q k = r := ⟨_, rfl⟩
              rw [hr] at HPl
              have hk6 : k < 6 := by have := nPl_le q; omega
              by_cases hkp : k < pn
              · obtain ⟨b, off, rfl, hbl, hcell⟩ := HR.out.2.resolve_left (fun e => by have := hpn.out; rw [e] at this; simp at this; omega)
                have hkc := hcell k r (raw_get hr (by have := hpn.out; omega))
                have hkc' := (mB.cell (p := ⟨b, off + k, none⟩) hbl).trans hkc
                have hkpI : (k : Int) < (pn : Int) := by omega
                clear hcell
                go_wp2_with (first
                  | (go_at_call 79; refine Calls.mono (HPl.out _) ?_; rintro e w2 ⟨rfl, hb2⟩; dsimp only; have hs2 := hb2.size; have lF2 : w.heap.size + 1 + 1 < w2.heap.size := Nat.lt_of_lt_of_le lF hs2; have n4 := (hb2.cell (p := ⟨w.heap.size + 1 + 1, 4, none⟩) lF).trans m4; have ng4 := (hb2.frozen (p := ⟨w.heap.size + 1 + 1, 4, none⟩) lF).trans g4; have HO2 : Hid (w2.ownsRow (w.heap.size + 3) 29 2 v k (flatP ((List.range k).map fun i => placeZ (rawAt q i)))) := ownsRow_fr' (M := fun _ _ => False) (Fr.of_below hb2) HOwn.out (fun _ _ _ e => e))
                  | (at_builtin; refine wpList_append_own _ rfl (.tmp 59) (.tmp 61) 30 rfl (w.heap.size + 3) 29 i29 (.agg #[.int .i64 0, .int .i64 0]) 2 16 Tryz.underlying30 HI.out.1 HI.out.2.1 HI.out.2.2.1 HI.out.2.2.2 rfl (by decide) v k (flatP ((List.range k).map fun i => placeZ (rawAt q i))) rfl ((HO2.out.alloc _).alloc _) ⟨w2.heap.size + 1, 0, none⟩ 1 1 [.int .i64 px, .int .i64 py] rfl rfl (fun j u hj => by
                      rw [addr_add]
                      match j, hj with
                      | 0, hj => simp at hj; subst hj; simp [go_sem]
                      | 1, hj => simp at hj; subst hj; simp [go_sem]
                      | j + 2, hj => simp at hj) (fun u hu => by simp at hu; rcases hu with hu | hu <;> (subst hu; rfl)) (by unfold maxLen; omega) (by omega) (by have := mB.size; simp; omega) ?_; intro v3 w3 hown3 hgrow3 _; have hb3 : Below (w.heap.size + 3) wr w3 := (((Below.refl _ wr).trans (hb2.mono (by omega))).alloc (by omega) _ |>.alloc (by simp; omega) _).grown hgrow3 (by simp; omega) (fun k hk => (HOwn.out.lt k hk).1); obtain ⟨g3, c3, rfl, hg3, _⟩ := ownsRow_more hown3; have HO3 : Hid (w3.ownsRow (w.heap.size + 3) 29 2 (.slice (some ⟨g3, 0, none⟩) (k + 1) c3) (k + 1) (flatP ((List.range k).map fun i => placeZ (rawAt q i)) ++ [.int .i64 px, .int .i64 py])) := hown3; have s4 := (hb3.cell (p := ⟨w.heap.size + 1 + 1, 4, none⟩) (show w.heap.size + 1 + 1 < w.heap.size + 3 by omega)).trans m4; have sg4 := (hb3.frozen (p := ⟨w.heap.size + 1 + 1, 4, none⟩) (show w.heap.size + 1 + 1 < w.heap.size + 3 by omega)).trans g4; clear hown3 hgrow3))
                exact ⟨⟨k + 1, by omega, by go_num, HFk.out.step hb3 (by rw [HX.out]; exact HO3.out)⟩, by simp [intOf]; omega⟩
              · exfalso; have := hNI; omega
            · obtain rfl : k = nPl q := by omega
              obtain ⟨N, hN⟩ : ∃ N, nPl q = N + 1 := ⟨nPl q - 1, by have := nPl_pos q; omega⟩
              have hown := HOwn.out
              rw [hN] at hown
              obtain ⟨g, c, rfl⟩ := ownsRow_succ hown
              have hgl := (hown.lt g rfl)
              have hcap : N + 1 ≤ c := by
                rcases hown.2 with ⟨h, _⟩ | ⟨g', c', cur, h, _, _, hle, _⟩
                · cases h
                · cases h; exact hle
              have HO : Hid (wr.ownsRow (w.heap.size + 3) 29 2 (.slice (some ⟨g, 0, none⟩) (N + 1) c) (N + 1) (flatP (featZ q).ps)) := by
                show wr.ownsRow _ _ _ _ _ _
                rw [← hN] at hown ⊢
                exact hown
              have hlenP : (featZ q).ps.length = N + 1 := by rw [← hN]; simp [featZ]
              have hkN : ¬ ((nPl q : Nat) : Int) < (pn : Int) := by have := hNI; omega
              have mres' := mres
              obtain ⟨t0, t1, t2, t3, t4, s0, s1, s2, s3, s4⟩ := mres'
              clear hown HOwn
              go_wp2
              have kk := mres.set (.int .i64 (1 + x)) (.int .i64 (1 + y)) (.int .i64 (z - 9)) (.int .i64 (1 + u)) (.slice (some ⟨g, 0, none⟩) (N + 1) c)
              refine bodyPost_ret (v := .agg #[.int .i64 (1 + x), .int .i64 (1 + y), .int .i64 (z - 9), .int .i64 (1 + u), .slice (some ⟨g, 0, none⟩) (N + 1) c]) (by simp [results, Tryz.results47, go_sem, kk.c0, kk.c1, kk.c2, kk.c3, kk.c4]) rfl ⟨g, c, ?_, by omega, by (first | exact hcap | (rw [hlenP]; exact hcap)), ?_, mB.trans (below_set5 w.heap.size wr (w.heap.size + 1) (by omega) _ _ _ _ _)⟩
              · first | (rw [HF.out.1, HF.out.2.1, HF.out.2.2.1, HF.out.2.2.2, hlenP]; done) | rw [HF.out.1, HF.out.2.1, HF.out.2.2.1, HF.out.2.2.2] | exact rfl
              · refine PlacesOf (HO.out) (by rw [hlenP]) (below_set5 (w.heap.size + 1) wr (w.heap.size + 1) (Nat.le_refl _) _ _ _ _ _) (fr_set5 (w.heap.size + 1) wr _ _ _ _ _) (by omega)
      · have hNI : ((nPl q : Nat) : Int) = 1 + y := by
          have := hpn.out
          unfold nPl
          rw [hy]
          dsimp only
          rw [if_neg (by omega)]
          omega
        go_upto_region 7 with fail
        go_wp2_with fail
        go_loopw [5] (fun i wr => ∃ k : Nat, k ≤ nPl q ∧ i = .int .i64 k ∧ FtI q w.heap.size (1 + x) (1 + y) (z - 9) (1 + u) (.slice pa pn pc) w k wr) (fun i _ => nPl q - (intOf i).toNat)
        case atStart => exact ⟨0, Nat.zero_le _, rfl, HFt.out⟩
        case round =>
          obtain ⟨k, hk, rfl, hft⟩ := hrel
          have HFk : Hid (FtI q w.heap.size (1 + x) (1 + y) (z - 9) (1 + u) (.slice pa pn pc) w k wr) := hft
          obtain ⟨v, m0, m1, m2, m3, m4, g4, mres, m5, mown, mB⟩ := hft
          have HOwn : Hid (wr.ownsRow (w.heap.size + 3) 29 2 v k (flatP ((List.range k).map fun i => placeZ (rawAt q i)))) := mown
          have lF : w.heap.size + 1 + 1 < wr.heap.size := World.block_lt_of_cell? wr _ m4
          clear mown
          by_cases hlt : k < nPl q
          · have hkN : (k : Int) < (1 + y) := by have := hNI; omega
            have hk0 : (0 : Int) ≤ (k : Int) := by omega
            have HPl : Hid (∀ W : World, Calls Tryz.prog 79 #[.int .i64 (rawAt q k)] W fun e w' => e = .returned (.agg #[.int .i64 (placeZ (rawAt q k)).1, .int .i64 (placeZ (rawAt q k)).2]) ∧ Below W.heap.size W w') := fun W => qplace_any (rawAt q k) (raw_i64 HQ.out k) W
            obtain ⟨px, hpx⟩ : ∃ v, (placeZ (rawAt q k)).1 = v := ⟨_, rfl⟩
            obtain ⟨py, hpy⟩ : ∃ v, (placeZ (rawAt q k)).2 = v := ⟨_, rfl⟩
            have HX : Hid (flatP ((List.range (k + 1)).map fun i => placeZ (rawAt q i)) = flatP ((List.range k).map fun i => placeZ (rawAt q i)) ++ [.int .i64 px, .int .i64 py]) := by
              show flatP _ = _
              rw [List.range_succ, List.map_append, flatP_append, ← hpx, ← hpy]; rfl
            rw [hpx, hpy] at HPl
            obtain ⟨r, hr⟩ : ∃ r, rawAt q k = r := ⟨_, rfl⟩
            rw [hr] at HPl
            have hk6 : k < 6 := by have := nPl_le q; omega
            by_cases hkp : k < pn
            · obtain ⟨b, off, rfl, hbl, hcell⟩ := HR.out.2.resolve_left (fun e => by have := hpn.out; rw [e] at this; simp at this; omega)
              have hkc := hcell k r (raw_get hr (by have := hpn.out; omega))
              have hkc' := (mB.cell (p := ⟨b, off + k, none⟩) hbl).trans hkc
              have hkpI : (k : Int) < (pn : Int) := by omega
              clear hcell
              go_wp2_with (first
                | (go_at_call 79; refine Calls.mono (HPl.out _) ?_; rintro e w2 ⟨rfl, hb2⟩; dsimp only; have hs2 := hb2.size; have lF2 : w.heap.size + 1 + 1 < w2.heap.size := Nat.lt_of_lt_of_le lF hs2; have n4 := (hb2.cell (p := ⟨w.heap.size + 1 + 1, 4, none⟩) lF).trans m4; have ng4 := (hb2.frozen (p := ⟨w.heap.size + 1 + 1, 4, none⟩) lF).trans g4; have HO2 : Hid (w2.ownsRow (w.heap.size + 3) 29 2 v k (flatP ((List.range k).map fun i => placeZ (rawAt q i)))) := ownsRow_fr' (M := fun _ _ => False) (Fr.of_below hb2) HOwn.out (fun _ _ _ e => e))
                | (at_builtin; refine wpList_append_own _ rfl (.tmp 59) (.tmp 61) 30 rfl (w.heap.size + 3) 29 i29 (.agg #[.int .i64 0, .int .i64 0]) 2 16 Tryz.underlying30 HI.out.1 HI.out.2.1 HI.out.2.2.1 HI.out.2.2.2 rfl (by decide) v k (flatP ((List.range k).map fun i => placeZ (rawAt q i))) rfl ((HO2.out.alloc _).alloc _) ⟨w2.heap.size + 1, 0, none⟩ 1 1 [.int .i64 px, .int .i64 py] rfl rfl (fun j u hj => by
                    rw [addr_add]
                    match j, hj with
                    | 0, hj => simp at hj; subst hj; simp [go_sem]
                    | 1, hj => simp at hj; subst hj; simp [go_sem]
                    | j + 2, hj => simp at hj) (fun u hu => by simp at hu; rcases hu with hu | hu <;> (subst hu; rfl)) (by unfold maxLen; omega) (by omega) (by have := mB.size; simp; omega) ?_; intro v3 w3 hown3 hgrow3 _; have hb3 : Below (w.heap.size + 3) wr w3 := (((Below.refl _ wr).trans (hb2.mono (by omega))).alloc (by omega) _ |>.alloc (by simp; omega) _).grown hgrow3 (by simp; omega) (fun k hk => (HOwn.out.lt k hk).1); obtain ⟨g3, c3, rfl, hg3, _⟩ := ownsRow_more hown3; have HO3 : Hid (w3.ownsRow (w.heap.size + 3) 29 2 (.slice (some ⟨g3, 0, none⟩) (k + 1) c3) (k + 1) (flatP ((List.range k).map fun i => placeZ (rawAt q i)) ++ [.int .i64 px, .int .i64 py])) := hown3; have s4 := (hb3.cell (p := ⟨w.heap.size + 1 + 1, 4, none⟩) (show w.heap.size + 1 + 1 < w.heap.size + 3 by omega)).trans m4; have sg4 := (hb3.frozen (p := ⟨w.heap.size + 1 + 1, 4, none⟩) (show w.heap.size + 1 + 1 < w.heap.size + 3 by omega)).trans g4; clear hown3 hgrow3))
              exact ⟨⟨k + 1, by omega, by go_num, HFk.out.step hb3 (by rw [HX.out]; exact HO3.out)⟩, by simp [intOf]; omega⟩
            · have hr0 : r = 0 := by
                rw [← hr]
                unfold rawAt
                rw [List.getD_eq_getElem?_getD, List.getElem?_eq_none (by have := hpn.out; omega)]
                rfl
              subst hr0
              have hkpI : ¬ (k : Int) < (pn : Int) := by omega
              go_wp2_with (first
                | (go_at_call 79; refine Calls.mono (HPl.out _) ?_; rintro e w2 ⟨rfl, hb2⟩; dsimp only; have hs2 := hb2.size; have lF2 : w.heap.size + 1 + 1 < w2.heap.size := Nat.lt_of_lt_of_le lF hs2; have n4 := (hb2.cell (p := ⟨w.heap.size + 1 + 1, 4, none⟩) lF).trans m4; have ng4 := (hb2.frozen (p := ⟨w.heap.size + 1 + 1, 4, none⟩) lF).trans g4; have HO2 : Hid (w2.ownsRow (w.heap.size + 3) 29 2 v k (flatP ((List.range k).map fun i => placeZ (rawAt q i)))) := ownsRow_fr' (M := fun _ _ => False) (Fr.of_below hb2) HOwn.out (fun _ _ _ e => e))
                | (at_builtin; refine wpList_append_own _ rfl (.tmp 59) (.tmp 61) 30 rfl (w.heap.size + 3) 29 i29 (.agg #[.int .i64 0, .int .i64 0]) 2 16 Tryz.underlying30 HI.out.1 HI.out.2.1 HI.out.2.2.1 HI.out.2.2.2 rfl (by decide) v k (flatP ((List.range k).map fun i => placeZ (rawAt q i))) rfl ((HO2.out.alloc _).alloc _) ⟨w2.heap.size + 1, 0, none⟩ 1 1 [.int .i64 px, .int .i64 py] rfl rfl (fun j u hj => by
                    rw [addr_add]
                    match j, hj with
                    | 0, hj => simp at hj; subst hj; simp [go_sem]
                    | 1, hj => simp at hj; subst hj; simp [go_sem]
                    | j + 2, hj => simp at hj) (fun u hu => by simp at hu; rcases hu with hu | hu <;> (subst hu; rfl)) (by unfold maxLen; omega) (by omega) (by have := mB.size; simp; omega) ?_; intro v3 w3 hown3 hgrow3 _; have hb3 : Below (w.heap.size + 3) wr w3 := (((Below.refl _ wr).trans (hb2.mono (by omega))).alloc (by omega) _ |>.alloc (by simp; omega) _).grown hgrow3 (by simp; omega) (fun k hk => (HOwn.out.lt k hk).1); obtain ⟨g3, c3, rfl, hg3, _⟩ := ownsRow_more hown3; have HO3 : Hid (w3.ownsRow (w.heap.size + 3) 29 2 (.slice (some ⟨g3, 0, none⟩) (k + 1) c3) (k + 1) (flatP ((List.range k).map fun i => placeZ (rawAt q i)) ++ [.int .i64 px, .int .i64 py])) := hown3; have s4 := (hb3.cell (p := ⟨w.heap.size + 1 + 1, 4, none⟩) (show w.heap.size + 1 + 1 < w.heap.size + 3 by omega)).trans m4; have sg4 := (hb3.frozen (p := ⟨w.heap.size + 1 + 1, 4, none⟩) (show w.heap.size + 1 + 1 < w.heap.size + 3 by omega)).trans g4; clear hown3 hgrow3))
              exact ⟨⟨k + 1, by omega, by go_num, HFk.out.step hb3 (by rw [HX.out]; exact HO3.out)⟩, by simp [intOf]; omega⟩
          · obtain rfl : k = nPl q := by omega
            obtain ⟨N, hN⟩ : ∃ N, nPl q = N + 1 := ⟨nPl q - 1, by have := nPl_pos q; omega⟩
            have hown := HOwn.out
            rw [hN] at hown
            obtain ⟨g, c, rfl⟩ := ownsRow_succ hown
            have hgl := (hown.lt g rfl)
            have hcap : N + 1 ≤ c := by
              rcases hown.2 with ⟨h, _⟩ | ⟨g', c', cur, h, _, _, hle, _⟩
              · cases h
              · cases h; exact hle
            have HO : Hid (wr.ownsRow (w.heap.size + 3) 29 2 (.slice (some ⟨g, 0, none⟩) (N + 1) c) (N + 1) (flatP (featZ q).ps)) := by
              show wr.ownsRow _ _ _ _ _ _
              rw [← hN] at hown ⊢
              exact hown
            have hlenP : (featZ q).ps.length = N + 1 := by rw [← hN]; simp [featZ]
            have hkN : ¬ ((nPl q : Nat) : Int) < (1 + y) := by have := hNI; omega
            have mres' := mres
            obtain ⟨t0, t1, t2, t3, t4, s0, s1, s2, s3, s4⟩ := mres'
            clear hown HOwn
            go_wp2
            have kk := mres.set (.int .i64 (1 + x)) (.int .i64 (1 + y)) (.int .i64 (z - 9)) (.int .i64 (1 + u)) (.slice (some ⟨g, 0, none⟩) (N + 1) c)
            refine bodyPost_ret (v := .agg #[.int .i64 (1 + x), .int .i64 (1 + y), .int .i64 (z - 9), .int .i64 (1 + u), .slice (some ⟨g, 0, none⟩) (N + 1) c]) (by simp [results, Tryz.results47, go_sem, kk.c0, kk.c1, kk.c2, kk.c3, kk.c4]) rfl ⟨g, c, ?_, by omega, by (first | exact hcap | (rw [hlenP]; exact hcap)), ?_, mB.trans (below_set5 w.heap.size wr (w.heap.size + 1) (by omega) _ _ _ _ _)⟩
            · first | (rw [HF.out.1, HF.out.2.1, HF.out.2.2.1, HF.out.2.2.2, hlenP]; done) | rw [HF.out.1, HF.out.2.1, HF.out.2.2.1, HF.out.2.2.2] | exact rfl
            · refine PlacesOf (HO.out) (by rw [hlenP]) (below_set5 (w.heap.size + 1) wr (w.heap.size + 1) (Nat.le_refl _) _ _ _ _ _) (fr_set5 (w.heap.size + 1) wr _ _ _ _ _) (by omega)

end Go.Proofs.YtenaepdmlknlcaaGreatDoor
