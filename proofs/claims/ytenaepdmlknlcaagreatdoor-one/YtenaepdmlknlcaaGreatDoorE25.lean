import Derived.Test.YtenaepdmlknlcaaGreatDoorE24
import Derived.Stop.RegionWithIn
import Derived.Test.YtenaepdmlknlcaaGreatDoorE22
namespace Go.Proofs.YtenaepdmlknlcaaGreatDoor
open Go.RowKit Go.Shelf

attribute [local go_sem] Oper.semAt_some

/-- The cells of the block b read as they did. -/
def KeepB (b : Nat) (A B : World) : Prop := A.heap.size ≤ B.heap.size ∧ ∀ o v, A.cell? ⟨b, o, none⟩ = some v → B.cell? ⟨b, o, none⟩ = some v
theorem KeepB.trans {b : Nat} {A B C : World} (h : KeepB b A B) (k : KeepB b B C) : KeepB b A C := ⟨Nat.le_trans h.1 k.1, fun o v e => k.2 o v (h.2 o v e)⟩
theorem keepB_t {b : Nat} : ∀ {A B C : World}, KeepB b A B → KeepB b B C → KeepB b A C := fun h k => h.trans k
theorem keepB_b {b n : Nat} : ∀ (W : World) (l : Nat) (o o' : Obj), n ≤ l → W.heap[l]? = some o → o.isCells = false → o.isWalk = false → KeepB b W (W.putObj l o') := fun W l o o' _ hl ho _ =>
  ⟨(grownBy_putObj' W l o').size, fun off v h => cell_kept h (grownBy_putObj' W l o') (fun r e => by cases e; exact ⟨o, hl, ho⟩)⟩

theorem tilesZ_len (z : Nat) : (tilesZ z).length = cntZ z * cntZ z := by simp [tilesZ]
set_option maxRecDepth 100000 in
set_option maxHeartbeats 2000000 in
theorem tiles_stops (G : Tl → Prop) (z c : Nat) (hG : ∀ t ∈ tilesZ z, G t) (hz : (z = 0 ∧ c = 1) ∨ (z = 1 ∧ c = 2) ∨ (z = 2 ∧ c = 4) ∨ (z = 3 ∧ c = 8)) (Bz n : Nat) (w : World) (hB : w.cell? ⟨Bz, 0, none⟩ = some (.int .i64 (z : Int))) :
    SeqStopsK Fence.wide n Tryz.prog 233 #[.pointer (some ⟨Bz, 0, none⟩)] (fun t : { t : Tl // G t } => #[.agg #[.int .i64 t.1.z, .int .i64 t.1.c, .int .i64 t.1.r]]) (KeepB Bz) (fun ys => ys.map Subtype.val = tilesZ z) (fun _ => True) (c * c) w := by
  intro l J Jx W hW hJ hJx hY h0
  refine callsIn_wide.2 ?_
  have e0 := (hW.cell (p := ⟨Bz, 0, none⟩) (cell_lt hB)).trans hB
  have hc : cntZ z = c := by rcases hz with ⟨rfl, rfl⟩ | ⟨rfl, rfl⟩ | ⟨rfl, rfl⟩ | ⟨rfl, rfl⟩ <;> rfl
  have H0 : Hid (J [] W) := h0
  have HY : Hid (∀ pre x W1, J pre W1 → pre.length < c * c → YieldAt Fence.wide 0 Tryz.prog l #[.agg #[.int .i64 x.1.z, .int .i64 x.1.c, .int .i64 x.1.r]] W1 fun e W' => ∃ b, e = .returned (.bool b) ∧ (b = true → J (pre ++ [x]) W' ∧ KeepB Bz W1 W') ∧ (b = false → Jx (pre ++ [x]) W')) := fun pre x W1 hj hl => by
    obtain ⟨fn, tmps, assign, body, hy, hR⟩ := YieldAt_any rfl 0 (hY pre x W1 hj hl)
    refine ⟨fn, tmps, assign, body, hy, hR.mono ?_⟩
    rintro e W' (⟨rfl, h1, h2⟩ | ⟨rfl, h1⟩)
    · exact ⟨true, rfl, fun _ => ⟨h1, h2⟩, fun h => (by cases h)⟩
    · exact ⟨false, rfl, fun h => (by cases h), fun _ => h1⟩
  have HJ : Hid (∀ pre A B, J pre A → Below A.heap.size A B → J pre B) := fun pre A B hj hb => hJ pre A B none hj (grown_of_below hb) (fun r e => by cases e)
  obtain ⟨T, hT⟩ : ∃ T : List { t : Tl // G t }, T.map Subtype.val = tilesZ z := ⟨(tilesZ z).pmap Subtype.mk hG, by rw [List.map_pmap]; simp⟩
  have hTlen : T.length = c * c := by rw [← hc, ← tilesZ_len, ← hT, List.length_map]
  have HTk : Hid (∀ k, k < c * c → ∃ h : G ⟨(z : Int), ((k % c : Nat) : Int), ((k / c : Nat) : Int)⟩, T.take (k + 1) = T.take k ++ [⟨⟨(z : Int), ((k % c : Nat) : Int), ((k / c : Nat) : Int)⟩, h⟩]) := fun k hk => by
    have hkl : k < T.length := by rw [hTlen]; exact hk
    have hv : (T[k]'hkl).1 = ⟨(z : Int), ((k % c : Nat) : Int), ((k / c : Nat) : Int)⟩ := by
      have h1 : (T.map Subtype.val)[k]'(by rw [List.length_map]; exact hkl) = (T[k]'hkl).1 := by simp
      rw [← h1]
      have h2 : k < (tilesZ z).length := by rw [tilesZ_len, hc]; exact hk
      have h3 : (T.map Subtype.val)[k]'(by rw [List.length_map]; exact hkl) = (tilesZ z)[k]'h2 := by simp only [hT]
      rw [h3]
      simp [tilesZ, tilesN, hc]
    obtain ⟨y, hy⟩ : ∃ y, T[k]'hkl = y := ⟨_, rfl⟩
    rw [hy] at hv
    obtain ⟨yt, yg⟩ := y
    dsimp only at hv
    subst hv
    exact ⟨yg, by rw [List.take_add_one, List.getElem?_eq_getElem hkl, hy]; rfl⟩
  have HTl : Hid (∀ k, k ≤ c * c → (T.take k).length = k) := fun k hk => by rw [List.length_take, hTlen]; omega
  have HTa : Hid (T.take (c * c) = T) := by show T.take (c * c) = _; rw [← hTlen, List.take_length]
  have HTm : Hid (T.map Subtype.val = tilesZ z) := hT
  clear hJ hJx hY h0 hB hc
  show Calls Tryz.prog 233 #[.func (.yield l) #[] #[], .pointer (some ⟨Bz, 0, none⟩)] W _
  clear hT hTlen hG
  rcases hz with ⟨rfl, rfl⟩ | ⟨rfl, rfl⟩ | ⟨rfl, rfl⟩ | ⟨rfl, rfl⟩
  · go_enter Tryz.func233, Tryz.ntmps233
    go_wp2
    go_loopw [10] (fun i wr => ∃ k : Nat, k ≤ 1 ∧ i = .int .i64 k ∧ wr.cell? ⟨Bz, 0, none⟩ = some (.int .i64 0) ∧ J (T.take k) wr) (fun i _ => 1 - (intOf i).toNat)
    case atStart => exact ⟨0, by omega, rfl, e0, H0.out⟩
    case round =>
      obtain ⟨k, hk, rfl, hcz, hJk⟩ := hrel
      by_cases hlt : k < 1
      · obtain rfl : k = 0 := by omega
        have hw0 : IntKind.i64.wrap 0 = 0 := by decide
        obtain ⟨hGk0, hTk0⟩ := HTk.out 0 (by omega)
        have hGk : G ⟨0, 0, 0⟩ := hGk0
        have hTk : T.take 1 = T.take 0 ++ [(⟨⟨0, 0, 0⟩, hGk⟩ : { t : Tl // G t })] := hTk0
        clear hTk0
        have hjd : J (T.take 0) wr.drew := HJ.out _ _ _ hJk (Below.refl _ wr).drew
        obtain ⟨fn, tmps, assign, body, hy, hR⟩ := HY.out (T.take 0) ⟨⟨0, 0, 0⟩, hGk⟩ wr.drew hjd (by rw [HTl.out 0 (by omega)]; exact hlt)
        dsimp only at hy
        go_upto_region 4 with fail
        refine (wpIn_wide (n := 1)).1 ?_
        gi_region_with (refine hR.mono ?_; rintro e W3 ⟨b, rfl, hb1, hb2⟩; dsimp only)
        all_goals
          have HB1 : Hid (b = true → J (T.take 0 ++ [⟨⟨0, 0, 0⟩, hGk⟩]) W3 ∧ KeepB Bz wr.drew W3) := hb1
          have HB2 : Hid (b = false → Jx (T.take 0 ++ [⟨⟨0, 0, 0⟩, hGk⟩]) W3) := hb2
          clear hb1 hb2 hR hy
          cases b with
          | true =>
            gi_wp2
            go_wp2
            refine ⟨⟨1, by omega, by go_num, (HB1.out (by first | trivial | rfl)).2.2 _ _ hcz, ?_⟩, by simp [intOf]⟩
            rw [hTk]
            exact (HB1.out (by first | trivial | rfl)).1
          | false =>
            gi_wp2
            go_wp2
            exact bodyPost_ret (v := .tuple #[]) (by simp [results, Tryz.results233, go_sem]) rfl ⟨⟨_, rfl⟩, .inr ⟨_, trivial, HB2.out (by first | trivial | rfl)⟩⟩
      · obtain rfl : k = 1 := by omega
        go_wp2
        go_end0
        exact ⟨⟨_, rfl⟩, .inl ⟨T, HTm.out, by rw [HTa.out] at hJk; exact hJk⟩⟩
  · go_enter Tryz.func233, Tryz.ntmps233
    go_wp2
    go_loopw [10] (fun i wr => ∃ k : Nat, k ≤ 4 ∧ i = .int .i64 k ∧ wr.cell? ⟨Bz, 0, none⟩ = some (.int .i64 1) ∧ J (T.take k) wr) (fun i _ => 4 - (intOf i).toNat)
    case atStart => exact ⟨0, by omega, rfl, e0, H0.out⟩
    case round =>
      obtain ⟨k, hk, rfl, hcz, hJk⟩ := hrel
      by_cases hlt : k < 4
      · have hkI : (k : Int) < 4 := by omega
        have hk0 : (0 : Int) ≤ (k : Int) := by omega
        obtain ⟨hGk0, hTk0⟩ := HTk.out k (by omega)
        have hGk : G ⟨(1 : Int), (k : Int) % 2, (k : Int) / 2⟩ := hGk0
        have hTk : T.take (k + 1) = T.take k ++ [(⟨⟨(1 : Int), (k : Int) % 2, (k : Int) / 2⟩, hGk⟩ : { t : Tl // G t })] := hTk0
        clear hTk0
        have hmod : (k : Int).tmod 2 = (k : Int) % 2 := Int.tmod_eq_emod_of_nonneg hk0
        have hdiv : (k : Int).tdiv 2 = (k : Int) / 2 := Int.tdiv_eq_ediv_of_nonneg hk0
        have hw8 : IntKind.i64.wrap ((k : Int) / 2) = (k : Int) / 2 := by rw [IntKind.wrap_i64]; omega
        have hjd : J (T.take k) wr.drew := HJ.out _ _ _ hJk (Below.refl _ wr).drew
        obtain ⟨fn, tmps, assign, body, hy, hR⟩ := HY.out (T.take k) ⟨⟨(1 : Int), (k : Int) % 2, (k : Int) / 2⟩, hGk⟩ wr.drew hjd (by rw [HTl.out k (by omega)]; exact hlt)
        dsimp only at hy
        go_upto_region 4 with fail
        refine (wpIn_wide (n := 1)).1 ?_
        gi_region_with (refine hR.mono ?_; rintro e W3 ⟨b, rfl, hb1, hb2⟩; dsimp only)
        all_goals
          have HB1 : Hid (b = true → J (T.take k ++ [⟨⟨(1 : Int), (k : Int) % 2, (k : Int) / 2⟩, hGk⟩]) W3 ∧ KeepB Bz wr.drew W3) := hb1
          have HB2 : Hid (b = false → Jx (T.take k ++ [⟨⟨(1 : Int), (k : Int) % 2, (k : Int) / 2⟩, hGk⟩]) W3) := hb2
          clear hb1 hb2 hR hy
          cases b with
          | true =>
            gi_wp2
            go_wp2
            refine ⟨⟨k + 1, by omega, by go_num, (HB1.out (by first | trivial | rfl)).2.2 _ _ hcz, ?_⟩, by simp [intOf]; omega⟩
            rw [hTk]
            exact (HB1.out (by first | trivial | rfl)).1
          | false =>
            gi_wp2
            go_wp2
            exact bodyPost_ret (v := .tuple #[]) (by simp [results, Tryz.results233, go_sem]) rfl ⟨⟨_, rfl⟩, .inr ⟨_, trivial, HB2.out (by first | trivial | rfl)⟩⟩
      · obtain rfl : k = 4 := by omega
        go_wp2
        go_end0
        exact ⟨⟨_, rfl⟩, .inl ⟨T, HTm.out, by rw [HTa.out] at hJk; exact hJk⟩⟩
  · go_enter Tryz.func233, Tryz.ntmps233
    go_wp2
    go_loopw [10] (fun i wr => ∃ k : Nat, k ≤ 16 ∧ i = .int .i64 k ∧ wr.cell? ⟨Bz, 0, none⟩ = some (.int .i64 2) ∧ J (T.take k) wr) (fun i _ => 16 - (intOf i).toNat)
    case atStart => exact ⟨0, by omega, rfl, e0, H0.out⟩
    case round =>
      obtain ⟨k, hk, rfl, hcz, hJk⟩ := hrel
      by_cases hlt : k < 16
      · have hkI : (k : Int) < 16 := by omega
        have hk0 : (0 : Int) ≤ (k : Int) := by omega
        obtain ⟨hGk0, hTk0⟩ := HTk.out k (by omega)
        have hGk : G ⟨(2 : Int), (k : Int) % 4, (k : Int) / 4⟩ := hGk0
        have hTk : T.take (k + 1) = T.take k ++ [(⟨⟨(2 : Int), (k : Int) % 4, (k : Int) / 4⟩, hGk⟩ : { t : Tl // G t })] := hTk0
        clear hTk0
        have hmod : (k : Int).tmod 4 = (k : Int) % 4 := Int.tmod_eq_emod_of_nonneg hk0
        have hdiv : (k : Int).tdiv 4 = (k : Int) / 4 := Int.tdiv_eq_ediv_of_nonneg hk0
        have hw8 : IntKind.i64.wrap ((k : Int) / 4) = (k : Int) / 4 := by rw [IntKind.wrap_i64]; omega
        have hjd : J (T.take k) wr.drew := HJ.out _ _ _ hJk (Below.refl _ wr).drew
        obtain ⟨fn, tmps, assign, body, hy, hR⟩ := HY.out (T.take k) ⟨⟨(2 : Int), (k : Int) % 4, (k : Int) / 4⟩, hGk⟩ wr.drew hjd (by rw [HTl.out k (by omega)]; exact hlt)
        dsimp only at hy
        go_upto_region 4 with fail
        refine (wpIn_wide (n := 1)).1 ?_
        gi_region_with (refine hR.mono ?_; rintro e W3 ⟨b, rfl, hb1, hb2⟩; dsimp only)
        all_goals
          have HB1 : Hid (b = true → J (T.take k ++ [⟨⟨(2 : Int), (k : Int) % 4, (k : Int) / 4⟩, hGk⟩]) W3 ∧ KeepB Bz wr.drew W3) := hb1
          have HB2 : Hid (b = false → Jx (T.take k ++ [⟨⟨(2 : Int), (k : Int) % 4, (k : Int) / 4⟩, hGk⟩]) W3) := hb2
          clear hb1 hb2 hR hy
          cases b with
          | true =>
            gi_wp2
            go_wp2
            refine ⟨⟨k + 1, by omega, by go_num, (HB1.out (by first | trivial | rfl)).2.2 _ _ hcz, ?_⟩, by simp [intOf]; omega⟩
            rw [hTk]
            exact (HB1.out (by first | trivial | rfl)).1
          | false =>
            gi_wp2
            go_wp2
            exact bodyPost_ret (v := .tuple #[]) (by simp [results, Tryz.results233, go_sem]) rfl ⟨⟨_, rfl⟩, .inr ⟨_, trivial, HB2.out (by first | trivial | rfl)⟩⟩
      · obtain rfl : k = 16 := by omega
        go_wp2
        go_end0
        exact ⟨⟨_, rfl⟩, .inl ⟨T, HTm.out, by rw [HTa.out] at hJk; exact hJk⟩⟩
  · go_enter Tryz.func233, Tryz.ntmps233
    go_wp2
    go_loopw [10] (fun i wr => ∃ k : Nat, k ≤ 64 ∧ i = .int .i64 k ∧ wr.cell? ⟨Bz, 0, none⟩ = some (.int .i64 3) ∧ J (T.take k) wr) (fun i _ => 64 - (intOf i).toNat)
    case atStart => exact ⟨0, by omega, rfl, e0, H0.out⟩
    case round =>
      obtain ⟨k, hk, rfl, hcz, hJk⟩ := hrel
      by_cases hlt : k < 64
      · have hkI : (k : Int) < 64 := by omega
        have hk0 : (0 : Int) ≤ (k : Int) := by omega
        obtain ⟨hGk0, hTk0⟩ := HTk.out k (by omega)
        have hGk : G ⟨(3 : Int), (k : Int) % 8, (k : Int) / 8⟩ := hGk0
        have hTk : T.take (k + 1) = T.take k ++ [(⟨⟨(3 : Int), (k : Int) % 8, (k : Int) / 8⟩, hGk⟩ : { t : Tl // G t })] := hTk0
        clear hTk0
        have hmod : (k : Int).tmod 8 = (k : Int) % 8 := Int.tmod_eq_emod_of_nonneg hk0
        have hdiv : (k : Int).tdiv 8 = (k : Int) / 8 := Int.tdiv_eq_ediv_of_nonneg hk0
        have hw8 : IntKind.i64.wrap ((k : Int) / 8) = (k : Int) / 8 := by rw [IntKind.wrap_i64]; omega
        have hjd : J (T.take k) wr.drew := HJ.out _ _ _ hJk (Below.refl _ wr).drew
        obtain ⟨fn, tmps, assign, body, hy, hR⟩ := HY.out (T.take k) ⟨⟨(3 : Int), (k : Int) % 8, (k : Int) / 8⟩, hGk⟩ wr.drew hjd (by rw [HTl.out k (by omega)]; exact hlt)
        dsimp only at hy
        go_upto_region 4 with fail
        refine (wpIn_wide (n := 1)).1 ?_
        gi_region_with (refine hR.mono ?_; rintro e W3 ⟨b, rfl, hb1, hb2⟩; dsimp only)
        all_goals
          have HB1 : Hid (b = true → J (T.take k ++ [⟨⟨(3 : Int), (k : Int) % 8, (k : Int) / 8⟩, hGk⟩]) W3 ∧ KeepB Bz wr.drew W3) := hb1
          have HB2 : Hid (b = false → Jx (T.take k ++ [⟨⟨(3 : Int), (k : Int) % 8, (k : Int) / 8⟩, hGk⟩]) W3) := hb2
          clear hb1 hb2 hR hy
          cases b with
          | true =>
            gi_wp2
            go_wp2
            refine ⟨⟨k + 1, by omega, by go_num, (HB1.out (by first | trivial | rfl)).2.2 _ _ hcz, ?_⟩, by simp [intOf]; omega⟩
            rw [hTk]
            exact (HB1.out (by first | trivial | rfl)).1
          | false =>
            gi_wp2
            go_wp2
            exact bodyPost_ret (v := .tuple #[]) (by simp [results, Tryz.results233, go_sem]) rfl ⟨⟨_, rfl⟩, .inr ⟨_, trivial, HB2.out (by first | trivial | rfl)⟩⟩
      · obtain rfl : k = 64 := by omega
        go_wp2
        go_end0
        exact ⟨⟨_, rfl⟩, .inl ⟨T, HTm.out, by rw [HTa.out] at hJk; exact hJk⟩⟩

end Go.Proofs.YtenaepdmlknlcaaGreatDoor

namespace Go.Proofs.YtenaepdmlknlcaaGreatDoor
open Go.RowKit Go.Shelf

attribute [local go_sem] Oper.semAt_some

theorem PTiles_any (z : Int) (w : World) :
    Calls Tryz.prog 222 #[.int .i64 z] w fun e w' => e = .returned (.func (.func 233) #[] #[.pointer (some ⟨w.heap.size, 0, none⟩)]) ∧ w' = w.alloc (.cells #[.int .i64 z] 3) := by
  go_enter Tryz.func222, Tryz.ntmps222
  go_wp2
  go_ret
  exact ⟨rfl, rfl⟩

theorem Fr.grown {M : Nat → Nat → Prop} {A B C : World} {row : Option Nat} (h : Fr M A B) (hg : B.grownBy C row) (hr : ∀ r, row = some r → A.heap.size ≤ r) : Fr M A C := by
  have hb : Below A.heap.size B C := (Below.refl _ B).grown hg h.size (fun k hk => hr k hk)
  exact h.trans_new (Fr.of_below' hb) (fun b i hb' e => absurd hb' (Nat.not_lt.2 e))
/-- A world that has grown by another loop's record reads the same. -/
theorem Fr.ofGrown {A B : World} {row : Option Nat} (hg : A.grownBy B row) : Fr (fun b _ => row = some b) A B := by
  cases row with
  | none => exact (Fr.of_below ((Below.refl _ A).grown hg (Nat.le_refl _) (fun k hk => by cases hk))).mono fun _ _ e => e
  | some r =>
    have hn : ∀ k, k < A.heap.size → k ≠ r → B.heap[k]? = A.heap[k]? := fun k hk hne => hg.block k hk (fun e => hne (Option.some.inj e))
    refine ⟨hg.os, hg.tape, hg.output, hg.size, fun k hk h => hn k hk (fun e => h 0 (by rw [e])), fun k i hk h => ?_, fun k i hk h => ?_⟩
    · simp only [World.cell?, hn k hk (fun e => h (by rw [e]))]
    · simp only [World.frozen?, hn k hk (fun e => h (by rw [e]))]

theorem forgetK_snoc (bs : List Bx) (k : Nat) (pre : List Tl) (t : Tl) (ks : List Kp) : forgetK bs k (pre ++ [t]) ks = if hitT bs t = true ∧ shN t = k then dropT t (forgetK bs k pre ks) else forgetK bs k pre ks := by
  unfold forgetK
  rw [List.foldl_append]
  rfl
theorem olderK_snoc (bs : List Bx) (k : Nat) (pre : List Tl) (t : Tl) : olderK bs k (pre ++ [t]) = (olderK bs k pre || (hitT bs t && decide (shN t = k))) := by
  unfold olderK
  rw [List.any_append]
  simp

/-- What Forget may write. -/
def FgM (A so : Nat) (vs : Nat → Value) : Nat → Nat → Prop := fun c j => (c = A ∧ so + 1 ≤ j ∧ j < so + 9) ∨ ∃ k, k < 4 ∧ (vs k).ownBlock = some c
/-- The shards, behind the tiles of pre. -/
def fgS (bs : List Bx) (S : Shs) (pre : List Tl) : Shs := { S with ks := fun k => forgetK bs k pre (S.ks k) }
structure FgI (A so n0 : Nat) (a : Option Addr) (n cap : Nat) (bs : List Bx) (vs : Nat → Value) (S : Shs) (w : World) (pre : List Tl) (W : World) : Prop where
  c0 : W.cell? ⟨n0, 0, none⟩ = some (.pointer (some ⟨A, so, none⟩))
  c1 : W.cell? ⟨n0 + 1, 0, none⟩ = some (.slice a n cap)
  old : ∀ k, k < 4 → W.cell? ⟨n0 + 1 + 1, k, none⟩ = some (.bool (olderK bs k pre)) ∧ W.frozen? ⟨n0 + 1 + 1, k, none⟩ = false
  sh : ∃ vs', ShsAt W A so vs' (fgS bs S pre) ∧ ∀ k, k < 4 → (vs' k).ownBlock = (vs k).ownBlock
  fr : Fr (FgM A so vs) w W
  big : n0 + 1 + 1 + 1 < W.heap.size

theorem ownsRow_cells {w : World} {base : Nat} {e : TypeId} {size : Nat} {v : Value} {n : Nat} {xs : List Value} (o : w.ownsRow base e size v n xs) {g : Nat} (hg : v.ownBlock = some g) : ∃ cur, w.heap[g]? = some (.cells cur e (0, 0)) := by
  rcases o.2 with ⟨rfl, _⟩ | ⟨g', cap, cur, rfl, _, h, _⟩
  · cases hg
  · cases hg; exact ⟨cur, h⟩
theorem ShsAt.grown {A B : World} {row : Option Nat} {P so : Nat} {vs : Nat → Value} {S : Shs} (h : ShsAt A P so vs S) (hg : A.grownBy B row) (hr : ∀ r, row = some r → ∃ o : Obj, A.heap[r]? = some o ∧ o.isCells = false) : ShsAt B P so vs S := by
  refine h.fr (Fr.ofGrown hg) (fun i _ e => ?_) (fun k g i hk e e' => ?_)
  · obtain ⟨o, ho, hc⟩ := hr P e
    have := h.room
    simp only [World.cell?, ho] at this
    cases o <;> simp_all [Obj.isCells]
  · obtain ⟨o, ho, hc⟩ := hr g e'
    obtain ⟨cur, hcur⟩ := ownsRow_cells (h.sh k hk).own e
    rw [ho] at hcur
    cases hcur
    simp [Obj.isCells] at hc
theorem FgI.kept {A so n0 : Nat} {a : Option Addr} {n cap : Nat} {bs : List Bx} {vs : Nat → Value} {S : Shs} {w : World} {pre : List Tl} {W W' : World} {row : Option Nat} (h : FgI A so n0 a n cap bs vs S w pre W) (hg : W.grownBy W' row) (hr : ∀ r, row = some r → w.heap.size ≤ r ∧ ∃ o : Obj, W.heap[r]? = some o ∧ o.isCells = false) : FgI A so n0 a n cap bs vs S w pre W' := by
  have hr' : ∀ r, row = some r → ∃ o : Obj, W.heap[r]? = some o ∧ o.isCells = false := fun r e => (hr r e).2
  obtain ⟨vs', h1, h2⟩ := h.sh
  exact ⟨cell_kept h.c0 hg hr', cell_kept h.c1 hg hr', fun k hk => ⟨cell_kept (h.old k hk).1 hg hr', (frozen_kept (h.old k hk).1 hg hr').trans (h.old k hk).2⟩, ⟨vs', h1.grown hg hr', h2⟩, h.fr.grown hg (fun r e => (hr r e).1), Nat.lt_of_lt_of_le h.big hg.size⟩
theorem FgI.below {A so n0 : Nat} {a : Option Addr} {n cap : Nat} {bs : List Bx} {vs : Nat → Value} {S : Shs} {w : World} {pre : List Tl} {W W' : World} (h : FgI A so n0 a n cap bs vs S w pre W) (hb : Below W.heap.size W W') : FgI A so n0 a n cap bs vs S w pre W' :=
  h.kept (grown_of_below hb) (fun r e => by cases e)
/-- A tile that meets no box. -/
theorem FgI.miss {A so n0 : Nat} {a : Option Addr} {n cap : Nat} {bs : List Bx} {vs : Nat → Value} {S : Shs} {w : World} {pre : List Tl} {W W' : World} (h : FgI A so n0 a n cap bs vs S w pre W) (hb : Below W.heap.size W W') {t : Tl} (ht : hitT bs t = false) : FgI A so n0 a n cap bs vs S w (pre ++ [t]) W' := by
  have h' := h.below hb
  have e1 : ∀ k, olderK bs k (pre ++ [t]) = olderK bs k pre := fun k => by rw [olderK_snoc, ht]; simp
  have e2 : fgS bs S (pre ++ [t]) = fgS bs S pre := by
    unfold fgS
    congr 1
    funext k
    rw [forgetK_snoc, if_neg (by rw [ht]; simp)]
  exact ⟨h'.c0, h'.c1, fun k hk => by rw [e1]; exact h'.old k hk, by rw [e2]; exact h'.sh, h'.fr, h'.big⟩
/-- A tile that meets one. -/
theorem FgI.hit {A so n0 : Nat} {a : Option Addr} {n cap : Nat} {bs : List Bx} {vs : Nat → Value} {S : Shs} {w : World} {pre : List Tl} {W W1 W2 W3 : World} (h : FgI A so n0 a n cap bs vs S w pre W) {t : Tl} (ht : hitT bs t = true) (hA : A < w.heap.size) (hvs : ∀ k g, k < 4 → (vs k).ownBlock = some g → g < w.heap.size) (hn0 : w.heap.size ≤ n0) {vs' : Nat → Value} (hsh : ShsAt W A so vs' (fgS bs S pre)) (hvs' : ∀ k, k < 4 → (vs' k).ownBlock = (vs k).ownBlock)
    (hb1 : Below W.heap.size W W1) {v2 : Value} (h2 : ShAt W2 A (so + 1 + shN t * 2) v2 (dropT t (forgetK bs (shN t) pre (S.ks (shN t))))) (hv2 : v2.ownBlock = (vs' (shN t)).ownBlock) (hf2 : Fr (ShM A (so + 1 + shN t * 2) (vs' (shN t))) W1 W2) (hb3 : Below W2.heap.size W2 W3) :
    FgI A so n0 a n cap bs vs S w (pre ++ [t]) (W3.setCell ⟨n0 + 1 + 1, shN t, none⟩ (.bool true)) := by
  have hsz := h.fr.size
  have hq := shN_lt t
  have hM : ∀ b i, ShM A (so + 1 + shN t * 2) (vs' (shN t)) b i → FgM A so vs b i := fun b i e => by
    rcases e with ⟨rfl, rfl⟩ | e
    · exact .inl ⟨rfl, by omega, by omega⟩
    · exact .inr ⟨shN t, hq, by rw [← hvs' _ hq]; exact e⟩
  have hMlt : ∀ b i, ShM A (so + 1 + shN t * 2) (vs' (shN t)) b i → b < w.heap.size := fun b i e => by
    rcases e with ⟨rfl, _⟩ | e
    · exact hA
    · exact hvs _ b hq (by rw [← hvs' _ hq]; exact e)
  have hF : Fr (ShM A (so + 1 + shN t * 2) (vs' (shN t))) W W3 := ((Fr.of_below hb1).trans hf2).trans (Fr.of_below hb3)
  have l0 : n0 < W.heap.size := World.block_lt_of_cell? W _ h.c0
  have l1 : n0 + 1 < W.heap.size := World.block_lt_of_cell? W _ h.c1
  have l2 : n0 + 1 + 1 < W.heap.size := World.block_lt_of_cell? W _ (h.old 0 (by omega)).1
  have nm : ∀ b i, w.heap.size ≤ b → ¬ ShM A (so + 1 + shN t * 2) (vs' (shN t)) b i := fun b i hb e => by have := hMlt b i e; omega
  have hcell : ∀ b i, w.heap.size ≤ b → b < W.heap.size → W3.cell? ⟨b, i, none⟩ = W.cell? ⟨b, i, none⟩ := fun b i h1 h2 => hF.cell b i h2 (nm b i h1)
  have hfz : ∀ b i, w.heap.size ≤ b → b < W.heap.size → W3.frozen? ⟨b, i, none⟩ = W.frozen? ⟨b, i, none⟩ := fun b i h1 h2 => hF.frozen b i h2 (nm b i h1)
  have hs3 : W.heap.size ≤ W3.heap.size := hF.size
  have hsh3 : ShsAt W3 A so (fun k => if k = shN t then v2 else vs' k) (fgS bs S (pre ++ [t])) := by
    have hu := hsh.upd hq (h2.below hb3) hF (fun g e => .inl (by rw [← hv2]; exact e))
    have e : fgS bs S (pre ++ [t]) = { fgS bs S pre with ks := fun k => if k = shN t then dropT t (forgetK bs (shN t) pre (S.ks (shN t))) else (fgS bs S pre).ks k } := by
      unfold fgS
      congr 1
      funext k
      rw [forgetK_snoc]
      by_cases hk : k = shN t
      · rw [if_pos ⟨ht, hk.symm⟩, if_pos hk, hk]
      · rw [if_neg (fun e => hk e.2.symm), if_neg hk]
    rw [e]
    exact hu
  refine ⟨?_, ?_, fun k hk => ⟨?_, ?_⟩, ⟨fun k => if k = shN t then v2 else vs' k, ?_, fun k hk => ?_⟩, ?_, by have := h.big; simp [World.setCell]; omega⟩
  · exact (cell_ne _ _ (.inl (by omega))).trans ((hcell n0 0 hn0 l0).trans h.c0)
  · exact (cell_ne _ _ (.inl (by omega))).trans ((hcell (n0 + 1) 0 (by omega) l1).trans h.c1)
  · rw [olderK_snoc, ht]
    by_cases hkt : shN t = k
    · subst hkt
      rw [decide_eq_true rfl, Bool.and_self, Bool.or_true]
      exact cell_eq ((hcell (n0 + 1 + 1) (shN t) (by omega) l2).trans (h.old _ hk).1) _
    · rw [decide_eq_false hkt, Bool.and_false, Bool.or_false, cell_ne _ _ (.inr hkt)]
      exact (hcell (n0 + 1 + 1) k (by omega) l2).trans (h.old k hk).1
  · rw [World.frozen?_setCell]
    exact (hfz (n0 + 1 + 1) k (by omega) l2).trans (h.old k hk).2
  · refine hsh3.fr (frB (n0 + 1 + 1) W3 (shN t) _) (fun i _ e => ?_) (fun k g i hk e e' => ?_)
    · have : A = n0 + 1 + 1 := e
      omega
    · have e1 : g = n0 + 1 + 1 := e'
      have e2 : (vs k).ownBlock = some g := by
        by_cases hkt : k = shN t
        · rw [if_pos hkt] at e
          rw [hkt, ← hvs' _ hq, ← hv2]; exact e
        · rw [if_neg hkt] at e
          rw [← hvs' k hk]; exact e
      have := hvs k g hk e2
      omega
  · show Value.ownBlock (if k = shN t then v2 else vs' k) = _
    by_cases hkt : k = shN t
    · rw [if_pos hkt, hv2, hkt, hvs' _ hq]
    · rw [if_neg hkt, hvs' k hk]
  · exact (h.fr.trans (hF.mono hM)).setCell (b := n0 + 1 + 1) (i := shN t) (.inr (by omega)) _

end Go.Proofs.YtenaepdmlknlcaaGreatDoor
