import Derived.Test.YtenaepdmlknlcaaGreatDoorF33
namespace Go.Proofs.YtenaepdmlknlcaaGreatDoor
open Go.RowKit Go.Shelf

theorem wpAnyH_str {P : Program} {md : Region.Mode} {ops : Array Oper} {Q : Exit → Act → World → Prop} {S S' : World → Prop} (hS : ∀ w, S' w → S w) : ∀ (fuel : Nat) (listed : Array Bool) (a : Act) (w : World), wpAnyH P md ops Q S' fuel listed a w → wpAnyH P md ops Q S fuel listed a w
  | 0, _, _, _, h => h
  | fuel + 1, _, _, _, h => ⟨h.1, fun i hi => wpOp_mono (fun a' w' h' => ⟨hS _ h'.1, wpAnyH_str hS fuel _ a' w' h'.2⟩) (h.2 i hi)⟩
theorem wpAnyH_str' {P : Program} {md : Region.Mode} {ops : Array Oper} {Q : Exit → Act → World → Prop} {S S' : World → Prop} (hS : ∀ w, S' w → S w) {fuel : Nat} {listed : Array Bool} {a : Act} {w : World} (h0 : S' w) (h : S' w → wpAnyH P md ops Q S' fuel listed a w) : wpAnyH P md ops Q S fuel listed a w := wpAnyH_str hS _ _ _ _ (h h0)

set_option maxRecDepth 100000 in
set_option maxHeartbeats 2000000 in
theorem text_put (q : Rq) (hq : RqOk q) (hkd : kindZ q = 0) (pa : Option Addr) (pn pc : Nat) (w : World) (hr : RawAt w pa pn q.ps) :
    Calls Tryz.prog 45 #[rqV q (.slice pa pn pc)] w fun e w' => e = .returned (.string (putT (featZ q))) ∧ Below w.heap.size w w' := by
  have HK : Hid (∀ W : World, Calls Tryz.prog 46 #[rqV q (.slice pa pn pc)] W fun e w' => e = .returned (.int .i64 0) ∧ Below W.heap.size W w') := fun W => by rw [← hkd]; exact qkind_any q hq pa pn pc W
  have HT : Hid (∀ W : World, Below w.heap.size w W → Calls Tryz.prog 47 #[rqV q (.slice pa pn pc)] W fun e w' => ∃ (b cap : Nat), e = .returned (.agg #[.int .i64 (featZ q).id, .int .i64 (featZ q).kd, .int .i64 (featZ q).ht, .int .i64 (featZ q).col, .slice (some ⟨b, 0, none⟩) (featZ q).ps.length cap]) ∧ W.heap.size ≤ b ∧ (featZ q).ps.length ≤ cap ∧ Places w'.heap.size w' b 0 (featZ q).ps ∧ Below W.heap.size W w') := fun W hb => qfeat_any q hq pa pn pc W (hr.below hb)
  obtain ⟨⟨i0, i1⟩, ⟨d0, d1⟩, ⟨h0, h1⟩, ⟨c0, c1⟩, hlen, hps⟩ := featZ_bd q
  have HS : Hid ((headT (featZ q)).size ≤ 30) := headT_size (f := featZ q) ⟨by omega, by omega⟩ ⟨h0, h1⟩ ⟨by omega, by omega⟩
  obtain ⟨F, hF⟩ : ∃ T, featZ q = T := ⟨_, rfl⟩
  rw [hF] at HT i0 i1 d0 d1 h0 h1 c0 c1 hlen hps HS
  rw [hF]
  clear hF
  have HP : Hid (∀ p ∈ F.ps, 0 ≤ p.1 ∧ p.1 ≤ 255 ∧ 0 ≤ p.2 ∧ p.2 ≤ 255) := hps
  have HD1 : Hid (∀ W : World, Calls Tryz.prog 21 #[.int .i64 F.id] W fun e w' => e = .returned (.string (decZ F.id)) ∧ w' = W) := fun W => decimal_any F.id (by omega) (by omega) W
  have HD2 : Hid (∀ W : World, Calls Tryz.prog 21 #[.int .i64 F.ht] W fun e w' => e = .returned (.string (decZ F.ht)) ∧ w' = W) := fun W => decimal_any F.ht (by omega) (by omega) W
  have HD3 : Hid (∀ W : World, Calls Tryz.prog 21 #[.int .i64 F.col] W fun e w' => e = .returned (.string (decZ F.col)) ∧ w' = W) := fun W => decimal_any F.col (by omega) (by omega) W
  have hsz1 := decZ_size (n := F.id) (by omega) (by omega)
  have hsz2 := decZ_size (n := F.ht) (by omega) (by omega)
  have hsz3 := decZ_size (n := F.col) (by omega) (by omega)
  have HH : Hid (headT F = ⟨#[112, 117, 116, 32]⟩ ++ decZ F.id ++ ⟨#[32]⟩ ++ kindB F.kd ++ ⟨#[32]⟩ ++ decZ F.ht ++ ⟨#[32]⟩ ++ decZ F.col) := rfl
  have HU : Hid (putT F = F.ps.foldl stepT (headT F)) := rfl
  obtain ⟨hd, hhd⟩ : ∃ hd, headT F = hd := ⟨_, rfl⟩
  rw [hhd] at HH HU HS
  rw [HU.out]
  clear hps hhd HU
  obtain ⟨s1, hs1⟩ : ∃ s, decZ F.id = s := ⟨_, rfl⟩
  obtain ⟨s2, hs2⟩ : ∃ s, decZ F.ht = s := ⟨_, rfl⟩
  obtain ⟨s3, hs3⟩ : ∃ s, decZ F.col = s := ⟨_, rfl⟩
  rw [hs1] at HD1 hsz1 HH
  rw [hs2] at HD2 hsz2 HH
  rw [hs3] at HD3 hsz3 HH
  obtain ⟨fi, fk, fh, fc, ps⟩ := F
  dsimp only at *
  clear hs1 hs2 hs3
  obtain ⟨N, hN⟩ : ∃ N, ps.length = N := ⟨_, rfl⟩
  have hcat1 : (9223372036854775807 < 4 + s1.size) = False := eq_false (by omega)
  have hcat2 : (9223372036854775807 < 4 + s1.size + 1) = False := eq_false (by omega)
  have hcat3 : (9223372036854775807 < 4 + s1.size + 1 + 5) = False := eq_false (by omega)
  have hcat4 : (9223372036854775807 < 4 + s1.size + 1 + 5 + 1) = False := eq_false (by omega)
  have hcat5 : (9223372036854775807 < 4 + s1.size + 1 + 5 + 1 + s2.size) = False := eq_false (by omega)
  have hcat6 : (9223372036854775807 < 4 + s1.size + 1 + 5 + 1 + s2.size + 1) = False := eq_false (by omega)
  have hcat7 : (9223372036854775807 < 4 + s1.size + 1 + 5 + 1 + s2.size + 1 + s3.size) = False := eq_false (by omega)
  have hcat3' : (9223372036854775807 < 4 + s1.size + 1 + 4) = False := eq_false (by omega)
  have hcat4' : (9223372036854775807 < 4 + s1.size + 1 + 4 + 1) = False := eq_false (by omega)
  have hcat5' : (9223372036854775807 < 4 + s1.size + 1 + 4 + 1 + s2.size) = False := eq_false (by omega)
  have hcat6' : (9223372036854775807 < 4 + s1.size + 1 + 4 + 1 + s2.size + 1) = False := eq_false (by omega)
  have hcat7' : (9223372036854775807 < 4 + s1.size + 1 + 4 + 1 + s2.size + 1 + s3.size) = False := eq_false (by omega)
  rw [hN] at HT hlen
  have HPS : Hid (ps.length = N) := hN
  obtain ⟨qk, qa, qb, qc, qd, qps⟩ := q
  dsimp only [rqV] at *
  clear hq hkd hr hN
  have hk3 : fk = 1 ∨ fk = 2 ∨ fk = 3 := by omega
  rcases hk3 with rfl | rfl | rfl
  · go_enter Tryz.func45, Tryz.ntmps45
    go_wp2_with (first
      | (go_at_call 46; refine Calls.mono (HK.out _) ?_; rintro e w1 ⟨rfl, hb1⟩; dsimp only; have hc : ∀ i v, (w.alloc _).cell? ⟨w.heap.size, i, none⟩ = some v → w1.cell? ⟨w.heap.size, i, none⟩ = some v := (fun i v h => (hb1.cell (p := ⟨w.heap.size, i, none⟩) (by simp)).trans h); have k0 := hc 0 (.int .i64 qk) (by simp [go_sem]); have k1 := hc 1 (.int .i64 qa) (by simp [go_sem]); have k2 := hc 2 (.int .i64 qb) (by simp [go_sem]); have k3 := hc 3 (.int .i64 qc) (by simp [go_sem]); have k4 := hc 4 (.int .i64 qd) (by simp [go_sem]); have k5 := hc 5 (.slice pa pn pc) (by simp [go_sem]); clear hc; have hB1 : Below w.heap.size w w1 := ((Below.refl _ _).alloc (Nat.le_refl _) _).trans (hb1.mono (by simp)))
      | (go_at_call 47; refine Calls.mono (HT.out _ hB1) ?_; rintro e w2 ⟨b, cap, rfl, hbl, hcap, hpl, hb2⟩; dsimp only; have hB2 := hB1.trans (hb2.mono hB1.size)))
    have hBq : ∀ o1 o2 : Obj, Below w2.heap.size w2 ((w2.alloc o1).alloc o2).drew := fun o1 o2 => (((Below.refl _ _).alloc (Nat.le_refl _) _).alloc (by simp) _).drew
    go_cut [4] (fun v wc => v = .string hd ∧ wc.cell? ⟨w2.heap.size, 4, none⟩ = some (.slice (some ⟨b, 0, none⟩) N cap) ∧ Below w2.heap.size w2 wc)
    case first =>
      refine wp_region_held_drew (S := fun w' => w'.cell? ⟨w2.heap.size, 0, none⟩ = some (.int .i64 fi) ∧ w'.cell? ⟨w2.heap.size, 1, none⟩ = some (.int .i64 1) ∧ w'.cell? ⟨w2.heap.size, 2, none⟩ = some (.int .i64 fh) ∧ w'.cell? ⟨w2.heap.size, 3, none⟩ = some (.int .i64 fc)) (by kernel_rfl) (by first | (simp [go_sem]; done) | (simp [go_sem, *]; done)) (fun hHeld => ?_)
      refine wpAnyH_take (i := 0) (oi := ⟨some 13, _, _, _, _, _⟩) (v := ?_) rfl (by kernel_rfl) (by kernel_rfl) (by kernel_rfl) (fun _ _ _ h => h) (Or.inl ⟨by rfl, ?_⟩) (by assumption) ?_
      rotate_left
      · intro w hSw; (try dsimp only at hSw); go_simp; (try with_reducible rfl)
      (try simp only [Act.put, List.setIfInBounds_toArray, List.set_cons_zero, List.set_cons_succ])
      refine wpAnyH_take (i := 1) (oi := ⟨some 14, _, _, _, _, _⟩) (v := ?_) rfl (by kernel_rfl) (by kernel_rfl) (by kernel_rfl) (fun _ _ _ h => h) (Or.inl ⟨by rfl, ?_⟩) (by assumption) ?_
      rotate_left
      · intro w hSw; (try dsimp only at hSw); go_simp; (try with_reducible rfl)
      (try simp only [Act.put, List.setIfInBounds_toArray, List.set_cons_zero, List.set_cons_succ])
      refine wpAnyH_take (i := 6) (oi := ⟨some 19, _, _, _, _, _⟩) (v := ?_) rfl (by kernel_rfl) (by kernel_rfl) (by kernel_rfl) (fun _ _ _ h => h) (Or.inl ⟨by rfl, ?_⟩) (by assumption) ?_
      rotate_left
      · intro w hSw; (try dsimp only at hSw); go_simp; (try with_reducible rfl)
      (try simp only [Act.put, List.setIfInBounds_toArray, List.set_cons_zero, List.set_cons_succ])
      refine wpAnyH_take (i := 7) (oi := ⟨some 20, _, _, _, _, _⟩) (v := ?_) rfl (by kernel_rfl) (by kernel_rfl) (by kernel_rfl) (fun _ _ _ h => h) (Or.inl ⟨by rfl, ?_⟩) (by assumption) ?_
      rotate_left
      · intro w hSw; (try dsimp only at hSw); go_simp; (try with_reducible rfl)
      (try simp only [Act.put, List.setIfInBounds_toArray, List.set_cons_zero, List.set_cons_succ])
      refine wpAnyH_take (i := 12) (oi := ⟨some 25, _, _, _, _, _⟩) (v := ?_) rfl (by kernel_rfl) (by kernel_rfl) (by kernel_rfl) (fun _ _ _ h => h) (Or.inl ⟨by rfl, ?_⟩) (by assumption) ?_
      rotate_left
      · intro w hSw; (try dsimp only at hSw); go_simp; (try with_reducible rfl)
      (try simp only [Act.put, List.setIfInBounds_toArray, List.set_cons_zero, List.set_cons_succ])
      refine wpAnyH_take (i := 13) (oi := ⟨some 26, _, _, _, _, _⟩) (v := ?_) rfl (by kernel_rfl) (by kernel_rfl) (by kernel_rfl) (fun _ _ _ h => h) (Or.inl ⟨by rfl, ?_⟩) (by assumption) ?_
      rotate_left
      · intro w hSw; (try dsimp only at hSw); go_simp; (try with_reducible rfl)
      (try simp only [Act.put, List.setIfInBounds_toArray, List.set_cons_zero, List.set_cons_succ])
      refine wpAnyH_take (i := 17) (oi := ⟨some 30, _, _, _, _, _⟩) (v := ?_) rfl (by kernel_rfl) (by kernel_rfl) (by kernel_rfl) (fun _ _ _ h => h) (Or.inl ⟨by rfl, ?_⟩) (by assumption) ?_
      rotate_left
      · intro w hSw; (try dsimp only at hSw); go_simp; (try with_reducible rfl)
      (try simp only [Act.put, List.setIfInBounds_toArray, List.set_cons_zero, List.set_cons_succ])
      refine wpAnyH_take (i := 18) (oi := ⟨some 31, _, _, _, _, _⟩) (v := ?_) rfl (by kernel_rfl) (by kernel_rfl) (by kernel_rfl) (fun _ _ _ h => h) (Or.inl ⟨by rfl, ?_⟩) (by assumption) ?_
      rotate_left
      · intro w hSw; (try dsimp only at hSw); go_simp; (try with_reducible rfl)
      (try simp only [Act.put, List.setIfInBounds_toArray, List.set_cons_zero, List.set_cons_succ])
      refine wpAnyH_ready (rs := [2, 5]) (by kernel_rfl) (by simp) ?_
      refine AllReadyH.cons (o := ⟨some 15, _, _, _, _, _⟩) rfl (fun K hK => ?_) (AllReadyH.cons (o := ⟨some 18, _, _, _, _, _⟩) rfl (fun K hK => ?_) (AllReadyH.nil))
      · first | (go_at_call_of 21 (Value.int IntKind.i64 fi); refine Calls.mono (HD1.out _) ?_; rintro e w3 ⟨rfl, rfl⟩; dsimp only) | (go_simp; go_at_call_of 21 (Value.int IntKind.i64 fi); refine Calls.mono (HD1.out _) ?_; rintro e w3 ⟨rfl, rfl⟩; dsimp only)
        refine hK.out _ _ (by first | (simp [go_sem]; done) | (simp [go_sem, *]; done)) (fun hHeld => ?_)
        clear hK K
        (try simp only [Act.put, List.setIfInBounds_toArray, List.set_cons_zero, List.set_cons_succ])
        refine wpAnyH_take (i := 3) (oi := ⟨some 16, _, _, _, _, _⟩) (v := ?_) rfl (by kernel_rfl) (by kernel_rfl) (by kernel_rfl) (fun _ _ _ h => h) (Or.inl ⟨by rfl, ?_⟩) (by assumption) ?_
        rotate_left
        · intro w hSw; (try dsimp only at hSw); go_simp; (try with_reducible rfl)
        (try simp only [Act.put, List.setIfInBounds_toArray, List.set_cons_zero, List.set_cons_succ])
        refine wpAnyH_take (i := 4) (oi := ⟨some 17, _, _, _, _, _⟩) (v := ?_) rfl (by kernel_rfl) (by kernel_rfl) (by kernel_rfl) (fun _ _ _ h => h) (Or.inl ⟨by rfl, ?_⟩) (by assumption) ?_
        rotate_left
        · intro w hSw; (try dsimp only at hSw); go_simp; (try with_reducible rfl)
        (try simp only [Act.put, List.setIfInBounds_toArray, List.set_cons_zero, List.set_cons_succ])
        refine wpAnyH_ready (rs := [5, 14]) (by kernel_rfl) (by simp) ?_
        refine AllReadyH.cons (o := ⟨some 18, _, _, _, _, _⟩) rfl (fun K hK => ?_) (AllReadyH.cons (o := ⟨some 27, _, _, _, _, _⟩) rfl (fun K hK => ?_) (AllReadyH.nil))
        · go_simp
          refine hK.out _ _ (by first | (simp [go_sem]; done) | (simp [go_sem, *]; done)) (fun hHeld => ?_)
          clear hK K
          (try simp only [Act.put, List.setIfInBounds_toArray, List.set_cons_zero, List.set_cons_succ])
          refine wpAnyH_str' (S' := fun w' => (w'.cell? ⟨w2.heap.size, 0, none⟩ = some (.int .i64 fi) ∧ w'.cell? ⟨w2.heap.size, 1, none⟩ = some (.int .i64 1) ∧ w'.cell? ⟨w2.heap.size, 2, none⟩ = some (.int .i64 fh) ∧ w'.cell? ⟨w2.heap.size, 3, none⟩ = some (.int .i64 fc)) ∧ w'.cell? ⟨w2.heap.size + 1, 1, none⟩ = some (.string ⟨#[112, 111, 105, 110, 116]⟩)) (fun _ h => h.1) ?_ (fun hHeld' => ?_)
          · exact ⟨hHeld, by simp [go_sem]⟩
          refine wpAnyH_take (i := 8) (oi := ⟨some 21, _, _, _, _, _⟩) (v := ?_) rfl (by kernel_rfl) (by kernel_rfl) (by kernel_rfl) (fun _ _ _ h => h) (Or.inl ⟨by rfl, ?_⟩) (by assumption) ?_
          rotate_left
          · intro w hSw; (try dsimp only at hSw); go_simp; (try with_reducible rfl)
          (try simp only [Act.put, List.setIfInBounds_toArray, List.set_cons_zero, List.set_cons_succ])
          refine wpAnyH_take (i := 9) (oi := ⟨some 22, _, _, _, _, _⟩) (v := ?_) rfl (by kernel_rfl) (by kernel_rfl) (by kernel_rfl) (fun _ _ _ h => h) (Or.inl ⟨by rfl, ?_⟩) (by assumption) ?_
          rotate_left
          · intro w hSw; (try dsimp only at hSw); go_simp; (try with_reducible rfl)
          (try simp only [Act.put, List.setIfInBounds_toArray, List.set_cons_zero, List.set_cons_succ])
          refine wpAnyH_take (i := 10) (oi := ⟨some 23, _, _, _, _, _⟩) (v := ?_) rfl (by kernel_rfl) (by kernel_rfl) (by kernel_rfl) (fun _ _ _ h => h) (Or.inl ⟨by rfl, ?_⟩) (by assumption) ?_
          rotate_left
          · intro w hSw; (try dsimp only at hSw); go_simp; (try with_reducible rfl)
          (try simp only [Act.put, List.setIfInBounds_toArray, List.set_cons_zero, List.set_cons_succ])
          refine wpAnyH_take (i := 11) (oi := ⟨some 24, _, _, _, _, _⟩) (v := ?_) rfl (by kernel_rfl) (by kernel_rfl) (by kernel_rfl) (fun _ _ _ h => h) (Or.inl ⟨by rfl, ?_⟩) (by assumption) ?_
          rotate_left
          · intro w hSw; (try dsimp only at hSw); go_simp; (try with_reducible rfl)
          (try simp only [Act.put, List.setIfInBounds_toArray, List.set_cons_zero, List.set_cons_succ])
          refine wpAnyH_ready (rs := [14]) (by kernel_rfl) (by simp) ?_
          refine AllReadyH.cons (o := ⟨some 27, _, _, _, _, _⟩) rfl (fun K hK => ?_) (AllReadyH.nil)
          · first | (go_at_call_of 21 (Value.int IntKind.i64 fh); refine Calls.mono (HD2.out _) ?_; rintro e w3 ⟨rfl, rfl⟩; dsimp only) | (go_simp; go_at_call_of 21 (Value.int IntKind.i64 fh); refine Calls.mono (HD2.out _) ?_; rintro e w3 ⟨rfl, rfl⟩; dsimp only)
            refine hK.out _ _ (by first | (simp [go_sem]; done) | (simp [go_sem, *]; done)) (fun hHeld => ?_)
            clear hK K
            (try simp only [Act.put, List.setIfInBounds_toArray, List.set_cons_zero, List.set_cons_succ])
            refine wpAnyH_take (i := 15) (oi := ⟨some 28, _, _, _, _, _⟩) (v := ?_) rfl (by kernel_rfl) (by kernel_rfl) (by kernel_rfl) (fun _ _ _ h => h) (Or.inl ⟨by rfl, ?_⟩) (by assumption) ?_
            rotate_left
            · intro w hSw; (try dsimp only at hSw); go_simp; (try with_reducible rfl)
            (try simp only [Act.put, List.setIfInBounds_toArray, List.set_cons_zero, List.set_cons_succ])
            refine wpAnyH_take (i := 16) (oi := ⟨some 29, _, _, _, _, _⟩) (v := ?_) rfl (by kernel_rfl) (by kernel_rfl) (by kernel_rfl) (fun _ _ _ h => h) (Or.inl ⟨by rfl, ?_⟩) (by assumption) ?_
            rotate_left
            · intro w hSw; (try dsimp only at hSw); go_simp; (try with_reducible rfl)
            (try simp only [Act.put, List.setIfInBounds_toArray, List.set_cons_zero, List.set_cons_succ])
            refine wpAnyH_ready (rs := [19]) (by kernel_rfl) (by simp) ?_
            refine AllReadyH.cons (o := ⟨some 32, _, _, _, _, _⟩) rfl (fun K hK => ?_) (AllReadyH.nil)
            · first | (go_at_call_of 21 (Value.int IntKind.i64 fc); refine Calls.mono (HD3.out _) ?_; rintro e w3 ⟨rfl, rfl⟩; dsimp only) | (go_simp; go_at_call_of 21 (Value.int IntKind.i64 fc); refine Calls.mono (HD3.out _) ?_; rintro e w3 ⟨rfl, rfl⟩; dsimp only)
              refine hK.out _ _ (by first | (simp [go_sem]; done) | (simp [go_sem, *]; done)) (fun hHeld => ?_)
              clear hK K
              (try simp only [Act.put, List.setIfInBounds_toArray, List.set_cons_zero, List.set_cons_succ])
              refine wpAnyH_take (i := 20) (oi := ⟨some 33, _, _, _, _, _⟩) (v := ?_) rfl (by kernel_rfl) (by kernel_rfl) (by kernel_rfl) (fun _ _ _ h => h) (Or.inl ⟨by rfl, ?_⟩) (by assumption) ?_
              rotate_left
              · intro w hSw; (try dsimp only at hSw); go_simp; (try with_reducible rfl)
              (try simp only [Act.put, List.setIfInBounds_toArray, List.set_cons_zero, List.set_cons_succ])
              refine wpAnyH_take (i := 21) (oi := ⟨some 4, _, _, _, _, _⟩) (v := ?_) rfl (by kernel_rfl) (by kernel_rfl) (by kernel_rfl) (fun _ _ _ h => h) (Or.inl ⟨by rfl, ?_⟩) (by assumption) ?_
              rotate_left
              · intro w hSw; (try dsimp only at hSw); go_simp; (try with_reducible rfl)
              (try simp only [Act.put, List.setIfInBounds_toArray, List.set_cons_zero, List.set_cons_succ])
              refine wpAnyH_done (by kernel_rfl) ?_ _
              go_wp2_with fail
              go_meet
              exact ⟨by rw [HH.out]; rfl, by simp [go_sem], hBq _ _⟩
        · first | (go_at_call_of 21 (Value.int IntKind.i64 fh); refine Calls.mono (HD2.out _) ?_; rintro e w3 ⟨rfl, rfl⟩; dsimp only) | (go_simp; go_at_call_of 21 (Value.int IntKind.i64 fh); refine Calls.mono (HD2.out _) ?_; rintro e w3 ⟨rfl, rfl⟩; dsimp only)
          refine hK.out _ _ (by first | (simp [go_sem]; done) | (simp [go_sem, *]; done)) (fun hHeld => ?_)
          clear hK K
          (try simp only [Act.put, List.setIfInBounds_toArray, List.set_cons_zero, List.set_cons_succ])
          refine wpAnyH_ready (rs := [5, 19]) (by kernel_rfl) (by simp) ?_
          refine AllReadyH.cons (o := ⟨some 18, _, _, _, _, _⟩) rfl (fun K hK => ?_) (AllReadyH.cons (o := ⟨some 32, _, _, _, _, _⟩) rfl (fun K hK => ?_) (AllReadyH.nil))
          · go_simp
            refine hK.out _ _ (by first | (simp [go_sem]; done) | (simp [go_sem, *]; done)) (fun hHeld => ?_)
            clear hK K
            (try simp only [Act.put, List.setIfInBounds_toArray, List.set_cons_zero, List.set_cons_succ])
            refine wpAnyH_str' (S' := fun w' => (w'.cell? ⟨w2.heap.size, 0, none⟩ = some (.int .i64 fi) ∧ w'.cell? ⟨w2.heap.size, 1, none⟩ = some (.int .i64 1) ∧ w'.cell? ⟨w2.heap.size, 2, none⟩ = some (.int .i64 fh) ∧ w'.cell? ⟨w2.heap.size, 3, none⟩ = some (.int .i64 fc)) ∧ w'.cell? ⟨w2.heap.size + 1, 1, none⟩ = some (.string ⟨#[112, 111, 105, 110, 116]⟩)) (fun _ h => h.1) ?_ (fun hHeld' => ?_)
            · exact ⟨hHeld, by simp [go_sem]⟩
            refine wpAnyH_take (i := 8) (oi := ⟨some 21, _, _, _, _, _⟩) (v := ?_) rfl (by kernel_rfl) (by kernel_rfl) (by kernel_rfl) (fun _ _ _ h => h) (Or.inl ⟨by rfl, ?_⟩) (by assumption) ?_
            rotate_left
            · intro w hSw; (try dsimp only at hSw); go_simp; (try with_reducible rfl)
            (try simp only [Act.put, List.setIfInBounds_toArray, List.set_cons_zero, List.set_cons_succ])
            refine wpAnyH_take (i := 9) (oi := ⟨some 22, _, _, _, _, _⟩) (v := ?_) rfl (by kernel_rfl) (by kernel_rfl) (by kernel_rfl) (fun _ _ _ h => h) (Or.inl ⟨by rfl, ?_⟩) (by assumption) ?_
            rotate_left
            · intro w hSw; (try dsimp only at hSw); go_simp; (try with_reducible rfl)
            (try simp only [Act.put, List.setIfInBounds_toArray, List.set_cons_zero, List.set_cons_succ])
            refine wpAnyH_take (i := 10) (oi := ⟨some 23, _, _, _, _, _⟩) (v := ?_) rfl (by kernel_rfl) (by kernel_rfl) (by kernel_rfl) (fun _ _ _ h => h) (Or.inl ⟨by rfl, ?_⟩) (by assumption) ?_
            rotate_left
            · intro w hSw; (try dsimp only at hSw); go_simp; (try with_reducible rfl)
            (try simp only [Act.put, List.setIfInBounds_toArray, List.set_cons_zero, List.set_cons_succ])
            refine wpAnyH_take (i := 11) (oi := ⟨some 24, _, _, _, _, _⟩) (v := ?_) rfl (by kernel_rfl) (by kernel_rfl) (by kernel_rfl) (fun _ _ _ h => h) (Or.inl ⟨by rfl, ?_⟩) (by assumption) ?_
            rotate_left
            · intro w hSw; (try dsimp only at hSw); go_simp; (try with_reducible rfl)
            (try simp only [Act.put, List.setIfInBounds_toArray, List.set_cons_zero, List.set_cons_succ])
            refine wpAnyH_take (i := 15) (oi := ⟨some 28, _, _, _, _, _⟩) (v := ?_) rfl (by kernel_rfl) (by kernel_rfl) (by kernel_rfl) (fun _ _ _ h => h) (Or.inl ⟨by rfl, ?_⟩) (by assumption) ?_
            rotate_left
            · intro w hSw; (try dsimp only at hSw); go_simp; (try with_reducible rfl)
            (try simp only [Act.put, List.setIfInBounds_toArray, List.set_cons_zero, List.set_cons_succ])
            refine wpAnyH_take (i := 16) (oi := ⟨some 29, _, _, _, _, _⟩) (v := ?_) rfl (by kernel_rfl) (by kernel_rfl) (by kernel_rfl) (fun _ _ _ h => h) (Or.inl ⟨by rfl, ?_⟩) (by assumption) ?_
            rotate_left
            · intro w hSw; (try dsimp only at hSw); go_simp; (try with_reducible rfl)
            (try simp only [Act.put, List.setIfInBounds_toArray, List.set_cons_zero, List.set_cons_succ])
            refine wpAnyH_ready (rs := [19]) (by kernel_rfl) (by simp) ?_
            refine AllReadyH.cons (o := ⟨some 32, _, _, _, _, _⟩) rfl (fun K hK => ?_) (AllReadyH.nil)
            · first | (go_at_call_of 21 (Value.int IntKind.i64 fc); refine Calls.mono (HD3.out _) ?_; rintro e w3 ⟨rfl, rfl⟩; dsimp only) | (go_simp; go_at_call_of 21 (Value.int IntKind.i64 fc); refine Calls.mono (HD3.out _) ?_; rintro e w3 ⟨rfl, rfl⟩; dsimp only)
              refine hK.out _ _ (by first | (simp [go_sem]; done) | (simp [go_sem, *]; done)) (fun hHeld => ?_)
              clear hK K
              (try simp only [Act.put, List.setIfInBounds_toArray, List.set_cons_zero, List.set_cons_succ])
              refine wpAnyH_take (i := 20) (oi := ⟨some 33, _, _, _, _, _⟩) (v := ?_) rfl (by kernel_rfl) (by kernel_rfl) (by kernel_rfl) (fun _ _ _ h => h) (Or.inl ⟨by rfl, ?_⟩) (by assumption) ?_
              rotate_left
              · intro w hSw; (try dsimp only at hSw); go_simp; (try with_reducible rfl)
              (try simp only [Act.put, List.setIfInBounds_toArray, List.set_cons_zero, List.set_cons_succ])
              refine wpAnyH_take (i := 21) (oi := ⟨some 4, _, _, _, _, _⟩) (v := ?_) rfl (by kernel_rfl) (by kernel_rfl) (by kernel_rfl) (fun _ _ _ h => h) (Or.inl ⟨by rfl, ?_⟩) (by assumption) ?_
              rotate_left
              · intro w hSw; (try dsimp only at hSw); go_simp; (try with_reducible rfl)
              (try simp only [Act.put, List.setIfInBounds_toArray, List.set_cons_zero, List.set_cons_succ])
              refine wpAnyH_done (by kernel_rfl) ?_ _
              go_wp2_with fail
              go_meet
              exact ⟨by rw [HH.out]; rfl, by simp [go_sem], hBq _ _⟩
          · first | (go_at_call_of 21 (Value.int IntKind.i64 fc); refine Calls.mono (HD3.out _) ?_; rintro e w3 ⟨rfl, rfl⟩; dsimp only) | (go_simp; go_at_call_of 21 (Value.int IntKind.i64 fc); refine Calls.mono (HD3.out _) ?_; rintro e w3 ⟨rfl, rfl⟩; dsimp only)
            refine hK.out _ _ (by first | (simp [go_sem]; done) | (simp [go_sem, *]; done)) (fun hHeld => ?_)
            clear hK K
            (try simp only [Act.put, List.setIfInBounds_toArray, List.set_cons_zero, List.set_cons_succ])
            refine wpAnyH_ready (rs := [5]) (by kernel_rfl) (by simp) ?_
            refine AllReadyH.cons (o := ⟨some 18, _, _, _, _, _⟩) rfl (fun K hK => ?_) (AllReadyH.nil)
            · go_simp
              refine hK.out _ _ (by first | (simp [go_sem]; done) | (simp [go_sem, *]; done)) (fun hHeld => ?_)
              clear hK K
              (try simp only [Act.put, List.setIfInBounds_toArray, List.set_cons_zero, List.set_cons_succ])
              refine wpAnyH_str' (S' := fun w' => (w'.cell? ⟨w2.heap.size, 0, none⟩ = some (.int .i64 fi) ∧ w'.cell? ⟨w2.heap.size, 1, none⟩ = some (.int .i64 1) ∧ w'.cell? ⟨w2.heap.size, 2, none⟩ = some (.int .i64 fh) ∧ w'.cell? ⟨w2.heap.size, 3, none⟩ = some (.int .i64 fc)) ∧ w'.cell? ⟨w2.heap.size + 1, 1, none⟩ = some (.string ⟨#[112, 111, 105, 110, 116]⟩)) (fun _ h => h.1) ?_ (fun hHeld' => ?_)
              · exact ⟨hHeld, by simp [go_sem]⟩
              refine wpAnyH_take (i := 8) (oi := ⟨some 21, _, _, _, _, _⟩) (v := ?_) rfl (by kernel_rfl) (by kernel_rfl) (by kernel_rfl) (fun _ _ _ h => h) (Or.inl ⟨by rfl, ?_⟩) (by assumption) ?_
              rotate_left
              · intro w hSw; (try dsimp only at hSw); go_simp; (try with_reducible rfl)
              (try simp only [Act.put, List.setIfInBounds_toArray, List.set_cons_zero, List.set_cons_succ])
              refine wpAnyH_take (i := 9) (oi := ⟨some 22, _, _, _, _, _⟩) (v := ?_) rfl (by kernel_rfl) (by kernel_rfl) (by kernel_rfl) (fun _ _ _ h => h) (Or.inl ⟨by rfl, ?_⟩) (by assumption) ?_
              rotate_left
              · intro w hSw; (try dsimp only at hSw); go_simp; (try with_reducible rfl)
              (try simp only [Act.put, List.setIfInBounds_toArray, List.set_cons_zero, List.set_cons_succ])
              refine wpAnyH_take (i := 10) (oi := ⟨some 23, _, _, _, _, _⟩) (v := ?_) rfl (by kernel_rfl) (by kernel_rfl) (by kernel_rfl) (fun _ _ _ h => h) (Or.inl ⟨by rfl, ?_⟩) (by assumption) ?_
              rotate_left
              · intro w hSw; (try dsimp only at hSw); go_simp; (try with_reducible rfl)
              (try simp only [Act.put, List.setIfInBounds_toArray, List.set_cons_zero, List.set_cons_succ])
              refine wpAnyH_take (i := 11) (oi := ⟨some 24, _, _, _, _, _⟩) (v := ?_) rfl (by kernel_rfl) (by kernel_rfl) (by kernel_rfl) (fun _ _ _ h => h) (Or.inl ⟨by rfl, ?_⟩) (by assumption) ?_
              rotate_left
              · intro w hSw; (try dsimp only at hSw); go_simp; (try with_reducible rfl)
              (try simp only [Act.put, List.setIfInBounds_toArray, List.set_cons_zero, List.set_cons_succ])
              refine wpAnyH_take (i := 15) (oi := ⟨some 28, _, _, _, _, _⟩) (v := ?_) rfl (by kernel_rfl) (by kernel_rfl) (by kernel_rfl) (fun _ _ _ h => h) (Or.inl ⟨by rfl, ?_⟩) (by assumption) ?_
              rotate_left
              · intro w hSw; (try dsimp only at hSw); go_simp; (try with_reducible rfl)
              (try simp only [Act.put, List.setIfInBounds_toArray, List.set_cons_zero, List.set_cons_succ])
              refine wpAnyH_take (i := 16) (oi := ⟨some 29, _, _, _, _, _⟩) (v := ?_) rfl (by kernel_rfl) (by kernel_rfl) (by kernel_rfl) (fun _ _ _ h => h) (Or.inl ⟨by rfl, ?_⟩) (by assumption) ?_
              rotate_left
              · intro w hSw; (try dsimp only at hSw); go_simp; (try with_reducible rfl)
              (try simp only [Act.put, List.setIfInBounds_toArray, List.set_cons_zero, List.set_cons_succ])
              refine wpAnyH_take (i := 20) (oi := ⟨some 33, _, _, _, _, _⟩) (v := ?_) rfl (by kernel_rfl) (by kernel_rfl) (by kernel_rfl) (fun _ _ _ h => h) (Or.inl ⟨by rfl, ?_⟩) (by assumption) ?_
              rotate_left
              · intro w hSw; (try dsimp only at hSw); go_simp; (try with_reducible rfl)
              (try simp only [Act.put, List.setIfInBounds_toArray, List.set_cons_zero, List.set_cons_succ])
              refine wpAnyH_take (i := 21) (oi := ⟨some 4, _, _, _, _, _⟩) (v := ?_) rfl (by kernel_rfl) (by kernel_rfl) (by kernel_rfl) (fun _ _ _ h => h) (Or.inl ⟨by rfl, ?_⟩) (by assumption) ?_
              rotate_left
              · intro w hSw; (try dsimp only at hSw); go_simp; (try with_reducible rfl)
              (try simp only [Act.put, List.setIfInBounds_toArray, List.set_cons_zero, List.set_cons_succ])
              refine wpAnyH_done (by kernel_rfl) ?_ _
              go_wp2_with fail
              go_meet
              exact ⟨by rw [HH.out]; rfl, by simp [go_sem], hBq _ _⟩
      · go_simp
        refine hK.out _ _ (by first | (simp [go_sem]; done) | (simp [go_sem, *]; done)) (fun hHeld => ?_)
        clear hK K
        (try simp only [Act.put, List.setIfInBounds_toArray, List.set_cons_zero, List.set_cons_succ])
        refine wpAnyH_str' (S' := fun w' => (w'.cell? ⟨w2.heap.size, 0, none⟩ = some (.int .i64 fi) ∧ w'.cell? ⟨w2.heap.size, 1, none⟩ = some (.int .i64 1) ∧ w'.cell? ⟨w2.heap.size, 2, none⟩ = some (.int .i64 fh) ∧ w'.cell? ⟨w2.heap.size, 3, none⟩ = some (.int .i64 fc)) ∧ w'.cell? ⟨w2.heap.size + 1, 1, none⟩ = some (.string ⟨#[112, 111, 105, 110, 116]⟩)) (fun _ h => h.1) ?_ (fun hHeld' => ?_)
        · exact ⟨hHeld, by simp [go_sem]⟩
        refine wpAnyH_take (i := 8) (oi := ⟨some 21, _, _, _, _, _⟩) (v := ?_) rfl (by kernel_rfl) (by kernel_rfl) (by kernel_rfl) (fun _ _ _ h => h) (Or.inl ⟨by rfl, ?_⟩) (by assumption) ?_
        rotate_left
        · intro w hSw; (try dsimp only at hSw); go_simp; (try with_reducible rfl)
        (try simp only [Act.put, List.setIfInBounds_toArray, List.set_cons_zero, List.set_cons_succ])
        refine wpAnyH_take (i := 9) (oi := ⟨some 22, _, _, _, _, _⟩) (v := ?_) rfl (by kernel_rfl) (by kernel_rfl) (by kernel_rfl) (fun _ _ _ h => h) (Or.inl ⟨by rfl, ?_⟩) (by assumption) ?_
        rotate_left
        · intro w hSw; (try dsimp only at hSw); go_simp; (try with_reducible rfl)
        (try simp only [Act.put, List.setIfInBounds_toArray, List.set_cons_zero, List.set_cons_succ])
        refine wpAnyH_ready (rs := [2]) (by kernel_rfl) (by simp) ?_
        refine AllReadyH.cons (o := ⟨some 15, _, _, _, _, _⟩) rfl (fun K hK => ?_) (AllReadyH.nil)
        · first | (go_at_call_of 21 (Value.int IntKind.i64 fi); refine Calls.mono (HD1.out _) ?_; rintro e w3 ⟨rfl, rfl⟩; dsimp only) | (go_simp; go_at_call_of 21 (Value.int IntKind.i64 fi); refine Calls.mono (HD1.out _) ?_; rintro e w3 ⟨rfl, rfl⟩; dsimp only)
          refine hK.out _ _ (by first | (simp [go_sem]; done) | (simp [go_sem, *]; done)) (fun hHeld => ?_)
          clear hK K
          (try simp only [Act.put, List.setIfInBounds_toArray, List.set_cons_zero, List.set_cons_succ])
          refine wpAnyH_take (i := 3) (oi := ⟨some 16, _, _, _, _, _⟩) (v := ?_) rfl (by kernel_rfl) (by kernel_rfl) (by kernel_rfl) (fun _ _ _ h => h) (Or.inl ⟨by rfl, ?_⟩) (by assumption) ?_
          rotate_left
          · intro w hSw; (try dsimp only at hSw); go_simp; (try with_reducible rfl)
          (try simp only [Act.put, List.setIfInBounds_toArray, List.set_cons_zero, List.set_cons_succ])
          refine wpAnyH_take (i := 4) (oi := ⟨some 17, _, _, _, _, _⟩) (v := ?_) rfl (by kernel_rfl) (by kernel_rfl) (by kernel_rfl) (fun _ _ _ h => h) (Or.inl ⟨by rfl, ?_⟩) (by assumption) ?_
          rotate_left
          · intro w hSw; (try dsimp only at hSw); go_simp; (try with_reducible rfl)
          (try simp only [Act.put, List.setIfInBounds_toArray, List.set_cons_zero, List.set_cons_succ])
          refine wpAnyH_take (i := 10) (oi := ⟨some 23, _, _, _, _, _⟩) (v := ?_) rfl (by kernel_rfl) (by kernel_rfl) (by kernel_rfl) (fun _ _ _ h => h) (Or.inl ⟨by rfl, ?_⟩) (by assumption) ?_
          rotate_left
          · intro w hSw; (try dsimp only at hSw); go_simp; (try with_reducible rfl)
          (try simp only [Act.put, List.setIfInBounds_toArray, List.set_cons_zero, List.set_cons_succ])
          refine wpAnyH_take (i := 11) (oi := ⟨some 24, _, _, _, _, _⟩) (v := ?_) rfl (by kernel_rfl) (by kernel_rfl) (by kernel_rfl) (fun _ _ _ h => h) (Or.inl ⟨by rfl, ?_⟩) (by assumption) ?_
          rotate_left
          · intro w hSw; (try dsimp only at hSw); go_simp; (try with_reducible rfl)
          (try simp only [Act.put, List.setIfInBounds_toArray, List.set_cons_zero, List.set_cons_succ])
          refine wpAnyH_ready (rs := [14]) (by kernel_rfl) (by simp) ?_
          refine AllReadyH.cons (o := ⟨some 27, _, _, _, _, _⟩) rfl (fun K hK => ?_) (AllReadyH.nil)
          · first | (go_at_call_of 21 (Value.int IntKind.i64 fh); refine Calls.mono (HD2.out _) ?_; rintro e w3 ⟨rfl, rfl⟩; dsimp only) | (go_simp; go_at_call_of 21 (Value.int IntKind.i64 fh); refine Calls.mono (HD2.out _) ?_; rintro e w3 ⟨rfl, rfl⟩; dsimp only)
            refine hK.out _ _ (by first | (simp [go_sem]; done) | (simp [go_sem, *]; done)) (fun hHeld => ?_)
            clear hK K
            (try simp only [Act.put, List.setIfInBounds_toArray, List.set_cons_zero, List.set_cons_succ])
            refine wpAnyH_take (i := 15) (oi := ⟨some 28, _, _, _, _, _⟩) (v := ?_) rfl (by kernel_rfl) (by kernel_rfl) (by kernel_rfl) (fun _ _ _ h => h) (Or.inl ⟨by rfl, ?_⟩) (by assumption) ?_
            rotate_left
            · intro w hSw; (try dsimp only at hSw); go_simp; (try with_reducible rfl)
            (try simp only [Act.put, List.setIfInBounds_toArray, List.set_cons_zero, List.set_cons_succ])
            refine wpAnyH_take (i := 16) (oi := ⟨some 29, _, _, _, _, _⟩) (v := ?_) rfl (by kernel_rfl) (by kernel_rfl) (by kernel_rfl) (fun _ _ _ h => h) (Or.inl ⟨by rfl, ?_⟩) (by assumption) ?_
            rotate_left
            · intro w hSw; (try dsimp only at hSw); go_simp; (try with_reducible rfl)
            (try simp only [Act.put, List.setIfInBounds_toArray, List.set_cons_zero, List.set_cons_succ])
            refine wpAnyH_ready (rs := [19]) (by kernel_rfl) (by simp) ?_
            refine AllReadyH.cons (o := ⟨some 32, _, _, _, _, _⟩) rfl (fun K hK => ?_) (AllReadyH.nil)
            · first | (go_at_call_of 21 (Value.int IntKind.i64 fc); refine Calls.mono (HD3.out _) ?_; rintro e w3 ⟨rfl, rfl⟩; dsimp only) | (go_simp; go_at_call_of 21 (Value.int IntKind.i64 fc); refine Calls.mono (HD3.out _) ?_; rintro e w3 ⟨rfl, rfl⟩; dsimp only)
              refine hK.out _ _ (by first | (simp [go_sem]; done) | (simp [go_sem, *]; done)) (fun hHeld => ?_)
              clear hK K
              (try simp only [Act.put, List.setIfInBounds_toArray, List.set_cons_zero, List.set_cons_succ])
              refine wpAnyH_take (i := 20) (oi := ⟨some 33, _, _, _, _, _⟩) (v := ?_) rfl (by kernel_rfl) (by kernel_rfl) (by kernel_rfl) (fun _ _ _ h => h) (Or.inl ⟨by rfl, ?_⟩) (by assumption) ?_
              rotate_left
              · intro w hSw; (try dsimp only at hSw); go_simp; (try with_reducible rfl)
              (try simp only [Act.put, List.setIfInBounds_toArray, List.set_cons_zero, List.set_cons_succ])
              refine wpAnyH_take (i := 21) (oi := ⟨some 4, _, _, _, _, _⟩) (v := ?_) rfl (by kernel_rfl) (by kernel_rfl) (by kernel_rfl) (fun _ _ _ h => h) (Or.inl ⟨by rfl, ?_⟩) (by assumption) ?_
              rotate_left
              · intro w hSw; (try dsimp only at hSw); go_simp; (try with_reducible rfl)
              (try simp only [Act.put, List.setIfInBounds_toArray, List.set_cons_zero, List.set_cons_succ])
              refine wpAnyH_done (by kernel_rfl) ?_ _
              go_wp2_with fail
              go_meet
              exact ⟨by rw [HH.out]; rfl, by simp [go_sem], hBq _ _⟩
    case rest =>
      obtain ⟨rfl, kc, hbc⟩ := hcut
      have HBc : Hid (Below w2.heap.size w2 wc) := hbc
      have HPl : Hid (Places w2.heap.size w2 b 0 ps) := hpl
      have HB2 : Hid (Below w.heap.size w w2) := hB2
      go_upto_region 6 with fail
      go_loopw [4, 5] (fun s i wr => ∃ k : Nat, k ≤ N ∧ s = .string ((ps.take k).foldl stepT hd) ∧ i = .int .i64 k ∧ Below wc.heap.size wc wr) (fun _ i _ => N - (intOf i).toNat)
      case atStart => exact ⟨0, Nat.zero_le _, by simp, rfl, Below.refl _ _⟩
      case round =>
        obtain ⟨k, hk, rfl, rfl, hbr⟩ := hrel
        have kr := (hbr.cell (p := ⟨w2.heap.size, 4, none⟩) (World.block_lt_of_cell? wc _ kc)).trans kc
        have HBr : Hid (Below w2.heap.size w2 wr) := HBc.out.trans (hbr.mono HBc.out.size)
        have hsS := fold_size (ps.take k) (fun p hp => HP.out p (List.mem_of_mem_take hp)) hd
        have hsH := HS.out
        rw [List.length_take] at hsS
        obtain ⟨S, hS⟩ : ∃ S, (ps.take k).foldl stepT hd = S := ⟨_, rfl⟩
        rw [hS] at hsS
        by_cases hlt : k < N
        · have hkl : k < ps.length := by rw [HPS.out]; exact hlt
          obtain ⟨⟨x, y⟩, hxy⟩ : ∃ p, ps[k]? = some p := ⟨_, List.getElem?_eq_getElem hkl⟩
          have hbd := HP.out (x, y) (List.mem_of_getElem? hxy)
          obtain ⟨p1, p2⟩ := HPl.out.2 k x y hxy
          have hbl2 : b < w2.heap.size := HPl.out.1
          have p1' := (HBr.out.cell (p := ⟨b, 0 + k * 2, none⟩) hbl2).trans p1
          have p2' := (HBr.out.cell (p := ⟨b, 0 + k * 2 + 1, none⟩) hbl2).trans p2
          rw [Nat.zero_add] at p1' p2'
          have HX : Hid ((ps.take (k + 1)).foldl stepT hd = stepT S (x, y)) := by
            show _ = _
            rw [List.take_add_one, hxy, Option.toList_some, List.foldl_append, hS]
            rfl
          dsimp only at hbd
          have HDx : Hid (∀ W : World, Calls Tryz.prog 21 #[.int .i64 x] W fun e w' => e = .returned (.string (decZ x)) ∧ w' = W) := fun W => decimal_any x (by omega) (by omega) W
          have HDy : Hid (∀ W : World, Calls Tryz.prog 21 #[.int .i64 y] W fun e w' => e = .returned (.string (decZ y)) ∧ w' = W) := fun W => decimal_any y (by omega) (by omega) W
          have hszx := decZ_size (n := x) (by omega) (by omega)
          have hszy := decZ_size (n := y) (by omega) (by omega)
          unfold stepT at HX
          dsimp only at HX
          obtain ⟨sx, hsx⟩ : ∃ s, decZ x = s := ⟨_, rfl⟩
          obtain ⟨sy, hsy⟩ : ∃ s, decZ y = s := ⟨_, rfl⟩
          rw [hsx] at HDx hszx HX
          rw [hsy] at HDy hszy HX
          have hk0 : (0 : Int) ≤ (k : Int) := by omega
          have hkI : (k : Int) < (N : Int) := by omega
          have hg1 : (9223372036854775807 < S.size + 1) = False := eq_false (by omega)
          have hg2 : (9223372036854775807 < S.size + 1 + sx.size) = False := eq_false (by omega)
          have hg3 : (9223372036854775807 < S.size + 1 + sx.size + 1) = False := eq_false (by omega)
          have hg4 : (9223372036854775807 < S.size + 1 + sx.size + 1 + sy.size) = False := eq_false (by omega)
          rw [hS]
          clear hS hsx hsy hcat1 hcat2 hcat3 hcat4 hcat5 hcat6 hcat7 hcat3' hcat4' hcat5' hcat6' hcat7'
          go_wp2_with fail
          go_region_held3 (fun w' => w'.cell? ⟨w2.heap.size, 4, none⟩ = some (.slice (some ⟨b, 0, none⟩) N cap) ∧ w'.cell? ⟨b, k * 2, none⟩ = some (.int .i64 x) ∧ w'.cell? ⟨b, k * 2 + 1, none⟩ = some (.int .i64 y)) (first | (simp [go_sem]; done) | (simp [go_sem, *]; done))
            (first
              | (go_at_call_of 21 (Value.int IntKind.i64 x); refine Calls.mono (HDx.out _) ?_; rintro e w3 ⟨rfl, rfl⟩; dsimp only)
              | (go_at_call_of 21 (Value.int IntKind.i64 y); refine Calls.mono (HDy.out _) ?_; rintro e w3 ⟨rfl, rfl⟩; dsimp only))
          all_goals
            go_wp2_with fail
            exact ⟨⟨k + 1, by omega, by (first | rw [HX.out] | exact congrArg Value.string HX.out.symm | (simp only [HX.out])), by go_num, hbr.drew⟩, by simp [intOf]; omega⟩
        · obtain rfl : k = N := by omega
          have hkN : ¬ (k : Int) < (k : Int) := by omega
          have hall : (ps.take k).foldl stepT hd = ps.foldl stepT hd := by rw [List.take_of_length_le (by rw [HPS.out]; exact Nat.le_refl _)]
          rw [hall] at hS
          rw [hall]
          go_wp2
          go_ret
          exact ⟨rfl, HB2.out.trans (HBr.out.mono HB2.out.size)⟩
  · go_enter Tryz.func45, Tryz.ntmps45
    go_wp2_with (first
      | (go_at_call 46; refine Calls.mono (HK.out _) ?_; rintro e w1 ⟨rfl, hb1⟩; dsimp only; have hc : ∀ i v, (w.alloc _).cell? ⟨w.heap.size, i, none⟩ = some v → w1.cell? ⟨w.heap.size, i, none⟩ = some v := (fun i v h => (hb1.cell (p := ⟨w.heap.size, i, none⟩) (by simp)).trans h); have k0 := hc 0 (.int .i64 qk) (by simp [go_sem]); have k1 := hc 1 (.int .i64 qa) (by simp [go_sem]); have k2 := hc 2 (.int .i64 qb) (by simp [go_sem]); have k3 := hc 3 (.int .i64 qc) (by simp [go_sem]); have k4 := hc 4 (.int .i64 qd) (by simp [go_sem]); have k5 := hc 5 (.slice pa pn pc) (by simp [go_sem]); clear hc; have hB1 : Below w.heap.size w w1 := ((Below.refl _ _).alloc (Nat.le_refl _) _).trans (hb1.mono (by simp)))
      | (go_at_call 47; refine Calls.mono (HT.out _ hB1) ?_; rintro e w2 ⟨b, cap, rfl, hbl, hcap, hpl, hb2⟩; dsimp only; have hB2 := hB1.trans (hb2.mono hB1.size)))
    have hBq : ∀ o1 o2 : Obj, Below w2.heap.size w2 ((w2.alloc o1).alloc o2).drew := fun o1 o2 => (((Below.refl _ _).alloc (Nat.le_refl _) _).alloc (by simp) _).drew
    go_cut [4] (fun v wc => v = .string hd ∧ wc.cell? ⟨w2.heap.size, 4, none⟩ = some (.slice (some ⟨b, 0, none⟩) N cap) ∧ Below w2.heap.size w2 wc)
    case first =>
      refine wp_region_held_drew (S := fun w' => w'.cell? ⟨w2.heap.size, 0, none⟩ = some (.int .i64 fi) ∧ w'.cell? ⟨w2.heap.size, 1, none⟩ = some (.int .i64 2) ∧ w'.cell? ⟨w2.heap.size, 2, none⟩ = some (.int .i64 fh) ∧ w'.cell? ⟨w2.heap.size, 3, none⟩ = some (.int .i64 fc)) (by kernel_rfl) (by first | (simp [go_sem]; done) | (simp [go_sem, *]; done)) (fun hHeld => ?_)
      refine wpAnyH_take (i := 0) (oi := ⟨some 13, _, _, _, _, _⟩) (v := ?_) rfl (by kernel_rfl) (by kernel_rfl) (by kernel_rfl) (fun _ _ _ h => h) (Or.inl ⟨by rfl, ?_⟩) (by assumption) ?_
      rotate_left
      · intro w hSw; (try dsimp only at hSw); go_simp; (try with_reducible rfl)
      (try simp only [Act.put, List.setIfInBounds_toArray, List.set_cons_zero, List.set_cons_succ])
      refine wpAnyH_take (i := 1) (oi := ⟨some 14, _, _, _, _, _⟩) (v := ?_) rfl (by kernel_rfl) (by kernel_rfl) (by kernel_rfl) (fun _ _ _ h => h) (Or.inl ⟨by rfl, ?_⟩) (by assumption) ?_
      rotate_left
      · intro w hSw; (try dsimp only at hSw); go_simp; (try with_reducible rfl)
      (try simp only [Act.put, List.setIfInBounds_toArray, List.set_cons_zero, List.set_cons_succ])
      refine wpAnyH_take (i := 6) (oi := ⟨some 19, _, _, _, _, _⟩) (v := ?_) rfl (by kernel_rfl) (by kernel_rfl) (by kernel_rfl) (fun _ _ _ h => h) (Or.inl ⟨by rfl, ?_⟩) (by assumption) ?_
      rotate_left
      · intro w hSw; (try dsimp only at hSw); go_simp; (try with_reducible rfl)
      (try simp only [Act.put, List.setIfInBounds_toArray, List.set_cons_zero, List.set_cons_succ])
      refine wpAnyH_take (i := 7) (oi := ⟨some 20, _, _, _, _, _⟩) (v := ?_) rfl (by kernel_rfl) (by kernel_rfl) (by kernel_rfl) (fun _ _ _ h => h) (Or.inl ⟨by rfl, ?_⟩) (by assumption) ?_
      rotate_left
      · intro w hSw; (try dsimp only at hSw); go_simp; (try with_reducible rfl)
      (try simp only [Act.put, List.setIfInBounds_toArray, List.set_cons_zero, List.set_cons_succ])
      refine wpAnyH_take (i := 12) (oi := ⟨some 25, _, _, _, _, _⟩) (v := ?_) rfl (by kernel_rfl) (by kernel_rfl) (by kernel_rfl) (fun _ _ _ h => h) (Or.inl ⟨by rfl, ?_⟩) (by assumption) ?_
      rotate_left
      · intro w hSw; (try dsimp only at hSw); go_simp; (try with_reducible rfl)
      (try simp only [Act.put, List.setIfInBounds_toArray, List.set_cons_zero, List.set_cons_succ])
      refine wpAnyH_take (i := 13) (oi := ⟨some 26, _, _, _, _, _⟩) (v := ?_) rfl (by kernel_rfl) (by kernel_rfl) (by kernel_rfl) (fun _ _ _ h => h) (Or.inl ⟨by rfl, ?_⟩) (by assumption) ?_
      rotate_left
      · intro w hSw; (try dsimp only at hSw); go_simp; (try with_reducible rfl)
      (try simp only [Act.put, List.setIfInBounds_toArray, List.set_cons_zero, List.set_cons_succ])
      refine wpAnyH_take (i := 17) (oi := ⟨some 30, _, _, _, _, _⟩) (v := ?_) rfl (by kernel_rfl) (by kernel_rfl) (by kernel_rfl) (fun _ _ _ h => h) (Or.inl ⟨by rfl, ?_⟩) (by assumption) ?_
      rotate_left
      · intro w hSw; (try dsimp only at hSw); go_simp; (try with_reducible rfl)
      (try simp only [Act.put, List.setIfInBounds_toArray, List.set_cons_zero, List.set_cons_succ])
      refine wpAnyH_take (i := 18) (oi := ⟨some 31, _, _, _, _, _⟩) (v := ?_) rfl (by kernel_rfl) (by kernel_rfl) (by kernel_rfl) (fun _ _ _ h => h) (Or.inl ⟨by rfl, ?_⟩) (by assumption) ?_
      rotate_left
      · intro w hSw; (try dsimp only at hSw); go_simp; (try with_reducible rfl)
      (try simp only [Act.put, List.setIfInBounds_toArray, List.set_cons_zero, List.set_cons_succ])
      refine wpAnyH_ready (rs := [2, 5]) (by kernel_rfl) (by simp) ?_
      refine AllReadyH.cons (o := ⟨some 15, _, _, _, _, _⟩) rfl (fun K hK => ?_) (AllReadyH.cons (o := ⟨some 18, _, _, _, _, _⟩) rfl (fun K hK => ?_) (AllReadyH.nil))
      · first | (go_at_call_of 21 (Value.int IntKind.i64 fi); refine Calls.mono (HD1.out _) ?_; rintro e w3 ⟨rfl, rfl⟩; dsimp only) | (go_simp; go_at_call_of 21 (Value.int IntKind.i64 fi); refine Calls.mono (HD1.out _) ?_; rintro e w3 ⟨rfl, rfl⟩; dsimp only)
        refine hK.out _ _ (by first | (simp [go_sem]; done) | (simp [go_sem, *]; done)) (fun hHeld => ?_)
        clear hK K
        (try simp only [Act.put, List.setIfInBounds_toArray, List.set_cons_zero, List.set_cons_succ])
        refine wpAnyH_take (i := 3) (oi := ⟨some 16, _, _, _, _, _⟩) (v := ?_) rfl (by kernel_rfl) (by kernel_rfl) (by kernel_rfl) (fun _ _ _ h => h) (Or.inl ⟨by rfl, ?_⟩) (by assumption) ?_
        rotate_left
        · intro w hSw; (try dsimp only at hSw); go_simp; (try with_reducible rfl)
        (try simp only [Act.put, List.setIfInBounds_toArray, List.set_cons_zero, List.set_cons_succ])
        refine wpAnyH_take (i := 4) (oi := ⟨some 17, _, _, _, _, _⟩) (v := ?_) rfl (by kernel_rfl) (by kernel_rfl) (by kernel_rfl) (fun _ _ _ h => h) (Or.inl ⟨by rfl, ?_⟩) (by assumption) ?_
        rotate_left
        · intro w hSw; (try dsimp only at hSw); go_simp; (try with_reducible rfl)
        (try simp only [Act.put, List.setIfInBounds_toArray, List.set_cons_zero, List.set_cons_succ])
        refine wpAnyH_ready (rs := [5, 14]) (by kernel_rfl) (by simp) ?_
        refine AllReadyH.cons (o := ⟨some 18, _, _, _, _, _⟩) rfl (fun K hK => ?_) (AllReadyH.cons (o := ⟨some 27, _, _, _, _, _⟩) rfl (fun K hK => ?_) (AllReadyH.nil))
        · go_simp
          refine hK.out _ _ (by first | (simp [go_sem]; done) | (simp [go_sem, *]; done)) (fun hHeld => ?_)
          clear hK K
          (try simp only [Act.put, List.setIfInBounds_toArray, List.set_cons_zero, List.set_cons_succ])
          refine wpAnyH_str' (S' := fun w' => (w'.cell? ⟨w2.heap.size, 0, none⟩ = some (.int .i64 fi) ∧ w'.cell? ⟨w2.heap.size, 1, none⟩ = some (.int .i64 2) ∧ w'.cell? ⟨w2.heap.size, 2, none⟩ = some (.int .i64 fh) ∧ w'.cell? ⟨w2.heap.size, 3, none⟩ = some (.int .i64 fc)) ∧ w'.cell? ⟨w2.heap.size + 1, 2, none⟩ = some (.string ⟨#[108, 105, 110, 101]⟩)) (fun _ h => h.1) ?_ (fun hHeld' => ?_)
          · exact ⟨hHeld, by simp [go_sem]⟩
          refine wpAnyH_take (i := 8) (oi := ⟨some 21, _, _, _, _, _⟩) (v := ?_) rfl (by kernel_rfl) (by kernel_rfl) (by kernel_rfl) (fun _ _ _ h => h) (Or.inl ⟨by rfl, ?_⟩) (by assumption) ?_
          rotate_left
          · intro w hSw; (try dsimp only at hSw); go_simp; (try with_reducible rfl)
          (try simp only [Act.put, List.setIfInBounds_toArray, List.set_cons_zero, List.set_cons_succ])
          refine wpAnyH_take (i := 9) (oi := ⟨some 22, _, _, _, _, _⟩) (v := ?_) rfl (by kernel_rfl) (by kernel_rfl) (by kernel_rfl) (fun _ _ _ h => h) (Or.inl ⟨by rfl, ?_⟩) (by assumption) ?_
          rotate_left
          · intro w hSw; (try dsimp only at hSw); go_simp; (try with_reducible rfl)
          (try simp only [Act.put, List.setIfInBounds_toArray, List.set_cons_zero, List.set_cons_succ])
          refine wpAnyH_take (i := 10) (oi := ⟨some 23, _, _, _, _, _⟩) (v := ?_) rfl (by kernel_rfl) (by kernel_rfl) (by kernel_rfl) (fun _ _ _ h => h) (Or.inl ⟨by rfl, ?_⟩) (by assumption) ?_
          rotate_left
          · intro w hSw; (try dsimp only at hSw); go_simp; (try with_reducible rfl)
          (try simp only [Act.put, List.setIfInBounds_toArray, List.set_cons_zero, List.set_cons_succ])
          refine wpAnyH_take (i := 11) (oi := ⟨some 24, _, _, _, _, _⟩) (v := ?_) rfl (by kernel_rfl) (by kernel_rfl) (by kernel_rfl) (fun _ _ _ h => h) (Or.inl ⟨by rfl, ?_⟩) (by assumption) ?_
          rotate_left
          · intro w hSw; (try dsimp only at hSw); go_simp; (try with_reducible rfl)
          (try simp only [Act.put, List.setIfInBounds_toArray, List.set_cons_zero, List.set_cons_succ])
          refine wpAnyH_ready (rs := [14]) (by kernel_rfl) (by simp) ?_
          refine AllReadyH.cons (o := ⟨some 27, _, _, _, _, _⟩) rfl (fun K hK => ?_) (AllReadyH.nil)
          · first | (go_at_call_of 21 (Value.int IntKind.i64 fh); refine Calls.mono (HD2.out _) ?_; rintro e w3 ⟨rfl, rfl⟩; dsimp only) | (go_simp; go_at_call_of 21 (Value.int IntKind.i64 fh); refine Calls.mono (HD2.out _) ?_; rintro e w3 ⟨rfl, rfl⟩; dsimp only)
            refine hK.out _ _ (by first | (simp [go_sem]; done) | (simp [go_sem, *]; done)) (fun hHeld => ?_)
            clear hK K
            (try simp only [Act.put, List.setIfInBounds_toArray, List.set_cons_zero, List.set_cons_succ])
            refine wpAnyH_take (i := 15) (oi := ⟨some 28, _, _, _, _, _⟩) (v := ?_) rfl (by kernel_rfl) (by kernel_rfl) (by kernel_rfl) (fun _ _ _ h => h) (Or.inl ⟨by rfl, ?_⟩) (by assumption) ?_
            rotate_left
            · intro w hSw; (try dsimp only at hSw); go_simp; (try with_reducible rfl)
            (try simp only [Act.put, List.setIfInBounds_toArray, List.set_cons_zero, List.set_cons_succ])
            refine wpAnyH_take (i := 16) (oi := ⟨some 29, _, _, _, _, _⟩) (v := ?_) rfl (by kernel_rfl) (by kernel_rfl) (by kernel_rfl) (fun _ _ _ h => h) (Or.inl ⟨by rfl, ?_⟩) (by assumption) ?_
            rotate_left
            · intro w hSw; (try dsimp only at hSw); go_simp; (try with_reducible rfl)
            (try simp only [Act.put, List.setIfInBounds_toArray, List.set_cons_zero, List.set_cons_succ])
            refine wpAnyH_ready (rs := [19]) (by kernel_rfl) (by simp) ?_
            refine AllReadyH.cons (o := ⟨some 32, _, _, _, _, _⟩) rfl (fun K hK => ?_) (AllReadyH.nil)
            · first | (go_at_call_of 21 (Value.int IntKind.i64 fc); refine Calls.mono (HD3.out _) ?_; rintro e w3 ⟨rfl, rfl⟩; dsimp only) | (go_simp; go_at_call_of 21 (Value.int IntKind.i64 fc); refine Calls.mono (HD3.out _) ?_; rintro e w3 ⟨rfl, rfl⟩; dsimp only)
              refine hK.out _ _ (by first | (simp [go_sem]; done) | (simp [go_sem, *]; done)) (fun hHeld => ?_)
              clear hK K
              (try simp only [Act.put, List.setIfInBounds_toArray, List.set_cons_zero, List.set_cons_succ])
              refine wpAnyH_take (i := 20) (oi := ⟨some 33, _, _, _, _, _⟩) (v := ?_) rfl (by kernel_rfl) (by kernel_rfl) (by kernel_rfl) (fun _ _ _ h => h) (Or.inl ⟨by rfl, ?_⟩) (by assumption) ?_
              rotate_left
              · intro w hSw; (try dsimp only at hSw); go_simp; (try with_reducible rfl)
              (try simp only [Act.put, List.setIfInBounds_toArray, List.set_cons_zero, List.set_cons_succ])
              refine wpAnyH_take (i := 21) (oi := ⟨some 4, _, _, _, _, _⟩) (v := ?_) rfl (by kernel_rfl) (by kernel_rfl) (by kernel_rfl) (fun _ _ _ h => h) (Or.inl ⟨by rfl, ?_⟩) (by assumption) ?_
              rotate_left
              · intro w hSw; (try dsimp only at hSw); go_simp; (try with_reducible rfl)
              (try simp only [Act.put, List.setIfInBounds_toArray, List.set_cons_zero, List.set_cons_succ])
              refine wpAnyH_done (by kernel_rfl) ?_ _
              go_wp2_with fail
              go_meet
              exact ⟨by rw [HH.out]; rfl, by simp [go_sem], hBq _ _⟩
        · first | (go_at_call_of 21 (Value.int IntKind.i64 fh); refine Calls.mono (HD2.out _) ?_; rintro e w3 ⟨rfl, rfl⟩; dsimp only) | (go_simp; go_at_call_of 21 (Value.int IntKind.i64 fh); refine Calls.mono (HD2.out _) ?_; rintro e w3 ⟨rfl, rfl⟩; dsimp only)
          refine hK.out _ _ (by first | (simp [go_sem]; done) | (simp [go_sem, *]; done)) (fun hHeld => ?_)
          clear hK K
          (try simp only [Act.put, List.setIfInBounds_toArray, List.set_cons_zero, List.set_cons_succ])
          refine wpAnyH_ready (rs := [5, 19]) (by kernel_rfl) (by simp) ?_
          refine AllReadyH.cons (o := ⟨some 18, _, _, _, _, _⟩) rfl (fun K hK => ?_) (AllReadyH.cons (o := ⟨some 32, _, _, _, _, _⟩) rfl (fun K hK => ?_) (AllReadyH.nil))
          · go_simp
            refine hK.out _ _ (by first | (simp [go_sem]; done) | (simp [go_sem, *]; done)) (fun hHeld => ?_)
            clear hK K
            (try simp only [Act.put, List.setIfInBounds_toArray, List.set_cons_zero, List.set_cons_succ])
            refine wpAnyH_str' (S' := fun w' => (w'.cell? ⟨w2.heap.size, 0, none⟩ = some (.int .i64 fi) ∧ w'.cell? ⟨w2.heap.size, 1, none⟩ = some (.int .i64 2) ∧ w'.cell? ⟨w2.heap.size, 2, none⟩ = some (.int .i64 fh) ∧ w'.cell? ⟨w2.heap.size, 3, none⟩ = some (.int .i64 fc)) ∧ w'.cell? ⟨w2.heap.size + 1, 2, none⟩ = some (.string ⟨#[108, 105, 110, 101]⟩)) (fun _ h => h.1) ?_ (fun hHeld' => ?_)
            · exact ⟨hHeld, by simp [go_sem]⟩
            refine wpAnyH_take (i := 8) (oi := ⟨some 21, _, _, _, _, _⟩) (v := ?_) rfl (by kernel_rfl) (by kernel_rfl) (by kernel_rfl) (fun _ _ _ h => h) (Or.inl ⟨by rfl, ?_⟩) (by assumption) ?_
            rotate_left
            · intro w hSw; (try dsimp only at hSw); go_simp; (try with_reducible rfl)
            (try simp only [Act.put, List.setIfInBounds_toArray, List.set_cons_zero, List.set_cons_succ])
            refine wpAnyH_take (i := 9) (oi := ⟨some 22, _, _, _, _, _⟩) (v := ?_) rfl (by kernel_rfl) (by kernel_rfl) (by kernel_rfl) (fun _ _ _ h => h) (Or.inl ⟨by rfl, ?_⟩) (by assumption) ?_
            rotate_left
            · intro w hSw; (try dsimp only at hSw); go_simp; (try with_reducible rfl)
            (try simp only [Act.put, List.setIfInBounds_toArray, List.set_cons_zero, List.set_cons_succ])
            refine wpAnyH_take (i := 10) (oi := ⟨some 23, _, _, _, _, _⟩) (v := ?_) rfl (by kernel_rfl) (by kernel_rfl) (by kernel_rfl) (fun _ _ _ h => h) (Or.inl ⟨by rfl, ?_⟩) (by assumption) ?_
            rotate_left
            · intro w hSw; (try dsimp only at hSw); go_simp; (try with_reducible rfl)
            (try simp only [Act.put, List.setIfInBounds_toArray, List.set_cons_zero, List.set_cons_succ])
            refine wpAnyH_take (i := 11) (oi := ⟨some 24, _, _, _, _, _⟩) (v := ?_) rfl (by kernel_rfl) (by kernel_rfl) (by kernel_rfl) (fun _ _ _ h => h) (Or.inl ⟨by rfl, ?_⟩) (by assumption) ?_
            rotate_left
            · intro w hSw; (try dsimp only at hSw); go_simp; (try with_reducible rfl)
            (try simp only [Act.put, List.setIfInBounds_toArray, List.set_cons_zero, List.set_cons_succ])
            refine wpAnyH_take (i := 15) (oi := ⟨some 28, _, _, _, _, _⟩) (v := ?_) rfl (by kernel_rfl) (by kernel_rfl) (by kernel_rfl) (fun _ _ _ h => h) (Or.inl ⟨by rfl, ?_⟩) (by assumption) ?_
            rotate_left
            · intro w hSw; (try dsimp only at hSw); go_simp; (try with_reducible rfl)
            (try simp only [Act.put, List.setIfInBounds_toArray, List.set_cons_zero, List.set_cons_succ])
            refine wpAnyH_take (i := 16) (oi := ⟨some 29, _, _, _, _, _⟩) (v := ?_) rfl (by kernel_rfl) (by kernel_rfl) (by kernel_rfl) (fun _ _ _ h => h) (Or.inl ⟨by rfl, ?_⟩) (by assumption) ?_
            rotate_left
            · intro w hSw; (try dsimp only at hSw); go_simp; (try with_reducible rfl)
            (try simp only [Act.put, List.setIfInBounds_toArray, List.set_cons_zero, List.set_cons_succ])
            refine wpAnyH_ready (rs := [19]) (by kernel_rfl) (by simp) ?_
            refine AllReadyH.cons (o := ⟨some 32, _, _, _, _, _⟩) rfl (fun K hK => ?_) (AllReadyH.nil)
            · first | (go_at_call_of 21 (Value.int IntKind.i64 fc); refine Calls.mono (HD3.out _) ?_; rintro e w3 ⟨rfl, rfl⟩; dsimp only) | (go_simp; go_at_call_of 21 (Value.int IntKind.i64 fc); refine Calls.mono (HD3.out _) ?_; rintro e w3 ⟨rfl, rfl⟩; dsimp only)
              refine hK.out _ _ (by first | (simp [go_sem]; done) | (simp [go_sem, *]; done)) (fun hHeld => ?_)
              clear hK K
              (try simp only [Act.put, List.setIfInBounds_toArray, List.set_cons_zero, List.set_cons_succ])
              refine wpAnyH_take (i := 20) (oi := ⟨some 33, _, _, _, _, _⟩) (v := ?_) rfl (by kernel_rfl) (by kernel_rfl) (by kernel_rfl) (fun _ _ _ h => h) (Or.inl ⟨by rfl, ?_⟩) (by assumption) ?_
              rotate_left
              · intro w hSw; (try dsimp only at hSw); go_simp; (try with_reducible rfl)
              (try simp only [Act.put, List.setIfInBounds_toArray, List.set_cons_zero, List.set_cons_succ])
              refine wpAnyH_take (i := 21) (oi := ⟨some 4, _, _, _, _, _⟩) (v := ?_) rfl (by kernel_rfl) (by kernel_rfl) (by kernel_rfl) (fun _ _ _ h => h) (Or.inl ⟨by rfl, ?_⟩) (by assumption) ?_
              rotate_left
              · intro w hSw; (try dsimp only at hSw); go_simp; (try with_reducible rfl)
              (try simp only [Act.put, List.setIfInBounds_toArray, List.set_cons_zero, List.set_cons_succ])
              refine wpAnyH_done (by kernel_rfl) ?_ _
              go_wp2_with fail
              go_meet
              exact ⟨by rw [HH.out]; rfl, by simp [go_sem], hBq _ _⟩
          · first | (go_at_call_of 21 (Value.int IntKind.i64 fc); refine Calls.mono (HD3.out _) ?_; rintro e w3 ⟨rfl, rfl⟩; dsimp only) | (go_simp; go_at_call_of 21 (Value.int IntKind.i64 fc); refine Calls.mono (HD3.out _) ?_; rintro e w3 ⟨rfl, rfl⟩; dsimp only)
            refine hK.out _ _ (by first | (simp [go_sem]; done) | (simp [go_sem, *]; done)) (fun hHeld => ?_)
            clear hK K
            (try simp only [Act.put, List.setIfInBounds_toArray, List.set_cons_zero, List.set_cons_succ])
            refine wpAnyH_ready (rs := [5]) (by kernel_rfl) (by simp) ?_
            refine AllReadyH.cons (o := ⟨some 18, _, _, _, _, _⟩) rfl (fun K hK => ?_) (AllReadyH.nil)
            · go_simp
              refine hK.out _ _ (by first | (simp [go_sem]; done) | (simp [go_sem, *]; done)) (fun hHeld => ?_)
              clear hK K
              (try simp only [Act.put, List.setIfInBounds_toArray, List.set_cons_zero, List.set_cons_succ])
              refine wpAnyH_str' (S' := fun w' => (w'.cell? ⟨w2.heap.size, 0, none⟩ = some (.int .i64 fi) ∧ w'.cell? ⟨w2.heap.size, 1, none⟩ = some (.int .i64 2) ∧ w'.cell? ⟨w2.heap.size, 2, none⟩ = some (.int .i64 fh) ∧ w'.cell? ⟨w2.heap.size, 3, none⟩ = some (.int .i64 fc)) ∧ w'.cell? ⟨w2.heap.size + 1, 2, none⟩ = some (.string ⟨#[108, 105, 110, 101]⟩)) (fun _ h => h.1) ?_ (fun hHeld' => ?_)
              · exact ⟨hHeld, by simp [go_sem]⟩
              refine wpAnyH_take (i := 8) (oi := ⟨some 21, _, _, _, _, _⟩) (v := ?_) rfl (by kernel_rfl) (by kernel_rfl) (by kernel_rfl) (fun _ _ _ h => h) (Or.inl ⟨by rfl, ?_⟩) (by assumption) ?_
              rotate_left
              · intro w hSw; (try dsimp only at hSw); go_simp; (try with_reducible rfl)
              (try simp only [Act.put, List.setIfInBounds_toArray, List.set_cons_zero, List.set_cons_succ])
              refine wpAnyH_take (i := 9) (oi := ⟨some 22, _, _, _, _, _⟩) (v := ?_) rfl (by kernel_rfl) (by kernel_rfl) (by kernel_rfl) (fun _ _ _ h => h) (Or.inl ⟨by rfl, ?_⟩) (by assumption) ?_
              rotate_left
              · intro w hSw; (try dsimp only at hSw); go_simp; (try with_reducible rfl)
              (try simp only [Act.put, List.setIfInBounds_toArray, List.set_cons_zero, List.set_cons_succ])
              refine wpAnyH_take (i := 10) (oi := ⟨some 23, _, _, _, _, _⟩) (v := ?_) rfl (by kernel_rfl) (by kernel_rfl) (by kernel_rfl) (fun _ _ _ h => h) (Or.inl ⟨by rfl, ?_⟩) (by assumption) ?_
              rotate_left
              · intro w hSw; (try dsimp only at hSw); go_simp; (try with_reducible rfl)
              (try simp only [Act.put, List.setIfInBounds_toArray, List.set_cons_zero, List.set_cons_succ])
              refine wpAnyH_take (i := 11) (oi := ⟨some 24, _, _, _, _, _⟩) (v := ?_) rfl (by kernel_rfl) (by kernel_rfl) (by kernel_rfl) (fun _ _ _ h => h) (Or.inl ⟨by rfl, ?_⟩) (by assumption) ?_
              rotate_left
              · intro w hSw; (try dsimp only at hSw); go_simp; (try with_reducible rfl)
              (try simp only [Act.put, List.setIfInBounds_toArray, List.set_cons_zero, List.set_cons_succ])
              refine wpAnyH_take (i := 15) (oi := ⟨some 28, _, _, _, _, _⟩) (v := ?_) rfl (by kernel_rfl) (by kernel_rfl) (by kernel_rfl) (fun _ _ _ h => h) (Or.inl ⟨by rfl, ?_⟩) (by assumption) ?_
              rotate_left
              · intro w hSw; (try dsimp only at hSw); go_simp; (try with_reducible rfl)
              (try simp only [Act.put, List.setIfInBounds_toArray, List.set_cons_zero, List.set_cons_succ])
              refine wpAnyH_take (i := 16) (oi := ⟨some 29, _, _, _, _, _⟩) (v := ?_) rfl (by kernel_rfl) (by kernel_rfl) (by kernel_rfl) (fun _ _ _ h => h) (Or.inl ⟨by rfl, ?_⟩) (by assumption) ?_
              rotate_left
              · intro w hSw; (try dsimp only at hSw); go_simp; (try with_reducible rfl)
              (try simp only [Act.put, List.setIfInBounds_toArray, List.set_cons_zero, List.set_cons_succ])
              refine wpAnyH_take (i := 20) (oi := ⟨some 33, _, _, _, _, _⟩) (v := ?_) rfl (by kernel_rfl) (by kernel_rfl) (by kernel_rfl) (fun _ _ _ h => h) (Or.inl ⟨by rfl, ?_⟩) (by assumption) ?_
              rotate_left
              · intro w hSw; (try dsimp only at hSw); go_simp; (try with_reducible rfl)
              (try simp only [Act.put, List.setIfInBounds_toArray, List.set_cons_zero, List.set_cons_succ])
              refine wpAnyH_take (i := 21) (oi := ⟨some 4, _, _, _, _, _⟩) (v := ?_) rfl (by kernel_rfl) (by kernel_rfl) (by kernel_rfl) (fun _ _ _ h => h) (Or.inl ⟨by rfl, ?_⟩) (by assumption) ?_
              rotate_left
              · intro w hSw; (try dsimp only at hSw); go_simp; (try with_reducible rfl)
              (try simp only [Act.put, List.setIfInBounds_toArray, List.set_cons_zero, List.set_cons_succ])
              refine wpAnyH_done (by kernel_rfl) ?_ _
              go_wp2_with fail
              go_meet
              exact ⟨by rw [HH.out]; rfl, by simp [go_sem], hBq _ _⟩
      · go_simp
        refine hK.out _ _ (by first | (simp [go_sem]; done) | (simp [go_sem, *]; done)) (fun hHeld => ?_)
        clear hK K
        (try simp only [Act.put, List.setIfInBounds_toArray, List.set_cons_zero, List.set_cons_succ])
        refine wpAnyH_str' (S' := fun w' => (w'.cell? ⟨w2.heap.size, 0, none⟩ = some (.int .i64 fi) ∧ w'.cell? ⟨w2.heap.size, 1, none⟩ = some (.int .i64 2) ∧ w'.cell? ⟨w2.heap.size, 2, none⟩ = some (.int .i64 fh) ∧ w'.cell? ⟨w2.heap.size, 3, none⟩ = some (.int .i64 fc)) ∧ w'.cell? ⟨w2.heap.size + 1, 2, none⟩ = some (.string ⟨#[108, 105, 110, 101]⟩)) (fun _ h => h.1) ?_ (fun hHeld' => ?_)
        · exact ⟨hHeld, by simp [go_sem]⟩
        refine wpAnyH_take (i := 8) (oi := ⟨some 21, _, _, _, _, _⟩) (v := ?_) rfl (by kernel_rfl) (by kernel_rfl) (by kernel_rfl) (fun _ _ _ h => h) (Or.inl ⟨by rfl, ?_⟩) (by assumption) ?_
        rotate_left
        · intro w hSw; (try dsimp only at hSw); go_simp; (try with_reducible rfl)
        (try simp only [Act.put, List.setIfInBounds_toArray, List.set_cons_zero, List.set_cons_succ])
        refine wpAnyH_take (i := 9) (oi := ⟨some 22, _, _, _, _, _⟩) (v := ?_) rfl (by kernel_rfl) (by kernel_rfl) (by kernel_rfl) (fun _ _ _ h => h) (Or.inl ⟨by rfl, ?_⟩) (by assumption) ?_
        rotate_left
        · intro w hSw; (try dsimp only at hSw); go_simp; (try with_reducible rfl)
        (try simp only [Act.put, List.setIfInBounds_toArray, List.set_cons_zero, List.set_cons_succ])
        refine wpAnyH_ready (rs := [2]) (by kernel_rfl) (by simp) ?_
        refine AllReadyH.cons (o := ⟨some 15, _, _, _, _, _⟩) rfl (fun K hK => ?_) (AllReadyH.nil)
        · first | (go_at_call_of 21 (Value.int IntKind.i64 fi); refine Calls.mono (HD1.out _) ?_; rintro e w3 ⟨rfl, rfl⟩; dsimp only) | (go_simp; go_at_call_of 21 (Value.int IntKind.i64 fi); refine Calls.mono (HD1.out _) ?_; rintro e w3 ⟨rfl, rfl⟩; dsimp only)
          refine hK.out _ _ (by first | (simp [go_sem]; done) | (simp [go_sem, *]; done)) (fun hHeld => ?_)
          clear hK K
          (try simp only [Act.put, List.setIfInBounds_toArray, List.set_cons_zero, List.set_cons_succ])
          refine wpAnyH_take (i := 3) (oi := ⟨some 16, _, _, _, _, _⟩) (v := ?_) rfl (by kernel_rfl) (by kernel_rfl) (by kernel_rfl) (fun _ _ _ h => h) (Or.inl ⟨by rfl, ?_⟩) (by assumption) ?_
          rotate_left
          · intro w hSw; (try dsimp only at hSw); go_simp; (try with_reducible rfl)
          (try simp only [Act.put, List.setIfInBounds_toArray, List.set_cons_zero, List.set_cons_succ])
          refine wpAnyH_take (i := 4) (oi := ⟨some 17, _, _, _, _, _⟩) (v := ?_) rfl (by kernel_rfl) (by kernel_rfl) (by kernel_rfl) (fun _ _ _ h => h) (Or.inl ⟨by rfl, ?_⟩) (by assumption) ?_
          rotate_left
          · intro w hSw; (try dsimp only at hSw); go_simp; (try with_reducible rfl)
          (try simp only [Act.put, List.setIfInBounds_toArray, List.set_cons_zero, List.set_cons_succ])
          refine wpAnyH_take (i := 10) (oi := ⟨some 23, _, _, _, _, _⟩) (v := ?_) rfl (by kernel_rfl) (by kernel_rfl) (by kernel_rfl) (fun _ _ _ h => h) (Or.inl ⟨by rfl, ?_⟩) (by assumption) ?_
          rotate_left
          · intro w hSw; (try dsimp only at hSw); go_simp; (try with_reducible rfl)
          (try simp only [Act.put, List.setIfInBounds_toArray, List.set_cons_zero, List.set_cons_succ])
          refine wpAnyH_take (i := 11) (oi := ⟨some 24, _, _, _, _, _⟩) (v := ?_) rfl (by kernel_rfl) (by kernel_rfl) (by kernel_rfl) (fun _ _ _ h => h) (Or.inl ⟨by rfl, ?_⟩) (by assumption) ?_
          rotate_left
          · intro w hSw; (try dsimp only at hSw); go_simp; (try with_reducible rfl)
          (try simp only [Act.put, List.setIfInBounds_toArray, List.set_cons_zero, List.set_cons_succ])
          refine wpAnyH_ready (rs := [14]) (by kernel_rfl) (by simp) ?_
          refine AllReadyH.cons (o := ⟨some 27, _, _, _, _, _⟩) rfl (fun K hK => ?_) (AllReadyH.nil)
          · first | (go_at_call_of 21 (Value.int IntKind.i64 fh); refine Calls.mono (HD2.out _) ?_; rintro e w3 ⟨rfl, rfl⟩; dsimp only) | (go_simp; go_at_call_of 21 (Value.int IntKind.i64 fh); refine Calls.mono (HD2.out _) ?_; rintro e w3 ⟨rfl, rfl⟩; dsimp only)
            refine hK.out _ _ (by first | (simp [go_sem]; done) | (simp [go_sem, *]; done)) (fun hHeld => ?_)
            clear hK K
            (try simp only [Act.put, List.setIfInBounds_toArray, List.set_cons_zero, List.set_cons_succ])
            refine wpAnyH_take (i := 15) (oi := ⟨some 28, _, _, _, _, _⟩) (v := ?_) rfl (by kernel_rfl) (by kernel_rfl) (by kernel_rfl) (fun _ _ _ h => h) (Or.inl ⟨by rfl, ?_⟩) (by assumption) ?_
            rotate_left
            · intro w hSw; (try dsimp only at hSw); go_simp; (try with_reducible rfl)
            (try simp only [Act.put, List.setIfInBounds_toArray, List.set_cons_zero, List.set_cons_succ])
            refine wpAnyH_take (i := 16) (oi := ⟨some 29, _, _, _, _, _⟩) (v := ?_) rfl (by kernel_rfl) (by kernel_rfl) (by kernel_rfl) (fun _ _ _ h => h) (Or.inl ⟨by rfl, ?_⟩) (by assumption) ?_
            rotate_left
            · intro w hSw; (try dsimp only at hSw); go_simp; (try with_reducible rfl)
            (try simp only [Act.put, List.setIfInBounds_toArray, List.set_cons_zero, List.set_cons_succ])
            refine wpAnyH_ready (rs := [19]) (by kernel_rfl) (by simp) ?_
            refine AllReadyH.cons (o := ⟨some 32, _, _, _, _, _⟩) rfl (fun K hK => ?_) (AllReadyH.nil)
            · first | (go_at_call_of 21 (Value.int IntKind.i64 fc); refine Calls.mono (HD3.out _) ?_; rintro e w3 ⟨rfl, rfl⟩; dsimp only) | (go_simp; go_at_call_of 21 (Value.int IntKind.i64 fc); refine Calls.mono (HD3.out _) ?_; rintro e w3 ⟨rfl, rfl⟩; dsimp only)
              refine hK.out _ _ (by first | (simp [go_sem]; done) | (simp [go_sem, *]; done)) (fun hHeld => ?_)
              clear hK K
              (try simp only [Act.put, List.setIfInBounds_toArray, List.set_cons_zero, List.set_cons_succ])
              refine wpAnyH_take (i := 20) (oi := ⟨some 33, _, _, _, _, _⟩) (v := ?_) rfl (by kernel_rfl) (by kernel_rfl) (by kernel_rfl) (fun _ _ _ h => h) (Or.inl ⟨by rfl, ?_⟩) (by assumption) ?_
              rotate_left
              · intro w hSw; (try dsimp only at hSw); go_simp; (try with_reducible rfl)
              (try simp only [Act.put, List.setIfInBounds_toArray, List.set_cons_zero, List.set_cons_succ])
              refine wpAnyH_take (i := 21) (oi := ⟨some 4, _, _, _, _, _⟩) (v := ?_) rfl (by kernel_rfl) (by kernel_rfl) (by kernel_rfl) (fun _ _ _ h => h) (Or.inl ⟨by rfl, ?_⟩) (by assumption) ?_
              rotate_left
              · intro w hSw; (try dsimp only at hSw); go_simp; (try with_reducible rfl)
              (try simp only [Act.put, List.setIfInBounds_toArray, List.set_cons_zero, List.set_cons_succ])
              refine wpAnyH_done (by kernel_rfl) ?_ _
              go_wp2_with fail
              go_meet
              exact ⟨by rw [HH.out]; rfl, by simp [go_sem], hBq _ _⟩
    case rest =>
      obtain ⟨rfl, kc, hbc⟩ := hcut
      have HBc : Hid (Below w2.heap.size w2 wc) := hbc
      have HPl : Hid (Places w2.heap.size w2 b 0 ps) := hpl
      have HB2 : Hid (Below w.heap.size w w2) := hB2
      go_upto_region 6 with fail
      go_loopw [4, 5] (fun s i wr => ∃ k : Nat, k ≤ N ∧ s = .string ((ps.take k).foldl stepT hd) ∧ i = .int .i64 k ∧ Below wc.heap.size wc wr) (fun _ i _ => N - (intOf i).toNat)
      case atStart => exact ⟨0, Nat.zero_le _, by simp, rfl, Below.refl _ _⟩
      case round =>
        obtain ⟨k, hk, rfl, rfl, hbr⟩ := hrel
        have kr := (hbr.cell (p := ⟨w2.heap.size, 4, none⟩) (World.block_lt_of_cell? wc _ kc)).trans kc
        have HBr : Hid (Below w2.heap.size w2 wr) := HBc.out.trans (hbr.mono HBc.out.size)
        have hsS := fold_size (ps.take k) (fun p hp => HP.out p (List.mem_of_mem_take hp)) hd
        have hsH := HS.out
        rw [List.length_take] at hsS
        obtain ⟨S, hS⟩ : ∃ S, (ps.take k).foldl stepT hd = S := ⟨_, rfl⟩
        rw [hS] at hsS
        by_cases hlt : k < N
        · have hkl : k < ps.length := by rw [HPS.out]; exact hlt
          obtain ⟨⟨x, y⟩, hxy⟩ : ∃ p, ps[k]? = some p := ⟨_, List.getElem?_eq_getElem hkl⟩
          have hbd := HP.out (x, y) (List.mem_of_getElem? hxy)
          obtain ⟨p1, p2⟩ := HPl.out.2 k x y hxy
          have hbl2 : b < w2.heap.size := HPl.out.1
          have p1' := (HBr.out.cell (p := ⟨b, 0 + k * 2, none⟩) hbl2).trans p1
          have p2' := (HBr.out.cell (p := ⟨b, 0 + k * 2 + 1, none⟩) hbl2).trans p2
          rw [Nat.zero_add] at p1' p2'
          have HX : Hid ((ps.take (k + 1)).foldl stepT hd = stepT S (x, y)) := by
            show _ = _
            rw [List.take_add_one, hxy, Option.toList_some, List.foldl_append, hS]
            rfl
          dsimp only at hbd
          have HDx : Hid (∀ W : World, Calls Tryz.prog 21 #[.int .i64 x] W fun e w' => e = .returned (.string (decZ x)) ∧ w' = W) := fun W => decimal_any x (by omega) (by omega) W
          have HDy : Hid (∀ W : World, Calls Tryz.prog 21 #[.int .i64 y] W fun e w' => e = .returned (.string (decZ y)) ∧ w' = W) := fun W => decimal_any y (by omega) (by omega) W
          have hszx := decZ_size (n := x) (by omega) (by omega)
          have hszy := decZ_size (n := y) (by omega) (by omega)
          unfold stepT at HX
          dsimp only at HX
          obtain ⟨sx, hsx⟩ : ∃ s, decZ x = s := ⟨_, rfl⟩
          obtain ⟨sy, hsy⟩ : ∃ s, decZ y = s := ⟨_, rfl⟩
          rw [hsx] at HDx hszx HX
          rw [hsy] at HDy hszy HX
          have hk0 : (0 : Int) ≤ (k : Int) := by omega
          have hkI : (k : Int) < (N : Int) := by omega
          have hg1 : (9223372036854775807 < S.size + 1) = False := eq_false (by omega)
          have hg2 : (9223372036854775807 < S.size + 1 + sx.size) = False := eq_false (by omega)
          have hg3 : (9223372036854775807 < S.size + 1 + sx.size + 1) = False := eq_false (by omega)
          have hg4 : (9223372036854775807 < S.size + 1 + sx.size + 1 + sy.size) = False := eq_false (by omega)
          rw [hS]
          clear hS hsx hsy hcat1 hcat2 hcat3 hcat4 hcat5 hcat6 hcat7 hcat3' hcat4' hcat5' hcat6' hcat7'
          go_wp2_with fail
          go_region_held3 (fun w' => w'.cell? ⟨w2.heap.size, 4, none⟩ = some (.slice (some ⟨b, 0, none⟩) N cap) ∧ w'.cell? ⟨b, k * 2, none⟩ = some (.int .i64 x) ∧ w'.cell? ⟨b, k * 2 + 1, none⟩ = some (.int .i64 y)) (first | (simp [go_sem]; done) | (simp [go_sem, *]; done))
            (first
              | (go_at_call_of 21 (Value.int IntKind.i64 x); refine Calls.mono (HDx.out _) ?_; rintro e w3 ⟨rfl, rfl⟩; dsimp only)
              | (go_at_call_of 21 (Value.int IntKind.i64 y); refine Calls.mono (HDy.out _) ?_; rintro e w3 ⟨rfl, rfl⟩; dsimp only))
          all_goals
            go_wp2_with fail
            exact ⟨⟨k + 1, by omega, by (first | rw [HX.out] | exact congrArg Value.string HX.out.symm | (simp only [HX.out])), by go_num, hbr.drew⟩, by simp [intOf]; omega⟩
        · obtain rfl : k = N := by omega
          have hkN : ¬ (k : Int) < (k : Int) := by omega
          have hall : (ps.take k).foldl stepT hd = ps.foldl stepT hd := by rw [List.take_of_length_le (by rw [HPS.out]; exact Nat.le_refl _)]
          rw [hall] at hS
          rw [hall]
          go_wp2
          go_ret
          exact ⟨rfl, HB2.out.trans (HBr.out.mono HB2.out.size)⟩
  · go_enter Tryz.func45, Tryz.ntmps45
    go_wp2_with (first
      | (go_at_call 46; refine Calls.mono (HK.out _) ?_; rintro e w1 ⟨rfl, hb1⟩; dsimp only; have hc : ∀ i v, (w.alloc _).cell? ⟨w.heap.size, i, none⟩ = some v → w1.cell? ⟨w.heap.size, i, none⟩ = some v := (fun i v h => (hb1.cell (p := ⟨w.heap.size, i, none⟩) (by simp)).trans h); have k0 := hc 0 (.int .i64 qk) (by simp [go_sem]); have k1 := hc 1 (.int .i64 qa) (by simp [go_sem]); have k2 := hc 2 (.int .i64 qb) (by simp [go_sem]); have k3 := hc 3 (.int .i64 qc) (by simp [go_sem]); have k4 := hc 4 (.int .i64 qd) (by simp [go_sem]); have k5 := hc 5 (.slice pa pn pc) (by simp [go_sem]); clear hc; have hB1 : Below w.heap.size w w1 := ((Below.refl _ _).alloc (Nat.le_refl _) _).trans (hb1.mono (by simp)))
      | (go_at_call 47; refine Calls.mono (HT.out _ hB1) ?_; rintro e w2 ⟨b, cap, rfl, hbl, hcap, hpl, hb2⟩; dsimp only; have hB2 := hB1.trans (hb2.mono hB1.size)))
    have hBq : ∀ o1 o2 : Obj, Below w2.heap.size w2 ((w2.alloc o1).alloc o2).drew := fun o1 o2 => (((Below.refl _ _).alloc (Nat.le_refl _) _).alloc (by simp) _).drew
    go_cut [4] (fun v wc => v = .string hd ∧ wc.cell? ⟨w2.heap.size, 4, none⟩ = some (.slice (some ⟨b, 0, none⟩) N cap) ∧ Below w2.heap.size w2 wc)
    case first =>
      refine wp_region_held_drew (S := fun w' => w'.cell? ⟨w2.heap.size, 0, none⟩ = some (.int .i64 fi) ∧ w'.cell? ⟨w2.heap.size, 1, none⟩ = some (.int .i64 3) ∧ w'.cell? ⟨w2.heap.size, 2, none⟩ = some (.int .i64 fh) ∧ w'.cell? ⟨w2.heap.size, 3, none⟩ = some (.int .i64 fc)) (by kernel_rfl) (by first | (simp [go_sem]; done) | (simp [go_sem, *]; done)) (fun hHeld => ?_)
      refine wpAnyH_take (i := 0) (oi := ⟨some 13, _, _, _, _, _⟩) (v := ?_) rfl (by kernel_rfl) (by kernel_rfl) (by kernel_rfl) (fun _ _ _ h => h) (Or.inl ⟨by rfl, ?_⟩) (by assumption) ?_
      rotate_left
      · intro w hSw; (try dsimp only at hSw); go_simp; (try with_reducible rfl)
      (try simp only [Act.put, List.setIfInBounds_toArray, List.set_cons_zero, List.set_cons_succ])
      refine wpAnyH_take (i := 1) (oi := ⟨some 14, _, _, _, _, _⟩) (v := ?_) rfl (by kernel_rfl) (by kernel_rfl) (by kernel_rfl) (fun _ _ _ h => h) (Or.inl ⟨by rfl, ?_⟩) (by assumption) ?_
      rotate_left
      · intro w hSw; (try dsimp only at hSw); go_simp; (try with_reducible rfl)
      (try simp only [Act.put, List.setIfInBounds_toArray, List.set_cons_zero, List.set_cons_succ])
      refine wpAnyH_take (i := 6) (oi := ⟨some 19, _, _, _, _, _⟩) (v := ?_) rfl (by kernel_rfl) (by kernel_rfl) (by kernel_rfl) (fun _ _ _ h => h) (Or.inl ⟨by rfl, ?_⟩) (by assumption) ?_
      rotate_left
      · intro w hSw; (try dsimp only at hSw); go_simp; (try with_reducible rfl)
      (try simp only [Act.put, List.setIfInBounds_toArray, List.set_cons_zero, List.set_cons_succ])
      refine wpAnyH_take (i := 7) (oi := ⟨some 20, _, _, _, _, _⟩) (v := ?_) rfl (by kernel_rfl) (by kernel_rfl) (by kernel_rfl) (fun _ _ _ h => h) (Or.inl ⟨by rfl, ?_⟩) (by assumption) ?_
      rotate_left
      · intro w hSw; (try dsimp only at hSw); go_simp; (try with_reducible rfl)
      (try simp only [Act.put, List.setIfInBounds_toArray, List.set_cons_zero, List.set_cons_succ])
      refine wpAnyH_take (i := 12) (oi := ⟨some 25, _, _, _, _, _⟩) (v := ?_) rfl (by kernel_rfl) (by kernel_rfl) (by kernel_rfl) (fun _ _ _ h => h) (Or.inl ⟨by rfl, ?_⟩) (by assumption) ?_
      rotate_left
      · intro w hSw; (try dsimp only at hSw); go_simp; (try with_reducible rfl)
      (try simp only [Act.put, List.setIfInBounds_toArray, List.set_cons_zero, List.set_cons_succ])
      refine wpAnyH_take (i := 13) (oi := ⟨some 26, _, _, _, _, _⟩) (v := ?_) rfl (by kernel_rfl) (by kernel_rfl) (by kernel_rfl) (fun _ _ _ h => h) (Or.inl ⟨by rfl, ?_⟩) (by assumption) ?_
      rotate_left
      · intro w hSw; (try dsimp only at hSw); go_simp; (try with_reducible rfl)
      (try simp only [Act.put, List.setIfInBounds_toArray, List.set_cons_zero, List.set_cons_succ])
      refine wpAnyH_take (i := 17) (oi := ⟨some 30, _, _, _, _, _⟩) (v := ?_) rfl (by kernel_rfl) (by kernel_rfl) (by kernel_rfl) (fun _ _ _ h => h) (Or.inl ⟨by rfl, ?_⟩) (by assumption) ?_
      rotate_left
      · intro w hSw; (try dsimp only at hSw); go_simp; (try with_reducible rfl)
      (try simp only [Act.put, List.setIfInBounds_toArray, List.set_cons_zero, List.set_cons_succ])
      refine wpAnyH_take (i := 18) (oi := ⟨some 31, _, _, _, _, _⟩) (v := ?_) rfl (by kernel_rfl) (by kernel_rfl) (by kernel_rfl) (fun _ _ _ h => h) (Or.inl ⟨by rfl, ?_⟩) (by assumption) ?_
      rotate_left
      · intro w hSw; (try dsimp only at hSw); go_simp; (try with_reducible rfl)
      (try simp only [Act.put, List.setIfInBounds_toArray, List.set_cons_zero, List.set_cons_succ])
      refine wpAnyH_ready (rs := [2, 5]) (by kernel_rfl) (by simp) ?_
      refine AllReadyH.cons (o := ⟨some 15, _, _, _, _, _⟩) rfl (fun K hK => ?_) (AllReadyH.cons (o := ⟨some 18, _, _, _, _, _⟩) rfl (fun K hK => ?_) (AllReadyH.nil))
      · first | (go_at_call_of 21 (Value.int IntKind.i64 fi); refine Calls.mono (HD1.out _) ?_; rintro e w3 ⟨rfl, rfl⟩; dsimp only) | (go_simp; go_at_call_of 21 (Value.int IntKind.i64 fi); refine Calls.mono (HD1.out _) ?_; rintro e w3 ⟨rfl, rfl⟩; dsimp only)
        refine hK.out _ _ (by first | (simp [go_sem]; done) | (simp [go_sem, *]; done)) (fun hHeld => ?_)
        clear hK K
        (try simp only [Act.put, List.setIfInBounds_toArray, List.set_cons_zero, List.set_cons_succ])
        refine wpAnyH_take (i := 3) (oi := ⟨some 16, _, _, _, _, _⟩) (v := ?_) rfl (by kernel_rfl) (by kernel_rfl) (by kernel_rfl) (fun _ _ _ h => h) (Or.inl ⟨by rfl, ?_⟩) (by assumption) ?_
        rotate_left
        · intro w hSw; (try dsimp only at hSw); go_simp; (try with_reducible rfl)
        (try simp only [Act.put, List.setIfInBounds_toArray, List.set_cons_zero, List.set_cons_succ])
        refine wpAnyH_take (i := 4) (oi := ⟨some 17, _, _, _, _, _⟩) (v := ?_) rfl (by kernel_rfl) (by kernel_rfl) (by kernel_rfl) (fun _ _ _ h => h) (Or.inl ⟨by rfl, ?_⟩) (by assumption) ?_
        rotate_left
        · intro w hSw; (try dsimp only at hSw); go_simp; (try with_reducible rfl)
        (try simp only [Act.put, List.setIfInBounds_toArray, List.set_cons_zero, List.set_cons_succ])
        refine wpAnyH_ready (rs := [5, 14]) (by kernel_rfl) (by simp) ?_
        refine AllReadyH.cons (o := ⟨some 18, _, _, _, _, _⟩) rfl (fun K hK => ?_) (AllReadyH.cons (o := ⟨some 27, _, _, _, _, _⟩) rfl (fun K hK => ?_) (AllReadyH.nil))
        · go_simp
          refine hK.out _ _ (by first | (simp [go_sem]; done) | (simp [go_sem, *]; done)) (fun hHeld => ?_)
          clear hK K
          (try simp only [Act.put, List.setIfInBounds_toArray, List.set_cons_zero, List.set_cons_succ])
          refine wpAnyH_str' (S' := fun w' => (w'.cell? ⟨w2.heap.size, 0, none⟩ = some (.int .i64 fi) ∧ w'.cell? ⟨w2.heap.size, 1, none⟩ = some (.int .i64 3) ∧ w'.cell? ⟨w2.heap.size, 2, none⟩ = some (.int .i64 fh) ∧ w'.cell? ⟨w2.heap.size, 3, none⟩ = some (.int .i64 fc)) ∧ w'.cell? ⟨w2.heap.size + 1, 3, none⟩ = some (.string ⟨#[97, 114, 101, 97]⟩)) (fun _ h => h.1) ?_ (fun hHeld' => ?_)
          · exact ⟨hHeld, by simp [go_sem]⟩
          refine wpAnyH_take (i := 8) (oi := ⟨some 21, _, _, _, _, _⟩) (v := ?_) rfl (by kernel_rfl) (by kernel_rfl) (by kernel_rfl) (fun _ _ _ h => h) (Or.inl ⟨by rfl, ?_⟩) (by assumption) ?_
          rotate_left
          · intro w hSw; (try dsimp only at hSw); go_simp; (try with_reducible rfl)
          (try simp only [Act.put, List.setIfInBounds_toArray, List.set_cons_zero, List.set_cons_succ])
          refine wpAnyH_take (i := 9) (oi := ⟨some 22, _, _, _, _, _⟩) (v := ?_) rfl (by kernel_rfl) (by kernel_rfl) (by kernel_rfl) (fun _ _ _ h => h) (Or.inl ⟨by rfl, ?_⟩) (by assumption) ?_
          rotate_left
          · intro w hSw; (try dsimp only at hSw); go_simp; (try with_reducible rfl)
          (try simp only [Act.put, List.setIfInBounds_toArray, List.set_cons_zero, List.set_cons_succ])
          refine wpAnyH_take (i := 10) (oi := ⟨some 23, _, _, _, _, _⟩) (v := ?_) rfl (by kernel_rfl) (by kernel_rfl) (by kernel_rfl) (fun _ _ _ h => h) (Or.inl ⟨by rfl, ?_⟩) (by assumption) ?_
          rotate_left
          · intro w hSw; (try dsimp only at hSw); go_simp; (try with_reducible rfl)
          (try simp only [Act.put, List.setIfInBounds_toArray, List.set_cons_zero, List.set_cons_succ])
          refine wpAnyH_take (i := 11) (oi := ⟨some 24, _, _, _, _, _⟩) (v := ?_) rfl (by kernel_rfl) (by kernel_rfl) (by kernel_rfl) (fun _ _ _ h => h) (Or.inl ⟨by rfl, ?_⟩) (by assumption) ?_
          rotate_left
          · intro w hSw; (try dsimp only at hSw); go_simp; (try with_reducible rfl)
          (try simp only [Act.put, List.setIfInBounds_toArray, List.set_cons_zero, List.set_cons_succ])
          refine wpAnyH_ready (rs := [14]) (by kernel_rfl) (by simp) ?_
          refine AllReadyH.cons (o := ⟨some 27, _, _, _, _, _⟩) rfl (fun K hK => ?_) (AllReadyH.nil)
          · first | (go_at_call_of 21 (Value.int IntKind.i64 fh); refine Calls.mono (HD2.out _) ?_; rintro e w3 ⟨rfl, rfl⟩; dsimp only) | (go_simp; go_at_call_of 21 (Value.int IntKind.i64 fh); refine Calls.mono (HD2.out _) ?_; rintro e w3 ⟨rfl, rfl⟩; dsimp only)
            refine hK.out _ _ (by first | (simp [go_sem]; done) | (simp [go_sem, *]; done)) (fun hHeld => ?_)
            clear hK K
            (try simp only [Act.put, List.setIfInBounds_toArray, List.set_cons_zero, List.set_cons_succ])
            refine wpAnyH_take (i := 15) (oi := ⟨some 28, _, _, _, _, _⟩) (v := ?_) rfl (by kernel_rfl) (by kernel_rfl) (by kernel_rfl) (fun _ _ _ h => h) (Or.inl ⟨by rfl, ?_⟩) (by assumption) ?_
            rotate_left
            · intro w hSw; (try dsimp only at hSw); go_simp; (try with_reducible rfl)
            (try simp only [Act.put, List.setIfInBounds_toArray, List.set_cons_zero, List.set_cons_succ])
            refine wpAnyH_take (i := 16) (oi := ⟨some 29, _, _, _, _, _⟩) (v := ?_) rfl (by kernel_rfl) (by kernel_rfl) (by kernel_rfl) (fun _ _ _ h => h) (Or.inl ⟨by rfl, ?_⟩) (by assumption) ?_
            rotate_left
            · intro w hSw; (try dsimp only at hSw); go_simp; (try with_reducible rfl)
            (try simp only [Act.put, List.setIfInBounds_toArray, List.set_cons_zero, List.set_cons_succ])
            refine wpAnyH_ready (rs := [19]) (by kernel_rfl) (by simp) ?_
            refine AllReadyH.cons (o := ⟨some 32, _, _, _, _, _⟩) rfl (fun K hK => ?_) (AllReadyH.nil)
            · first | (go_at_call_of 21 (Value.int IntKind.i64 fc); refine Calls.mono (HD3.out _) ?_; rintro e w3 ⟨rfl, rfl⟩; dsimp only) | (go_simp; go_at_call_of 21 (Value.int IntKind.i64 fc); refine Calls.mono (HD3.out _) ?_; rintro e w3 ⟨rfl, rfl⟩; dsimp only)
              refine hK.out _ _ (by first | (simp [go_sem]; done) | (simp [go_sem, *]; done)) (fun hHeld => ?_)
              clear hK K
              (try simp only [Act.put, List.setIfInBounds_toArray, List.set_cons_zero, List.set_cons_succ])
              refine wpAnyH_take (i := 20) (oi := ⟨some 33, _, _, _, _, _⟩) (v := ?_) rfl (by kernel_rfl) (by kernel_rfl) (by kernel_rfl) (fun _ _ _ h => h) (Or.inl ⟨by rfl, ?_⟩) (by assumption) ?_
              rotate_left
              · intro w hSw; (try dsimp only at hSw); go_simp; (try with_reducible rfl)
              (try simp only [Act.put, List.setIfInBounds_toArray, List.set_cons_zero, List.set_cons_succ])
              refine wpAnyH_take (i := 21) (oi := ⟨some 4, _, _, _, _, _⟩) (v := ?_) rfl (by kernel_rfl) (by kernel_rfl) (by kernel_rfl) (fun _ _ _ h => h) (Or.inl ⟨by rfl, ?_⟩) (by assumption) ?_
              rotate_left
              · intro w hSw; (try dsimp only at hSw); go_simp; (try with_reducible rfl)
              (try simp only [Act.put, List.setIfInBounds_toArray, List.set_cons_zero, List.set_cons_succ])
              refine wpAnyH_done (by kernel_rfl) ?_ _
              go_wp2_with fail
              go_meet
              exact ⟨by rw [HH.out]; rfl, by simp [go_sem], hBq _ _⟩
        · first | (go_at_call_of 21 (Value.int IntKind.i64 fh); refine Calls.mono (HD2.out _) ?_; rintro e w3 ⟨rfl, rfl⟩; dsimp only) | (go_simp; go_at_call_of 21 (Value.int IntKind.i64 fh); refine Calls.mono (HD2.out _) ?_; rintro e w3 ⟨rfl, rfl⟩; dsimp only)
          refine hK.out _ _ (by first | (simp [go_sem]; done) | (simp [go_sem, *]; done)) (fun hHeld => ?_)
          clear hK K
          (try simp only [Act.put, List.setIfInBounds_toArray, List.set_cons_zero, List.set_cons_succ])
          refine wpAnyH_ready (rs := [5, 19]) (by kernel_rfl) (by simp) ?_
          refine AllReadyH.cons (o := ⟨some 18, _, _, _, _, _⟩) rfl (fun K hK => ?_) (AllReadyH.cons (o := ⟨some 32, _, _, _, _, _⟩) rfl (fun K hK => ?_) (AllReadyH.nil))
          · go_simp
            refine hK.out _ _ (by first | (simp [go_sem]; done) | (simp [go_sem, *]; done)) (fun hHeld => ?_)
            clear hK K
            (try simp only [Act.put, List.setIfInBounds_toArray, List.set_cons_zero, List.set_cons_succ])
            refine wpAnyH_str' (S' := fun w' => (w'.cell? ⟨w2.heap.size, 0, none⟩ = some (.int .i64 fi) ∧ w'.cell? ⟨w2.heap.size, 1, none⟩ = some (.int .i64 3) ∧ w'.cell? ⟨w2.heap.size, 2, none⟩ = some (.int .i64 fh) ∧ w'.cell? ⟨w2.heap.size, 3, none⟩ = some (.int .i64 fc)) ∧ w'.cell? ⟨w2.heap.size + 1, 3, none⟩ = some (.string ⟨#[97, 114, 101, 97]⟩)) (fun _ h => h.1) ?_ (fun hHeld' => ?_)
            · exact ⟨hHeld, by simp [go_sem]⟩
            refine wpAnyH_take (i := 8) (oi := ⟨some 21, _, _, _, _, _⟩) (v := ?_) rfl (by kernel_rfl) (by kernel_rfl) (by kernel_rfl) (fun _ _ _ h => h) (Or.inl ⟨by rfl, ?_⟩) (by assumption) ?_
            rotate_left
            · intro w hSw; (try dsimp only at hSw); go_simp; (try with_reducible rfl)
            (try simp only [Act.put, List.setIfInBounds_toArray, List.set_cons_zero, List.set_cons_succ])
            refine wpAnyH_take (i := 9) (oi := ⟨some 22, _, _, _, _, _⟩) (v := ?_) rfl (by kernel_rfl) (by kernel_rfl) (by kernel_rfl) (fun _ _ _ h => h) (Or.inl ⟨by rfl, ?_⟩) (by assumption) ?_
            rotate_left
            · intro w hSw; (try dsimp only at hSw); go_simp; (try with_reducible rfl)
            (try simp only [Act.put, List.setIfInBounds_toArray, List.set_cons_zero, List.set_cons_succ])
            refine wpAnyH_take (i := 10) (oi := ⟨some 23, _, _, _, _, _⟩) (v := ?_) rfl (by kernel_rfl) (by kernel_rfl) (by kernel_rfl) (fun _ _ _ h => h) (Or.inl ⟨by rfl, ?_⟩) (by assumption) ?_
            rotate_left
            · intro w hSw; (try dsimp only at hSw); go_simp; (try with_reducible rfl)
            (try simp only [Act.put, List.setIfInBounds_toArray, List.set_cons_zero, List.set_cons_succ])
            refine wpAnyH_take (i := 11) (oi := ⟨some 24, _, _, _, _, _⟩) (v := ?_) rfl (by kernel_rfl) (by kernel_rfl) (by kernel_rfl) (fun _ _ _ h => h) (Or.inl ⟨by rfl, ?_⟩) (by assumption) ?_
            rotate_left
            · intro w hSw; (try dsimp only at hSw); go_simp; (try with_reducible rfl)
            (try simp only [Act.put, List.setIfInBounds_toArray, List.set_cons_zero, List.set_cons_succ])
            refine wpAnyH_take (i := 15) (oi := ⟨some 28, _, _, _, _, _⟩) (v := ?_) rfl (by kernel_rfl) (by kernel_rfl) (by kernel_rfl) (fun _ _ _ h => h) (Or.inl ⟨by rfl, ?_⟩) (by assumption) ?_
            rotate_left
            · intro w hSw; (try dsimp only at hSw); go_simp; (try with_reducible rfl)
            (try simp only [Act.put, List.setIfInBounds_toArray, List.set_cons_zero, List.set_cons_succ])
            refine wpAnyH_take (i := 16) (oi := ⟨some 29, _, _, _, _, _⟩) (v := ?_) rfl (by kernel_rfl) (by kernel_rfl) (by kernel_rfl) (fun _ _ _ h => h) (Or.inl ⟨by rfl, ?_⟩) (by assumption) ?_
            rotate_left
            · intro w hSw; (try dsimp only at hSw); go_simp; (try with_reducible rfl)
            (try simp only [Act.put, List.setIfInBounds_toArray, List.set_cons_zero, List.set_cons_succ])
            refine wpAnyH_ready (rs := [19]) (by kernel_rfl) (by simp) ?_
            refine AllReadyH.cons (o := ⟨some 32, _, _, _, _, _⟩) rfl (fun K hK => ?_) (AllReadyH.nil)
            · first | (go_at_call_of 21 (Value.int IntKind.i64 fc); refine Calls.mono (HD3.out _) ?_; rintro e w3 ⟨rfl, rfl⟩; dsimp only) | (go_simp; go_at_call_of 21 (Value.int IntKind.i64 fc); refine Calls.mono (HD3.out _) ?_; rintro e w3 ⟨rfl, rfl⟩; dsimp only)
              refine hK.out _ _ (by first | (simp [go_sem]; done) | (simp [go_sem, *]; done)) (fun hHeld => ?_)
              clear hK K
              (try simp only [Act.put, List.setIfInBounds_toArray, List.set_cons_zero, List.set_cons_succ])
              refine wpAnyH_take (i := 20) (oi := ⟨some 33, _, _, _, _, _⟩) (v := ?_) rfl (by kernel_rfl) (by kernel_rfl) (by kernel_rfl) (fun _ _ _ h => h) (Or.inl ⟨by rfl, ?_⟩) (by assumption) ?_
              rotate_left
              · intro w hSw; (try dsimp only at hSw); go_simp; (try with_reducible rfl)
              (try simp only [Act.put, List.setIfInBounds_toArray, List.set_cons_zero, List.set_cons_succ])
              refine wpAnyH_take (i := 21) (oi := ⟨some 4, _, _, _, _, _⟩) (v := ?_) rfl (by kernel_rfl) (by kernel_rfl) (by kernel_rfl) (fun _ _ _ h => h) (Or.inl ⟨by rfl, ?_⟩) (by assumption) ?_
              rotate_left
              · intro w hSw; (try dsimp only at hSw); go_simp; (try with_reducible rfl)
              (try simp only [Act.put, List.setIfInBounds_toArray, List.set_cons_zero, List.set_cons_succ])
              refine wpAnyH_done (by kernel_rfl) ?_ _
              go_wp2_with fail
              go_meet
              exact ⟨by rw [HH.out]; rfl, by simp [go_sem], hBq _ _⟩
          · first | (go_at_call_of 21 (Value.int IntKind.i64 fc); refine Calls.mono (HD3.out _) ?_; rintro e w3 ⟨rfl, rfl⟩; dsimp only) | (go_simp; go_at_call_of 21 (Value.int IntKind.i64 fc); refine Calls.mono (HD3.out _) ?_; rintro e w3 ⟨rfl, rfl⟩; dsimp only)
            refine hK.out _ _ (by first | (simp [go_sem]; done) | (simp [go_sem, *]; done)) (fun hHeld => ?_)
            clear hK K
            (try simp only [Act.put, List.setIfInBounds_toArray, List.set_cons_zero, List.set_cons_succ])
            refine wpAnyH_ready (rs := [5]) (by kernel_rfl) (by simp) ?_
            refine AllReadyH.cons (o := ⟨some 18, _, _, _, _, _⟩) rfl (fun K hK => ?_) (AllReadyH.nil)
            · go_simp
              refine hK.out _ _ (by first | (simp [go_sem]; done) | (simp [go_sem, *]; done)) (fun hHeld => ?_)
              clear hK K
              (try simp only [Act.put, List.setIfInBounds_toArray, List.set_cons_zero, List.set_cons_succ])
              refine wpAnyH_str' (S' := fun w' => (w'.cell? ⟨w2.heap.size, 0, none⟩ = some (.int .i64 fi) ∧ w'.cell? ⟨w2.heap.size, 1, none⟩ = some (.int .i64 3) ∧ w'.cell? ⟨w2.heap.size, 2, none⟩ = some (.int .i64 fh) ∧ w'.cell? ⟨w2.heap.size, 3, none⟩ = some (.int .i64 fc)) ∧ w'.cell? ⟨w2.heap.size + 1, 3, none⟩ = some (.string ⟨#[97, 114, 101, 97]⟩)) (fun _ h => h.1) ?_ (fun hHeld' => ?_)
              · exact ⟨hHeld, by simp [go_sem]⟩
              refine wpAnyH_take (i := 8) (oi := ⟨some 21, _, _, _, _, _⟩) (v := ?_) rfl (by kernel_rfl) (by kernel_rfl) (by kernel_rfl) (fun _ _ _ h => h) (Or.inl ⟨by rfl, ?_⟩) (by assumption) ?_
              rotate_left
              · intro w hSw; (try dsimp only at hSw); go_simp; (try with_reducible rfl)
              (try simp only [Act.put, List.setIfInBounds_toArray, List.set_cons_zero, List.set_cons_succ])
              refine wpAnyH_take (i := 9) (oi := ⟨some 22, _, _, _, _, _⟩) (v := ?_) rfl (by kernel_rfl) (by kernel_rfl) (by kernel_rfl) (fun _ _ _ h => h) (Or.inl ⟨by rfl, ?_⟩) (by assumption) ?_
              rotate_left
              · intro w hSw; (try dsimp only at hSw); go_simp; (try with_reducible rfl)
              (try simp only [Act.put, List.setIfInBounds_toArray, List.set_cons_zero, List.set_cons_succ])
              refine wpAnyH_take (i := 10) (oi := ⟨some 23, _, _, _, _, _⟩) (v := ?_) rfl (by kernel_rfl) (by kernel_rfl) (by kernel_rfl) (fun _ _ _ h => h) (Or.inl ⟨by rfl, ?_⟩) (by assumption) ?_
              rotate_left
              · intro w hSw; (try dsimp only at hSw); go_simp; (try with_reducible rfl)
              (try simp only [Act.put, List.setIfInBounds_toArray, List.set_cons_zero, List.set_cons_succ])
              refine wpAnyH_take (i := 11) (oi := ⟨some 24, _, _, _, _, _⟩) (v := ?_) rfl (by kernel_rfl) (by kernel_rfl) (by kernel_rfl) (fun _ _ _ h => h) (Or.inl ⟨by rfl, ?_⟩) (by assumption) ?_
              rotate_left
              · intro w hSw; (try dsimp only at hSw); go_simp; (try with_reducible rfl)
              (try simp only [Act.put, List.setIfInBounds_toArray, List.set_cons_zero, List.set_cons_succ])
              refine wpAnyH_take (i := 15) (oi := ⟨some 28, _, _, _, _, _⟩) (v := ?_) rfl (by kernel_rfl) (by kernel_rfl) (by kernel_rfl) (fun _ _ _ h => h) (Or.inl ⟨by rfl, ?_⟩) (by assumption) ?_
              rotate_left
              · intro w hSw; (try dsimp only at hSw); go_simp; (try with_reducible rfl)
              (try simp only [Act.put, List.setIfInBounds_toArray, List.set_cons_zero, List.set_cons_succ])
              refine wpAnyH_take (i := 16) (oi := ⟨some 29, _, _, _, _, _⟩) (v := ?_) rfl (by kernel_rfl) (by kernel_rfl) (by kernel_rfl) (fun _ _ _ h => h) (Or.inl ⟨by rfl, ?_⟩) (by assumption) ?_
              rotate_left
              · intro w hSw; (try dsimp only at hSw); go_simp; (try with_reducible rfl)
              (try simp only [Act.put, List.setIfInBounds_toArray, List.set_cons_zero, List.set_cons_succ])
              refine wpAnyH_take (i := 20) (oi := ⟨some 33, _, _, _, _, _⟩) (v := ?_) rfl (by kernel_rfl) (by kernel_rfl) (by kernel_rfl) (fun _ _ _ h => h) (Or.inl ⟨by rfl, ?_⟩) (by assumption) ?_
              rotate_left
              · intro w hSw; (try dsimp only at hSw); go_simp; (try with_reducible rfl)
              (try simp only [Act.put, List.setIfInBounds_toArray, List.set_cons_zero, List.set_cons_succ])
              refine wpAnyH_take (i := 21) (oi := ⟨some 4, _, _, _, _, _⟩) (v := ?_) rfl (by kernel_rfl) (by kernel_rfl) (by kernel_rfl) (fun _ _ _ h => h) (Or.inl ⟨by rfl, ?_⟩) (by assumption) ?_
              rotate_left
              · intro w hSw; (try dsimp only at hSw); go_simp; (try with_reducible rfl)
              (try simp only [Act.put, List.setIfInBounds_toArray, List.set_cons_zero, List.set_cons_succ])
              refine wpAnyH_done (by kernel_rfl) ?_ _
              go_wp2_with fail
              go_meet
              exact ⟨by rw [HH.out]; rfl, by simp [go_sem], hBq _ _⟩
      · go_simp
        refine hK.out _ _ (by first | (simp [go_sem]; done) | (simp [go_sem, *]; done)) (fun hHeld => ?_)
        clear hK K
        (try simp only [Act.put, List.setIfInBounds_toArray, List.set_cons_zero, List.set_cons_succ])
        refine wpAnyH_str' (S' := fun w' => (w'.cell? ⟨w2.heap.size, 0, none⟩ = some (.int .i64 fi) ∧ w'.cell? ⟨w2.heap.size, 1, none⟩ = some (.int .i64 3) ∧ w'.cell? ⟨w2.heap.size, 2, none⟩ = some (.int .i64 fh) ∧ w'.cell? ⟨w2.heap.size, 3, none⟩ = some (.int .i64 fc)) ∧ w'.cell? ⟨w2.heap.size + 1, 3, none⟩ = some (.string ⟨#[97, 114, 101, 97]⟩)) (fun _ h => h.1) ?_ (fun hHeld' => ?_)
        · exact ⟨hHeld, by simp [go_sem]⟩
        refine wpAnyH_take (i := 8) (oi := ⟨some 21, _, _, _, _, _⟩) (v := ?_) rfl (by kernel_rfl) (by kernel_rfl) (by kernel_rfl) (fun _ _ _ h => h) (Or.inl ⟨by rfl, ?_⟩) (by assumption) ?_
        rotate_left
        · intro w hSw; (try dsimp only at hSw); go_simp; (try with_reducible rfl)
        (try simp only [Act.put, List.setIfInBounds_toArray, List.set_cons_zero, List.set_cons_succ])
        refine wpAnyH_take (i := 9) (oi := ⟨some 22, _, _, _, _, _⟩) (v := ?_) rfl (by kernel_rfl) (by kernel_rfl) (by kernel_rfl) (fun _ _ _ h => h) (Or.inl ⟨by rfl, ?_⟩) (by assumption) ?_
        rotate_left
        · intro w hSw; (try dsimp only at hSw); go_simp; (try with_reducible rfl)
        (try simp only [Act.put, List.setIfInBounds_toArray, List.set_cons_zero, List.set_cons_succ])
        refine wpAnyH_ready (rs := [2]) (by kernel_rfl) (by simp) ?_
        refine AllReadyH.cons (o := ⟨some 15, _, _, _, _, _⟩) rfl (fun K hK => ?_) (AllReadyH.nil)
        · first | (go_at_call_of 21 (Value.int IntKind.i64 fi); refine Calls.mono (HD1.out _) ?_; rintro e w3 ⟨rfl, rfl⟩; dsimp only) | (go_simp; go_at_call_of 21 (Value.int IntKind.i64 fi); refine Calls.mono (HD1.out _) ?_; rintro e w3 ⟨rfl, rfl⟩; dsimp only)
          refine hK.out _ _ (by first | (simp [go_sem]; done) | (simp [go_sem, *]; done)) (fun hHeld => ?_)
          clear hK K
          (try simp only [Act.put, List.setIfInBounds_toArray, List.set_cons_zero, List.set_cons_succ])
          refine wpAnyH_take (i := 3) (oi := ⟨some 16, _, _, _, _, _⟩) (v := ?_) rfl (by kernel_rfl) (by kernel_rfl) (by kernel_rfl) (fun _ _ _ h => h) (Or.inl ⟨by rfl, ?_⟩) (by assumption) ?_
          rotate_left
          · intro w hSw; (try dsimp only at hSw); go_simp; (try with_reducible rfl)
          (try simp only [Act.put, List.setIfInBounds_toArray, List.set_cons_zero, List.set_cons_succ])
          refine wpAnyH_take (i := 4) (oi := ⟨some 17, _, _, _, _, _⟩) (v := ?_) rfl (by kernel_rfl) (by kernel_rfl) (by kernel_rfl) (fun _ _ _ h => h) (Or.inl ⟨by rfl, ?_⟩) (by assumption) ?_
          rotate_left
          · intro w hSw; (try dsimp only at hSw); go_simp; (try with_reducible rfl)
          (try simp only [Act.put, List.setIfInBounds_toArray, List.set_cons_zero, List.set_cons_succ])
          refine wpAnyH_take (i := 10) (oi := ⟨some 23, _, _, _, _, _⟩) (v := ?_) rfl (by kernel_rfl) (by kernel_rfl) (by kernel_rfl) (fun _ _ _ h => h) (Or.inl ⟨by rfl, ?_⟩) (by assumption) ?_
          rotate_left
          · intro w hSw; (try dsimp only at hSw); go_simp; (try with_reducible rfl)
          (try simp only [Act.put, List.setIfInBounds_toArray, List.set_cons_zero, List.set_cons_succ])
          refine wpAnyH_take (i := 11) (oi := ⟨some 24, _, _, _, _, _⟩) (v := ?_) rfl (by kernel_rfl) (by kernel_rfl) (by kernel_rfl) (fun _ _ _ h => h) (Or.inl ⟨by rfl, ?_⟩) (by assumption) ?_
          rotate_left
          · intro w hSw; (try dsimp only at hSw); go_simp; (try with_reducible rfl)
          (try simp only [Act.put, List.setIfInBounds_toArray, List.set_cons_zero, List.set_cons_succ])
          refine wpAnyH_ready (rs := [14]) (by kernel_rfl) (by simp) ?_
          refine AllReadyH.cons (o := ⟨some 27, _, _, _, _, _⟩) rfl (fun K hK => ?_) (AllReadyH.nil)
          · first | (go_at_call_of 21 (Value.int IntKind.i64 fh); refine Calls.mono (HD2.out _) ?_; rintro e w3 ⟨rfl, rfl⟩; dsimp only) | (go_simp; go_at_call_of 21 (Value.int IntKind.i64 fh); refine Calls.mono (HD2.out _) ?_; rintro e w3 ⟨rfl, rfl⟩; dsimp only)
            refine hK.out _ _ (by first | (simp [go_sem]; done) | (simp [go_sem, *]; done)) (fun hHeld => ?_)
            clear hK K
            (try simp only [Act.put, List.setIfInBounds_toArray, List.set_cons_zero, List.set_cons_succ])
            refine wpAnyH_take (i := 15) (oi := ⟨some 28, _, _, _, _, _⟩) (v := ?_) rfl (by kernel_rfl) (by kernel_rfl) (by kernel_rfl) (fun _ _ _ h => h) (Or.inl ⟨by rfl, ?_⟩) (by assumption) ?_
            rotate_left
            · intro w hSw; (try dsimp only at hSw); go_simp; (try with_reducible rfl)
            (try simp only [Act.put, List.setIfInBounds_toArray, List.set_cons_zero, List.set_cons_succ])
            refine wpAnyH_take (i := 16) (oi := ⟨some 29, _, _, _, _, _⟩) (v := ?_) rfl (by kernel_rfl) (by kernel_rfl) (by kernel_rfl) (fun _ _ _ h => h) (Or.inl ⟨by rfl, ?_⟩) (by assumption) ?_
            rotate_left
            · intro w hSw; (try dsimp only at hSw); go_simp; (try with_reducible rfl)
            (try simp only [Act.put, List.setIfInBounds_toArray, List.set_cons_zero, List.set_cons_succ])
            refine wpAnyH_ready (rs := [19]) (by kernel_rfl) (by simp) ?_
            refine AllReadyH.cons (o := ⟨some 32, _, _, _, _, _⟩) rfl (fun K hK => ?_) (AllReadyH.nil)
            · first | (go_at_call_of 21 (Value.int IntKind.i64 fc); refine Calls.mono (HD3.out _) ?_; rintro e w3 ⟨rfl, rfl⟩; dsimp only) | (go_simp; go_at_call_of 21 (Value.int IntKind.i64 fc); refine Calls.mono (HD3.out _) ?_; rintro e w3 ⟨rfl, rfl⟩; dsimp only)
              refine hK.out _ _ (by first | (simp [go_sem]; done) | (simp [go_sem, *]; done)) (fun hHeld => ?_)
              clear hK K
              (try simp only [Act.put, List.setIfInBounds_toArray, List.set_cons_zero, List.set_cons_succ])
              refine wpAnyH_take (i := 20) (oi := ⟨some 33, _, _, _, _, _⟩) (v := ?_) rfl (by kernel_rfl) (by kernel_rfl) (by kernel_rfl) (fun _ _ _ h => h) (Or.inl ⟨by rfl, ?_⟩) (by assumption) ?_
              rotate_left
              · intro w hSw; (try dsimp only at hSw); go_simp; (try with_reducible rfl)
              (try simp only [Act.put, List.setIfInBounds_toArray, List.set_cons_zero, List.set_cons_succ])
              refine wpAnyH_take (i := 21) (oi := ⟨some 4, _, _, _, _, _⟩) (v := ?_) rfl (by kernel_rfl) (by kernel_rfl) (by kernel_rfl) (fun _ _ _ h => h) (Or.inl ⟨by rfl, ?_⟩) (by assumption) ?_
              rotate_left
              · intro w hSw; (try dsimp only at hSw); go_simp; (try with_reducible rfl)
              (try simp only [Act.put, List.setIfInBounds_toArray, List.set_cons_zero, List.set_cons_succ])
              refine wpAnyH_done (by kernel_rfl) ?_ _
              go_wp2_with fail
              go_meet
              exact ⟨by rw [HH.out]; rfl, by simp [go_sem], hBq _ _⟩
    case rest =>
      obtain ⟨rfl, kc, hbc⟩ := hcut
      have HBc : Hid (Below w2.heap.size w2 wc) := hbc
      have HPl : Hid (Places w2.heap.size w2 b 0 ps) := hpl
      have HB2 : Hid (Below w.heap.size w w2) := hB2
      go_upto_region 6 with fail
      go_loopw [4, 5] (fun s i wr => ∃ k : Nat, k ≤ N ∧ s = .string ((ps.take k).foldl stepT hd) ∧ i = .int .i64 k ∧ Below wc.heap.size wc wr) (fun _ i _ => N - (intOf i).toNat)
      case atStart => exact ⟨0, Nat.zero_le _, by simp, rfl, Below.refl _ _⟩
      case round =>
        obtain ⟨k, hk, rfl, rfl, hbr⟩ := hrel
        have kr := (hbr.cell (p := ⟨w2.heap.size, 4, none⟩) (World.block_lt_of_cell? wc _ kc)).trans kc
        have HBr : Hid (Below w2.heap.size w2 wr) := HBc.out.trans (hbr.mono HBc.out.size)
        have hsS := fold_size (ps.take k) (fun p hp => HP.out p (List.mem_of_mem_take hp)) hd
        have hsH := HS.out
        rw [List.length_take] at hsS
        obtain ⟨S, hS⟩ : ∃ S, (ps.take k).foldl stepT hd = S := ⟨_, rfl⟩
        rw [hS] at hsS
        by_cases hlt : k < N
        · have hkl : k < ps.length := by rw [HPS.out]; exact hlt
          obtain ⟨⟨x, y⟩, hxy⟩ : ∃ p, ps[k]? = some p := ⟨_, List.getElem?_eq_getElem hkl⟩
          have hbd := HP.out (x, y) (List.mem_of_getElem? hxy)
          obtain ⟨p1, p2⟩ := HPl.out.2 k x y hxy
          have hbl2 : b < w2.heap.size := HPl.out.1
          have p1' := (HBr.out.cell (p := ⟨b, 0 + k * 2, none⟩) hbl2).trans p1
          have p2' := (HBr.out.cell (p := ⟨b, 0 + k * 2 + 1, none⟩) hbl2).trans p2
          rw [Nat.zero_add] at p1' p2'
          have HX : Hid ((ps.take (k + 1)).foldl stepT hd = stepT S (x, y)) := by
            show _ = _
            rw [List.take_add_one, hxy, Option.toList_some, List.foldl_append, hS]
            rfl
          dsimp only at hbd
          have HDx : Hid (∀ W : World, Calls Tryz.prog 21 #[.int .i64 x] W fun e w' => e = .returned (.string (decZ x)) ∧ w' = W) := fun W => decimal_any x (by omega) (by omega) W
          have HDy : Hid (∀ W : World, Calls Tryz.prog 21 #[.int .i64 y] W fun e w' => e = .returned (.string (decZ y)) ∧ w' = W) := fun W => decimal_any y (by omega) (by omega) W
          have hszx := decZ_size (n := x) (by omega) (by omega)
          have hszy := decZ_size (n := y) (by omega) (by omega)
          unfold stepT at HX
          dsimp only at HX
          obtain ⟨sx, hsx⟩ : ∃ s, decZ x = s := ⟨_, rfl⟩
          obtain ⟨sy, hsy⟩ : ∃ s, decZ y = s := ⟨_, rfl⟩
          rw [hsx] at HDx hszx HX
          rw [hsy] at HDy hszy HX
          have hk0 : (0 : Int) ≤ (k : Int) := by omega
          have hkI : (k : Int) < (N : Int) := by omega
          have hg1 : (9223372036854775807 < S.size + 1) = False := eq_false (by omega)
          have hg2 : (9223372036854775807 < S.size + 1 + sx.size) = False := eq_false (by omega)
          have hg3 : (9223372036854775807 < S.size + 1 + sx.size + 1) = False := eq_false (by omega)
          have hg4 : (9223372036854775807 < S.size + 1 + sx.size + 1 + sy.size) = False := eq_false (by omega)
          rw [hS]
          clear hS hsx hsy hcat1 hcat2 hcat3 hcat4 hcat5 hcat6 hcat7 hcat3' hcat4' hcat5' hcat6' hcat7'
          go_wp2_with fail
          go_region_held3 (fun w' => w'.cell? ⟨w2.heap.size, 4, none⟩ = some (.slice (some ⟨b, 0, none⟩) N cap) ∧ w'.cell? ⟨b, k * 2, none⟩ = some (.int .i64 x) ∧ w'.cell? ⟨b, k * 2 + 1, none⟩ = some (.int .i64 y)) (first | (simp [go_sem]; done) | (simp [go_sem, *]; done))
            (first
              | (go_at_call_of 21 (Value.int IntKind.i64 x); refine Calls.mono (HDx.out _) ?_; rintro e w3 ⟨rfl, rfl⟩; dsimp only)
              | (go_at_call_of 21 (Value.int IntKind.i64 y); refine Calls.mono (HDy.out _) ?_; rintro e w3 ⟨rfl, rfl⟩; dsimp only))
          all_goals
            go_wp2_with fail
            exact ⟨⟨k + 1, by omega, by (first | rw [HX.out] | exact congrArg Value.string HX.out.symm | (simp only [HX.out])), by go_num, hbr.drew⟩, by simp [intOf]; omega⟩
        · obtain rfl : k = N := by omega
          have hkN : ¬ (k : Int) < (k : Int) := by omega
          have hall : (ps.take k).foldl stepT hd = ps.foldl stepT hd := by rw [List.take_of_length_le (by rw [HPS.out]; exact Nat.le_refl _)]
          rw [hall] at hS
          rw [hall]
          go_wp2
          go_ret
          exact ⟨rfl, HB2.out.trans (HBr.out.mono HB2.out.size)⟩

end Go.Proofs.YtenaepdmlknlcaaGreatDoor
