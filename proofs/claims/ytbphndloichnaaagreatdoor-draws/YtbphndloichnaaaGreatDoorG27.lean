import Derived.Test.YtbphndloichnaaaGreatDoorG26
import Derived.Test.YtbphndloichnaaaGreatDoorG08
namespace Go.Proofs.YtbphndloichnaaaGreatDoor
open Go.RowKit

set_option maxRecDepth 100000 in
set_option maxHeartbeats 2000000 in
theorem With_tree (d : Nat) (ok : Nat → Prop) (f : Feat) (bl off n cap : Nat) (q : Nat) (fs : List FV) (x : Bx) (w : World) (hT : IsT ok w (d + 1) q fs x) (hval : ∀ u ∈ fs, validF u.f = true) (hvf : validF f = true) (hok : ∀ b, ok b → b < w.heap.size) (hobl : ok bl) (hp : Places w.heap.size w bl off f.ps) (hn : n = f.ps.length) (hn1 : 1 ≤ n) (hn2 : n ≤ 6) (hcap : n ≤ cap) :
    Calls Tryz.prog 31 #[.agg #[.pointer (some ⟨q, 0, none⟩)], .agg #[.int .i64 f.id, .int .i64 f.kd, .int .i64 f.ht, .int .i64 f.col, .slice (some ⟨bl, off, none⟩) n cap]] w fun e w' => ∃ (q' d' : Nat) (x' : Bx) (fs' : List FV), e = .returned (.agg #[.pointer (some ⟨q', 0, none⟩)]) ∧ IsT (okN ok w.heap.size w'.heap.size) w' (d' + 1) q' fs' x' ∧ fs'.Perm (fs ++ [⟨f, bl, off, cap⟩]) ∧ Below w.heap.size w w' := by
  have Hp : Hid (Places w.heap.size w bl off f.ps) := hp
  have Hn : Hid (n = f.ps.length) := hn
  have hbl := hp.1
  have Hok : Hid (∀ b, ok b → b < w.heap.size) := hok
  have Hobl : Hid (ok bl) := hobl
  have HT : Hid (IsT ok w (d + 1) q fs x) := hT
  have Hval : Hid ((∀ u ∈ fs, validF u.f = true) ∧ validF f = true) := ⟨hval, hvf⟩
  clear hp hn hok hobl hT hval hvf
  obtain ⟨id, kd, ht, col, ps⟩ := f
  dsimp only at Hp Hn Hval ⊢
  have hB : ∀ o1 o2 o3 : Obj, Below w.heap.size w (((w.alloc o1).alloc o2).alloc o3) := fun o1 o2 o3 => (((Below.refl _ _).alloc (Nat.le_refl _) _).alloc (by simp) _).alloc (by simp; omega) _
  go_enter Tryz.func31, Tryz.ntmps31
  go_upto_region 1 with fail
  go_cut [5] (fun v wc => ∃ ql, v = .pointer (some ⟨ql, 0, none⟩) ∧ ql < wc.heap.size ∧ LeafAt (okN ok (w.heap.size + 3) wc.heap.size) wc ql ⟨⟨id, kd, ht, col, ps⟩, bl, off, cap⟩ ∧ wc.cell? ⟨w.heap.size, 0, none⟩ = some (.pointer (some ⟨q, 0, none⟩)) ∧ wc.cell? ⟨w.heap.size + 1 + 1, 0, none⟩ = some (.pointer none) ∧ wc.frozen? ⟨w.heap.size + 1 + 1, 0, none⟩ = false ∧ Below w.heap.size w wc ∧ w.heap.size + 3 ≤ wc.heap.size)
  case first =>
    go_region_held3 (fun w' => w'.cell? ⟨w.heap.size + 1, 0, none⟩ = some (.int .i64 id) ∧ w'.cell? ⟨w.heap.size + 1, 1, none⟩ = some (.int .i64 kd) ∧ w'.cell? ⟨w.heap.size + 1, 2, none⟩ = some (.int .i64 ht) ∧ w'.cell? ⟨w.heap.size + 1, 3, none⟩ = some (.int .i64 col) ∧ w'.cell? ⟨w.heap.size + 1, 4, none⟩ = some (.slice (some ⟨bl, off, none⟩) n cap)) (first | (simp [go_sem, *]; done) | exact s2)
      (first
      | (go_at_call 53; refine (BoxOf_any bl off n cap ps _ ((Hp.out.below (hB _ _ _).drew).mono (by simp; omega)) Hn.out hn1 (by omega) hcap).mono ?_; rintro e w2 ⟨rfl, hb2⟩; obtain ⟨hc2, hf2⟩ := bcell hb2; have s2 := And.intro ((hc2 (w.heap.size + 1) 0 (by simp <;> omega)).trans (show _ = some (Value.int .i64 id) from (by simp [go_sem]))) (And.intro ((hc2 (w.heap.size + 1) 1 (by simp <;> omega)).trans (show _ = some (Value.int .i64 kd) from (by simp [go_sem]))) (And.intro ((hc2 (w.heap.size + 1) 2 (by simp <;> omega)).trans (show _ = some (Value.int .i64 ht) from (by simp [go_sem]))) (And.intro ((hc2 (w.heap.size + 1) 3 (by simp <;> omega)).trans (show _ = some (Value.int .i64 col) from (by simp [go_sem]))) ((hc2 (w.heap.size + 1) 4 (by simp <;> omega)).trans (show _ = some (Value.slice (some ⟨bl, off, none⟩) n cap) from (by simp [go_sem])))))); have r0 : w2.cell? ⟨w.heap.size, 0, none⟩ = some (Value.pointer (some ⟨q, 0, none⟩)) := (hc2 w.heap.size 0 (by simp <;> omega)).trans (by simp [go_sem]); have r1 : w2.cell? ⟨w.heap.size + 1 + 1, 0, none⟩ = some (Value.pointer none) := (hc2 (w.heap.size + 1 + 1) 0 (by simp <;> omega)).trans (by simp [go_sem]); have r2 : w2.frozen? ⟨w.heap.size + 1 + 1, 0, none⟩ = false := (hf2 (w.heap.size + 1 + 1) 0 (by simp <;> omega)).trans (by simp [go_sem]); have hz2 : w.heap.size + 3 ≤ w2.heap.size := (by have := hb2.size; simp at this; omega); have hz3 : w.heap.size + 1 < w2.heap.size := (by omega); have hB2 : Below w.heap.size w w2 := (hB _ _ _).drew.trans (hb2.mono (by simp <;> omega)); clear hc2 hf2 hb2))
    all_goals
      go_wp2_with fail
      go_meet
      have hA : ∀ o : Obj, Below w2.heap.size w2 (w2.alloc o) := fun o => (Below.refl _ _).alloc (Nat.le_refl _) o
      refine ⟨w2.heap.size, rfl, by simp, ?_, ((hA _).cell (p := ⟨w.heap.size, 0, none⟩) (show w.heap.size < w2.heap.size by omega)).trans r0, ((hA _).cell (p := ⟨w.heap.size + 1 + 1, 0, none⟩) (show w.heap.size + 1 + 1 < w2.heap.size by omega)).trans r1, ((hA _).frozen (p := ⟨w.heap.size + 1 + 1, 0, none⟩) (show w.heap.size + 1 + 1 < w2.heap.size by omega)).trans r2, hB2.alloc (by omega) _, by simp; omega⟩
      have h := leaf_new w2 ⟨id, kd, ht, col, ps⟩ (okN ok (w.heap.size + 3) (w2.heap.size + 1)) bl off cap (.inl Hobl.out) (.inr ⟨by omega, by omega⟩) ((Hp.out.below hB2).mono (by omega)) (by rw [← Hn.out]; exact hcap)
      rw [World.size_alloc, Hn.out]
      exact h
  case rest =>
    obtain ⟨ql, rfl, hql, hleaf, r0, r1, r2, hB1, hz1⟩ := hcut
    have Hleaf : Hid (LeafAt (okN ok (w.heap.size + 3) wc.heap.size) wc ql ⟨⟨id, kd, ht, col, ps⟩, bl, off, cap⟩) := hleaf
    clear hleaf
    have hz4 : w.heap.size + 1 + 1 < wc.heap.size := by omega
    have hok1 : ∀ b, okN ok (w.heap.size + 3) wc.heap.size b → b < wc.heap.size := fun b hb => hb.elim (fun h => Nat.lt_of_lt_of_le (Hok.out b h) (by omega)) (fun h => h.2)
    have HW : Hid (Calls Tryz.prog 55 #[.pointer (some ⟨q, 0, none⟩), .pointer (some ⟨ql, 0, none⟩)] wc (WithPost (okN ok (w.heap.size + 3) wc.heap.size) (d + 1) (fs ++ [⟨⟨id, kd, ht, col, ps⟩, bl, off, cap⟩]) wc)) :=
      with_any d (okN ok (w.heap.size + 3) wc.heap.size) q ql fs x ⟨⟨id, kd, ht, col, ps⟩, bl, off, cap⟩ wc ((HT.out.same (Same.of_below hB1 Hok.out)).mono (fun b hb => .inl hb)) hok1 ⟨_, rfl, rfl, Hleaf.out⟩ Hval.out.1 Hval.out.2
    have Hok1 : Hid (∀ b, okN ok (w.heap.size + 3) wc.heap.size b → b < wc.heap.size) := hok1
    clear hok1
    -- what is left when the new root is stored
    have hfin : ∀ (w4 : World) (p d' : Nat) (y : Bx) (fs' : List FV), IsT (okN ok (w.heap.size + 3) w4.heap.size) w4 (d' + 1) p fs' y → fs'.Perm (fs ++ [⟨⟨id, kd, ht, col, ps⟩, bl, off, cap⟩]) → Below wc.heap.size wc w4 →
        ∃ (q' d' : Nat) (x' : Bx) (fs' : List FV), Ending.returned (.agg #[.pointer (some ⟨p, 0, none⟩)]) = .returned (.agg #[.pointer (some ⟨q', 0, none⟩)]) ∧ IsT (okN ok w.heap.size (w4.setCell ⟨w.heap.size + 1 + 1, 0, none⟩ (.pointer (some ⟨p, 0, none⟩))).heap.size) (w4.setCell ⟨w.heap.size + 1 + 1, 0, none⟩ (.pointer (some ⟨p, 0, none⟩))) (d' + 1) q' fs' x' ∧ fs'.Perm (fs ++ [⟨⟨id, kd, ht, col, ps⟩, bl, off, cap⟩]) ∧ Below w.heap.size w (w4.setCell ⟨w.heap.size + 1 + 1, 0, none⟩ (.pointer (some ⟨p, 0, none⟩))) := fun w4 p d' y fs' hT4 hperm hb4 => by
      have hS : Below w.heap.size w4 (w4.setCell ⟨w.heap.size + 1 + 1, 0, none⟩ (.pointer (some ⟨p, 0, none⟩))) := (Below.refl _ _).setCell (p := ⟨w.heap.size + 1 + 1, 0, none⟩) (show w.heap.size ≤ w.heap.size + 1 + 1 by omega) _
      exact ⟨p, d', y, fs', rfl, (hT4.same (same_set w4 (w.heap.size + 1 + 1) 0 _ (fun h => h.elim (fun h => by have := Hok.out _ h; omega) (fun h => by omega)))).mono (fun b hb => hb.elim .inl fun h => .inr ⟨by omega, Nat.lt_of_lt_of_le h.2 (by simp)⟩), hperm, hB1.trans ((hb4.mono (by omega)).trans hS)⟩
    have HFin : Hid _ := hfin
    clear hfin
    go_upto_region 5 with (go_at_call 55; refine Calls.mono HW.out ?_; intro e w3 hpost; obtain ⟨s, m, rfl, HW3, hs3, hb3⟩ := hpost.split; clear hpost; dsimp only)
    have t1 : w3.cell? ⟨w.heap.size + 1 + 1, 0, none⟩ = some (.pointer none) := (hb3.cell (p := ⟨w.heap.size + 1 + 1, 0, none⟩) hz4).trans r1
    have t2 : w3.frozen? ⟨w.heap.size + 1 + 1, 0, none⟩ = false := (hb3.frozen (p := ⟨w.heap.size + 1 + 1, 0, none⟩) hz4).trans r2
    have hsz := hb3.size
    obtain ⟨pk, tss, hm, hps, htss, hs1, hrow, hTs, hperm⟩ := HW3.out
    have hup : ∀ b, okN (okN ok (w.heap.size + 3) wc.heap.size) wc.heap.size w3.heap.size b → okN ok (w.heap.size + 3) w3.heap.size b := fun b hb => hb.elim (fun h => h.elim .inl (fun h => .inr ⟨h.1, by omega⟩)) (fun h => .inr ⟨by omega, h.2⟩)
    rcases hm with rfl | rfl
    · obtain ⟨⟨p, y⟩, rfl⟩ : ∃ p, pk = [p] := List.length_eq_one_iff.1 hps
      obtain ⟨tt, rfl⟩ : ∃ c, tss = [c] := List.length_eq_one_iff.1 htss
      have hp0 := hrow 0 (p, y) rfl
      have HT3 : Hid (IsT (okN ok (w.heap.size + 3) w3.heap.size) w3 (d + 1) p tt y) := (hTs 0 p y tt rfl rfl).mono hup
      have HPm : Hid (tt.Perm (fs ++ [⟨⟨id, kd, ht, col, ps⟩, bl, off, cap⟩])) := by
        have := hperm
        simp only [List.flatten_cons, List.flatten_nil, List.append_nil] at this
        exact this
      clear hrow hTs hperm HW3 HW
      dsimp only at hp0
      go_wp2
      exact bodyPost_ret (v := .agg #[.pointer (some ⟨p, 0, none⟩)]) (by simp [results, Tryz.results31, go_sem, t1]) rfl (HFin.out w3 p d y tt HT3.out HPm.out hb3)
    · have HKA : Hid (KidsAt w3.heap.size w3 s 0 pk) := ⟨hs3, fun i p y e => by
        obtain ⟨t, ht⟩ : ∃ t, tss[i]? = some t := ⟨tss[i]'(by have := (List.getElem?_eq_some_iff.1 e).1; omega), List.getElem?_eq_getElem _⟩
        have hT := hTs i p y t e ht
        exact ⟨by rw [Nat.zero_add]; exact hrow i (p, y) e, (hup _ hT.lt).elim (fun h => Nat.lt_of_lt_of_le (Hok.out _ h) (by omega)) (fun h => h.2), hT.c4⟩⟩
      have HR3 : Hid ((∀ (i : Nat) p, pk[i]? = some p → w3.cell? ⟨s, i, none⟩ = some (.pointer (some ⟨p.1, 0, none⟩))) ∧ (∀ (i : Nat) p y t, pk[i]? = some (p, y) → tss[i]? = some t → IsT (okN ok (w.heap.size + 3) w3.heap.size) w3 (d + 1) p t y) ∧ tss.flatten.Perm (fs ++ [⟨⟨id, kd, ht, col, ps⟩, bl, off, cap⟩])) := ⟨hrow, fun i p y t e e' => (hTs i p y t e e').mono hup, hperm⟩
      have Hps : Hid (2 = pk.length ∧ tss.length = 2) := ⟨hps.symm, htss⟩
      clear hrow hTs hperm HW3 HW hps htss
      go_wp2_with (go_at_call 54; refine (over_any s 0 2 2 pk _ HKA.out Hps.out.1 (by decide) (by decide) (by decide)).mono ?_; rintro e w4 ⟨p, rfl, hp1, hp2, hcp, hp4, hb4⟩; have u1 : w4.cell? ⟨w.heap.size + 1 + 1, 0, none⟩ = some (.pointer none) := (hb4.cell (p := ⟨w.heap.size + 1 + 1, 0, none⟩) (show w.heap.size + 1 + 1 < w3.heap.size by omega)).trans t1; have u2 : w4.frozen? ⟨w.heap.size + 1 + 1, 0, none⟩ = false := (hb4.frozen (p := ⟨w.heap.size + 1 + 1, 0, none⟩) (show w.heap.size + 1 + 1 < w3.heap.size by omega)).trans t2)
      have hsz4 := hb4.size
      have hlt3 : ∀ b, okN ok (w.heap.size + 3) w3.heap.size b → b < w3.heap.size := fun b hb => hb.elim (fun h => Nat.lt_of_lt_of_le (Hok.out b h) (by omega)) (fun h => h.2)
      have hup4 : ∀ b, okN ok (w.heap.size + 3) w3.heap.size b → okN ok (w.heap.size + 3) w4.heap.size b := fun b hb => hb.elim .inl (fun h => .inr ⟨h.1, by omega⟩)
      have hT4 : IsT (okN ok (w.heap.size + 3) w4.heap.size) w4 (d + 1 + 1) p tss.flatten (joinK pk) := by
        have hin : ∀ (i : Nat) p y t, pk[i]? = some (p, y) → tss[i]? = some t → IsT (okN ok (w.heap.size + 3) w4.heap.size) w4 (d + 1) p t y := fun i p y t e e' => ((HR3.out.2.1 i p y t e e').same (Same.of_below hb4 hlt3)).mono hup4
        refine ⟨.inr ⟨by omega, hp2⟩, hcp, s, 0, 2, pk, tss, by rw [← Hps.out.1]; exact hp4, by intro e; have := Hps.out.1; rw [e] at this; simp at this, by have := Hps.out.1; omega, by have := Hps.out.1; omega, ⟨.inr ⟨by omega, by omega⟩, fun i q y e => ?_⟩, by rw [Hps.out.2, ← Hps.out.1], hin, rfl, rfl⟩
        obtain ⟨t, ht⟩ : ∃ t, tss[i]? = some t := ⟨tss[i]'(by have := (List.getElem?_eq_some_iff.1 e).1; have := Hps.out; omega), List.getElem?_eq_getElem _⟩
        have hT := hin i q y t e ht
        exact ⟨by rw [Nat.zero_add]; exact (hb4.cell (p := ⟨s, i, none⟩) hs3).trans (HR3.out.1 i (q, y) e), hT.lt, hT.c4⟩
      exact bodyPost_ret (v := .agg #[.pointer (some ⟨p, 0, none⟩)]) (by simp [results, Tryz.results31, go_sem, u1]) rfl (HFin.out w4 p (d + 1) (joinK pk) tss.flatten hT4 HR3.out.2.2 (hb3.trans (hb4.mono hsz)))

end Go.Proofs.YtbphndloichnaaaGreatDoor
