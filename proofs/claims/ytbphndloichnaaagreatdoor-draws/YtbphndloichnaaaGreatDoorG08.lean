import Derived.Test.YtbphndloichnaaaGreatDoorG07
namespace Go.Proofs.YtbphndloichnaaaGreatDoor
open Go.RowKit

/-- The leaf that With makes. -/
abbrev leafObj (x : Bx) (id kd ht col : Int) (v : Value) : Obj := .cells #[.int .i64 x.l, .int .i64 x.t, .int .i64 x.r, .int .i64 x.b, .slice none 0 0, .int .i64 id, .int .i64 kd, .int .i64 ht, .int .i64 col, v] 145

theorem leaf_new (w : World) (f : Feat) (ok : Nat → Prop) (pb po cap : Nat) (hok : ok pb) (hw : ok w.heap.size) (hp : Places w.heap.size w pb po f.ps) (hcap : f.ps.length ≤ cap) :
    LeafAt ok (w.alloc (leafObj (boxZ f.ps) f.id f.kd f.ht f.col (.slice (some ⟨pb, po, none⟩) f.ps.length cap))) w.heap.size ⟨f, pb, po, cap⟩ := by
  refine ⟨hw, ⟨?_, ?_, ?_, ?_⟩, ?_, ?_, ?_, ?_, ?_, ?_, hok, hcap, (hp.below ((Below.refl _ _).alloc (Nat.le_refl _) _)).2⟩ <;> simp [go_sem]

/-- What was ok, and all that is new. -/
def okN (ok : Nat → Prop) (n m : Nat) (b : Nat) : Prop := ok b ∨ (n ≤ b ∧ b < m)

theorem same_set {ok : Nat → Prop} (w : World) (R o : Nat) (v : Value) (h : ¬ ok R) : Same ok w (w.setCell ⟨R, o, none⟩ v) := fun b o' u hb e =>
  (World.cell?_setCell_far w ⟨R, o, none⟩ ⟨b, o', none⟩ v (fun e => h (by rw [show R = b from e]; exact hb))).trans e

set_option maxRecDepth 100000 in
set_option maxHeartbeats 2000000 in
theorem With_nil (ok : Nat → Prop) (f : Feat) (bl off n cap : Nat) (w : World) (hok : ∀ b, ok b → b < w.heap.size) (hobl : ok bl) (hp : Places w.heap.size w bl off f.ps) (hn : n = f.ps.length) (hn1 : 1 ≤ n) (hn2 : n ≤ 6) (hcap : n ≤ cap) :
    Calls Tryz.prog 31 #[.agg #[.pointer none], .agg #[.int .i64 f.id, .int .i64 f.kd, .int .i64 f.ht, .int .i64 f.col, .slice (some ⟨bl, off, none⟩) n cap]] w fun e w' => ∃ q x, e = .returned (.agg #[.pointer (some ⟨q, 0, none⟩)]) ∧ IsT (okN ok w.heap.size w'.heap.size) w' 1 q [⟨f, bl, off, cap⟩] x ∧ Below w.heap.size w w' := by
  have Hp : Hid (Places w.heap.size w bl off f.ps) := hp
  have Hn : Hid (n = f.ps.length) := hn
  have hbl := hp.1
  have Hok : Hid (∀ b, ok b → b < w.heap.size) := hok
  have Hobl : Hid (ok bl) := hobl
  clear hp hn hok hobl
  obtain ⟨id, kd, ht, col, ps⟩ := f
  dsimp only at Hp Hn ⊢
  have hB : ∀ o1 o2 o3 : Obj, Below w.heap.size w (((w.alloc o1).alloc o2).alloc o3) := fun o1 o2 o3 => (((Below.refl _ _).alloc (Nat.le_refl _) _).alloc (by simp) _).alloc (by simp; omega) _
  go_enter Tryz.func31, Tryz.ntmps31
  go_upto_region 1 with fail
  go_cut [5] (fun v wc => ∃ q, v = .pointer (some ⟨q, 0, none⟩) ∧ q < wc.heap.size ∧ LeafAt (okN ok (w.heap.size + 3) wc.heap.size) wc q ⟨⟨id, kd, ht, col, ps⟩, bl, off, cap⟩ ∧ wc.cell? ⟨w.heap.size, 0, none⟩ = some (.pointer none) ∧ wc.cell? ⟨w.heap.size + 1 + 1, 0, none⟩ = some (.pointer none) ∧ wc.frozen? ⟨w.heap.size + 1 + 1, 0, none⟩ = false ∧ Below w.heap.size w wc ∧ w.heap.size + 3 ≤ wc.heap.size)
  case first =>
    go_region_held3 (fun w' => w'.cell? ⟨w.heap.size + 1, 0, none⟩ = some (.int .i64 id) ∧ w'.cell? ⟨w.heap.size + 1, 1, none⟩ = some (.int .i64 kd) ∧ w'.cell? ⟨w.heap.size + 1, 2, none⟩ = some (.int .i64 ht) ∧ w'.cell? ⟨w.heap.size + 1, 3, none⟩ = some (.int .i64 col) ∧ w'.cell? ⟨w.heap.size + 1, 4, none⟩ = some (.slice (some ⟨bl, off, none⟩) n cap)) (first | (simp [go_sem, *]; done) | exact s2)
      (first
      | (go_at_call 53; refine (BoxOf_any bl off n cap ps _ ((Hp.out.below (hB _ _ _).drew).mono (by simp; omega)) Hn.out hn1 (by omega) hcap).mono ?_; rintro e w2 ⟨rfl, hb2⟩; obtain ⟨hc2, hf2⟩ := bcell hb2; have s2 := And.intro ((hc2 (w.heap.size + 1) 0 (by simp <;> omega)).trans (show _ = some (Value.int .i64 id) from (by simp [go_sem]))) (And.intro ((hc2 (w.heap.size + 1) 1 (by simp <;> omega)).trans (show _ = some (Value.int .i64 kd) from (by simp [go_sem]))) (And.intro ((hc2 (w.heap.size + 1) 2 (by simp <;> omega)).trans (show _ = some (Value.int .i64 ht) from (by simp [go_sem]))) (And.intro ((hc2 (w.heap.size + 1) 3 (by simp <;> omega)).trans (show _ = some (Value.int .i64 col) from (by simp [go_sem]))) ((hc2 (w.heap.size + 1) 4 (by simp <;> omega)).trans (show _ = some (Value.slice (some ⟨bl, off, none⟩) n cap) from (by simp [go_sem])))))); have r0 : w2.cell? ⟨w.heap.size, 0, none⟩ = some (Value.pointer none) := (hc2 w.heap.size 0 (by simp <;> omega)).trans (by simp [go_sem]); have r1 : w2.cell? ⟨w.heap.size + 1 + 1, 0, none⟩ = some (Value.pointer none) := (hc2 (w.heap.size + 1 + 1) 0 (by simp <;> omega)).trans (by simp [go_sem]); have r2 : w2.frozen? ⟨w.heap.size + 1 + 1, 0, none⟩ = false := (hf2 (w.heap.size + 1 + 1) 0 (by simp <;> omega)).trans (by simp [go_sem]); have hz2 : w.heap.size + 3 ≤ w2.heap.size := (by have := hb2.size; simp at this; omega); have hz3 : w.heap.size + 1 < w2.heap.size := (by omega); have hB2 : Below w.heap.size w w2 := (hB _ _ _).drew.trans (hb2.mono (by simp <;> omega)); clear hc2 hf2 hb2))
    all_goals
      go_wp2_with fail
      go_meet
      have hA : ∀ o : Obj, Below w2.heap.size w2 (w2.alloc o) := fun o => (Below.refl _ _).alloc (Nat.le_refl _) o
      refine ⟨w2.heap.size, rfl, by simp, ?_, ((hA _).cell (p := ⟨w.heap.size, 0, none⟩) (show w.heap.size < w2.heap.size by omega)).trans r0, ((hA _).cell (p := ⟨w.heap.size + 1 + 1, 0, none⟩) (show w.heap.size + 1 + 1 < w2.heap.size by omega)).trans r1, ((hA _).frozen (p := ⟨w.heap.size + 1 + 1, 0, none⟩) (show w.heap.size + 1 + 1 < w2.heap.size by omega)).trans r2, hB2.alloc (by omega) _, by simp; omega⟩
      have h := leaf_new w2 ⟨id, kd, ht, col, ps⟩ (okN ok (w.heap.size + 3) (w2.heap.size + 1)) bl off cap (.inl Hobl.out) (.inr ⟨by omega, by omega⟩) ((Hp.out.below hB2).mono (by omega)) (by rw [← Hn.out]; exact hcap)
      rw [World.size_alloc, Hn.out]
      exact h
  case rest =>
    obtain ⟨q, rfl, hq, hleaf, r0, r1, r2, hB1, hz1⟩ := hcut
    have Hleaf : Hid (LeafAt (okN ok (w.heap.size + 3) wc.heap.size) wc q ⟨⟨id, kd, ht, col, ps⟩, bl, off, cap⟩) := hleaf
    clear hleaf
    have hA : ∀ o : Obj, Below wc.heap.size wc (wc.alloc o) := fun o => (Below.refl _ _).alloc (Nat.le_refl _) o
    have Hbox : Hid (C4 wc q (boxZ ps)) := Hleaf.out.box
    have hkid : ∀ o : Obj, o = .cells #[.pointer (some ⟨q, 0, none⟩)] 87 → KidsAt (wc.alloc o).heap.size (wc.alloc o) wc.heap.size 0 [(q, boxZ ps)] := by
      rintro o rfl
      refine ⟨by simp, fun i p y e => ?_⟩
      match i, e with
      | 0, e =>
        simp at e
        obtain ⟨rfl, rfl⟩ := e
        exact ⟨by simp [go_sem], by simp; omega, Hbox.out.below (hA _) hq⟩
      | i + 1, e => simp at e
    have hz4 : w.heap.size + 1 + 1 < wc.heap.size := by omega
    go_wp2_with (go_at_call 54; refine (over_any wc.heap.size 0 1 1 [(q, boxZ ps)] _ (hkid _ rfl) rfl (by omega) (by omega) (by omega)).mono ?_; rintro e w3 ⟨p, rfl, hp1, hp2, hcp, hp4, hb3⟩; have t1 : w3.cell? ⟨w.heap.size + 1 + 1, 0, none⟩ = some (.pointer none) := (hb3.cell (p := ⟨w.heap.size + 1 + 1, 0, none⟩) (by simp; omega)).trans (((hA _).cell (p := ⟨w.heap.size + 1 + 1, 0, none⟩) hz4).trans r1); have t2 : w3.frozen? ⟨w.heap.size + 1 + 1, 0, none⟩ = false := (hb3.frozen (p := ⟨w.heap.size + 1 + 1, 0, none⟩) (by simp; omega)).trans (((hA _).frozen (p := ⟨w.heap.size + 1 + 1, 0, none⟩) hz4).trans r2))
    have hS : Below w.heap.size w3 (w3.setCell ⟨w.heap.size + 1 + 1, 0, none⟩ (.pointer (some ⟨p, 0, none⟩))) := (Below.refl _ _).setCell (p := ⟨w.heap.size + 1 + 1, 0, none⟩) (show w.heap.size ≤ w.heap.size + 1 + 1 by omega) _
    refine bodyPost_ret (v := .agg #[.pointer (some ⟨p, 0, none⟩)]) (by simp [results, Tryz.results31, go_sem, t1]) rfl ⟨p, joinK [(q, boxZ ps)], rfl, ?_, (hB1.trans ((hA _).mono (by omega))).trans ((hb3.mono (by simp; omega)).trans hS)⟩
    have hkO : KidsO (okN ok (w.heap.size + 3) w3.heap.size) w3 wc.heap.size 0 [(q, boxZ ps)] := by
      have h1 := (hkid _ rfl).below hb3
      have hsz := hb3.size
      simp at hsz
      refine ⟨.inr ⟨by omega, by omega⟩, fun i p' y e => ?_⟩
      have h2 := h1.2 i p' y e
      refine ⟨h2.1, ?_, h2.2.2⟩
      match i, e with
      | 0, e =>
        simp at e
        obtain ⟨rfl, rfl⟩ := e
        exact Hleaf.out.lt.elim .inl fun h => .inr ⟨h.1, by omega⟩
      | i + 1, e => simp at e
    have hsz := hb3.size
    simp at hsz
    have hl3 : LeafAt (okN ok (w.heap.size + 3) w3.heap.size) w3 q ⟨⟨id, kd, ht, col, ps⟩, bl, off, cap⟩ := (Hleaf.out.same (Same.of_below (((hA _).mono (Nat.le_refl _)).trans (hb3.mono (by simp))) (fun b hb => hb.elim (fun h => Nat.lt_of_lt_of_le (Hok.out b h) (by omega)) (fun h => h.2)))).mono (fun b hb => hb.elim .inl fun h => .inr ⟨h.1, by omega⟩)
    have hT : IsT (okN ok (w.heap.size + 3) w3.heap.size) w3 1 p [⟨⟨id, kd, ht, col, ps⟩, bl, off, cap⟩] (joinK [(q, boxZ ps)]) :=
      ⟨.inr ⟨by simp at hp1; omega, hp2⟩, hcp, wc.heap.size, 0, 1, [(q, boxZ ps)], [[⟨⟨id, kd, ht, col, ps⟩, bl, off, cap⟩]], hp4, by simp, by simp, by simp, hkO, rfl, fun i p' y t e e' => (by
        match i, e, e' with
        | 0, e, e' =>
          simp at e e'
          obtain ⟨rfl, rfl⟩ := e
          exact ⟨_, e'.symm, rfl, hl3⟩
        | i + 1, e, _ => simp at e), rfl, rfl⟩
    exact (hT.same (same_set w3 (w.heap.size + 1 + 1) 0 _ (fun h => h.elim (fun h => by have := Hok.out _ h; omega) (fun h => by omega)))).mono (fun b hb => hb.elim .inl fun h => .inr ⟨by omega, Nat.lt_of_lt_of_le h.2 (by simp)⟩)

end Go.Proofs.YtbphndloichnaaaGreatDoor
namespace Go.Proofs.YtbphndloichnaaaGreatDoor
open Go.RowKit

theorem len_flatten {ts : List (List FV)} (h : ∀ t ∈ ts, ∃ g, t = [g]) : ts.flatten.length = ts.length := by
  induction ts with
  | nil => rfl
  | cons t r ih =>
    obtain ⟨g, rfl⟩ := h t (by simp)
    have := ih (fun t ht => h t (by simp [ht]))
    simp [this]

set_option maxRecDepth 100000 in
set_option maxHeartbeats 2000000 in
theorem With_more (ok : Nat → Prop) (f : Feat) (bl off n cap : Nat) (q : Nat) (fs : List FV) (x : Bx) (w : World) (hT : IsT ok w 1 q fs x) (hfs : fs.length ≤ 3) (hok : ∀ b, ok b → b < w.heap.size) (hobl : ok bl) (hp : Places w.heap.size w bl off f.ps) (hn : n = f.ps.length) (hn1 : 1 ≤ n) (hn2 : n ≤ 6) (hcap : n ≤ cap) :
    Calls Tryz.prog 31 #[.agg #[.pointer (some ⟨q, 0, none⟩)], .agg #[.int .i64 f.id, .int .i64 f.kd, .int .i64 f.ht, .int .i64 f.col, .slice (some ⟨bl, off, none⟩) n cap]] w fun e w' => ∃ q' x', e = .returned (.agg #[.pointer (some ⟨q', 0, none⟩)]) ∧ IsT (okN ok w.heap.size w'.heap.size) w' 1 q' (fs ++ [⟨f, bl, off, cap⟩]) x' ∧ Below w.heap.size w w' := by
  have Hp : Hid (Places w.heap.size w bl off f.ps) := hp
  have Hn : Hid (n = f.ps.length) := hn
  have hbl := hp.1
  have Hok : Hid (∀ b, ok b → b < w.heap.size) := hok
  have Hobl : Hid (ok bl) := hobl
  have HT : Hid (IsT ok w 1 q fs x) := hT
  clear hp hn hok hobl hT
  obtain ⟨id, kd, ht, col, ps⟩ := f
  dsimp only at Hp Hn ⊢
  have hB : ∀ o1 o2 o3 : Obj, Below w.heap.size w (((w.alloc o1).alloc o2).alloc o3) := fun o1 o2 o3 => (((Below.refl _ _).alloc (Nat.le_refl _) _).alloc (by simp) _).alloc (by simp; omega) _
  go_enter Tryz.func31, Tryz.ntmps31
  go_upto_region 1 with fail
  go_cut [5] (fun v wc => ∃ ql, v = .pointer (some ⟨ql, 0, none⟩) ∧ ql < wc.heap.size ∧ LeafAt (okN ok (w.heap.size + 3) wc.heap.size) wc ql ⟨⟨id, kd, ht, col, ps⟩, bl, off, cap⟩ ∧ wc.cell? ⟨w.heap.size, 0, none⟩ = some (.pointer (some ⟨q, 0, none⟩)) ∧ wc.cell? ⟨w.heap.size + 1 + 1, 0, none⟩ = some (.pointer none) ∧ wc.frozen? ⟨w.heap.size + 1 + 1, 0, none⟩ = false ∧ Below w.heap.size w wc ∧ w.heap.size + 3 ≤ wc.heap.size)
  case first =>
    go_region_held3 (fun w' => w'.cell? ⟨w.heap.size + 1, 0, none⟩ = some (.int .i64 id) ∧ w'.cell? ⟨w.heap.size + 1, 1, none⟩ = some (.int .i64 kd) ∧ w'.cell? ⟨w.heap.size + 1, 2, none⟩ = some (.int .i64 ht) ∧ w'.cell? ⟨w.heap.size + 1, 3, none⟩ = some (.int .i64 col) ∧ w'.cell? ⟨w.heap.size + 1, 4, none⟩ = some (.slice (some ⟨bl, off, none⟩) n cap)) (first | (simp [go_sem, *]; done) | exact s2)
      (first
      | (go_at_call 53; refine (BoxOf_any bl off n cap ps _ ((Hp.out.below (hB _ _ _).drew).mono (by simp; omega)) Hn.out hn1 (by omega) hcap).mono ?_; rintro e w2 ⟨rfl, hb2⟩; obtain ⟨hc2, hf2⟩ := bcell hb2; have s2 := And.intro ((hc2 (w.heap.size + 1) 0 (by simp <;> omega)).trans (show _ = some (Value.int .i64 id) from (by simp [go_sem]))) (And.intro ((hc2 (w.heap.size + 1) 1 (by simp <;> omega)).trans (show _ = some (Value.int .i64 kd) from (by simp [go_sem]))) (And.intro ((hc2 (w.heap.size + 1) 2 (by simp <;> omega)).trans (show _ = some (Value.int .i64 ht) from (by simp [go_sem]))) (And.intro ((hc2 (w.heap.size + 1) 3 (by simp <;> omega)).trans (show _ = some (Value.int .i64 col) from (by simp [go_sem]))) ((hc2 (w.heap.size + 1) 4 (by simp <;> omega)).trans (show _ = some (Value.slice (some ⟨bl, off, none⟩) n cap) from (by simp [go_sem])))))); have r0 : w2.cell? ⟨w.heap.size, 0, none⟩ = some (Value.pointer (some ⟨q, 0, none⟩)) := (hc2 w.heap.size 0 (by simp <;> omega)).trans (by simp [go_sem]); have r1 : w2.cell? ⟨w.heap.size + 1 + 1, 0, none⟩ = some (Value.pointer none) := (hc2 (w.heap.size + 1 + 1) 0 (by simp <;> omega)).trans (by simp [go_sem]); have r2 : w2.frozen? ⟨w.heap.size + 1 + 1, 0, none⟩ = false := (hf2 (w.heap.size + 1 + 1) 0 (by simp <;> omega)).trans (by simp [go_sem]); have hz2 : w.heap.size + 3 ≤ w2.heap.size := (by have := hb2.size; simp at this; omega); have hz3 : w.heap.size + 1 < w2.heap.size := (by omega); have hB2 : Below w.heap.size w w2 := (hB _ _ _).drew.trans (hb2.mono (by simp <;> omega)); clear hc2 hf2 hb2))
    all_goals
      go_wp2_with fail
      go_meet
      have hA : ∀ o : Obj, Below w2.heap.size w2 (w2.alloc o) := fun o => (Below.refl _ _).alloc (Nat.le_refl _) o
      refine ⟨w2.heap.size, rfl, by simp, ?_, ((hA _).cell (p := ⟨w.heap.size, 0, none⟩) (show w.heap.size < w2.heap.size by omega)).trans r0, ((hA _).cell (p := ⟨w.heap.size + 1 + 1, 0, none⟩) (show w.heap.size + 1 + 1 < w2.heap.size by omega)).trans r1, ((hA _).frozen (p := ⟨w.heap.size + 1 + 1, 0, none⟩) (show w.heap.size + 1 + 1 < w2.heap.size by omega)).trans r2, hB2.alloc (by omega) _, by simp; omega⟩
      have h := leaf_new w2 ⟨id, kd, ht, col, ps⟩ (okN ok (w.heap.size + 3) (w2.heap.size + 1)) bl off cap (.inl Hobl.out) (.inr ⟨by omega, by omega⟩) ((Hp.out.below hB2).mono (by omega)) (by rw [← Hn.out]; exact hcap)
      rw [World.size_alloc, Hn.out]
      exact h
  case rest =>
    obtain ⟨ql, rfl, hql, hleaf, r0, r1, r2, hB1, hz1⟩ := hcut
    have Hleaf : Hid (LeafAt (okN ok (w.heap.size + 3) wc.heap.size) wc ql ⟨⟨id, kd, ht, col, ps⟩, bl, off, cap⟩) := hleaf
    clear hleaf
    have hTc : IsT ok wc 1 q fs x := HT.out.same (Same.of_below hB1 Hok.out)
    obtain ⟨hq, hcq, kb, ko, kcap, ks, ts, h4, hne, hle, hkcap, hkO, htl, hts, hflat, hx⟩ := hTc
    have hone : ∀ t ∈ ts, ∃ g, t = [g] := by
      intro t ht
      obtain ⟨i, hi, rfl⟩ := List.mem_iff_getElem.1 ht
      obtain ⟨g, e, _⟩ := hts i (ks[i]'(by omega)).1 (ks[i]'(by omega)).2 ts[i] (List.getElem?_eq_getElem _) (List.getElem?_eq_getElem _)
      exact ⟨g, e⟩
    have hkl : ks.length = fs.length := by rw [← htl, hflat]; exact (len_flatten hone).symm
    have hok' : ∀ b, ok b → b < wc.heap.size := fun b hb => Nat.lt_of_lt_of_le (Hok.out b hb) (by omega)
    obtain ⟨k0, hk0⟩ : ∃ k0, ks[0]? = some k0 := ⟨ks[0]'(List.length_pos_iff.2 hne), List.getElem?_eq_getElem _⟩
    obtain ⟨t0, ht0⟩ : ∃ t0, ts[0]? = some t0 := ⟨ts[0]'(by have := List.length_pos_iff.2 hne; omega), List.getElem?_eq_getElem _⟩
    obtain ⟨q0, x0⟩ := k0
    obtain ⟨g0, e0, ex0, hl0⟩ := hts 0 q0 x0 t0 hk0 ht0
    have hc0 := hkO.2 0 q0 x0 hk0
    have hnl := hl0.kids
    have hpos := List.length_pos_iff.2 hne
    have hqlt := hok' q hq
    have hq0lt := hok' q0 hl0.lt
    have hp00 := hc0.1
    simp only [Nat.add_zero] at hp00
    have Hwl := with_leaves q kb ko ks.length kcap ql q0 (boxZ ps) ks wc hqlt h4 rfl hpos (by omega) (hkO.at hok') hp00 hq0lt hnl hql Hleaf.out.box
    have HWL : Hid _ := Hwl
    clear Hwl
    have HTS : Hid (∀ (i : Nat) p y t, ks[i]? = some (p, y) → ts[i]? = some t → IsT ok wc 0 p t y) := hts
    have HKO : Hid (KidsO ok wc kb ko ks) := hkO
    have HFL : Hid (fs = ts.flatten) := hflat
    have HTL : Hid (ts.length = ks.length) := htl
    have HKL : Hid (ks.length = fs.length) := hkl
    clear hts hkO hflat hone hkl e0 ex0 hl0 hc0 hnl hp00 h4 hcq hx hk0 ht0 htl
    have hz4 : w.heap.size + 1 + 1 < wc.heap.size := by omega
    go_wp2_with (go_at_call 55; refine Calls.mono HWL.out ?_; rintro e w3 ⟨s, p, g, c, rfl, hs0, hs1, hp1, hp2, hg1, hcp, hp4, hgc, hkid, hb3⟩; have t1 : w3.cell? ⟨w.heap.size + 1 + 1, 0, none⟩ = some (.pointer none) := (hb3.cell (p := ⟨w.heap.size + 1 + 1, 0, none⟩) hz4).trans r1; have t2 : w3.frozen? ⟨w.heap.size + 1 + 1, 0, none⟩ = false := (hb3.frozen (p := ⟨w.heap.size + 1 + 1, 0, none⟩) hz4).trans r2; have HKID : Hid (KidsAt w3.heap.size w3 g 0 (ks ++ [(ql, boxZ ps)])) := hkid; clear hkid)
    have hS : Below w.heap.size w3 (w3.setCell ⟨w.heap.size + 1 + 1, 0, none⟩ (.pointer (some ⟨p, 0, none⟩))) := (Below.refl _ _).setCell (p := ⟨w.heap.size + 1 + 1, 0, none⟩) (show w.heap.size ≤ w.heap.size + 1 + 1 by omega) _
    refine bodyPost_ret (v := .agg #[.pointer (some ⟨p, 0, none⟩)]) (by simp [results, Tryz.results31, go_sem, t1]) rfl ⟨p, joinK (ks ++ [(ql, boxZ ps)]), rfl, ?_, hB1.trans ((hb3.mono (by omega)).trans hS)⟩
    have hsz := hb3.size
    have hsame : Same (okN ok (w.heap.size + 3) wc.heap.size) wc w3 := Same.of_below hb3 (fun b hb => hb.elim (fun h => hok' b h) (fun h => h.2))
    have hup : ∀ b, okN ok (w.heap.size + 3) wc.heap.size b → okN ok (w.heap.size + 3) w3.heap.size b := fun b hb => hb.elim .inl fun h => .inr ⟨h.1, by omega⟩
    have hT3 : IsT (okN ok (w.heap.size + 3) w3.heap.size) w3 1 p (fs ++ [⟨⟨id, kd, ht, col, ps⟩, bl, off, cap⟩]) (joinK (ks ++ [(ql, boxZ ps)])) := by
      refine ⟨.inr ⟨by omega, hp2⟩, hcp, g, 0, c, ks ++ [(ql, boxZ ps)], ts ++ [[⟨⟨id, kd, ht, col, ps⟩, bl, off, cap⟩]], by simpa using hp4, by simp, by have := HKL.out; simp; omega, by simpa using hgc, ⟨.inr ⟨by omega, HKID.out.1⟩, fun i p' y e => ⟨(HKID.out.2 i p' y e).1, ?_, (HKID.out.2 i p' y e).2.2⟩⟩, by have := HTL.out; simp; omega, fun i p' y t e e' => ?_, by rw [HFL.out]; simp, rfl⟩
      · rcases getElem?_snoc e with h | ⟨_, h⟩
        · exact .inl (HKO.out.2 i p' y h).2.1
        · cases h; exact hup _ Hleaf.out.lt
      · rcases getElem?_snoc e with h | ⟨h1, h⟩
        · have hi : i < ks.length := (List.getElem?_eq_some_iff.1 h).1
          rcases getElem?_snoc e' with h' | ⟨h', _⟩
          · exact ((HTS.out i p' y t h h').mono (fun b hb => .inl hb) |>.same hsame).mono hup
          · exact absurd h' (by have := HTL.out; omega)
        · cases h
          rcases getElem?_snoc e' with h' | ⟨_, h'⟩
          · exact absurd (List.getElem?_eq_some_iff.1 h').1 (by have := HTL.out; omega)
          · exact ⟨_, h', rfl, (Hleaf.out.same hsame).mono hup⟩
    exact (hT3.same (same_set w3 (w.heap.size + 1 + 1) 0 _ (fun h => h.elim (fun h => by have := Hok.out _ h; omega) (fun h => by omega)))).mono (fun b hb => hb.elim .inl fun h => .inr ⟨by omega, Nat.lt_of_lt_of_le h.2 (by simp)⟩)

end Go.Proofs.YtbphndloichnaaaGreatDoor
