import Derived.Test.YtenaepdmlknlcaaGreatDoorF16
import Derived.Test.YtenaepdmlknlcaaGreatDoorF05
namespace Go.Proofs.YtenaepdmlknlcaaGreatDoor
open Go.RowKit

theorem keep5 {A B : World} {N q m : Nat} (hb : Below N A B) (hq : q < N) (hm : m < N) {x v0 v1 v2 v3 : Value}
    (s : A.cell? ⟨q, 4, none⟩ = some x ∧ A.cell? ⟨m, 0, none⟩ = some v0 ∧ A.cell? ⟨m, 1, none⟩ = some v1 ∧ A.cell? ⟨m, 2, none⟩ = some v2 ∧ A.cell? ⟨m, 3, none⟩ = some v3) :
    B.cell? ⟨q, 4, none⟩ = some x ∧ B.cell? ⟨m, 0, none⟩ = some v0 ∧ B.cell? ⟨m, 1, none⟩ = some v1 ∧ B.cell? ⟨m, 2, none⟩ = some v2 ∧ B.cell? ⟨m, 3, none⟩ = some v3 := by
  obtain ⟨hc, _⟩ := bcell hb
  obtain ⟨a0, a1, a2, a3, a4⟩ := s
  exact ⟨(hc _ _ hq).trans a0, (hc _ _ hm).trans a1, (hc _ _ hm).trans a2, (hc _ _ hm).trans a3, (hc _ _ hm).trans a4⟩
theorem keep2 {A B : World} {N q m o : Nat} (hb : Below N A B) (hq : q < N) (hm : m < N) {x v0 : Value}
    (s : A.cell? ⟨q, 4, none⟩ = some x ∧ A.cell? ⟨m, o, none⟩ = some v0) :
    B.cell? ⟨q, 4, none⟩ = some x ∧ B.cell? ⟨m, o, none⟩ = some v0 := by
  obtain ⟨hc, _⟩ := bcell hb
  exact ⟨(hc _ _ hq).trans s.1, (hc _ _ hm).trans s.2⟩

def WithRest (ok : Nat → Prop) (d : Nat) (fs : List FV) (w : World) (s m : Nat) (w' : World) : Prop :=
  ∃ (ps : Kids) (tss : List (List FV)), (m = 1 ∨ m = 2) ∧ ps.length = m ∧ tss.length = m ∧ w.heap.size ≤ s ∧ (∀ (i : Nat) p, ps[i]? = some p → w'.cell? ⟨s, i, none⟩ = some (.pointer (some ⟨p.1, 0, none⟩))) ∧ (∀ (i : Nat) p y t, ps[i]? = some (p, y) → tss[i]? = some t → IsT (okN ok w.heap.size w'.heap.size) w' d p t y) ∧ tss.flatten.Perm fs
theorem WithPost.split {ok : Nat → Prop} {d : Nat} {fs : List FV} {w : World} {e : Ending} {w' : World} (h : WithPost ok d fs w e w') : ∃ s m : Nat, e = .returned (.slice (some ⟨s, 0, none⟩) m m) ∧ Hid (WithRest ok d fs w s m w') ∧ s < w'.heap.size ∧ Below w.heap.size w w' := by
  obtain ⟨s, m, ps, tss, h1, h2, h3, h4, h5, h6, h7, h8, h9, h10⟩ := h
  exact ⟨s, m, h1, ⟨ps, tss, h2, h3, h4, h5, h7, h8, h9⟩, h6, h10⟩

theorem kids_cell {ok : Nat → Prop} {w : World} {d q : Nat} {fs : List FV} {x : Bx} (h : IsT ok w (d + 1) q fs x) : ok q ∧ ∃ kb ko n cap, w.cell? ⟨q, 4, none⟩ = some (.slice (some ⟨kb, ko, none⟩) n cap) := by
  obtain ⟨h1, _, kb, ko, cap, ks, _, h4, _⟩ := h
  exact ⟨h1, kb, ko, _, cap, h4⟩

/-- What with says of a tree. -/
def WithAny (d : Nat) : Prop := ∀ (ok : Nat → Prop) (q ql : Nat) (fs : List FV) (x : Bx) (v : FV) (w : World), IsT ok w (d + 1) q fs x → (∀ b, ok b → b < w.heap.size) → IsT ok w 0 ql [v] (boxZ v.f.ps) → (∀ u ∈ fs, validF u.f = true) → validF v.f = true →
  Calls Tryz.prog 55 #[.pointer (some ⟨q, 0, none⟩), .pointer (some ⟨ql, 0, none⟩)] w (WithPost ok (d + 1) (fs ++ [v]) w)

theorem WithPost.perm {ok : Nat → Prop} {d : Nat} {fs fs' : List FV} {w : World} {e : Ending} {w' : World} (h : WithPost ok d fs w e w') (hp : fs.Perm fs') : WithPost ok d fs' w e w' := by
  obtain ⟨s, m, ps, tss, h1, h2, h3, h4, h5, h6, h7, h8, h9, h10⟩ := h
  exact ⟨s, m, ps, tss, h1, h2, h3, h4, h5, h6, h7, h8, h9.trans hp, h10⟩

theorem mem_zip_idx {α β : Type} {l : List α} {r : List β} {k : α × β} (h : k ∈ List.zip l r) : ∃ i : Nat, l[i]? = some k.1 ∧ r[i]? = some k.2 := by
  obtain ⟨i, hi, rfl⟩ := List.mem_iff_getElem.1 h
  have hi' : i < l.length ∧ i < r.length := by simpa [List.length_zip, Nat.lt_min] using hi
  rw [List.getElem_zip]
  exact ⟨i, List.getElem?_eq_getElem hi'.1, List.getElem?_eq_getElem hi'.2⟩

theorem perm_mid {α : Type} {a b c t u : List α} (h : b.Perm (t ++ u)) : (a ++ b ++ c).Perm (a ++ t ++ c ++ u) := by
  refine ((h.append_left a).append_right c).trans ?_
  rw [← List.append_assoc, List.append_assoc (a ++ t) u c, List.append_assoc (a ++ t) c u]
  exact (List.perm_append_comm (l₁ := u) (l₂ := c)).append_left (a ++ t)

theorem flatten_mid {α : Type} {ts : List (List α)} {i : Nat} {t : List α} (h : ts[i]? = some t) : (ts.take i).flatten ++ t ++ (ts.drop (i + 1)).flatten = ts.flatten := by
  have hi : i < ts.length := (List.getElem?_eq_some_iff.1 h).1
  have ht : ts[i] = t := (List.getElem?_eq_some_iff.1 h).2
  conv => rhs; rw [← List.take_append_drop i ts, List.drop_eq_getElem_cons hi, ht]
  simp

/-- The row of a tree's kids, one of which gave way to one or two. -/
theorem with_concat (d : Nat) (ok : Nat → Prop) (kb ko cap n i s m : Nat) (ks : Kids) (ts : List (List FV)) (fs ti : List FV) (v : FV) (w w1 w2 : World) (hok : ∀ b, ok b → b < w.heap.size) (hkO : KidsO ok w kb ko ks) (hn : n = ks.length) (hlen : ts.length = n) (hle : n ≤ 4) (hcap : n ≤ cap) (hi : i < n)
    (hkt : ∀ (i : Nat) p y t, ks[i]? = some (p, y) → ts[i]? = some t → IsT ok w (d + 1) p t y) (hti : ts[i]? = some ti) (hf : fs = ts.flatten) (hval : ∀ u ∈ fs, validF u.f = true) (hv : validF v.f = true)
    (hB1 : Below w.heap.size w w1) (hb2 : Below w1.heap.size w1 w2) (hs2 : s < w2.heap.size) (hR : WithRest ok (d + 1) (ti ++ [v]) w1 s m w2) :
    Calls Tryz.prog 88 #[.slice (some ⟨w2.heap.size, 0, none⟩) 3 3] (w2.alloc (.cells #[.slice (some ⟨kb, ko, none⟩) i cap, .slice (some ⟨s, 0, none⟩) m m, .slice (if cap = i + 1 then some ⟨kb, ko, none⟩ else some ⟨kb, ko + (i + 1), none⟩) (n - (i + 1)) (cap - (i + 1))] 143)) fun e w' =>
      ∃ g c M : Nat, e = .returned (.slice (some ⟨g, 0, none⟩) M c) ∧ Hid (Calls Tryz.prog 87 #[.slice (some ⟨g, 0, none⟩) M c] w' (WithPost ok (d + 2) (fs ++ [v]) w)) ∧ Below w.heap.size w w' := by
  obtain ⟨ps, tss, hm, hps, htss, hs1, hrow, hTs, hperm⟩ := hR
  have hB2 : Below w.heap.size w w2 := hB1.trans (hb2.mono hB1.size)
  have hz1 := hB1.size
  have hz2 := hb2.size
  have hkb := hok _ hkO.1
  generalize hO : Obj.cells #[.slice (some ⟨kb, ko, none⟩) i cap, .slice (some ⟨s, 0, none⟩) m m, .slice (if cap = i + 1 then some ⟨kb, ko, none⟩ else some ⟨kb, ko + (i + 1), none⟩) (n - (i + 1)) (cap - (i + 1))] 143 = O
  have hA : Below w2.heap.size w2 (w2.alloc O) := (Below.refl _ _).alloc (Nat.le_refl _) _
  have hB3 : Below w.heap.size w (w2.alloc O) := hB2.trans (hA.mono hB2.size)
  -- the parts
  obtain ⟨o3, ho3⟩ : ∃ o3, o3 = if cap = i + 1 then ko else ko + (i + 1) := ⟨_, rfl⟩
  have hif : (if cap = i + 1 then some (⟨kb, ko, none⟩ : Addr) else some ⟨kb, ko + (i + 1), none⟩) = some ⟨kb, o3, none⟩ := by
    rw [ho3]; split <;> rfl
  have hcat : catTo [⟨kb, ko, cap, ptrs (ks.take i)⟩, ⟨s, 0, m, ptrs ps⟩, ⟨kb, o3, cap - (i + 1), ptrs (ks.drop (i + 1))⟩] 3 = ptrs (ks.take i ++ ps ++ ks.drop (i + 1)) := by simp [catTo, ptrs]
  have hl1 : (ptrs (ks.take i)).length = i := by rw [ptrs, List.length_map, List.length_take]; omega
  have hl2 : (ptrs ps).length = m := by rw [ptrs, List.length_map, hps]
  have hl3 : (ptrs (ks.drop (i + 1))).length = n - (i + 1) := by rw [ptrs, List.length_map, List.length_drop, ← hn]
  have hP : PartsAt (w2.alloc O).heap.size (w2.alloc O) w2.heap.size 0 [⟨kb, ko, cap, ptrs (ks.take i)⟩, ⟨s, 0, m, ptrs ps⟩, ⟨kb, o3, cap - (i + 1), ptrs (ks.drop (i + 1))⟩] := by
    refine ⟨by simp, fun j p e => ?_⟩
    match j, e with
    | 0, e =>
      simp at e; subst e
      refine ⟨by rw [hl1, ← hO]; simp [go_sem], by show kb < _; simp; omega, fun j u hj => ?_⟩
      obtain ⟨q, x, hq, rfl⟩ := ptrs_at hj
      exact (hB3.cell (p := ⟨kb, ko + j, none⟩) hkb).trans (hkO.2 j q x (getD_take hq)).1
    | 1, e =>
      simp at e; subst e
      refine ⟨by rw [hl2, ← hO]; simp [go_sem], by show s < _; simp; omega, fun j u hj => ?_⟩
      obtain ⟨q, x, hq, rfl⟩ := ptrs_at hj
      rw [Nat.zero_add]
      exact (hA.cell (p := ⟨s, j, none⟩) hs2).trans (hrow j _ hq)
    | 2, e =>
      simp at e; subst e
      refine ⟨by rw [hl3, ← hO, hif]; simp [go_sem], by show kb < _; simp; omega, fun j u hj => ?_⟩
      obtain ⟨q, x, hq, rfl⟩ := ptrs_at hj
      have hq' := getD_drop hq
      have hjl : i + 1 + j < ks.length := (List.getElem?_eq_some_iff.1 hq').1
      have h3 : o3 = ko + (i + 1) := by rw [ho3, if_neg (by omega)]
      have := (hB3.cell (p := ⟨kb, ko + (i + 1 + j), none⟩) hkb).trans (hkO.2 _ q x hq').1
      show (w2.alloc O).cell? ⟨kb, o3 + j, none⟩ = _
      rw [h3, Nat.add_assoc]
      exact this
    | j + 3, e => simp at e
  -- the trees
  obtain ⟨kt, hktd⟩ : ∃ kt : KT, kt = List.zip (ks.take i) (ts.take i) ++ List.zip ps tss ++ List.zip (ks.drop (i + 1)) (ts.drop (i + 1)) := ⟨_, rfl⟩
  have z1 : (ks.take i).length = (ts.take i).length := by rw [List.length_take, List.length_take]; omega
  have z3 : (ks.drop (i + 1)).length = (ts.drop (i + 1)).length := by rw [List.length_drop, List.length_drop]; omega
  have e1 : kt.map Prod.fst = ks.take i ++ ps ++ ks.drop (i + 1) := by
    rw [hktd, List.map_append, List.map_append, List.map_fst_zip (by omega), List.map_fst_zip (by omega), List.map_fst_zip (by omega)]
  have e2 : (kt.map Prod.snd).flatten = (ts.take i).flatten ++ tss.flatten ++ (ts.drop (i + 1)).flatten := by
    rw [hktd, List.map_append, List.map_append, List.map_snd_zip (by omega), List.map_snd_zip (by omega), List.map_snd_zip (by omega), List.flatten_append, List.flatten_append]
  have hpm : (kt.map Prod.snd).flatten.Perm (fs ++ [v]) := by
    rw [e2, hf, ← flatten_mid hti]
    exact perm_mid hperm
  have hkl : kt.length = (n + m - 2) + 1 := by
    have := congrArg List.length e1
    rw [List.length_map, List.length_append, List.length_append, List.length_take, List.length_drop, hps, ← hn] at this
    omega
  have hok3 : ∀ b, okN ok w1.heap.size w2.heap.size b → okN ok w.heap.size (w2.alloc O).heap.size b := fun b hb => hb.elim .inl (fun h => .inr ⟨by omega, by simp; omega⟩)
  have hold : ∀ (j : Nat) (k : (Nat × Bx) × List FV), ks[j]? = some k.1 → ts[j]? = some k.2 → IsT (okN ok w.heap.size (w2.alloc O).heap.size) (w2.alloc O) (d + 1) k.1.1 k.2 k.1.2 ∧ ∀ u ∈ k.2, validF u.f = true := fun j k h1 h2 =>
    ⟨((hkt j _ _ _ h1 h2).same (Same.of_below hB3 hok)).mono (fun b hb => .inl hb), fun u hu => hval u (by rw [hf]; exact List.mem_flatten.2 ⟨k.2, List.mem_of_getElem? h2, hu⟩)⟩
  have hmem : ∀ k ∈ kt, IsT (okN ok w.heap.size (w2.alloc O).heap.size) (w2.alloc O) (d + 1) k.1.1 k.2 k.1.2 ∧ ∀ u ∈ k.2, validF u.f = true := by
    intro k hk
    rw [hktd, List.mem_append, List.mem_append] at hk
    rcases hk with (hk | hk) | hk
    · obtain ⟨j, h1, h2⟩ := mem_zip_idx hk
      refine hold j k (getD_take h1) ?_
      rw [List.getElem?_take] at h2
      split at h2
      · exact h2
      · cases h2
    · obtain ⟨j, h1, h2⟩ := mem_zip_idx hk
      refine ⟨((hTs j k.1.1 k.1.2 k.2 h1 h2).same (Same.of_below hA (fun b hb => hb.elim (fun h => Nat.lt_of_lt_of_le (hok b h) (by omega)) (fun h => h.2)))).mono hok3, fun u hu => ?_⟩
      have hmm : u ∈ tss.flatten := List.mem_flatten.2 ⟨k.2, List.mem_of_getElem? h2, hu⟩
      rw [hperm.mem_iff, List.mem_append] at hmm
      rcases hmm with hmm | hmm
      · exact hval u (by rw [hf]; exact List.mem_flatten.2 ⟨ti, List.mem_of_getElem? hti, hmm⟩)
      · simp at hmm; subst hmm; exact hv
    · obtain ⟨j, h1, h2⟩ := mem_zip_idx hk
      refine hold (i + 1 + j) k (getD_drop h1) ?_
      rw [List.getElem?_drop] at h2
      exact h2
  have hpl : (ptrs (ks.take i ++ ps ++ ks.drop (i + 1))).length = (n + m - 2) + 1 := by rw [ptrs, List.length_map, ← e1, List.length_map, hkl]
  refine (Concat_any w2.heap.size 0 3 3 _ _ hP rfl (by decide) (by show 1 ≤ (catTo _ 3).length; rw [hcat, hpl]; omega) (by show (catTo _ 3).length ≤ 1000; rw [hcat, hpl]; omega) (by show ∀ u ∈ catTo _ 3, _; rw [hcat]; exact oneCell_ptrs _)).mono ?_
  rintro e w4 ⟨vv, rfl, hown, hb4⟩
  replace hown : w4.ownsRow (w2.alloc O).heap.size 87 1 vv (catTo [⟨kb, ko, cap, ptrs (ks.take i)⟩, ⟨s, 0, m, ptrs ps⟩, ⟨kb, o3, cap - (i + 1), ptrs (ks.drop (i + 1))⟩] 3).length (catTo [⟨kb, ko, cap, ptrs (ks.take i)⟩, ⟨s, 0, m, ptrs ps⟩, ⟨kb, o3, cap - (i + 1), ptrs (ks.drop (i + 1))⟩] 3) := hown
  rw [hcat, ← e1] at hown
  obtain ⟨g, c, rfl, hcall⟩ := parted_trees w (w2.alloc O) w4 vv kt (d + 1) (n + m - 2) hok hkl (by omega) hB3 hb4 hown (fun k hk => (hmem k hk).1) (fun k hk => (hmem k hk).2)
  exact ⟨g, c, _, rfl, hcall.mono (fun e w' h => h.perm hpm), hB3.trans (hb4.mono hB3.size)⟩

set_option maxRecDepth 100000 in
set_option maxHeartbeats 4000000 in
theorem with_inner (d : Nat) (IH : WithAny d) (ok : Nat → Prop) (q ql : Nat) (fs : List FV) (x : Bx) (v : FV) (w : World) (hT : IsT ok w (d + 2) q fs x) (hok : ∀ b, ok b → b < w.heap.size) (hl : IsT ok w 0 ql [v] (boxZ v.f.ps)) (hval : ∀ u ∈ fs, validF u.f = true) (hv : validF v.f = true) :
    Calls Tryz.prog 55 #[.pointer (some ⟨q, 0, none⟩), .pointer (some ⟨ql, 0, none⟩)] w (WithPost ok (d + 2) (fs ++ [v]) w) := by
  obtain ⟨hq, hc, kb, ko, cap, ks, ts, h4, hne, hle, hcap, hkO, hlen, hkt, hf, hx⟩ := hT
  obtain ⟨n, hn⟩ : ∃ n, n = ks.length := ⟨_, rfl⟩
  have hn1 : 1 ≤ n := by
    rw [hn]; exact List.length_pos_iff.2 hne
  rw [← hn] at h4 hle hcap hlen
  have hqs := hok _ hq
  have hkb := hok _ hkO.1
  obtain ⟨⟨q0, x0⟩, he0⟩ : ∃ k, ks[0]? = some k := ⟨ks[0]'(by omega), List.getElem?_eq_getElem _⟩
  obtain ⟨t0, ht0⟩ : ∃ t, ts[0]? = some t := ⟨ts[0]'(by omega), List.getElem?_eq_getElem _⟩
  obtain ⟨hq0, kb0, ko0, n0, cap0, h40⟩ := kids_cell (hkt 0 q0 x0 t0 he0 ht0)
  have hp0 : w.cell? ⟨kb, ko, none⟩ = some (.pointer (some ⟨q0, 0, none⟩)) := (hkO.2 0 q0 x0 he0).1
  have hq0s := hok _ hq0
  have hql := hok _ hl.lt
  obtain ⟨b0, b1, b2, b3⟩ := hl.c4
  have hvb := valid_box hv
  have HG : Hid (∀ W : World, Below w.heap.size w W → Calls Tryz.prog 89 #[.slice (some ⟨kb, ko, none⟩) n cap, .agg #[.int .i64 (boxZ v.f.ps).l, .int .i64 (boxZ v.f.ps).t, .int .i64 (boxZ v.f.ps).r, .int .i64 (boxZ v.f.ps).b]] W fun e w' => (∃ i : Nat, i < n ∧ e = .returned (.int .i64 (i : Int))) ∧ Below W.heap.size W w') := fun W hW =>
    leastGrowth_any kb ko n cap ks (boxZ v.f.ps) W (((hkO.at hok).below hW).mono hW.size) hn hn1 (by omega) (fun k hk => by
      obtain ⟨i, hi, rfl⟩ := List.mem_iff_getElem.1 hk
      have hti : i < ts.length := by omega
      exact (hkt i ks[i].1 ks[i].2 ts[i] (List.getElem?_eq_getElem hi) (List.getElem?_eq_getElem hti)).bxw (fun u hu => hval u (by rw [hf]; exact List.mem_flatten.2 ⟨ts[i], List.getElem_mem hti, hu⟩))) hvb
  have HKT : Hid (∀ (i : Nat) p y t, ks[i]? = some (p, y) → ts[i]? = some t → IsT ok w (d + 1) p t y) := hkt
  have HKO : Hid (KidsO ok w kb ko ks) := hkO
  have Hn : Hid (n = ks.length ∧ ts.length = n) := ⟨hn, hlen⟩
  have Hf : Hid (fs = ts.flatten) := hf
  have Hval : Hid ((∀ u ∈ fs, validF u.f = true) ∧ validF v.f = true) := ⟨hval, hv⟩
  have Hl : Hid (IsT ok w 0 ql [v] (boxZ v.f.ps)) := hl
  have Hok : Hid (∀ b, ok b → b < w.heap.size) := hok
  have HIH : Hid (WithAny d) := IH
  clear hn hlen hf hval hv hl hkt hkO hok he0 ht0 hc hx hne hvb IH
  have hnn := eql_some
  have h0n : (0 : Int) < (n : Int) := by omega
  have h0n' : 0 < n := by omega
  go_enter Tryz.func55, Tryz.ntmps55
  go_upto_region 3 with fail
  go_region_held3 (fun w' => w'.cell? ⟨q, 4, none⟩ = some (.slice (some ⟨kb, ko, none⟩) n cap) ∧ w'.cell? ⟨ql, 0, none⟩ = some (.int .i64 (boxZ v.f.ps).l) ∧ w'.cell? ⟨ql, 1, none⟩ = some (.int .i64 (boxZ v.f.ps).t) ∧ w'.cell? ⟨ql, 2, none⟩ = some (.int .i64 (boxZ v.f.ps).r) ∧ w'.cell? ⟨ql, 3, none⟩ = some (.int .i64 (boxZ v.f.ps).b)) (first | exact s2 | (simp [go_sem, *]; done))
    (first
    | (go_at_call 89; refine Calls.mono (HG.out _ (Below.refl _ _).drew) ?_; rintro e w1 ⟨⟨i, hi, rfl⟩, hb1⟩; have s2 := keep5 (q := q) (m := ql) hb1 hqs hql (by assumption)))
  have hB1 : Below w.heap.size w w1 := (Below.refl _ _).drew.trans hb1
  have hz1 := hB1.size
  have g4 := s2.1
  have H4 : Hid (w.cell? ⟨q, 4, none⟩ = some (.slice (some ⟨kb, ko, none⟩) n cap)) := h4
  clear s2 b0 b1 b2 b3 hp0 h40 HG h4 hb1
  obtain ⟨⟨qi, xi⟩, hei⟩ : ∃ k, ks[i]? = some k := ⟨ks[i]'(by rw [← Hn.out.1]; exact hi), List.getElem?_eq_getElem _⟩
  obtain ⟨ti, hti⟩ : ∃ t, ts[i]? = some t := ⟨ts[i]'(by rw [Hn.out.2]; exact hi), List.getElem?_eq_getElem _⟩
  have hpi : w1.cell? ⟨kb, ko + i, none⟩ = some (.pointer (some ⟨qi, 0, none⟩)) := (hB1.cell (p := ⟨kb, ko + i, none⟩) hkb).trans (HKO.out.2 i qi xi hei).1
  have Hei : Hid (ks[i]? = some (qi, xi) ∧ ts[i]? = some ti) := ⟨hei, hti⟩
  have HR : Hid (∀ W : World, Below w1.heap.size w1 W → Calls Tryz.prog 55 #[.pointer (some ⟨qi, 0, none⟩), .pointer (some ⟨ql, 0, none⟩)] W (WithPost ok (d + 1) (ti ++ [v]) W)) := fun W hW => by
    have hWw : Below w.heap.size w W := hB1.trans (hW.mono hz1)
    have hsame := Same.of_below hWw Hok.out
    exact HIH.out ok qi ql ti xi v W ((HKT.out i qi xi ti hei hti).same hsame) (fun b hb => Nat.lt_of_lt_of_le (Hok.out b hb) hWw.size) (Hl.out.same hsame) (fun u hu => Hval.out.1 u (by rw [Hf.out]; exact List.mem_flatten.2 ⟨ti, List.mem_of_getElem? hti, hu⟩)) Hval.out.2
  clear hei hti
  have hiI : (i : Int) < (n : Int) := by omega
  have hic : (i : Int) ≤ (cap : Int) := by omega
  have hic' : i ≤ cap := by omega
  have hi1 : (i : Int) + 1 ≤ (n : Int) := by omega
  have hin : i + 1 ≤ n := by omega
  have hk2 : ((i : Int) + 1).toNat = i + 1 := by omega
  have hk5 : (0 : Int) ≤ (i : Int) := by omega
  have hk6 : (0 : Int) ≤ (i : Int) + 1 := by omega
  have hk8 : IntKind.i64.wrap ((i : Int) + 1) = (i : Int) + 1 := by rw [IntKind.wrap_i64]; omega
  go_upto_region 4 with fail
  have HS : Hid (∀ W : World, Below w.heap.size w W → W.cell? ⟨q, 4, none⟩ = some (.slice (some ⟨kb, ko, none⟩) n cap) ∧ W.cell? ⟨kb, ko + i, none⟩ = some (.pointer (some ⟨qi, 0, none⟩))) := fun W hW => keep2 hW hqs hkb ⟨H4.out, (HKO.out.2 i qi xi Hei.out.1).1⟩
  have HCat : Hid (∀ (s m : Nat) (w2 : World), Below w1.drew.heap.size w1.drew w2 → s < w2.heap.size → WithRest ok (d + 1) (ti ++ [v]) w1.drew s m w2 → Calls Tryz.prog 88 #[.slice (some ⟨w2.heap.size, 0, none⟩) 3 3] (w2.alloc (.cells #[.slice (some ⟨kb, ko, none⟩) i cap, .slice (some ⟨s, 0, none⟩) m m, .slice (if cap = i + 1 then some ⟨kb, ko, none⟩ else some ⟨kb, ko + (i + 1), none⟩) (n - (i + 1)) (cap - (i + 1))] 143)) fun e w' =>
      ∃ g c M : Nat, e = .returned (.slice (some ⟨g, 0, none⟩) M c) ∧ Hid (Calls Tryz.prog 87 #[.slice (some ⟨g, 0, none⟩) M c] w' (WithPost ok (d + 2) (fs ++ [v]) w)) ∧ Below w.heap.size w w') := fun s m w2 hb2 hs2 hR =>
    with_concat d ok kb ko cap n i s m ks ts fs ti v w w1.drew w2 Hok.out HKO.out Hn.out.1 Hn.out.2 hle hcap hi HKT.out Hei.out.2 Hf.out Hval.out.1 Hval.out.2 hB1.drew hb2 hs2 hR
  have hBd : Below w.heap.size w w1.drew := hB1.drew
  clear HKT HKO Hn Hf Hval Hl Hok HIH
  go_region_held3 (fun w' => w'.cell? ⟨q, 4, none⟩ = some (.slice (some ⟨kb, ko, none⟩) n cap) ∧ w'.cell? ⟨kb, ko + i, none⟩ = some (.pointer (some ⟨qi, 0, none⟩))) (first | exact HS.out _ hB5 | exact HS.out _ hB4 | exact HS.out _ (hB2.alloc hB2.size _) | exact HS.out _ hB2 | exact HS.out _ hBd | (simp [go_sem, *]; done))
    (first
    | (go_at_call 55; refine Calls.mono (HR.out _ (Below.refl _ _).drew) ?_; intro e w2 hpost; obtain ⟨s, m, rfl, HW2, hs2, hb2⟩ := hpost.split; clear hpost; dsimp only; have hB2 : Below w.heap.size w w2 := hBd.trans (hb2.mono (by simp; omega)))
    | (go_at_call 88; refine Calls.mono (HCat.out _ _ _ hb2 hs2 HW2.out) ?_; rintro e w4 ⟨g, c, M, rfl, HP, hB4⟩; dsimp only)
    | (go_at_call 87; refine Calls.mono HP.out ?_; intro e w5 hpost; have HWP : Hid (WithPost ok (d + 2) (fs ++ [v]) w e w5) := hpost; obtain ⟨s', m', he, HW5, hs5, hB5⟩ := hpost.split; clear hpost; subst he; dsimp only))
  go_wp2
  all_goals
    go_ret
    exact HWP.out

theorem with_any : ∀ d, WithAny d
  | 0 => fun ok q ql fs x v w hT hok hl hval hv => with_leaf ok q ql fs x v w hT hok hl hval hv
  | d + 1 => fun ok q ql fs x v w hT hok hl hval hv => with_inner d (with_any d) ok q ql fs x v w hT hok hl hval hv

end Go.Proofs.YtenaepdmlknlcaaGreatDoor

namespace Go.Proofs.YtenaepdmlknlcaaGreatDoor
open Go.RowKit

set_option maxRecDepth 100000 in
set_option maxHeartbeats 2000000 in
theorem With_tree (d : Nat) (ok : Nat → Prop) (f : Feat) (bl off n cap : Nat) (q : Nat) (fs : List FV) (x : Bx) (w : World) (hT : IsT ok w (d + 1) q fs x) (hval : ∀ u ∈ fs, validF u.f = true) (hvf : validF f = true) (hok : ∀ b, ok b → b < w.heap.size) (hobl : ok bl) (hp : Places w.heap.size w bl off f.ps) (hn : n = f.ps.length) (hn1 : 1 ≤ n) (hn2 : n ≤ 6) (hcap : n ≤ cap) :
    Calls Tryz.prog 31 #[.agg #[.pointer (some ⟨q, 0, none⟩)], .agg #[.int .i64 f.id, .int .i64 f.kd, .int .i64 f.ht, .int .i64 f.col, .slice (some ⟨bl, off, none⟩) n cap]] w fun e w' => ∃ (q' d' : Nat) (x' : Bx) (fs' : List FV), e = .returned (.agg #[.pointer (some ⟨q', 0, none⟩)]) ∧ IsT (okN ok w.heap.size w'.heap.size) w' (d' + 1) q' fs' x' ∧ fs'.Perm (fs ++ [⟨f, bl, off, cap⟩]) ∧ Below w.heap.size w w' := by
  have Hp : Hid (Places w.heap.size w bl off f.ps) := hp
  have Hn : Hid (n = f.ps.length) := hn
  have hbl := hp.1
  have Hok : Hid (∀ b, ok b → b < w.heap.size) := hok
  have Hobl : Hid (ok bl) := hobl
  have HT : Hid (IsT ok w (d + 1) q fs x) := hT
  have Hval : Hid ((∀ u ∈ fs, validF u.f = true) ∧ validF f = true) := ⟨hval, hvf⟩
  clear hp hn hok hobl hT hval hvf
  obtain ⟨id, kd, ht, col, ps⟩ := f
  dsimp only at Hp Hn Hval ⊢
  have hB : ∀ o1 o2 o3 : Obj, Below w.heap.size w (((w.alloc o1).alloc o2).alloc o3) := fun o1 o2 o3 => (((Below.refl _ _).alloc (Nat.le_refl _) _).alloc (by simp) _).alloc (by simp; omega) _
  go_enter Tryz.func31, Tryz.ntmps31
  go_upto_region 1 with fail
  go_cut [5] (fun v wc => ∃ ql, v = .pointer (some ⟨ql, 0, none⟩) ∧ ql < wc.heap.size ∧ LeafAt (okN ok (w.heap.size + 3) wc.heap.size) wc ql ⟨⟨id, kd, ht, col, ps⟩, bl, off, cap⟩ ∧ wc.cell? ⟨w.heap.size, 0, none⟩ = some (.pointer (some ⟨q, 0, none⟩)) ∧ wc.cell? ⟨w.heap.size + 1 + 1, 0, none⟩ = some (.pointer none) ∧ wc.frozen? ⟨w.heap.size + 1 + 1, 0, none⟩ = false ∧ Below w.heap.size w wc ∧ w.heap.size + 3 ≤ wc.heap.size)
  case first =>
    go_region_held3 (fun w' => w'.cell? ⟨w.heap.size + 1, 0, none⟩ = some (.int .i64 id) ∧ w'.cell? ⟨w.heap.size + 1, 1, none⟩ = some (.int .i64 kd) ∧ w'.cell? ⟨w.heap.size + 1, 2, none⟩ = some (.int .i64 ht) ∧ w'.cell? ⟨w.heap.size + 1, 3, none⟩ = some (.int .i64 col) ∧ w'.cell? ⟨w.heap.size + 1, 4, none⟩ = some (.slice (some ⟨bl, off, none⟩) n cap)) (first | (simp [go_sem, *]; done) | exact s2)
      (first
      | (go_at_call 53; refine (BoxOf_any bl off n cap ps _ ((Hp.out.below (hB _ _ _).drew).mono (by simp; omega)) Hn.out hn1 (by omega) hcap).mono ?_; rintro e w2 ⟨rfl, hb2⟩; obtain ⟨hc2, hf2⟩ := bcell hb2; have s2 := And.intro ((hc2 (w.heap.size + 1) 0 (by simp <;> omega)).trans (show _ = some (Value.int .i64 id) from (by simp [go_sem]))) (And.intro ((hc2 (w.heap.size + 1) 1 (by simp <;> omega)).trans (show _ = some (Value.int .i64 kd) from (by simp [go_sem]))) (And.intro ((hc2 (w.heap.size + 1) 2 (by simp <;> omega)).trans (show _ = some (Value.int .i64 ht) from (by simp [go_sem]))) (And.intro ((hc2 (w.heap.size + 1) 3 (by simp <;> omega)).trans (show _ = some (Value.int .i64 col) from (by simp [go_sem]))) ((hc2 (w.heap.size + 1) 4 (by simp <;> omega)).trans (show _ = some (Value.slice (some ⟨bl, off, none⟩) n cap) from (by simp [go_sem])))))); have r0 : w2.cell? ⟨w.heap.size, 0, none⟩ = some (Value.pointer (some ⟨q, 0, none⟩)) := (hc2 w.heap.size 0 (by simp <;> omega)).trans (by simp [go_sem]); have r1 : w2.cell? ⟨w.heap.size + 1 + 1, 0, none⟩ = some (Value.pointer none) := (hc2 (w.heap.size + 1 + 1) 0 (by simp <;> omega)).trans (by simp [go_sem]); have r2 : w2.frozen? ⟨w.heap.size + 1 + 1, 0, none⟩ = false := (hf2 (w.heap.size + 1 + 1) 0 (by simp <;> omega)).trans (by simp [go_sem]); have hz2 : w.heap.size + 3 ≤ w2.heap.size := (by have := hb2.size; simp at this; omega); have hz3 : w.heap.size + 1 < w2.heap.size := (by omega); have hB2 : Below w.heap.size w w2 := (hB _ _ _).drew.trans (hb2.mono (by simp <;> omega)); clear hc2 hf2 hb2))
    all_goals
      go_wp2_with fail
      go_meet
      have hA : ∀ o : Obj, Below w2.heap.size w2 (w2.alloc o) := fun o => (Below.refl _ _).alloc (Nat.le_refl _) o
      refine ⟨w2.heap.size, rfl, by simp, ?_, ((hA _).cell (p := ⟨w.heap.size, 0, none⟩) (show w.heap.size < w2.heap.size by omega)).trans r0, ((hA _).cell (p := ⟨w.heap.size + 1 + 1, 0, none⟩) (show w.heap.size + 1 + 1 < w2.heap.size by omega)).trans r1, ((hA _).frozen (p := ⟨w.heap.size + 1 + 1, 0, none⟩) (show w.heap.size + 1 + 1 < w2.heap.size by omega)).trans r2, hB2.alloc (by omega) _, by simp; omega⟩
      have h := leaf_new w2 ⟨id, kd, ht, col, ps⟩ (okN ok (w.heap.size + 3) (w2.heap.size + 1)) bl off cap (.inl Hobl.out) (.inr ⟨by omega, by omega⟩) ((Hp.out.below hB2).mono (by omega)) (by rw [← Hn.out]; exact hcap)
      rw [World.size_alloc, Hn.out]
      exact h
  case rest =>
    obtain ⟨ql, rfl, hql, hleaf, r0, r1, r2, hB1, hz1⟩ := hcut
    have Hleaf : Hid (LeafAt (okN ok (w.heap.size + 3) wc.heap.size) wc ql ⟨⟨id, kd, ht, col, ps⟩, bl, off, cap⟩) := hleaf
    clear hleaf
    have hz4 : w.heap.size + 1 + 1 < wc.heap.size := by omega
    have hok1 : ∀ b, okN ok (w.heap.size + 3) wc.heap.size b → b < wc.heap.size := fun b hb => hb.elim (fun h => Nat.lt_of_lt_of_le (Hok.out b h) (by omega)) (fun h => h.2)
    have HW : Hid (Calls Tryz.prog 55 #[.pointer (some ⟨q, 0, none⟩), .pointer (some ⟨ql, 0, none⟩)] wc (WithPost (okN ok (w.heap.size + 3) wc.heap.size) (d + 1) (fs ++ [⟨⟨id, kd, ht, col, ps⟩, bl, off, cap⟩]) wc)) :=
      with_any d (okN ok (w.heap.size + 3) wc.heap.size) q ql fs x ⟨⟨id, kd, ht, col, ps⟩, bl, off, cap⟩ wc ((HT.out.same (Same.of_below hB1 Hok.out)).mono (fun b hb => .inl hb)) hok1 ⟨_, rfl, rfl, Hleaf.out⟩ Hval.out.1 Hval.out.2
    have Hok1 : Hid (∀ b, okN ok (w.heap.size + 3) wc.heap.size b → b < wc.heap.size) := hok1
    clear hok1
    -- what is left when the new root is stored
    have hfin : ∀ (w4 : World) (p d' : Nat) (y : Bx) (fs' : List FV), IsT (okN ok (w.heap.size + 3) w4.heap.size) w4 (d' + 1) p fs' y → fs'.Perm (fs ++ [⟨⟨id, kd, ht, col, ps⟩, bl, off, cap⟩]) → Below wc.heap.size wc w4 →
        ∃ (q' d' : Nat) (x' : Bx) (fs' : List FV), Ending.returned (.agg #[.pointer (some ⟨p, 0, none⟩)]) = .returned (.agg #[.pointer (some ⟨q', 0, none⟩)]) ∧ IsT (okN ok w.heap.size (w4.setCell ⟨w.heap.size + 1 + 1, 0, none⟩ (.pointer (some ⟨p, 0, none⟩))).heap.size) (w4.setCell ⟨w.heap.size + 1 + 1, 0, none⟩ (.pointer (some ⟨p, 0, none⟩))) (d' + 1) q' fs' x' ∧ fs'.Perm (fs ++ [⟨⟨id, kd, ht, col, ps⟩, bl, off, cap⟩]) ∧ Below w.heap.size w (w4.setCell ⟨w.heap.size + 1 + 1, 0, none⟩ (.pointer (some ⟨p, 0, none⟩))) := fun w4 p d' y fs' hT4 hperm hb4 => by
      have hS : Below w.heap.size w4 (w4.setCell ⟨w.heap.size + 1 + 1, 0, none⟩ (.pointer (some ⟨p, 0, none⟩))) := (Below.refl _ _).setCell (p := ⟨w.heap.size + 1 + 1, 0, none⟩) (show w.heap.size ≤ w.heap.size + 1 + 1 by omega) _
      exact ⟨p, d', y, fs', rfl, (hT4.same (same_set w4 (w.heap.size + 1 + 1) 0 _ (fun h => h.elim (fun h => by have := Hok.out _ h; omega) (fun h => by omega)))).mono (fun b hb => hb.elim .inl fun h => .inr ⟨by omega, Nat.lt_of_lt_of_le h.2 (by simp)⟩), hperm, hB1.trans ((hb4.mono (by omega)).trans hS)⟩
    have HFin : Hid _ := hfin
    clear hfin
    go_upto_region 5 with (go_at_call 55; refine Calls.mono HW.out ?_; intro e w3 hpost; obtain ⟨s, m, rfl, HW3, hs3, hb3⟩ := hpost.split; clear hpost; dsimp only)
    have t1 : w3.cell? ⟨w.heap.size + 1 + 1, 0, none⟩ = some (.pointer none) := (hb3.cell (p := ⟨w.heap.size + 1 + 1, 0, none⟩) hz4).trans r1
    have t2 : w3.frozen? ⟨w.heap.size + 1 + 1, 0, none⟩ = false := (hb3.frozen (p := ⟨w.heap.size + 1 + 1, 0, none⟩) hz4).trans r2
    have hsz := hb3.size
    obtain ⟨pk, tss, hm, hps, htss, hs1, hrow, hTs, hperm⟩ := HW3.out
    have hup : ∀ b, okN (okN ok (w.heap.size + 3) wc.heap.size) wc.heap.size w3.heap.size b → okN ok (w.heap.size + 3) w3.heap.size b := fun b hb => hb.elim (fun h => h.elim .inl (fun h => .inr ⟨h.1, by omega⟩)) (fun h => .inr ⟨by omega, h.2⟩)
    rcases hm with rfl | rfl
    · obtain ⟨⟨p, y⟩, rfl⟩ : ∃ p, pk = [p] := List.length_eq_one_iff.1 hps
      obtain ⟨tt, rfl⟩ : ∃ c, tss = [c] := List.length_eq_one_iff.1 htss
      have hp0 := hrow 0 (p, y) rfl
      have HT3 : Hid (IsT (okN ok (w.heap.size + 3) w3.heap.size) w3 (d + 1) p tt y) := (hTs 0 p y tt rfl rfl).mono hup
      have HPm : Hid (tt.Perm (fs ++ [⟨⟨id, kd, ht, col, ps⟩, bl, off, cap⟩])) := by
        have := hperm
        simp only [List.flatten_cons, List.flatten_nil, List.append_nil] at this
        exact this
      clear hrow hTs hperm HW3 HW
      dsimp only at hp0
      go_wp2
      exact bodyPost_ret (v := .agg #[.pointer (some ⟨p, 0, none⟩)]) (by simp [results, Tryz.results31, go_sem, t1]) rfl (HFin.out w3 p d y tt HT3.out HPm.out hb3)
    · have HKA : Hid (KidsAt w3.heap.size w3 s 0 pk) := ⟨hs3, fun i p y e => by
        obtain ⟨t, ht⟩ : ∃ t, tss[i]? = some t := ⟨tss[i]'(by have := (List.getElem?_eq_some_iff.1 e).1; omega), List.getElem?_eq_getElem _⟩
        have hT := hTs i p y t e ht
        exact ⟨by rw [Nat.zero_add]; exact hrow i (p, y) e, (hup _ hT.lt).elim (fun h => Nat.lt_of_lt_of_le (Hok.out _ h) (by omega)) (fun h => h.2), hT.c4⟩⟩
      have HR3 : Hid ((∀ (i : Nat) p, pk[i]? = some p → w3.cell? ⟨s, i, none⟩ = some (.pointer (some ⟨p.1, 0, none⟩))) ∧ (∀ (i : Nat) p y t, pk[i]? = some (p, y) → tss[i]? = some t → IsT (okN ok (w.heap.size + 3) w3.heap.size) w3 (d + 1) p t y) ∧ tss.flatten.Perm (fs ++ [⟨⟨id, kd, ht, col, ps⟩, bl, off, cap⟩])) := ⟨hrow, fun i p y t e e' => (hTs i p y t e e').mono hup, hperm⟩
      have Hps : Hid (2 = pk.length ∧ tss.length = 2) := ⟨hps.symm, htss⟩
      clear hrow hTs hperm HW3 HW hps htss
      go_wp2_with (go_at_call 54; refine (over_any s 0 2 2 pk _ HKA.out Hps.out.1 (by decide) (by decide) (by decide)).mono ?_; rintro e w4 ⟨p, rfl, hp1, hp2, hcp, hp4, hb4⟩; have u1 : w4.cell? ⟨w.heap.size + 1 + 1, 0, none⟩ = some (.pointer none) := (hb4.cell (p := ⟨w.heap.size + 1 + 1, 0, none⟩) (show w.heap.size + 1 + 1 < w3.heap.size by omega)).trans t1; have u2 : w4.frozen? ⟨w.heap.size + 1 + 1, 0, none⟩ = false := (hb4.frozen (p := ⟨w.heap.size + 1 + 1, 0, none⟩) (show w.heap.size + 1 + 1 < w3.heap.size by omega)).trans t2)
      have hsz4 := hb4.size
      have hlt3 : ∀ b, okN ok (w.heap.size + 3) w3.heap.size b → b < w3.heap.size := fun b hb => hb.elim (fun h => Nat.lt_of_lt_of_le (Hok.out b h) (by omega)) (fun h => h.2)
      have hup4 : ∀ b, okN ok (w.heap.size + 3) w3.heap.size b → okN ok (w.heap.size + 3) w4.heap.size b := fun b hb => hb.elim .inl (fun h => .inr ⟨h.1, by omega⟩)
      have hT4 : IsT (okN ok (w.heap.size + 3) w4.heap.size) w4 (d + 1 + 1) p tss.flatten (joinK pk) := by
        have hin : ∀ (i : Nat) p y t, pk[i]? = some (p, y) → tss[i]? = some t → IsT (okN ok (w.heap.size + 3) w4.heap.size) w4 (d + 1) p t y := fun i p y t e e' => ((HR3.out.2.1 i p y t e e').same (Same.of_below hb4 hlt3)).mono hup4
        refine ⟨.inr ⟨by omega, hp2⟩, hcp, s, 0, 2, pk, tss, by rw [← Hps.out.1]; exact hp4, by intro e; have := Hps.out.1; rw [e] at this; simp at this, by have := Hps.out.1; omega, by have := Hps.out.1; omega, ⟨.inr ⟨by omega, by omega⟩, fun i q y e => ?_⟩, by rw [Hps.out.2, ← Hps.out.1], hin, rfl, rfl⟩
        obtain ⟨t, ht⟩ : ∃ t, tss[i]? = some t := ⟨tss[i]'(by have := (List.getElem?_eq_some_iff.1 e).1; have := Hps.out; omega), List.getElem?_eq_getElem _⟩
        have hT := hin i q y t e ht
        exact ⟨by rw [Nat.zero_add]; exact (hb4.cell (p := ⟨s, i, none⟩) hs3).trans (HR3.out.1 i (q, y) e), hT.lt, hT.c4⟩
      exact bodyPost_ret (v := .agg #[.pointer (some ⟨p, 0, none⟩)]) (by simp [results, Tryz.results31, go_sem, u1]) rfl (HFin.out w4 p (d + 1) (joinK pk) tss.flatten hT4 HR3.out.2.2 (hb3.trans (hb4.mono hsz)))

end Go.Proofs.YtenaepdmlknlcaaGreatDoor
