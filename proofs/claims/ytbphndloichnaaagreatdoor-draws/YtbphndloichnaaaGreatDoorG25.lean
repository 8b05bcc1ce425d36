import Derived.Test.YtbphndloichnaaaGreatDoorG24
namespace Go.Proofs.YtbphndloichnaaaGreatDoor
open Go.RowKit

/-- A row that was made, of nodes. -/
theorem row_of_own {w1 : World} {B : Nat} {v : Value} {ks : Kids} {m : Nat} (hm : ks.length = m + 1) (hown : w1.ownsRow B 87 1 v (ptrs ks).length (ptrs ks)) :
    ∃ g c, v = .slice (some ⟨g, 0, none⟩) (m + 1) c ∧ m + 1 ≤ c ∧ B ≤ g ∧ g < w1.heap.size ∧ RowAt w1 g ks := by
  have hl : (ptrs ks).length = m + 1 := by simp [ptrs, hm]
  rw [hl] at hown
  obtain ⟨g, c, rfl⟩ := ownsRow_succ hown
  have hlt := hown.lt g rfl
  have hc : m + 1 ≤ c := by
    rcases hown.2 with ⟨h, _⟩ | ⟨g', c', cur, h, _, _, hle, _⟩
    · cases h
    · cases h; exact hle
  refine ⟨g, c, rfl, hc, hlt.1, hlt.2, fun i k e => ⟨?_, hown.frozenAt i⟩⟩
  have hi : i < ks.length := (List.getElem?_eq_some_iff.1 e).1
  rw [hown.cellAt i (by omega)]
  simp [ptrs, e]

/-- parted, of a row of one to five nodes that no one else has. -/
theorem parted_any (g n cap : Nat) (ks : Kids) (w : World) (hg : g < w.heap.size) (hn : n = ks.length) (hn1 : 1 ≤ n) (hn2 : n ≤ 5) (hcap : n ≤ cap) (hrow : RowAt w g ks) (hks : ∀ k ∈ ks, k.1 < w.heap.size ∧ C4 w k.1 k.2) (hne : ∀ k ∈ ks, k.1 ≠ g ∧ BxW k.2) :
    Calls Tryz.prog 87 #[.slice (some ⟨g, 0, none⟩) n cap] w (PartedPost g ks w) := by
  by_cases h : n ≤ 4
  · exact parted_few g n cap ks w hg hn hn1 h hcap hrow hks
  · obtain rfl : n = 5 := by omega
    exact parted_five g cap ks w hg hn hcap hrow hks hne

/-- A row that Concat has made out of trees, parted. -/
theorem parted_trees {ok : Nat → Prop} (w w0 W : World) (v : Value) (kt : KT) (d m : Nat) (hok : ∀ b, ok b → b < w.heap.size) (hm : kt.length = m + 1) (hm2 : m + 1 ≤ 5) (h0 : Below w.heap.size w w0) (hW : Below w0.heap.size w0 W) (hown : W.ownsRow w0.heap.size 87 1 v (ptrs (kt.map Prod.fst)).length (ptrs (kt.map Prod.fst)))
    (hT : ∀ k ∈ kt, IsT (okN ok w.heap.size w0.heap.size) w0 d k.1.1 k.2 k.1.2) (hv : ∀ k ∈ kt, ∀ u ∈ k.2, validF u.f = true) :
    ∃ g c, v = .slice (some ⟨g, 0, none⟩) (m + 1) c ∧ Calls Tryz.prog 87 #[.slice (some ⟨g, 0, none⟩) (m + 1) c] W (WithPost ok (d + 1) (kt.map Prod.snd).flatten w) := by
  obtain ⟨g, c, rfl, h1, h2, h3, h4⟩ := row_of_own (ks := kt.map Prod.fst) (by rw [List.length_map]; exact hm) hown
  have hz0 := h0.size
  have hzW := hW.size
  have hlt : ∀ b, okN ok w.heap.size w0.heap.size b → b < w0.heap.size := fun b hb => hb.elim (fun h => Nat.lt_of_lt_of_le (hok b h) hz0) (fun h => h.2)
  refine ⟨g, c, rfl, (parted_any g (m + 1) c (kt.map Prod.fst) W h3 (by rw [List.length_map]; exact hm.symm) (by omega) hm2 h1 h4 ?_ ?_).mono fun e w' hP => from_parted (by omega) h3 (h0.trans (hW.mono hz0)) ?_ hP⟩
  · intro k hk
    obtain ⟨x, hx, rfl⟩ := List.mem_map.1 hk
    have := hlt _ (hT x hx).lt
    exact ⟨by omega, (hT x hx).c4.below hW this⟩
  · intro k hk
    obtain ⟨x, hx, rfl⟩ := List.mem_map.1 hk
    have := hlt _ (hT x hx).lt
    exact ⟨by omega, (hT x hx).bxw (hv x hx)⟩
  · intro k hk
    exact ((hT k hk).same (Same.of_below hW hlt)).mono (fun b hb => ⟨hb.elim .inl (fun h => .inr ⟨h.1, by omega⟩), by have := hlt b hb; omega⟩)

set_option maxRecDepth 100000 in
set_option maxHeartbeats 2000000 in
/-- with, over leaves. -/
theorem with_leaf (ok : Nat → Prop) (q ql : Nat) (fs : List FV) (x : Bx) (v : FV) (w : World) (hT : IsT ok w 1 q fs x) (hok : ∀ b, ok b → b < w.heap.size) (hl : IsT ok w 0 ql [v] (boxZ v.f.ps)) (hval : ∀ u ∈ fs, validF u.f = true) (hv : validF v.f = true) :
    Calls Tryz.prog 55 #[.pointer (some ⟨q, 0, none⟩), .pointer (some ⟨ql, 0, none⟩)] w (WithPost ok 1 (fs ++ [v]) w) := by
  obtain ⟨hq, hc, kb, ko, cap, ks, ts, h4, hne, hle, hcap, hkO, hlen, hkt, hf, hx⟩ := hT
  obtain ⟨n, hn⟩ : ∃ n, n = ks.length := ⟨_, rfl⟩
  have hn1 : 1 ≤ n := by
    rw [hn]; exact List.length_pos_iff.2 hne
  rw [← hn] at h4 hle hcap hlen
  have hqs := hok _ hq
  have hkb := hok _ hkO.1
  have hkcell := fun (i : Nat) p y (e : ks[i]? = some (p, y)) => (hkO.2 i p y e).1
  obtain ⟨⟨q0, x0⟩, he0⟩ : ∃ k, ks[0]? = some k := ⟨ks[0]'(by omega), List.getElem?_eq_getElem _⟩
  obtain ⟨t0, ht0⟩ : ∃ t, ts[0]? = some t := ⟨ts[0]'(by omega), List.getElem?_eq_getElem _⟩
  obtain ⟨v0, _, _, hL0⟩ := hkt 0 q0 x0 t0 he0 ht0
  have hp0 : w.cell? ⟨kb, ko, none⟩ = some (.pointer (some ⟨q0, 0, none⟩)) := hkcell 0 q0 x0 he0
  have hq0 := hok _ hL0.lt
  have hnil := hL0.kids
  have hql := hok _ hl.lt
  have HK : Hid (∀ (i : Nat) p y, ks[i]? = some (p, y) → w.cell? ⟨kb, ko + i, none⟩ = some (.pointer (some ⟨p, 0, none⟩))) := hkcell
  have Hn : Hid (n = ks.length) := hn
  -- the trees
  obtain ⟨kt, hktd⟩ : ∃ kt : KT, kt = List.zip ks ts ++ [((ql, boxZ v.f.ps), [v])] := ⟨_, rfl⟩
  have e1 : kt.map Prod.fst = ks ++ [(ql, boxZ v.f.ps)] := by rw [hktd, List.map_append, List.map_fst_zip (by omega)]; rfl
  have e2 : (kt.map Prod.snd).flatten = fs ++ [v] := by rw [hktd, List.map_append, List.map_snd_zip (by omega), List.flatten_append, ← hf]; simp
  have hmem : ∀ k ∈ kt, IsT ok w 0 k.1.1 k.2 k.1.2 ∧ ∀ u ∈ k.2, validF u.f = true := by
    intro k hk
    rw [hktd, List.mem_append] at hk
    rcases hk with hk | hk
    · obtain ⟨i, hi, rfl⟩ := List.mem_iff_getElem.1 hk
      have hi' : i < ks.length ∧ i < ts.length := by simpa [List.length_zip, Nat.lt_min] using hi
      rw [List.getElem_zip]
      refine ⟨hkt i _ _ _ (List.getElem?_eq_getElem hi'.1) (List.getElem?_eq_getElem hi'.2), fun u hu => hval u ?_⟩
      rw [hf]; exact List.mem_flatten.2 ⟨_, List.getElem_mem hi'.2, hu⟩
    · simp at hk
      subst hk
      exact ⟨hl, fun u hu => by simp at hu; subst hu; exact hv⟩
  have hkl : kt.length = n + 1 := by
    have := congrArg List.length e1
    rw [List.length_map, List.length_append, ← hn] at this
    exact this
  have HP : Hid (∀ (w0 W : World) (vv : Value), Below w.heap.size w w0 → Below w0.heap.size w0 W → W.ownsRow w0.heap.size 87 1 vv (ptrs (ks ++ [(ql, boxZ v.f.ps)])).length (ptrs (ks ++ [(ql, boxZ v.f.ps)])) → ∃ g c, vv = .slice (some ⟨g, 0, none⟩) (n + 1) c ∧ Calls Tryz.prog 87 #[.slice (some ⟨g, 0, none⟩) (n + 1) c] W (WithPost ok 1 (fs ++ [v]) w)) := fun w0 W vv h0 hW hown => by
    rw [← e1] at hown
    rw [← e2]
    exact parted_trees w w0 W vv kt 0 n hok hkl (by omega) h0 hW hown (fun k hk => ((hmem k hk).1.same (Same.of_below h0 hok)).mono (fun b hb => .inl hb)) (fun k hk => (hmem k hk).2)
  clear hmem e1 e2 hktd hkl hkt hkO he0 ht0 hL0 hl hval hv hkcell hn hf hx hc hne hlen
  have hnn := eql_nil
  have h0n : (0 : Int) < (n : Int) := by omega
  go_enter Tryz.func55, Tryz.ntmps55
  go_wp2_with fail
  have hcat : catTo [⟨kb, ko, cap, ptrs ks⟩, ⟨w.heap.size, 0, 1, [.pointer (some ⟨ql, 0, none⟩)]⟩] 2 = ptrs (ks ++ [(ql, boxZ v.f.ps)]) := by simp [catTo, ptrs]
  have hlen : (ptrs (ks ++ [(ql, boxZ v.f.ps)])).length = n + 1 := by simp [ptrs, ← Hn.out]
  have hB0 : ∀ o1 o2 : Obj, Below w.heap.size w ((w.alloc o1).alloc o2) := fun o1 o2 => ((Below.refl _ _).alloc (Nat.le_refl _) _).alloc (by simp) _
  refine (Concat_any (w.heap.size + 1) 0 2 2 [⟨kb, ko, cap, ptrs ks⟩, ⟨w.heap.size, 0, 1, [.pointer (some ⟨ql, 0, none⟩)]⟩] _ (parts2 (by simp) (by simp [go_sem, ← Hn.out]) (by simp [go_sem]) (by simp; omega) (by simp; omega) (fun i q x e => ((hB0 _ _).cell (p := ⟨kb, ko + i, none⟩) hkb).trans (HK.out i q x e)) (by simp [go_sem])) rfl (by omega) (by show 1 ≤ (catTo _ 2).length; rw [hcat, hlen]; omega) (by show (catTo _ 2).length ≤ 1000; rw [hcat, hlen]; omega) (by show ∀ u ∈ catTo _ 2, _; rw [hcat]; exact oneCell_ptrs _)).mono ?_
  rintro e w1 ⟨vv, rfl, hown, hb1⟩
  replace hown : w1.ownsRow _ 87 1 vv (catTo [⟨kb, ko, cap, ptrs ks⟩, ⟨w.heap.size, 0, 1, [.pointer (some ⟨ql, 0, none⟩)]⟩] 2).length (catTo [⟨kb, ko, cap, ptrs ks⟩, ⟨w.heap.size, 0, 1, [.pointer (some ⟨ql, 0, none⟩)]⟩] 2) := hown
  rw [hcat] at hown
  obtain ⟨g, c, rfl, hcall⟩ := HP.out _ w1 vv (hB0 _ _) hb1 hown
  have HC : Hid _ := hcall
  clear hcall hown HP hcat hlen
  go_wp2_with (go_at_call 87; refine Calls.mono HC.out ?_; intro e w2 hpost; obtain ⟨s, m, ps, tss, rfl, hrest⟩ := hpost)
  go_ret
  exact ⟨s, m, ps, tss, rfl, hrest⟩

end Go.Proofs.YtbphndloichnaaaGreatDoor
