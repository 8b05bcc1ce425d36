import Derived.Test.YtenaepdmlknlcaaGreatDoorG14
namespace Go.Proofs.YtenaepdmlknlcaaGreatDoor
open Go.RowKit

theorem perm_lift {α β : Type} (f : α → β) {l l' : List β} (h : l.Perm l') : ∀ (m : List α), m.map f = l' → ∃ m' : List α, m'.Perm m ∧ m'.map f = l := by
  induction h with
  | nil => intro m hm; exact ⟨m, .refl _, hm⟩
  | cons x _ ih =>
    intro m hm
    cases m with
    | nil => simp at hm
    | cons a r =>
      simp at hm
      obtain ⟨m', h1, h2⟩ := ih r hm.2
      exact ⟨a :: m', h1.cons a, by simp [hm.1, h2]⟩
  | swap x y l =>
    intro m hm
    match m, hm with
    | a :: b :: r, hm =>
      simp at hm
      exact ⟨b :: a :: r, .swap _ _ _, by simp [hm]⟩
    | [a], hm => simp at hm
    | [], hm => simp at hm
  | trans _ _ ih1 ih2 =>
    intro m hm
    obtain ⟨m1, h1, h2⟩ := ih2 m hm
    obtain ⟨m2, h3, h4⟩ := ih1 m1 h2
    exact ⟨m2, h3.trans h1, h4⟩

theorem two_of_length {α : Type} {l : List α} (h : l.length = 2) : ∃ a b, l = [a, b] := by
  match l, h with
  | [a, b], _ => exact ⟨a, b, rfl⟩

theorem IsT.c4 {ok : Nat → Prop} {w : World} : ∀ {d q : Nat} {fs : List FV} {x : Bx}, IsT ok w d q fs x → C4 w q x
  | 0, _, _, _, ⟨_, _, ex, l⟩ => by rw [ex]; exact l.box
  | _ + 1, _, _, _, h => h.2.1

/-- What with leaves. -/
def WithPost (ok : Nat → Prop) (d : Nat) (fs : List FV) (w : World) (e : Ending) (w' : World) : Prop :=
  ∃ (s m : Nat) (ps : Kids) (tss : List (List FV)), e = .returned (.slice (some ⟨s, 0, none⟩) m m) ∧ (m = 1 ∨ m = 2) ∧ ps.length = m ∧ tss.length = m ∧ w.heap.size ≤ s ∧ s < w'.heap.size ∧ (∀ (i : Nat) p, ps[i]? = some p → w'.cell? ⟨s, i, none⟩ = some (.pointer (some ⟨p.1, 0, none⟩))) ∧ (∀ (i : Nat) p y t, ps[i]? = some (p, y) → tss[i]? = some t → IsT (okN ok w.heap.size w'.heap.size) w' d p t y) ∧ tss.flatten.Perm fs ∧ Below w.heap.size w w'

abbrev KT := List ((Nat × Bx) × List FV)

/-- A node that parted has made, over trees. -/
theorem node_tree {ok : Nat → Prop} {w W w' : World} {g d : Nat} {p : Nat × Bx} {a : KT} (hg1 : w.heap.size ≤ g) (hgl : g < w'.heap.size) (hW : w.heap.size ≤ W.heap.size) (hn : NodeAt W.heap.size g w' p (a.map Prod.fst))
    (hT : ∀ k ∈ a, IsT (okN ok w.heap.size w'.heap.size) w' d k.1.1 k.2 k.1.2) : IsT (okN ok w.heap.size w'.heap.size) w' (d + 1) p.1 (a.map Prod.snd).flatten p.2 := by
  obtain ⟨h1, h2, h3, h4, h5, h6, kb, cap, k1, k2, k3, k4, k5⟩ := hn
  refine ⟨.inr ⟨by omega, h2⟩, h3, kb, 0, cap, a.map Prod.fst, a.map Prod.snd, k1, h5, h6, k2, ⟨.inr ⟨by rcases k3 with rfl | k3 <;> omega, k4⟩, fun i q x e => ?_⟩, by simp, fun i q y t e e' => ?_, rfl, h4⟩
  · rw [List.getElem?_map, Option.map_eq_some_iff] at e
    obtain ⟨k, hk, hkx⟩ := e
    have := hT k (List.mem_of_getElem? hk)
    rw [hkx] at this
    refine ⟨by rw [Nat.zero_add]; exact k5 i (q, x) (by rw [List.getElem?_map, hk]; simp [hkx]), this.lt, this.c4⟩
  · rw [List.getElem?_map, Option.map_eq_some_iff] at e e'
    obtain ⟨k, hk, hkx⟩ := e
    obtain ⟨k', hk', rfl⟩ := e'
    rw [hk] at hk'
    cases hk'
    have := hT k (List.mem_of_getElem? hk)
    rw [hkx] at this
    exact this

theorem from_parted {ok : Nat → Prop} {w W w' : World} {g d : Nat} {e : Ending} {kt : KT} (hg1 : w.heap.size ≤ g) (hgW : g < W.heap.size) (hW : Below w.heap.size w W)
    (hT : ∀ k ∈ kt, IsT (fun b => okN ok w.heap.size W.heap.size b ∧ b ≠ g) W d k.1.1 k.2 k.1.2) (hP : PartedPost g (kt.map Prod.fst) W e w') : WithPost ok (d + 1) (kt.map Prod.snd).flatten w e w' := by
  obtain ⟨s, m, ps, kss, rfl, hm, hps, hkss, hperm, hs1, hs2, hrow, hnodes, hkeep, hbel⟩ := hP
  have hsz := hW.size
  have hsz2 := hkeep.1
  obtain ⟨kt', hp1, hp2⟩ := perm_lift Prod.fst hperm kt rfl
  have hT' : ∀ k ∈ kt', IsT (okN ok w.heap.size w'.heap.size) w' d k.1.1 k.2 k.1.2 := fun k hk =>
    ((hT k (hp1.mem_iff.1 hk)).same (hkeep.same (fun b hb => hb.2))).mono (fun b hb => hb.1.elim .inl (fun h => .inr ⟨h.1, by omega⟩))
  have hB : Below w.heap.size w w' := hW.trans (hbel.mono hg1)
  have hgl : g < w'.heap.size := by omega
  rcases hm with rfl | rfl
  · obtain ⟨p, rfl⟩ : ∃ p, ps = [p] := List.length_eq_one_iff.1 hps
    obtain ⟨c, rfl⟩ : ∃ c, kss = [c] := List.length_eq_one_iff.1 hkss
    simp only [List.flatten_cons, List.flatten_nil, List.append_nil] at hp2
    have hN := hnodes 0 p c rfl rfl
    rw [← hp2] at hN
    refine ⟨s, 1, [p], [(kt'.map Prod.snd).flatten], rfl, .inl rfl, rfl, rfl, by omega, hs2, hrow, ?_, ?_, hB⟩
    · intro i q y t e e'
      match i, e, e' with
      | 0, e, e' =>
        simp at e e'
        subst e e'
        exact node_tree hg1 hgl hsz hN hT'
      | i + 1, e, _ => simp at e
    · simp only [List.flatten_cons, List.flatten_nil, List.append_nil]
      exact (hp1.map Prod.snd).flatten
  · obtain ⟨p, p2, rfl⟩ : ∃ p p2, ps = [p, p2] := two_of_length hps
    obtain ⟨c, c2, rfl⟩ : ∃ c c2, kss = [c, c2] := two_of_length hkss
    simp only [List.flatten_cons, List.flatten_nil, List.append_nil] at hp2
    obtain ⟨a, b, rfl, rfl, rfl⟩ := List.map_eq_append_iff.1 hp2
    have hN := hnodes 0 p _ rfl rfl
    have hN2 := hnodes 1 p2 _ rfl rfl
    refine ⟨s, 2, [p, p2], [(a.map Prod.snd).flatten, (b.map Prod.snd).flatten], rfl, .inr rfl, rfl, rfl, by omega, hs2, hrow, ?_, ?_, hB⟩
    · intro i q y t e e'
      match i, e, e' with
      | 0, e, e' =>
        simp at e e'
        subst e e'
        exact node_tree hg1 hgl hsz hN (fun k hk => hT' k (by simp [hk]))
      | 1, e, e' =>
        simp at e e'
        subst e e'
        exact node_tree hg1 hgl hsz hN2 (fun k hk => hT' k (by simp [hk]))
      | i + 2, e, _ => simp at e
    · simp only [List.flatten_cons, List.flatten_nil, List.append_nil]
      have := (hp1.map Prod.snd).flatten
      rwa [List.map_append, List.flatten_append] at this

/-- The boxes of a tree of features that may be lie in the world. -/
theorem boxZ_bxw {ps : Pts} (hne : ps ≠ []) (ha : ps.all inW = true) : BxW (boxZ ps) := by
  have key : ∀ (r : Pts) (a : Bx), BxW a → r.all inW = true → BxW (r.foldl (fun b q => b.join (bxAt q)) a) := by
    intro r
    induction r with
    | nil => exact fun a h _ => h
    | cons q r ih =>
      intro a h hr
      simp only [List.all_cons, Bool.and_eq_true] at hr
      refine ih _ (h.join ?_) hr.2
      have := hr.1
      simp [inW, inB] at this
      constructor <;> simp only [bxAt] <;> omega
  cases ps with
  | nil => exact absurd rfl hne
  | cons q r =>
    simp only [List.all_cons, Bool.and_eq_true] at ha
    refine key r _ ?_ ha.2
    have := ha.1
    simp [inW, inB] at this
    constructor <;> simp only [bxAt] <;> omega
theorem valid_box {f : Feat} (h : validF f = true) : BxW (boxZ f.ps) := by
  simp only [validF, Bool.and_eq_true] at h
  refine boxZ_bxw ?_ h.2
  intro e
  have := h.1.2
  rw [e] at this
  simp [mayB] at this
theorem IsT.bxw {ok : Nat → Prop} {w : World} : ∀ {d q : Nat} {fs : List FV} {x : Bx}, IsT ok w d q fs x → (∀ v ∈ fs, validF v.f = true) → BxW x
  | 0, _, _, _, ⟨v, e, ex, _⟩, hv => by subst e ex; exact valid_box (hv v (by simp))
  | d + 1, _, _, _, ⟨_, _, _, _, _, ks, ts, _, hne, _, _, _, hl, ht, hf, hx⟩, hv => by
    subst hf hx
    refine joinK_bxw (fun k hk => ?_) hne
    obtain ⟨i, hi, rfl⟩ := List.mem_iff_getElem.1 hk
    have hti : i < ts.length := by omega
    exact IsT.bxw (ht i ks[i].1 ks[i].2 ts[i] (List.getElem?_eq_getElem hi) (List.getElem?_eq_getElem hti)) (fun v h => hv v (List.mem_flatten.2 ⟨ts[i], List.getElem_mem hti, h⟩))

end Go.Proofs.YtenaepdmlknlcaaGreatDoor

namespace Go.Proofs.YtenaepdmlknlcaaGreatDoor
open Go.RowKit

/-- A row that was made, of nodes. -/
theorem row_of_own {w1 : World} {B : Nat} {v : Value} {ks : Kids} {m : Nat} (hm : ks.length = m + 1) (hown : w1.ownsRow B 87 1 v (ptrs ks).length (ptrs ks)) :
    ∃ g c, v = .slice (some ⟨g, 0, none⟩) (m + 1) c ∧ m + 1 ≤ c ∧ B ≤ g ∧ g < w1.heap.size ∧ RowAt w1 g ks := by
  have hl : (ptrs ks).length = m + 1 := by simp [ptrs, hm]
  rw [hl] at hown
  obtain ⟨g, c, rfl⟩ := ownsRow_succ hown
  have hlt := hown.lt g rfl
  have hc : m + 1 ≤ c := by
    rcases hown.2 with ⟨h, _⟩ | ⟨g', c', cur, h, _, _, hle, _⟩
    · cases h
    · cases h; exact hle
  refine ⟨g, c, rfl, hc, hlt.1, hlt.2, fun i k e => ⟨?_, hown.frozenAt i⟩⟩
  have hi : i < ks.length := (List.getElem?_eq_some_iff.1 e).1
  rw [hown.cellAt i (by omega)]
  simp [ptrs, e]

/-- parted, of a row of one to five nodes that no one else has. -/
theorem parted_any (g n cap : Nat) (ks : Kids) (w : World) (hg : g < w.heap.size) (hn : n = ks.length) (hn1 : 1 ≤ n) (hn2 : n ≤ 5) (hcap : n ≤ cap) (hrow : RowAt w g ks) (hks : ∀ k ∈ ks, k.1 < w.heap.size ∧ C4 w k.1 k.2) (hne : ∀ k ∈ ks, k.1 ≠ g ∧ BxW k.2) :
    Calls Tryz.prog 87 #[.slice (some ⟨g, 0, none⟩) n cap] w (PartedPost g ks w) := by
  by_cases h : n ≤ 4
  · exact parted_few g n cap ks w hg hn hn1 h hcap hrow hks
  · obtain rfl : n = 5 := by omega
    exact parted_five g cap ks w hg hn hcap hrow hks hne

/-- A row that Concat has made out of trees, parted. -/
theorem parted_trees {ok : Nat → Prop} (w w0 W : World) (v : Value) (kt : KT) (d m : Nat) (hok : ∀ b, ok b → b < w.heap.size) (hm : kt.length = m + 1) (hm2 : m + 1 ≤ 5) (h0 : Below w.heap.size w w0) (hW : Below w0.heap.size w0 W) (hown : W.ownsRow w0.heap.size 87 1 v (ptrs (kt.map Prod.fst)).length (ptrs (kt.map Prod.fst)))
    (hT : ∀ k ∈ kt, IsT (okN ok w.heap.size w0.heap.size) w0 d k.1.1 k.2 k.1.2) (hv : ∀ k ∈ kt, ∀ u ∈ k.2, validF u.f = true) :
    ∃ g c, v = .slice (some ⟨g, 0, none⟩) (m + 1) c ∧ Calls Tryz.prog 87 #[.slice (some ⟨g, 0, none⟩) (m + 1) c] W (WithPost ok (d + 1) (kt.map Prod.snd).flatten w) := by
  obtain ⟨g, c, rfl, h1, h2, h3, h4⟩ := row_of_own (ks := kt.map Prod.fst) (by rw [List.length_map]; exact hm) hown
  have hz0 := h0.size
  have hzW := hW.size
  have hlt : ∀ b, okN ok w.heap.size w0.heap.size b → b < w0.heap.size := fun b hb => hb.elim (fun h => Nat.lt_of_lt_of_le (hok b h) hz0) (fun h => h.2)
  refine ⟨g, c, rfl, (parted_any g (m + 1) c (kt.map Prod.fst) W h3 (by rw [List.length_map]; exact hm.symm) (by omega) hm2 h1 h4 ?_ ?_).mono fun e w' hP => from_parted (by omega) h3 (h0.trans (hW.mono hz0)) ?_ hP⟩
  · intro k hk
    obtain ⟨x, hx, rfl⟩ := List.mem_map.1 hk
    have := hlt _ (hT x hx).lt
    exact ⟨by omega, (hT x hx).c4.below hW this⟩
  · intro k hk
    obtain ⟨x, hx, rfl⟩ := List.mem_map.1 hk
    have := hlt _ (hT x hx).lt
    exact ⟨by omega, (hT x hx).bxw (hv x hx)⟩
  · intro k hk
    exact ((hT k hk).same (Same.of_below hW hlt)).mono (fun b hb => ⟨hb.elim .inl (fun h => .inr ⟨h.1, by omega⟩), by have := hlt b hb; omega⟩)

set_option maxRecDepth 100000 in
set_option maxHeartbeats 2000000 in
/-- with, over leaves. -/
theorem with_leaf (ok : Nat → Prop) (q ql : Nat) (fs : List FV) (x : Bx) (v : FV) (w : World) (hT : IsT ok w 1 q fs x) (hok : ∀ b, ok b → b < w.heap.size) (hl : IsT ok w 0 ql [v] (boxZ v.f.ps)) (hval : ∀ u ∈ fs, validF u.f = true) (hv : validF v.f = true) :
    Calls Tryz.prog 55 #[.pointer (some ⟨q, 0, none⟩), .pointer (some ⟨ql, 0, none⟩)] w (WithPost ok 1 (fs ++ [v]) w) := by
  obtain ⟨hq, hc, kb, ko, cap, ks, ts, h4, hne, hle, hcap, hkO, hlen, hkt, hf, hx⟩ := hT
  obtain ⟨n, hn⟩ : ∃ n, n = ks.length := ⟨_, rfl⟩
  have hn1 : 1 ≤ n := by
    rw [hn]; exact List.length_pos_iff.2 hne
  rw [← hn] at h4 hle hcap hlen
  have hqs := hok _ hq
  have hkb := hok _ hkO.1
  have hkcell := fun (i : Nat) p y (e : ks[i]? = some (p, y)) => (hkO.2 i p y e).1
  obtain ⟨⟨q0, x0⟩, he0⟩ : ∃ k, ks[0]? = some k := ⟨ks[0]'(by omega), List.getElem?_eq_getElem _⟩
  obtain ⟨t0, ht0⟩ : ∃ t, ts[0]? = some t := ⟨ts[0]'(by omega), List.getElem?_eq_getElem _⟩
  obtain ⟨v0, _, _, hL0⟩ := hkt 0 q0 x0 t0 he0 ht0
  have hp0 : w.cell? ⟨kb, ko, none⟩ = some (.pointer (some ⟨q0, 0, none⟩)) := hkcell 0 q0 x0 he0
  have hq0 := hok _ hL0.lt
  have hnil := hL0.kids
  have hql := hok _ hl.lt
  have HK : Hid (∀ (i : Nat) p y, ks[i]? = some (p, y) → w.cell? ⟨kb, ko + i, none⟩ = some (.pointer (some ⟨p, 0, none⟩))) := hkcell
  have Hn : Hid (n = ks.length) := hn
  -- the trees
  obtain ⟨kt, hktd⟩ : ∃ kt : KT, kt = List.zip ks ts ++ [((ql, boxZ v.f.ps), [v])] := ⟨_, rfl⟩
  have e1 : kt.map Prod.fst = ks ++ [(ql, boxZ v.f.ps)] := by rw [hktd, List.map_append, List.map_fst_zip (by omega)]; rfl
  have e2 : (kt.map Prod.snd).flatten = fs ++ [v] := by rw [hktd, List.map_append, List.map_snd_zip (by omega), List.flatten_append, ← hf]; simp
  have hmem : ∀ k ∈ kt, IsT ok w 0 k.1.1 k.2 k.1.2 ∧ ∀ u ∈ k.2, validF u.f = true := by
    intro k hk
    rw [hktd, List.mem_append] at hk
    rcases hk with hk | hk
    · obtain ⟨i, hi, rfl⟩ := List.mem_iff_getElem.1 hk
      have hi' : i < ks.length ∧ i < ts.length := by simpa [List.length_zip, Nat.lt_min] using hi
      rw [List.getElem_zip]
      refine ⟨hkt i _ _ _ (List.getElem?_eq_getElem hi'.1) (List.getElem?_eq_getElem hi'.2), fun u hu => hval u ?_⟩
      rw [hf]; exact List.mem_flatten.2 ⟨_, List.getElem_mem hi'.2, hu⟩
    · simp at hk
      subst hk
      exact ⟨hl, fun u hu => by simp at hu; subst hu; exact hv⟩
  have hkl : kt.length = n + 1 := by
    have := congrArg List.length e1
    rw [List.length_map, List.length_append, ← hn] at this
    exact this
  have HP : Hid (∀ (w0 W : World) (vv : Value), Below w.heap.size w w0 → Below w0.heap.size w0 W → W.ownsRow w0.heap.size 87 1 vv (ptrs (ks ++ [(ql, boxZ v.f.ps)])).length (ptrs (ks ++ [(ql, boxZ v.f.ps)])) → ∃ g c, vv = .slice (some ⟨g, 0, none⟩) (n + 1) c ∧ Calls Tryz.prog 87 #[.slice (some ⟨g, 0, none⟩) (n + 1) c] W (WithPost ok 1 (fs ++ [v]) w)) := fun w0 W vv h0 hW hown => by
    rw [← e1] at hown
    rw [← e2]
    exact parted_trees w w0 W vv kt 0 n hok hkl (by omega) h0 hW hown (fun k hk => ((hmem k hk).1.same (Same.of_below h0 hok)).mono (fun b hb => .inl hb)) (fun k hk => (hmem k hk).2)
  clear hmem e1 e2 hktd hkl hkt hkO he0 ht0 hL0 hl hval hv hkcell hn hf hx hc hne hlen
  have hnn := eql_nil
  have h0n : (0 : Int) < (n : Int) := by omega
  go_enter Tryz.func55, Tryz.ntmps55
  go_wp2_with fail
  have hcat : catTo [⟨kb, ko, cap, ptrs ks⟩, ⟨w.heap.size, 0, 1, [.pointer (some ⟨ql, 0, none⟩)]⟩] 2 = ptrs (ks ++ [(ql, boxZ v.f.ps)]) := by simp [catTo, ptrs]
  have hlen : (ptrs (ks ++ [(ql, boxZ v.f.ps)])).length = n + 1 := by simp [ptrs, ← Hn.out]
  have hB0 : ∀ o1 o2 : Obj, Below w.heap.size w ((w.alloc o1).alloc o2) := fun o1 o2 => ((Below.refl _ _).alloc (Nat.le_refl _) _).alloc (by simp) _
  refine (Concat_any (w.heap.size + 1) 0 2 2 [⟨kb, ko, cap, ptrs ks⟩, ⟨w.heap.size, 0, 1, [.pointer (some ⟨ql, 0, none⟩)]⟩] _ (parts2 (by simp) (by simp [go_sem, ← Hn.out]) (by simp [go_sem]) (by simp; omega) (by simp; omega) (fun i q x e => ((hB0 _ _).cell (p := ⟨kb, ko + i, none⟩) hkb).trans (HK.out i q x e)) (by simp [go_sem])) rfl (by omega) (by show 1 ≤ (catTo _ 2).length; rw [hcat, hlen]; omega) (by show (catTo _ 2).length ≤ 1000; rw [hcat, hlen]; omega) (by show ∀ u ∈ catTo _ 2, _; rw [hcat]; exact oneCell_ptrs _)).mono ?_
  rintro e w1 ⟨vv, rfl, hown, hb1⟩
  replace hown : w1.ownsRow _ 87 1 vv (catTo [⟨kb, ko, cap, ptrs ks⟩, ⟨w.heap.size, 0, 1, [.pointer (some ⟨ql, 0, none⟩)]⟩] 2).length (catTo [⟨kb, ko, cap, ptrs ks⟩, ⟨w.heap.size, 0, 1, [.pointer (some ⟨ql, 0, none⟩)]⟩] 2) := hown
  rw [hcat] at hown
  obtain ⟨g, c, rfl, hcall⟩ := HP.out _ w1 vv (hB0 _ _) hb1 hown
  have HC : Hid _ := hcall
  clear hcall hown HP hcat hlen
  go_wp2_with (go_at_call 87; refine Calls.mono HC.out ?_; intro e w2 hpost; obtain ⟨s, m, ps, tss, rfl, hrest⟩ := hpost)
  go_ret
  exact ⟨s, m, ps, tss, rfl, hrest⟩

end Go.Proofs.YtenaepdmlknlcaaGreatDoor
