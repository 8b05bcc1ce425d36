import Derived.Test.YtenaepdmlknlcaaGreatDoorF15
import Derived.Shelf.RegionOpen
namespace Go.Proofs.YtenaepdmlknlcaaGreatDoor
open Go.RowKit

theorem eql_some_any (w : World) (a : Addr) (n c : Nat) : Sem.run Tryz.prog (binOp BinOp.eql 143 (Value.slice (some a) n c) (Value.slice none 0 0)) w = .ok (.bool false) w := eql_some w a n c

set_option maxRecDepth 100000 in
set_option maxHeartbeats 1000000 in
theorem Clone_any (g o m cap : Nat) (c : Kids) (w : World) (hm : m = c.length) (hm1 : 1 ≤ m) (hm2 : m ≤ 100) (hc : ∀ (j : Nat) k, c[j]? = some k → w.cell? ⟨g, o + j, none⟩ = some (.pointer (some ⟨k.1, 0, none⟩))) (hg : g < w.heap.size) :
    Calls Tryz.prog 122 #[.slice (some ⟨g, o, none⟩) m cap] w fun e w' => ∃ v : Value, e = .returned v ∧ w'.ownsRow w.heap.size 87 1 v m (ptrs c) ∧ Below w.heap.size w w' := by
  have hnn := eql_some_any
  obtain ⟨i0, hi, hz0, hz1, hz2⟩ := info_parts info39
  have Hc : Hid (∀ (j : Nat) k, c[j]? = some k → w.cell? ⟨g, o + j, none⟩ = some (.pointer (some ⟨k.1, 0, none⟩))) := hc
  have Hm : Hid (m = c.length) := hm
  clear hm hc
  go_enter Tryz.func122, Tryz.ntmps122
  have HI : Hid (Tryz.prog.info? 87 = some i0 ∧ i0.zero = some (.pointer none) ∧ i0.size = 1 ∧ i0.bytes = 8) := ⟨hi, hz0, hz1, hz2⟩
  have hB : ∀ o1 : Obj, Below w.heap.size w (w.alloc o1) := fun o1 => (Below.refl _ _).alloc (Nat.le_refl _) _
  have HO : Hid ((w.alloc (.cells #[] 87)).ownsRow w.heap.size 87 1 (.slice (some ⟨w.heap.size, 0, none⟩) 0 0) 0 []) := World.ownsRow_lit w #[] 0 (Nat.le_refl _) (by decide) rfl
  have HC : Hid (∀ j u, (ptrs c)[j]? = some u → (w.alloc (.cells #[] 87)).cell? ((⟨g, o, none⟩ : Addr).add j) = some u) := fun j u h => by
    obtain ⟨q, x, hq, rfl⟩ := ptrs_at h
    rw [addr_add]
    exact ((hB _).cell (p := ⟨g, o + j, none⟩) hg).trans (Hc.out j _ hq)
  have HL : Hid ((ptrs c).length = m * 1) := by show (ptrs c).length = m * 1; rw [ptrs, List.length_map, ← Hm.out, Nat.mul_one]
  clear hi hz0 hz1 hz2
  go_wp2_with (at_builtin; refine wpList_append_own _ rfl _ _ 143 rfl w.heap.size 87 i0 (.pointer none) 1 8 Tryz.underlying143 HI.out.1 HI.out.2.1 HI.out.2.2.1 HI.out.2.2.2 rfl (by decide) _ _ _ rfl HO.out ⟨g, o, none⟩ m cap (ptrs c) rfl HL.out HC.out (oneCell_ptrs c) (by unfold maxLen; omega) (by omega) (by simp) ?_; intro v' w2 hown' hgrow _; have Hown' : Hid (w2.ownsRow w.heap.size 87 1 v' (0 + m) ([] ++ ptrs c)) := hown'; clear hown')
  go_ret
  refine ⟨v', rfl, ?_, (hB _).grown hgrow (by simp) (fun k hk => (HO.out.lt k hk).1)⟩
  have := Hown'.out
  rwa [Nat.zero_add, List.nil_append] at this

set_option maxRecDepth 100000 in
set_option maxHeartbeats 1000000 in
theorem stable_any (d : Bool) (g n cap : Nat) (ks : Kids) (w : World) (hn : n = ks.length) (hn2 : n ≤ 19) (hrow : RowAt w g ks) (hks : ∀ k ∈ ks, k.1 ≠ g ∧ C4 w k.1 k.2 ∧ BxW k.2) :
    Calls Tryz.prog 120 #[.slice (some ⟨g, 0, none⟩) n cap, alongV d] w fun e w' => e = .returned (.tuple #[]) ∧ ∃ ks' : Kids, ks'.Perm ks ∧ RowAt w' g ks' ∧ KeepC g w w' ∧ Below g w w' := by
  have HI : Hid (Calls Tryz.prog 179 #[.slice (some ⟨g, 0, none⟩) n cap, .int .i64 0, .int .i64 n, alongV d] w fun e w' => e = .returned (.tuple #[]) ∧ ∃ ks' : Kids, ks'.Perm ks ∧ RowAt w' g ks' ∧ KeepC g w w' ∧ Below g w w') := by
    cases d
    · exact insertion81 g n cap ks w hn (by omega) hrow hks
    · exact insertion79 g n cap ks w hn (by omega) hrow hks
  clear hn hrow hks
  have hS : Calls Tryz.prog 153 #[.slice (some ⟨g, 0, none⟩) n cap, .int .i64 n, alongV d] w fun e w' => e = .returned (.tuple #[]) ∧ ∃ ks' : Kids, ks'.Perm ks ∧ RowAt w' g ks' ∧ KeepC g w w' ∧ Below g w w' := by
    obtain ⟨dv, hdv⟩ : ∃ dv, alongV d = dv := ⟨_, rfl⟩
    rw [hdv] at HI ⊢
    clear hdv
    go_enter Tryz.func153, Tryz.ntmps153
    go_wp2
    go_loopw [7, 8] (fun av bv wr => av = .int .i64 0 ∧ bv = .int .i64 20 ∧ wr = w) (fun _ _ _ => 0)
    case atStart => exact ⟨rfl, rfl, rfl⟩
    case round =>
      obtain ⟨rfl, rfl, rfl⟩ := hrel
      go_wp2_with (go_at_call 179; refine Calls.mono HI.out ?_; rintro e w2 ⟨rfl, hp⟩)
      have HP : Hid _ := hp
      clear hp
      go_loopw [6] (fun sv wr => sv = .int .i64 20 ∧ wr = w2) (fun _ _ => 0)
      case atStart => exact ⟨rfl, rfl⟩
      case round =>
        obtain ⟨rfl, rfl⟩ := hrel
        go_wp2
        go_end0
        exact ⟨rfl, HP.out⟩
  have HS : Hid _ := hS
  clear hS
  obtain ⟨dv, hdv⟩ : ∃ dv, alongV d = dv := ⟨_, rfl⟩
  rw [hdv] at HS ⊢
  clear hdv
  go_enter Tryz.func120, Tryz.ntmps120
  go_wp2_with (go_at_call 153; refine Calls.mono HS.out ?_; rintro e w2 ⟨rfl, hp⟩)
  go_end0
  exact ⟨rfl, hp⟩

end Go.Proofs.YtenaepdmlknlcaaGreatDoor

namespace Go.Proofs.YtenaepdmlknlcaaGreatDoor
open Go.RowKit

/-- A node over others, as parted makes it. -/
structure NodeAt (n0 g : Nat) (W : World) (p : Nat × Bx) (c : Kids) : Prop where
  new : n0 ≤ p.1
  lt : p.1 < W.heap.size
  box : C4 W p.1 p.2
  eq : p.2 = joinK c
  ne : c ≠ []
  few : c.length ≤ 4
  kids : ∃ kb cap, W.cell? ⟨p.1, 4, none⟩ = some (.slice (some ⟨kb, 0, none⟩) c.length cap) ∧ c.length ≤ cap ∧ (kb = g ∨ n0 ≤ kb) ∧ kb < W.heap.size ∧ ∀ (j : Nat) k, c[j]? = some k → W.cell? ⟨kb, j, none⟩ = some (.pointer (some ⟨k.1, 0, none⟩))
theorem NodeAt.below {n0 g : Nat} {A B : World} {p : Nat × Bx} {c : Kids} (h : NodeAt n0 g A p c) (hb : Below A.heap.size A B) : NodeAt n0 g B p c := by
  obtain ⟨h1, h2, h3, h4, h5, h6, kb, cap, k1, k2, k3, k4, k5⟩ := h
  obtain ⟨hc, _⟩ := bcell hb
  exact ⟨h1, Nat.lt_of_lt_of_le h2 hb.size, h3.below hb h2, h4, h5, h6, kb, cap, (hc _ _ h2).trans k1, k2, k3, Nat.lt_of_lt_of_le k4 hb.size, fun j k e => (hc _ _ k4).trans (k5 j k e)⟩

def PartedPost (g : Nat) (ks : Kids) (w : World) (e : Ending) (w' : World) : Prop :=
  ∃ (s m : Nat) (ps : Kids) (kss : List Kids), e = .returned (.slice (some ⟨s, 0, none⟩) m m) ∧ (m = 1 ∨ m = 2) ∧ ps.length = m ∧ kss.length = m ∧ kss.flatten.Perm ks ∧ w.heap.size ≤ s ∧ s < w'.heap.size ∧ (∀ (i : Nat) p, ps[i]? = some p → w'.cell? ⟨s, i, none⟩ = some (.pointer (some ⟨p.1, 0, none⟩))) ∧ (∀ (i : Nat) p c, ps[i]? = some p → kss[i]? = some c → NodeAt w.heap.size g w' p c) ∧ KeepC g w w' ∧ Below g w w'

theorem joinK_bxw {ks : Kids} (h : ∀ k ∈ ks, BxW k.2) (hne : ks ≠ []) : BxW (joinK ks) := by
  cases ks with
  | nil => exact absurd rfl hne
  | cons k r =>
    have : ∀ (r : Kids) (a : Bx), BxW a → (∀ k ∈ r, BxW k.2) → BxW (r.foldl (fun b q => b.join q.2) a) := by
      intro r
      induction r with
      | nil => exact fun a ha _ => ha
      | cons k r ih => exact fun a ha hk => ih _ (ha.join (hk k (by simp))) (fun q hq => hk q (by simp [hq]))
    exact this r k.2 (h k (by simp)) (fun q hq => h q (by simp [hq]))

theorem kidsAt_row {w : World} {g : Nat} {ks : Kids} (hg : g < w.heap.size) (hr : RowAt w g ks) (hk : ∀ k ∈ ks, k.1 < w.heap.size ∧ C4 w k.1 k.2) : KidsAt w.heap.size w g 0 ks :=
  ⟨hg, fun i q x e => ⟨by rw [Nat.zero_add]; exact (hr i _ e).1, (hk _ (List.mem_of_getElem? e)).1, (hk _ (List.mem_of_getElem? e)).2⟩⟩

set_option maxRecDepth 100000 in
set_option maxHeartbeats 2000000 in
theorem parted_few (g n cap : Nat) (ks : Kids) (w : World) (hg : g < w.heap.size) (hn : n = ks.length) (hn1 : 1 ≤ n) (hn2 : n ≤ 4) (hcap : n ≤ cap) (hrow : RowAt w g ks) (hks : ∀ k ∈ ks, k.1 < w.heap.size ∧ C4 w k.1 k.2) :
    Calls Tryz.prog 87 #[.slice (some ⟨g, 0, none⟩) n cap] w (PartedPost g ks w) := by
  have h4 : (n : Int) ≤ 4 := by omega
  have Hk : Hid (KidsAt w.heap.size w g 0 ks) := kidsAt_row hg hrow hks
  have Hn : Hid (n = ks.length) := hn
  have HP : Hid (∀ (s q : Nat) (w' : World), w'.cell? ⟨s, 0, none⟩ = some (.pointer (some ⟨q, 0, none⟩)) → s < w'.heap.size → w.heap.size ≤ s → w.heap.size ≤ q → q < w'.heap.size → C4 w' q (joinK ks) → w'.cell? ⟨q, 4, none⟩ = some (.slice (some ⟨g, 0, none⟩) n cap) → Below w.heap.size w w' → PartedPost g ks w (.returned (.slice (some ⟨s, 0, none⟩) 1 1)) w') := by
    intro s q w' hs0 hs1 hs2 hq1 hq2 hc h4 hb
    have hgl : g < w'.heap.size := Nat.lt_of_lt_of_le hg hb.size
    refine ⟨s, 1, [(q, joinK ks)], [ks], rfl, .inl rfl, rfl, rfl, by simp, ?_, hs1, ?_, ?_, KeepC.of_below hb, hb.mono (Nat.le_of_lt hg)⟩
    · exact hs2
    · intro i p hp
      match i, hp with
      | 0, hp => simp at hp; subst hp; exact hs0
      | i + 1, hp => simp at hp
    · intro i p c hp hc'
      match i, hp, hc' with
      | 0, hp, hc' =>
        simp at hp hc'
        subst hp hc'
        exact ⟨hq1, hq2, hc, rfl, by intro e; rw [e] at hn; simp at hn; omega, by omega, g, cap, by rw [← hn]; exact h4, by omega, .inl rfl, hgl, fun j k e => (hb.cell (p := ⟨g, j, none⟩) hg).trans (hrow j k e).1⟩
      | i + 1, hp, _ => simp at hp
  clear hrow hks hn
  go_enter Tryz.func87, Tryz.ntmps87
  go_wp2_with (go_at_call 54; refine (over_any g 0 n cap ks _ Hk.out Hn.out hn1 (by omega) hcap).mono ?_; rintro e w1 ⟨q, rfl, hq1, hq2, hc, h4c, hB1⟩)
  go_ret
  have hB2 : Below w1.heap.size w1 (w1.alloc (.cells #[.pointer (some ⟨q, 0, none⟩)] 87)) := (Below.refl _ _).alloc (Nat.le_refl _) _
  exact HP.out w1.heap.size q _ (by simp [go_sem]) (by simp) hB1.size hq1 (by simp; omega) (hc.below hB2 hq2) ((hB2.cell (p := ⟨q, 4, none⟩) hq2).trans h4c) (hB1.trans (hB2.mono hB1.size))

theorem getD_take {ks : Kids} {k j : Nat} {x : Nat × Bx} (h : (ks.take k)[j]? = some x) : ks[j]? = some x := by
  rw [List.getElem?_take] at h
  split at h
  · exact h
  · cases h
theorem getD_drop {ks : Kids} {k j : Nat} {x : Nat × Bx} (h : (ks.drop k)[j]? = some x) : ks[k + j]? = some x := by
  rw [List.getElem?_drop] at h
  exact h

set_option maxRecDepth 100000 in
set_option maxHeartbeats 2000000 in
theorem parted_five (g cap : Nat) (ks : Kids) (w : World) (hg : g < w.heap.size) (hn : 5 = ks.length) (hcap : 5 ≤ cap) (hrow : RowAt w g ks) (hks : ∀ k ∈ ks, k.1 < w.heap.size ∧ C4 w k.1 k.2) (hne : ∀ k ∈ ks, k.1 ≠ g ∧ BxW k.2) :
    Calls Tryz.prog 87 #[.slice (some ⟨g, 0, none⟩) 5 cap] w (PartedPost g ks w) := by
  have Hk : Hid (KidsAt w.heap.size w g 0 ks) := kidsAt_row hg hrow hks
  have Hn : Hid (5 = ks.length) := hn
  have Hrow : Hid (RowAt w g ks) := hrow
  have Hks : Hid (∀ k ∈ ks, k.1 < w.heap.size ∧ C4 w k.1 k.2) := hks
  have Hne : Hid (∀ k ∈ ks, k.1 ≠ g ∧ BxW k.2) := hne
  have HJ : Hid (BxW (joinK ks)) := joinK_bxw (fun k hk => (hne k hk).2) (by intro e; rw [e] at hn; simp at hn)
  clear hn hrow hks hne
  go_enter Tryz.func87, Tryz.ntmps87
  go_upto_region 4 with (go_at_call 54; refine (over_any g 0 5 cap ks _ Hk.out Hn.out (by decide) (by decide) hcap).mono ?_; rintro e w1 ⟨q, rfl, hq1, hq2, hc, h4c, hB1⟩)
  have hsz1 := hB1.size
  obtain ⟨c0, c1, c2, c3⟩ := hc
  have HA : Hid (∀ W : World, Calls Tryz.prog 121 #[.agg #[.int .i64 (joinK ks).l, .int .i64 (joinK ks).t, .int .i64 (joinK ks).r, .int .i64 (joinK ks).b]] W fun e w' => (∃ d, e = .returned (alongV d)) ∧ Below W.heap.size W w') := fun W => along_any (joinK ks) W HJ.out
  have HS : Hid (∀ (d : Bool) (W : World), Below w1.heap.size w1 W → Calls Tryz.prog 120 #[.slice (some ⟨g, 0, none⟩) 5 cap, alongV d] W fun e w' => e = .returned (.tuple #[]) ∧ ∃ ks' : Kids, ks'.Perm ks ∧ RowAt w' g ks' ∧ KeepC g W w' ∧ Below g W w') := fun d W hW => by
    have hWw : Below w.heap.size w W := hB1.trans (hW.mono hB1.size)
    exact stable_any d g 5 cap ks W Hn.out (by decide) (fun i k e => ⟨(hWw.cell (p := ⟨g, i, none⟩) hg).trans (Hrow.out i k e).1, (hWw.frozen (p := ⟨g, i, none⟩) hg).trans (Hrow.out i k e).2⟩) (fun k hk => ⟨(Hne.out k hk).1, (Hks.out k hk).2.below hWw (Hks.out k hk).1, (Hne.out k hk).2⟩)
  go_upto_region 6 with (first
    | (go_at_call 121; refine Calls.mono (HA.out _) ?_; rintro e w2 ⟨⟨d, rfl⟩, hb2⟩)
    | (go_at_call 120; refine Calls.mono (HS.out d _ hb2) ?_; rintro e w3 ⟨rfl, ks', hperm, hrow3, hkeep3, hb3⟩))
  have hB2 : Below w.heap.size w w2 := hB1.trans (hb2.mono hB1.size)
  have hB3 : Below g w w3 := (hB2.mono (Nat.le_of_lt hg)).trans hb3
  have hsz2 := hB2.size
  have hsz3 := hkeep3.1
  have HK3 : Hid (∀ k ∈ ks', k.1 < w3.heap.size ∧ C4 w3 k.1 k.2) := fun k hk => by
    have hk2 := hperm.mem_iff.1 hk
    exact ⟨by have := (Hks.out k hk2).1; omega, hkeep3.q4 (Hne.out k hk2).1 ((Hks.out k hk2).2.below hB2 (Hks.out k hk2).1)⟩
  have hl5 : ks'.length = 5 := by rw [hperm.length_eq]; exact Hn.out.symm
  have HC : Hid (∀ (o m cp : Nat) (W : World), o + m ≤ 5 → 1 ≤ m → Below w3.heap.size w3 W → Calls Tryz.prog 122 #[.slice (some ⟨g, o, none⟩) m cp] W fun e w' => ∃ g1 cp1 : Nat, e = .returned (.slice (some ⟨g1, 0, none⟩) m cp1) ∧ m ≤ cp1 ∧ W.heap.size ≤ g1 ∧ KidsAt w'.heap.size w' g1 0 ((ks'.drop o).take m) ∧ Below W.heap.size W w') := fun o m cp W hom hm1 hW => by
    have hlen : m = ((ks'.drop o).take m).length := by rw [List.length_take, List.length_drop, hl5]; omega
    refine (Clone_any g o m cp ((ks'.drop o).take m) W hlen hm1 (by omega) (fun j k e => (hW.cell (p := ⟨g, o + j, none⟩) (show g < w3.heap.size by omega)).trans (hrow3 (o + j) k (getD_drop (getD_take e))).1) (by have := hW.size; omega)).mono ?_
    rintro e w' ⟨v, rfl, hown, hb⟩
    obtain ⟨m', rfl⟩ : ∃ m', m = m' + 1 := ⟨m - 1, by omega⟩
    obtain ⟨g1, c1, rfl, h1, h2, h3⟩ := kids_of_row (ks := (ks'.drop o).take (m' + 1)) hlen.symm hb (by rw [show (ptrs ((ks'.drop o).take (m' + 1))).length = m' + 1 by rw [ptrs, List.length_map]; exact hlen.symm]; exact hown) (fun i q x e => by
      have := HK3.out _ (List.mem_of_getElem? (getD_drop (getD_take e)))
      exact ⟨Nat.lt_of_lt_of_le this.1 hW.size, this.2.below hW this.1⟩)
    exact ⟨g1, c1, rfl, h1, h2, h3, hb⟩
  have HO : Hid (∀ (gg m cc : Nat) (c : Kids) (W : World), KidsAt W.heap.size W gg 0 c → m = c.length → 1 ≤ m → m ≤ 5 → m ≤ cc → Calls Tryz.prog 54 #[.slice (some ⟨gg, 0, none⟩) m cc] W fun e w' => ∃ q : Nat, e = .returned (.pointer (some ⟨q, 0, none⟩)) ∧ W.heap.size ≤ q ∧ q < w'.heap.size ∧ C4 w' q (joinK c) ∧ w'.cell? ⟨q, 4, none⟩ = some (.slice (some ⟨gg, 0, none⟩) m cc) ∧ Below W.heap.size W w') := fun gg m cc c W hk hm h1 h2 h3 => over_any gg 0 m cc c W hk hm h1 (by omega) h3
  have x0 : Below w3.heap.size w3 w3.drew := (Below.refl _ _).drew
  have l1 : 2 = ((ks'.drop 0).take 2).length := by rw [List.length_take, List.length_drop, hl5]; decide
  have l2 : 3 = ((ks'.drop 2).take 3).length := by rw [List.length_take, List.length_drop, hl5]; decide
  have L1 : Hid (2 = ((ks'.drop 0).take 2).length) := l1
  have L2 : Hid (3 = ((ks'.drop 2).take 3).length) := l2
  have Hrow3 : Hid (RowAt w3 g ks') := hrow3
  have Hl5 : Hid (ks'.length = 5) := hl5
  clear l1 l2 hl5 hrow3 c0 c1 c2 c3 h4c HA HS hb2 hb3 Hk
  have h2c : (2 : Int) ≤ (cap : Int) := by omega
  have h2n : 2 ≤ cap := by omega
  go_region_held3 (fun w' => True) (trivial)
    (first
    | (go_at_call 122; have y2 := x2; refine Calls.mono (HC.out _ _ _ _ (by decide) (by decide) y2) ?_; rintro e w6 ⟨g2, cp2, rfl, hcp2, hg2, hk2, hb6⟩; have x3 := y2.trans (hb6.mono y2.size))
    | (go_at_call 122; refine Calls.mono (HC.out _ _ _ _ (by decide) (by decide) x0) ?_; rintro e w4 ⟨g1, cp1, rfl, hcp1, hg1, hk1, hb4⟩; have x1 := x0.trans (hb4.mono x0.size))
    | (go_at_call 54; have y3 := x3; refine Calls.mono (HO.out _ _ _ _ _ hk2 L2.out (by decide) (by decide) hcp2) ?_; rintro e w7 ⟨q2, rfl, hq21, hq22, hc2, h42, hb7⟩; have x4 := y3.trans (hb7.mono y3.size))
    | (go_at_call 54; refine Calls.mono (HO.out _ _ _ _ _ hk1 L1.out (by decide) (by decide) hcp1) ?_; rintro e w5 ⟨q1, rfl, hq11, hq12, hc1, h41, hb5⟩; have x2 := x1.trans (hb5.mono x1.size)))
  have z4 : w3.heap.size ≤ w4.heap.size := hb4.size
  have z5 := hb5.size
  have z6 := hb6.size
  have z7 := hb7.size
  have zg1 : w3.heap.size ≤ g1 := hg1
  have N1 : NodeAt w.heap.size g w5 (q1, joinK ((ks'.drop 0).take 2)) ((ks'.drop 0).take 2) := ⟨by show _ ≤ q1; omega, hq12, hc1, rfl, by intro e; have := L1.out; rw [e] at this; simp at this, by rw [← L1.out]; decide, g1, cp1, by rw [← L1.out]; exact h41, by rw [← L1.out]; exact hcp1, .inr (by omega), by have := hk1.1; omega, fun j k e => (hb5.cell (p := ⟨g1, j, none⟩) hk1.1).trans (by have := (hk1.2 j k.1 k.2 e).1; rwa [Nat.zero_add] at this)⟩
  have N2 : NodeAt w.heap.size g w7 (q2, joinK ((ks'.drop 2).take 3)) ((ks'.drop 2).take 3) := ⟨by show _ ≤ q2; omega, hq22, hc2, rfl, by intro e; have := L2.out; rw [e] at this; simp at this, by rw [← L2.out]; decide, g2, cp2, by rw [← L2.out]; exact h42, by rw [← L2.out]; exact hcp2, .inr (by omega), by have := hk2.1; omega, fun j k e => (hb7.cell (p := ⟨g2, j, none⟩) hk2.1).trans (by have := (hk2.2 j k.1 k.2 e).1; rwa [Nat.zero_add] at this)⟩
  have b8 : ∀ o : Obj, Below w7.heap.size w7 (w7.alloc o) := fun o => (Below.refl _ _).alloc (Nat.le_refl _) o
  have M1 : Hid (NodeAt w.heap.size g w7 (q1, joinK ((ks'.drop 0).take 2)) ((ks'.drop 0).take 2)) := (N1.below hb6).below hb7
  have M2 : Hid (NodeAt w.heap.size g w7 (q2, joinK ((ks'.drop 2).take 3)) ((ks'.drop 2).take 3)) := N2
  have HPm : Hid ([(ks'.drop 0).take 2, (ks'.drop 2).take 3].flatten.Perm ks) := by
    show List.Perm _ _
    have e : [(ks'.drop 0).take 2, (ks'.drop 2).take 3].flatten = ks' := by
      simp only [List.flatten_cons, List.flatten_nil, List.append_nil, List.drop_zero]
      rw [List.take_of_length_le (l := ks'.drop 2) (by rw [List.length_drop, Hl5.out]; decide), List.take_append_drop]
    rw [e]; exact hperm
  clear N1 N2 hk1 hk2 hc1 hc2 h41 h42
  go_wp2
  go_ret
  refine ⟨w7.heap.size, 2, [(q1, joinK ((ks'.drop 0).take 2)), (q2, joinK ((ks'.drop 2).take 3))], [(ks'.drop 0).take 2, (ks'.drop 2).take 3], rfl, .inr rfl, rfl, rfl, HPm.out, by omega, by simp, ?_, ?_, ?_, ?_⟩
  · intro i p hp
    match i, hp with
    | 0, hp => simp at hp; subst hp; simp [go_sem]
    | 1, hp => simp at hp; subst hp; simp [go_sem]
    | i + 2, hp => simp at hp
  · intro i p c hp hc'
    match i, hp, hc' with
    | 0, hp, hc' =>
      simp only [List.getElem?_cons_zero, Option.some.injEq] at hp hc'
      subst hp hc'
      exact M1.out.below (b8 _)
    | 1, hp, hc' =>
      simp only [List.getElem?_cons_succ, List.getElem?_cons_zero, Option.some.injEq] at hp hc'
      subst hp hc'
      exact M2.out.below (b8 _)
    | i + 2, hp, _ => simp at hp
  · exact ((KeepC.of_below hB2).trans hkeep3).trans (KeepC.of_below (x4.trans ((b8 _).mono x4.size)))
  · exact hB3.trans ((x4.trans ((b8 _).mono x4.size)).mono (by omega))

end Go.Proofs.YtenaepdmlknlcaaGreatDoor

namespace Go.Proofs.YtenaepdmlknlcaaGreatDoor
open Go.RowKit

theorem perm_lift {α β : Type} (f : α → β) {l l' : List β} (h : l.Perm l') : ∀ (m : List α), m.map f = l' → ∃ m' : List α, m'.Perm m ∧ m'.map f = l := by
  induction h with
  | nil => intro m hm; exact ⟨m, .refl _, hm⟩
  | cons x _ ih =>
    intro m hm
    cases m with
    | nil => simp at hm
    | cons a r =>
      simp at hm
      obtain ⟨m', h1, h2⟩ := ih r hm.2
      exact ⟨a :: m', h1.cons a, by simp [hm.1, h2]⟩
  | swap x y l =>
    intro m hm
    match m, hm with
    | a :: b :: r, hm =>
      simp at hm
      exact ⟨b :: a :: r, .swap _ _ _, by simp [hm]⟩
    | [a], hm => simp at hm
    | [], hm => simp at hm
  | trans _ _ ih1 ih2 =>
    intro m hm
    obtain ⟨m1, h1, h2⟩ := ih2 m hm
    obtain ⟨m2, h3, h4⟩ := ih1 m1 h2
    exact ⟨m2, h3.trans h1, h4⟩

theorem two_of_length {α : Type} {l : List α} (h : l.length = 2) : ∃ a b, l = [a, b] := by
  match l, h with
  | [a, b], _ => exact ⟨a, b, rfl⟩

theorem IsT.c4 {ok : Nat → Prop} {w : World} : ∀ {d q : Nat} {fs : List FV} {x : Bx}, IsT ok w d q fs x → C4 w q x
  | 0, _, _, _, ⟨_, _, ex, l⟩ => by rw [ex]; exact l.box
  | _ + 1, _, _, _, h => h.2.1

/-- What with leaves. -/
def WithPost (ok : Nat → Prop) (d : Nat) (fs : List FV) (w : World) (e : Ending) (w' : World) : Prop :=
  ∃ (s m : Nat) (ps : Kids) (tss : List (List FV)), e = .returned (.slice (some ⟨s, 0, none⟩) m m) ∧ (m = 1 ∨ m = 2) ∧ ps.length = m ∧ tss.length = m ∧ w.heap.size ≤ s ∧ s < w'.heap.size ∧ (∀ (i : Nat) p, ps[i]? = some p → w'.cell? ⟨s, i, none⟩ = some (.pointer (some ⟨p.1, 0, none⟩))) ∧ (∀ (i : Nat) p y t, ps[i]? = some (p, y) → tss[i]? = some t → IsT (okN ok w.heap.size w'.heap.size) w' d p t y) ∧ tss.flatten.Perm fs ∧ Below w.heap.size w w'

abbrev KT := List ((Nat × Bx) × List FV)

/-- A node that parted has made, over trees. -/
theorem node_tree {ok : Nat → Prop} {w W w' : World} {g d : Nat} {p : Nat × Bx} {a : KT} (hg1 : w.heap.size ≤ g) (hgl : g < w'.heap.size) (hW : w.heap.size ≤ W.heap.size) (hn : NodeAt W.heap.size g w' p (a.map Prod.fst))
    (hT : ∀ k ∈ a, IsT (okN ok w.heap.size w'.heap.size) w' d k.1.1 k.2 k.1.2) : IsT (okN ok w.heap.size w'.heap.size) w' (d + 1) p.1 (a.map Prod.snd).flatten p.2 := by
  obtain ⟨h1, h2, h3, h4, h5, h6, kb, cap, k1, k2, k3, k4, k5⟩ := hn
  refine ⟨.inr ⟨by omega, h2⟩, h3, kb, 0, cap, a.map Prod.fst, a.map Prod.snd, k1, h5, h6, k2, ⟨.inr ⟨by rcases k3 with rfl | k3 <;> omega, k4⟩, fun i q x e => ?_⟩, by simp, fun i q y t e e' => ?_, rfl, h4⟩
  · rw [List.getElem?_map, Option.map_eq_some_iff] at e
    obtain ⟨k, hk, hkx⟩ := e
    have := hT k (List.mem_of_getElem? hk)
    rw [hkx] at this
    refine ⟨by rw [Nat.zero_add]; exact k5 i (q, x) (by rw [List.getElem?_map, hk]; simp [hkx]), this.lt, this.c4⟩
  · rw [List.getElem?_map, Option.map_eq_some_iff] at e e'
    obtain ⟨k, hk, hkx⟩ := e
    obtain ⟨k', hk', rfl⟩ := e'
    rw [hk] at hk'
    cases hk'
    have := hT k (List.mem_of_getElem? hk)
    rw [hkx] at this
    exact this

theorem from_parted {ok : Nat → Prop} {w W w' : World} {g d : Nat} {e : Ending} {kt : KT} (hg1 : w.heap.size ≤ g) (hgW : g < W.heap.size) (hW : Below w.heap.size w W)
    (hT : ∀ k ∈ kt, IsT (fun b => okN ok w.heap.size W.heap.size b ∧ b ≠ g) W d k.1.1 k.2 k.1.2) (hP : PartedPost g (kt.map Prod.fst) W e w') : WithPost ok (d + 1) (kt.map Prod.snd).flatten w e w' := by
  obtain ⟨s, m, ps, kss, rfl, hm, hps, hkss, hperm, hs1, hs2, hrow, hnodes, hkeep, hbel⟩ := hP
  have hsz := hW.size
  have hsz2 := hkeep.1
  obtain ⟨kt', hp1, hp2⟩ := perm_lift Prod.fst hperm kt rfl
  have hT' : ∀ k ∈ kt', IsT (okN ok w.heap.size w'.heap.size) w' d k.1.1 k.2 k.1.2 := fun k hk =>
    ((hT k (hp1.mem_iff.1 hk)).same (hkeep.same (fun b hb => hb.2))).mono (fun b hb => hb.1.elim .inl (fun h => .inr ⟨h.1, by omega⟩))
  have hB : Below w.heap.size w w' := hW.trans (hbel.mono hg1)
  have hgl : g < w'.heap.size := by omega
  rcases hm with rfl | rfl
  · obtain ⟨p, rfl⟩ : ∃ p, ps = [p] := List.length_eq_one_iff.1 hps
    obtain ⟨c, rfl⟩ : ∃ c, kss = [c] := List.length_eq_one_iff.1 hkss
    simp only [List.flatten_cons, List.flatten_nil, List.append_nil] at hp2
    have hN := hnodes 0 p c rfl rfl
    rw [← hp2] at hN
    refine ⟨s, 1, [p], [(kt'.map Prod.snd).flatten], rfl, .inl rfl, rfl, rfl, by omega, hs2, hrow, ?_, ?_, hB⟩
    · intro i q y t e e'
      match i, e, e' with
      | 0, e, e' =>
        simp at e e'
        subst e e'
        exact node_tree hg1 hgl hsz hN hT'
      | i + 1, e, _ => simp at e
    · simp only [List.flatten_cons, List.flatten_nil, List.append_nil]
      exact (hp1.map Prod.snd).flatten
  · obtain ⟨p, p2, rfl⟩ : ∃ p p2, ps = [p, p2] := two_of_length hps
    obtain ⟨c, c2, rfl⟩ : ∃ c c2, kss = [c, c2] := two_of_length hkss
    simp only [List.flatten_cons, List.flatten_nil, List.append_nil] at hp2
    obtain ⟨a, b, rfl, rfl, rfl⟩ := List.map_eq_append_iff.1 hp2
    have hN := hnodes 0 p _ rfl rfl
    have hN2 := hnodes 1 p2 _ rfl rfl
    refine ⟨s, 2, [p, p2], [(a.map Prod.snd).flatten, (b.map Prod.snd).flatten], rfl, .inr rfl, rfl, rfl, by omega, hs2, hrow, ?_, ?_, hB⟩
    · intro i q y t e e'
      match i, e, e' with
      | 0, e, e' =>
        simp at e e'
        subst e e'
        exact node_tree hg1 hgl hsz hN (fun k hk => hT' k (by simp [hk]))
      | 1, e, e' =>
        simp at e e'
        subst e e'
        exact node_tree hg1 hgl hsz hN2 (fun k hk => hT' k (by simp [hk]))
      | i + 2, e, _ => simp at e
    · simp only [List.flatten_cons, List.flatten_nil, List.append_nil]
      have := (hp1.map Prod.snd).flatten
      rwa [List.map_append, List.flatten_append] at this

/-- The boxes of a tree of features that may be lie in the world. -/
theorem boxZ_bxw {ps : Pts} (hne : ps ≠ []) (ha : ps.all inW = true) : BxW (boxZ ps) := by
  have key : ∀ (r : Pts) (a : Bx), BxW a → r.all inW = true → BxW (r.foldl (fun b q => b.join (bxAt q)) a) := by
    intro r
    induction r with
    | nil => exact fun a h _ => h
    | cons q r ih =>
      intro a h hr
      simp only [List.all_cons, Bool.and_eq_true] at hr
      refine ih _ (h.join ?_) hr.2
      have := hr.1
      simp [inW, inB] at this
      constructor <;> simp only [bxAt] <;> omega
  cases ps with
  | nil => exact absurd rfl hne
  | cons q r =>
    simp only [List.all_cons, Bool.and_eq_true] at ha
    refine key r _ ?_ ha.2
    have := ha.1
    simp [inW, inB] at this
    constructor <;> simp only [bxAt] <;> omega
theorem valid_box {f : Feat} (h : validF f = true) : BxW (boxZ f.ps) := by
  simp only [validF, Bool.and_eq_true] at h
  refine boxZ_bxw ?_ h.2
  intro e
  have := h.1.2
  rw [e] at this
  simp [mayB] at this
theorem IsT.bxw {ok : Nat → Prop} {w : World} : ∀ {d q : Nat} {fs : List FV} {x : Bx}, IsT ok w d q fs x → (∀ v ∈ fs, validF v.f = true) → BxW x
  | 0, _, _, _, ⟨v, e, ex, _⟩, hv => by subst e ex; exact valid_box (hv v (by simp))
  | d + 1, _, _, _, ⟨_, _, _, _, _, ks, ts, _, hne, _, _, _, hl, ht, hf, hx⟩, hv => by
    subst hf hx
    refine joinK_bxw (fun k hk => ?_) hne
    obtain ⟨i, hi, rfl⟩ := List.mem_iff_getElem.1 hk
    have hti : i < ts.length := by omega
    exact IsT.bxw (ht i ks[i].1 ks[i].2 ts[i] (List.getElem?_eq_getElem hi) (List.getElem?_eq_getElem hti)) (fun v h => hv v (List.mem_flatten.2 ⟨ts[i], List.getElem_mem hti, h⟩))

end Go.Proofs.YtenaepdmlknlcaaGreatDoor

namespace Go.Proofs.YtenaepdmlknlcaaGreatDoor
open Go.RowKit

/-- A row that was made, of nodes. -/
theorem row_of_own {w1 : World} {B : Nat} {v : Value} {ks : Kids} {m : Nat} (hm : ks.length = m + 1) (hown : w1.ownsRow B 87 1 v (ptrs ks).length (ptrs ks)) :
    ∃ g c, v = .slice (some ⟨g, 0, none⟩) (m + 1) c ∧ m + 1 ≤ c ∧ B ≤ g ∧ g < w1.heap.size ∧ RowAt w1 g ks := by
  have hl : (ptrs ks).length = m + 1 := by simp [ptrs, hm]
  rw [hl] at hown
  obtain ⟨g, c, rfl⟩ := ownsRow_succ hown
  have hlt := hown.lt g rfl
  have hc : m + 1 ≤ c := by
    rcases hown.2 with ⟨h, _⟩ | ⟨g', c', cur, h, _, _, hle, _⟩
    · cases h
    · cases h; exact hle
  refine ⟨g, c, rfl, hc, hlt.1, hlt.2, fun i k e => ⟨?_, hown.frozenAt i⟩⟩
  have hi : i < ks.length := (List.getElem?_eq_some_iff.1 e).1
  rw [hown.cellAt i (by omega)]
  simp [ptrs, e]

/-- parted, of a row of one to five nodes that no one else has. -/
theorem parted_any (g n cap : Nat) (ks : Kids) (w : World) (hg : g < w.heap.size) (hn : n = ks.length) (hn1 : 1 ≤ n) (hn2 : n ≤ 5) (hcap : n ≤ cap) (hrow : RowAt w g ks) (hks : ∀ k ∈ ks, k.1 < w.heap.size ∧ C4 w k.1 k.2) (hne : ∀ k ∈ ks, k.1 ≠ g ∧ BxW k.2) :
    Calls Tryz.prog 87 #[.slice (some ⟨g, 0, none⟩) n cap] w (PartedPost g ks w) := by
  by_cases h : n ≤ 4
  · exact parted_few g n cap ks w hg hn hn1 h hcap hrow hks
  · obtain rfl : n = 5 := by omega
    exact parted_five g cap ks w hg hn hcap hrow hks hne

/-- A row that Concat has made out of trees, parted. -/
theorem parted_trees {ok : Nat → Prop} (w w0 W : World) (v : Value) (kt : KT) (d m : Nat) (hok : ∀ b, ok b → b < w.heap.size) (hm : kt.length = m + 1) (hm2 : m + 1 ≤ 5) (h0 : Below w.heap.size w w0) (hW : Below w0.heap.size w0 W) (hown : W.ownsRow w0.heap.size 87 1 v (ptrs (kt.map Prod.fst)).length (ptrs (kt.map Prod.fst)))
    (hT : ∀ k ∈ kt, IsT (okN ok w.heap.size w0.heap.size) w0 d k.1.1 k.2 k.1.2) (hv : ∀ k ∈ kt, ∀ u ∈ k.2, validF u.f = true) :
    ∃ g c, v = .slice (some ⟨g, 0, none⟩) (m + 1) c ∧ Calls Tryz.prog 87 #[.slice (some ⟨g, 0, none⟩) (m + 1) c] W (WithPost ok (d + 1) (kt.map Prod.snd).flatten w) := by
  obtain ⟨g, c, rfl, h1, h2, h3, h4⟩ := row_of_own (ks := kt.map Prod.fst) (by rw [List.length_map]; exact hm) hown
  have hz0 := h0.size
  have hzW := hW.size
  have hlt : ∀ b, okN ok w.heap.size w0.heap.size b → b < w0.heap.size := fun b hb => hb.elim (fun h => Nat.lt_of_lt_of_le (hok b h) hz0) (fun h => h.2)
  refine ⟨g, c, rfl, (parted_any g (m + 1) c (kt.map Prod.fst) W h3 (by rw [List.length_map]; exact hm.symm) (by omega) hm2 h1 h4 ?_ ?_).mono fun e w' hP => from_parted (by omega) h3 (h0.trans (hW.mono hz0)) ?_ hP⟩
  · intro k hk
    obtain ⟨x, hx, rfl⟩ := List.mem_map.1 hk
    have := hlt _ (hT x hx).lt
    exact ⟨by omega, (hT x hx).c4.below hW this⟩
  · intro k hk
    obtain ⟨x, hx, rfl⟩ := List.mem_map.1 hk
    have := hlt _ (hT x hx).lt
    exact ⟨by omega, (hT x hx).bxw (hv x hx)⟩
  · intro k hk
    exact ((hT k hk).same (Same.of_below hW hlt)).mono (fun b hb => ⟨hb.elim .inl (fun h => .inr ⟨h.1, by omega⟩), by have := hlt b hb; omega⟩)

set_option maxRecDepth 100000 in
set_option maxHeartbeats 2000000 in
/-- with, over leaves. -/
theorem with_leaf (ok : Nat → Prop) (q ql : Nat) (fs : List FV) (x : Bx) (v : FV) (w : World) (hT : IsT ok w 1 q fs x) (hok : ∀ b, ok b → b < w.heap.size) (hl : IsT ok w 0 ql [v] (boxZ v.f.ps)) (hval : ∀ u ∈ fs, validF u.f = true) (hv : validF v.f = true) :
    Calls Tryz.prog 55 #[.pointer (some ⟨q, 0, none⟩), .pointer (some ⟨ql, 0, none⟩)] w (WithPost ok 1 (fs ++ [v]) w) := by
  obtain ⟨hq, hc, kb, ko, cap, ks, ts, h4, hne, hle, hcap, hkO, hlen, hkt, hf, hx⟩ := hT
  obtain ⟨n, hn⟩ : ∃ n, n = ks.length := ⟨_, rfl⟩
  have hn1 : 1 ≤ n := by
    rw [hn]; exact List.length_pos_iff.2 hne
  rw [← hn] at h4 hle hcap hlen
  have hqs := hok _ hq
  have hkb := hok _ hkO.1
  have hkcell := fun (i : Nat) p y (e : ks[i]? = some (p, y)) => (hkO.2 i p y e).1
  obtain ⟨⟨q0, x0⟩, he0⟩ : ∃ k, ks[0]? = some k := ⟨ks[0]'(by omega), List.getElem?_eq_getElem _⟩
  obtain ⟨t0, ht0⟩ : ∃ t, ts[0]? = some t := ⟨ts[0]'(by omega), List.getElem?_eq_getElem _⟩
  obtain ⟨v0, _, _, hL0⟩ := hkt 0 q0 x0 t0 he0 ht0
  have hp0 : w.cell? ⟨kb, ko, none⟩ = some (.pointer (some ⟨q0, 0, none⟩)) := hkcell 0 q0 x0 he0
  have hq0 := hok _ hL0.lt
  have hnil := hL0.kids
  have hql := hok _ hl.lt
  have HK : Hid (∀ (i : Nat) p y, ks[i]? = some (p, y) → w.cell? ⟨kb, ko + i, none⟩ = some (.pointer (some ⟨p, 0, none⟩))) := hkcell
  have Hn : Hid (n = ks.length) := hn
  -- the trees
  obtain ⟨kt, hktd⟩ : ∃ kt : KT, kt = List.zip ks ts ++ [((ql, boxZ v.f.ps), [v])] := ⟨_, rfl⟩
  have e1 : kt.map Prod.fst = ks ++ [(ql, boxZ v.f.ps)] := by rw [hktd, List.map_append, List.map_fst_zip (by omega)]; rfl
  have e2 : (kt.map Prod.snd).flatten = fs ++ [v] := by rw [hktd, List.map_append, List.map_snd_zip (by omega), List.flatten_append, ← hf]; simp
  have hmem : ∀ k ∈ kt, IsT ok w 0 k.1.1 k.2 k.1.2 ∧ ∀ u ∈ k.2, validF u.f = true := by
    intro k hk
    rw [hktd, List.mem_append] at hk
    rcases hk with hk | hk
    · obtain ⟨i, hi, rfl⟩ := List.mem_iff_getElem.1 hk
      have hi' : i < ks.length ∧ i < ts.length := by simpa [List.length_zip, Nat.lt_min] using hi
      rw [List.getElem_zip]
      refine ⟨hkt i _ _ _ (List.getElem?_eq_getElem hi'.1) (List.getElem?_eq_getElem hi'.2), fun u hu => hval u ?_⟩
      rw [hf]; exact List.mem_flatten.2 ⟨_, List.getElem_mem hi'.2, hu⟩
    · simp at hk
      subst hk
      exact ⟨hl, fun u hu => by simp at hu; subst hu; exact hv⟩
  have hkl : kt.length = n + 1 := by
    have := congrArg List.length e1
    rw [List.length_map, List.length_append, ← hn] at this
    exact this
  have HP : Hid (∀ (w0 W : World) (vv : Value), Below w.heap.size w w0 → Below w0.heap.size w0 W → W.ownsRow w0.heap.size 87 1 vv (ptrs (ks ++ [(ql, boxZ v.f.ps)])).length (ptrs (ks ++ [(ql, boxZ v.f.ps)])) → ∃ g c, vv = .slice (some ⟨g, 0, none⟩) (n + 1) c ∧ Calls Tryz.prog 87 #[.slice (some ⟨g, 0, none⟩) (n + 1) c] W (WithPost ok 1 (fs ++ [v]) w)) := fun w0 W vv h0 hW hown => by
    rw [← e1] at hown
    rw [← e2]
    exact parted_trees w w0 W vv kt 0 n hok hkl (by omega) h0 hW hown (fun k hk => ((hmem k hk).1.same (Same.of_below h0 hok)).mono (fun b hb => .inl hb)) (fun k hk => (hmem k hk).2)
  clear hmem e1 e2 hktd hkl hkt hkO he0 ht0 hL0 hl hval hv hkcell hn hf hx hc hne hlen
  have hnn := eql_nil
  have h0n : (0 : Int) < (n : Int) := by omega
  go_enter Tryz.func55, Tryz.ntmps55
  go_wp2_with fail
  have hcat : catTo [⟨kb, ko, cap, ptrs ks⟩, ⟨w.heap.size, 0, 1, [.pointer (some ⟨ql, 0, none⟩)]⟩] 2 = ptrs (ks ++ [(ql, boxZ v.f.ps)]) := by simp [catTo, ptrs]
  have hlen : (ptrs (ks ++ [(ql, boxZ v.f.ps)])).length = n + 1 := by simp [ptrs, ← Hn.out]
  have hB0 : ∀ o1 o2 : Obj, Below w.heap.size w ((w.alloc o1).alloc o2) := fun o1 o2 => ((Below.refl _ _).alloc (Nat.le_refl _) _).alloc (by simp) _
  refine (Concat_any (w.heap.size + 1) 0 2 2 [⟨kb, ko, cap, ptrs ks⟩, ⟨w.heap.size, 0, 1, [.pointer (some ⟨ql, 0, none⟩)]⟩] _ (parts2 (by simp) (by simp [go_sem, ← Hn.out]) (by simp [go_sem]) (by simp; omega) (by simp; omega) (fun i q x e => ((hB0 _ _).cell (p := ⟨kb, ko + i, none⟩) hkb).trans (HK.out i q x e)) (by simp [go_sem])) rfl (by omega) (by show 1 ≤ (catTo _ 2).length; rw [hcat, hlen]; omega) (by show (catTo _ 2).length ≤ 1000; rw [hcat, hlen]; omega) (by show ∀ u ∈ catTo _ 2, _; rw [hcat]; exact oneCell_ptrs _)).mono ?_
  rintro e w1 ⟨vv, rfl, hown, hb1⟩
  replace hown : w1.ownsRow _ 87 1 vv (catTo [⟨kb, ko, cap, ptrs ks⟩, ⟨w.heap.size, 0, 1, [.pointer (some ⟨ql, 0, none⟩)]⟩] 2).length (catTo [⟨kb, ko, cap, ptrs ks⟩, ⟨w.heap.size, 0, 1, [.pointer (some ⟨ql, 0, none⟩)]⟩] 2) := hown
  rw [hcat] at hown
  obtain ⟨g, c, rfl, hcall⟩ := HP.out _ w1 vv (hB0 _ _) hb1 hown
  have HC : Hid _ := hcall
  clear hcall hown HP hcat hlen
  go_wp2_with (go_at_call 87; refine Calls.mono HC.out ?_; intro e w2 hpost; obtain ⟨s, m, ps, tss, rfl, hrest⟩ := hpost)
  go_ret
  exact ⟨s, m, ps, tss, rfl, hrest⟩

end Go.Proofs.YtenaepdmlknlcaaGreatDoor
