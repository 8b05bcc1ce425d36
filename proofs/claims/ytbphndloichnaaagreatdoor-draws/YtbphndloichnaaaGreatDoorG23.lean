import Derived.Test.YtbphndloichnaaaGreatDoorG22
import Derived.Test.YtbphndloichnaaaGreatDoorG15
import Derived.Shelf.RegionOpen
namespace Go.Proofs.YtbphndloichnaaaGreatDoor
open Go.RowKit

/-- A row of nodes that may be written. -/
def RowAt (w : World) (g : Nat) (ks : Kids) : Prop := ∀ (i : Nat) k, ks[i]? = some k → w.cell? ⟨g, i, none⟩ = some (.pointer (some ⟨k.1, 0, none⟩)) ∧ w.frozen? ⟨g, i, none⟩ = false

theorem swap_perm {α : Type} : ∀ (l : List α) (j : Nat) (a b : α), l[j]? = some a → l[j + 1]? = some b → ((l.set (j + 1) a).set j b).Perm l
  | c :: d :: r, 0, a, b, h1, h2 => by
    simp at h1 h2
    subst h1 h2
    exact List.Perm.swap _ _ _
  | c :: r, j + 1, a, b, h1, h2 => by
    simp at h1 h2
    simpa using swap_perm r j a b h1 h2
  | [], _, _, _, h1, _ => by simp at h1
  | [c], 0, _, _, _, h2 => by simp at h2

abbrev swapW (W : World) (g j j' p q : Nat) : World := (W.setCell ⟨g, j, none⟩ (.pointer (some ⟨q, 0, none⟩))).setCell ⟨g, j', none⟩ (.pointer (some ⟨p, 0, none⟩))
theorem row_swap {W : World} {g j j' p q : Nat} {x y : Bx} {ks : Kids} (h : RowAt W g ks) (hp : ks[j]? = some (p, x)) (hq : ks[j']? = some (q, y)) (hj : j' + 1 = j) :
    RowAt (swapW W g j j' p q) g ((ks.set j (q, y)).set j' (p, x)) ∧ ((ks.set j (q, y)).set j' (p, x)).Perm ks := by
  refine ⟨fun i k hk => ?_, ?_⟩
  · have hjl : j < ks.length := (List.getElem?_eq_some_iff.1 hp).1
    have hjl' : j' < ks.length := (List.getElem?_eq_some_iff.1 hq).1
    rw [World.frozen?_setCell, World.frozen?_setCell]
    by_cases h1 : i = j'
    · subst h1
      rw [List.getElem?_set_self (by rw [List.length_set]; exact hjl')] at hk
      simp at hk
      subst hk
      refine ⟨World.cell?_setCell_same _ _ _ (u := .pointer (some ⟨q, 0, none⟩)) ?_, (h _ _ hq).2⟩
      rw [World.cell?_setCell_other _ _ _ _ (by intro e; injection e with _ e2 _; omega)]
      exact (h _ _ hq).1
    · rw [List.getElem?_set_ne (by omega)] at hk
      rw [World.cell?_setCell_other _ _ _ _ (by intro e; injection e with _ e2 _; omega)]
      by_cases h2 : i = j
      · subst h2
        rw [List.getElem?_set_self hjl] at hk
        simp at hk
        subst hk
        exact ⟨World.cell?_setCell_same _ _ _ (h _ _ hp).1, (h _ _ hp).2⟩
      · rw [List.getElem?_set_ne (by omega)] at hk
        rw [World.cell?_setCell_other _ _ _ _ (by intro e; injection e with _ e2 _; omega)]
        exact h _ _ hk
  · subst hj
    exact swap_perm ks j' (q, y) (p, x) hq hp
theorem keep_swap (W : World) (g j j' p q : Nat) : KeepC g W (swapW W g j j' p q) :=
  ⟨((below_set1 g W g j (Nat.le_refl _) _).trans (below_set1 g _ g j' (Nat.le_refl _) _)).size, fun b o v hb e => by
    rw [World.cell?_setCell_far _ _ _ _ (fun h => hb h.symm), World.cell?_setCell_far _ _ _ _ (fun h => hb h.symm)]
    exact e⟩
theorem below_swap (W : World) (g j j' p q : Nat) : Below g W (swapW W g j j' p q) := (below_set1 g W g j (Nat.le_refl _) _).trans (below_set1 g _ g j' (Nat.le_refl _) _)

set_option maxRecDepth 100000 in
set_option maxHeartbeats 2000000 in
theorem insertion79 (g n cap : Nat) (ks : Kids) (w : World) (hn : n = ks.length) (hn2 : n ≤ 20) (hrow : RowAt w g ks) (hks : ∀ k ∈ ks, k.1 ≠ g ∧ C4 w k.1 k.2 ∧ BxW k.2) :
    Calls Tryz.prog 179 #[.slice (some ⟨g, 0, none⟩) n cap, .int .i64 0, .int .i64 n, .func (.func 154) #[] #[]] w fun e w' => e = .returned (.tuple #[]) ∧ ∃ ks' : Kids, ks'.Perm ks ∧ RowAt w' g ks' ∧ KeepC g w w' ∧ Below g w w' := by
  have Hks : Hid (∀ k ∈ ks, k.1 ≠ g ∧ C4 w k.1 k.2 ∧ BxW k.2) := hks
  have Hn : Hid (n = ks.length) := hn
  have HA : Hid (∀ (W : World) (p q : Nat) (x y : Bx), C4 W p x → C4 W q y → BxW x → BxW y → Calls Tryz.prog 154 #[.pointer (some ⟨p, 0, none⟩), .pointer (some ⟨q, 0, none⟩)] W fun e w' => e = .returned (.int .i64 (sideV true x y)) ∧ ∃ m, w' = W.drewN m) := fun W p q x y hp hq hx hy => along1_any p q x y W hp hq hx hy
  go_enter Tryz.func179, Tryz.ntmps179
  go_wp2
  go_loopw [8] (fun iv wr => ∃ (i : Nat) (ks' : Kids), 1 ≤ i ∧ i ≤ n + 1 ∧ iv = .int .i64 (i : Int) ∧ Hid (ks'.Perm ks ∧ RowAt wr g ks' ∧ KeepC g w wr ∧ Below g w wr)) (fun iv _ => n + 1 - (intOf iv).toNat)
  case atStart => exact ⟨1, ks, by omega, by omega, rfl, List.Perm.refl _, hrow, KeepC.refl _ _, Below.refl _ _⟩
  case round =>
    clear hrow hks hn
    obtain ⟨i, ks', hi1, hi2, rfl, HI⟩ := hrel
    by_cases hlt : i < n
    · go_wp2
      go_loopw [9] (fun jv wq => ∃ (j : Nat) (ks'' : Kids), j ≤ i ∧ jv = .int .i64 (j : Int) ∧ Hid (ks''.Perm ks ∧ RowAt wq g ks'' ∧ KeepC g w wq ∧ Below g w wq)) (fun jv _ => (intOf jv).toNat)
      case atStart => exact ⟨i, ks', by omega, rfl, HI.out⟩
      case round =>
        obtain ⟨j, ks2, hj, rfl, HJ⟩ := hrel
        by_cases hj0 : 0 < j
        · have hlen : ks2.length = n := by rw [HJ.out.1.length_eq, Hn.out]
          obtain ⟨⟨p, x⟩, hp⟩ : ∃ k, ks2[j]? = some k := ⟨ks2[j]'(by omega), List.getElem?_eq_getElem _⟩
          obtain ⟨⟨q, y⟩, hq⟩ : ∃ k, ks2[j - 1]? = some k := ⟨ks2[j - 1]'(by omega), List.getElem?_eq_getElem _⟩
          obtain ⟨r1, f1⟩ := HJ.out.2.1 j _ hp
          obtain ⟨r2, f2⟩ := HJ.out.2.1 (j - 1) _ hq
          obtain ⟨hpg, hpc, hpw⟩ := Hks.out _ (HJ.out.1.mem_iff.1 (List.mem_of_getElem? hp))
          obtain ⟨hqg, hqc, hqw⟩ := Hks.out _ (HJ.out.1.mem_iff.1 (List.mem_of_getElem? hq))
          dsimp only at *
          have hpc2 := HJ.out.2.2.1.q4 hpg hpc
          have hqc2 := HJ.out.2.2.1.q4 hqg hqc
          have HP : Hid (ks2[j]? = some (p, x) ∧ ks2[j - 1]? = some (q, y)) := ⟨hp, hq⟩
          have HC : Hid (∀ m, Calls Tryz.prog 154 #[.pointer (some ⟨p, 0, none⟩), .pointer (some ⟨q, 0, none⟩)] (wr.drewN m) fun e w' => e = .returned (.int .i64 (sideV true x y)) ∧ ∃ k, w' = (wr.drewN m).drewN k) := fun m => HA.out _ p q x y ⟨hpc2.c0, hpc2.c1, hpc2.c2, hpc2.c3⟩ ⟨hqc2.c0, hqc2.c1, hqc2.c2, hqc2.c3⟩ hpw hqw
          clear hp hq hpc hqc hpc2 hqc2 hpw hqw HA
          obtain ⟨s, hs⟩ : ∃ s, sideV true x y = s := ⟨_, rfl⟩
          rw [hs] at HC
          clear hs
          have hji : (j : Int) - 1 = ((j - 1 : Nat) : Int) := by omega
          have hjn : (j : Int) < (n : Int) := by omega
          have hjn' : ((j - 1 : Nat) : Int) < (n : Int) := by omega
          have hj0' : (0 : Int) < (j : Int) := by omega
          obtain ⟨j', hj'⟩ : ∃ j', j - 1 = j' := ⟨_, rfl⟩
          rw [hj'] at hji hjn' r2 f2 HP
          by_cases hs0 : s < 0
          · go_wp2
            go_quiet (first | (go_at_call 154; refine Calls.quiet_of (HC.out _)))
            go_wp2
            go_region
            go_wp2
            go_roundw
            case rel =>
              obtain ⟨hR, hP⟩ := row_swap (W := wr.drewN (nq + 1)) HJ.out.2.1 HP.out.1 HP.out.2 (by omega)
              exact ⟨j', _, by omega, by first | rfl | go_num, hP.trans HJ.out.1, hR, HJ.out.2.2.1.trans ((show KeepC g wr (wr.drewN (nq + 1)) from ⟨Nat.le_refl _, fun _ _ _ _ h => h⟩).trans (keep_swap _ g j j' p q)), (below_drewN HJ.out.2.2.2 _).trans (below_swap _ g j j' p q)⟩
            case measure => simp [intOf]; omega
          · have hs1 : decide (s < 0) = false := decide_eq_false hs0
            go_wp2
            go_quiet (first | (go_at_call 154; refine Calls.quiet_of (HC.out _)))
            go_wp2
            go_roundw
            case rel => exact ⟨i + 1, ks2, by omega, by omega, by go_num, HJ.out.1, HJ.out.2.1, HJ.out.2.2.1, below_drewN HJ.out.2.2.2 _⟩
            case measure => simp [intOf]; omega
        · go_wp2
          go_quiet (fail)
          go_wp2
          go_roundw
          case rel => exact ⟨i + 1, ks2, by omega, by omega, by go_num, HJ.out.1, HJ.out.2.1, HJ.out.2.2.1, below_drewN HJ.out.2.2.2 _⟩
          case measure => simp [intOf]; omega
    · go_wp2
      go_end0
      exact ⟨rfl, ks', HI.out⟩

set_option maxRecDepth 100000 in
set_option maxHeartbeats 2000000 in
theorem insertion81 (g n cap : Nat) (ks : Kids) (w : World) (hn : n = ks.length) (hn2 : n ≤ 20) (hrow : RowAt w g ks) (hks : ∀ k ∈ ks, k.1 ≠ g ∧ C4 w k.1 k.2 ∧ BxW k.2) :
    Calls Tryz.prog 179 #[.slice (some ⟨g, 0, none⟩) n cap, .int .i64 0, .int .i64 n, .func (.func 156) #[] #[]] w fun e w' => e = .returned (.tuple #[]) ∧ ∃ ks' : Kids, ks'.Perm ks ∧ RowAt w' g ks' ∧ KeepC g w w' ∧ Below g w w' := by
  have Hks : Hid (∀ k ∈ ks, k.1 ≠ g ∧ C4 w k.1 k.2 ∧ BxW k.2) := hks
  have Hn : Hid (n = ks.length) := hn
  have HA : Hid (∀ (W : World) (p q : Nat) (x y : Bx), C4 W p x → C4 W q y → BxW x → BxW y → Calls Tryz.prog 156 #[.pointer (some ⟨p, 0, none⟩), .pointer (some ⟨q, 0, none⟩)] W fun e w' => e = .returned (.int .i64 (sideV false x y)) ∧ ∃ m, w' = W.drewN m) := fun W p q x y hp hq hx hy => along2_any p q x y W hp hq hx hy
  go_enter Tryz.func179, Tryz.ntmps179
  go_wp2
  go_loopw [8] (fun iv wr => ∃ (i : Nat) (ks' : Kids), 1 ≤ i ∧ i ≤ n + 1 ∧ iv = .int .i64 (i : Int) ∧ Hid (ks'.Perm ks ∧ RowAt wr g ks' ∧ KeepC g w wr ∧ Below g w wr)) (fun iv _ => n + 1 - (intOf iv).toNat)
  case atStart => exact ⟨1, ks, by omega, by omega, rfl, List.Perm.refl _, hrow, KeepC.refl _ _, Below.refl _ _⟩
  case round =>
    clear hrow hks hn
    obtain ⟨i, ks', hi1, hi2, rfl, HI⟩ := hrel
    by_cases hlt : i < n
    · go_wp2
      go_loopw [9] (fun jv wq => ∃ (j : Nat) (ks'' : Kids), j ≤ i ∧ jv = .int .i64 (j : Int) ∧ Hid (ks''.Perm ks ∧ RowAt wq g ks'' ∧ KeepC g w wq ∧ Below g w wq)) (fun jv _ => (intOf jv).toNat)
      case atStart => exact ⟨i, ks', by omega, rfl, HI.out⟩
      case round =>
        obtain ⟨j, ks2, hj, rfl, HJ⟩ := hrel
        by_cases hj0 : 0 < j
        · have hlen : ks2.length = n := by rw [HJ.out.1.length_eq, Hn.out]
          obtain ⟨⟨p, x⟩, hp⟩ : ∃ k, ks2[j]? = some k := ⟨ks2[j]'(by omega), List.getElem?_eq_getElem _⟩
          obtain ⟨⟨q, y⟩, hq⟩ : ∃ k, ks2[j - 1]? = some k := ⟨ks2[j - 1]'(by omega), List.getElem?_eq_getElem _⟩
          obtain ⟨r1, f1⟩ := HJ.out.2.1 j _ hp
          obtain ⟨r2, f2⟩ := HJ.out.2.1 (j - 1) _ hq
          obtain ⟨hpg, hpc, hpw⟩ := Hks.out _ (HJ.out.1.mem_iff.1 (List.mem_of_getElem? hp))
          obtain ⟨hqg, hqc, hqw⟩ := Hks.out _ (HJ.out.1.mem_iff.1 (List.mem_of_getElem? hq))
          dsimp only at *
          have hpc2 := HJ.out.2.2.1.q4 hpg hpc
          have hqc2 := HJ.out.2.2.1.q4 hqg hqc
          have HP : Hid (ks2[j]? = some (p, x) ∧ ks2[j - 1]? = some (q, y)) := ⟨hp, hq⟩
          have HC : Hid (∀ m, Calls Tryz.prog 156 #[.pointer (some ⟨p, 0, none⟩), .pointer (some ⟨q, 0, none⟩)] (wr.drewN m) fun e w' => e = .returned (.int .i64 (sideV false x y)) ∧ ∃ k, w' = (wr.drewN m).drewN k) := fun m => HA.out _ p q x y ⟨hpc2.c0, hpc2.c1, hpc2.c2, hpc2.c3⟩ ⟨hqc2.c0, hqc2.c1, hqc2.c2, hqc2.c3⟩ hpw hqw
          clear hp hq hpc hqc hpc2 hqc2 hpw hqw HA
          obtain ⟨s, hs⟩ : ∃ s, sideV false x y = s := ⟨_, rfl⟩
          rw [hs] at HC
          clear hs
          have hji : (j : Int) - 1 = ((j - 1 : Nat) : Int) := by omega
          have hjn : (j : Int) < (n : Int) := by omega
          have hjn' : ((j - 1 : Nat) : Int) < (n : Int) := by omega
          have hj0' : (0 : Int) < (j : Int) := by omega
          obtain ⟨j', hj'⟩ : ∃ j', j - 1 = j' := ⟨_, rfl⟩
          rw [hj'] at hji hjn' r2 f2 HP
          by_cases hs0 : s < 0
          · go_wp2
            go_quiet (first | (go_at_call 156; refine Calls.quiet_of (HC.out _)))
            go_wp2
            go_region
            go_wp2
            go_roundw
            case rel =>
              obtain ⟨hR, hP⟩ := row_swap (W := wr.drewN (nq + 1)) HJ.out.2.1 HP.out.1 HP.out.2 (by omega)
              exact ⟨j', _, by omega, by first | rfl | go_num, hP.trans HJ.out.1, hR, HJ.out.2.2.1.trans ((show KeepC g wr (wr.drewN (nq + 1)) from ⟨Nat.le_refl _, fun _ _ _ _ h => h⟩).trans (keep_swap _ g j j' p q)), (below_drewN HJ.out.2.2.2 _).trans (below_swap _ g j j' p q)⟩
            case measure => simp [intOf]; omega
          · have hs1 : decide (s < 0) = false := decide_eq_false hs0
            go_wp2
            go_quiet (first | (go_at_call 156; refine Calls.quiet_of (HC.out _)))
            go_wp2
            go_roundw
            case rel => exact ⟨i + 1, ks2, by omega, by omega, by go_num, HJ.out.1, HJ.out.2.1, HJ.out.2.2.1, below_drewN HJ.out.2.2.2 _⟩
            case measure => simp [intOf]; omega
        · go_wp2
          go_quiet (fail)
          go_wp2
          go_roundw
          case rel => exact ⟨i + 1, ks2, by omega, by omega, by go_num, HJ.out.1, HJ.out.2.1, HJ.out.2.2.1, below_drewN HJ.out.2.2.2 _⟩
          case measure => simp [intOf]; omega
    · go_wp2
      go_end0
      exact ⟨rfl, ks', HI.out⟩

end Go.Proofs.YtbphndloichnaaaGreatDoor
namespace Go.Proofs.YtbphndloichnaaaGreatDoor
open Go.RowKit

theorem eql_some_any (w : World) (a : Addr) (n c : Nat) : Sem.run Tryz.prog (binOp BinOp.eql 143 (Value.slice (some a) n c) (Value.slice none 0 0)) w = .ok (.bool false) w := eql_some w a n c

set_option maxRecDepth 100000 in
set_option maxHeartbeats 1000000 in
theorem Clone_any (g o m cap : Nat) (c : Kids) (w : World) (hm : m = c.length) (hm1 : 1 ≤ m) (hm2 : m ≤ 100) (hc : ∀ (j : Nat) k, c[j]? = some k → w.cell? ⟨g, o + j, none⟩ = some (.pointer (some ⟨k.1, 0, none⟩))) (hg : g < w.heap.size) :
    Calls Tryz.prog 122 #[.slice (some ⟨g, o, none⟩) m cap] w fun e w' => ∃ v : Value, e = .returned v ∧ w'.ownsRow w.heap.size 87 1 v m (ptrs c) ∧ Below w.heap.size w w' := by
  have hnn := eql_some_any
  obtain ⟨i0, hi, hz0, hz1, hz2⟩ := info_parts info39
  have Hc : Hid (∀ (j : Nat) k, c[j]? = some k → w.cell? ⟨g, o + j, none⟩ = some (.pointer (some ⟨k.1, 0, none⟩))) := hc
  have Hm : Hid (m = c.length) := hm
  clear hm hc
  go_enter Tryz.func122, Tryz.ntmps122
  have HI : Hid (Tryz.prog.info? 87 = some i0 ∧ i0.zero = some (.pointer none) ∧ i0.size = 1 ∧ i0.bytes = 8) := ⟨hi, hz0, hz1, hz2⟩
  have hB : ∀ o1 : Obj, Below w.heap.size w (w.alloc o1) := fun o1 => (Below.refl _ _).alloc (Nat.le_refl _) _
  have HO : Hid ((w.alloc (.cells #[] 87)).ownsRow w.heap.size 87 1 (.slice (some ⟨w.heap.size, 0, none⟩) 0 0) 0 []) := World.ownsRow_lit w #[] 0 (Nat.le_refl _) (by decide) rfl
  have HC : Hid (∀ j u, (ptrs c)[j]? = some u → (w.alloc (.cells #[] 87)).cell? ((⟨g, o, none⟩ : Addr).add j) = some u) := fun j u h => by
    obtain ⟨q, x, hq, rfl⟩ := ptrs_at h
    rw [addr_add]
    exact ((hB _).cell (p := ⟨g, o + j, none⟩) hg).trans (Hc.out j _ hq)
  have HL : Hid ((ptrs c).length = m * 1) := by show (ptrs c).length = m * 1; rw [ptrs, List.length_map, ← Hm.out, Nat.mul_one]
  clear hi hz0 hz1 hz2
  go_wp2_with (at_builtin; refine wpList_append_own _ rfl _ _ 143 rfl w.heap.size 87 i0 (.pointer none) 1 8 Tryz.underlying143 HI.out.1 HI.out.2.1 HI.out.2.2.1 HI.out.2.2.2 rfl (by decide) _ _ _ rfl HO.out ⟨g, o, none⟩ m cap (ptrs c) rfl HL.out HC.out (oneCell_ptrs c) (by unfold maxLen; omega) (by omega) (by simp) ?_; intro v' w2 hown' hgrow _; have Hown' : Hid (w2.ownsRow w.heap.size 87 1 v' (0 + m) ([] ++ ptrs c)) := hown'; clear hown')
  go_ret
  refine ⟨v', rfl, ?_, (hB _).grown hgrow (by simp) (fun k hk => (HO.out.lt k hk).1)⟩
  have := Hown'.out
  rwa [Nat.zero_add, List.nil_append] at this

set_option maxRecDepth 100000 in
set_option maxHeartbeats 1000000 in
theorem stable_any (d : Bool) (g n cap : Nat) (ks : Kids) (w : World) (hn : n = ks.length) (hn2 : n ≤ 19) (hrow : RowAt w g ks) (hks : ∀ k ∈ ks, k.1 ≠ g ∧ C4 w k.1 k.2 ∧ BxW k.2) :
    Calls Tryz.prog 120 #[.slice (some ⟨g, 0, none⟩) n cap, alongV d] w fun e w' => e = .returned (.tuple #[]) ∧ ∃ ks' : Kids, ks'.Perm ks ∧ RowAt w' g ks' ∧ KeepC g w w' ∧ Below g w w' := by
  have HI : Hid (Calls Tryz.prog 179 #[.slice (some ⟨g, 0, none⟩) n cap, .int .i64 0, .int .i64 n, alongV d] w fun e w' => e = .returned (.tuple #[]) ∧ ∃ ks' : Kids, ks'.Perm ks ∧ RowAt w' g ks' ∧ KeepC g w w' ∧ Below g w w') := by
    cases d
    · exact insertion81 g n cap ks w hn (by omega) hrow hks
    · exact insertion79 g n cap ks w hn (by omega) hrow hks
  clear hn hrow hks
  have hS : Calls Tryz.prog 153 #[.slice (some ⟨g, 0, none⟩) n cap, .int .i64 n, alongV d] w fun e w' => e = .returned (.tuple #[]) ∧ ∃ ks' : Kids, ks'.Perm ks ∧ RowAt w' g ks' ∧ KeepC g w w' ∧ Below g w w' := by
    obtain ⟨dv, hdv⟩ : ∃ dv, alongV d = dv := ⟨_, rfl⟩
    rw [hdv] at HI ⊢
    clear hdv
    go_enter Tryz.func153, Tryz.ntmps153
    go_wp2
    go_loopw [7, 8] (fun av bv wr => av = .int .i64 0 ∧ bv = .int .i64 20 ∧ wr = w) (fun _ _ _ => 0)
    case atStart => exact ⟨rfl, rfl, rfl⟩
    case round =>
      obtain ⟨rfl, rfl, rfl⟩ := hrel
      go_wp2_with (go_at_call 179; refine Calls.mono HI.out ?_; rintro e w2 ⟨rfl, hp⟩)
      have HP : Hid _ := hp
      clear hp
      go_loopw [6] (fun sv wr => sv = .int .i64 20 ∧ wr = w2) (fun _ _ => 0)
      case atStart => exact ⟨rfl, rfl⟩
      case round =>
        obtain ⟨rfl, rfl⟩ := hrel
        go_wp2
        go_end0
        exact ⟨rfl, HP.out⟩
  have HS : Hid _ := hS
  clear hS
  obtain ⟨dv, hdv⟩ : ∃ dv, alongV d = dv := ⟨_, rfl⟩
  rw [hdv] at HS ⊢
  clear hdv
  go_enter Tryz.func120, Tryz.ntmps120
  go_wp2_with (go_at_call 153; refine Calls.mono HS.out ?_; rintro e w2 ⟨rfl, hp⟩)
  go_end0
  exact ⟨rfl, hp⟩

end Go.Proofs.YtbphndloichnaaaGreatDoor
