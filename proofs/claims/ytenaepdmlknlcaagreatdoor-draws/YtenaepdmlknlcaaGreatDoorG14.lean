import Derived.Test.YtenaepdmlknlcaaGreatDoorG13
import Derived.Test.YtenaepdmlknlcaaGreatDoorG09
import Derived.Shelf.RegionOpen
namespace Go.Proofs.YtenaepdmlknlcaaGreatDoor
open Go.RowKit

/-- A row of nodes that may be written. -/
def RowAt (w : World) (g : Nat) (ks : Kids) : Prop := ∀ (i : Nat) k, ks[i]? = some k → w.cell? ⟨g, i, none⟩ = some (.pointer (some ⟨k.1, 0, none⟩)) ∧ w.frozen? ⟨g, i, none⟩ = false

theorem swap_perm {α : Type} : ∀ (l : List α) (j : Nat) (a b : α), l[j]? = some a → l[j + 1]? = some b → ((l.set (j + 1) a).set j b).Perm l
  | c :: d :: r, 0, a, b, h1, h2 => by
    simp at h1 h2
    subst h1 h2
    exact List.Perm.swap _ _ _
  | c :: r, j + 1, a, b, h1, h2 => by
    simp at h1 h2
    simpa using swap_perm r j a b h1 h2
  | [], _, _, _, h1, _ => by simp at h1
  | [c], 0, _, _, _, h2 => by simp at h2

abbrev swapW (W : World) (g j j' p q : Nat) : World := (W.setCell ⟨g, j, none⟩ (.pointer (some ⟨q, 0, none⟩))).setCell ⟨g, j', none⟩ (.pointer (some ⟨p, 0, none⟩))
theorem row_swap {W : World} {g j j' p q : Nat} {x y : Bx} {ks : Kids} (h : RowAt W g ks) (hp : ks[j]? = some (p, x)) (hq : ks[j']? = some (q, y)) (hj : j' + 1 = j) :
    RowAt (swapW W g j j' p q) g ((ks.set j (q, y)).set j' (p, x)) ∧ ((ks.set j (q, y)).set j' (p, x)).Perm ks := by
  refine ⟨fun i k hk => ?_, ?_⟩
  · have hjl : j < ks.length := (List.getElem?_eq_some_iff.1 hp).1
    have hjl' : j' < ks.length := (List.getElem?_eq_some_iff.1 hq).1
    rw [World.frozen?_setCell, World.frozen?_setCell]
    by_cases h1 : i = j'
    · subst h1
      rw [List.getElem?_set_self (by rw [List.length_set]; exact hjl')] at hk
      simp at hk
      subst hk
      refine ⟨World.cell?_setCell_same _ _ _ (u := .pointer (some ⟨q, 0, none⟩)) ?_, (h _ _ hq).2⟩
      rw [World.cell?_setCell_other _ _ _ _ (by intro e; injection e with _ e2 _; omega)]
      exact (h _ _ hq).1
    · rw [List.getElem?_set_ne (by omega)] at hk
      rw [World.cell?_setCell_other _ _ _ _ (by intro e; injection e with _ e2 _; omega)]
      by_cases h2 : i = j
      · subst h2
        rw [List.getElem?_set_self hjl] at hk
        simp at hk
        subst hk
        exact ⟨World.cell?_setCell_same _ _ _ (h _ _ hp).1, (h _ _ hp).2⟩
      · rw [List.getElem?_set_ne (by omega)] at hk
        rw [World.cell?_setCell_other _ _ _ _ (by intro e; injection e with _ e2 _; omega)]
        exact h _ _ hk
  · subst hj
    exact swap_perm ks j' (q, y) (p, x) hq hp
theorem keep_swap (W : World) (g j j' p q : Nat) : KeepC g W (swapW W g j j' p q) :=
  ⟨((below_set1 g W g j (Nat.le_refl _) _).trans (below_set1 g _ g j' (Nat.le_refl _) _)).size, fun b o v hb e => by
    rw [World.cell?_setCell_far _ _ _ _ (fun h => hb h.symm), World.cell?_setCell_far _ _ _ _ (fun h => hb h.symm)]
    exact e⟩
theorem below_swap (W : World) (g j j' p q : Nat) : Below g W (swapW W g j j' p q) := (below_set1 g W g j (Nat.le_refl _) _).trans (below_set1 g _ g j' (Nat.le_refl _) _)

set_option maxRecDepth 100000 in
set_option maxHeartbeats 2000000 in
theorem insertion79 (g n cap : Nat) (ks : Kids) (w : World) (hn : n = ks.length) (hn2 : n ≤ 20) (hrow : RowAt w g ks) (hks : ∀ k ∈ ks, k.1 ≠ g ∧ C4 w k.1 k.2 ∧ BxW k.2) :
    Calls Tryz.prog 179 #[.slice (some ⟨g, 0, none⟩) n cap, .int .i64 0, .int .i64 n, .func (.func 154) #[] #[]] w fun e w' => e = .returned (.tuple #[]) ∧ ∃ ks' : Kids, ks'.Perm ks ∧ RowAt w' g ks' ∧ KeepC g w w' ∧ Below g w w' := by
  have Hks : Hid (∀ k ∈ ks, k.1 ≠ g ∧ C4 w k.1 k.2 ∧ BxW k.2) := hks
  have Hn : Hid (n = ks.length) := hn
  have HA : Hid (∀ (W : World) (p q : Nat) (x y : Bx), C4 W p x → C4 W q y → BxW x → BxW y → Calls Tryz.prog 154 #[.pointer (some ⟨p, 0, none⟩), .pointer (some ⟨q, 0, none⟩)] W fun e w' => e = .returned (.int .i64 (sideV true x y)) ∧ ∃ m, w' = W.drewN m) := fun W p q x y hp hq hx hy => along1_any p q x y W hp hq hx hy
  go_enter Tryz.func179, Tryz.ntmps179
  go_wp2
  go_loopw [8] (fun iv wr => ∃ (i : Nat) (ks' : Kids), 1 ≤ i ∧ i ≤ n + 1 ∧ iv = .int .i64 (i : Int) ∧ Hid (ks'.Perm ks ∧ RowAt wr g ks' ∧ KeepC g w wr ∧ Below g w wr)) (fun iv _ => n + 1 - (intOf iv).toNat)
  case atStart => exact ⟨1, ks, by omega, by omega, rfl, List.Perm.refl _, hrow, KeepC.refl _ _, Below.refl _ _⟩
  case round =>
    clear hrow hks hn
    obtain ⟨i, ks', hi1, hi2, rfl, HI⟩ := hrel
    by_cases hlt : i < n
    · go_wp2
      go_loopw [9] (fun jv wq => ∃ (j : Nat) (ks'' : Kids), j ≤ i ∧ jv = .int .i64 (j : Int) ∧ Hid (ks''.Perm ks ∧ RowAt wq g ks'' ∧ KeepC g w wq ∧ Below g w wq)) (fun jv _ => (intOf jv).toNat)
      case atStart => exact ⟨i, ks', by omega, rfl, HI.out⟩
      case round =>
        obtain ⟨j, ks2, hj, rfl, HJ⟩ := hrel
        by_cases hj0 : 0 < j
        · have hlen : ks2.length = n := by rw [HJ.out.1.length_eq, Hn.out]
          obtain ⟨⟨p, x⟩, hp⟩ : ∃ k, ks2[j]? = some k := ⟨ks2[j]'(by omega), List.getElem?_eq_getElem _⟩
          obtain ⟨⟨q, y⟩, hq⟩ : ∃ k, ks2[j - 1]? = some k := ⟨ks2[j - 1]'(by omega), List.getElem?_eq_getElem _⟩
          obtain ⟨r1, f1⟩ := HJ.out.2.1 j _ hp
          obtain ⟨r2, f2⟩ := HJ.out.2.1 (j - 1) _ hq
          obtain ⟨hpg, hpc, hpw⟩ := Hks.out _ (HJ.out.1.mem_iff.1 (List.mem_of_getElem? hp))
          obtain ⟨hqg, hqc, hqw⟩ := Hks.out _ (HJ.out.1.mem_iff.1 (List.mem_of_getElem? hq))
          dsimp only at *
          have hpc2 := HJ.out.2.2.1.q4 hpg hpc
          have hqc2 := HJ.out.2.2.1.q4 hqg hqc
          have HP : Hid (ks2[j]? = some (p, x) ∧ ks2[j - 1]? = some (q, y)) := ⟨hp, hq⟩
          have HC : Hid (∀ m, Calls Tryz.prog 154 #[.pointer (some ⟨p, 0, none⟩), .pointer (some ⟨q, 0, none⟩)] (wr.drewN m) fun e w' => e = .returned (.int .i64 (sideV true x y)) ∧ ∃ k, w' = (wr.drewN m).drewN k) := fun m => HA.out _ p q x y ⟨hpc2.c0, hpc2.c1, hpc2.c2, hpc2.c3⟩ ⟨hqc2.c0, hqc2.c1, hqc2.c2, hqc2.c3⟩ hpw hqw
          clear hp hq hpc hqc hpc2 hqc2 hpw hqw HA
          obtain ⟨s, hs⟩ : ∃ s, sideV true x y = s := ⟨_, rfl⟩
          rw [hs] at HC
          clear hs
          have hji : (j : Int) - 1 = ((j - 1 : Nat) : Int) := by omega
          have hjn : (j : Int) < (n : Int) := by omega
          have hjn' : ((j - 1 : Nat) : Int) < (n : Int) := by omega
          have hj0' : (0 : Int) < (j : Int) := by omega
          obtain ⟨j', hj'⟩ : ∃ j', j - 1 = j' := ⟨_, rfl⟩
          rw [hj'] at hji hjn' r2 f2 HP
          by_cases hs0 : s < 0
          · go_wp2
            go_quiet (first | (go_at_call 154; refine Calls.quiet_of (HC.out _)))
            go_wp2
            go_region
            go_wp2
            go_roundw
            case rel =>
              obtain ⟨hR, hP⟩ := row_swap (W := wr.drewN (nq + 1)) HJ.out.2.1 HP.out.1 HP.out.2 (by omega)
              exact ⟨j', _, by omega, by first | rfl | go_num, hP.trans HJ.out.1, hR, HJ.out.2.2.1.trans ((show KeepC g wr (wr.drewN (nq + 1)) from ⟨Nat.le_refl _, fun _ _ _ _ h => h⟩).trans (keep_swap _ g j j' p q)), (below_drewN HJ.out.2.2.2 _).trans (below_swap _ g j j' p q)⟩
            case measure => simp [intOf]; omega
          · have hs1 : decide (s < 0) = false := decide_eq_false hs0
            go_wp2
            go_quiet (first | (go_at_call 154; refine Calls.quiet_of (HC.out _)))
            go_wp2
            go_roundw
            case rel => exact ⟨i + 1, ks2, by omega, by omega, by go_num, HJ.out.1, HJ.out.2.1, HJ.out.2.2.1, below_drewN HJ.out.2.2.2 _⟩
            case measure => simp [intOf]; omega
        · go_wp2
          go_quiet (fail)
          go_wp2
          go_roundw
          case rel => exact ⟨i + 1, ks2, by omega, by omega, by go_num, HJ.out.1, HJ.out.2.1, HJ.out.2.2.1, below_drewN HJ.out.2.2.2 _⟩
          case measure => simp [intOf]; omega
    · go_wp2
      go_end0
      exact ⟨rfl, ks', HI.out⟩

set_option maxRecDepth 100000 in
set_option maxHeartbeats 2000000 in
theorem insertion81 (g n cap : Nat) (ks : Kids) (w : World) (hn : n = ks.length) (hn2 : n ≤ 20) (hrow : RowAt w g ks) (hks : ∀ k ∈ ks, k.1 ≠ g ∧ C4 w k.1 k.2 ∧ BxW k.2) :
    Calls Tryz.prog 179 #[.slice (some ⟨g, 0, none⟩) n cap, .int .i64 0, .int .i64 n, .func (.func 156) #[] #[]] w fun e w' => e = .returned (.tuple #[]) ∧ ∃ ks' : Kids, ks'.Perm ks ∧ RowAt w' g ks' ∧ KeepC g w w' ∧ Below g w w' := by
  have Hks : Hid (∀ k ∈ ks, k.1 ≠ g ∧ C4 w k.1 k.2 ∧ BxW k.2) := hks
  have Hn : Hid (n = ks.length) := hn
  have HA : Hid (∀ (W : World) (p q : Nat) (x y : Bx), C4 W p x → C4 W q y → BxW x → BxW y → Calls Tryz.prog 156 #[.pointer (some ⟨p, 0, none⟩), .pointer (some ⟨q, 0, none⟩)] W fun e w' => e = .returned (.int .i64 (sideV false x y)) ∧ ∃ m, w' = W.drewN m) := fun W p q x y hp hq hx hy => along2_any p q x y W hp hq hx hy
  go_enter Tryz.func179, Tryz.ntmps179
  go_wp2
  go_loopw [8] (fun iv wr => ∃ (i : Nat) (ks' : Kids), 1 ≤ i ∧ i ≤ n + 1 ∧ iv = .int .i64 (i : Int) ∧ Hid (ks'.Perm ks ∧ RowAt wr g ks' ∧ KeepC g w wr ∧ Below g w wr)) (fun iv _ => n + 1 - (intOf iv).toNat)
  case atStart => exact ⟨1, ks, by omega, by omega, rfl, List.Perm.refl _, hrow, KeepC.refl _ _, Below.refl _ _⟩
  case round =>
    clear hrow hks hn
    obtain ⟨i, ks', hi1, hi2, rfl, HI⟩ := hrel
    by_cases hlt : i < n
    · go_wp2
      go_loopw [9] (fun jv wq => ∃ (j : Nat) (ks'' : Kids), j ≤ i ∧ jv = .int .i64 (j : Int) ∧ Hid (ks''.Perm ks ∧ RowAt wq g ks'' ∧ KeepC g w wq ∧ Below g w wq)) (fun jv _ => (intOf jv).toNat)
      case atStart => exact ⟨i, ks', by omega, rfl, HI.out⟩
      case round =>
        obtain ⟨j, ks2, hj, rfl, HJ⟩ := hrel
        by_cases hj0 : 0 < j
        · have hlen : ks2.length = n := by rw [HJ.out.1.length_eq, Hn.out]
          obtain ⟨⟨p, x⟩, hp⟩ : ∃ k, ks2[j]? = some k := ⟨ks2[j]'(by omega), List.getElem?_eq_getElem _⟩
          obtain ⟨⟨q, y⟩, hq⟩ : ∃ k, ks2[j - 1]? = some k := ⟨ks2[j - 1]'(by omega), List.getElem?_eq_getElem _⟩
          obtain ⟨r1, f1⟩ := HJ.out.2.1 j _ hp
          obtain ⟨r2, f2⟩ := HJ.out.2.1 (j - 1) _ hq
          obtain ⟨hpg, hpc, hpw⟩ := Hks.out _ (HJ.out.1.mem_iff.1 (List.mem_of_getElem? hp))
          obtain ⟨hqg, hqc, hqw⟩ := Hks.out _ (HJ.out.1.mem_iff.1 (List.mem_of_getElem? hq))
          dsimp only at *
          have hpc2 := HJ.out.2.2.1.q4 hpg hpc
          have hqc2 := HJ.out.2.2.1.q4 hqg hqc
          have HP : Hid (ks2[j]? = some (p, x) ∧ ks2[j - 1]? = some (q, y)) := ⟨hp, hq⟩
          have HC : Hid (∀ m, Calls Tryz.prog 156 #[.pointer (some ⟨p, 0, none⟩), .pointer (some ⟨q, 0, none⟩)] (wr.drewN m) fun e w' => e = .returned (.int .i64 (sideV false x y)) ∧ ∃ k, w' = (wr.drewN m).drewN k) := fun m => HA.out _ p q x y ⟨hpc2.c0, hpc2.c1, hpc2.c2, hpc2.c3⟩ ⟨hqc2.c0, hqc2.c1, hqc2.c2, hqc2.c3⟩ hpw hqw
          clear hp hq hpc hqc hpc2 hqc2 hpw hqw HA
          obtain ⟨s, hs⟩ : ∃ s, sideV false x y = s := ⟨_, rfl⟩
          rw [hs] at HC
          clear hs
          have hji : (j : Int) - 1 = ((j - 1 : Nat) : Int) := by omega
          have hjn : (j : Int) < (n : Int) := by omega
          have hjn' : ((j - 1 : Nat) : Int) < (n : Int) := by omega
          have hj0' : (0 : Int) < (j : Int) := by omega
          obtain ⟨j', hj'⟩ : ∃ j', j - 1 = j' := ⟨_, rfl⟩
          rw [hj'] at hji hjn' r2 f2 HP
          by_cases hs0 : s < 0
          · go_wp2
            go_quiet (first | (go_at_call 156; refine Calls.quiet_of (HC.out _)))
            go_wp2
            go_region
            go_wp2
            go_roundw
            case rel =>
              obtain ⟨hR, hP⟩ := row_swap (W := wr.drewN (nq + 1)) HJ.out.2.1 HP.out.1 HP.out.2 (by omega)
              exact ⟨j', _, by omega, by first | rfl | go_num, hP.trans HJ.out.1, hR, HJ.out.2.2.1.trans ((show KeepC g wr (wr.drewN (nq + 1)) from ⟨Nat.le_refl _, fun _ _ _ _ h => h⟩).trans (keep_swap _ g j j' p q)), (below_drewN HJ.out.2.2.2 _).trans (below_swap _ g j j' p q)⟩
            case measure => simp [intOf]; omega
          · have hs1 : decide (s < 0) = false := decide_eq_false hs0
            go_wp2
            go_quiet (first | (go_at_call 156; refine Calls.quiet_of (HC.out _)))
            go_wp2
            go_roundw
            case rel => exact ⟨i + 1, ks2, by omega, by omega, by go_num, HJ.out.1, HJ.out.2.1, HJ.out.2.2.1, below_drewN HJ.out.2.2.2 _⟩
            case measure => simp [intOf]; omega
        · go_wp2
          go_quiet (fail)
          go_wp2
          go_roundw
          case rel => exact ⟨i + 1, ks2, by omega, by omega, by go_num, HJ.out.1, HJ.out.2.1, HJ.out.2.2.1, below_drewN HJ.out.2.2.2 _⟩
          case measure => simp [intOf]; omega
    · go_wp2
      go_end0
      exact ⟨rfl, ks', HI.out⟩

end Go.Proofs.YtenaepdmlknlcaaGreatDoor

namespace Go.Proofs.YtenaepdmlknlcaaGreatDoor
open Go.RowKit

theorem eql_some_any (w : World) (a : Addr) (n c : Nat) : Sem.run Tryz.prog (binOp BinOp.eql 143 (Value.slice (some a) n c) (Value.slice none 0 0)) w = .ok (.bool false) w := eql_some w a n c

set_option maxRecDepth 100000 in
set_option maxHeartbeats 1000000 in
theorem Clone_any (g o m cap : Nat) (c : Kids) (w : World) (hm : m = c.length) (hm1 : 1 ≤ m) (hm2 : m ≤ 100) (hc : ∀ (j : Nat) k, c[j]? = some k → w.cell? ⟨g, o + j, none⟩ = some (.pointer (some ⟨k.1, 0, none⟩))) (hg : g < w.heap.size) :
    Calls Tryz.prog 122 #[.slice (some ⟨g, o, none⟩) m cap] w fun e w' => ∃ v : Value, e = .returned v ∧ w'.ownsRow w.heap.size 87 1 v m (ptrs c) ∧ Below w.heap.size w w' := by
  have hnn := eql_some_any
  obtain ⟨i0, hi, hz0, hz1, hz2⟩ := info_parts info39
  have Hc : Hid (∀ (j : Nat) k, c[j]? = some k → w.cell? ⟨g, o + j, none⟩ = some (.pointer (some ⟨k.1, 0, none⟩))) := hc
  have Hm : Hid (m = c.length) := hm
  clear hm hc
  go_enter Tryz.func122, Tryz.ntmps122
  have HI : Hid (Tryz.prog.info? 87 = some i0 ∧ i0.zero = some (.pointer none) ∧ i0.size = 1 ∧ i0.bytes = 8) := ⟨hi, hz0, hz1, hz2⟩
  have hB : ∀ o1 : Obj, Below w.heap.size w (w.alloc o1) := fun o1 => (Below.refl _ _).alloc (Nat.le_refl _) _
  have HO : Hid ((w.alloc (.cells #[] 87)).ownsRow w.heap.size 87 1 (.slice (some ⟨w.heap.size, 0, none⟩) 0 0) 0 []) := World.ownsRow_lit w #[] 0 (Nat.le_refl _) (by decide) rfl
  have HC : Hid (∀ j u, (ptrs c)[j]? = some u → (w.alloc (.cells #[] 87)).cell? ((⟨g, o, none⟩ : Addr).add j) = some u) := fun j u h => by
    obtain ⟨q, x, hq, rfl⟩ := ptrs_at h
    rw [addr_add]
    exact ((hB _).cell (p := ⟨g, o + j, none⟩) hg).trans (Hc.out j _ hq)
  have HL : Hid ((ptrs c).length = m * 1) := by show (ptrs c).length = m * 1; rw [ptrs, List.length_map, ← Hm.out, Nat.mul_one]
  clear hi hz0 hz1 hz2
  go_wp2_with (at_builtin; refine wpList_append_own _ rfl _ _ 143 rfl w.heap.size 87 i0 (.pointer none) 1 8 Tryz.underlying143 HI.out.1 HI.out.2.1 HI.out.2.2.1 HI.out.2.2.2 rfl (by decide) _ _ _ rfl HO.out ⟨g, o, none⟩ m cap (ptrs c) rfl HL.out HC.out (oneCell_ptrs c) (by unfold maxLen; omega) (by omega) (by simp) ?_; intro v' w2 hown' hgrow _; have Hown' : Hid (w2.ownsRow w.heap.size 87 1 v' (0 + m) ([] ++ ptrs c)) := hown'; clear hown')
  go_ret
  refine ⟨v', rfl, ?_, (hB _).grown hgrow (by simp) (fun k hk => (HO.out.lt k hk).1)⟩
  have := Hown'.out
  rwa [Nat.zero_add, List.nil_append] at this

set_option maxRecDepth 100000 in
set_option maxHeartbeats 1000000 in
theorem stable_any (d : Bool) (g n cap : Nat) (ks : Kids) (w : World) (hn : n = ks.length) (hn2 : n ≤ 19) (hrow : RowAt w g ks) (hks : ∀ k ∈ ks, k.1 ≠ g ∧ C4 w k.1 k.2 ∧ BxW k.2) :
    Calls Tryz.prog 120 #[.slice (some ⟨g, 0, none⟩) n cap, alongV d] w fun e w' => e = .returned (.tuple #[]) ∧ ∃ ks' : Kids, ks'.Perm ks ∧ RowAt w' g ks' ∧ KeepC g w w' ∧ Below g w w' := by
  have HI : Hid (Calls Tryz.prog 179 #[.slice (some ⟨g, 0, none⟩) n cap, .int .i64 0, .int .i64 n, alongV d] w fun e w' => e = .returned (.tuple #[]) ∧ ∃ ks' : Kids, ks'.Perm ks ∧ RowAt w' g ks' ∧ KeepC g w w' ∧ Below g w w') := by
    cases d
    · exact insertion81 g n cap ks w hn (by omega) hrow hks
    · exact insertion79 g n cap ks w hn (by omega) hrow hks
  clear hn hrow hks
  have hS : Calls Tryz.prog 153 #[.slice (some ⟨g, 0, none⟩) n cap, .int .i64 n, alongV d] w fun e w' => e = .returned (.tuple #[]) ∧ ∃ ks' : Kids, ks'.Perm ks ∧ RowAt w' g ks' ∧ KeepC g w w' ∧ Below g w w' := by
    obtain ⟨dv, hdv⟩ : ∃ dv, alongV d = dv := ⟨_, rfl⟩
    rw [hdv] at HI ⊢
    clear hdv
    go_enter Tryz.func153, Tryz.ntmps153
    go_wp2
    go_loopw [7, 8] (fun av bv wr => av = .int .i64 0 ∧ bv = .int .i64 20 ∧ wr = w) (fun _ _ _ => 0)
    case atStart => exact ⟨rfl, rfl, rfl⟩
    case round =>
      obtain ⟨rfl, rfl, rfl⟩ := hrel
      go_wp2_with (go_at_call 179; refine Calls.mono HI.out ?_; rintro e w2 ⟨rfl, hp⟩)
      have HP : Hid _ := hp
      clear hp
      go_loopw [6] (fun sv wr => sv = .int .i64 20 ∧ wr = w2) (fun _ _ => 0)
      case atStart => exact ⟨rfl, rfl⟩
      case round =>
        obtain ⟨rfl, rfl⟩ := hrel
        go_wp2
        go_end0
        exact ⟨rfl, HP.out⟩
  have HS : Hid _ := hS
  clear hS
  obtain ⟨dv, hdv⟩ : ∃ dv, alongV d = dv := ⟨_, rfl⟩
  rw [hdv] at HS ⊢
  clear hdv
  go_enter Tryz.func120, Tryz.ntmps120
  go_wp2_with (go_at_call 153; refine Calls.mono HS.out ?_; rintro e w2 ⟨rfl, hp⟩)
  go_end0
  exact ⟨rfl, hp⟩

end Go.Proofs.YtenaepdmlknlcaaGreatDoor

namespace Go.Proofs.YtenaepdmlknlcaaGreatDoor
open Go.RowKit

/-- A node over others, as parted makes it. -/
structure NodeAt (n0 g : Nat) (W : World) (p : Nat × Bx) (c : Kids) : Prop where
  new : n0 ≤ p.1
  lt : p.1 < W.heap.size
  box : C4 W p.1 p.2
  eq : p.2 = joinK c
  ne : c ≠ []
  few : c.length ≤ 4
  kids : ∃ kb cap, W.cell? ⟨p.1, 4, none⟩ = some (.slice (some ⟨kb, 0, none⟩) c.length cap) ∧ c.length ≤ cap ∧ (kb = g ∨ n0 ≤ kb) ∧ kb < W.heap.size ∧ ∀ (j : Nat) k, c[j]? = some k → W.cell? ⟨kb, j, none⟩ = some (.pointer (some ⟨k.1, 0, none⟩))
theorem NodeAt.below {n0 g : Nat} {A B : World} {p : Nat × Bx} {c : Kids} (h : NodeAt n0 g A p c) (hb : Below A.heap.size A B) : NodeAt n0 g B p c := by
  obtain ⟨h1, h2, h3, h4, h5, h6, kb, cap, k1, k2, k3, k4, k5⟩ := h
  obtain ⟨hc, _⟩ := bcell hb
  exact ⟨h1, Nat.lt_of_lt_of_le h2 hb.size, h3.below hb h2, h4, h5, h6, kb, cap, (hc _ _ h2).trans k1, k2, k3, Nat.lt_of_lt_of_le k4 hb.size, fun j k e => (hc _ _ k4).trans (k5 j k e)⟩

def PartedPost (g : Nat) (ks : Kids) (w : World) (e : Ending) (w' : World) : Prop :=
  ∃ (s m : Nat) (ps : Kids) (kss : List Kids), e = .returned (.slice (some ⟨s, 0, none⟩) m m) ∧ (m = 1 ∨ m = 2) ∧ ps.length = m ∧ kss.length = m ∧ kss.flatten.Perm ks ∧ w.heap.size ≤ s ∧ s < w'.heap.size ∧ (∀ (i : Nat) p, ps[i]? = some p → w'.cell? ⟨s, i, none⟩ = some (.pointer (some ⟨p.1, 0, none⟩))) ∧ (∀ (i : Nat) p c, ps[i]? = some p → kss[i]? = some c → NodeAt w.heap.size g w' p c) ∧ KeepC g w w' ∧ Below g w w'

theorem joinK_bxw {ks : Kids} (h : ∀ k ∈ ks, BxW k.2) (hne : ks ≠ []) : BxW (joinK ks) := by
  cases ks with
  | nil => exact absurd rfl hne
  | cons k r =>
    have : ∀ (r : Kids) (a : Bx), BxW a → (∀ k ∈ r, BxW k.2) → BxW (r.foldl (fun b q => b.join q.2) a) := by
      intro r
      induction r with
      | nil => exact fun a ha _ => ha
      | cons k r ih => exact fun a ha hk => ih _ (ha.join (hk k (by simp))) (fun q hq => hk q (by simp [hq]))
    exact this r k.2 (h k (by simp)) (fun q hq => h q (by simp [hq]))

theorem kidsAt_row {w : World} {g : Nat} {ks : Kids} (hg : g < w.heap.size) (hr : RowAt w g ks) (hk : ∀ k ∈ ks, k.1 < w.heap.size ∧ C4 w k.1 k.2) : KidsAt w.heap.size w g 0 ks :=
  ⟨hg, fun i q x e => ⟨by rw [Nat.zero_add]; exact (hr i _ e).1, (hk _ (List.mem_of_getElem? e)).1, (hk _ (List.mem_of_getElem? e)).2⟩⟩

set_option maxRecDepth 100000 in
set_option maxHeartbeats 2000000 in
theorem parted_few (g n cap : Nat) (ks : Kids) (w : World) (hg : g < w.heap.size) (hn : n = ks.length) (hn1 : 1 ≤ n) (hn2 : n ≤ 4) (hcap : n ≤ cap) (hrow : RowAt w g ks) (hks : ∀ k ∈ ks, k.1 < w.heap.size ∧ C4 w k.1 k.2) :
    Calls Tryz.prog 87 #[.slice (some ⟨g, 0, none⟩) n cap] w (PartedPost g ks w) := by
  have h4 : (n : Int) ≤ 4 := by omega
  have Hk : Hid (KidsAt w.heap.size w g 0 ks) := kidsAt_row hg hrow hks
  have Hn : Hid (n = ks.length) := hn
  have HP : Hid (∀ (s q : Nat) (w' : World), w'.cell? ⟨s, 0, none⟩ = some (.pointer (some ⟨q, 0, none⟩)) → s < w'.heap.size → w.heap.size ≤ s → w.heap.size ≤ q → q < w'.heap.size → C4 w' q (joinK ks) → w'.cell? ⟨q, 4, none⟩ = some (.slice (some ⟨g, 0, none⟩) n cap) → Below w.heap.size w w' → PartedPost g ks w (.returned (.slice (some ⟨s, 0, none⟩) 1 1)) w') := by
    intro s q w' hs0 hs1 hs2 hq1 hq2 hc h4 hb
    have hgl : g < w'.heap.size := Nat.lt_of_lt_of_le hg hb.size
    refine ⟨s, 1, [(q, joinK ks)], [ks], rfl, .inl rfl, rfl, rfl, by simp, ?_, hs1, ?_, ?_, KeepC.of_below hb, hb.mono (Nat.le_of_lt hg)⟩
    · exact hs2
    · intro i p hp
      match i, hp with
      | 0, hp => simp at hp; subst hp; exact hs0
      | i + 1, hp => simp at hp
    · intro i p c hp hc'
      match i, hp, hc' with
      | 0, hp, hc' =>
        simp at hp hc'
        subst hp hc'
        exact ⟨hq1, hq2, hc, rfl, by intro e; rw [e] at hn; simp at hn; omega, by omega, g, cap, by rw [← hn]; exact h4, by omega, .inl rfl, hgl, fun j k e => (hb.cell (p := ⟨g, j, none⟩) hg).trans (hrow j k e).1⟩
      | i + 1, hp, _ => simp at hp
  clear hrow hks hn
  go_enter Tryz.func87, Tryz.ntmps87
  go_wp2_with (go_at_call 54; refine (over_any g 0 n cap ks _ Hk.out Hn.out hn1 (by omega) hcap).mono ?_; rintro e w1 ⟨q, rfl, hq1, hq2, hc, h4c, hB1⟩)
  go_ret
  have hB2 : Below w1.heap.size w1 (w1.alloc (.cells #[.pointer (some ⟨q, 0, none⟩)] 87)) := (Below.refl _ _).alloc (Nat.le_refl _) _
  exact HP.out w1.heap.size q _ (by simp [go_sem]) (by simp) hB1.size hq1 (by simp; omega) (hc.below hB2 hq2) ((hB2.cell (p := ⟨q, 4, none⟩) hq2).trans h4c) (hB1.trans (hB2.mono hB1.size))

theorem getD_take {ks : Kids} {k j : Nat} {x : Nat × Bx} (h : (ks.take k)[j]? = some x) : ks[j]? = some x := by
  rw [List.getElem?_take] at h
  split at h
  · exact h
  · cases h
theorem getD_drop {ks : Kids} {k j : Nat} {x : Nat × Bx} (h : (ks.drop k)[j]? = some x) : ks[k + j]? = some x := by
  rw [List.getElem?_drop] at h
  exact h

set_option maxRecDepth 100000 in
set_option maxHeartbeats 2000000 in
theorem parted_five (g cap : Nat) (ks : Kids) (w : World) (hg : g < w.heap.size) (hn : 5 = ks.length) (hcap : 5 ≤ cap) (hrow : RowAt w g ks) (hks : ∀ k ∈ ks, k.1 < w.heap.size ∧ C4 w k.1 k.2) (hne : ∀ k ∈ ks, k.1 ≠ g ∧ BxW k.2) :
    Calls Tryz.prog 87 #[.slice (some ⟨g, 0, none⟩) 5 cap] w (PartedPost g ks w) := by
  have Hk : Hid (KidsAt w.heap.size w g 0 ks) := kidsAt_row hg hrow hks
  have Hn : Hid (5 = ks.length) := hn
  have Hrow : Hid (RowAt w g ks) := hrow
  have Hks : Hid (∀ k ∈ ks, k.1 < w.heap.size ∧ C4 w k.1 k.2) := hks
  have Hne : Hid (∀ k ∈ ks, k.1 ≠ g ∧ BxW k.2) := hne
  have HJ : Hid (BxW (joinK ks)) := joinK_bxw (fun k hk => (hne k hk).2) (by intro e; rw [e] at hn; simp at hn)
  clear hn hrow hks hne
  go_enter Tryz.func87, Tryz.ntmps87
  go_upto_region 4 with (go_at_call 54; refine (over_any g 0 5 cap ks _ Hk.out Hn.out (by decide) (by decide) hcap).mono ?_; rintro e w1 ⟨q, rfl, hq1, hq2, hc, h4c, hB1⟩)
  have hsz1 := hB1.size
  obtain ⟨c0, c1, c2, c3⟩ := hc
  have HA : Hid (∀ W : World, Calls Tryz.prog 121 #[.agg #[.int .i64 (joinK ks).l, .int .i64 (joinK ks).t, .int .i64 (joinK ks).r, .int .i64 (joinK ks).b]] W fun e w' => (∃ d, e = .returned (alongV d)) ∧ Below W.heap.size W w') := fun W => along_any (joinK ks) W HJ.out
  have HS : Hid (∀ (d : Bool) (W : World), Below w1.heap.size w1 W → Calls Tryz.prog 120 #[.slice (some ⟨g, 0, none⟩) 5 cap, alongV d] W fun e w' => e = .returned (.tuple #[]) ∧ ∃ ks' : Kids, ks'.Perm ks ∧ RowAt w' g ks' ∧ KeepC g W w' ∧ Below g W w') := fun d W hW => by
    have hWw : Below w.heap.size w W := hB1.trans (hW.mono hB1.size)
    exact stable_any d g 5 cap ks W Hn.out (by decide) (fun i k e => ⟨(hWw.cell (p := ⟨g, i, none⟩) hg).trans (Hrow.out i k e).1, (hWw.frozen (p := ⟨g, i, none⟩) hg).trans (Hrow.out i k e).2⟩) (fun k hk => ⟨(Hne.out k hk).1, (Hks.out k hk).2.below hWw (Hks.out k hk).1, (Hne.out k hk).2⟩)
  go_upto_region 6 with (first
    | (go_at_call 121; refine Calls.mono (HA.out _) ?_; rintro e w2 ⟨⟨d, rfl⟩, hb2⟩)
    | (go_at_call 120; refine Calls.mono (HS.out d _ hb2) ?_; rintro e w3 ⟨rfl, ks', hperm, hrow3, hkeep3, hb3⟩))
  have hB2 : Below w.heap.size w w2 := hB1.trans (hb2.mono hB1.size)
  have hB3 : Below g w w3 := (hB2.mono (Nat.le_of_lt hg)).trans hb3
  have hsz2 := hB2.size
  have hsz3 := hkeep3.1
  have HK3 : Hid (∀ k ∈ ks', k.1 < w3.heap.size ∧ C4 w3 k.1 k.2) := fun k hk => by
    have hk2 := hperm.mem_iff.1 hk
    exact ⟨by have := (Hks.out k hk2).1; omega, hkeep3.q4 (Hne.out k hk2).1 ((Hks.out k hk2).2.below hB2 (Hks.out k hk2).1)⟩
  have hl5 : ks'.length = 5 := by rw [hperm.length_eq]; exact Hn.out.symm
  have HC : Hid (∀ (o m cp : Nat) (W : World), o + m ≤ 5 → 1 ≤ m → Below w3.heap.size w3 W → Calls Tryz.prog 122 #[.slice (some ⟨g, o, none⟩) m cp] W fun e w' => ∃ g1 cp1 : Nat, e = .returned (.slice (some ⟨g1, 0, none⟩) m cp1) ∧ m ≤ cp1 ∧ W.heap.size ≤ g1 ∧ KidsAt w'.heap.size w' g1 0 ((ks'.drop o).take m) ∧ Below W.heap.size W w') := fun o m cp W hom hm1 hW => by
    have hlen : m = ((ks'.drop o).take m).length := by rw [List.length_take, List.length_drop, hl5]; omega
    refine (Clone_any g o m cp ((ks'.drop o).take m) W hlen hm1 (by omega) (fun j k e => (hW.cell (p := ⟨g, o + j, none⟩) (show g < w3.heap.size by omega)).trans (hrow3 (o + j) k (getD_drop (getD_take e))).1) (by have := hW.size; omega)).mono ?_
    rintro e w' ⟨v, rfl, hown, hb⟩
    obtain ⟨m', rfl⟩ : ∃ m', m = m' + 1 := ⟨m - 1, by omega⟩
    obtain ⟨g1, c1, rfl, h1, h2, h3⟩ := kids_of_row (ks := (ks'.drop o).take (m' + 1)) hlen.symm hb (by rw [show (ptrs ((ks'.drop o).take (m' + 1))).length = m' + 1 by rw [ptrs, List.length_map]; exact hlen.symm]; exact hown) (fun i q x e => by
      have := HK3.out _ (List.mem_of_getElem? (getD_drop (getD_take e)))
      exact ⟨Nat.lt_of_lt_of_le this.1 hW.size, this.2.below hW this.1⟩)
    exact ⟨g1, c1, rfl, h1, h2, h3, hb⟩
  have HO : Hid (∀ (gg m cc : Nat) (c : Kids) (W : World), KidsAt W.heap.size W gg 0 c → m = c.length → 1 ≤ m → m ≤ 5 → m ≤ cc → Calls Tryz.prog 54 #[.slice (some ⟨gg, 0, none⟩) m cc] W fun e w' => ∃ q : Nat, e = .returned (.pointer (some ⟨q, 0, none⟩)) ∧ W.heap.size ≤ q ∧ q < w'.heap.size ∧ C4 w' q (joinK c) ∧ w'.cell? ⟨q, 4, none⟩ = some (.slice (some ⟨gg, 0, none⟩) m cc) ∧ Below W.heap.size W w') := fun gg m cc c W hk hm h1 h2 h3 => over_any gg 0 m cc c W hk hm h1 (by omega) h3
  have x0 : Below w3.heap.size w3 w3.drew := (Below.refl _ _).drew
  have l1 : 2 = ((ks'.drop 0).take 2).length := by rw [List.length_take, List.length_drop, hl5]; decide
  have l2 : 3 = ((ks'.drop 2).take 3).length := by rw [List.length_take, List.length_drop, hl5]; decide
  have L1 : Hid (2 = ((ks'.drop 0).take 2).length) := l1
  have L2 : Hid (3 = ((ks'.drop 2).take 3).length) := l2
  have Hrow3 : Hid (RowAt w3 g ks') := hrow3
  have Hl5 : Hid (ks'.length = 5) := hl5
  clear l1 l2 hl5 hrow3 c0 c1 c2 c3 h4c HA HS hb2 hb3 Hk
  have h2c : (2 : Int) ≤ (cap : Int) := by omega
  have h2n : 2 ≤ cap := by omega
  go_region_held3 (fun w' => True) (trivial)
    (first
    | (go_at_call 122; have y2 := x2; refine Calls.mono (HC.out _ _ _ _ (by decide) (by decide) y2) ?_; rintro e w6 ⟨g2, cp2, rfl, hcp2, hg2, hk2, hb6⟩; have x3 := y2.trans (hb6.mono y2.size))
    | (go_at_call 122; refine Calls.mono (HC.out _ _ _ _ (by decide) (by decide) x0) ?_; rintro e w4 ⟨g1, cp1, rfl, hcp1, hg1, hk1, hb4⟩; have x1 := x0.trans (hb4.mono x0.size))
    | (go_at_call 54; have y3 := x3; refine Calls.mono (HO.out _ _ _ _ _ hk2 L2.out (by decide) (by decide) hcp2) ?_; rintro e w7 ⟨q2, rfl, hq21, hq22, hc2, h42, hb7⟩; have x4 := y3.trans (hb7.mono y3.size))
    | (go_at_call 54; refine Calls.mono (HO.out _ _ _ _ _ hk1 L1.out (by decide) (by decide) hcp1) ?_; rintro e w5 ⟨q1, rfl, hq11, hq12, hc1, h41, hb5⟩; have x2 := x1.trans (hb5.mono x1.size)))
  have z4 : w3.heap.size ≤ w4.heap.size := hb4.size
  have z5 := hb5.size
  have z6 := hb6.size
  have z7 := hb7.size
  have zg1 : w3.heap.size ≤ g1 := hg1
  have N1 : NodeAt w.heap.size g w5 (q1, joinK ((ks'.drop 0).take 2)) ((ks'.drop 0).take 2) := ⟨by show _ ≤ q1; omega, hq12, hc1, rfl, by intro e; have := L1.out; rw [e] at this; simp at this, by rw [← L1.out]; decide, g1, cp1, by rw [← L1.out]; exact h41, by rw [← L1.out]; exact hcp1, .inr (by omega), by have := hk1.1; omega, fun j k e => (hb5.cell (p := ⟨g1, j, none⟩) hk1.1).trans (by have := (hk1.2 j k.1 k.2 e).1; rwa [Nat.zero_add] at this)⟩
  have N2 : NodeAt w.heap.size g w7 (q2, joinK ((ks'.drop 2).take 3)) ((ks'.drop 2).take 3) := ⟨by show _ ≤ q2; omega, hq22, hc2, rfl, by intro e; have := L2.out; rw [e] at this; simp at this, by rw [← L2.out]; decide, g2, cp2, by rw [← L2.out]; exact h42, by rw [← L2.out]; exact hcp2, .inr (by omega), by have := hk2.1; omega, fun j k e => (hb7.cell (p := ⟨g2, j, none⟩) hk2.1).trans (by have := (hk2.2 j k.1 k.2 e).1; rwa [Nat.zero_add] at this)⟩
  have b8 : ∀ o : Obj, Below w7.heap.size w7 (w7.alloc o) := fun o => (Below.refl _ _).alloc (Nat.le_refl _) o
  have M1 : Hid (NodeAt w.heap.size g w7 (q1, joinK ((ks'.drop 0).take 2)) ((ks'.drop 0).take 2)) := (N1.below hb6).below hb7
  have M2 : Hid (NodeAt w.heap.size g w7 (q2, joinK ((ks'.drop 2).take 3)) ((ks'.drop 2).take 3)) := N2
  have HPm : Hid ([(ks'.drop 0).take 2, (ks'.drop 2).take 3].flatten.Perm ks) := by
    show List.Perm _ _
    have e : [(ks'.drop 0).take 2, (ks'.drop 2).take 3].flatten = ks' := by
      simp only [List.flatten_cons, List.flatten_nil, List.append_nil, List.drop_zero]
      rw [List.take_of_length_le (l := ks'.drop 2) (by rw [List.length_drop, Hl5.out]; decide), List.take_append_drop]
    rw [e]; exact hperm
  clear N1 N2 hk1 hk2 hc1 hc2 h41 h42
  go_wp2
  go_ret
  refine ⟨w7.heap.size, 2, [(q1, joinK ((ks'.drop 0).take 2)), (q2, joinK ((ks'.drop 2).take 3))], [(ks'.drop 0).take 2, (ks'.drop 2).take 3], rfl, .inr rfl, rfl, rfl, HPm.out, by omega, by simp, ?_, ?_, ?_, ?_⟩
  · intro i p hp
    match i, hp with
    | 0, hp => simp at hp; subst hp; simp [go_sem]
    | 1, hp => simp at hp; subst hp; simp [go_sem]
    | i + 2, hp => simp at hp
  · intro i p c hp hc'
    match i, hp, hc' with
    | 0, hp, hc' =>
      simp only [List.getElem?_cons_zero, Option.some.injEq] at hp hc'
      subst hp hc'
      exact M1.out.below (b8 _)
    | 1, hp, hc' =>
      simp only [List.getElem?_cons_succ, List.getElem?_cons_zero, Option.some.injEq] at hp hc'
      subst hp hc'
      exact M2.out.below (b8 _)
    | i + 2, hp, _ => simp at hp
  · exact ((KeepC.of_below hB2).trans hkeep3).trans (KeepC.of_below (x4.trans ((b8 _).mono x4.size)))
  · exact hB3.trans ((x4.trans ((b8 _).mono x4.size)).mono (by omega))

end Go.Proofs.YtenaepdmlknlcaaGreatDoor
