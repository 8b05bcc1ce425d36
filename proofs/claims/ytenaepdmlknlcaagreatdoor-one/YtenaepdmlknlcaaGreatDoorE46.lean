import Derived.Test.YtenaepdmlknlcaaGreatDoorE44
import Derived.Test.YtenaepdmlknlcaaGreatDoorE45
namespace Go.Proofs.YtenaepdmlknlcaaGreatDoor
open Go.RowKit Go.Shelf

/-- The requests of the first sessions. -/
def firstP (P : Pl) : Nat → List Dn
  | 0 => []
  | n + 1 => firstP P n ++ P.all n
theorem firstP_four (P : Pl) : firstP P 4 = flatP4 P := by
  unfold flatP4
  simp [firstP]
theorem firstP_len (P : Pl) (m : Nat) (h : ∀ n, n < 4 → (P.all n).length ≤ m) : ∀ n, n ≤ 4 → (firstP P n).length ≤ n * m
  | 0, _ => by simp [firstP]
  | n + 1, hn => by
    have h1 := firstP_len P m h n (by omega)
    have h2 := h n (by omega)
    simp only [firstP, List.length_append]
    rw [Nat.succ_mul]
    omega
theorem firstP_mem (P : Pl) {d : Dn} : ∀ n, n ≤ 4 → d ∈ firstP P n → ∃ k, k < 4 ∧ d ∈ P.all k
  | 0, _, h => by simp [firstP] at h
  | n + 1, hn, h => by
    simp only [firstP, List.mem_append] at h
    rcases h with h | h
    · exact firstP_mem P n (by omega) h
    · exact ⟨n, by omega, h⟩
theorem wpList_append_none {P : Program} {w : World} {ops : Array Oper} {rest : List Oper} {o : Oper} {a : Act} {Q : Exit → Act → World → Prop} (hg : o.guard = none) (s x : Operand) (t : TypeId) (hop : o.op = Op.call { callee := Callee.builtin Builtin.append, args := #[s, x], argTypes := #[t, t] })
    (base : Nat) (e : TypeId) (i : TypeInfo) (size : Nat) (h1 : P.underlying t = some (.slice e)) (h2 : P.info? e = some i)
    (v : Value) (n : Nat) (xs : List Value) (hs : a.eval s = v) (hown : w.ownsRow base e size v n xs) (hx : a.eval x = .slice none 0 0)
    (h : wpList P ops Q rest (a.put o.dst v) w) : wpList P ops Q (o :: rest) a w := by
  have hrun := run_append_owned_none (P := P) (w := w) base t o.type e i size h1 h2 v n xs hown
  refine wpList_plain hg fun K hK => ?_
  unfold Oper.wp
  simp [execOp, hop, resolve, invoke, builtin, hs, hx, hrun, Result.andThen]
  exact hK _ _ h
theorem leftG_rep (n : Nat) : leftG (List.replicate n false) = n := by
  unfold leftG
  rw [List.filter_replicate_of_pos rfl, List.length_replicate]
theorem info4b : (Tryz.prog.info? 4).map (fun i => (i.zero, i.size, i.bytes)) = some (some (.bool false), 1, 1) := by kernel_rfl
theorem makeB (m : Nat) (hm : m ≤ 100000000) : ∃ Z : Array Value, (∀ j, j < m → Z[j]? = some (.bool false)) ∧ ∀ W : World, Sem.run Tryz.prog (Instr.makeSlice 73 (.int .i64 (m : Int)) (.int .i64 (m : Int))) W = .ok (.slice (some ⟨W.heap.size, 0, none⟩) m m) (W.alloc (.cells Z 4)) := by
  obtain ⟨i, hi, hz, hs, hb⟩ := info_parts info4b
  refine ⟨madeCells #[.bool false] (m * 1), fun j hj => ?_, fun W => ?_⟩
  · rw [← Array.getElem?_toList, toList_madeCells_one, List.getElem?_replicate, if_pos (by omega)]
  · have := run_make (P := Tryz.prog) W 73 4 i _ Tryz.underlying73 hi hz .i64 .i64 m m (by omega) (by omega) (by rw [hb]; omega) (by omega)
    rw [hs, show (Value.bool false).cells = #[.bool false] by kernel_rfl] at this
    simpa using this
set_option maxRecDepth 100000 in
set_option maxHeartbeats 2000000 in
/-- Nothing was sent. -/
theorem row_nil (la ga fa : Option Addr) (lc gc fn fc : Nat) (w : World) : Calls Tryz.prog 25 #[.slice la 0 lc, .slice ga 0 gc, .slice fa fn fc] w fun e w' => e = .returned (.bool true) ∧ w' = w := by
  go_enter Tryz.func25, Tryz.ntmps25
  go_wp2
  go_loopw [7, 8] (fun ov i wr => ov = .bool true ∧ i = .int .i64 0 ∧ wr = w) (fun _ _ _ => 0)
  case atStart => exact ⟨rfl, rfl, rfl⟩
  case round =>
    obtain ⟨rfl, rfl, rfl⟩ := hrel
    go_wp2
    go_ret
    exact ⟨rfl, rfl⟩
/-- What is asked of row. -/
def RowSays : Prop := ∀ (b0 lb gb n lcap gcap : Nat), 8 ≤ b0 → ∀ (L : List Dn), (∀ d ∈ L, 0 ≤ d.un) → n = L.length → n ≤ 100000000 → n ≤ lcap → n ≤ gcap → ∀ (g : List Bool) (gs : List FG) (fa : Option Addr) (fcap : Nat) (w : World), RowM w b0 lb gb L g → FeatsQ (fun b => b ≠ gb) w fa gs → gs.length ≤ fcap → FsOk (gs.map (·.f)) →
  Calls Tryz.prog 25 #[.slice (some ⟨lb, 0, none⟩) n lcap, .slice (some ⟨gb, 0, none⟩) n gcap, .slice fa gs.length fcap] w (RowPost b0 lb gb L g (gs.map (·.f)) w)

set_option maxRecDepth 100000 in
set_option maxHeartbeats 8000000 in
theorem One_at (hrow : RowSays) (r : Int) (hr : i64 r) (a : Option Addr) (n cap : Nat) (l : List Stt) (w : World) (g : Gl w) (hl : ScrAt w w.heap.size a l) (hn : n = l.length) (hlen : n ≤ 2199023255488) (hcap : n ≤ cap) :
    Calls Tryz.prog 8 #[.int .i64 r, .slice a n cap] w fun e w' => e = .returned (.bool true) ∧ Below w.heap.size w w' := by
  have HBg : Hid (Calls Tryz.prog 16 #[.int .i64 r] w fun e w' => ∃ (p A : Nat) (Z : Nat → Prop) (v : Nat → Value), e = .returned (.tuple #[.pointer (some ⟨p, 0, none⟩), .bool true]) ∧ PlayAt w' w.heap.size p A Z v (newP r) ∧ Below w.heap.size w w') := begin_at r hr w g
  have HS : Hid (ScrAt w w.heap.size a l) := hl
  have Hn : Hid (n = l.length) := hn
  have h8 : 8 ≤ w.heap.size := by have := g.sz; omega
  have hb := play_bounds (newP r) 7 (newP_ok r) l l.length (Nat.le_refl _)
  rw [List.take_of_length_le (Nat.le_refl _)] at hb
  have hone := one_row r 7 l (by omega)
  have HUn : Hid (∀ n, n < 4 → ∀ d ∈ (playP (newP r) 7 l).1.all n, 0 ≤ d.un) := hb.ok.un
  have HL : Hid (∀ j, j < 4 → ((playP (newP r) 7 l).1.all j).length ≤ 1048576) := fun j hj => by
    have := play_most (newP r) 7 (by decide) l j
    have e : ((newP r).all j).length = 0 := rfl
    omega
  have HPl : Hid (∀ (W : World) (p A : Nat) (Z : Nat → Prop) (v : Nat → Value), Below w.heap.size w W → PlayAt W w.heap.size p A Z v (newP r) → Calls Tryz.prog 24 #[.pointer (some ⟨p, 0, none⟩), .slice a n cap, .int .i64 7] W fun e w' => e = .returned (.bool true) ∧ ∃ Z' v', PN w.heap.size p A Z v Z' v' (playP (newP r) 7 l).1 W w') := fun W p A Z v hB hP => play_any hP (newP_ok r) (fun j _ => by show (0 : Nat) ≤ 1000; omega) (by show (0 : Int) ≤ 1000; omega) a n cap l (HS.out.below hB) Hn.out hlen hcap 7 (by decide) (by decide)
  have HGl : Hid (Gl w) := g
  have HRw : Hid RowSays := hrow
  obtain ⟨P1, hP1⟩ : ∃ x, (playP (newP r) 7 l).1 = x := ⟨_, rfl⟩
  rw [hP1] at HL HPl hone HUn
  have Hone : Hid (∃ K, ∀ k, K ≤ k → rowB k (flatP4 P1) (List.replicate (flatP4 P1).length false) [] = true) := hone
  have HFl : Hid (∀ j, j ≤ 4 → (firstP P1 j).length ≤ j * 1048576) := fun j hj => firstP_len P1 1048576 HL.out j hj
  obtain ⟨i57, hi0, hz0, hz1, hz2⟩ := info_parts info57
  have HI : Hid (Tryz.prog.info? 57 = some i57 ∧ i57.zero = some _ ∧ i57.size = 9 ∧ i57.bytes = _) := ⟨hi0, hz0, hz1, hz2⟩
  clear hb hP1 hl hn g HS Hn hone hrow hi0 hz0 hz1 hz2
  go_enter Tryz.func8, Tryz.ntmps8
  go_wp2_with (first
    | (go_at_call 16; refine Calls.mono HBg.out ?_; rintro e w1 ⟨p, A, Z, v, rfl, hp1, hb1⟩; dsimp only; have HP1 : Hid (PlayAt w1 w.heap.size p A Z v (newP r)) := hp1; have HB1 : Hid (Below w.heap.size w w1) := hb1; clear hp1 hb1)
    | (go_at_call 24; refine Calls.mono (HPl.out _ _ _ _ _ HB1.out HP1.out) ?_; rintro e w2 ⟨rfl, Z1, v1, hpn⟩; dsimp only; have HN1 : Hid (PN w.heap.size p A Z v Z1 v1 P1 w1 w2) := hpn; clear hpn))
  have HB2 : Hid (Below w.heap.size w w2) := HB1.out.trans (HN1.out.below HP1.out)
  go_loopw [7, 8] (fun lv i wr => ∃ (j : Nat) (la : Option Addr) (lcap : Nat), j ≤ 4 ∧ lv = .slice la (firstP P1 j).length lcap ∧ i = .int .i64 j ∧ wr.ownsRow w2.heap.size 57 9 (.slice la (firstP P1 j).length lcap) (firstP P1 j).length (flatD (firstP P1 j)) ∧ Below w2.heap.size w2 wr) (fun _ i _ => 4 - (intOf i).toNat)
  case atStart => exact ⟨0, none, 0, Nat.zero_le _, rfl, rfl, World.ownsRow_nil _ _ _ _, Below.refl _ _⟩
  case round =>
    obtain ⟨j, la, lcap, hj, rfl, rfl, hown, hbl⟩ := hrel
    have HO : Hid (wr.ownsRow w2.heap.size 57 9 (.slice la (firstP P1 j).length lcap) (firstP P1 j).length (flatD (firstP P1 j))) := hown
    have HBl : Hid (Below w2.heap.size w2 wr) := hbl
    have hpl := (HN1.out.pl.grow hbl).pl
    have HP4 : Hid (PlayAt wr w.heap.size p A Z1 v1 P1) := hpl
    have hlj := HFl.out j hj
    clear hown hbl
    by_cases hjt : j < 4
    · have hjI : (j : Int) < 4 := by omega
      have hjn : ¬ (j : Int) < 0 := by omega
      have hcr := hpl.cr j hjt
      have hrw := hpl.row j hjt
      have hlm := HL.out j hjt
      have Hsz : Hid (w2.heap.size ≤ wr.heap.size) := HBl.out.size
      clear hpl
      have HF1 : Hid (firstP P1 (j + 1) = firstP P1 j ++ P1.all j) := rfl
      rcases hrw.2 with ⟨e1, e2⟩ | ⟨q, qcap, cur, e1, e2, e3, e4, e5, e6, e7⟩
      · rw [e1] at hcr
        have HF2 : Hid (firstP P1 (j + 1) = firstP P1 j) := by
          show firstP P1 (j + 1) = firstP P1 j
          rw [HF1.out, List.eq_nil_of_length_eq_zero e2, List.append_nil]
        obtain ⟨m, hm⟩ : ∃ m, (firstP P1 j).length = m := ⟨_, rfl⟩
        have Hm : Hid ((firstP P1 j).length = m) := hm
        rw [hm] at HO hlj
        rw [hm]
        clear hrw e1 e2 hm
        go_wp2_with (at_builtin; refine wpList_append_none rfl _ _ 58 rfl w2.heap.size 57 i57 9 Tryz.underlying58 HI.out.1 _ m _ rfl HO.out rfl ?_)
        go_roundw
        case rel => exact ⟨j + 1, la, lcap, by omega, by rw [HF2.out, Hm.out], by go_num, by rw [HF2.out, Hm.out]; exact HO.out, HBl.out⟩
        case measure => simp [intOf]; omega
      · rw [e1] at hcr hrw
        have Hrw : Hid (wr.ownsRow w.heap.size 57 9 (.slice (some ⟨q, 0, none⟩) (P1.all j).length qcap) (P1.all j).length (flatD (P1.all j))) := hrw
        obtain ⟨m, hm⟩ : ∃ m, (firstP P1 j).length = m := ⟨_, rfl⟩
        have Hm : Hid ((firstP P1 j).length = m) := hm
        rw [hm] at HO hlj
        rw [hm]
        obtain ⟨k, hk⟩ : ∃ m, (P1.all j).length = m := ⟨_, rfl⟩
        have Hk : Hid ((P1.all j).length = k) := hk
        rw [hk] at hcr hlm Hrw
        have HF2 : Hid ((firstP P1 (j + 1)).length = m + k) := by
          show (firstP P1 (j + 1)).length = m + k
          rw [HF1.out, List.length_append, Hm.out, Hk.out]
        have HF3 : Hid (flatD (firstP P1 (j + 1)) = flatD (firstP P1 j) ++ flatD (P1.all j)) := by
          show flatD (firstP P1 (j + 1)) = _
          rw [HF1.out, flatD_append]
        clear hrw e1 e2 e3 e4 e5 e6 e7 hm hk
        go_wp2_with (at_builtin; refine wpList_append_own _ rfl _ _ 58 rfl w2.heap.size 57 i57 _ 9 _ Tryz.underlying58 HI.out.1 HI.out.2.1 HI.out.2.2.1 HI.out.2.2.2 rfl (by decide) (.slice la m lcap) m (flatD (firstP P1 j)) rfl HO.out ⟨q, 0, none⟩ k qcap (flatD (P1.all j)) rfl (by rw [flatD_len, Hk.out]) (fun y u hy => by
            have hlt : y < k * 9 := by
              have := (List.getElem?_eq_some_iff.1 hy).1
              rwa [flatD_len, Hk.out] at this
            rw [addr_add, Nat.zero_add]
            exact (Hrw.out.cellAt y hlt).trans hy) (fun u hu => flatD_one hu) (by unfold maxLen; omega) (by omega) Hsz.out ?_; intro v5 w5 hown5 hgrow5 _; have hb5 : Below w2.heap.size wr w5 := (Below.refl _ wr).grown hgrow5 Hsz.out (fun k hk => (HO.out.lt k hk).1); obtain ⟨a5, c5, rfl, _, _⟩ := row_form hown5; have HO5 : Hid _ := hown5; have HB5 : Hid _ := hb5; clear hown5 hgrow5 hb5)
        go_roundw
        case rel => exact ⟨j + 1, a5, c5, by omega, by rw [HF2.out], by go_num, by rw [HF2.out, HF3.out]; exact HO5.out, HBl.out.trans HB5.out⟩
        case measure => simp [intOf]; omega
    · obtain rfl : j = 4 := by omega
      obtain ⟨N, hN⟩ : ∃ N, (firstP P1 4).length = N := ⟨_, rfl⟩
      have HN : Hid ((firstP P1 4).length = N) := hN
      rw [hN] at HO hlj
      rw [hN]
      have hN2 : N ≤ 100000000 := by omega
      obtain ⟨Zb, hZb, hmk⟩ := makeB N hN2
      have HZb : Hid (∀ j, j < N → Zb[j]? = some (.bool false)) := hZb
      have HRun : Hid (Calls Tryz.prog 25 #[.slice la N lcap, .slice (some ⟨wr.heap.size, 0, none⟩) N N, .slice none 0 0] (wr.alloc (.cells Zb 4)) fun e w' => e = .returned (.bool true) ∧ Below w.heap.size w w') := by
        have hB0 : Below w.heap.size w (wr.alloc (.cells Zb 4)) := (HB2.out.trans (HBl.out.mono HB2.out.size)).alloc (Nat.le_trans HB2.out.size HBl.out.size) _
        by_cases h0 : N = 0
        · subst h0
          refine (row_nil la _ none lcap 0 0 0 _).mono ?_
          rintro e w' ⟨rfl, rfl⟩
          exact ⟨rfl, hB0⟩
        · obtain ⟨la', cap', e, hle, hg⟩ := row_form HO.out
          injection e with e1 _ e2
          subst e1 e2
          obtain ⟨lb, rfl, hlb⟩ := hg (by omega)
          have hlw := (HO.out.lt lb rfl).2
          have hgrow : Below wr.heap.size wr (wr.alloc (.cells Zb 4)) := (Below.refl _ _).alloc (Nat.le_refl _) _
          have hM : RowM (wr.alloc (.cells Zb 4)) w.heap.size lb wr.heap.size (firstP P1 4) (List.replicate N false) := by
            refine ⟨by rw [List.length_replicate, HN.out], by simp; omega, by simp, by omega, Nat.le_trans HB2.out.size HBl.out.size, hB0.size, fun i d hd y u hy => ?_, fun i b hi => ?_, fun d hd => ?_, HGl.out.fr (M := fun _ _ => False) (Fr.of_below hB0) (fun _ _ _ e => e)⟩
            · have hi : i < N := by rw [← HN.out]; exact (List.getElem?_eq_some_iff.1 hd).1
              have hy9 : y < 9 := (List.getElem?_eq_some_iff.1 hy).1
              refine (hgrow.cell (p := ⟨lb, i * 9 + y, none⟩) hlw).trans ((HO.out.cellAt (i * 9 + y) (by omega)).trans ?_)
              rw [flatD_get hd y hy9]; exact hy
            · have hi' : i < N := by have := (List.getElem?_eq_some_iff.1 hi).1; rwa [List.length_replicate] at this
              rw [List.getElem?_replicate, if_pos hi'] at hi
              obtain rfl := Option.some.inj hi
              exact ⟨by rw [World.cell?_alloc_new]; exact HZb.out i hi', by simp [go_sem]⟩
            · obtain ⟨k, hk, hm⟩ := firstP_mem P1 4 (Nat.le_refl _) hd
              have := HP4.out.raw k hk d hm
              exact ⟨this.1, this.2.below (hgrow.mono (Nat.le_trans HB2.out.size HBl.out.size))⟩
          have hfs : FsOk (([] : List FG).map (·.f)) := ⟨fun f hf => by simp at hf, by simp [DistF]⟩
          refine (HRw.out w.heap.size lb wr.heap.size N lcap N h8 (firstP P1 4) (fun d hd => by obtain ⟨k, hk, hm⟩ := firstP_mem P1 4 (Nat.le_refl _) hd; exact HUn.out k hk d hm) HN.out.symm hN2 hle (Nat.le_refl _) (List.replicate N false) [] none 0 _ hM (.inl rfl) (Nat.le_refl _) hfs).mono ?_
          rintro e w' ⟨rfl, hM', hF⟩
          refine ⟨?_, hB0.trans (hF.below hB0.size fun b i hb e => by have := HB2.out.size; have := HBl.out.size; omega)⟩
          obtain ⟨K, hK⟩ := Hone.out
          have hlen : (List.replicate N false).length = (firstP P1 4).length := by rw [List.length_replicate, HN.out]
          have := hK (max K N) (Nat.le_max_left _ _)
          rw [← firstP_four, HN.out] at this
          rw [← row_fuel (max K N) hlen (by rw [leftG_rep]; exact Nat.le_max_right _ _)]
          rw [show (([] : List FG).map (·.f)) = [] from rfl, this]
      clear hZb hN hpl HP4
      go_wp2_with (go_at_call 25; refine Calls.mono HRun.out ?_; rintro e w6 ⟨rfl, hb6⟩; dsimp only; have HB6 : Hid (Below w.heap.size w w6) := hb6; clear hb6)
      go_ret
      exact ⟨rfl, HB6.out⟩
end Go.Proofs.YtenaepdmlknlcaaGreatDoor

namespace Go.Proofs.YtenaepdmlknlcaaGreatDoor
open Go.RowKit Go.Shelf

theorem row_says : RowSays := fun b0 lb gb n lcap gcap h8 L hun hn hn2 hlc hgc g => by
  obtain ⟨k, hk⟩ : ∃ k, leftG g = k := ⟨_, rfl⟩
  induction k using Nat.strongRecOn generalizing g with
  | _ k ih => exact row_at b0 lb gb n lcap gcap h8 L hun hn hn2 hlc hgc g fun g' hlt => ih (leftG g') (by omega) g' rfl
theorem One_any (r : Int) (hr : i64 r) (a : Option Addr) (n cap : Nat) (l : List Stt) (w : World) (g : Gl w) (hl : ScrAt w w.heap.size a l) (hn : n = l.length) (hlen : n ≤ 2199023255488) (hcap : n ≤ cap) :
    Calls Tryz.prog 8 #[.int .i64 r, .slice a n cap] w fun e w' => e = .returned (.bool true) ∧ Below w.heap.size w w' := One_at row_says r hr a n cap l w g hl hn hlen hcap
end Go.Proofs.YtenaepdmlknlcaaGreatDoor
