import Derived.Test.YtenaepdmlknlcaaGreatDoorF18
import Derived.Test.YtenaepdmlknlcaaGreatDoorF02
namespace Go.Proofs.YtenaepdmlknlcaaGreatDoor
open Go.RowKit Go.Shelf

attribute [local go_sem] Oper.semAt_some

theorem All_none (w : World) :
    Calls Tryz.prog 80 #[.agg #[.pointer none]] w fun e w' => ∃ Bt, e = .returned (.func (.func 125) #[] #[.pointer (some ⟨Bt, 0, none⟩), .pointer (some ⟨Bt + 1, 0, none⟩)]) ∧ w.heap.size ≤ Bt ∧ Bt + 1 < w'.heap.size ∧ w'.cell? ⟨Bt, 0, none⟩ = some (.pointer none) ∧ Below w.heap.size w w' := by
  go_enter Tryz.func80, Tryz.ntmps80
  go_wp2_with (go_at_call 90; refine (Meeting_any _ ⟨0, 0, 0, 0⟩ _).mono ?_; rintro e w2 ⟨rfl, rfl⟩; dsimp only)
  go_ret
  exact ⟨w.heap.size + 1, by simp, by omega, by simp, by simp [go_sem], (((Below.refl _ _).alloc (Nat.le_refl _) _).alloc (by simp) _).alloc (by simp <;> omega) _⟩

theorem All_some (q : Nat) (x : Bx) (w : World) (hq : q < w.heap.size) (hc : C4 w q x) :
    Calls Tryz.prog 80 #[.agg #[.pointer (some ⟨q, 0, none⟩)]] w fun e w' => ∃ Bt, e = .returned (.func (.func 125) #[] #[.pointer (some ⟨Bt, 0, none⟩), .pointer (some ⟨Bt + 1, 0, none⟩)]) ∧ w.heap.size ≤ Bt ∧ Bt + 1 < w'.heap.size ∧ w'.cell? ⟨Bt, 0, none⟩ = some (.pointer (some ⟨q, 0, none⟩)) ∧ C4 w' (Bt + 1) x ∧ Below w.heap.size w w' := by
  obtain ⟨c0, c1, c2, c3⟩ := hc
  go_enter Tryz.func80, Tryz.ntmps80
  go_wp2_with fail
  go_region_with (go_at_call 90; refine (Meeting_any _ x _).mono ?_; rintro e w2 ⟨rfl, rfl⟩; dsimp only)
  all_goals
    go_wp2
    go_ret
    exact ⟨w.heap.size + 1, rfl, by omega, by simp, by simp [go_sem], ⟨by simp [go_sem], by simp [go_sem], by simp [go_sem], by simp [go_sem]⟩, ((((Below.refl _ _).alloc (Nat.le_refl _) _).drew).alloc (by simp) _).alloc (by simp <;> omega) _⟩

/-- A root with these features, whose box is x. -/
def RootX (ok : Nat → Prop) (w : World) (ro : Option Addr) (vs : List FV) (x : Bx) : Prop :=
  (ro = none ∧ vs = []) ∨ ∃ (d q : Nat) (us : List FV), ro = some ⟨q, 0, none⟩ ∧ IsT ok w (d + 1) q us x ∧ us.Perm vs
theorem All_root (ok : Nat → Prop) (ro : Option Addr) (vs : List FV) (w : World) (hok : ∀ b, ok b → b < w.heap.size) (hR : RootT ok w ro vs) :
    Calls Tryz.prog 80 #[.agg #[.pointer ro]] w fun e w' => ∃ Bt x, e = .returned (.func (.func 125) #[] #[.pointer (some ⟨Bt, 0, none⟩), .pointer (some ⟨Bt + 1, 0, none⟩)]) ∧ w.heap.size ≤ Bt ∧ Bt + 1 < w'.heap.size ∧ w'.cell? ⟨Bt, 0, none⟩ = some (.pointer ro) ∧ (ro = none ∨ C4 w' (Bt + 1) x) ∧ RootX ok w ro vs x ∧ Below w.heap.size w w' := by
  rcases hR with ⟨rfl, rfl⟩ | ⟨d, q, x, us, rfl, hT, hp⟩
  · refine (All_none w).mono ?_
    rintro e w' ⟨Bt, he, h1, h2, h3, h4⟩
    exact ⟨Bt, ⟨0, 0, 0, 0⟩, he, h1, h2, h3, .inl rfl, .inl ⟨rfl, rfl⟩, h4⟩
  · refine (All_some q x w (hok _ hT.lt) hT.c4).mono ?_
    rintro e w' ⟨Bt, he, h1, h2, h3, h4, h5⟩
    exact ⟨Bt, x, he, h1, h2, h3, .inr h4, .inr ⟨d, q, us, rfl, hT, hp⟩, h5⟩

theorem mnZ_le (a b : Int) : mnZ a b ≤ a ∧ mnZ a b ≤ b := by unfold mnZ; omega
theorem mxZ_le (a b : Int) : a ≤ mxZ a b ∧ b ≤ mxZ a b := by unfold mxZ; omega
theorem join_le {x y : Bx} (h1 : x.l ≤ x.r) (h2 : x.t ≤ x.b) : (x.join y).l ≤ (x.join y).r ∧ (x.join y).t ≤ (x.join y).b := by
  have a := mnZ_le x.l y.l
  have b := mnZ_le x.t y.t
  have c := mxZ_le x.r y.r
  have d := mxZ_le x.b y.b
  show mnZ x.l y.l ≤ mxZ x.r y.r ∧ mnZ x.t y.t ≤ mxZ x.b y.b
  omega
theorem fold_le (ps : Pts) : ∀ x : Bx, x.l ≤ x.r → x.t ≤ x.b → (ps.foldl (fun b q => b.join (bxAt q)) x).l ≤ (ps.foldl (fun b q => b.join (bxAt q)) x).r ∧ (ps.foldl (fun b q => b.join (bxAt q)) x).t ≤ (ps.foldl (fun b q => b.join (bxAt q)) x).b := by
  induction ps with
  | nil => exact fun x h1 h2 => ⟨h1, h2⟩
  | cons p r ih => exact fun x h1 h2 => ih _ (join_le h1 h2).1 (join_le h1 h2).2
theorem boxZ_le (ps : Pts) : (boxZ ps).l ≤ (boxZ ps).r ∧ (boxZ ps).t ≤ (boxZ ps).b := by
  cases ps with
  | nil => exact ⟨Int.le_refl _, Int.le_refl _⟩
  | cons p r => exact fold_le r _ (Int.le_refl _) (Int.le_refl _)
theorem filter_all {ok : Nat → Prop} {w : World} {d q : Nat} {us : List FV} {x : Bx} (h : IsT ok w d q us x) : us.filter (meetF x) = us := by
  refine List.filter_eq_self.2 fun v hv => ?_
  have h1 := h.boxIn v hv
  have h2 := boxZ_le v.f.ps
  obtain ⟨a, b, c, e⟩ := h1
  unfold meetF meetsB
  simp
  omega

set_option maxHeartbeats 2000000 in
theorem all_nil (G : FV → Prop) (T n Bt Bb : Nat) (w : World) (hBt : w.cell? ⟨Bt, 0, none⟩ = some (.pointer none)) :
    SeqStopsK Fence.wide n Tryz.prog 125 #[.pointer (some ⟨Bt, 0, none⟩), .pointer (some ⟨Bb, 0, none⟩)] (fun v : { v : FV // G v } => #[encF v.1]) (KeepC T) (fun ys => ys = []) (fun _ => True) 0 w := by
  intro l J Jx W hW hJ hJx hY h0
  refine callsIn_wide.2 ?_
  have e0 := (hW.cell (p := ⟨Bt, 0, none⟩) (cell_lt hBt)).trans hBt
  have H0 : Hid (J [] W) := h0
  clear hJ hJx hY h0 hBt
  show Calls Tryz.prog 125 #[.func (.yield l) #[] #[], .pointer (some ⟨Bt, 0, none⟩), .pointer (some ⟨Bb, 0, none⟩)] W _
  go_enter Tryz.func125, Tryz.ntmps125
  go_wp2
  go_end0
  exact ⟨⟨_, rfl⟩, .inl ⟨[], rfl, H0.out⟩⟩

/-- What All gives: each feature once. -/
theorem all_stops (ok : Nat → Prop) (G : FV → Prop) (T n0 n Bt Bb : Nat) (ro : Option Addr) (vs : List FV) (x : Bx) (w : World) (hT : ∀ b, ok b → b ≠ T) (hlt : ∀ b, ok b → b < n0) (hTn : T < n0) (hn0 : n0 ≤ w.heap.size)
    (hBt : w.cell? ⟨Bt, 0, none⟩ = some (.pointer ro)) (hBb : ro = none ∨ C4 w Bb x) (hR : RootX ok w ro vs x) (hg : ∀ v ∈ vs, G v) :
    SeqStopsK Fence.wide n Tryz.prog 125 #[.pointer (some ⟨Bt, 0, none⟩), .pointer (some ⟨Bb, 0, none⟩)] (fun v : { v : FV // G v } => #[encF v.1]) (KeepC T) (fun ys => (ys.map Subtype.val).Perm vs) (fun _ => True) vs.length w := by
  rcases hR with ⟨rfl, rfl⟩ | ⟨d, q, us, rfl, hIT, hp⟩
  · intro l J Jx W hW hJ hJx hY h0
    refine (all_nil G T n Bt Bb w hBt l J Jx W hW hJ hJx hY h0).mono ?_
    rintro e W' ⟨h1, ⟨xs, rfl, hj⟩ | h2⟩
    · exact ⟨h1, .inl ⟨[], List.Perm.refl _, hj⟩⟩
    · exact ⟨h1, .inr h2⟩
  · rcases hBb with h | hBb
    · cases h
    intro l J Jx W hW hJ hJx hY h0
    rw [← hp.length_eq] at hY
    refine (meeting_stops ok G T n0 n (d + 1) q Bt Bb us x x w hT hlt hTn hn0 hBt hBb hIT (fun v hv => hg v (hp.mem_iff.1 hv)) l J Jx W hW hJ hJx hY h0).mono ?_
    rintro e W' ⟨h1, ⟨xs, hs, hj⟩ | h2⟩
    · refine ⟨h1, .inl ⟨xs, ?_, hj⟩⟩
      show (xs.map Subtype.val).Perm vs
      rw [hs, filter_all hIT]
      exact hp
    · exact ⟨h1, .inr h2⟩

end Go.Proofs.YtenaepdmlknlcaaGreatDoor

namespace Go.Proofs.YtenaepdmlknlcaaGreatDoor
open Go.RowKit Go.Shelf

attribute [local go_sem] Oper.semAt_some

theorem RootX.same {ok : Nat → Prop} {A B : World} {ro : Option Addr} {vs : List FV} {x : Bx} (h : RootX ok A ro vs x) (hs : Same ok A B) : RootX ok B ro vs x := by
  rcases h with h | ⟨d, q, us, e, hT, hp⟩
  · exact .inl h
  · exact .inr ⟨d, q, us, e, hT.same hs, hp⟩

theorem keepC_set1 (T : Nat) (w : World) (o : Nat) (u : Value) : KeepC T w (w.setCell ⟨T, o, none⟩ u) :=
  ⟨(below_set1 T w T o (Nat.le_refl _) u).size, fun b o' v hb e => by
    rw [World.cell?_setCell_far _ _ _ _ (fun h => hb h.symm)]
    exact e⟩

set_option maxRecDepth 100000 in
set_option maxHeartbeats 4000000 in
theorem Count_any (ok : Nat → Prop) (ro : Option Addr) (vs : List FV) (w : World) (hok : ∀ b, ok b → b < w.heap.size) (hR : RootT ok w ro vs) (hg : ∀ v ∈ vs, Good ok w v) (hn : vs.length ≤ 1000000000) :
    Calls Tryz.prog 49 #[.agg #[.pointer ro]] w fun e w' => e = .returned (.int .i64 (vs.length : Int)) ∧ Below w.heap.size w w' := by
  refine (callsIn_wide (n := 4)).1 ?_
  refine callsIn_of_wp_marks Tryz.func49 rfl trivial ?_ rfl
  simp only [Tryz.ntmps49, List.size_toArray, List.length_cons, List.length_nil, Nat.reduceAdd, Nat.reduceSub, Array.replicate_succ, Array.replicate_zero, List.push_toArray, List.append_toArray, List.nil_append, List.cons_append]
  have HR : Hid (RootT ok w ro vs) := hR
  clear hR
  gi_wp2_with (refine ⟨trivial, ?_⟩; gi_at_call 80; refine (callsIn_wide.2 (All_root ok ro vs _ (fun b hb => by have := hok b hb; simp; omega) (RootT.same HR.out (Same.of_below ((((Below.refl _ _).alloc (Nat.le_refl _) _).alloc (by simp) _)) hok)))).mono ?_; rintro e w1 ⟨Bt, x, rfl, ht1, ht2, ht3, ht4, ht5, hb1⟩)
  rw [World.size_alloc, World.size_alloc] at ht1 hb1
  have hB1 : Below w.heap.size w w1 := (((Below.refl _ _).alloc (Nat.le_refl _) _).alloc (by simp) _).trans (hb1.mono (by omega))
  have hs1 : w.heap.size + 2 ≤ w1.heap.size := by omega
  have hT0 : w1.cell? ⟨w.heap.size + 1, 0, none⟩ = some (.int .i64 0) := (hb1.cell (p := ⟨w.heap.size + 1, 0, none⟩) (show w.heap.size + 1 < w.heap.size + 1 + 1 by omega)).trans (by simp [go_sem])
  have hT1 : w1.frozen? ⟨w.heap.size + 1, 0, none⟩ = false := (hb1.frozen (p := ⟨w.heap.size + 1, 0, none⟩) (show w.heap.size + 1 < w.heap.size + 1 + 1 by omega)).trans (by simp [go_sem])
  refine wpIn_rangeFunc_ownH (F := Fence.wide) rfl (by omega) (gf := 125) (lb := #[.pointer (some ⟨Bt, 0, none⟩), .pointer (some ⟨Bt + 1, 0, none⟩)]) rfl trivial (enters_of Tryz.func125 (by kernel_rfl) rfl)
    (all_stops ok (Good ok w) (w.heap.size + 1) (w.heap.size + 2) _ Bt (Bt + 1) ro vs x w1 (fun b hb => by have := hok b hb; omega) (fun b hb => by have := hok b hb; omega) (by omega) hs1 ht3 ht4 (ht5.same (Same.of_below hb1 (fun b hb => by have := hok b hb; omega))) hg)
    keepC_t keepC_b (Below.refl _ _) (fun _ => rfl)
    (fun pre W => (W.cell? ⟨w.heap.size + 1, 0, none⟩ = some (.int .i64 (pre.length : Int)) ∧ W.frozen? ⟨w.heap.size + 1, 0, none⟩ = false) ∧ Below w.heap.size w W)
    (fun _ _ _ => False)
    (OwnFrom.and (Own.from (fun s A B row hs hg hr => ⟨cell_kept hs.1 hg hr, (frozen_kept hs.1 hg hr).trans hs.2⟩) _) (ownFrom_below (Nat.le_refl _) (by omega)))
    (fun _ _ _ _ _ hs _ _ => hs)
    ⟨⟨hT0, hT1⟩, hB1⟩
    (fun v a' W => a' = { tmps := #[.agg #[.pointer ro], .pointer (some ⟨w.heap.size, 0, none⟩), .int .i64 0, .pointer (some ⟨w.heap.size + 1, 0, none⟩), .agg #[.pointer ro], .func (.func 125) #[] #[.pointer (some ⟨Bt, 0, none⟩), .pointer (some ⟨Bt + 1, 0, none⟩)], encF v.1, undef, undef, undef], defers := [] })
    (fun v a' s A B row hs hg hr => hs)
    ?assign ?body ?done ?stop
  case assign =>
    rintro l pre v W K hI hK
    gi_wp2
    exact hK _ _ ((KeepsOthers.refl _).from _) (KeepC.refl _ _) hI (by simp)
  case body =>
    rintro l pre v a' W hl hr ⟨⟨hc, hf⟩, hBW⟩ rfl hlen
    have hT : w.heap.size + 1 < W.heap.size := cell_lt hc
    have hpl : (pre.length : Int) < 1000000000 := by omega
    gi_wp2
    refine ⟨(KeepsOthers.setCell _ _ _).from _, keepC_set1 _ _ _ _, ⟨?_, ?_⟩, hBW.trans (below_set1 _ _ _ _ (by omega) _)⟩
    · rw [cell_eq hc]
      simp
    · rw [World.frozen?_setCell]; exact hf
  case done =>
    rintro D ys W hD hys ⟨⟨hc, hf⟩, hBW⟩ hK
    have hl : ys.length = vs.length := by have := hys.length_eq; simpa using this
    rw [hl] at hc
    gi_wp2
    refine ⟨by simp, .inl ⟨_, _, rfl, run_takeDeferred hK, ?_⟩⟩
    exact ⟨_, results_tmp rfl _ _ _, rfl, hBW.trans (belowK_b (w := w) (Nat.le_refl _) W D _ _ (by omega) hK rfl rfl)⟩
  case stop =>
    rintro D c pre W _ _ h _
    exact h.elim

end Go.Proofs.YtenaepdmlknlcaaGreatDoor

namespace Go.Proofs.YtenaepdmlknlcaaGreatDoor
open Go.RowKit Go.Shelf

attribute [local go_sem] Oper.semAt_some

/-- A feature of this number, as a value. -/
def foundV (id : Int) (vs : List FV) (v : Value) : Prop :=
  (∃ u ∈ vs, u.f.id = id ∧ v = .tuple #[encF u, .bool true]) ∨ ((∀ u ∈ vs, u.f.id ≠ id) ∧ v = .tuple #[.agg #[.int .i64 0, .int .i64 0, .int .i64 0, .int .i64 0, .slice none 0 0], .bool false])

theorem cell_putObj {V : World} {D : Nat} (hD : V.heap[D]? = some (.deferred (some []))) {b i : Nat} {v : Value} (h : V.cell? ⟨b, i, none⟩ = some v) (o' : Obj) : (V.putObj D o').cell? ⟨b, i, none⟩ = some v :=
  cell_kept h (grownBy_putObj' V D o') (fun r e => by cases e; exact ⟨_, hD, rfl⟩)
/-- Find's end: what lies in the cells of the results. -/
theorem leaves224 {V V' : World} {a : Array Value} {D T : Nat} {v0 v1 v2 v3 v4 v5 : Value} (Q : Ending → World → Prop) (hD : V.heap[D]? = some (.deferred (some []))) (hq : Q5 V T v0 v1 v2 v3 v4) (hb : V.cell? ⟨T + 1, 0, none⟩ = some v5)
    (hQ : Q (.returned (.tuple #[.agg #[v0, v1, v2, v3, v4], v5])) (V.putObj D (.deferred none))) (hV : V' = V) (ha4 : a[4]? = some (.pointer (some ⟨T, 0, none⟩)) := by rfl) (ha5 : a[5]? = some (.pointer (some ⟨T + 1, 0, none⟩)) := by rfl) :
    LeavesInM Fence.wide 4 Tryz.prog Tryz.f224 a Q [] .returning (V'.putObj D (.deferred none)) := by
  subst hV
  have c0 := cell_putObj hD hq.c0 (.deferred none)
  have c1 := cell_putObj hD hq.c1 (.deferred none)
  have c2 := cell_putObj hD hq.c2 (.deferred none)
  have c3 := cell_putObj hD hq.c3 (.deferred none)
  have c4 := cell_putObj hD hq.c4 (.deferred none)
  have c5 := cell_putObj hD hb (.deferred none)
  refine ⟨.tuple #[.agg #[v0, v1, v2, v3, v4], v5], ?_, hQ⟩
  simp [results, Tryz.results224, go_sem, ha4, ha5, c0, c1, c2, c3, c4, c5]

set_option maxRecDepth 100000 in
set_option maxHeartbeats 4000000 in
theorem Find_any (ok : Nat → Prop) (ro : Option Addr) (vs : List FV) (id : Int) (w : World) (hok : ∀ b, ok b → b < w.heap.size) (hR : RootT ok w ro vs) (_hg : ∀ v ∈ vs, Good ok w v) :
    Calls Tryz.prog 224 #[.agg #[.pointer ro], .int .i64 id] w fun e w' => ∃ v, e = .returned v ∧ foundV id vs v ∧ Below w.heap.size w w' := by
  refine (callsIn_wide (n := 4)).1 ?_
  refine callsIn_of_wp_marks Tryz.func224 rfl trivial ?_ rfl
  simp only [Tryz.ntmps224, List.size_toArray, List.length_cons, List.length_nil, Nat.reduceAdd, Nat.reduceSub, Array.replicate_succ, Array.replicate_zero, List.push_toArray, List.append_toArray, List.nil_append, List.cons_append]
  have HR : Hid (RootT ok w ro vs) := hR
  clear hR
  have hB0 : ∀ o1 o2 o3 o4 : Obj, Below w.heap.size w ((((w.alloc o1).alloc o2).alloc o3).alloc o4) := fun o1 o2 o3 o4 => ((((Below.refl _ _).alloc (Nat.le_refl _) _).alloc (by simp) _).alloc (by simp <;> omega) _).alloc (by simp <;> omega) _
  gi_wp2_with (refine ⟨trivial, ?_⟩; gi_at_call 80; refine (callsIn_wide.2 (All_root ok ro vs _ (fun b hb => by have := hok b hb; simp; omega) (RootT.same HR.out (Same.of_below (hB0 _ _ _ _) hok)))).mono ?_; rintro e w1 ⟨Bt, x, rfl, ht1, ht2, ht3, ht4, ht5, hb1⟩)
  rw [World.size_alloc, World.size_alloc, World.size_alloc, World.size_alloc] at ht1 hb1
  have hB1 : Below w.heap.size w w1 := (hB0 _ _ _ _).trans (hb1.mono (by omega))
  have hs1 : w.heap.size + 4 ≤ w1.heap.size := by omega
  have h5 : Q5 w1 (w.heap.size + 1 + 1) (.int .i64 0) (.int .i64 0) (.int .i64 0) (.int .i64 0) (.slice none 0 0) := Q5.below hb1 (by omega) (by constructor <;> simp [go_sem])
  have hI0 : w1.cell? ⟨w.heap.size + 1, 0, none⟩ = some (.int .i64 id) := (hb1.cell (p := ⟨w.heap.size + 1, 0, none⟩) (show w.heap.size + 1 < _ by omega)).trans (by simp [go_sem])
  have hF0 : w1.cell? ⟨w.heap.size + 1 + 1 + 1, 0, none⟩ = some (.bool false) := (hb1.cell (p := ⟨w.heap.size + 1 + 1 + 1, 0, none⟩) (show w.heap.size + 1 + 1 + 1 < _ by omega)).trans (by simp [go_sem])
  have hF1 : w1.frozen? ⟨w.heap.size + 1 + 1 + 1, 0, none⟩ = false := (hb1.frozen (p := ⟨w.heap.size + 1 + 1 + 1, 0, none⟩) (show w.heap.size + 1 + 1 + 1 < _ by omega)).trans (by simp [go_sem])
  refine wpIn_rangeFunc_ownH (F := Fence.wide) rfl (by omega) (gf := 125) (lb := #[.pointer (some ⟨Bt, 0, none⟩), .pointer (some ⟨Bt + 1, 0, none⟩)]) rfl trivial (enters_of Tryz.func125 (by kernel_rfl) rfl)
    (all_stops ok (fun v => v ∈ vs) (w.heap.size + 1 + 1) (w.heap.size + 4) _ Bt (Bt + 1) ro vs x w1 (fun b hb => by have := hok b hb; omega) (fun b hb => by have := hok b hb; omega) (by omega) hs1 ht3 ht4 (ht5.same (Same.of_below hb1 (fun b hb => by have := hok b hb; omega))) (fun v hv => hv))
    keepC_t keepC_b (Below.refl _ _) (fun _ => rfl)
    (fun pre W => ((Q5 W (w.heap.size + 1 + 1) (.int .i64 0) (.int .i64 0) (.int .i64 0) (.int .i64 0) (.slice none 0 0) ∧ W.cell? ⟨w.heap.size + 1, 0, none⟩ = some (.int .i64 id) ∧ W.cell? ⟨w.heap.size + 1 + 1 + 1, 0, none⟩ = some (.bool false) ∧ W.frozen? ⟨w.heap.size + 1 + 1 + 1, 0, none⟩ = false) ∧ Below w.heap.size w W) ∧ ∀ u ∈ pre, u.1.f.id ≠ id)
    (fun c _ W => ((∃ u ∈ vs, u.f.id = id ∧ Q5 W (w.heap.size + 1 + 1) (.int .i64 u.f.id) (.int .i64 u.f.kd) (.int .i64 u.f.ht) (.int .i64 u.f.col) (.slice (some ⟨u.pb, u.po, none⟩) u.f.ps.length u.cap) ∧ W.cell? ⟨w.heap.size + 1 + 1 + 1, 0, none⟩ = some (.bool true)) ∧ Below w.heap.size w W) ∧ c = .ret)
    (OwnFrom.and (OwnFrom.and (Own.from (fun s A B row hs hg hr => ⟨hs.1.kept hg hr, cell_kept hs.2.1 hg hr, cell_kept hs.2.2.1 hg hr, (frozen_kept hs.2.2.1 hg hr).trans hs.2.2.2⟩) _) (ownFrom_below (Nat.le_refl _) (by omega))) (fun _ _ _ _ hs _ _ => hs))
    (fun c => OwnFrom.and (OwnFrom.and (Own.from (fun s A B row hs hg hr => by obtain ⟨u, h1, h2, h3, h4⟩ := hs; exact ⟨u, h1, h2, h3.kept hg hr, cell_kept h4 hg hr⟩) _) (ownFrom_below (Nat.le_refl _) (by omega))) (fun _ _ _ _ hs _ _ => hs))
    ⟨⟨⟨h5, hI0, hF0, hF1⟩, hB1⟩, fun u hu => by cases hu⟩
    (fun v a' W => ∃ Bv, w.heap.size + 1 + 1 + 1 < Bv ∧ Q5 W Bv (.int .i64 v.1.f.id) (.int .i64 v.1.f.kd) (.int .i64 v.1.f.ht) (.int .i64 v.1.f.col) (.slice (some ⟨v.1.pb, v.1.po, none⟩) v.1.f.ps.length v.1.cap) ∧
      a' = { tmps := #[.agg #[.pointer ro], .int .i64 id, .pointer (some ⟨w.heap.size, 0, none⟩), .pointer (some ⟨w.heap.size + 1, 0, none⟩), .pointer (some ⟨w.heap.size + 1 + 1, 0, none⟩), .pointer (some ⟨w.heap.size + 1 + 1 + 1, 0, none⟩), .pointer (some ⟨Bv, 0, none⟩), .agg #[.pointer ro], .func (.func 125) #[] #[.pointer (some ⟨Bt, 0, none⟩), .pointer (some ⟨Bt + 1, 0, none⟩)], .agg #[.int .i64 v.1.f.id, .int .i64 v.1.f.kd, .int .i64 v.1.f.ht, .int .i64 v.1.f.col, .slice (some ⟨v.1.pb, v.1.po, none⟩) v.1.f.ps.length v.1.cap], undef, undef, undef, undef, undef, undef], defers := [] })
    (fun v a' s A B row hs hg hr => by obtain ⟨Bv, h1, h2, h3⟩ := hs; exact ⟨Bv, h1, h2.kept hg (fun r e => (hr r e).2), h3⟩)
    ?assign ?body ?done ?stop
  case assign =>
    rintro l pre v W K ⟨⟨⟨hq5, hi, hb, hbf⟩, hBW⟩, hne⟩ hK
    simp only [encF]
    gi_wp2
    have hal : Below W.heap.size W (W.alloc (.cells #[.int .i64 v.1.f.id, .int .i64 v.1.f.kd, .int .i64 v.1.f.ht, .int .i64 v.1.f.col, .slice (some ⟨v.1.pb, v.1.po, none⟩) v.1.f.ps.length v.1.cap] 32)) := (Below.refl _ _).alloc (Nat.le_refl _) _
    refine hK _ _ ((KeepsOthers.alloc _ _).from _) (KeepC.of_below hal) ⟨⟨⟨hq5.below hal (cell_lt hq5.c0), (hal.cell (p := ⟨w.heap.size + 1, 0, none⟩) (cell_lt hi)).trans hi, (hal.cell (p := ⟨w.heap.size + 1 + 1 + 1, 0, none⟩) (cell_lt hb)).trans hb, (hal.frozen (p := ⟨w.heap.size + 1 + 1 + 1, 0, none⟩) (cell_lt hb)).trans hbf⟩, hBW.alloc hBW.size _⟩, hne⟩ ⟨W.heap.size, cell_lt hb, Q5.new _ _ _ _ _ _ _, rfl⟩
  case body =>
    rintro l pre v a' W hl hr ⟨⟨⟨hq5, hi, hb, hbf⟩, hBW⟩, hne⟩ ⟨Bv, hBv, hv5, rfl⟩ hlen
    have hT : w.heap.size + 1 + 1 < W.heap.size := cell_lt hq5.c0
    have hBvlt : Bv < W.heap.size := cell_lt hv5.c0
    have HBW : Hid (Below w.heap.size w W) := hBW
    have HQ : Hid _ := hq5
    obtain ⟨c0, c1, c2, c3, c4, f0, f1, f2, f3, f4⟩ := hq5
    obtain ⟨e0, e1, e2, e3, e4, _, _, _, _, _⟩ := hv5
    by_cases hid : v.1.f.id = id
    · have hbe : (v.1.f.id == id) = true := by simp [hid]
      gi_wp2
      refine ⟨((keepsFrom_set5 _ _ _ _ _ _ _ _).trans ((KeepsOthers.setCell _ _ _).from _)), ⟨⟨v.1, v.2, hid, ?_, ?_⟩, ?_⟩, rfl⟩
      · rw [hid]
        exact (HQ.out.set (.int .i64 id) (.int .i64 v.1.f.kd) (.int .i64 v.1.f.ht) (.int .i64 v.1.f.col) (.slice (some ⟨v.1.pb, v.1.po, none⟩) v.1.f.ps.length v.1.cap)).below (below_set1 (w.heap.size + 1 + 1 + 1) _ _ _ (Nat.le_refl _) _) (by omega)
      · refine cell_eq (v := .bool false) ?_ _
        exact (keepC_set5 (T := w.heap.size + 1 + 1) W _ _ _ _ _).2 _ _ _ (by omega) hb
      · exact (HBW.out.trans (below_set5 w.heap.size _ _ (by omega) _ _ _ _ _)).trans (below_set1 _ _ _ _ (by omega) _)
    · have hbe : (v.1.f.id == id) = false := by simp [hid]
      gi_wp2
      refine ⟨(KeepsOthers.refl _).from _, KeepC.refl _ _, ⟨⟨HQ.out, hi, hb, hbf⟩, HBW.out⟩, fun u hu => ?_⟩
      rcases List.mem_append.1 hu with hu | hu
      · exact hne u hu
      · simp at hu; subst hu; exact hid
  case done =>
    rintro D ys W hD hys ⟨⟨⟨hq5, hi, hb, hbf⟩, hBW⟩, hne⟩ hK
    have Hys : Hid (∀ u ∈ vs, u.f.id ≠ id) := fun u hu => by
      obtain ⟨z, hz, rfl⟩ := List.mem_map.1 (hys.mem_iff.2 hu)
      exact hne z hz
    have HBW : Hid (Below w.heap.size w W) := hBW
    obtain ⟨c0, c1, c2, c3, c4, f0, f1, f2, f3, f4⟩ := hq5
    clear hys hne hBW
    have hK' : ∀ u0 u1 u2 u3 u4 u5 : Value, ((set5 W (w.heap.size + 1 + 1) u0 u1 u2 u3 u4).setCell ⟨w.heap.size + 1 + 1 + 1, 0, none⟩ u5).heap[D]? = some (.deferred (some [])) := fun u0 u1 u2 u3 u4 u5 => by
      have h1 : Below (w.heap.size + 1 + 1) W W := Below.refl _ _
      simp only [set5]
      iterate 6 rw [Below.heap_setCell _ _ _ _ (fun e => by simp only at e; omega)]
      exact hK
    gi_wp2
    have hne : w.heap.size + 1 + 1 + 1 < D := by omega
    refine ⟨by simp, .inl ⟨_, _, rfl, run_takeDeferred (hK' _ _ _ _ _ _), ?_⟩⟩
    have hq' := (Q5.mk c0 c1 c2 c3 c4 f0 f1 f2 f3 f4).set (.int .i64 0) (.int .i64 0) (.int .i64 0) (.int .i64 0) (.slice none 0 0)
    have hq2 := hq'.below (below_set1 (w.heap.size + 1 + 1 + 1) _ (w.heap.size + 1 + 1 + 1) 0 (Nat.le_refl _) (.bool false)) (by omega)
    have hb2 : ((set5 W (w.heap.size + 1 + 1) (.int .i64 0) (.int .i64 0) (.int .i64 0) (.int .i64 0) (.slice none 0 0)).setCell ⟨w.heap.size + 1 + 1 + 1, 0, none⟩ (.bool false)).cell? ⟨w.heap.size + 1 + 1 + 1, 0, none⟩ = some (.bool false) := cell_eq (v := .bool false) ((keepC_set5 (T := w.heap.size + 1 + 1) W _ _ _ _ _).2 _ _ _ (by omega) hb) _
    have hBf := (HBW.out.trans (below_set5 w.heap.size W (w.heap.size + 1 + 1) (by omega) (.int .i64 0) (.int .i64 0) (.int .i64 0) (.int .i64 0) (.slice none 0 0))).trans (below_set1 _ _ (w.heap.size + 1 + 1 + 1) 0 (by omega) (.bool false))
    have hD2 := hK' (.int .i64 0) (.int .i64 0) (.int .i64 0) (.int .i64 0) (.slice none 0 0) (.bool false)
    obtain ⟨V, hV⟩ : ∃ V, (set5 W (w.heap.size + 1 + 1) (.int .i64 0) (.int .i64 0) (.int .i64 0) (.int .i64 0) (.slice none 0 0)).setCell ⟨w.heap.size + 1 + 1 + 1, 0, none⟩ (.bool false) = V := ⟨_, rfl⟩
    rw [hV] at hq2 hb2 hBf hD2
    refine leaves224 (V := V) (fun e w' => ∃ v, e = Ending.returned v ∧ foundV id vs v ∧ Below w.heap.size w w') hD2 hq2 hb2 ?_ hV
    exact ⟨_, rfl, .inr ⟨Hys.out, rfl⟩, hBf.trans (belowK_b (w := w) (Nat.le_refl _) V D _ _ (by omega) hD2 rfl rfl)⟩
  case stop =>
    rintro D c pre W hD _ ⟨⟨⟨u, hu, hid, hq5, hb⟩, hBW⟩, rfl⟩ hK
    obtain ⟨c0, c1, c2, c3, c4, f0, f1, f2, f3, f4⟩ := hq5
    gi_wp2
    refine ⟨by simp, .inl ⟨_, _, rfl, run_takeDeferred hK, ?_⟩⟩
    refine leaves224 (V := W) (fun e w' => ∃ v, e = Ending.returned v ∧ foundV id vs v ∧ Below w.heap.size w w') hK (Q5.mk c0 c1 c2 c3 c4 f0 f1 f2 f3 f4) hb ?_ rfl
    exact ⟨_, rfl, .inl ⟨u, hu, hid, rfl⟩, hBW.trans (belowK_b (w := w) (Nat.le_refl _) W D _ _ (by omega) hK rfl rfl)⟩

end Go.Proofs.YtenaepdmlknlcaaGreatDoor
