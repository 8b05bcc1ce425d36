import Derived.Test.YtenaepdmlknlcaaGreatDoorF23
import Derived.Test.YtenaepdmlknlcaaGreatDoorF21
import Derived.Test.YtenaepdmlknlcaaGreatDoorF22
namespace Go.Proofs.YtenaepdmlknlcaaGreatDoor
open Go.RowKit Go.Shelf

attribute [local go_sem] Oper.semAt_some

theorem RootT.perm {ok : Nat → Prop} {w : World} {ro : Option Addr} {vs us : List FV} (h : RootT ok w ro vs) (hp : vs.Perm us) : RootT ok w ro us := by
  rcases h with ⟨rfl, rfl⟩ | ⟨d, q, x, ys, rfl, hT, hq⟩
  · exact .inl ⟨rfl, hp.nil_eq.symm⟩
  · exact .inr ⟨d, q, x, ys, rfl, hT, hq.trans hp⟩
/-- The rest of a tree, as far as it was put in anew. -/
def RestAt (ok : Nat → Prop) (n : Nat) (W : World) (us : List FV) : Prop :=
  ∃ ro1, W.cell? ⟨n + 1 + 1 + 1, 0, none⟩ = some (.pointer ro1) ∧ W.frozen? ⟨n + 1 + 1 + 1, 0, none⟩ = false ∧ RootT (fun b => ok b ∨ (n + 3 < b ∧ b < W.heap.size)) W ro1 us
theorem RestAt.lt {ok : Nat → Prop} {n : Nat} {W : World} {us : List FV} (h : RestAt ok n W us) : n + 1 + 1 + 1 < W.heap.size := by
  obtain ⟨ro1, h1, _⟩ := h
  exact cell_lt h1
theorem RestAt.kept {ok : Nat → Prop} {n : Nat} {A B : World} {row : Option Nat} {us : List FV} (h : RestAt ok n A us) (hg : A.grownBy B row) (hr : ∀ r, row = some r → ∃ o : Obj, A.heap[r]? = some o ∧ o.isCells = false) : RestAt ok n B us := by
  obtain ⟨ro1, h1, h2, h3⟩ := h
  refine ⟨ro1, cell_kept h1 hg hr, (frozen_kept h1 hg hr).trans h2, ?_⟩
  have hs : A.heap.size ≤ B.heap.size := hg.size
  exact RootT.mono (RootT.same h3 (fun b o v _ e => cell_kept e hg hr)) (fun b hb => hb.imp (fun h => h) (fun h => ⟨h.1, Nat.lt_of_lt_of_le h.2 hs⟩))

set_option maxRecDepth 100000 in
set_option maxHeartbeats 4000000 in
theorem Without_any (ok : Nat → Prop) (ro : Option Addr) (vs : List FV) (id : Int) (w : World) (hok : ∀ b, ok b → b < w.heap.size) (hR : RootT ok w ro vs) (hg : ∀ v ∈ vs, Good ok w v) :
    Calls Tryz.prog 225 #[.agg #[.pointer ro], .int .i64 id] w fun e w' => ∃ ro', e = .returned (.agg #[.pointer ro']) ∧ RootT (okN ok w.heap.size w'.heap.size) w' ro' (vs.filter fun v => !(v.f.id == id)) ∧ Below w.heap.size w w' := by
  refine (callsIn_wide (n := 4)).1 ?_
  refine callsIn_of_wp_marks Tryz.func225 rfl trivial ?_ rfl
  simp only [Tryz.ntmps225, List.size_toArray, List.length_cons, List.length_nil, Nat.reduceAdd, Nat.reduceSub, Array.replicate_succ, Array.replicate_zero, List.push_toArray, List.append_toArray, List.nil_append, List.cons_append]
  have HR : Hid (RootT ok w ro vs) := hR
  clear hR
  have hB0 : ∀ o1 o2 o3 o4 : Obj, Below w.heap.size w ((((w.alloc o1).alloc o2).alloc o3).alloc o4) := fun o1 o2 o3 o4 => ((((Below.refl _ _).alloc (Nat.le_refl _) _).alloc (by simp) _).alloc (by simp <;> omega) _).alloc (by simp <;> omega) _
  gi_wp2_with (refine ⟨trivial, ?_⟩; gi_at_call 80; refine (callsIn_wide.2 (All_root ok ro vs _ (fun b hb => by have := hok b hb; simp; omega) (RootT.same HR.out (Same.of_below (hB0 _ _ _ _) hok)))).mono ?_; rintro e w1 ⟨Bt, x, rfl, ht1, ht2, ht3, ht4, ht5, hb1⟩)
  rw [World.size_alloc, World.size_alloc, World.size_alloc, World.size_alloc] at ht1 hb1
  have hB1 : Below w.heap.size w w1 := (hB0 _ _ _ _).trans (hb1.mono (by omega))
  have hs1 : w.heap.size + 4 ≤ w1.heap.size := by omega
  have hI0 : w1.cell? ⟨w.heap.size + 1, 0, none⟩ = some (.int .i64 id) := (hb1.cell (p := ⟨w.heap.size + 1, 0, none⟩) (show w.heap.size + 1 < _ by omega)).trans (by simp [go_sem])
  have hF0 : w1.cell? ⟨w.heap.size + 1 + 1, 0, none⟩ = some (.pointer none) := (hb1.cell (p := ⟨w.heap.size + 1 + 1, 0, none⟩) (show w.heap.size + 1 + 1 < _ by omega)).trans (by simp [go_sem])
  have hF1 : w1.frozen? ⟨w.heap.size + 1 + 1, 0, none⟩ = false := (hb1.frozen (p := ⟨w.heap.size + 1 + 1, 0, none⟩) (show w.heap.size + 1 + 1 < _ by omega)).trans (by simp [go_sem])
  have hT0 : w1.cell? ⟨w.heap.size + 1 + 1 + 1, 0, none⟩ = some (.pointer none) := (hb1.cell (p := ⟨w.heap.size + 1 + 1 + 1, 0, none⟩) (show w.heap.size + 1 + 1 + 1 < _ by omega)).trans (by simp [go_sem])
  have hT1 : w1.frozen? ⟨w.heap.size + 1 + 1 + 1, 0, none⟩ = false := (hb1.frozen (p := ⟨w.heap.size + 1 + 1 + 1, 0, none⟩) (show w.heap.size + 1 + 1 + 1 < _ by omega)).trans (by simp [go_sem])
  refine wpIn_rangeFunc_ownH (F := Fence.wide) rfl (by omega) (gf := 125) (lb := #[.pointer (some ⟨Bt, 0, none⟩), .pointer (some ⟨Bt + 1, 0, none⟩)]) rfl trivial (enters_of Tryz.func125 (by kernel_rfl) rfl)
    (all_stops ok (Good ok w) (w.heap.size + 1 + 1 + 1) (w.heap.size + 4) _ Bt (Bt + 1) ro vs x w1 (fun b hb => by have := hok b hb; omega) (fun b hb => by have := hok b hb; omega) (by omega) hs1 ht3 ht4 (ht5.same (Same.of_below hb1 (fun b hb => by have := hok b hb; omega))) hg)
    keepC_t keepC_b (Below.refl _ _) (fun _ => rfl)
    (fun pre W => ((W.cell? ⟨w.heap.size + 1, 0, none⟩ = some (.int .i64 id) ∧ W.cell? ⟨w.heap.size + 1 + 1, 0, none⟩ = some (.pointer none) ∧ W.frozen? ⟨w.heap.size + 1 + 1, 0, none⟩ = false ∧ RestAt ok w.heap.size W ((pre.map Subtype.val).filter fun v => !(v.f.id == id))) ∧ Below w.heap.size w W))
    (fun _ _ _ => False)
    (OwnFrom.and (Own.from (fun s A B row hs hg hr => ⟨cell_kept hs.1 hg hr, cell_kept hs.2.1 hg hr, (frozen_kept hs.2.1 hg hr).trans hs.2.2.1, hs.2.2.2.kept hg hr⟩) _) (ownFrom_below (Nat.le_refl _) (by omega)))
    (fun _ _ _ _ _ hs _ _ => hs)
    ⟨⟨hI0, hF0, hF1, ⟨none, hT0, hT1, .inl ⟨rfl, rfl⟩⟩⟩, hB1⟩
    (fun v a' W => ∃ Bv, w.heap.size + 1 + 1 + 1 < Bv ∧ Q5 W Bv (.int .i64 v.1.f.id) (.int .i64 v.1.f.kd) (.int .i64 v.1.f.ht) (.int .i64 v.1.f.col) (.slice (some ⟨v.1.pb, v.1.po, none⟩) v.1.f.ps.length v.1.cap) ∧
      a' = { tmps := #[.agg #[.pointer ro], .int .i64 id, .pointer (some ⟨w.heap.size, 0, none⟩), .pointer (some ⟨w.heap.size + 1, 0, none⟩), .pointer (some ⟨w.heap.size + 1 + 1, 0, none⟩), .pointer (some ⟨w.heap.size + 1 + 1 + 1, 0, none⟩), .pointer (some ⟨Bv, 0, none⟩), .agg #[.pointer ro], .func (.func 125) #[] #[.pointer (some ⟨Bt, 0, none⟩), .pointer (some ⟨Bt + 1, 0, none⟩)], .agg #[.int .i64 v.1.f.id, .int .i64 v.1.f.kd, .int .i64 v.1.f.ht, .int .i64 v.1.f.col, .slice (some ⟨v.1.pb, v.1.po, none⟩) v.1.f.ps.length v.1.cap], undef, undef, undef, undef, undef, undef, undef, undef], defers := [] })
    (fun v a' s A B row hs hg hr => by obtain ⟨Bv, h1, h2, h3⟩ := hs; exact ⟨Bv, h1, h2.kept hg (fun r e => (hr r e).2), h3⟩)
    ?assign ?body ?done ?stop
  case assign =>
    rintro l pre v W K ⟨⟨hi, hb, hbf, hrest⟩, hBW⟩ hK
    simp only [encF]
    gi_wp2
    have hal : Below W.heap.size W (W.alloc (.cells #[.int .i64 v.1.f.id, .int .i64 v.1.f.kd, .int .i64 v.1.f.ht, .int .i64 v.1.f.col, .slice (some ⟨v.1.pb, v.1.po, none⟩) v.1.f.ps.length v.1.cap] 32)) := (Below.refl _ _).alloc (Nat.le_refl _) _
    refine hK _ _ ((KeepsOthers.alloc _ _).from _) (KeepC.of_below hal) ⟨⟨(hal.cell (p := ⟨w.heap.size + 1, 0, none⟩) (cell_lt hi)).trans hi, (hal.cell (p := ⟨w.heap.size + 1 + 1, 0, none⟩) (cell_lt hb)).trans hb, (hal.frozen (p := ⟨w.heap.size + 1 + 1, 0, none⟩) (cell_lt hb)).trans hbf, hrest.kept (grown_of_below hal) (fun r e => by cases e)⟩, hBW.alloc hBW.size _⟩ ⟨W.heap.size, hrest.lt, Q5.new _ _ _ _ _ _ _, rfl⟩
  case body =>
    rintro l pre v a' W hl hr ⟨⟨hi, hb, hbf, hrest⟩, hBW⟩ ⟨Bv, hBv, hv5, rfl⟩ hlen
    have hBvlt : Bv < W.heap.size := cell_lt hv5.c0
    have HBW : Hid (Below w.heap.size w W) := hBW
    have hgv : Good ok w v.1 := v.2
    have HRest : Hid (RestAt ok w.heap.size W ((pre.map Subtype.val).filter fun v => !(v.f.id == id))) := hrest
    obtain ⟨e0, e1, e2, e3, e4, _, _, _, _, _⟩ := hv5
    by_cases hid : v.1.f.id = id
    · have hbe : (v.1.f.id == id) = true := by simp [hid]
      gi_wp2
      refine ⟨(KeepsOthers.refl _).from _, KeepC.refl _ _, ⟨hi, hb, hbf, ?_⟩, HBW.out⟩
      have e : (pre ++ [v]).map Subtype.val = pre.map Subtype.val ++ [v.1] := by simp
      rw [e, List.filter_append]
      simpa [hid] using HRest.out
    · have hbe : (v.1.f.id == id) = false := by simp [hid]
      obtain ⟨ro1, ht, htf, hroot⟩ := hrest
      have HRoot : Hid (RootT (fun b => ok b ∨ (w.heap.size + 3 < b ∧ b < W.heap.size)) W ro1 ((pre.map Subtype.val).filter fun v => !(v.f.id == id))) := hroot
      have HC : Hid (∀ W', Below W.heap.size W W' → Calls Tryz.prog 31 #[.agg #[.pointer ro1], .agg #[.int .i64 v.1.f.id, .int .i64 v.1.f.kd, .int .i64 v.1.f.ht, .int .i64 v.1.f.col, .slice (some ⟨v.1.pb, v.1.po, none⟩) v.1.f.ps.length v.1.cap]] W' fun e w' => ∃ ro' : Option Addr, e = .returned (.agg #[.pointer ro']) ∧ RootT (okN (fun b => ok b ∨ (w.heap.size + 3 < b ∧ b < W.heap.size)) W'.heap.size w'.heap.size) w' ro' ((pre.map Subtype.val).filter (fun v => !(v.f.id == id)) ++ [v.1]) ∧ Below W'.heap.size W' w') := fun W' hW' => by
        have hb' : Below w.heap.size w W' := hBW.trans (hW'.mono hBW.size)
        refine With_any _ v.1 ro1 _ W' (HRoot.out.same (Same.of_below hW' (fun b hb => ?_))) (fun u hu => ?_) hgv.1 (fun b hb => ?_) (.inl hgv.2.1) ⟨Nat.lt_of_lt_of_le (hok _ hgv.2.1) hb'.size, fun k a b e => ?_⟩ hgv.2.2.1
        · rcases hb with hb | hb
          · exact Nat.lt_of_lt_of_le (hok b hb) hBW.size
          · exact hb.2
        · obtain ⟨z, hz, rfl⟩ := List.mem_map.1 (List.mem_filter.1 hu).1
          exact z.2.1
        · have := hW'.size
          have := hb'.size
          rcases hb with hb | hb
          · have := hok b hb; omega
          · omega
        · have := hgv.2.2.2 k a b e
          exact ⟨(hb'.cell (p := ⟨v.1.pb, v.1.po + k * 2, none⟩) (hok _ hgv.2.1)).trans this.1, (hb'.cell (p := ⟨v.1.pb, v.1.po + k * 2 + 1, none⟩) (hok _ hgv.2.1)).trans this.2⟩
      clear hroot hBW hgv
      have hTlt : w.heap.size + 1 + 1 + 1 < W.heap.size := cell_lt ht
      gi_wp2_with (refine ⟨trivial, ?_⟩; gi_at_call 31; refine (CallsIn.inRound l (callsIn_wide.2 (HC.out _ (Below.refl _ _)))).mono ?_; rintro e w2 ⟨ro2, rfl, hroot2, hb2⟩; have HRoot2 : Hid _ := hroot2; clear hroot2; have ht2' := (hb2.cell (p := ⟨w.heap.size + 1 + 1 + 1, 0, none⟩) hTlt).trans ht; have htf2 := (hb2.frozen (p := ⟨w.heap.size + 1 + 1 + 1, 0, none⟩) hTlt).trans htf)
      have hz2 := hb2.size
      refine ⟨((KeepsFrom.of_grownBy (grown_of_below hb2) (fun j e => by cases e)).trans ((KeepsOthers.setCell _ _ _).from _)), (KeepC.of_below hb2).trans (keepC_set1 _ _ _ _), ⟨?_, ?_, ?_, ⟨ro2, cell_eq ht2' _, by rw [World.frozen?_setCell]; exact htf2, ?_⟩⟩, (HBW.out.trans (hb2.mono HBW.out.size)).trans (below_set1 _ _ _ _ (by omega) _)⟩
      · exact (cell_ne _ _ (.inl (by omega))).trans ((hb2.cell (p := ⟨w.heap.size + 1, 0, none⟩) (show w.heap.size + 1 < W.heap.size by omega)).trans hi)
      · exact (cell_ne _ _ (.inl (by omega))).trans ((hb2.cell (p := ⟨w.heap.size + 1 + 1, 0, none⟩) (show w.heap.size + 1 + 1 < W.heap.size by omega)).trans hb)
      · rw [World.frozen?_setCell]
        exact (hb2.frozen (p := ⟨w.heap.size + 1 + 1, 0, none⟩) (show w.heap.size + 1 + 1 < W.heap.size by omega)).trans hbf
      · have e : (pre ++ [v]).map Subtype.val = pre.map Subtype.val ++ [v.1] := by simp
        rw [e, List.filter_append]
        have h1 := RootT.same HRoot2.out (same_set w2 (w.heap.size + 1 + 1 + 1) 0 (.pointer ro2) (by
          rintro ((h | h) | h)
          · have := hok _ h; omega
          · omega
          · omega))
        simp only [List.filter_cons, hbe, Bool.not_false, if_true, List.filter_nil]
        refine h1.mono fun b hb => ?_
        have hsz : (w2.setCell ⟨w.heap.size + 1 + 1 + 1, 0, none⟩ (.pointer ro2)).heap.size = w2.heap.size := by simp [World.setCell]
        rw [hsz]
        rcases hb with (h | h) | h
        · exact .inl h
        · exact .inr ⟨h.1, by omega⟩
        · exact .inr ⟨by omega, h.2⟩
  case done =>
    rintro D ys W hD hys ⟨⟨hi, hb, hbf, hrest⟩, hBW⟩ hK
    obtain ⟨ro1, ht, htf, hroot⟩ := hrest
    have HRoot : Hid (RootT (fun b => ok b ∨ (w.heap.size + 3 < b ∧ b < W.heap.size)) W ro1 (vs.filter fun v => !(v.f.id == id))) := RootT.perm hroot (hys.filter _)
    clear hroot hys
    gi_wp2
    refine ⟨by simp, .inl ⟨_, _, rfl, run_takeDeferred ((Below.heap_setCell _ _ _ _ (fun e => by simp only at e; omega)).trans hK), ?_⟩⟩
    have hD2 : (W.setCell ⟨w.heap.size + 1 + 1, 0, none⟩ (.pointer ro1)).heap[D]? = some (.deferred (some [])) := (Below.heap_setCell _ _ _ _ (fun e => by simp only at e; omega)).trans hK
    have hc2 := cell_putObj hD2 (cell_eq hb (.pointer ro1)) (.deferred none)
    have hsz : W.heap.size ≤ ((W.setCell ⟨w.heap.size + 1 + 1, 0, none⟩ (.pointer ro1)).putObj D (.deferred none)).heap.size := by simp [World.setCell, World.putObj]
    refine ⟨.agg #[.pointer ro1], by simp [results, Tryz.results225, go_sem, hc2], ro1, rfl, ?_, ?_⟩
    · refine RootT.mono (RootT.same HRoot.out (fun b o v hb' e => cell_putObj hD2 (same_set (ok := fun b => ok b ∨ (w.heap.size + 3 < b ∧ b < W.heap.size)) W (w.heap.size + 1 + 1) 0 (.pointer ro1) (by
          rintro (h | h)
          · have := hok _ h; omega
          · omega) b o v hb' e) _)) (fun b hb' => hb'.imp (fun h => h) (fun h => ⟨by omega, by omega⟩))
    · exact (hBW.trans (below_set1 _ _ _ _ (by omega) _)).trans (belowK_b (w := w) (Nat.le_refl _) _ D _ _ (by omega) hD2 rfl rfl)
  case stop =>
    rintro D c pre W _ _ h _
    exact h.elim

end Go.Proofs.YtenaepdmlknlcaaGreatDoor

namespace Go.Proofs.YtenaepdmlknlcaaGreatDoor
open Go.RowKit Go.Shelf

def flatB : List Bx → List Value
  | [] => []
  | b :: bs => .int .i64 b.l :: .int .i64 b.t :: .int .i64 b.r :: .int .i64 b.b :: flatB bs
theorem info141 : (Tryz.prog.info? 141).map (fun i => (i.zero, i.size, i.bytes)) = some (some (.agg #[.int .i64 0, .int .i64 0, .int .i64 0, .int .i64 0]), 4, 32) := by kernel_rfl

theorem find_mem {fs : List Feat} (hd : DistF fs) {f : Feat} (hf : f ∈ fs) : findF f.id fs = some f := by
  unfold findF
  induction fs with
  | nil => cases hf
  | cons g r ih =>
    have hd' := List.nodup_cons.1 (show (g.id :: r.map (·.id)).Nodup from hd)
    rw [List.find?_cons]
    rcases List.mem_cons.1 hf with rfl | hf
    · simp
    · have : ¬ g.id = f.id := fun e => hd'.1 (by rw [e]; exact List.mem_map_of_mem hf)
      rw [show (g.id == f.id) = false by simp [this]]
      exact ih hd'.2 hf
theorem find_not {fs : List Feat} {id : Int} (h : ∀ f ∈ fs, f.id ≠ id) : findF id fs = none := by
  unfold findF
  rw [List.find?_eq_none]
  intro f hf
  simp [h f hf]
theorem hasF_mem {fs : List Feat} {f : Feat} (hf : f ∈ fs) : hasF f.id fs = true := by
  unfold hasF
  rw [List.any_eq_true]
  exact ⟨f, hf, by simp⟩
theorem hasF_not {fs : List Feat} {id : Int} (h : ∀ f ∈ fs, f.id ≠ id) : hasF id fs = false := by
  unfold hasF
  rw [List.any_eq_false]
  intro f hf
  simp [h f hf]

theorem neq_ptr (w : World) (a : Addr) : Sem.run Tryz.prog (binOp BinOp.neq 292 (.pointer (some a)) (.pointer none)) w = .ok (.bool true) w := by kernel_rfl
theorem valid_len {f : Feat} (h : validF f = true) : 1 ≤ f.ps.length ∧ f.ps.length ≤ 6 := by
  simp only [validF, Bool.and_eq_true, mayB, decide_eq_true_eq] at h
  omega

theorem ownsRow_belowA {A B : World} (h : Below A.heap.size A B) {base : Nat} {e : TypeId} {size : Nat} {v : Value} {n : Nat} {xs : List Value} (o : A.ownsRow base e size v n xs) (ob : Obj) : (B.alloc ob).ownsRow base e size v n xs :=
  (ownsRow_fr' (M := fun _ _ => False) (Fr.of_below h) o (fun _ _ _ e => e)).alloc ob

set_option maxRecDepth 100000 in
set_option maxHeartbeats 1000000 in
/-- The boxes of a put, of which there is nothing yet. -/
theorem boxes_any (I : Nat → Prop) (id z : Int) (a : Option Addr) (p : Option Feat) (ro : Option Addr) (vs : List FV) (w : World) (hI : ∀ b, I b → b < w.heap.size) (hp : PutAt I w a p) (hR : RootT I w ro vs) (hg : ∀ v ∈ vs, Good I w v) (hd : DistF (vs.map (·.f))) :
    Calls Tryz.prog 207 #[chgV id a z, .agg #[.pointer ro]] w fun e w' => ∃ v, e = .returned v ∧ w'.ownsRow w.heap.size 141 4 v (boxesF p (vs.map (·.f)) id).length (flatB (boxesF p (vs.map (·.f)) id)) ∧ Below w.heap.size w w' := by
  have HR : Hid (RootT I w ro vs) := hR
  have HG : Hid (∀ v ∈ vs, Good I w v) := hg
  have hF : ∀ W : World, Below w.heap.size w W → Calls Tryz.prog 224 #[.agg #[.pointer ro], .int .i64 id] W fun e w' => ((∃ u ∈ vs, findF id (vs.map (·.f)) = some u.f ∧ e = .returned (.tuple #[encF u, .bool true])) ∨ (findF id (vs.map (·.f)) = none ∧ e = .returned (.tuple #[.agg #[.int .i64 0, .int .i64 0, .int .i64 0, .int .i64 0, .slice none 0 0], .bool false]))) ∧ Below W.heap.size W w' := fun W hW => by
    refine (Find_any I ro vs id W (fun b hb => Nat.lt_of_lt_of_le (hI b hb) hW.size) (RootT.same hR (Same.of_below hW hI)) (fun v hv => Good.below hW hI (hg v hv))).mono ?_
    rintro e w' ⟨v, rfl, hv, hb⟩
    refine ⟨?_, hb⟩
    rcases hv with ⟨u, hu, hid, rfl⟩ | ⟨hn, rfl⟩
    · left
      refine ⟨u, hu, ?_, rfl⟩
      rw [← hid]
      exact find_mem hd (List.mem_map_of_mem (f := (·.f)) hu)
    · right
      refine ⟨find_not fun f hf => ?_, rfl⟩
      obtain ⟨u, hu, rfl⟩ := List.mem_map.1 hf
      exact hn u hu
  have HF : Hid _ := hF
  have HB : Hid (∀ (u : FV) (W : World), Good I w u → Below w.heap.size w W → Calls Tryz.prog 53 #[.slice (some ⟨u.pb, u.po, none⟩) u.f.ps.length u.cap] W fun e w' => e = .returned (.agg #[.int .i64 (boxZ u.f.ps).l, .int .i64 (boxZ u.f.ps).t, .int .i64 (boxZ u.f.ps).r, .int .i64 (boxZ u.f.ps).b]) ∧ Below W.heap.size W w') := fun u W hu hW => by
    have hl := valid_len hu.1
    refine BoxOf_any u.pb u.po u.f.ps.length u.cap u.f.ps W ⟨Nat.lt_of_lt_of_le (hI _ hu.2.1) hW.size, fun k x y e => ?_⟩ rfl hl.1 (by omega) hu.2.2.1
    have := hu.2.2.2 k x y e
    exact ⟨(hW.cell (p := ⟨u.pb, _, none⟩) (hI _ hu.2.1)).trans this.1, (hW.cell (p := ⟨u.pb, _, none⟩) (hI _ hu.2.1)).trans this.2⟩
  obtain ⟨i141, hi0, hz0, hz1, hz2⟩ := info_parts info141
  have HI : Hid (Tryz.prog.info? 141 = some i141 ∧ i141.zero = some (.agg #[.int .i64 0, .int .i64 0, .int .i64 0, .int .i64 0]) ∧ i141.size = 4 ∧ i141.bytes = 32) := ⟨hi0, hz0, hz1, hz2⟩
  have hBB : ∀ o o' : Obj, Below w.heap.size w ((w.alloc o).alloc o') := fun o o' => ((Below.refl _ _).alloc (Nat.le_refl _) _).alloc (by simp) _
  have HD : Hid (DistF (vs.map (·.f))) := hd
  clear hi0 hz0 hz1 hz2 hF hR hg hd
  obtain ⟨ff, hff⟩ : ∃ ff, findF id (vs.map (·.f)) = ff := ⟨_, rfl⟩
  have HFF : Hid (boxesF p (vs.map (·.f)) id = (p.toList ++ ff.toList).map fun f => boxZ f.ps) := by show boxesF p _ id = _; unfold boxesF; rw [hff]
  rw [HFF.out]
  have HF' : Hid (∀ W : World, Below w.heap.size w W → Calls Tryz.prog 224 #[.agg #[.pointer ro], .int .i64 id] W fun e w' => ((∃ u ∈ vs, ff = some u.f ∧ e = .returned (.tuple #[encF u, .bool true])) ∨ (ff = none ∧ e = .returned (.tuple #[.agg #[.int .i64 0, .int .i64 0, .int .i64 0, .int .i64 0, .slice none 0 0], .bool false]))) ∧ Below W.heap.size W w') := by
    show ∀ W : World, _ → _
    rw [← hff]
    exact HF.out
  have hfx : ff = none ∨ ∃ u ∈ vs, ff = some u.f := by
    cases ff with
    | none => exact .inl rfl
    | some g =>
      right
      have := List.mem_of_find?_eq_some (show (vs.map (·.f)).find? (fun f => f.id == id) = some g from hff)
      obtain ⟨u, hu, rfl⟩ := List.mem_map.1 this
      exact ⟨u, hu, rfl⟩
  clear HF HFF
  rcases hfx with rfl | ⟨u, hu, rfl⟩
  · have HF : Hid (∀ W : World, Below w.heap.size w W → Calls Tryz.prog 224 #[.agg #[.pointer ro], .int .i64 id] W fun e w' => e = .returned (.tuple #[.agg #[.int .i64 0, .int .i64 0, .int .i64 0, .int .i64 0, .slice none 0 0], .bool false]) ∧ Below W.heap.size W w') := fun W hW => (HF'.out W hW).mono fun e w' h => ⟨h.1.elim (fun ⟨_, _, e, _⟩ => by cases e) (fun h => h.2), h.2⟩
    clear HF'
    cases p with
    | none =>
      have ha : a = none := hp
      subst ha
      clear hp
      go_enter Tryz.func207, Tryz.ntmps207
      go_wp2_with (go_at_call 224; refine Calls.mono (HF.out _ (hBB _ _)) ?_; rintro e w3 ⟨rfl, hb3⟩; dsimp only)
      go_ret
      exact ⟨_, rfl, World.ownsRow_nil _ _ _ _, ((hBB _ _).trans (hb3.mono (by simp; omega))).alloc (by have := hb3.size; simp at this; omega) _⟩
    | some f =>
      obtain ⟨R, b, o, cap, rfl, hR, c5, c6, c7, c8, c9, hgd⟩ := hp
      have HGd : Hid (Good I w ⟨f, b, o, cap⟩) := hgd
      have hne := neq_ptr
      have hRlt := hI R hR
      clear hgd
      go_enter Tryz.func207, Tryz.ntmps207
      go_wp2_with (first
        | (go_at_call 53; refine Calls.mono (HB.out ⟨f, b, o, cap⟩ _ HGd.out (hBB _ _)) ?_; rintro e w1 ⟨rfl, hb1⟩; dsimp only; have hs1 := hb1.size; have hB1 : Below w.heap.size w w1 := (hBB _ _).trans (hb1.mono (by simp; omega)))
        | (at_builtin; refine wpList_append_own _ rfl (.tmp 11) (.tmp 18) 319 rfl w.heap.size 141 i141 (.agg #[.int .i64 0, .int .i64 0, .int .i64 0, .int .i64 0]) 4 32 Tryz.underlying319 HI.out.1 HI.out.2.1 HI.out.2.2.1 HI.out.2.2.2 rfl (by decide) (.slice none 0 0) 0 [] rfl (World.ownsRow_nil _ _ _ _) ⟨w1.heap.size, 0, none⟩ 1 1 [.int .i64 (boxZ f.ps).l, .int .i64 (boxZ f.ps).t, .int .i64 (boxZ f.ps).r, .int .i64 (boxZ f.ps).b] rfl rfl (fun j u hj => by
        rw [addr_add]
        match j, hj with
        | 0, hj => simp at hj; subst hj; simp [go_sem]
        | 1, hj => simp at hj; subst hj; simp [go_sem]
        | 2, hj => simp at hj; subst hj; simp [go_sem]
        | 3, hj => simp at hj; subst hj; simp [go_sem]
        | j + 4, hj => simp at hj) (fun u hu => by simp at hu; rcases hu with hu | hu | hu | hu <;> (subst hu; rfl)) (by unfold maxLen; omega) (by omega) (by have := hB1.size; simp; omega) ?_; intro v2 w2 hown2 hgrow2 _; have hB2 : Below w.heap.size w w2 := ((hB1.alloc hB1.size _)).grown hgrow2 (by have := hB1.size; simp; omega) (fun k hk => by cases hk); have hl2 : Below w1.heap.size w1 w2 := (((Below.refl _ _).alloc (Nat.le_refl _) _)).grown hgrow2 (by simp) (fun k hk => by cases hk); obtain ⟨g2, c2, rfl, _, _⟩ := ownsRow_more hown2; have HO2 : Hid (w2.ownsRow w.heap.size 141 4 (.slice (some ⟨g2, 0, none⟩) 1 c2) 1 [.int .i64 (boxZ f.ps).l, .int .i64 (boxZ f.ps).t, .int .i64 (boxZ f.ps).r, .int .i64 (boxZ f.ps).b]) := hown2; have hc0 := (hl2.cell (p := ⟨w.heap.size, 0, none⟩) (show w.heap.size < w1.heap.size by simp at hs1; omega)).trans ((hb1.cell (p := ⟨w.heap.size, 0, none⟩) (by simp; omega)).trans (show _ = some (Value.int .i64 id) by simp [go_sem])); have hc1 := (hl2.cell (p := ⟨w.heap.size + 1, 0, none⟩) (show w.heap.size + 1 < w1.heap.size by simp at hs1; omega)).trans ((hb1.cell (p := ⟨w.heap.size + 1, 0, none⟩) (by simp)).trans (show _ = some (Value.pointer ro) by simp [go_sem])); clear hown2 hgrow2)
        | (go_at_call 224; refine Calls.mono (HF.out _ hB2) ?_; rintro e w3 ⟨rfl, hb3⟩; dsimp only))
      go_ret
      exact ⟨_, rfl, ownsRow_belowA hb3 HO2.out _, (hB2.trans (hb3.mono hB2.size)).alloc (Nat.le_trans hB2.size hb3.size) _⟩
  · have HF : Hid (∀ W : World, Below w.heap.size w W → Calls Tryz.prog 224 #[.agg #[.pointer ro], .int .i64 id] W fun e w' => ∃ u2 ∈ vs, u.f = u2.f ∧ e = .returned (.tuple #[encF u2, .bool true]) ∧ Below W.heap.size W w') := fun W hW => (HF'.out W hW).mono fun e w' h => h.1.elim (fun ⟨u2, h1, h2, h3⟩ => ⟨u2, h1, Option.some.inj h2, h3, h.2⟩) (fun h => by cases h.1)
    clear HF'
    cases p with
    | none =>
      have ha : a = none := hp
      subst ha
      clear hp
      go_enter Tryz.func207, Tryz.ntmps207
      go_wp2_with (first
        | (go_at_call 224; refine Calls.mono (HF.out _ (hBB _ _)) ?_; rintro e w3 ⟨u2, hu2, hfu, rfl, hb3⟩; simp only [encF]; have hs3 := hb3.size; have HU : Hid (u2 ∈ vs) := hu2; have HFU : Hid (u.f = u2.f) := hfu; clear hu2 hfu)
        | (go_at_call 53; refine Calls.mono (HB.out u2 _ (HG.out u2 HU.out) (((hBB _ _).trans (hb3.mono (by simp; omega))).alloc (by simp at hs3; omega) _)) ?_; rintro e w4 ⟨rfl, hb4⟩; dsimp only; have hs4 := hb4.size)
        | (at_builtin; refine wpList_append_own _ rfl (.tmp 28) (.tmp 32) 319 rfl w.heap.size 141 i141 (.agg #[.int .i64 0, .int .i64 0, .int .i64 0, .int .i64 0]) 4 32 Tryz.underlying319 HI.out.1 HI.out.2.1 HI.out.2.2.1 HI.out.2.2.2 rfl (by decide) (.slice none 0 0) 0 [] rfl (World.ownsRow_nil _ _ _ _) ⟨w4.heap.size, 0, none⟩ 1 1 [.int .i64 (boxZ u2.f.ps).l, .int .i64 (boxZ u2.f.ps).t, .int .i64 (boxZ u2.f.ps).r, .int .i64 (boxZ u2.f.ps).b] rfl rfl (fun j u hj => by
        rw [addr_add]
        match j, hj with
        | 0, hj => simp at hj; subst hj; simp [go_sem]
        | 1, hj => simp at hj; subst hj; simp [go_sem]
        | 2, hj => simp at hj; subst hj; simp [go_sem]
        | 3, hj => simp at hj; subst hj; simp [go_sem]
        | j + 4, hj => simp at hj) (fun u hu => by simp at hu; rcases hu with hu | hu | hu | hu <;> (subst hu; rfl)) (by unfold maxLen; omega) (by omega) (by simp at hs3 hs4; simp; omega) ?_; intro v5 w5 hown5 hgrow5 _; have hB5 : Below w.heap.size w w5 := ((((((hBB _ _).trans (hb3.mono (by simp; omega))).alloc (by simp at hs3; omega) _).trans (hb4.mono (by simp at hs3; simp; omega))).alloc (by simp at hs3 hs4; omega) _)).grown hgrow5 (by simp at hs3 hs4; simp; omega) (fun k hk => by cases hk); obtain ⟨g5, c5, rfl, _, _⟩ := ownsRow_more hown5; have HO5 : Hid _ := hown5; clear hown5 hgrow5))
      go_ret
      refine ⟨_, rfl, ?_, hB5⟩
      rw [HFU.out]
      exact HO5.out
    | some f =>
      obtain ⟨R, b, o, cap, rfl, hR, c5, c6, c7, c8, c9, hgd⟩ := hp
      have HGd : Hid (Good I w ⟨f, b, o, cap⟩) := hgd
      have hne := neq_ptr
      have hRlt := hI R hR
      clear hgd
      go_enter Tryz.func207, Tryz.ntmps207
      go_wp2_with (first
        | (at_builtin; refine wpList_append_own _ rfl (.tmp 28) (.tmp 32) 319 rfl w.heap.size 141 i141 (.agg #[.int .i64 0, .int .i64 0, .int .i64 0, .int .i64 0]) 4 32 Tryz.underlying319 HI.out.1 HI.out.2.1 HI.out.2.2.1 HI.out.2.2.2 rfl (by decide) (.slice (some ⟨g2, 0, none⟩) 1 c2) 1 [.int .i64 (boxZ f.ps).l, .int .i64 (boxZ f.ps).t, .int .i64 (boxZ f.ps).r, .int .i64 (boxZ f.ps).b] rfl (ownsRow_belowA hb4 (ownsRow_belowA hb3 HO2.out _) _) ⟨w4.heap.size, 0, none⟩ 1 1 [.int .i64 (boxZ u2.f.ps).l, .int .i64 (boxZ u2.f.ps).t, .int .i64 (boxZ u2.f.ps).r, .int .i64 (boxZ u2.f.ps).b] rfl rfl (fun j u hj => by
        rw [addr_add]
        match j, hj with
        | 0, hj => simp at hj; subst hj; simp [go_sem]
        | 1, hj => simp at hj; subst hj; simp [go_sem]
        | 2, hj => simp at hj; subst hj; simp [go_sem]
        | 3, hj => simp at hj; subst hj; simp [go_sem]
        | j + 4, hj => simp at hj) (fun u hu => by simp at hu; rcases hu with hu | hu | hu | hu <;> (subst hu; rfl)) (by unfold maxLen; omega) (by omega) (by have := hB2.size; simp at hs3 hs4; simp; omega) ?_; intro v5 w5 hown5 hgrow5 _; have hB5 : Below w.heap.size w w5 := ((((hB2.trans (hb3.mono hB2.size)).alloc (Nat.le_trans hB2.size hb3.size) _).trans (hb4.mono (by have := hB2.size; simp; omega))).alloc (by have := hB2.size; simp at hs4; omega) _).grown hgrow5 (by have := hB2.size; simp at hs4; simp; omega) (fun k hk => (HO2.out.lt k hk).1); obtain ⟨g5, c5, rfl, _, _⟩ := ownsRow_more hown5; have HO5 : Hid _ := hown5; clear hown5 hgrow5)
        | (go_at_call_of 53 (Value.slice (some ⟨u2.pb, u2.po, none⟩) u2.f.ps.length u2.cap); refine Calls.mono (HB.out u2 _ (HG.out u2 HU.out) ((hB2.trans (hb3.mono hB2.size)).alloc (Nat.le_trans hB2.size hb3.size) _)) ?_; rintro e w4 ⟨rfl, hb4⟩; dsimp only; have hs4 := hb4.size)
        | (go_at_call 224; refine Calls.mono (HF.out _ hB2) ?_; rintro e w3 ⟨u2, hu2, hfu, rfl, hb3⟩; simp only [encF]; have hs3 := hb3.size; have HU : Hid (u2 ∈ vs) := hu2; have HFU : Hid (u.f = u2.f) := hfu; clear hu2 hfu)
        | (at_builtin; refine wpList_append_own _ rfl (.tmp 11) (.tmp 18) 319 rfl w.heap.size 141 i141 (.agg #[.int .i64 0, .int .i64 0, .int .i64 0, .int .i64 0]) 4 32 Tryz.underlying319 HI.out.1 HI.out.2.1 HI.out.2.2.1 HI.out.2.2.2 rfl (by decide) (.slice none 0 0) 0 [] rfl (World.ownsRow_nil _ _ _ _) ⟨w1.heap.size, 0, none⟩ 1 1 [.int .i64 (boxZ f.ps).l, .int .i64 (boxZ f.ps).t, .int .i64 (boxZ f.ps).r, .int .i64 (boxZ f.ps).b] rfl rfl (fun j u hj => by
        rw [addr_add]
        match j, hj with
        | 0, hj => simp at hj; subst hj; simp [go_sem]
        | 1, hj => simp at hj; subst hj; simp [go_sem]
        | 2, hj => simp at hj; subst hj; simp [go_sem]
        | 3, hj => simp at hj; subst hj; simp [go_sem]
        | j + 4, hj => simp at hj) (fun u hu => by simp at hu; rcases hu with hu | hu | hu | hu <;> (subst hu; rfl)) (by unfold maxLen; omega) (by omega) (by have := hB1.size; simp; omega) ?_; intro v2 w2 hown2 hgrow2 _; have hB2 : Below w.heap.size w w2 := ((hB1.alloc hB1.size _)).grown hgrow2 (by have := hB1.size; simp; omega) (fun k hk => by cases hk); have hl2 : Below w1.heap.size w1 w2 := (((Below.refl _ _).alloc (Nat.le_refl _) _)).grown hgrow2 (by simp) (fun k hk => by cases hk); obtain ⟨g2, c2, rfl, _, _⟩ := ownsRow_more hown2; have HO2 : Hid (w2.ownsRow w.heap.size 141 4 (.slice (some ⟨g2, 0, none⟩) 1 c2) 1 [.int .i64 (boxZ f.ps).l, .int .i64 (boxZ f.ps).t, .int .i64 (boxZ f.ps).r, .int .i64 (boxZ f.ps).b]) := hown2; have hc0 := (hl2.cell (p := ⟨w.heap.size, 0, none⟩) (show w.heap.size < w1.heap.size by simp at hs1; omega)).trans ((hb1.cell (p := ⟨w.heap.size, 0, none⟩) (by simp; omega)).trans (show _ = some (Value.int .i64 id) by simp [go_sem])); have hc1 := (hl2.cell (p := ⟨w.heap.size + 1, 0, none⟩) (show w.heap.size + 1 < w1.heap.size by simp at hs1; omega)).trans ((hb1.cell (p := ⟨w.heap.size + 1, 0, none⟩) (by simp)).trans (show _ = some (Value.pointer ro) by simp [go_sem])); clear hown2 hgrow2)
        | (go_at_call_of 53 (Value.slice (some ⟨b, o, none⟩) f.ps.length cap); refine Calls.mono (HB.out ⟨f, b, o, cap⟩ _ HGd.out (hBB _ _)) ?_; rintro e w1 ⟨rfl, hb1⟩; dsimp only; have hs1 := hb1.size; have hB1 : Below w.heap.size w w1 := (hBB _ _).trans (hb1.mono (by simp; omega))))
      go_ret
      refine ⟨_, rfl, ?_, hB5⟩
      rw [HFU.out]
      exact HO5.out

end Go.Proofs.YtenaepdmlknlcaaGreatDoor
