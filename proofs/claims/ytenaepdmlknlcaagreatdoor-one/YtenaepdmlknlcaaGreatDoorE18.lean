import Derived.Test.YtenaepdmlknlcaaGreatDoorE13
import Derived.Test.YtenaepdmlknlcaaGreatDoorE14
import Derived.Test.YtenaepdmlknlcaaGreatDoorE17
import Derived.Test.YtenaepdmlknlcaaGreatDoorE12
import Derived.Laws.EntriesVeiled
namespace Go.Proofs.YtenaepdmlknlcaaGreatDoor
open Go.RowKit Go.Shelf

attribute [local go_sem] Oper.semAt_some

set_option maxHeartbeats 2000000 in
theorem meeting_nil (w0 : World) (T n Bt Bb : Nat) (w : World) (hBt : w.cell? ⟨Bt, 0, none⟩ = some (.pointer none)) :
    SeqStopsK Fence.wide n Tryz.prog 125 #[.pointer (some ⟨Bt, 0, none⟩), .pointer (some ⟨Bb, 0, none⟩)] (fun v : { v : FV // Good (fun _ => False) w0 v } => #[encF v.1]) (KeepC T) (fun ys => ys = []) (fun _ => True) 0 w := by
  intro l J Jx W hW hJ hJx hY h0
  refine callsIn_wide.2 ?_
  have e0 := (hW.cell (p := ⟨Bt, 0, none⟩) (cell_lt hBt)).trans hBt
  have H0 : Hid (J [] W) := h0
  clear hJ hJx hY h0 hBt
  show Calls Tryz.prog 125 #[.func (.yield l) #[] #[], .pointer (some ⟨Bt, 0, none⟩), .pointer (some ⟨Bb, 0, none⟩)] W _
  go_enter Tryz.func125, Tryz.ntmps125
  go_wp2
  go_end0
  exact ⟨⟨_, rfl⟩, .inl ⟨[], rfl, H0.out⟩⟩

set_option maxRecDepth 100000 in
set_option maxHeartbeats 4000000 in
theorem colour_nil (x : Bx) (w : World) :
    Calls Tryz.prog 56 #[.agg #[.pointer none], .agg #[.int .i64 x.l, .int .i64 x.t, .int .i64 x.r, .int .i64 x.b]] w fun e w' => e = .returned (.int .i64 (0)) ∧ Below w.heap.size w w' := by
  refine (callsIn_wide (n := 4)).1 ?_
  refine callsIn_of_wp_marks Tryz.func56 rfl trivial ?_ rfl
  simp only [Tryz.ntmps56, List.size_toArray, List.length_cons, List.length_nil, Nat.reduceAdd, Nat.reduceSub, Array.replicate_succ, Array.replicate_zero, List.push_toArray, List.append_toArray, List.nil_append, List.cons_append]
  gi_wp2_with (refine ⟨trivial, ?_⟩; gi_at_call 90; refine (callsIn_wide.2 (Meeting_any _ x _)).mono ?_; rintro e w' ⟨rfl, rfl⟩)
  have hB0 : ∀ o1 o2 o3 o4 o5 : Obj, Below w.heap.size w (((((w.alloc o1).alloc o2).alloc o3).alloc o4).alloc o5) := fun o1 o2 o3 o4 o5 => (((((Below.refl _ _).alloc (Nat.le_refl _) _).alloc (by simp) _).alloc (by simp <;> omega) _).alloc (by simp <;> omega) _).alloc (by simp <;> omega) _
  refine wpIn_rangeFunc_ownH (F := Fence.wide) rfl (by omega) (gf := 125) (lb := #[.pointer (some ⟨w.heap.size + 1 + 1 + 1, 0, none⟩), .pointer (some ⟨w.heap.size + 1 + 1 + 1 + 1, 0, none⟩)]) rfl trivial (enters_of Tryz.func125 (by kernel_rfl) rfl)
    (meeting_nil w (w.heap.size + 1 + 1) _ (w.heap.size + 1 + 1 + 1) (w.heap.size + 1 + 1 + 1 + 1) _ (by simp [go_sem]))
    keepC_t keepC_b (Below.refl _ _) (fun _ => rfl)
    (fun pre W => (Q5 W (w.heap.size + 1 + 1) (.int .i64 (tid (topOf x (pre.map Subtype.val)))) (.int .i64 (tkd (topOf x (pre.map Subtype.val)))) (.int .i64 (tht (topOf x (pre.map Subtype.val)))) (.int .i64 (tcol (topOf x (pre.map Subtype.val)))) (tsl (topOf x (pre.map Subtype.val))) ∧ C4 W (w.heap.size + 1) x) ∧ Below w.heap.size w W)
    (fun _ _ _ => False)
    (OwnFrom.and (Own.from (fun s A B row hs hg hr => ⟨hs.1.kept hg hr, hs.2.kept hg hr⟩) _) (ownFrom_below (Nat.le_refl _) (by simp <;> omega)))
    (fun _ _ _ _ _ hs _ _ => hs)
    ⟨⟨?q5, ⟨by simp [go_sem], by simp [go_sem], by simp [go_sem], by simp [go_sem]⟩⟩, hB0 _ _ _ _ _⟩
    (fun v a' W => ∃ Bv, w.heap.size + 1 + 1 < Bv ∧ Q5 W Bv (.int .i64 v.1.f.id) (.int .i64 v.1.f.kd) (.int .i64 v.1.f.ht) (.int .i64 v.1.f.col) (.slice (some ⟨v.1.pb, v.1.po, none⟩) v.1.f.ps.length v.1.cap) ∧
      a' = { tmps := #[.agg #[.pointer none], .agg #[.int .i64 x.l, .int .i64 x.t, .int .i64 x.r, .int .i64 x.b], .pointer (some ⟨w.heap.size, 0, none⟩), .pointer (some ⟨w.heap.size + 1, 0, none⟩), .int .i64 0, .pointer (some ⟨w.heap.size + 1 + 1, 0, none⟩), .pointer (some ⟨Bv, 0, none⟩), .agg #[.pointer none], .agg #[.int .i64 x.l, .int .i64 x.t, .int .i64 x.r, .int .i64 x.b], .func (.func 125) #[] #[.pointer (some ⟨w.heap.size + 1 + 1 + 1, 0, none⟩), .pointer (some ⟨w.heap.size + 1 + 1 + 1 + 1, 0, none⟩)], .agg #[.int .i64 v.1.f.id, .int .i64 v.1.f.kd, .int .i64 v.1.f.ht, .int .i64 v.1.f.col, .slice (some ⟨v.1.pb, v.1.po, none⟩) v.1.f.ps.length v.1.cap], undef, undef, undef, undef, undef, undef, undef, undef, undef, undef, undef, undef, undef, undef, undef, undef], defers := [] })
    (fun v a' s A B row hs hg hr => by obtain ⟨Bv, h1, h2, h3⟩ := hs; exact ⟨Bv, h1, h2.kept hg (fun r e => (hr r e).2), h3⟩)
    ?assign ?body ?done ?stop
  case q5 => constructor <;> simp [go_sem, topOf, tid, tkd, tht, tcol, tsl]
  case assign =>
    rintro l pre v W K ⟨⟨hq5, hc4⟩, hBW⟩ hK
    simp only [encF]
    gi_wp2
    refine hK _ _ ((KeepsOthers.alloc _ _).from _) (KeepC.of_below ((Below.refl _ _).alloc (Nat.le_refl _) _)) ⟨⟨hq5.below ((Below.refl _ _).alloc (Nat.le_refl _) _) (cell_lt hq5.c0), hc4.below ((Below.refl _ _).alloc (Nat.le_refl _) _) (cell_lt hc4.c0)⟩, hBW.alloc hBW.size _⟩ ⟨W.heap.size, cell_lt hq5.c0, Q5.new _ _ _ _ _ _ _, rfl⟩
  case body =>
    rintro l pre v a' W hl hr _ _ hlen
    exact absurd hlen (by simp)
  case done =>
    rintro D ys W hD hys ⟨⟨hq5, _⟩, hBW⟩ hK
    subst hys
    obtain ⟨c0, c1, c2, c3, c4, _, _, _, _, _⟩ := hq5
    gi_wp2
    refine ⟨by simp, .inl ⟨_, _, rfl, run_takeDeferred hK, ?_⟩⟩
    exact ⟨_, results_tmp rfl _ _ _, rfl, hBW.trans (belowK_b (w := w) (Nat.le_refl _) W D _ _ (by simp at hD; omega) hK rfl rfl)⟩
  case stop =>
    rintro D c pre W _ _ h _
    exact h.elim


set_option maxRecDepth 100000 in
set_option maxHeartbeats 2000000 in
theorem Body_gen (ro : Option Addr) (F : Nat → Int) (z p c r : Int) (w : World) (hC : ∀ (k : Nat) (W : World), k < 64 → Below w.heap.size w W → Calls Tryz.prog 56 #[.agg #[.pointer ro], .agg #[.int .i64 (pixZ p c r k).l, .int .i64 (pixZ p c r k).t, .int .i64 (pixZ p c r k).r, .int .i64 (pixZ p c r k).b]] W fun e w' => e = .returned (.int .i64 (F k)) ∧ Below W.heap.size W w') (hcol : ∀ n, 0 ≤ F n ∧ F n < 100)
    (hz : ZP z p) (h1 : 0 ≤ c) (h2 : c ≤ 7) (h3 : 0 ≤ r) (h4 : r ≤ 7) (hc : 8 * p * c ≤ 256 - 8 * p) (hr : 8 * p * r ≤ 256 - 8 * p) :
    Calls Tryz.prog 32 #[.agg #[.pointer ro], .agg #[.int .i64 z, .int .i64 c, .int .i64 r]] w fun e w' => e = .returned (.string ⟨(Lib.join ((txts ((List.range 64).map fun n => (F n).toNat)).map (·.data.toList)) [44]).toArray⟩) ∧ Below w.heap.size w w' := by
  have HCc : Hid (∀ (k : Nat) (W : World), k < 64 → Below w.heap.size w W → Calls Tryz.prog 56 #[.agg #[.pointer ro], .agg #[.int .i64 (pixZ p c r k).l, .int .i64 (pixZ p c r k).t, .int .i64 (pixZ p c r k).r, .int .i64 (pixZ p c r k).b]] W fun e w' => e = .returned (.int .i64 (F k)) ∧ Below W.heap.size W w') := hC
  have Hcol : Hid (∀ n, 0 ≤ F n ∧ F n < 100) := hcol
  clear hC hcol
  have HC0 : Hid (∀ C : Array Value, C = Array.replicate 64 (.int .i64 0) → ∀ (W : World) j, j < 64 → (W.alloc (.cells C 148)).cell? ⟨W.heap.size, j, none⟩ = some (.int .i64 0)) := fun C hC W j hj => zeros64 W C hC j hj
  go_enter Tryz.func32, Tryz.ntmps32
  go_wp2
  go_loopw [7] (fun i wr => ∃ k : Nat, k ≤ 64 ∧ i = .int .i64 k ∧ (∀ j, j < 64 → wr.cell? ⟨w.heap.size + 1 + 1, j, none⟩ = some (.int .i64 (if j < k then F j else 0))) ∧ (∀ j, wr.frozen? ⟨w.heap.size + 1 + 1, j, none⟩ = false) ∧ wr.cell? ⟨w.heap.size, 0, none⟩ = some (.pointer ro) ∧ wr.cell? ⟨w.heap.size + 1, 0, none⟩ = some (.int .i64 z) ∧ wr.cell? ⟨w.heap.size + 1, 1, none⟩ = some (.int .i64 c) ∧ wr.cell? ⟨w.heap.size + 1, 2, none⟩ = some (.int .i64 r) ∧ Below w.heap.size w wr ∧ w.heap.size + 3 ≤ wr.heap.size) (fun i _ => 64 - (intOf i).toNat)
  case atStart =>
    refine ⟨0, by omega, rfl, fun j hj => ?_, fun j => by simp [go_sem], by simp [go_sem], by simp [go_sem], by simp [go_sem], by simp [go_sem], (((Below.refl _ _).alloc (Nat.le_refl _) _).alloc (by simp) _).alloc (by simp <;> omega) _, by simp⟩
    rw [if_neg (by omega)]
    have h := HC0.out _ (show _ = Array.replicate 64 (Value.int .i64 0) from rfl) ((w.alloc (.cells #[.pointer ro] 89)).alloc (.cells #[.int .i64 z, .int .i64 c, .int .i64 r] 24)) j hj
    rw [World.size_alloc, World.size_alloc] at h
    exact h
  case round =>
    obtain ⟨k, hk, rfl, hcs, hfz, t0, t1, t2, t3, hB, hs⟩ := hrel
    have Hcs : Hid (∀ j, j < 64 → wr.cell? ⟨w.heap.size + 1 + 1, j, none⟩ = some (.int .i64 (if j < k then F j else 0))) := hcs
    have Hfz : Hid (∀ j, wr.frozen? ⟨w.heap.size + 1 + 1, j, none⟩ = false) := hfz
    clear hcs hfz
    by_cases hlt : k < 64
    · have hkI : (k : Int) < 64 := by omega
      have hk0 : (0 : Int) ≤ (k : Int) := by omega
      obtain ⟨p1, p2, p3, p4, p5, p6, p7, p8⟩ := pix_bd hz h1 h3 hc hr k hlt
      have HP : Hid (0 ≤ (pixZ p c r k).l ∧ 0 ≤ (pixZ p c r k).t ∧ 0 ≤ (pixZ p c r k).r ∧ 0 ≤ (pixZ p c r k).b ∧ (pixZ p c r k).l ≤ 1000 ∧ (pixZ p c r k).t ≤ 1000 ∧ (pixZ p c r k).r ≤ 1000 ∧ (pixZ p c r k).b ≤ 1000) := ⟨p1, p2, p3, p4, p5, p6, p7, p8⟩
      clear p1 p2 p3 p4 p5 p6 p7 p8
      have HZ : Hid (ZP z p) := hz
      have hmod : (k : Int).tmod 8 = (k : Int) % 8 := Int.tmod_eq_emod_of_nonneg hk0
      have hdiv : (k : Int).tdiv 8 = (k : Int) / 8 := Int.tdiv_eq_ediv_of_nonneg hk0
      have hw8 : IntKind.i64.wrap ((k : Int) / 8) = (k : Int) / 8 := by rw [IntKind.wrap_i64]; omega
      go_upto_region 5 with fail
      go_region_held3 (fun w' => w'.cell? ⟨w.heap.size, 0, none⟩ = some (.pointer ro) ∧ w'.cell? ⟨w.heap.size + 1, 0, none⟩ = some (.int .i64 z) ∧ w'.cell? ⟨w.heap.size + 1, 1, none⟩ = some (.int .i64 c) ∧ w'.cell? ⟨w.heap.size + 1, 2, none⟩ = some (.int .i64 r)) (first | exact s4 | exact s3 | exact s2 | (simp [go_sem, *]; done))
        (first
        | (go_at_call 57; refine (pixel_any z p c r _ _ _ HZ.out h1 h2 h3 h4 (by omega) (by omega) (by omega) (by omega)).mono ?_; rintro e w2 ⟨rfl, hb2⟩; obtain ⟨hc2, hf2⟩ := bcell hb2; have s2 := And.intro ((hc2 w.heap.size 0 (by simp <;> omega)).trans t0) (And.intro ((hc2 (w.heap.size + 1) 0 (by simp <;> omega)).trans t1) (And.intro ((hc2 (w.heap.size + 1) 1 (by simp <;> omega)).trans t2) ((hc2 (w.heap.size + 1) 2 (by simp <;> omega)).trans t3))); have hz2 : wr.heap.size ≤ w2.heap.size := (by have := hb2.size; simp at this; omega); have hB2 : Below wr.heap.size wr w2 := (Below.refl _ _).drew.trans (hb2.mono (by simp)); clear hc2 hf2 hb2)
        | (go_at_call 56; refine Calls.mono (HCc.out k _ hlt (hB.trans (hB2.mono hB.size))) ?_; rintro e w3 ⟨rfl, hb3⟩; have hB3 : Below wr.heap.size wr w3 := hB2.trans (hb3.mono hz2); obtain ⟨hc3, hf3⟩ := bcell hB3; have s3 := And.intro ((hc3 w.heap.size 0 (by omega)).trans t0) (And.intro ((hc3 (w.heap.size + 1) 0 (by omega)).trans t1) (And.intro ((hc3 (w.heap.size + 1) 1 (by omega)).trans t2) ((hc3 (w.heap.size + 1) 2 (by omega)).trans t3))); have st1 := (hc3 (w.heap.size + 1 + 1) k (by omega)).trans (Hcs.out k hlt); have st2 := (hf3 (w.heap.size + 1 + 1) k (by omega)).trans (Hfz.out k); clear hc3 hf3))
      all_goals
        have HB3 : Hid (Below wr.heap.size wr w3) := hB3
        have HS1 : Hid (w3.cell? ⟨w.heap.size + 1 + 1, k, none⟩ = some (.int .i64 (if k < k then F k else 0))) := st1
        clear st1 st2 s2 s3 hb3 hB2 hB3
        go_wp2
        go_roundw
        case rel =>
          have hB3 := HB3.out
          obtain ⟨hc3, hf3⟩ := bcell hB3
          have hset : ∀ u, Below (w.heap.size + 1 + 1) w3 (w3.setCell ⟨w.heap.size + 1 + 1, k, none⟩ u) := fun u => below_set1 _ w3 _ k (Nat.le_refl _) u
          refine ⟨k + 1, by omega, by go_num, fun j hj => ?_, fun j => ?_, ((hset _).cell (p := ⟨w.heap.size, 0, none⟩) (show w.heap.size < w.heap.size + 1 + 1 by omega)).trans ((hc3 _ _ (by omega)).trans t0), ((hset _).cell (p := ⟨w.heap.size + 1, 0, none⟩) (show w.heap.size + 1 < w.heap.size + 1 + 1 by omega)).trans ((hc3 _ _ (by omega)).trans t1), ((hset _).cell (p := ⟨w.heap.size + 1, 1, none⟩) (show w.heap.size + 1 < w.heap.size + 1 + 1 by omega)).trans ((hc3 _ _ (by omega)).trans t2), ((hset _).cell (p := ⟨w.heap.size + 1, 2, none⟩) (show w.heap.size + 1 < w.heap.size + 1 + 1 by omega)).trans ((hc3 _ _ (by omega)).trans t3), (hB.trans (hB3.mono hB.size)).trans ((hset _).mono (by omega)), Nat.le_trans (Nat.le_trans hs hB3.size) (hset _).size⟩
          · by_cases hjk : j = k
            · subst hjk
              rw [if_pos (by omega)]
              exact World.cell?_setCell_same _ _ _ HS1.out
            · rw [World.cell?_setCell_other _ _ _ _ (by intro e; exact hjk (by injection e with _ e2 _; exact e2.symm)), hc3 _ _ (by omega), Hcs.out j hj]
              by_cases hjl : j < k
              · rw [if_pos hjl, if_pos (by omega)]
              · rw [if_neg hjl, if_neg (by omega)]
          · rw [World.frozen?_setCell, hf3 _ _ (by omega)]
            exact Hfz.out j
        case measure => simp [intOf]; omega
    · obtain rfl : k = 64 := by omega
      have hruns := runs_any (w.heap.size + 1 + 1) 0 64 64 ((List.range 64).map fun n => (F n).toNat) wr (by omega) (fun j x hj => by
        rw [List.getElem?_map, Option.map_eq_some_iff] at hj
        obtain ⟨n, hn, rfl⟩ := hj
        obtain ⟨hj1, hj2⟩ := List.getElem?_eq_some_iff.1 hn
        simp at hj1 hj2
        subst hj2
        rw [Nat.zero_add, Hcs.out j hj1, if_pos hj1, Int.toNat_of_nonneg (Hcol.out j).1]) (fun x hx => by
        simp only [List.mem_map, List.mem_range] at hx
        obtain ⟨n, _, rfl⟩ := hx
        have := Hcol.out n
        omega) (by simp) (by omega) (by omega) (by omega) (by omega)
      have HR : Hid _ := hruns
      clear hruns
      go_wp2_with (go_at_call 58; refine Calls.mono HR.out ?_; rintro e w2 ⟨rfl, hb2⟩)
      go_ret
      exact ⟨rfl, hB.trans (hb2.mono hB.size)⟩


end Go.Proofs.YtenaepdmlknlcaaGreatDoor

namespace Go.Proofs.YtenaepdmlknlcaaGreatDoor
open Go.RowKit Go.Shelf

/-- The root of a tree: none for no feature. -/
def RootT (ok : Nat → Prop) (w : World) (ro : Option Addr) (vs : List FV) : Prop :=
  (ro = none ∧ vs = []) ∨ ∃ (d q : Nat) (x : Bx) (us : List FV), ro = some ⟨q, 0, none⟩ ∧ IsT ok w (d + 1) q us x ∧ us.Perm vs
theorem RootT.same {ok : Nat → Prop} {A B : World} {ro : Option Addr} {vs : List FV} (h : RootT ok A ro vs) (hs : Same ok A B) : RootT ok B ro vs :=
  h.elim .inl fun ⟨d, q, x, us, e, hT, hp⟩ => .inr ⟨d, q, x, us, e, hT.same hs, hp⟩
theorem RootT.mono {ok ok' : Nat → Prop} {w : World} {ro : Option Addr} {vs : List FV} (h : RootT ok w ro vs) (hs : ∀ b, ok b → ok' b) : RootT ok' w ro vs :=
  h.elim .inl fun ⟨d, q, x, us, e, hT, hp⟩ => .inr ⟨d, q, x, us, e, hT.mono hs, hp⟩

/-- With, whatever the tree. -/
theorem With_any (ok : Nat → Prop) (v : FV) (ro : Option Addr) (vs : List FV) (w : World) (hR : RootT ok w ro vs) (hval : ∀ u ∈ vs, validF u.f = true) (hvf : validF v.f = true) (hok : ∀ b, ok b → b < w.heap.size) (hobl : ok v.pb) (hp : Places w.heap.size w v.pb v.po v.f.ps) (hcap : v.f.ps.length ≤ v.cap) :
    Calls Tryz.prog 31 #[.agg #[.pointer ro], .agg #[.int .i64 v.f.id, .int .i64 v.f.kd, .int .i64 v.f.ht, .int .i64 v.f.col, .slice (some ⟨v.pb, v.po, none⟩) v.f.ps.length v.cap]] w fun e w' => ∃ ro' : Option Addr, e = .returned (.agg #[.pointer ro']) ∧ RootT (okN ok w.heap.size w'.heap.size) w' ro' (vs ++ [v]) ∧ Below w.heap.size w w' := by
  have hlen : 1 ≤ v.f.ps.length ∧ v.f.ps.length ≤ 6 := by
    simp only [validF, Bool.and_eq_true] at hvf
    have := hvf.1.2
    simp [mayB] at this; omega
  rcases hR with ⟨rfl, rfl⟩ | ⟨d, q, x, us, rfl, hT, hperm⟩
  · refine (With_nil ok v.f v.pb v.po v.f.ps.length v.cap w hok hobl hp rfl hlen.1 hlen.2 hcap).mono ?_
    rintro e w' ⟨q, x, rfl, hT, hb⟩
    exact ⟨_, rfl, .inr ⟨0, q, x, [v], rfl, hT, by simp⟩, hb⟩
  · refine (With_tree d ok v.f v.pb v.po v.f.ps.length v.cap q us x w hT (fun u hu => hval u (hperm.mem_iff.1 hu)) hvf hok hobl hp rfl hlen.1 hlen.2 hcap).mono ?_
    rintro e w' ⟨q', d', x', fs', rfl, hT', hp', hb⟩
    exact ⟨_, rfl, .inr ⟨d', q', x', fs', rfl, hT', hp'.trans (hperm.append_right [v])⟩, hb⟩

theorem tile_z {z c r : Int} (_h : tileB z c r = true) : 0 ≤ pZ z := by unfold pZ; split <;> (try split) <;> (try split) <;> omega

/-- The body of a tile, whatever the tree. -/
theorem Body_root (ok : Nat → Prop) (ro : Option Addr) (vs : List FV) (z c r : Int) (w : World) (hok : ∀ b, ok b → b < w.heap.size) (hR : RootT ok w ro vs) (hg : ∀ v ∈ vs, Good ok w v) (hd : Dist vs) (ht : tileB z c r = true) :
    Calls Tryz.prog 32 #[.agg #[.pointer ro], .agg #[.int .i64 z, .int .i64 c, .int .i64 r]] w fun e w' => e = .returned (.string ⟨(bodyR vs (pZ z) c r).toArray⟩) ∧ Below w.heap.size w w' := by
  obtain ⟨hz, h1, h2, h3, h4, hc, hr⟩ := tile_facts ht
  have hv : ∀ v ∈ vs, validF v.f = true := fun v h => (hg v h).1
  rcases hR with ⟨rfl, rfl⟩ | ⟨d, q, x, us, rfl, hT, hperm⟩
  · have := Body_gen none (fun n => colZ [] (pZ z) c r n) z (pZ z) c r w (fun k W _ hW => colour_nil _ W) (fun n => by simp [colZ, topOf, tcol]) hz h1 h2 h3 h4 hc hr
    rwa [body_eq (List.Perm.refl []) hd hv (tile_z ht)] at this
  · have hgu : ∀ v ∈ us, Good ok w v := fun v h => hg v (hperm.mem_iff.1 h)
    have := Body_gen (some ⟨q, 0, none⟩) (fun n => colZ us (pZ z) c r n) z (pZ z) c r w (fun k W hk hW => by
      obtain ⟨p1, p2, p3, p4, p5, p6, p7, p8⟩ := pix_bd hz h1 h3 hc hr k hk
      exact colour_any ok (d + 1) q us (pixZ (pZ z) c r k) x W (fun b hb => Nat.lt_of_lt_of_le (hok b hb) hW.size) (hT.same (Same.of_below hW hok)) (fun v h => Good.below hW hok (hgu v h)) p1 p2 p3 p4 p5 p6 p7 p8) (fun n => tcol_bd _ _ (fun u hu => (hgu u (List.mem_filter.1 hu).1).1)) hz h1 h2 h3 h4 hc hr
    rwa [body_eq hperm hd hv (tile_z ht)] at this

end Go.Proofs.YtenaepdmlknlcaaGreatDoor

namespace Go.Proofs.YtenaepdmlknlcaaGreatDoor
open Go.RowKit Go.Shelf

set_option maxRecDepth 100000 in
set_option maxHeartbeats 4000000 in
theorem Draw_any (a : Option Addr) (n cap : Nat) (gs : List FG) (z c r : Int) (w : World) (hf : FeatsGO w a gs) (hn : n = gs.length) (hn2 : n ≤ 1000000000000000)
    (htab : w.cell? ⟨3, 15, none⟩ = some (.int .u8 4)) (hw3 : 3 < w.heap.size) :
    Calls Tryz.prog 11 #[.slice a n cap, .agg #[.int .i64 z, .int .i64 c, .int .i64 r]] w fun e w' => e = .returned (drawV gs z c r) ∧ Below w.heap.size w w' := by
  have Hf : Hid (FeatsGO w a gs) := hf
  have Hn : Hid (n = gs.length) := hn
  have Htab : Hid (w.cell? ⟨3, 15, none⟩ = some (.int .u8 4)) := htab
  clear hf hn htab
  have hBo : ∀ o : Obj, Below w.heap.size w (w.alloc o) := fun o => (Below.refl _ _).alloc (Nat.le_refl _) o
  have HAre : Hid (∀ W : World, Below w.heap.size w W → Calls Tryz.prog 30 #[.slice a n cap] W fun e w' => e = .returned (.bool (okTo gs gs.length)) ∧ Below W.heap.size W w') := fun W hW => AreFeatures_any a n cap gs W (Hf.out.below hW) Hn.out hn2
  have HNo : Hid ((tileB z c r = false ∨ okTo gs gs.length = false) → drawV gs z c r = .tuple #[.string ⟨#[]⟩, .string ⟨#[]⟩, .int .i64 1]) := drawV_no
  by_cases ht : tileB z c r = true
  · have Htile : Hid (tileB z c r = true) := ht
    clear ht
    by_cases hok : okTo gs gs.length = true
    · have Hok : Hid (okTo gs gs.length = true) := hok
      have hval := okTo_valid hok
      have hvv : ∀ v ∈ gs.map FG.fv, validF v.f = true := fun v hv => by
        obtain ⟨g, hg, rfl⟩ := List.mem_map.1 hv
        rw [g.fv_f]; exact hval g hg
      have HFO : Hid (∀ W : World, Below w.heap.size w W → FeatsO W a (gs.map FG.fv)) := fun W hW => (Hf.out.below hW).feats hval
      have HE : Hid (drawV gs z c r = .tuple #[.string ⟨(markN (bodyR (gs.map FG.fv) (pZ z) c r)).toArray⟩, .string ⟨(bodyR (gs.map FG.fv) (pZ z) c r).toArray⟩, .int .i64 0]) := by
        show drawV gs z c r = _
        rw [drawV, Htile.out, hok]; rfl
      have Hlen : Hid ((bodyR (gs.map FG.fv) (pZ z) c r).length ≤ 1000) := bodyR_length (gs.map FG.fv) (pZ z) c r hvv
      have Hdist : Hid (Dist (gs.map FG.fv)) := okTo_dist hok
      have Hnv : Hid (n = (gs.map FG.fv).length) := by show n = _; rw [List.length_map]; exact Hn.out
      have Hvv : Hid (∀ v ∈ gs.map FG.fv, validF v.f = true) := hvv
      obtain ⟨vs, hvs⟩ : ∃ vs, gs.map FG.fv = vs := ⟨_, rfl⟩
      rw [hvs] at HFO HE Hlen Hdist Hnv Hvv
      clear hvs hval hvv hok HNo Hf Hn
      go_enter Tryz.func11, Tryz.ntmps11
      go_wp2_with (first
        | (go_at_call 29; refine (IsTile_any z c r _).mono ?_; rintro e w1 ⟨rfl, hb1⟩; rw [Htile.out]; have hB1 : Below w.heap.size w w1 := (hBo _).trans (hb1.mono (by simp)); have hz1 : w.heap.size < w1.heap.size := (by have := hb1.size; simp at this; omega); have q1 : w1.cell? ⟨w.heap.size, 0, none⟩ = some (.int .i64 z) ∧ w1.cell? ⟨w.heap.size, 1, none⟩ = some (.int .i64 c) ∧ w1.cell? ⟨w.heap.size, 2, none⟩ = some (.int .i64 r) := ⟨(hb1.cell (p := ⟨w.heap.size, 0, none⟩) (by simp)).trans (by simp [go_sem]), (hb1.cell (p := ⟨w.heap.size, 1, none⟩) (by simp)).trans (by simp [go_sem]), (hb1.cell (p := ⟨w.heap.size, 2, none⟩) (by simp)).trans (by simp [go_sem])⟩; have Q1 : Hid _ := q1; clear q1 hb1)
        | (go_at_call 30; refine Calls.mono (HAre.out _ hB1) ?_; rintro e w2 ⟨rfl, hb2⟩; rw [Hok.out]; have hB2 : Below w.heap.size w w2 := hB1.trans (hb2.mono hB1.size); have hz2 := hb2.size; have q2 := And.intro ((hb2.cell (p := ⟨w.heap.size, 0, none⟩) hz1).trans Q1.out.1) (And.intro ((hb2.cell (p := ⟨w.heap.size, 1, none⟩) hz1).trans Q1.out.2.1) ((hb2.cell (p := ⟨w.heap.size, 2, none⟩) hz1).trans Q1.out.2.2)); have Q2 : Hid _ := q2; clear q2))
      go_loopw [21] (fun i wr => ∃ (k : Nat) (ro : Option Addr), k ≤ n ∧ i = .int .i64 k ∧ wr.cell? ⟨w2.heap.size, 0, none⟩ = some (.pointer ro) ∧ Hid (RootT (fun b => b < wr.heap.size ∧ b ≠ w2.heap.size) wr ro (vs.take k)) ∧ wr.frozen? ⟨w2.heap.size, 0, none⟩ = false ∧ (wr.cell? ⟨w.heap.size, 0, none⟩ = some (.int .i64 z) ∧ wr.cell? ⟨w.heap.size, 1, none⟩ = some (.int .i64 c) ∧ wr.cell? ⟨w.heap.size, 2, none⟩ = some (.int .i64 r)) ∧ Below w.heap.size w wr ∧ w2.heap.size < wr.heap.size) (fun i _ => n - (intOf i).toNat)
      case atStart =>
        have hA : ∀ o : Obj, Below w2.heap.size w2 (w2.alloc o) := fun o => (Below.refl _ _).alloc (Nat.le_refl _) o
        exact ⟨0, none, by omega, rfl, by simp [go_sem], .inl ⟨rfl, rfl⟩, by simp [go_sem], ⟨((hA _).cell (p := ⟨w.heap.size, 0, none⟩) (show w.heap.size < w2.heap.size by omega)).trans Q2.out.1, ((hA _).cell (p := ⟨w.heap.size, 1, none⟩) (show w.heap.size < w2.heap.size by omega)).trans Q2.out.2.1, ((hA _).cell (p := ⟨w.heap.size, 2, none⟩) (show w.heap.size < w2.heap.size by omega)).trans Q2.out.2.2⟩, hB2.alloc hB2.size _, by simp⟩
      case round =>
        obtain ⟨k, ro, hk, rfl, hroot, HRT, hfz, hti, hB, hs⟩ := hrel
        by_cases hlt : k < n
        · obtain ⟨v, hv⟩ : ∃ v, vs[k]? = some v := ⟨vs[k]'(by rw [← Hnv.out]; exact hlt), List.getElem?_eq_getElem _⟩
          obtain ⟨b, off, rfl, hF⟩ := (HFO.out wr hB).resolve_left (fun e => by rw [e] at hv; simp at hv)
          obtain ⟨b', off', e', hF0⟩ := (HFO.out w (Below.refl _ _)).resolve_left (fun e => by rw [e] at hv; simp at hv)
          cases e'
          obtain ⟨⟨e0, e1, e2, e3, e4⟩, hgood⟩ := hF.2 k v hv
          have hg0 := (hF0.2 k v hv).2
          have hpb0 : v.pb < w.heap.size := hg0.2.1
          have hbr : b < wr.heap.size := hF.1
          have HTk : Hid (vs.take (k + 1) = vs.take k ++ [v]) := by show vs.take (k + 1) = _; rw [List.take_add_one, hv]; rfl
          have HW : Hid (∀ W : World, Below wr.heap.size wr W → Calls Tryz.prog 31 #[.agg #[.pointer ro], .agg #[.int .i64 v.f.id, .int .i64 v.f.kd, .int .i64 v.f.ht, .int .i64 v.f.col, .slice (some ⟨v.pb, v.po, none⟩) v.f.ps.length v.cap]] W fun e w' => ∃ ro' : Option Addr, e = .returned (.agg #[.pointer ro']) ∧ RootT (okN (fun b => b < wr.heap.size ∧ b ≠ w2.heap.size) W.heap.size w'.heap.size) w' ro' (vs.take k ++ [v]) ∧ Below W.heap.size W w') := fun W hW =>
            With_any (fun b => b < wr.heap.size ∧ b ≠ w2.heap.size) v ro (vs.take k) W (HRT.out.same (Same.of_below hW (fun b hb => hb.1))) (fun u hu => Hvv.out u (List.mem_of_mem_take hu)) hgood.1 (fun b hb => Nat.lt_of_lt_of_le hb.1 hW.size) ⟨by have := hB.size; omega, by omega⟩ ⟨Nat.lt_of_lt_of_le hgood.2.1 hW.size, fun j x y e => ⟨(hW.cell (p := ⟨v.pb, v.po + j * 2, none⟩) hgood.2.1).trans (hgood.2.2.2 j x y e).1, (hW.cell (p := ⟨v.pb, v.po + j * 2 + 1, none⟩) hgood.2.1).trans (hgood.2.2.2 j x y e).2⟩⟩ hgood.2.2.1
          clear hgood hg0 hF hF0 hv HRT
          obtain ⟨⟨id, kd, htt, col, ps⟩, pb, po, cap'⟩ := v
          dsimp only at e0 e1 e2 e3 e4 HW
          have hA : ∀ o : Obj, Below wr.heap.size wr (wr.alloc o) := fun o => (Below.refl _ _).alloc (Nat.le_refl _) o
          obtain ⟨m, hm⟩ : ∃ m, ps.length = m := ⟨_, rfl⟩
          rw [hm] at e4 HW
          clear hm
          go_wp2_with (go_at_call 31; refine Calls.mono (HW.out _ (hA _)) ?_; rintro e w3 ⟨ro', rfl, hRT3, hb3⟩; have hz3 : wr.heap.size + 1 ≤ w3.heap.size := (by have := hb3.size; simp at this; omega); have hB3 : Below wr.heap.size wr w3 := (hA _).trans (hb3.mono (by simp)); have s1 := (hB3.cell (p := ⟨w2.heap.size, 0, none⟩) hs).trans hroot; have s2 := (hB3.frozen (p := ⟨w2.heap.size, 0, none⟩) hs).trans hfz; have HRT3 : Hid (RootT (okN (fun b => b < wr.heap.size ∧ b ≠ w2.heap.size) (wr.heap.size + 1) w3.heap.size) w3 ro' (vs.take k ++ [⟨⟨id, kd, htt, col, ps⟩, pb, po, cap'⟩])) := (by first | exact hRT3 | (simp only [World.size_alloc] at hRT3; exact hRT3)) ; clear hRT3)
          have hset : Below w2.heap.size w3 (w3.setCell ⟨w2.heap.size, 0, none⟩ (.pointer ro')) := below_set1 _ w3 _ 0 (Nat.le_refl _) _
          have hsame : Same (okN (fun b => b < wr.heap.size ∧ b ≠ w2.heap.size) (wr.heap.size + 1) w3.heap.size) w3 (w3.setCell ⟨w2.heap.size, 0, none⟩ (.pointer ro')) := same_set w3 w2.heap.size 0 _ (fun h => h.elim (fun h => h.2 rfl) (fun h => by have := h.1; omega))
          refine ⟨⟨k + 1, ro', by omega, by go_num, World.cell?_setCell_same _ _ _ s1, ?_, by rw [World.frozen?_setCell]; exact s2, ⟨(hset.cell (p := ⟨w.heap.size, 0, none⟩) (show w.heap.size < w2.heap.size by omega)).trans ((hB3.cell (p := ⟨w.heap.size, 0, none⟩) (show w.heap.size < wr.heap.size by omega)).trans hti.1), (hset.cell (p := ⟨w.heap.size, 1, none⟩) (show w.heap.size < w2.heap.size by omega)).trans ((hB3.cell (p := ⟨w.heap.size, 1, none⟩) (show w.heap.size < wr.heap.size by omega)).trans hti.2.1), (hset.cell (p := ⟨w.heap.size, 2, none⟩) (show w.heap.size < w2.heap.size by omega)).trans ((hB3.cell (p := ⟨w.heap.size, 2, none⟩) (show w.heap.size < wr.heap.size by omega)).trans hti.2.2)⟩, (hB.trans (hB3.mono hB.size)).trans (hset.mono (by omega)), Nat.lt_of_lt_of_le (by omega) hset.size⟩, by simp [intOf]; omega⟩
          rw [HTk.out]
          exact (RootT.same HRT3.out hsame).mono (fun b hb => hb.elim (fun h => ⟨Nat.lt_of_lt_of_le h.1 (Nat.le_trans (by omega) hset.size), h.2⟩) (fun h => ⟨Nat.lt_of_lt_of_le h.2 hset.size, by have := h.1; omega⟩))
        · have hRT' : RootT (fun b => b < wr.heap.size ∧ b ≠ w2.heap.size) wr ro vs := by
            have := HRT.out
            rwa [show k = vs.length by have := Hnv.out; omega, List.take_length] at this
          have hBd := Body_root (fun b => b < wr.heap.size ∧ b ≠ w2.heap.size) ro vs z c r wr (fun b hb => hb.1) hRT' (fun v hv => by
            obtain ⟨i, hi, rfl⟩ := List.mem_iff_getElem.1 hv
            have hne : vs ≠ [] := by intro e; rw [e] at hi; simp at hi
            obtain ⟨b, off, e1, hF⟩ := (HFO.out wr hB).resolve_left hne
            obtain ⟨b', off', e', hF0⟩ := (HFO.out w (Below.refl _ _)).resolve_left hne
            have g := (hF.2 i _ (List.getElem?_eq_getElem hi)).2
            have g0 := (hF0.2 i _ (List.getElem?_eq_getElem hi)).2
            exact ⟨g.1, ⟨g.2.1, by have := g0.2.1; omega⟩, g.2.2.1, g.2.2.2⟩) Hdist.out Htile.out
          have HBd : Hid _ := hBd
          obtain ⟨B, hBe⟩ : ∃ B, bodyR vs (pZ z) c r = B := ⟨_, rfl⟩
          rw [hBe] at HBd HE Hlen
          have HM : Hid (∀ w4 : World, Below w.heap.size w w4 → Calls Tryz.prog 33 #[.string ⟨B.toArray⟩] w4 fun e w' => e = .returned (.string ⟨(markN B).toArray⟩) ∧ Below w4.heap.size w4 w') := fun w4 hw4 => Mark_ex ⟨B.toArray⟩ w4 (by have := Hlen.out; simp [ByteArray.size]; omega) ((hw4.cell (p := ⟨3, 15, none⟩) hw3).trans Htab.out) (Nat.lt_of_lt_of_le hw3 hw4.size)
          clear hBd hRT' HRT hBe
          obtain ⟨t0, t1, t2⟩ := hti
          go_wp2_with (first
            | (go_at_call 32; refine Calls.mono HBd.out ?_; rintro e w4 ⟨rfl, hb4⟩; have hB4 : Below w.heap.size w w4 := hB.trans (hb4.mono hB.size))
            | (go_at_call 33; refine Calls.mono (HM.out _ hB4) ?_; rintro e w5 ⟨rfl, hb5⟩))
          go_ret3
          exact ⟨congrArg Ending.returned HE.out.symm, hB4.trans (hb5.mono hB4.size)⟩
    · have Hok : Hid (okTo gs gs.length = false) := by show okTo gs gs.length = false; simpa using hok
      clear hok
      have HE : Hid (drawV gs z c r = .tuple #[.string ⟨#[]⟩, .string ⟨#[]⟩, .int .i64 1]) := HNo.out (.inr Hok.out)
      go_enter Tryz.func11, Tryz.ntmps11
      go_wp2_with (first
        | (go_at_call 29; refine (IsTile_any z c r _).mono ?_; rintro e w1 ⟨rfl, hb1⟩; rw [Htile.out]; have hB1 : Below w.heap.size w w1 := (hBo _).trans (hb1.mono (by simp)))
        | (go_at_call 30; refine Calls.mono (HAre.out _ hB1) ?_; rintro e w2 ⟨rfl, hb2⟩; rw [Hok.out]))
      go_ret3
      exact ⟨congrArg Ending.returned HE.out.symm, hB1.trans (hb2.mono hB1.size)⟩
  · have Htile : Hid (tileB z c r = false) := by show tileB z c r = false; simpa using ht
    clear ht
    have HE : Hid (drawV gs z c r = .tuple #[.string ⟨#[]⟩, .string ⟨#[]⟩, .int .i64 1]) := HNo.out (.inl Htile.out)
    go_enter Tryz.func11, Tryz.ntmps11
    go_wp2_with (go_at_call 29; refine (IsTile_any z c r _).mono ?_; rintro e w1 ⟨rfl, hb1⟩; rw [Htile.out])
    go_ret3
    exact ⟨congrArg Ending.returned HE.out.symm, (hBo _).trans (hb1.mono (by simp))⟩

end Go.Proofs.YtenaepdmlknlcaaGreatDoor

namespace Go.Proofs.YtenaepdmlknlcaaGreatDoor
open Go.RowKit Go.Shelf

theorem answered_any (s : ByteArray) (w : World) :
    Calls Tryz.prog 194 #[.string s] w fun e w' => e = .returned (.agg #[.bool false, .nilFunc, .string s]) ∧ Below w.heap.size w w' := by
  go_enter Tryz.func194, Tryz.ntmps194
  go_wp2
  exact bodyPost_ret (v := .agg #[.bool false, .nilFunc, .string s]) (by simp [results, Tryz.results194, go_sem]) rfl ⟨rfl, (Below.refl _ _).alloc (Nat.le_refl _) _⟩

theorem blocked_any (w : World) :
    Calls Tryz.prog 192 #[] w fun e w' => e = .returned (.agg #[.bool true, .nilFunc, .string ⟨#[]⟩]) ∧ Below w.heap.size w w' := by
  go_enter Tryz.func192, Tryz.ntmps192
  go_wp2
  exact bodyPost_ret (v := .agg #[.bool true, .nilFunc, .string ⟨#[]⟩]) (by simp [results, Tryz.results192, go_sem]) rfl ⟨rfl, (Below.refl _ _).alloc (Nat.le_refl _) _⟩

theorem then_any (f : Fn) (b fr : Array Value) (w : World) :
    Calls Tryz.prog 190 #[.func f b fr] w fun e w' => e = .returned (.agg #[.bool false, .func f b fr, .string ⟨#[]⟩]) ∧ Below w.heap.size w w' := by
  go_enter Tryz.func190, Tryz.ntmps190
  go_wp2
  exact bodyPost_ret (v := .agg #[.bool false, .func f b fr, .string ⟨#[]⟩]) (by simp [results, Tryz.results190, go_sem]) rfl ⟨rfl, (Below.refl _ _).alloc (Nat.le_refl _) _⟩

theorem set3b {n : Nat} {W w : World} (h : Below n W w) {b : Nat} (hb : n ≤ b) (u0 u1 u2 : Value) : Below n W (((w.setCell ⟨b, 0, none⟩ u0).setCell ⟨b, 1, none⟩ u1).setCell ⟨b, 2, none⟩ u2) :=
  ((h.setCell (p := ⟨b, 0, none⟩) hb u0).setCell (p := ⟨b, 1, none⟩) hb u1).setCell (p := ⟨b, 2, none⟩) hb u2

theorem refuse_any (p : Value) (w : World) :
    Calls Tryz.prog 176 #[p] w fun e w' => e = .returned (.agg #[.bool false, .nilFunc, .string ⟨#[52, 48, 48]⟩]) ∧ Below w.heap.size w w' := by
  go_enter Tryz.func176, Tryz.ntmps176
  go_wp2_with (go_at_call 194; refine (answered_any _ _).mono ?_; rintro e w1 ⟨rfl, hb1⟩; dsimp only; obtain ⟨r0, r1, r2, f0, f1, f2⟩ := (K3.new w (.bool false) .nilFunc (.string ⟨#[]⟩) 231).below hb1 (Nat.le_refl _))
  exact bodyPost_ret (v := .agg #[.bool false, .nilFunc, .string ⟨#[52, 48, 48]⟩]) (by simp [results, Tryz.results176, go_sem, r0, r1, r2]) rfl ⟨rfl, set3b (((Below.refl _ _).alloc (Nat.le_refl _) _).trans (hb1.mono (by simp))) (Nat.le_refl _) _ _ _⟩

/-- What a put or a del is answered. -/
theorem answer_any (id z : Int) (p : Option Addr) (had : Bool) (w : World) :
    Calls Tryz.prog 226 #[.agg #[.int .i64 id, .pointer p, .int .i64 z], .bool had] w fun e w' => e = .returned (.string (if had = true then ⟨#[50, 48, 48]⟩ else if p.isSome = true then ⟨#[50, 48, 49]⟩ else ⟨#[52, 48, 52]⟩)) ∧ Below w.heap.size w w' := by
  cases had with
  | true =>
    go_enter Tryz.func226, Tryz.ntmps226
    go_wp2
    go_ret
    exact ⟨rfl, (Below.refl _ _).alloc (Nat.le_refl _) _⟩
  | false =>
    cases p with
    | none =>
      go_enter Tryz.func226, Tryz.ntmps226
      go_wp2
      go_ret
      exact ⟨rfl, (Below.refl _ _).alloc (Nat.le_refl _) _⟩
    | some a =>
      go_enter Tryz.func226, Tryz.ntmps226
      go_wp2
      go_ret
      exact ⟨rfl, (Below.refl _ _).alloc (Nat.le_refl _) _⟩

end Go.Proofs.YtenaepdmlknlcaaGreatDoor
