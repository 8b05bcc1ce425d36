import Derived.Test.YtbphndloichnaaaGreatDoorG15
import Derived.Test.YtbphndloichnaaaGreatDoorG21
import Derived.Test.YtbphndloichnaaaGreatDoorG27
namespace Go.Proofs.YtbphndloichnaaaGreatDoor
open Go.RowKit Go.Shelf

attribute [local go_sem] Oper.semAt_some

set_option maxHeartbeats 2000000 in
theorem meeting_nil (w0 : World) (T n Bt Bb : Nat) (w : World) (hBt : w.cell? ⟨Bt, 0, none⟩ = some (.pointer none)) :
    SeqStopsK Fence.wide n Tryz.prog 125 #[.pointer (some ⟨Bt, 0, none⟩), .pointer (some ⟨Bb, 0, none⟩)] (fun v : { v : FV // Good (fun _ => False) w0 v } => #[encF v.1]) (KeepC T) (fun ys => ys = []) (fun _ => True) 0 w := by
  intro l J Jx W hW hJ hJx hY h0
  refine callsIn_wide.2 ?_
  have e0 := (hW.cell (p := ⟨Bt, 0, none⟩) (cell_lt hBt)).trans hBt
  have H0 : Hid (J [] W) := h0
  clear hJ hJx hY h0 hBt
  show Calls Tryz.prog 125 #[.func (.yield l) #[] #[], .pointer (some ⟨Bt, 0, none⟩), .pointer (some ⟨Bb, 0, none⟩)] W _
  go_enter Tryz.func125, Tryz.ntmps125
  go_wp2
  go_end0
  exact ⟨⟨_, rfl⟩, .inl ⟨[], rfl, H0.out⟩⟩

set_option maxRecDepth 100000 in
set_option maxHeartbeats 4000000 in
theorem colour_nil (x : Bx) (w : World) :
    Calls Tryz.prog 56 #[.agg #[.pointer none], .agg #[.int .i64 x.l, .int .i64 x.t, .int .i64 x.r, .int .i64 x.b]] w fun e w' => e = .returned (.int .i64 (0)) ∧ Below w.heap.size w w' := by
  refine (callsIn_wide (n := 4)).1 ?_
  refine callsIn_of_wp_marks Tryz.func56 rfl trivial ?_ rfl
  simp only [Tryz.ntmps56, List.size_toArray, List.length_cons, List.length_nil, Nat.reduceAdd, Nat.reduceSub, Array.replicate_succ, Array.replicate_zero, List.push_toArray, List.append_toArray, List.nil_append, List.cons_append]
  gi_wp2_with (refine ⟨trivial, ?_⟩; gi_at_call 90; refine (callsIn_wide.2 (Meeting_any _ x _)).mono ?_; rintro e w' ⟨rfl, rfl⟩)
  have hB0 : ∀ o1 o2 o3 o4 o5 : Obj, Below w.heap.size w (((((w.alloc o1).alloc o2).alloc o3).alloc o4).alloc o5) := fun o1 o2 o3 o4 o5 => (((((Below.refl _ _).alloc (Nat.le_refl _) _).alloc (by simp) _).alloc (by simp <;> omega) _).alloc (by simp <;> omega) _).alloc (by simp <;> omega) _
  refine wpIn_rangeFunc_ownH (F := Fence.wide) rfl (by omega) (gf := 125) (lb := #[.pointer (some ⟨w.heap.size + 1 + 1 + 1, 0, none⟩), .pointer (some ⟨w.heap.size + 1 + 1 + 1 + 1, 0, none⟩)]) rfl trivial (enters_of Tryz.func125 (by kernel_rfl) rfl)
    (meeting_nil w (w.heap.size + 1 + 1) _ (w.heap.size + 1 + 1 + 1) (w.heap.size + 1 + 1 + 1 + 1) _ (by simp [go_sem]))
    keepC_t keepC_b (Below.refl _ _) (fun _ => rfl)
    (fun pre W => (Q5 W (w.heap.size + 1 + 1) (.int .i64 (tid (topOf x (pre.map Subtype.val)))) (.int .i64 (tkd (topOf x (pre.map Subtype.val)))) (.int .i64 (tht (topOf x (pre.map Subtype.val)))) (.int .i64 (tcol (topOf x (pre.map Subtype.val)))) (tsl (topOf x (pre.map Subtype.val))) ∧ C4 W (w.heap.size + 1) x) ∧ Below w.heap.size w W)
    (fun _ _ _ => False)
    (OwnFrom.and (Own.from (fun s A B row hs hg hr => ⟨hs.1.kept hg hr, hs.2.kept hg hr⟩) _) (ownFrom_below (Nat.le_refl _) (by simp <;> omega)))
    (fun _ _ _ _ _ hs _ _ => hs)
    ⟨⟨?q5, ⟨by simp [go_sem], by simp [go_sem], by simp [go_sem], by simp [go_sem]⟩⟩, hB0 _ _ _ _ _⟩
    (fun v a' W => ∃ Bv, w.heap.size + 1 + 1 < Bv ∧ Q5 W Bv (.int .i64 v.1.f.id) (.int .i64 v.1.f.kd) (.int .i64 v.1.f.ht) (.int .i64 v.1.f.col) (.slice (some ⟨v.1.pb, v.1.po, none⟩) v.1.f.ps.length v.1.cap) ∧
      a' = { tmps := #[.agg #[.pointer none], .agg #[.int .i64 x.l, .int .i64 x.t, .int .i64 x.r, .int .i64 x.b], .pointer (some ⟨w.heap.size, 0, none⟩), .pointer (some ⟨w.heap.size + 1, 0, none⟩), .int .i64 0, .pointer (some ⟨w.heap.size + 1 + 1, 0, none⟩), .pointer (some ⟨Bv, 0, none⟩), .agg #[.pointer none], .agg #[.int .i64 x.l, .int .i64 x.t, .int .i64 x.r, .int .i64 x.b], .func (.func 125) #[] #[.pointer (some ⟨w.heap.size + 1 + 1 + 1, 0, none⟩), .pointer (some ⟨w.heap.size + 1 + 1 + 1 + 1, 0, none⟩)], .agg #[.int .i64 v.1.f.id, .int .i64 v.1.f.kd, .int .i64 v.1.f.ht, .int .i64 v.1.f.col, .slice (some ⟨v.1.pb, v.1.po, none⟩) v.1.f.ps.length v.1.cap], undef, undef, undef, undef, undef, undef, undef, undef, undef, undef, undef, undef, undef, undef, undef, undef], defers := [] })
    (fun v a' s A B row hs hg hr => by obtain ⟨Bv, h1, h2, h3⟩ := hs; exact ⟨Bv, h1, h2.kept hg (fun r e => (hr r e).2), h3⟩)
    ?assign ?body ?done ?stop
  case q5 => constructor <;> simp [go_sem, topOf, tid, tkd, tht, tcol, tsl]
  case assign =>
    rintro l pre v W K ⟨⟨hq5, hc4⟩, hBW⟩ hK
    simp only [encF]
    gi_wp2
    refine hK _ _ ((KeepsOthers.alloc _ _).from _) (KeepC.of_below ((Below.refl _ _).alloc (Nat.le_refl _) _)) ⟨⟨hq5.below ((Below.refl _ _).alloc (Nat.le_refl _) _) (cell_lt hq5.c0), hc4.below ((Below.refl _ _).alloc (Nat.le_refl _) _) (cell_lt hc4.c0)⟩, hBW.alloc hBW.size _⟩ ⟨W.heap.size, cell_lt hq5.c0, Q5.new _ _ _ _ _ _ _, rfl⟩
  case body =>
    rintro l pre v a' W hl hr _ _ hlen
    exact absurd hlen (by simp)
  case done =>
    rintro D ys W hD hys ⟨⟨hq5, _⟩, hBW⟩ hK
    subst hys
    obtain ⟨c0, c1, c2, c3, c4, _, _, _, _, _⟩ := hq5
    gi_wp2
    refine ⟨by simp, .inl ⟨_, _, rfl, run_takeDeferred hK, ?_⟩⟩
    exact ⟨_, results_tmp rfl _ _ _, rfl, hBW.trans (belowK_b (w := w) (Nat.le_refl _) W D _ _ (by simp at hD; omega) hK rfl rfl)⟩
  case stop =>
    rintro D c pre W _ _ h _
    exact h.elim


set_option maxRecDepth 100000 in
set_option maxHeartbeats 2000000 in
theorem Body_gen (ro : Option Addr) (F : Nat → Int) (z p c r : Int) (w : World) (hC : ∀ (k : Nat) (W : World), k < 64 → Below w.heap.size w W → Calls Tryz.prog 56 #[.agg #[.pointer ro], .agg #[.int .i64 (pixZ p c r k).l, .int .i64 (pixZ p c r k).t, .int .i64 (pixZ p c r k).r, .int .i64 (pixZ p c r k).b]] W fun e w' => e = .returned (.int .i64 (F k)) ∧ Below W.heap.size W w') (hcol : ∀ n, 0 ≤ F n ∧ F n < 100)
    (hz : ZP z p) (h1 : 0 ≤ c) (h2 : c ≤ 7) (h3 : 0 ≤ r) (h4 : r ≤ 7) (hc : 8 * p * c ≤ 256 - 8 * p) (hr : 8 * p * r ≤ 256 - 8 * p) :
    Calls Tryz.prog 32 #[.agg #[.pointer ro], .agg #[.int .i64 z, .int .i64 c, .int .i64 r]] w fun e w' => e = .returned (.string ⟨(Lib.join ((txts ((List.range 64).map fun n => (F n).toNat)).map (·.data.toList)) [44]).toArray⟩) ∧ Below w.heap.size w w' := by
  have HCc : Hid (∀ (k : Nat) (W : World), k < 64 → Below w.heap.size w W → Calls Tryz.prog 56 #[.agg #[.pointer ro], .agg #[.int .i64 (pixZ p c r k).l, .int .i64 (pixZ p c r k).t, .int .i64 (pixZ p c r k).r, .int .i64 (pixZ p c r k).b]] W fun e w' => e = .returned (.int .i64 (F k)) ∧ Below W.heap.size W w') := hC
  have Hcol : Hid (∀ n, 0 ≤ F n ∧ F n < 100) := hcol
  clear hC hcol
  have HC0 : Hid (∀ C : Array Value, C = Array.replicate 64 (.int .i64 0) → ∀ (W : World) j, j < 64 → (W.alloc (.cells C 148)).cell? ⟨W.heap.size, j, none⟩ = some (.int .i64 0)) := fun C hC W j hj => zeros64 W C hC j hj
  go_enter Tryz.func32, Tryz.ntmps32
  go_wp2
  go_loopw [7] (fun i wr => ∃ k : Nat, k ≤ 64 ∧ i = .int .i64 k ∧ (∀ j, j < 64 → wr.cell? ⟨w.heap.size + 1 + 1, j, none⟩ = some (.int .i64 (if j < k then F j else 0))) ∧ (∀ j, wr.frozen? ⟨w.heap.size + 1 + 1, j, none⟩ = false) ∧ wr.cell? ⟨w.heap.size, 0, none⟩ = some (.pointer ro) ∧ wr.cell? ⟨w.heap.size + 1, 0, none⟩ = some (.int .i64 z) ∧ wr.cell? ⟨w.heap.size + 1, 1, none⟩ = some (.int .i64 c) ∧ wr.cell? ⟨w.heap.size + 1, 2, none⟩ = some (.int .i64 r) ∧ Below w.heap.size w wr ∧ w.heap.size + 3 ≤ wr.heap.size) (fun i _ => 64 - (intOf i).toNat)
  case atStart =>
    refine ⟨0, by omega, rfl, fun j hj => ?_, fun j => by simp [go_sem], by simp [go_sem], by simp [go_sem], by simp [go_sem], by simp [go_sem], (((Below.refl _ _).alloc (Nat.le_refl _) _).alloc (by simp) _).alloc (by simp <;> omega) _, by simp⟩
    rw [if_neg (by omega)]
    have h := HC0.out _ (show _ = Array.replicate 64 (Value.int .i64 0) from rfl) ((w.alloc (.cells #[.pointer ro] 89)).alloc (.cells #[.int .i64 z, .int .i64 c, .int .i64 r] 24)) j hj
    rw [World.size_alloc, World.size_alloc] at h
    exact h
  case round =>
    obtain ⟨k, hk, rfl, hcs, hfz, t0, t1, t2, t3, hB, hs⟩ := hrel
    have Hcs : Hid (∀ j, j < 64 → wr.cell? ⟨w.heap.size + 1 + 1, j, none⟩ = some (.int .i64 (if j < k then F j else 0))) := hcs
    have Hfz : Hid (∀ j, wr.frozen? ⟨w.heap.size + 1 + 1, j, none⟩ = false) := hfz
    clear hcs hfz
    by_cases hlt : k < 64
    · have hkI : (k : Int) < 64 := by omega
      have hk0 : (0 : Int) ≤ (k : Int) := by omega
      obtain ⟨p1, p2, p3, p4, p5, p6, p7, p8⟩ := pix_bd hz h1 h3 hc hr k hlt
      have HP : Hid (0 ≤ (pixZ p c r k).l ∧ 0 ≤ (pixZ p c r k).t ∧ 0 ≤ (pixZ p c r k).r ∧ 0 ≤ (pixZ p c r k).b ∧ (pixZ p c r k).l ≤ 1000 ∧ (pixZ p c r k).t ≤ 1000 ∧ (pixZ p c r k).r ≤ 1000 ∧ (pixZ p c r k).b ≤ 1000) := ⟨p1, p2, p3, p4, p5, p6, p7, p8⟩
      clear p1 p2 p3 p4 p5 p6 p7 p8
      have HZ : Hid (ZP z p) := hz
      have hmod : (k : Int).tmod 8 = (k : Int) % 8 := Int.tmod_eq_emod_of_nonneg hk0
      have hdiv : (k : Int).tdiv 8 = (k : Int) / 8 := Int.tdiv_eq_ediv_of_nonneg hk0
      have hw8 : IntKind.i64.wrap ((k : Int) / 8) = (k : Int) / 8 := by rw [IntKind.wrap_i64]; omega
      go_upto_region 5 with fail
      go_region_held3 (fun w' => w'.cell? ⟨w.heap.size, 0, none⟩ = some (.pointer ro) ∧ w'.cell? ⟨w.heap.size + 1, 0, none⟩ = some (.int .i64 z) ∧ w'.cell? ⟨w.heap.size + 1, 1, none⟩ = some (.int .i64 c) ∧ w'.cell? ⟨w.heap.size + 1, 2, none⟩ = some (.int .i64 r)) (first | exact s4 | exact s3 | exact s2 | (simp [go_sem, *]; done))
        (first
        | (go_at_call 57; refine (pixel_any z p c r _ _ _ HZ.out h1 h2 h3 h4 (by omega) (by omega) (by omega) (by omega)).mono ?_; rintro e w2 ⟨rfl, hb2⟩; obtain ⟨hc2, hf2⟩ := bcell hb2; have s2 := And.intro ((hc2 w.heap.size 0 (by simp <;> omega)).trans t0) (And.intro ((hc2 (w.heap.size + 1) 0 (by simp <;> omega)).trans t1) (And.intro ((hc2 (w.heap.size + 1) 1 (by simp <;> omega)).trans t2) ((hc2 (w.heap.size + 1) 2 (by simp <;> omega)).trans t3))); have hz2 : wr.heap.size ≤ w2.heap.size := (by have := hb2.size; simp at this; omega); have hB2 : Below wr.heap.size wr w2 := (Below.refl _ _).drew.trans (hb2.mono (by simp)); clear hc2 hf2 hb2)
        | (go_at_call 56; refine Calls.mono (HCc.out k _ hlt (hB.trans (hB2.mono hB.size))) ?_; rintro e w3 ⟨rfl, hb3⟩; have hB3 : Below wr.heap.size wr w3 := hB2.trans (hb3.mono hz2); obtain ⟨hc3, hf3⟩ := bcell hB3; have s3 := And.intro ((hc3 w.heap.size 0 (by omega)).trans t0) (And.intro ((hc3 (w.heap.size + 1) 0 (by omega)).trans t1) (And.intro ((hc3 (w.heap.size + 1) 1 (by omega)).trans t2) ((hc3 (w.heap.size + 1) 2 (by omega)).trans t3))); have st1 := (hc3 (w.heap.size + 1 + 1) k (by omega)).trans (Hcs.out k hlt); have st2 := (hf3 (w.heap.size + 1 + 1) k (by omega)).trans (Hfz.out k); clear hc3 hf3))
      all_goals
        have HB3 : Hid (Below wr.heap.size wr w3) := hB3
        have HS1 : Hid (w3.cell? ⟨w.heap.size + 1 + 1, k, none⟩ = some (.int .i64 (if k < k then F k else 0))) := st1
        clear st1 st2 s2 s3 hb3 hB2 hB3
        go_wp2
        go_roundw
        case rel =>
          have hB3 := HB3.out
          obtain ⟨hc3, hf3⟩ := bcell hB3
          have hset : ∀ u, Below (w.heap.size + 1 + 1) w3 (w3.setCell ⟨w.heap.size + 1 + 1, k, none⟩ u) := fun u => below_set1 _ w3 _ k (Nat.le_refl _) u
          refine ⟨k + 1, by omega, by go_num, fun j hj => ?_, fun j => ?_, ((hset _).cell (p := ⟨w.heap.size, 0, none⟩) (show w.heap.size < w.heap.size + 1 + 1 by omega)).trans ((hc3 _ _ (by omega)).trans t0), ((hset _).cell (p := ⟨w.heap.size + 1, 0, none⟩) (show w.heap.size + 1 < w.heap.size + 1 + 1 by omega)).trans ((hc3 _ _ (by omega)).trans t1), ((hset _).cell (p := ⟨w.heap.size + 1, 1, none⟩) (show w.heap.size + 1 < w.heap.size + 1 + 1 by omega)).trans ((hc3 _ _ (by omega)).trans t2), ((hset _).cell (p := ⟨w.heap.size + 1, 2, none⟩) (show w.heap.size + 1 < w.heap.size + 1 + 1 by omega)).trans ((hc3 _ _ (by omega)).trans t3), (hB.trans (hB3.mono hB.size)).trans ((hset _).mono (by omega)), Nat.le_trans (Nat.le_trans hs hB3.size) (hset _).size⟩
          · by_cases hjk : j = k
            · subst hjk
              rw [if_pos (by omega)]
              exact World.cell?_setCell_same _ _ _ HS1.out
            · rw [World.cell?_setCell_other _ _ _ _ (by intro e; exact hjk (by injection e with _ e2 _; exact e2.symm)), hc3 _ _ (by omega), Hcs.out j hj]
              by_cases hjl : j < k
              · rw [if_pos hjl, if_pos (by omega)]
              · rw [if_neg hjl, if_neg (by omega)]
          · rw [World.frozen?_setCell, hf3 _ _ (by omega)]
            exact Hfz.out j
        case measure => simp [intOf]; omega
    · obtain rfl : k = 64 := by omega
      have hruns := runs_any (w.heap.size + 1 + 1) 0 64 64 ((List.range 64).map fun n => (F n).toNat) wr (by omega) (fun j x hj => by
        rw [List.getElem?_map, Option.map_eq_some_iff] at hj
        obtain ⟨n, hn, rfl⟩ := hj
        obtain ⟨hj1, hj2⟩ := List.getElem?_eq_some_iff.1 hn
        simp at hj1 hj2
        subst hj2
        rw [Nat.zero_add, Hcs.out j hj1, if_pos hj1, Int.toNat_of_nonneg (Hcol.out j).1]) (fun x hx => by
        simp only [List.mem_map, List.mem_range] at hx
        obtain ⟨n, _, rfl⟩ := hx
        have := Hcol.out n
        omega) (by simp) (by omega) (by omega) (by omega) (by omega)
      have HR : Hid _ := hruns
      clear hruns
      go_wp2_with (go_at_call 58; refine Calls.mono HR.out ?_; rintro e w2 ⟨rfl, hb2⟩)
      go_ret
      exact ⟨rfl, hB.trans (hb2.mono hB.size)⟩


end Go.Proofs.YtbphndloichnaaaGreatDoor
namespace Go.Proofs.YtbphndloichnaaaGreatDoor
open Go.RowKit Go.Shelf

/-- The root of a tree: none for no feature. -/
def RootT (ok : Nat → Prop) (w : World) (ro : Option Addr) (vs : List FV) : Prop :=
  (ro = none ∧ vs = []) ∨ ∃ (d q : Nat) (x : Bx) (us : List FV), ro = some ⟨q, 0, none⟩ ∧ IsT ok w (d + 1) q us x ∧ us.Perm vs
theorem RootT.same {ok : Nat → Prop} {A B : World} {ro : Option Addr} {vs : List FV} (h : RootT ok A ro vs) (hs : Same ok A B) : RootT ok B ro vs :=
  h.elim .inl fun ⟨d, q, x, us, e, hT, hp⟩ => .inr ⟨d, q, x, us, e, hT.same hs, hp⟩
theorem RootT.mono {ok ok' : Nat → Prop} {w : World} {ro : Option Addr} {vs : List FV} (h : RootT ok w ro vs) (hs : ∀ b, ok b → ok' b) : RootT ok' w ro vs :=
  h.elim .inl fun ⟨d, q, x, us, e, hT, hp⟩ => .inr ⟨d, q, x, us, e, hT.mono hs, hp⟩

/-- With, whatever the tree. -/
theorem With_any (ok : Nat → Prop) (v : FV) (ro : Option Addr) (vs : List FV) (w : World) (hR : RootT ok w ro vs) (hval : ∀ u ∈ vs, validF u.f = true) (hvf : validF v.f = true) (hok : ∀ b, ok b → b < w.heap.size) (hobl : ok v.pb) (hp : Places w.heap.size w v.pb v.po v.f.ps) (hcap : v.f.ps.length ≤ v.cap) :
    Calls Tryz.prog 31 #[.agg #[.pointer ro], .agg #[.int .i64 v.f.id, .int .i64 v.f.kd, .int .i64 v.f.ht, .int .i64 v.f.col, .slice (some ⟨v.pb, v.po, none⟩) v.f.ps.length v.cap]] w fun e w' => ∃ ro' : Option Addr, e = .returned (.agg #[.pointer ro']) ∧ RootT (okN ok w.heap.size w'.heap.size) w' ro' (vs ++ [v]) ∧ Below w.heap.size w w' := by
  have hlen : 1 ≤ v.f.ps.length ∧ v.f.ps.length ≤ 6 := by
    simp only [validF, Bool.and_eq_true] at hvf
    have := hvf.1.2
    simp [mayB] at this; omega
  rcases hR with ⟨rfl, rfl⟩ | ⟨d, q, x, us, rfl, hT, hperm⟩
  · refine (With_nil ok v.f v.pb v.po v.f.ps.length v.cap w hok hobl hp rfl hlen.1 hlen.2 hcap).mono ?_
    rintro e w' ⟨q, x, rfl, hT, hb⟩
    exact ⟨_, rfl, .inr ⟨0, q, x, [v], rfl, hT, by simp⟩, hb⟩
  · refine (With_tree d ok v.f v.pb v.po v.f.ps.length v.cap q us x w hT (fun u hu => hval u (hperm.mem_iff.1 hu)) hvf hok hobl hp rfl hlen.1 hlen.2 hcap).mono ?_
    rintro e w' ⟨q', d', x', fs', rfl, hT', hp', hb⟩
    exact ⟨_, rfl, .inr ⟨d', q', x', fs', rfl, hT', hp'.trans (hperm.append_right [v])⟩, hb⟩

theorem tile_z {z c r : Int} (_h : tileB z c r = true) : 0 ≤ pZ z := by unfold pZ; split <;> (try split) <;> (try split) <;> omega

/-- The body of a tile, whatever the tree. -/
theorem Body_root (ok : Nat → Prop) (ro : Option Addr) (vs : List FV) (z c r : Int) (w : World) (hok : ∀ b, ok b → b < w.heap.size) (hR : RootT ok w ro vs) (hg : ∀ v ∈ vs, Good ok w v) (hd : Dist vs) (ht : tileB z c r = true) :
    Calls Tryz.prog 32 #[.agg #[.pointer ro], .agg #[.int .i64 z, .int .i64 c, .int .i64 r]] w fun e w' => e = .returned (.string ⟨(bodyR vs (pZ z) c r).toArray⟩) ∧ Below w.heap.size w w' := by
  obtain ⟨hz, h1, h2, h3, h4, hc, hr⟩ := tile_facts ht
  have hv : ∀ v ∈ vs, validF v.f = true := fun v h => (hg v h).1
  rcases hR with ⟨rfl, rfl⟩ | ⟨d, q, x, us, rfl, hT, hperm⟩
  · have := Body_gen none (fun n => colZ [] (pZ z) c r n) z (pZ z) c r w (fun k W _ hW => colour_nil _ W) (fun n => by simp [colZ, topOf, tcol]) hz h1 h2 h3 h4 hc hr
    rwa [body_eq (List.Perm.refl []) hd hv (tile_z ht)] at this
  · have hgu : ∀ v ∈ us, Good ok w v := fun v h => hg v (hperm.mem_iff.1 h)
    have := Body_gen (some ⟨q, 0, none⟩) (fun n => colZ us (pZ z) c r n) z (pZ z) c r w (fun k W hk hW => by
      obtain ⟨p1, p2, p3, p4, p5, p6, p7, p8⟩ := pix_bd hz h1 h3 hc hr k hk
      exact colour_any ok (d + 1) q us (pixZ (pZ z) c r k) x W (fun b hb => Nat.lt_of_lt_of_le (hok b hb) hW.size) (hT.same (Same.of_below hW hok)) (fun v h => Good.below hW hok (hgu v h)) p1 p2 p3 p4 p5 p6 p7 p8) (fun n => tcol_bd _ _ (fun u hu => (hgu u (List.mem_filter.1 hu).1).1)) hz h1 h2 h3 h4 hc hr
    rwa [body_eq hperm hd hv (tile_z ht)] at this

end Go.Proofs.YtbphndloichnaaaGreatDoor
