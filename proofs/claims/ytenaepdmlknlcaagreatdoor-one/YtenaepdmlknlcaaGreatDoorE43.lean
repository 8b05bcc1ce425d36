import Derived.Test.YtenaepdmlknlcaaGreatDoorE42
import Derived.Test.YtenaepdmlknlcaaGreatDoorE37
import Derived.Test.YtenaepdmlknlcaaGreatDoorE40
namespace Go.Proofs.YtenaepdmlknlcaaGreatDoor
open Go.RowKit Go.Shelf

/-- What once leaves: the features behind the request, its answer. -/
def OncePost (Q : Nat → Prop) (gs : List FG) (q : Rq) (w : World) (e : Ending) (w' : World) : Prop :=
  ∃ (a' : Option Addr) (cap' : Nat) (gs' : List FG), e = .returned (.tuple #[.slice a' gs'.length cap', .string (ansR (gs.map (·.f)) (askZ q)), .bool true]) ∧ gs'.length ≤ cap' ∧ FeatsQ (fun b => Q b ∨ w.heap.size ≤ b) w' a' gs' ∧ gs'.map (·.f) = fsR (gs.map (·.f)) (askZ q) ∧ Below w.heap.size w w'
theorem ownsRow_le {w : World} {b0 b1 : Nat} {e : TypeId} {size : Nat} {v : Value} {n : Nat} {xs : List Value} (h : w.ownsRow b1 e size v n xs) (hb : b0 ≤ b1) : w.ownsRow b0 e size v n xs :=
  ⟨h.1, h.2.imp id fun ⟨g, cap, cur, e1, e2, e3⟩ => ⟨g, cap, cur, e1, Nat.le_trans hb e2, e3⟩⟩
theorem notId_map (id : Int) (gs : List FG) : (gs.filter (notId id)).map (·.f) = (gs.map (·.f)).filter fun f => !(f.id == id) := by
  rw [List.filter_map]; rfl
theorem ansF_put (had : Bool) (f : Feat) : ansF had (some f) = if had = true then ⟨#[50, 48, 48]⟩ else ⟨#[50, 48, 49]⟩ := by
  unfold ansF; simp
theorem ansF_del (had : Bool) : ansF had none = if had = true then ⟨#[50, 48, 48]⟩ else ⟨#[52, 48, 52]⟩ := by
  unfold ansF; simp
theorem Places.grow {A B : World} (h : Below A.heap.size A B) {b off : Nat} {ps : Pts} (hp : Places A.heap.size A b off ps) : Places B.heap.size B b off ps :=
  ⟨Nat.lt_of_lt_of_le hp.1 h.size, fun k x y e => ⟨(h.cell (p := ⟨b, off + k * 2, none⟩) hp.1).trans (hp.2 k x y e).1, (h.cell (p := ⟨b, off + k * 2 + 1, none⟩) hp.1).trans (hp.2 k x y e).2⟩⟩
/-- The list behind a put. -/
theorem put_list {Q : Nat → Prop} {gs : List FG} {id : Int} {w w' : World} {a : Option Addr} (h : FeatsQ Q w a gs) (hb : Below w.heap.size w w') {g : FG} (hg : FgOk (fun b => w.heap.size ≤ b) w' g) {v : Value} (hown : w'.ownsRow w.heap.size 32 5 v ((gs.filter (notId id)).length + 1) (flatG (gs.filter (notId id)) ++ fgV g)) :
    ∃ a' cap', v = .slice a' (gs.filter (notId id) ++ [g]).length cap' ∧ (gs.filter (notId id) ++ [g]).length ≤ cap' ∧ FeatsQ (fun b => Q b ∨ w.heap.size ≤ b) w' a' (gs.filter (notId id) ++ [g]) := by
  refine FeatsQ.row (base := w.heap.size) ?_ (fun b hb => .inr (hown.lt b hb).1) fun x hx => ?_
  · rw [List.length_append, flatG_append, flatG_one]; exact hown
  · rcases List.mem_append.1 hx with hx | hx
    · exact ((h.below hb).mem x (List.mem_filter.1 hx).1).mono fun b hb => .inl hb
    · rw [List.mem_singleton.1 hx]; exact hg.mono fun b hb => .inr hb

set_option maxRecDepth 100000 in
set_option maxHeartbeats 2000000 in
theorem once_put (Q : Nat → Prop) (a : Option Addr) (n cap : Nat) (gs : List FG) (q : Rq) (hq : RqOk q) (hkd : kindZ q = 0) (pa : Option Addr) (pn pc : Nat) (w : World) (h : FeatsQ Q w a gs) (hn : n = gs.length) (hcap : n ≤ cap) (hn2 : n ≤ 900) (hr : RawAt w pa pn q.ps) :
    Calls Tryz.prog 19 #[.slice a n cap, rqV q (.slice pa pn pc)] w (OncePost Q gs q w) := by
  have HK : Hid (∀ W : World, Calls Tryz.prog 46 #[rqV q (.slice pa pn pc)] W fun e w' => e = .returned (.int .i64 0) ∧ Below W.heap.size W w') := fun W => by rw [← hkd]; exact qkind_any q hq pa pn pc W
  have HFt : Hid (∀ W : World, Below w.heap.size w W → Calls Tryz.prog 47 #[rqV q (.slice pa pn pc)] W fun e w' => ∃ (b cap : Nat), e = .returned (.agg #[.int .i64 (featZ q).id, .int .i64 (featZ q).kd, .int .i64 (featZ q).ht, .int .i64 (featZ q).col, .slice (some ⟨b, 0, none⟩) (featZ q).ps.length cap]) ∧ W.heap.size ≤ b ∧ (featZ q).ps.length ≤ cap ∧ Places w'.heap.size w' b 0 (featZ q).ps ∧ Below W.heap.size W w') := fun W hW => qfeat_any q hq pa pn pc W (hr.below hW)
  have HWo : Hid (∀ W : World, Below w.heap.size w W → Calls Tryz.prog 48 #[.slice a n cap, .int .i64 (featZ q).id] W fun e w' => ∃ v, e = .returned (.tuple #[v, .bool (hasF (featZ q).id (gs.map (·.f)))]) ∧ w'.ownsRow W.heap.size 32 5 v (gs.filter (notId (featZ q).id)).length (flatG (gs.filter (notId (featZ q).id))) ∧ Below W.heap.size W w') := fun W hW => without_any Q a n cap gs (featZ q).id W (h.below hW) hn hcap (by omega)
  have HF : Hid (FeatsQ Q w a gs) := h
  have hlen : (gs.filter (notId (featZ q).id)).length ≤ 900 := by
    have := List.length_filter_le (notId (featZ q).id) gs; omega
  have hfew : (featZ q).ps.length ≤ 6 := (featZ_bd q).2.2.2.2.1
  have hask : askZ q = .put (featZ q) := by unfold askZ; rw [if_pos hkd]
  have HAns : Hid (ansR (gs.map (·.f)) (askZ q) = if hasF (featZ q).id (gs.map (·.f)) = true then ⟨#[50, 48, 48]⟩ else ⟨#[50, 48, 49]⟩) := by show _ = _; rw [hask]; exact ansF_put _ _
  have HFs : Hid (∀ (x : Option Addr) (c : Nat), (gs.filter (notId (featZ q).id) ++ [(⟨featZ q, x, c⟩ : FG)]).map (·.f) = fsR (gs.map (·.f)) (askZ q)) := fun x c => by
    rw [hask, List.map_append, notId_map]; rfl
  obtain ⟨i32, hi0, hz0, hz1, hz2⟩ := info_parts info32
  have HI : Hid (Tryz.prog.info? 32 = some i32 ∧ i32.zero = some (.agg #[.int .i64 0, .int .i64 0, .int .i64 0, .int .i64 0, .slice none 0 0]) ∧ i32.size = 5 ∧ i32.bytes = 56) := ⟨hi0, hz0, hz1, hz2⟩
  obtain ⟨⟨fi, fk, fh, fc, fp⟩, hf⟩ : ∃ f, featZ q = f := ⟨_, rfl⟩
  rw [hf] at HFt HWo hlen HAns hfew HFs
  dsimp only at HFt HWo hlen HAns hfew
  obtain ⟨rest, hrest⟩ : ∃ x, gs.filter (notId fi) = x := ⟨_, rfl⟩
  have Hrest : Hid (gs.filter (notId fi) = rest) := hrest
  rw [hrest] at HWo hlen
  clear hi0 hz0 hz1 hz2 h hr hn hf hrest hask hkd
  unfold OncePost
  rw [HAns.out]
  obtain ⟨qk, qa, qb, qc, qd, qps⟩ := q
  dsimp only [rqV] at *
  cases hh : hasF fi (gs.map (·.f))
  all_goals
    rw [hh] at HWo
    go_enter Tryz.func19, Tryz.ntmps19
    go_wp2_with (first
      | (go_at_call 46; refine Calls.mono (HK.out _) ?_; rintro e w1 ⟨rfl, hb1⟩; dsimp only; have hc : ∀ i v, (w.alloc _).cell? ⟨w.heap.size, i, none⟩ = some v → w1.cell? ⟨w.heap.size, i, none⟩ = some v := (fun i v h => (hb1.cell (p := ⟨w.heap.size, i, none⟩) (by simp)).trans h); have k0 := hc 0 (.int .i64 qk) (by simp [go_sem]); have k1 := hc 1 (.int .i64 qa) (by simp [go_sem]); have k2 := hc 2 (.int .i64 qb) (by simp [go_sem]); have k3 := hc 3 (.int .i64 qc) (by simp [go_sem]); have k4 := hc 4 (.int .i64 qd) (by simp [go_sem]); have k5 := hc 5 (.slice pa pn pc) (by simp [go_sem]); clear hc; have HB1 : Hid (Below w.heap.size w w1) := ((Below.refl _ _).alloc (Nat.le_refl _) _).trans (hb1.mono (by simp)); clear hb1)
      | (go_at_call 47; refine Calls.mono (HFt.out _ HB1.out) ?_; rintro e w2 ⟨pb, pcap, rfl, hpb, hpc, hpl, hb2⟩; dsimp only; have HB2 : Hid (Below w.heap.size w w2) := HB1.out.trans (hb2.mono HB1.out.size); have HPl : Hid (Places w2.heap.size w2 pb 0 fp) := hpl; have hpb' : w.heap.size ≤ pb := (by have := HB1.out.size; omega); clear hpl hb2)
      | (go_at_call 48; (refine Calls.mono (HWo.out _ (HB2.out.alloc HB2.out.size _)) ?_; rintro e w4 ⟨rv, rfl, hown, hb4⟩; dsimp only; have hc4 : ∀ i v, (w2.alloc _).cell? ⟨w2.heap.size, i, none⟩ = some v → w4.cell? ⟨w2.heap.size, i, none⟩ = some v := (fun i v h => (hb4.cell (p := ⟨w2.heap.size, i, none⟩) (by simp)).trans h); have m0 := hc4 0 (.int .i64 fi) (by simp [go_sem]); have m1 := hc4 1 (.int .i64 fk) (by simp [go_sem]); have m2 := hc4 2 (.int .i64 fh) (by simp [go_sem]); have m3 := hc4 3 (.int .i64 fc) (by simp [go_sem]); have m4 := hc4 4 (.slice (some ⟨pb, 0, none⟩) fp.length pcap) (by simp [go_sem]); clear hc4; have hs2 := HB2.out.size; have HB4 : Hid (Below w.heap.size w w4) := (HB2.out.alloc HB2.out.size _).trans (hb4.mono (by simp; omega)); have HO4 : Hid (w4.ownsRow w.heap.size 32 5 rv rest.length (flatG rest)) := ownsRow_le hown (by simp; omega); have HP4 : Hid (Places w4.heap.size w4 pb 0 fp) := (HPl.out.grow ((Below.refl _ _).alloc (Nat.le_refl _) _)).grow hb4; have HRb : Hid (∀ k, rv.ownBlock = some k → w2.heap.size + 1 ≤ k) := (fun k hk => by have := (hown.lt k hk).1; simpa using this); clear hown hb4))
      | (at_builtin; refine wpList_append_own _ rfl _ _ 22 rfl w.heap.size 32 i32 (.agg #[.int .i64 0, .int .i64 0, .int .i64 0, .int .i64 0, .slice none 0 0]) 5 56 Tryz.underlying22 HI.out.1 HI.out.2.1 HI.out.2.2.1 HI.out.2.2.2 rfl (by decide) rv rest.length (flatG rest) rfl (HO4.out.alloc _) ⟨w4.heap.size, 0, none⟩ 1 1 [.int .i64 fi, .int .i64 fk, .int .i64 fh, .int .i64 fc, .slice (some ⟨pb, 0, none⟩) fp.length pcap] rfl rfl (fun j u hj => by
                  rw [addr_add]
                  match j, hj with
                  | 0, hj => simp at hj; subst hj; simp [go_sem]
                  | 1, hj => simp at hj; subst hj; simp [go_sem]
                  | 2, hj => simp at hj; subst hj; simp [go_sem]
                  | 3, hj => simp at hj; subst hj; simp [go_sem]
                  | 4, hj => simp at hj; subst hj; simp [go_sem]
                  | j + 5, hj => simp at hj) (fun u hu => by simp only [List.mem_cons, List.not_mem_nil, or_false] at hu; rcases hu with hu | hu | hu | hu | hu <;> (rw [hu]; rfl)) (by unfold maxLen; omega) (by omega) (by have := HB4.out.size; simp; omega) ?_; intro v5 w5 hown5 hgrow5 _; have hb5 : Below w.heap.size w4 w5 := ((Below.refl _ w4).alloc HB4.out.size _).grown hgrow5 (by have := HB4.out.size; simp; omega) (fun k hk => (HO4.out.lt k hk).1); have HO5 : Hid (w5.ownsRow w.heap.size 32 5 v5 (rest.length + 1) (flatG rest ++ fgV ⟨⟨fi, fk, fh, fc, fp⟩, some ⟨pb, 0, none⟩, pcap⟩)) := hown5; have HG5 : Hid _ := hgrow5; have HB5 : Hid (Below w.heap.size w w5) := HB4.out.trans hb5; clear hown5 hgrow5 hb5))
    have hP5 : FgOk (fun b => w.heap.size ≤ b) w5 ⟨⟨fi, fk, fh, fc, fp⟩, some ⟨pb, 0, none⟩, pcap⟩ := by
      refine ⟨.inr ⟨pb, 0, rfl, ?_⟩, hpc, hfew, fun x e => by cases e; exact hpb'⟩
      have hlt := HP4.out.1
      have hne : ∀ k, rv.ownBlock = some k → k ≠ pb := fun k hk => by have := HRb.out k hk; have := HPl.out.1; omega
      have hcell : ∀ o, w5.cell? ⟨pb, o, none⟩ = w4.cell? ⟨pb, o, none⟩ := fun o =>
        (World.cell?_of_block (a := ⟨pb, o, none⟩) (HG5.out.block pb (by simp; omega) (fun e => hne pb e.symm rfl))).trans (((Below.refl w4.heap.size w4).alloc (Nat.le_refl _) _).cell (p := ⟨pb, o, none⟩) hlt)
      exact ⟨Nat.lt_of_lt_of_le hlt (by have := HG5.out.size; simp at this; omega), fun k x y e => ⟨(hcell _).trans (HP4.out.2 k x y e).1, (hcell _).trans (HP4.out.2 k x y e).2⟩⟩
    obtain ⟨a', cap', rfl, hc', hf'⟩ := put_list (id := fi) HF.out HB5.out hP5 (by rw [Hrest.out]; exact HO5.out)
    go_wp2
    go_ret3
    exact ⟨a', cap', _, rfl, hc', hf', HFs.out _ _, HB5.out⟩

set_option maxRecDepth 100000 in
set_option maxHeartbeats 2000000 in
theorem once_del (Q : Nat → Prop) (a : Option Addr) (n cap : Nat) (gs : List FG) (q : Rq) (hq : RqOk q) (hkd : kindZ q = 1) (pa : Option Addr) (pn pc : Nat) (w : World) (h : FeatsQ Q w a gs) (hn : n = gs.length) (hcap : n ≤ cap) (hn2 : n ≤ 900) :
    Calls Tryz.prog 19 #[.slice a n cap, rqV q (.slice pa pn pc)] w (OncePost Q gs q w) := by
  have HK : Hid (∀ W : World, Calls Tryz.prog 46 #[rqV q (.slice pa pn pc)] W fun e w' => e = .returned (.int .i64 1) ∧ Below W.heap.size W w') := fun W => by rw [← hkd]; exact qkind_any q hq pa pn pc W
  have HC1 : Hid (∀ W : World, Calls Tryz.prog 28 #[.int .i64 q.a, .int .i64 6] W fun e w' => e = .returned (.int .i64 (pkZ q.a 6)) ∧ w' = W) := fun W => kpick_any q.a 6 hq.a (by decide) (by decide) W
  obtain ⟨a0, a1⟩ := pkZ_bd q.a 6 (by decide)
  have HWo : Hid (∀ W : World, Below w.heap.size w W → Calls Tryz.prog 48 #[.slice a n cap, .int .i64 (1 + pkZ q.a 6)] W fun e w' => ∃ v, e = .returned (.tuple #[v, .bool (hasF (1 + pkZ q.a 6) (gs.map (·.f)))]) ∧ w'.ownsRow W.heap.size 32 5 v (gs.filter (notId (1 + pkZ q.a 6))).length (flatG (gs.filter (notId (1 + pkZ q.a 6)))) ∧ Below W.heap.size W w') := fun W hW => without_any Q a n cap gs _ W (h.below hW) hn hcap (by omega)
  have HF : Hid (FeatsQ Q w a gs) := h
  have hask : askZ q = .del (1 + pkZ q.a 6) := by unfold askZ; rw [if_neg (by omega), if_pos hkd]
  have HAns : Hid (ansR (gs.map (·.f)) (askZ q) = if hasF (1 + pkZ q.a 6) (gs.map (·.f)) = true then ⟨#[50, 48, 48]⟩ else ⟨#[52, 48, 52]⟩) := by show _ = _; rw [hask]; exact ansF_del _
  have HFs : Hid ((gs.filter (notId (1 + pkZ q.a 6))).map (·.f) = fsR (gs.map (·.f)) (askZ q)) := by
    show _ = _
    rw [hask, notId_map]
    show _ = newFs _ _ none
    unfold newFs; simp
  obtain ⟨x, hx⟩ : ∃ x, pkZ q.a 6 = x := ⟨_, rfl⟩
  rw [hx] at HC1 a0 a1 HWo HAns HFs
  have hw1 : IntKind.i64.wrap (1 + x) = 1 + x := by rw [IntKind.wrap_i64]; omega
  clear h hn hx hask hkd
  unfold OncePost
  rw [HAns.out]
  obtain ⟨qk, qa, qb, qc, qd, qps⟩ := q
  dsimp only [rqV] at *
  cases hh : hasF (1 + x) (gs.map (·.f))
  all_goals
    rw [hh] at HWo
    go_enter Tryz.func19, Tryz.ntmps19
    go_wp2_with (first
      | (go_at_call 46; refine Calls.mono (HK.out _) ?_; rintro e w1 ⟨rfl, hb1⟩; dsimp only; have k1 : w1.cell? ⟨w.heap.size, 1, none⟩ = some (.int .i64 qa) := (hb1.cell (p := ⟨w.heap.size, 1, none⟩) (by simp)).trans (by simp [go_sem]); have HB1 : Hid (Below w.heap.size w w1) := ((Below.refl _ _).alloc (Nat.le_refl _) _).trans (hb1.mono (by simp)); clear hb1)
      | (go_at_call 28; refine Calls.mono (HC1.out _) ?_; rintro e w2 ⟨rfl, rfl⟩; dsimp only)
      | (go_at_call 48; refine Calls.mono (HWo.out _ HB1.out) ?_; rintro e w4 ⟨rv, rfl, hown, hb4⟩; dsimp only; have hs1 := HB1.out.size; have HB4 : Hid (Below w.heap.size w w4) := HB1.out.trans (hb4.mono hs1); have HO4 : Hid (w4.ownsRow w.heap.size 32 5 rv (gs.filter (notId (1 + x))).length (flatG (gs.filter (notId (1 + x))))) := ownsRow_le hown hs1; clear hown hb4))
    obtain ⟨a', cap', rfl, hc', hf'⟩ := FeatsQ.row (Q := fun b => Q b ∨ w.heap.size ≤ b) HO4.out (fun b hb => .inr (HO4.out.lt b hb).1) (fun g hg => ((HF.out.below HB4.out).mem g (List.mem_filter.1 hg).1).mono fun b hb => .inl hb)
    go_wp2
    go_ret3
    exact ⟨a', cap', _, rfl, hc', hf', HFs.out, HB4.out⟩

end Go.Proofs.YtenaepdmlknlcaaGreatDoor

namespace Go.Proofs.YtenaepdmlknlcaaGreatDoor
open Go.RowKit Go.Shelf

theorem seen_not {gs : List FG} (hd : DistF (gs.map (·.f))) {i : Nat} {g : FG} (h : gs[i]? = some g) : seenG gs i g.f.id = false := by
  unfold seenG
  rw [List.any_eq_false]
  intro x hx
  obtain ⟨j, hj, e⟩ := List.getElem_of_mem hx
  simp at hj
  rw [List.getElem_take] at e
  intro he
  have he' : x.f.id = g.f.id := by simpa using he
  have hd' : ((gs.map (·.f)).map (·.id)).Nodup := hd
  have h1 : ((gs.map (·.f)).map (·.id))[j]? = some g.f.id := by
    rw [List.getElem?_map, List.getElem?_map, List.getElem?_eq_getElem (show j < gs.length by omega), e]
    simp [he']
  have h2 : ((gs.map (·.f)).map (·.id))[i]? = some g.f.id := by
    rw [List.getElem?_map, List.getElem?_map, h]; rfl
  have := (List.getElem?_inj (by simp; omega) hd').1 (h1.trans h2.symm)
  omega
theorem okTo_all {gs : List FG} (h : FsOk (gs.map (·.f))) : ∀ i, i ≤ gs.length → okTo gs i = true
  | 0, _ => rfl
  | i + 1, hi => by
    have hg : gs[i]? = some gs[i] := List.getElem?_eq_getElem (by omega)
    rw [okTo_succ hg, okTo_all h i (by omega), seen_not h.dist hg, h.valid gs[i].f (List.mem_map_of_mem (List.getElem_mem _))]
    rfl
theorem draw_get {gs : List FG} (h : FsOk (gs.map (·.f))) {t : Tl} (ht : t.good) : drawV gs t.z t.c t.r = .tuple #[.string (markS (bodyF (gs.map (·.f)) t)), .string (bodyF (gs.map (·.f)) t), .int .i64 0] := by
  have e : bodyR (gs.map FG.fv) (pZ t.z) t.c t.r = bodyL (gs.map (·.f)) t := bodyR_mk (by rw [List.map_map]; exact List.map_congr_left fun g _ => FG.fv_f g) t
  have ht' : tileB t.z t.c t.r = true := ht
  unfold drawV
  rw [ht', okTo_all h _ (Nat.le_refl _), e]
  rfl
theorem mark_len (l : List UInt8) : (markN l).length = 8 := by
  have h := digs16_len 7 (sumN l) (by have := sumN_lt l; omega)
  unfold markN padN
  rw [List.length_append, List.length_replicate]
  omega
theorem mark_size (b : ByteArray) : (markS b).size = 8 := by
  have := mark_len b.data.toList
  show (markN b.data.toList).toArray.size = 8
  simpa using this
theorem ansR_get (fs : List Feat) (t : Tl) (m : ByteArray) : ansR fs (.get t m) = tellS m (bodyF fs t) := rfl
theorem fsR_get (fs : List Feat) (t : Tl) (m : ByteArray) : fsR fs (.get t m) = fs := rfl
theorem tell_new (b : ByteArray) : tellS ⟨#[]⟩ b = ⟨#[50, 48, 48, 32]⟩ ++ markS b ++ ⟨#[32]⟩ ++ b := by
  unfold tellS
  rw [eqS, if_neg]
  intro e
  have h := mark_size b
  rw [← of_decide_eq_true e] at h
  revert h; decide

set_option maxRecDepth 100000 in
set_option maxHeartbeats 2000000 in
theorem once_get (Q : Nat → Prop) (a : Option Addr) (n cap : Nat) (gs : List FG) (q : Rq) (hq : RqOk q) (hkd : kindZ q = 2) (pa : Option Addr) (pn pc : Nat) (w : World) (h : FeatsQ Q w a gs) (hn : n = gs.length) (hcap : n ≤ cap) (hn2 : n ≤ 900) (hok : FsOk (gs.map (·.f))) (g : Gl w) :
    Calls Tryz.prog 19 #[.slice a n cap, rqV q (.slice pa pn pc)] w (OncePost Q gs q w) := by
  have HK : Hid (∀ W : World, Calls Tryz.prog 46 #[rqV q (.slice pa pn pc)] W fun e w' => e = .returned (.int .i64 2) ∧ Below W.heap.size W w') := fun W => by rw [← hkd]; exact qkind_any q hq pa pn pc W
  have HT : Hid (∀ W : World, Calls Tryz.prog 20 #[rqV q (.slice pa pn pc)] W fun e w' => e = .returned (.agg #[.int .i64 (tileZ q).z, .int .i64 (tileZ q).c, .int .i64 (tileZ q).r]) ∧ Below W.heap.size W w') := fun W => qtile_any q hq pa pn pc W
  have hsz : 3 < w.heap.size := by have := g.sz; omega
  have HD : Hid (∀ W : World, Below w.heap.size w W → Calls Tryz.prog 11 #[.slice a n cap, .agg #[.int .i64 (tileZ q).z, .int .i64 (tileZ q).c, .int .i64 (tileZ q).r]] W fun e w' => e = .returned (.tuple #[.string (markS (bodyF (gs.map (·.f)) (tileZ q))), .string (bodyF (gs.map (·.f)) (tileZ q)), .int .i64 0]) ∧ Below W.heap.size W w') := fun W hW => by
    have hd := Draw_any a n cap gs (tileZ q).z (tileZ q).c (tileZ q).r W (h.below hW).go hn (by omega) ((hW.cell (p := ⟨3, 15, none⟩) hsz).trans g.t3) (Nat.lt_of_lt_of_le hsz hW.size)
    rw [draw_get hok (tileZ_good q)] at hd
    exact hd
  have HF : Hid (FeatsQ Q w a gs) := h
  have hask : askZ q = .get (tileZ q) ⟨#[]⟩ := by unfold askZ; rw [if_neg (by omega), if_neg (by omega)]
  have HAns : Hid (ansR (gs.map (·.f)) (askZ q) = ⟨#[50, 48, 48, 32]⟩ ++ markS (bodyF (gs.map (·.f)) (tileZ q)) ++ ⟨#[32]⟩ ++ bodyF (gs.map (·.f)) (tileZ q)) := by show _ = _; rw [hask, ansR_get, tell_new]
  have HFs : Hid (gs.map (·.f) = fsR (gs.map (·.f)) (askZ q)) := by show _ = _; rw [hask, fsR_get]
  have hms := mark_size (bodyF (gs.map (·.f)) (tileZ q))
  have hbs := bodyF_size hok.valid (tileZ q)
  obtain ⟨bd, hbd⟩ : ∃ x, bodyF (gs.map (·.f)) (tileZ q) = x := ⟨_, rfl⟩
  rw [hbd] at HD HAns hms hbs
  obtain ⟨mk, hmk⟩ : ∃ x, markS bd = x := ⟨_, rfl⟩
  rw [hmk] at HD HAns hms
  obtain ⟨⟨tz, tc, tr⟩, ht⟩ : ∃ x, tileZ q = x := ⟨_, rfl⟩
  rw [ht] at HT HD
  dsimp only at HT HD
  have Hn : Hid (n = gs.length) := hn
  clear hbd hmk ht hask hkd h hok g hn
  unfold OncePost
  rw [HAns.out]
  have hcat1 : (9223372036854775807 < 4 + mk.size) = False := eq_false (by omega)
  have hcat2 : (9223372036854775807 < 4 + mk.size + 1) = False := eq_false (by omega)
  have hcat3 : (9223372036854775807 < 4 + mk.size + 1 + bd.size) = False := eq_false (by omega)
  obtain ⟨qk, qa, qb, qc, qd, qps⟩ := q
  dsimp only [rqV] at *
  go_enter Tryz.func19, Tryz.ntmps19
  go_wp2_with (first
    | (go_at_call 46; refine Calls.mono (HK.out _) ?_; rintro e w1 ⟨rfl, hb1⟩; dsimp only; have hc : ∀ i v, (w.alloc _).cell? ⟨w.heap.size, i, none⟩ = some v → w1.cell? ⟨w.heap.size, i, none⟩ = some v := (fun i v h => (hb1.cell (p := ⟨w.heap.size, i, none⟩) (by simp)).trans h); have k0 := hc 0 (.int .i64 qk) (by simp [go_sem]); have k1 := hc 1 (.int .i64 qa) (by simp [go_sem]); have k2 := hc 2 (.int .i64 qb) (by simp [go_sem]); have k3 := hc 3 (.int .i64 qc) (by simp [go_sem]); have k4 := hc 4 (.int .i64 qd) (by simp [go_sem]); have k5 := hc 5 (.slice pa pn pc) (by simp [go_sem]); clear hc; have HB1 : Hid (Below w.heap.size w w1) := ((Below.refl _ _).alloc (Nat.le_refl _) _).trans (hb1.mono (by simp)); clear hb1)
    | (go_at_call 20; refine Calls.mono (HT.out _) ?_; rintro e w2 ⟨rfl, hb2⟩; dsimp only; have HB2 : Hid (Below w.heap.size w w2) := HB1.out.trans (hb2.mono HB1.out.size); clear hb2)
    | (go_at_call 11; refine Calls.mono (HD.out _ HB2.out) ?_; rintro e w3 ⟨rfl, hb3⟩; dsimp only; have HB3 : Hid (Below w.heap.size w w3) := HB2.out.trans (hb3.mono HB2.out.size); clear hb3))
  go_ret3
  have hn := Hn.out
  subst hn
  exact ⟨a, cap, gs, rfl, hcap, (HF.out.below HB3.out).mono fun b hb => .inl hb, HFs.out, HB3.out⟩
/-- once, whatever the request. -/
theorem once_any (Q : Nat → Prop) (a : Option Addr) (n cap : Nat) (gs : List FG) (q : Rq) (hq : RqOk q) (pa : Option Addr) (pn pc : Nat) (w : World) (h : FeatsQ Q w a gs) (hn : n = gs.length) (hcap : n ≤ cap) (hn2 : n ≤ 900) (hr : RawAt w pa pn q.ps) (hok : FsOk (gs.map (·.f))) (g : Gl w) :
    Calls Tryz.prog 19 #[.slice a n cap, rqV q (.slice pa pn pc)] w (OncePost Q gs q w) := by
  by_cases h0 : kindZ q = 0
  · exact once_put Q a n cap gs q hq h0 pa pn pc w h hn hcap hn2 hr
  · by_cases h1 : kindZ q = 1
    · exact once_del Q a n cap gs q hq h1 pa pn pc w h hn hcap hn2
    · refine once_get Q a n cap gs q hq ?_ pa pn pc w h hn hcap hn2 hok g
      unfold kindZ at *
      split at h0
      · exact absurd rfl h0
      · rename_i h3
        rw [if_neg h3] at h1 ⊢
        split at h1
        · exact absurd rfl h1
        · rename_i h4
          rw [if_neg h4]

end Go.Proofs.YtenaepdmlknlcaaGreatDoor

namespace Go.Proofs.YtenaepdmlknlcaaGreatDoor
open Go.RowKit Go.Shelf

/-! Requests that are done one at a time. -/
theorem inv_turn {a : Atl} {T : Int} (h : Inv a T) (hf : FairOk a) (hT : T < 4611686018427387904) {n : Nat} (hn : n < 4) : Inv (turnM a n) (T + 1) := inv_tell (inv_pick h hf.ok hf.lock hT hn) n
theorem inv_sendP {P : Pl} {T : Int} (h : Inv P.a T) (n : Nat) (d : Dn) : Inv (sendP P n d).a T := by
  unfold sendP; split
  · exact h
  · exact inv_send h n _
/-! Two plays side by side, and a list of features beside them. -/
structure Two (w0 : World) (p A : Nat) (Z : Nat → Prop) (v : Nat → Value) (r A' : Nat) (Z' : Nat → Prop) (v' : Nat → Value) (fa : Option Addr) (gs : List FG) (P R : Pl) (w : World) : Prop where
  pp : PlayAt w w0.heap.size p A Z v P
  pr : PlayAt w w0.heap.size r A' Z' v' R
  dis : ∀ b, PB Z p v b → ¬ PB Z' r v' b
  f : FeatsQ (fun b => b < w.heap.size ∧ ¬ PB Z p v b ∧ ¬ PB Z' r v' b) w fa gs
  bl : Below w0.heap.size w0 w
theorem Two.left {w0 : World} {p A : Nat} {Z : Nat → Prop} {v : Nat → Value} {r A' : Nat} {Z' : Nat → Prop} {v' : Nat → Value} {fa : Option Addr} {gs : List FG} {P R P' : Pl} {w w' : World} (h : Two w0 p A Z v r A' Z' v' fa gs P R w) {Z1 : Nat → Prop} {v1 : Nat → Value} (k : PN w0.heap.size p A Z v Z1 v1 P' w w') : Two w0 p A Z1 v1 r A' Z' v' fa gs P' R w' := by
  have hnew : ∀ b, PB Z1 p v1 b → b < w.heap.size → PB Z p v b := fun b hb hl => (k.sub b hb).elim id (fun e => by omega)
  refine ⟨k.pl, h.pr.fr k.fr fun b i e => ⟨(h.pp.pb e).1, h.dis b e⟩, fun b hb hb' => ?_, ?_, h.bl.trans (k.below h.pp)⟩
  · exact h.dis b (hnew b hb (h.pr.pb hb').2) hb'
  · refine (h.f.fr k.fr fun b i e hq => hq.2.1 e).mono fun b hb => ⟨Nat.lt_of_lt_of_le hb.1 k.fr.size, fun e => hb.2.1 (hnew b e hb.1), hb.2.2⟩
theorem Two.right {w0 : World} {p A : Nat} {Z : Nat → Prop} {v : Nat → Value} {r A' : Nat} {Z' : Nat → Prop} {v' : Nat → Value} {fa : Option Addr} {gs : List FG} {P R R' : Pl} {w w' : World} (h : Two w0 p A Z v r A' Z' v' fa gs P R w) {Z1 : Nat → Prop} {v1 : Nat → Value} (k : PN w0.heap.size r A' Z' v' Z1 v1 R' w w') : Two w0 p A Z v r A' Z1 v1 fa gs P R' w' := by
  have hnew : ∀ b, PB Z1 r v1 b → b < w.heap.size → PB Z' r v' b := fun b hb hl => (k.sub b hb).elim id (fun e => by omega)
  refine ⟨h.pp.fr k.fr fun b i e => ⟨(h.pr.pb e).1, fun e' => h.dis b e' e⟩, k.pl, fun b hb hb' => ?_, ?_, h.bl.trans (k.below h.pr)⟩
  · exact h.dis b hb (hnew b hb' (h.pp.pb hb).2)
  · refine (h.f.fr k.fr fun b i e hq => hq.2.2 e).mono fun b hb => ⟨Nat.lt_of_lt_of_le hb.1 k.fr.size, hb.2.1, fun e => hb.2.2 (hnew b e hb.1)⟩
theorem FeatsQ.lt {Q : Nat → Prop} {w : World} {a : Option Addr} {gs : List FG} (k : FeatsQ Q w a gs) (hv : ∀ g ∈ gs, validF g.f = true) : FeatsQ (fun b => Q b ∧ b < w.heap.size) w a gs := by
  rcases k with e | ⟨b, off, e, hq, hb, hc⟩
  · exact .inl e
  · refine .inr ⟨b, off, e, ⟨hq, hb⟩, hb, fun i g hg => ⟨⟨(hc i g hg).1.pts, (hc i g hg).1.cap, (hc i g hg).1.few, fun x ex => ⟨(hc i g hg).1.q x ex, ?_⟩⟩, (hc i g hg).2⟩⟩
    have hl := (valid_len (hv g (List.mem_of_getElem? hg))).1
    rcases (hc i g hg).1.pts with e0 | ⟨pb, po, ea, hp, _⟩
    · rw [e0] at hl; simp at hl
    · rw [ea] at ex; cases ex; exact hp
/-- once leaves both plays as they are. -/
theorem Two.list {w0 : World} {p A : Nat} {Z : Nat → Prop} {v : Nat → Value} {r A' : Nat} {Z' : Nat → Prop} {v' : Nat → Value} {fa fa' : Option Addr} {gs gs' : List FG} {P R : Pl} {w w' : World} (h : Two w0 p A Z v r A' Z' v' fa gs P R w) (hb : Below w.heap.size w w') (hf : FeatsQ (fun b => (b < w.heap.size ∧ ¬ PB Z p v b ∧ ¬ PB Z' r v' b) ∨ w.heap.size ≤ b) w' fa' gs') (hv : ∀ g ∈ gs', validF g.f = true) : Two w0 p A Z v r A' Z' v' fa' gs' P R w' := by
  refine ⟨(h.pp.grow hb).pl, (h.pr.grow hb).pl, h.dis, (hf.lt hv).mono fun b hq => ⟨hq.2, ?_⟩, h.bl.trans (hb.mono h.bl.size)⟩
  rcases hq.1 with hq | hq
  · exact hq.2
  · exact ⟨fun e => by have := (h.pp.pb e).2; omega, fun e => by have := (h.pr.pb e).2; omega⟩
theorem Two.grow {w0 : World} {p A : Nat} {Z : Nat → Prop} {v : Nat → Value} {r A' : Nat} {Z' : Nat → Prop} {v' : Nat → Value} {fa : Option Addr} {gs : List FG} {P R : Pl} {w w' : World} (h : Two w0 p A Z v r A' Z' v' fa gs P R w) (hb : Below w.heap.size w w') : Two w0 p A Z v r A' Z' v' fa gs P R w' :=
  ⟨(h.pp.grow hb).pl, (h.pr.grow hb).pl, h.dis, (h.f.below hb).mono fun _ hq => ⟨Nat.lt_of_lt_of_le hq.1 hb.size, hq.2⟩, h.bl.trans (hb.mono h.bl.size)⟩
/-- Requests in memory, below b0. -/
structure ReqAt (w : World) (b0 b off : Nat) (q : Rq) (pa : Option Addr) (pn pc : Nat) : Prop where
  c0 : w.cell? ⟨b, off, none⟩ = some (.int .i64 q.k)
  c1 : w.cell? ⟨b, off + 1, none⟩ = some (.int .i64 q.a)
  c2 : w.cell? ⟨b, off + 2, none⟩ = some (.int .i64 q.b)
  c3 : w.cell? ⟨b, off + 3, none⟩ = some (.int .i64 q.c)
  c4 : w.cell? ⟨b, off + 4, none⟩ = some (.int .i64 q.d)
  c5 : w.cell? ⟨b, off + 5, none⟩ = some (.slice pa pn pc)
  ok : RqOk q
  raw : RawU w b0 pa pn q.ps
structure Rqv where
  q : Rq
  pa : Option Addr
  pn : Nat
  pc : Nat
def Rqv.dn (s : Rqv) : Dn := ⟨s.q, s.pa, s.pn, s.pc, 0, 0, ⟨#[]⟩⟩
theorem ReqAt.below {w w' : World} {b0 b off : Nat} {q : Rq} {pa : Option Addr} {pn pc : Nat} (h : ReqAt w b0 b off q pa pn pc) (hb : Below b0 w w') (hl : b < b0) : ReqAt w' b0 b off q pa pn pc := by
  have hc : ∀ i, w'.cell? ⟨b, i, none⟩ = w.cell? ⟨b, i, none⟩ := fun i => hb.cell (p := ⟨b, i, none⟩) hl
  exact ⟨(hc _).trans h.c0, (hc _).trans h.c1, (hc _).trans h.c2, (hc _).trans h.c3, (hc _).trans h.c4, (hc _).trans h.c5, h.ok, h.raw.below hb⟩

end Go.Proofs.YtenaepdmlknlcaaGreatDoor

namespace Go.Proofs.YtenaepdmlknlcaaGreatDoor
open Go.RowKit Go.Shelf

/-! A request of session 0, asked and done at once. -/
end Go.Proofs.YtenaepdmlknlcaaGreatDoor

namespace Go.Proofs.YtenaepdmlknlcaaGreatDoor
open Go.RowKit Go.Shelf

/-! Rounds of picks, as a play. -/
theorem fs_len {fs : List Feat} (h : FsOk fs) : fs.length ≤ 99 := by
  have hs : fs.map (·.id) ⊆ (List.range 99).map fun i : Nat => ((i : Int) + 1) := by
    intro x hx
    obtain ⟨f, hf, rfl⟩ := List.mem_map.1 hx
    have hv := h.valid f hf
    unfold validF at hv
    simp only [Bool.and_eq_true, inB, decide_eq_true_eq] at hv
    have := hv.1.1.1.1
    exact List.mem_map.2 ⟨(f.id - 1).toNat, by simp; omega, by omega⟩
  have := List.Nodup.length_le_of_subset h.dist hs
  simpa using this
end Go.Proofs.YtenaepdmlknlcaaGreatDoor

namespace Go.Proofs.YtenaepdmlknlcaaGreatDoor
open Go.RowKit Go.Shelf

/-! The features' numbers are small: what a script puts has numbers up to 6. -/
def putId : Option Feat → Prop
  | none => True
  | some f => f.id ≤ 6
def stId : Stp → Prop
  | .lock _ p => putId p
  | .forget _ p _ => putId p
  | .finish _ p => putId p
  | _ => True
structure Ids (a : Atl) : Prop where
  fs : ∀ f ∈ a.g.fs, f.id ≤ 6
  q : ∀ n, n < 4 → ∀ x ∈ (a.ss n).q, ∃ q, x = textT q
  nx : ∀ n, n < 4 → ∀ st, (a.ss n).nx = some st → stId st
theorem ids_first (q : Rq) : stId (firstS (readP (textT q))) := by
  rw [readP_text]
  unfold askZ
  split
  · have := (featZ_bd q).1
    show putId (some (featZ q))
    exact this.2
  · split <;> trivial
theorem step_ids {g : Gr} (hg : ∀ f ∈ g.fs, f.id ≤ 6) {st : Stp} (hs : stId st) : (∀ f ∈ (stepM g st).2.fs, f.id ≤ 6) ∧ ∀ st', (stepM g st).1 = .next st' → stId st' := by
  cases st with
  | bad => exact ⟨hg, fun st' e => by cases e⟩
  | look t m =>
    unfold stepM; dsimp only
    split
    · exact ⟨hg, fun st' e => by cases e; trivial⟩
    · exact ⟨hg, fun st' e => by cases e⟩
  | note t m ag =>
    unfold stepM; dsimp only
    split
    · exact ⟨hg, fun st' e => by cases e⟩
    · exact ⟨hg, fun st' e => by cases e; trivial⟩
  | draw t m ag fs =>
    unfold stepM; dsimp only
    refine ⟨?_, fun st' e => by cases e⟩
    split <;> exact hg
  | lock id p =>
    unfold stepM; dsimp only
    split
    · exact ⟨hg, fun st' e => by cases e⟩
    · exact ⟨hg, fun st' e => by cases e; exact hs⟩
  | forget id p z =>
    unfold stepM; dsimp only
    refine ⟨hg, fun st' e => ?_⟩
    injection e with e
    subst e
    split <;> exact hs
  | finish id p =>
    unfold stepM; dsimp only
    refine ⟨fun f hf => ?_, fun st' e => by cases e⟩
    rcases List.mem_append.1 hf with hf | hf
    · exact hg f (List.mem_filter.1 hf).1
    · cases p with
      | none => cases hf
      | some f' => simp at hf; rw [hf]; exact hs
theorem ids_do {a : Atl} (h : Ids a) {n : Nat} {s : Ses} {st : Stp} (hq : ∀ x ∈ s.q, ∃ q, x = textT q) (hs : stId st) : Ids (doM a n s st).2 := by
  obtain ⟨h1, h2⟩ := step_ids h.fs hs
  have key : ∀ (g' : Gr) (s' : Ses), (∀ f ∈ g'.fs, f.id ≤ 6) → s'.q = s.q → (∀ st', s'.nx = some st' → stId st') → Ids (a.set g' n s') := by
    intro g' s' hg hq' hn
    refine ⟨hg, fun m hm x hx => ?_, fun m hm st' e => ?_⟩
    · rw [set_ss] at hx
      split at hx
      · rw [hq'] at hx; exact hq x hx
      · exact h.q m hm x hx
    · rw [set_ss] at e
      split at e
      · exact hn st' e
      · exact h.nx m hm st' e
  unfold doM
  split
  · exact key _ _ h.fs rfl (fun st' e => by cases e; exact hs)
  · rename_i st' g' e
    rw [e] at h1 h2
    exact key _ _ h1 rfl (fun st'' e' => by cases e'; exact h2 _ rfl)
  · rename_i an g' e
    rw [e] at h1
    exact key _ _ h1 rfl (fun st'' e' => by cases e')
theorem ids_pick {a : Atl} (h : Ids a) {n : Nat} (hn : n < 4) : Ids (pickM a n).2 := by
  unfold pickM
  split
  · rename_i st e
    exact ids_do h (h.q n hn) (h.nx n hn st e)
  · split
    · exact h
    · rename_i x q e
      obtain ⟨rq, rfl⟩ := h.q n hn x (by rw [e]; simp)
      exact ids_do h (fun y hy => h.q n hn y (by rw [e]; simp [hy])) (ids_first rq)
theorem ids_tell {a : Atl} (h : Ids a) (n : Nat) : Ids (tellM a n) := ⟨h.fs, fun m hm x hx => h.q m hm x (by rw [tell_q] at hx; exact hx), fun m hm st e => h.nx m hm st (by rw [tell_nx] at e; exact e)⟩
theorem ids_send {a : Atl} (h : Ids a) (n : Nat) (q : Rq) : Ids (sendM a n (textT q)) := by
  refine ⟨h.fs, fun m hm x hx => ?_, fun m hm st e => h.nx m hm st (by rw [send_nx] at e; exact e)⟩
  rw [send_q] at hx
  split at hx
  · rename_i e
    rcases List.mem_append.1 hx with hx | hx
    · exact h.q n (by rw [← e]; exact hm) x hx
    · exact ⟨q, List.mem_singleton.1 hx⟩
  · exact h.q m hm x hx
theorem ids_new (r : Int) : Ids (newM r) := ⟨fun f hf => (by cases hf), fun n _ x hx => (by cases hx), fun n _ st e => (by cases e)⟩
/-- What is kept while a script is played. -/
structure Seen (P : Pl) (T : Int) : Prop where
  ok : PlOk P
  inv : Inv P.a T
  ids : Ids P.a
theorem seen_pick {P : Pl} {T : Int} (h : Seen P T) (hT : T < 4611686018427387904) {n : Nat} (hn : n < 4) : Seen (pickP P n) (T + 1) := ⟨pickP_ok h.ok hn, inv_turn h.inv h.ok.a hT hn, ids_tell (ids_pick h.ids hn) n⟩
theorem seen_send {P : Pl} {T : Int} (h : Seen P T) {n : Nat} (hn : n < 4) {d : Dn} (hd : d.un = 0) : Seen (sendP P n d) T := by
  refine ⟨sendP_ok h.ok hn hd, inv_sendP h.inv n d, ?_⟩
  unfold sendP; split
  · exact h.ids
  · exact ids_send h.ids n d.q
theorem Seen.mono {P : Pl} {T T' : Int} (h : Seen P T) (ht : T ≤ T') : Seen P T' := ⟨h.ok, h.inv.mono ht, h.ids⟩
theorem seen_new (r : Int) : Seen (newP r) 0 := ⟨newP_ok r, newM_inv _, ids_new _⟩
theorem seen_step {x : Pl × Int} {T : Int} (h : Seen x.1 T) (hT : T < 4611686018427387904) (s : Stt) : Seen (stepP x s).1 (T + 1) := by
  unfold stepP
  split
  · exact seen_pick h hT (ses_lt s)
  · dsimp only
    split
    · exact (seen_send h (ses_lt s) rfl).mono (by omega)
    · exact h.mono (by omega)
theorem seen_play (P : Pl) (most : Int) (h : Seen P 0) (l : List Stt) (hl : l.length ≤ 2199023255488) : ∀ k, k ≤ l.length → Seen (playP P most (l.take k)).1 (k : Int)
  | 0, _ => by simpa [playP] using h
  | k + 1, hk => by
    obtain ⟨s, hs⟩ : ∃ s, l[k]? = some s := ⟨_, List.getElem?_eq_getElem (by omega)⟩
    rw [play_snoc hs]
    have := seen_step (seen_play P most h l hl k (by omega)) (by omega) s
    rw [show ((k + 1 : Nat) : Int) = (k : Int) + 1 by omega]
    exact this
/-! A change that lies over all the world leaves nothing kept. -/
end Go.Proofs.YtenaepdmlknlcaaGreatDoor
