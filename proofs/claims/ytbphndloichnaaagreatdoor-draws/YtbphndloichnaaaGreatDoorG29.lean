import Derived.Test.YtbphndloichnaaaGreatDoorG28
import Derived.Laws.CopyOwn
import Derived.Laws.MakeOwn
namespace Go.Proofs.YtbphndloichnaaaGreatDoor
open Go.RowKit Go.Shelf

set_option maxRecDepth 100000 in
set_option maxHeartbeats 4000000 in
theorem Draw_any (a : Option Addr) (n cap : Nat) (gs : List FG) (z c r : Int) (w : World) (hf : FeatsGO w a gs) (hn : n = gs.length) (hn2 : n ≤ 1000000000000000)
    (htab : w.cell? ⟨3, 15, none⟩ = some (.int .u8 4)) (hw3 : 3 < w.heap.size) :
    Calls Tryz.prog 11 #[.slice a n cap, .agg #[.int .i64 z, .int .i64 c, .int .i64 r]] w fun e w' => e = .returned (drawV gs z c r) ∧ Below w.heap.size w w' := by
  have Hf : Hid (FeatsGO w a gs) := hf
  have Hn : Hid (n = gs.length) := hn
  have Htab : Hid (w.cell? ⟨3, 15, none⟩ = some (.int .u8 4)) := htab
  clear hf hn htab
  have hBo : ∀ o : Obj, Below w.heap.size w (w.alloc o) := fun o => (Below.refl _ _).alloc (Nat.le_refl _) o
  have HAre : Hid (∀ W : World, Below w.heap.size w W → Calls Tryz.prog 30 #[.slice a n cap] W fun e w' => e = .returned (.bool (okTo gs gs.length)) ∧ Below W.heap.size W w') := fun W hW => AreFeatures_any a n cap gs W (Hf.out.below hW) Hn.out hn2
  have HNo : Hid ((tileB z c r = false ∨ okTo gs gs.length = false) → drawV gs z c r = .tuple #[.string ⟨#[]⟩, .string ⟨#[]⟩, .int .i64 1]) := drawV_no
  by_cases ht : tileB z c r = true
  · have Htile : Hid (tileB z c r = true) := ht
    clear ht
    by_cases hok : okTo gs gs.length = true
    · have Hok : Hid (okTo gs gs.length = true) := hok
      have hval := okTo_valid hok
      have hvv : ∀ v ∈ gs.map FG.fv, validF v.f = true := fun v hv => by
        obtain ⟨g, hg, rfl⟩ := List.mem_map.1 hv
        rw [g.fv_f]; exact hval g hg
      have HFO : Hid (∀ W : World, Below w.heap.size w W → FeatsO W a (gs.map FG.fv)) := fun W hW => (Hf.out.below hW).feats hval
      have HE : Hid (drawV gs z c r = .tuple #[.string ⟨(markN (bodyR (gs.map FG.fv) (pZ z) c r)).toArray⟩, .string ⟨(bodyR (gs.map FG.fv) (pZ z) c r).toArray⟩, .int .i64 0]) := by
        show drawV gs z c r = _
        rw [drawV, Htile.out, hok]; rfl
      have Hlen : Hid ((bodyR (gs.map FG.fv) (pZ z) c r).length ≤ 1000) := bodyR_length (gs.map FG.fv) (pZ z) c r hvv
      have Hdist : Hid (Dist (gs.map FG.fv)) := okTo_dist hok
      have Hnv : Hid (n = (gs.map FG.fv).length) := by show n = _; rw [List.length_map]; exact Hn.out
      have Hvv : Hid (∀ v ∈ gs.map FG.fv, validF v.f = true) := hvv
      obtain ⟨vs, hvs⟩ : ∃ vs, gs.map FG.fv = vs := ⟨_, rfl⟩
      rw [hvs] at HFO HE Hlen Hdist Hnv Hvv
      clear hvs hval hvv hok HNo Hf Hn
      go_enter Tryz.func11, Tryz.ntmps11
      go_wp2_with (first
        | (go_at_call 29; refine (IsTile_any z c r _).mono ?_; rintro e w1 ⟨rfl, hb1⟩; rw [Htile.out]; have hB1 : Below w.heap.size w w1 := (hBo _).trans (hb1.mono (by simp)); have hz1 : w.heap.size < w1.heap.size := (by have := hb1.size; simp at this; omega); have q1 : w1.cell? ⟨w.heap.size, 0, none⟩ = some (.int .i64 z) ∧ w1.cell? ⟨w.heap.size, 1, none⟩ = some (.int .i64 c) ∧ w1.cell? ⟨w.heap.size, 2, none⟩ = some (.int .i64 r) := ⟨(hb1.cell (p := ⟨w.heap.size, 0, none⟩) (by simp)).trans (by simp [go_sem]), (hb1.cell (p := ⟨w.heap.size, 1, none⟩) (by simp)).trans (by simp [go_sem]), (hb1.cell (p := ⟨w.heap.size, 2, none⟩) (by simp)).trans (by simp [go_sem])⟩; have Q1 : Hid _ := q1; clear q1 hb1)
        | (go_at_call 30; refine Calls.mono (HAre.out _ hB1) ?_; rintro e w2 ⟨rfl, hb2⟩; rw [Hok.out]; have hB2 : Below w.heap.size w w2 := hB1.trans (hb2.mono hB1.size); have hz2 := hb2.size; have q2 := And.intro ((hb2.cell (p := ⟨w.heap.size, 0, none⟩) hz1).trans Q1.out.1) (And.intro ((hb2.cell (p := ⟨w.heap.size, 1, none⟩) hz1).trans Q1.out.2.1) ((hb2.cell (p := ⟨w.heap.size, 2, none⟩) hz1).trans Q1.out.2.2)); have Q2 : Hid _ := q2; clear q2))
      go_loopw [21] (fun i wr => ∃ (k : Nat) (ro : Option Addr), k ≤ n ∧ i = .int .i64 k ∧ wr.cell? ⟨w2.heap.size, 0, none⟩ = some (.pointer ro) ∧ Hid (RootT (fun b => b < wr.heap.size ∧ b ≠ w2.heap.size) wr ro (vs.take k)) ∧ wr.frozen? ⟨w2.heap.size, 0, none⟩ = false ∧ (wr.cell? ⟨w.heap.size, 0, none⟩ = some (.int .i64 z) ∧ wr.cell? ⟨w.heap.size, 1, none⟩ = some (.int .i64 c) ∧ wr.cell? ⟨w.heap.size, 2, none⟩ = some (.int .i64 r)) ∧ Below w.heap.size w wr ∧ w2.heap.size < wr.heap.size) (fun i _ => n - (intOf i).toNat)
      case atStart =>
        have hA : ∀ o : Obj, Below w2.heap.size w2 (w2.alloc o) := fun o => (Below.refl _ _).alloc (Nat.le_refl _) o
        exact ⟨0, none, by omega, rfl, by simp [go_sem], .inl ⟨rfl, rfl⟩, by simp [go_sem], ⟨((hA _).cell (p := ⟨w.heap.size, 0, none⟩) (show w.heap.size < w2.heap.size by omega)).trans Q2.out.1, ((hA _).cell (p := ⟨w.heap.size, 1, none⟩) (show w.heap.size < w2.heap.size by omega)).trans Q2.out.2.1, ((hA _).cell (p := ⟨w.heap.size, 2, none⟩) (show w.heap.size < w2.heap.size by omega)).trans Q2.out.2.2⟩, hB2.alloc hB2.size _, by simp⟩
      case round =>
        obtain ⟨k, ro, hk, rfl, hroot, HRT, hfz, hti, hB, hs⟩ := hrel
        by_cases hlt : k < n
        · obtain ⟨v, hv⟩ : ∃ v, vs[k]? = some v := ⟨vs[k]'(by rw [← Hnv.out]; exact hlt), List.getElem?_eq_getElem _⟩
          obtain ⟨b, off, rfl, hF⟩ := (HFO.out wr hB).resolve_left (fun e => by rw [e] at hv; simp at hv)
          obtain ⟨b', off', e', hF0⟩ := (HFO.out w (Below.refl _ _)).resolve_left (fun e => by rw [e] at hv; simp at hv)
          cases e'
          obtain ⟨⟨e0, e1, e2, e3, e4⟩, hgood⟩ := hF.2 k v hv
          have hg0 := (hF0.2 k v hv).2
          have hpb0 : v.pb < w.heap.size := hg0.2.1
          have hbr : b < wr.heap.size := hF.1
          have HTk : Hid (vs.take (k + 1) = vs.take k ++ [v]) := by show vs.take (k + 1) = _; rw [List.take_add_one, hv]; rfl
          have HW : Hid (∀ W : World, Below wr.heap.size wr W → Calls Tryz.prog 31 #[.agg #[.pointer ro], .agg #[.int .i64 v.f.id, .int .i64 v.f.kd, .int .i64 v.f.ht, .int .i64 v.f.col, .slice (some ⟨v.pb, v.po, none⟩) v.f.ps.length v.cap]] W fun e w' => ∃ ro' : Option Addr, e = .returned (.agg #[.pointer ro']) ∧ RootT (okN (fun b => b < wr.heap.size ∧ b ≠ w2.heap.size) W.heap.size w'.heap.size) w' ro' (vs.take k ++ [v]) ∧ Below W.heap.size W w') := fun W hW =>
            With_any (fun b => b < wr.heap.size ∧ b ≠ w2.heap.size) v ro (vs.take k) W (HRT.out.same (Same.of_below hW (fun b hb => hb.1))) (fun u hu => Hvv.out u (List.mem_of_mem_take hu)) hgood.1 (fun b hb => Nat.lt_of_lt_of_le hb.1 hW.size) ⟨by have := hB.size; omega, by omega⟩ ⟨Nat.lt_of_lt_of_le hgood.2.1 hW.size, fun j x y e => ⟨(hW.cell (p := ⟨v.pb, v.po + j * 2, none⟩) hgood.2.1).trans (hgood.2.2.2 j x y e).1, (hW.cell (p := ⟨v.pb, v.po + j * 2 + 1, none⟩) hgood.2.1).trans (hgood.2.2.2 j x y e).2⟩⟩ hgood.2.2.1
          clear hgood hg0 hF hF0 hv HRT
          obtain ⟨⟨id, kd, htt, col, ps⟩, pb, po, cap'⟩ := v
          dsimp only at e0 e1 e2 e3 e4 HW
          have hA : ∀ o : Obj, Below wr.heap.size wr (wr.alloc o) := fun o => (Below.refl _ _).alloc (Nat.le_refl _) o
          obtain ⟨m, hm⟩ : ∃ m, ps.length = m := ⟨_, rfl⟩
          rw [hm] at e4 HW
          clear hm
          go_wp2_with (go_at_call 31; refine Calls.mono (HW.out _ (hA _)) ?_; rintro e w3 ⟨ro', rfl, hRT3, hb3⟩; have hz3 : wr.heap.size + 1 ≤ w3.heap.size := (by have := hb3.size; simp at this; omega); have hB3 : Below wr.heap.size wr w3 := (hA _).trans (hb3.mono (by simp)); have s1 := (hB3.cell (p := ⟨w2.heap.size, 0, none⟩) hs).trans hroot; have s2 := (hB3.frozen (p := ⟨w2.heap.size, 0, none⟩) hs).trans hfz; have HRT3 : Hid (RootT (okN (fun b => b < wr.heap.size ∧ b ≠ w2.heap.size) (wr.heap.size + 1) w3.heap.size) w3 ro' (vs.take k ++ [⟨⟨id, kd, htt, col, ps⟩, pb, po, cap'⟩])) := (by first | exact hRT3 | (simp only [World.size_alloc] at hRT3; exact hRT3)) ; clear hRT3)
          have hset : Below w2.heap.size w3 (w3.setCell ⟨w2.heap.size, 0, none⟩ (.pointer ro')) := below_set1 _ w3 _ 0 (Nat.le_refl _) _
          have hsame : Same (okN (fun b => b < wr.heap.size ∧ b ≠ w2.heap.size) (wr.heap.size + 1) w3.heap.size) w3 (w3.setCell ⟨w2.heap.size, 0, none⟩ (.pointer ro')) := same_set w3 w2.heap.size 0 _ (fun h => h.elim (fun h => h.2 rfl) (fun h => by have := h.1; omega))
          refine ⟨⟨k + 1, ro', by omega, by go_num, World.cell?_setCell_same _ _ _ s1, ?_, by rw [World.frozen?_setCell]; exact s2, ⟨(hset.cell (p := ⟨w.heap.size, 0, none⟩) (show w.heap.size < w2.heap.size by omega)).trans ((hB3.cell (p := ⟨w.heap.size, 0, none⟩) (show w.heap.size < wr.heap.size by omega)).trans hti.1), (hset.cell (p := ⟨w.heap.size, 1, none⟩) (show w.heap.size < w2.heap.size by omega)).trans ((hB3.cell (p := ⟨w.heap.size, 1, none⟩) (show w.heap.size < wr.heap.size by omega)).trans hti.2.1), (hset.cell (p := ⟨w.heap.size, 2, none⟩) (show w.heap.size < w2.heap.size by omega)).trans ((hB3.cell (p := ⟨w.heap.size, 2, none⟩) (show w.heap.size < wr.heap.size by omega)).trans hti.2.2)⟩, (hB.trans (hB3.mono hB.size)).trans (hset.mono (by omega)), Nat.lt_of_lt_of_le (by omega) hset.size⟩, by simp [intOf]; omega⟩
          rw [HTk.out]
          exact (RootT.same HRT3.out hsame).mono (fun b hb => hb.elim (fun h => ⟨Nat.lt_of_lt_of_le h.1 (Nat.le_trans (by omega) hset.size), h.2⟩) (fun h => ⟨Nat.lt_of_lt_of_le h.2 hset.size, by have := h.1; omega⟩))
        · have hRT' : RootT (fun b => b < wr.heap.size ∧ b ≠ w2.heap.size) wr ro vs := by
            have := HRT.out
            rwa [show k = vs.length by have := Hnv.out; omega, List.take_length] at this
          have hBd := Body_root (fun b => b < wr.heap.size ∧ b ≠ w2.heap.size) ro vs z c r wr (fun b hb => hb.1) hRT' (fun v hv => by
            obtain ⟨i, hi, rfl⟩ := List.mem_iff_getElem.1 hv
            have hne : vs ≠ [] := by intro e; rw [e] at hi; simp at hi
            obtain ⟨b, off, e1, hF⟩ := (HFO.out wr hB).resolve_left hne
            obtain ⟨b', off', e', hF0⟩ := (HFO.out w (Below.refl _ _)).resolve_left hne
            have g := (hF.2 i _ (List.getElem?_eq_getElem hi)).2
            have g0 := (hF0.2 i _ (List.getElem?_eq_getElem hi)).2
            exact ⟨g.1, ⟨g.2.1, by have := g0.2.1; omega⟩, g.2.2.1, g.2.2.2⟩) Hdist.out Htile.out
          have HBd : Hid _ := hBd
          obtain ⟨B, hBe⟩ : ∃ B, bodyR vs (pZ z) c r = B := ⟨_, rfl⟩
          rw [hBe] at HBd HE Hlen
          have HM : Hid (∀ w4 : World, Below w.heap.size w w4 → Calls Tryz.prog 33 #[.string ⟨B.toArray⟩] w4 fun e w' => e = .returned (.string ⟨(markN B).toArray⟩) ∧ Below w4.heap.size w4 w') := fun w4 hw4 => Mark_ex ⟨B.toArray⟩ w4 (by have := Hlen.out; simp [ByteArray.size]; omega) ((hw4.cell (p := ⟨3, 15, none⟩) hw3).trans Htab.out) (Nat.lt_of_lt_of_le hw3 hw4.size)
          clear hBd hRT' HRT hBe
          obtain ⟨t0, t1, t2⟩ := hti
          go_wp2_with (first
            | (go_at_call 32; refine Calls.mono HBd.out ?_; rintro e w4 ⟨rfl, hb4⟩; have hB4 : Below w.heap.size w w4 := hB.trans (hb4.mono hB.size))
            | (go_at_call 33; refine Calls.mono (HM.out _ hB4) ?_; rintro e w5 ⟨rfl, hb5⟩))
          go_ret3
          exact ⟨congrArg Ending.returned HE.out.symm, hB4.trans (hb5.mono hB4.size)⟩
    · have Hok : Hid (okTo gs gs.length = false) := by show okTo gs gs.length = false; simpa using hok
      clear hok
      have HE : Hid (drawV gs z c r = .tuple #[.string ⟨#[]⟩, .string ⟨#[]⟩, .int .i64 1]) := HNo.out (.inr Hok.out)
      go_enter Tryz.func11, Tryz.ntmps11
      go_wp2_with (first
        | (go_at_call 29; refine (IsTile_any z c r _).mono ?_; rintro e w1 ⟨rfl, hb1⟩; rw [Htile.out]; have hB1 : Below w.heap.size w w1 := (hBo _).trans (hb1.mono (by simp)))
        | (go_at_call 30; refine Calls.mono (HAre.out _ hB1) ?_; rintro e w2 ⟨rfl, hb2⟩; rw [Hok.out]))
      go_ret3
      exact ⟨congrArg Ending.returned HE.out.symm, hB1.trans (hb2.mono hB1.size)⟩
  · have Htile : Hid (tileB z c r = false) := by show tileB z c r = false; simpa using ht
    clear ht
    have HE : Hid (drawV gs z c r = .tuple #[.string ⟨#[]⟩, .string ⟨#[]⟩, .int .i64 1]) := HNo.out (.inl Htile.out)
    go_enter Tryz.func11, Tryz.ntmps11
    go_wp2_with (go_at_call 29; refine (IsTile_any z c r _).mono ?_; rintro e w1 ⟨rfl, hb1⟩; rw [Htile.out])
    go_ret3
    exact ⟨congrArg Ending.returned HE.out.symm, (hBo _).trans (hb1.mono (by simp))⟩

end Go.Proofs.YtbphndloichnaaaGreatDoor
namespace Go.Proofs.YtbphndloichnaaaGreatDoor
open Go.RowKit Go.Shelf

/-- All blocks that were there are as they were, but those in S. -/
structure But (S : Nat → Prop) (A B : World) : Prop where
  os : B.os = A.os
  tape : B.tape = A.tape
  output : B.output = A.output
  size : A.heap.size ≤ B.heap.size
  block : ∀ k, k < A.heap.size → ¬ S k → B.heap[k]? = A.heap[k]?
theorem But.refl (S : Nat → Prop) (A : World) : But S A A := ⟨rfl, rfl, rfl, Nat.le_refl _, fun _ _ _ => rfl⟩
theorem But.trans {S : Nat → Prop} {A B C : World} (h : But S A B) (k : But S B C) : But S A C :=
  ⟨k.os.trans h.os, k.tape.trans h.tape, k.output.trans h.output, Nat.le_trans h.size k.size, fun i hi hs => (k.block i (Nat.lt_of_lt_of_le hi h.size) hs).trans (h.block i hi hs)⟩
theorem But.trans_new {S S' : Nat → Prop} {A B C : World} (h : But S A B) (k : But S' B C) (hs : ∀ b, b < A.heap.size → S' b → S b) : But S A C :=
  ⟨k.os.trans h.os, k.tape.trans h.tape, k.output.trans h.output, Nat.le_trans h.size k.size, fun i hi hn => (k.block i (Nat.lt_of_lt_of_le hi h.size) (fun e => hn (hs i hi e))).trans (h.block i hi hn)⟩
theorem But.of_below {S : Nat → Prop} {A B : World} (h : Below A.heap.size A B) : But S A B := ⟨h.os, h.tape, h.output, h.size, fun k hk _ => h.block k hk⟩
theorem But.mono {S S' : Nat → Prop} {A B : World} (h : But S A B) (hs : ∀ b, S b → S' b) : But S' A B := ⟨h.os, h.tape, h.output, h.size, fun k hk hn => h.block k hk (fun e => hn (hs k e))⟩
theorem But.mono_new {S S' : Nat → Prop} {A B : World} (h : But S A B) (hs : ∀ b, b < A.heap.size → S b → S' b) : But S' A B := ⟨h.os, h.tape, h.output, h.size, fun k hk hn => h.block k hk (fun e => hn (hs k hk e))⟩
theorem But.cell {S : Nat → Prop} {A B : World} (h : But S A B) {b o : Nat} (hb : b < A.heap.size) (hs : ¬ S b) : B.cell? ⟨b, o, none⟩ = A.cell? ⟨b, o, none⟩ := World.cell?_of_block (w := A) (h.block b hb hs)
theorem But.frozen {S : Nat → Prop} {A B : World} (h : But S A B) {b o : Nat} (hb : b < A.heap.size) (hs : ¬ S b) : B.frozen? ⟨b, o, none⟩ = A.frozen? ⟨b, o, none⟩ := World.frozen?_of_block (w := A) (h.block b hb hs)
theorem But.setCell {S : Nat → Prop} {A B : World} (h : But S A B) {p : Addr} (hp : S p.block ∨ A.heap.size ≤ p.block) (u : Value) : But S A (B.setCell p u) :=
  ⟨h.os, h.tape, h.output, by simpa [World.setCell] using h.size, fun k hk hs => (Below.heap_setCell B p u k (fun e => by rcases hp with hp | hp; exact hs (e ▸ hp); omega)).trans (h.block k hk hs)⟩
theorem But.alloc {S : Nat → Prop} {A B : World} (h : But S A B) (o : Obj) : But S A (B.alloc o) := h.trans (But.of_below ((Below.refl _ _).alloc (Nat.le_refl _) o))
theorem But.drewN {S : Nat → Prop} {A B : World} (h : But S A B) (n : Nat) : But S A (B.drewN n) := ⟨h.os, h.tape, h.output, h.size, h.block⟩
theorem But.below {S : Nat → Prop} {A B : World} (h : But S A B) {n : Nat} (hn : n ≤ A.heap.size) (hs : ∀ b, S b → n ≤ b) : Below n A B := ⟨h.os, h.tape, h.output, h.size, fun k hk => h.block k (by omega) (fun e => by have := hs k e; omega)⟩
theorem But.grown {S : Nat → Prop} {A B C : World} {row : Option Nat} (h : But S A B) (hg : B.grownBy C row) (hr : ∀ k, row = some k → S k ∨ A.heap.size ≤ k) : But S A C :=
  ⟨hg.os.trans h.os, hg.tape.trans h.tape, hg.output.trans h.output, Nat.le_trans h.size hg.size, fun k hk hs => (hg.block k (by have := h.size; omega) (fun e => by rcases hr k e.symm with h1 | h1; exact hs h1; omega)).trans (h.block k hk hs)⟩

theorem info29 : (Tryz.prog.info? 29).map (fun i => (i.zero, i.size, i.bytes)) = some (some (.agg #[.int .i64 0, .int .i64 0]), 2, 16) := by kernel_rfl
theorem info32 : (Tryz.prog.info? 32).map (fun i => (i.zero, i.size, i.bytes)) = some (some (.agg #[.int .i64 0, .int .i64 0, .int .i64 0, .int .i64 0, .slice none 0 0]), 5, 56) := by kernel_rfl
theorem info30 : (Tryz.prog.info? 30).map (fun i => (i.zero, i.size, i.bytes)) = some (some (.slice none 0 0), 1, 24) := by kernel_rfl
theorem info22 : (Tryz.prog.info? 22).map (fun i => (i.zero, i.size, i.bytes)) = some (some (.slice none 0 0), 1, 24) := by kernel_rfl

theorem made2 (m j : Nat) (hj : j < m * 2) : (madeCells #[.int .i64 0, .int .i64 0] (m * 2))[j]? = some (.int .i64 0) := by
  simp only [madeCells, Array.getElem?_map, Array.getElem?_range, if_pos hj, Option.map_some]
  have : j % 2 = 0 ∨ j % 2 = 1 := by omega
  rcases this with h | h <;> simp [h]
theorem made5 (m i c : Nat) (hi : i < m) (hc : c < 5) : (madeCells #[.int .i64 0, .int .i64 0, .int .i64 0, .int .i64 0, .slice none 0 0] (m * 5))[i * 5 + c]? = some (if c = 4 then .slice none 0 0 else .int .i64 0) := by
  have hj : i * 5 + c < m * 5 := by omega
  simp only [madeCells, Array.getElem?_map, Array.getElem?_range, if_pos hj, Option.map_some]
  have e : (i * 5 + c) % 5 = c := by omega
  have : c = 0 ∨ c = 1 ∨ c = 2 ∨ c = 3 ∨ c = 4 := by omega
  rcases this with h | h | h | h | h <;> subst h <;> simp [e]

/-- What make lays down for places. -/
theorem makeP (m : Nat) (hm : m ≤ 9000000000000) : ∃ Z : Array Value, (∀ j, j < m * 2 → Z[j]? = some (.int .i64 0)) ∧ ∀ W : World, Sem.run Tryz.prog (Instr.makeSlice 30 (.int .i64 (m : Int)) (.int .i64 (m : Int))) W = .ok (.slice (some ⟨W.heap.size, 0, none⟩) m m) (W.alloc (.cells Z 29)) := by
  obtain ⟨i, hi, hz, hs, hb⟩ := info_parts info29
  refine ⟨madeCells #[.int .i64 0, .int .i64 0] (m * 2), made2 m, fun W => ?_⟩
  have := run_make (P := Tryz.prog) W 30 29 i _ Tryz.underlying30 hi hz .i64 .i64 m m (by omega) (by omega) (by rw [hb]; omega) (by omega)
  rw [hs, show (Value.agg #[.int .i64 0, .int .i64 0]).cells = #[.int .i64 0, .int .i64 0] by kernel_rfl] at this
  simpa using this
theorem makeX (m : Nat) (hm : m ≤ 3000000000000) : ∃ Z : Array Value, (∀ i c, i < m → c < 5 → Z[i * 5 + c]? = some (if c = 4 then .slice none 0 0 else .int .i64 0)) ∧ ∀ W : World, Sem.run Tryz.prog (Instr.makeSlice 22 (.int .i64 (m : Int)) (.int .i64 (m : Int))) W = .ok (.slice (some ⟨W.heap.size, 0, none⟩) m m) (W.alloc (.cells Z 32)) := by
  obtain ⟨i, hi, hz, hs, hb⟩ := info_parts info32
  refine ⟨madeCells #[.int .i64 0, .int .i64 0, .int .i64 0, .int .i64 0, .slice none 0 0] (m * 5), made5 m, fun W => ?_⟩
  have := run_make (P := Tryz.prog) W 22 32 i _ Tryz.underlying22 hi hz .i64 .i64 m m (by omega) (by omega) (by rw [hb]; omega) (by omega)
  rw [hs, show (Value.agg #[.int .i64 0, .int .i64 0, .int .i64 0, .int .i64 0, .slice none 0 0]).cells = #[.int .i64 0, .int .i64 0, .int .i64 0, .int .i64 0, .slice none 0 0] by kernel_rfl] at this
  simpa using this

/-- The cells of places. -/
def flatP (ps : Pts) : List Value := ps.flatMap fun p => [.int .i64 p.1, .int .i64 p.2]
theorem flatP_length (ps : Pts) : (flatP ps).length = ps.length * 2 := by
  induction ps with
  | nil => rfl
  | cons p r ih =>
    have : flatP (p :: r) = [.int .i64 p.1, .int .i64 p.2] ++ flatP r := rfl
    rw [this, List.length_append, ih]; simp; omega
theorem flatP_at : ∀ (ps : Pts) (j : Nat) (v : Value), (flatP ps)[j]? = some v → ∃ x y, ps[j / 2]? = some (x, y) ∧ v = if j % 2 = 0 then .int .i64 x else .int .i64 y
  | [], j, v, h => by simp [flatP] at h
  | (x, y) :: r, 0, v, h => by simp [flatP] at h; exact ⟨x, y, by simp, by simp [h]⟩
  | (x, y) :: r, 1, v, h => by simp [flatP] at h; exact ⟨x, y, by simp, by simp [h]⟩
  | (x, y) :: r, j + 2, v, h => by
    have h' : (flatP r)[j]? = some v := by simpa [flatP] using h
    obtain ⟨a, b, h1, h2⟩ := flatP_at r j v h'
    exact ⟨a, b, by rw [show (j + 2) / 2 = j / 2 + 1 by omega]; simpa using h1, by rw [show (j + 2) % 2 = j % 2 by omega]; exact h2⟩
theorem flatP_one (ps : Pts) : ∀ v ∈ flatP ps, v.oneCell' = true := fun v hv => by
  simp only [flatP, List.mem_flatMap] at hv
  obtain ⟨p, _, hp⟩ := hv
  simp at hp
  rcases hp with rfl | rfl <;> rfl

theorem run_copy2 (w : World) (b k dCap : Nat) (sp : Option Addr) (sCap n0 : Nat) (ps : Pts) (hp : PtsAt n0 w sp ps) (hk : k = ps.length) (hc : ∀ j, j < k * 2 → (w.cell? ⟨b, j, none⟩).isSome = true) (hf : ∀ j, w.frozen? ⟨b, j, none⟩ = false) :
    Sem.run Tryz.prog (Builtin.copy_ #[30, 30] 3 #[.slice (some ⟨b, 0, none⟩) (k + 2) dCap, .slice sp k sCap]) w = .ok (.int .i64 (k : Int)) (w.setCells b 0 (flatP ps)) := by
  have hl := flatP_length ps
  have hst := run_storeCells_cells (P := Tryz.prog) b 0 (flatP ps) 0 w (fun j hj => by simp only [Nat.zero_add]; exact hc j (by omega)) (fun j hj => by simp only [Nat.zero_add]; exact hf j) (flatP_one ps)
  have hmin : Nat.min k (k + 2) = k := by simp
  have hsz : (Tryz.prog.info? 29).map (·.size) = some 2 := by kernel_rfl
  have hu := Tryz.underlying30
  cases hq : Tryz.prog.info? 29 with
  | none => simp [hq] at hsz
  | some i =>
    have hi : i.size = 2 := by simpa [hq] using hsz
    rcases hp with rfl | ⟨pb, po, rfl, hpl⟩
    · have hk0 : k = 0 := by simpa using hk
      subst hk0
      have hl0 : ∀ (x : Addr), (loadCells x 0).run Tryz.prog w = .ok #[] w := fun x => by simpa using run_loadCells_list (P := Tryz.prog) w x [] (by simp)
      cases sp <;> simp [Builtin.copy_, run_underlying hu, Builtin.lenOf, Builtin.firstCells, sizeOf, typeInfo, hq, storeCells, hl0, flatP, World.setCells, goInt]
    · have hld := run_loadCells_list (P := Tryz.prog) w ⟨pb, po, none⟩ (flatP ps) (fun j v e => by
        obtain ⟨x, y, h1, h2⟩ := flatP_at ps j v e
        have := hpl.2 _ _ _ h1
        rw [addr_add, h2]
        split
        · rename_i h0
          rw [show po + j = po + j / 2 * 2 by omega]; exact this.1
        · rw [show po + j = po + j / 2 * 2 + 1 by omega]; exact this.2)
      rw [hl, ← hk] at hld
      simp [Builtin.copy_, run_underlying hu, Builtin.lenOf, Builtin.firstCells, sizeOf, typeInfo, hq, hi, hmin, hld, hst, goInt]

end Go.Proofs.YtbphndloichnaaaGreatDoor
