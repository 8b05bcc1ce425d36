import Derived.Test.YtenaepdmlknlcaaGreatDoorE21
import Derived.Test.YtenaepdmlknlcaaGreatDoorE22
import Derived.Test.YtenaepdmlknlcaaGreatDoorE23
namespace Go.Proofs.YtenaepdmlknlcaaGreatDoor
open Go.RowKit Go.Shelf

def flatB : List Bx → List Value
  | [] => []
  | b :: bs => .int .i64 b.l :: .int .i64 b.t :: .int .i64 b.r :: .int .i64 b.b :: flatB bs
theorem info141 : (Tryz.prog.info? 141).map (fun i => (i.zero, i.size, i.bytes)) = some (some (.agg #[.int .i64 0, .int .i64 0, .int .i64 0, .int .i64 0]), 4, 32) := by kernel_rfl

theorem find_mem {fs : List Feat} (hd : DistF fs) {f : Feat} (hf : f ∈ fs) : findF f.id fs = some f := by
  unfold findF
  induction fs with
  | nil => cases hf
  | cons g r ih =>
    have hd' := List.nodup_cons.1 (show (g.id :: r.map (·.id)).Nodup from hd)
    rw [List.find?_cons]
    rcases List.mem_cons.1 hf with rfl | hf
    · simp
    · have : ¬ g.id = f.id := fun e => hd'.1 (by rw [e]; exact List.mem_map_of_mem hf)
      rw [show (g.id == f.id) = false by simp [this]]
      exact ih hd'.2 hf
theorem find_not {fs : List Feat} {id : Int} (h : ∀ f ∈ fs, f.id ≠ id) : findF id fs = none := by
  unfold findF
  rw [List.find?_eq_none]
  intro f hf
  simp [h f hf]
theorem hasF_mem {fs : List Feat} {f : Feat} (hf : f ∈ fs) : hasF f.id fs = true := by
  unfold hasF
  rw [List.any_eq_true]
  exact ⟨f, hf, by simp⟩
theorem hasF_not {fs : List Feat} {id : Int} (h : ∀ f ∈ fs, f.id ≠ id) : hasF id fs = false := by
  unfold hasF
  rw [List.any_eq_false]
  intro f hf
  simp [h f hf]

theorem neq_ptr (w : World) (a : Addr) : Sem.run Tryz.prog (binOp BinOp.neq 292 (.pointer (some a)) (.pointer none)) w = .ok (.bool true) w := by kernel_rfl
theorem valid_len {f : Feat} (h : validF f = true) : 1 ≤ f.ps.length ∧ f.ps.length ≤ 6 := by
  simp only [validF, Bool.and_eq_true, mayB, decide_eq_true_eq] at h
  omega

theorem ownsRow_belowA {A B : World} (h : Below A.heap.size A B) {base : Nat} {e : TypeId} {size : Nat} {v : Value} {n : Nat} {xs : List Value} (o : A.ownsRow base e size v n xs) (ob : Obj) : (B.alloc ob).ownsRow base e size v n xs :=
  (ownsRow_fr' (M := fun _ _ => False) (Fr.of_below h) o (fun _ _ _ e => e)).alloc ob

set_option maxRecDepth 100000 in
set_option maxHeartbeats 1000000 in
/-- The boxes of a put, of which there is nothing yet. -/
theorem boxes_any (I : Nat → Prop) (id z : Int) (a : Option Addr) (p : Option Feat) (ro : Option Addr) (vs : List FV) (w : World) (hI : ∀ b, I b → b < w.heap.size) (hp : PutAt I w a p) (hR : RootT I w ro vs) (hg : ∀ v ∈ vs, Good I w v) (hd : DistF (vs.map (·.f))) :
    Calls Tryz.prog 207 #[chgV id a z, .agg #[.pointer ro]] w fun e w' => ∃ v, e = .returned v ∧ w'.ownsRow w.heap.size 141 4 v (boxesF p (vs.map (·.f)) id).length (flatB (boxesF p (vs.map (·.f)) id)) ∧ Below w.heap.size w w' := by
  have HR : Hid (RootT I w ro vs) := hR
  have HG : Hid (∀ v ∈ vs, Good I w v) := hg
  have hF : ∀ W : World, Below w.heap.size w W → Calls Tryz.prog 224 #[.agg #[.pointer ro], .int .i64 id] W fun e w' => ((∃ u ∈ vs, findF id (vs.map (·.f)) = some u.f ∧ e = .returned (.tuple #[encF u, .bool true])) ∨ (findF id (vs.map (·.f)) = none ∧ e = .returned (.tuple #[.agg #[.int .i64 0, .int .i64 0, .int .i64 0, .int .i64 0, .slice none 0 0], .bool false]))) ∧ Below W.heap.size W w' := fun W hW => by
    refine (Find_any I ro vs id W (fun b hb => Nat.lt_of_lt_of_le (hI b hb) hW.size) (RootT.same hR (Same.of_below hW hI)) (fun v hv => Good.below hW hI (hg v hv))).mono ?_
    rintro e w' ⟨v, rfl, hv, hb⟩
    refine ⟨?_, hb⟩
    rcases hv with ⟨u, hu, hid, rfl⟩ | ⟨hn, rfl⟩
    · left
      refine ⟨u, hu, ?_, rfl⟩
      rw [← hid]
      exact find_mem hd (List.mem_map_of_mem (f := (·.f)) hu)
    · right
      refine ⟨find_not fun f hf => ?_, rfl⟩
      obtain ⟨u, hu, rfl⟩ := List.mem_map.1 hf
      exact hn u hu
  have HF : Hid _ := hF
  have HB : Hid (∀ (u : FV) (W : World), Good I w u → Below w.heap.size w W → Calls Tryz.prog 53 #[.slice (some ⟨u.pb, u.po, none⟩) u.f.ps.length u.cap] W fun e w' => e = .returned (.agg #[.int .i64 (boxZ u.f.ps).l, .int .i64 (boxZ u.f.ps).t, .int .i64 (boxZ u.f.ps).r, .int .i64 (boxZ u.f.ps).b]) ∧ Below W.heap.size W w') := fun u W hu hW => by
    have hl := valid_len hu.1
    refine BoxOf_any u.pb u.po u.f.ps.length u.cap u.f.ps W ⟨Nat.lt_of_lt_of_le (hI _ hu.2.1) hW.size, fun k x y e => ?_⟩ rfl hl.1 (by omega) hu.2.2.1
    have := hu.2.2.2 k x y e
    exact ⟨(hW.cell (p := ⟨u.pb, _, none⟩) (hI _ hu.2.1)).trans this.1, (hW.cell (p := ⟨u.pb, _, none⟩) (hI _ hu.2.1)).trans this.2⟩
  obtain ⟨i141, hi0, hz0, hz1, hz2⟩ := info_parts info141
  have HI : Hid (Tryz.prog.info? 141 = some i141 ∧ i141.zero = some (.agg #[.int .i64 0, .int .i64 0, .int .i64 0, .int .i64 0]) ∧ i141.size = 4 ∧ i141.bytes = 32) := ⟨hi0, hz0, hz1, hz2⟩
  have hBB : ∀ o o' : Obj, Below w.heap.size w ((w.alloc o).alloc o') := fun o o' => ((Below.refl _ _).alloc (Nat.le_refl _) _).alloc (by simp) _
  have HD : Hid (DistF (vs.map (·.f))) := hd
  clear hi0 hz0 hz1 hz2 hF hR hg hd
  obtain ⟨ff, hff⟩ : ∃ ff, findF id (vs.map (·.f)) = ff := ⟨_, rfl⟩
  have HFF : Hid (boxesF p (vs.map (·.f)) id = (p.toList ++ ff.toList).map fun f => boxZ f.ps) := by show boxesF p _ id = _; unfold boxesF; rw [hff]
  rw [HFF.out]
  have HF' : Hid (∀ W : World, Below w.heap.size w W → Calls Tryz.prog 224 #[.agg #[.pointer ro], .int .i64 id] W fun e w' => ((∃ u ∈ vs, ff = some u.f ∧ e = .returned (.tuple #[encF u, .bool true])) ∨ (ff = none ∧ e = .returned (.tuple #[.agg #[.int .i64 0, .int .i64 0, .int .i64 0, .int .i64 0, .slice none 0 0], .bool false]))) ∧ Below W.heap.size W w') := by
    show ∀ W : World, _ → _
    rw [← hff]
    exact HF.out
  have hfx : ff = none ∨ ∃ u ∈ vs, ff = some u.f := by
    cases ff with
    | none => exact .inl rfl
    | some g =>
      right
      have := List.mem_of_find?_eq_some (show (vs.map (·.f)).find? (fun f => f.id == id) = some g from hff)
      obtain ⟨u, hu, rfl⟩ := List.mem_map.1 this
      exact ⟨u, hu, rfl⟩
  clear HF HFF
  rcases hfx with rfl | ⟨u, hu, rfl⟩
  · have HF : Hid (∀ W : World, Below w.heap.size w W → Calls Tryz.prog 224 #[.agg #[.pointer ro], .int .i64 id] W fun e w' => e = .returned (.tuple #[.agg #[.int .i64 0, .int .i64 0, .int .i64 0, .int .i64 0, .slice none 0 0], .bool false]) ∧ Below W.heap.size W w') := fun W hW => (HF'.out W hW).mono fun e w' h => ⟨h.1.elim (fun ⟨_, _, e, _⟩ => by cases e) (fun h => h.2), h.2⟩
    clear HF'
    cases p with
    | none =>
      have ha : a = none := hp
      subst ha
      clear hp
      go_enter Tryz.func207, Tryz.ntmps207
      go_wp2_with (go_at_call 224; refine Calls.mono (HF.out _ (hBB _ _)) ?_; rintro e w3 ⟨rfl, hb3⟩; dsimp only)
      go_ret
      exact ⟨_, rfl, World.ownsRow_nil _ _ _ _, ((hBB _ _).trans (hb3.mono (by simp; omega))).alloc (by have := hb3.size; simp at this; omega) _⟩
    | some f =>
      obtain ⟨R, b, o, cap, rfl, hR, c5, c6, c7, c8, c9, hgd⟩ := hp
      have HGd : Hid (Good I w ⟨f, b, o, cap⟩) := hgd
      have hne := neq_ptr
      have hRlt := hI R hR
      clear hgd
      go_enter Tryz.func207, Tryz.ntmps207
      go_wp2_with (first
        | (go_at_call 53; refine Calls.mono (HB.out ⟨f, b, o, cap⟩ _ HGd.out (hBB _ _)) ?_; rintro e w1 ⟨rfl, hb1⟩; dsimp only; have hs1 := hb1.size; have hB1 : Below w.heap.size w w1 := (hBB _ _).trans (hb1.mono (by simp; omega)))
        | (at_builtin; refine wpList_append_own _ rfl (.tmp 11) (.tmp 18) 319 rfl w.heap.size 141 i141 (.agg #[.int .i64 0, .int .i64 0, .int .i64 0, .int .i64 0]) 4 32 Tryz.underlying319 HI.out.1 HI.out.2.1 HI.out.2.2.1 HI.out.2.2.2 rfl (by decide) (.slice none 0 0) 0 [] rfl (World.ownsRow_nil _ _ _ _) ⟨w1.heap.size, 0, none⟩ 1 1 [.int .i64 (boxZ f.ps).l, .int .i64 (boxZ f.ps).t, .int .i64 (boxZ f.ps).r, .int .i64 (boxZ f.ps).b] rfl rfl (fun j u hj => by
        rw [addr_add]
        match j, hj with
        | 0, hj => simp at hj; subst hj; simp [go_sem]
        | 1, hj => simp at hj; subst hj; simp [go_sem]
        | 2, hj => simp at hj; subst hj; simp [go_sem]
        | 3, hj => simp at hj; subst hj; simp [go_sem]
        | j + 4, hj => simp at hj) (fun u hu => by simp at hu; rcases hu with hu | hu | hu | hu <;> (subst hu; rfl)) (by unfold maxLen; omega) (by omega) (by have := hB1.size; simp; omega) ?_; intro v2 w2 hown2 hgrow2 _; have hB2 : Below w.heap.size w w2 := ((hB1.alloc hB1.size _)).grown hgrow2 (by have := hB1.size; simp; omega) (fun k hk => by cases hk); have hl2 : Below w1.heap.size w1 w2 := (((Below.refl _ _).alloc (Nat.le_refl _) _)).grown hgrow2 (by simp) (fun k hk => by cases hk); obtain ⟨g2, c2, rfl, _, _⟩ := ownsRow_more hown2; have HO2 : Hid (w2.ownsRow w.heap.size 141 4 (.slice (some ⟨g2, 0, none⟩) 1 c2) 1 [.int .i64 (boxZ f.ps).l, .int .i64 (boxZ f.ps).t, .int .i64 (boxZ f.ps).r, .int .i64 (boxZ f.ps).b]) := hown2; have hc0 := (hl2.cell (p := ⟨w.heap.size, 0, none⟩) (show w.heap.size < w1.heap.size by simp at hs1; omega)).trans ((hb1.cell (p := ⟨w.heap.size, 0, none⟩) (by simp; omega)).trans (show _ = some (Value.int .i64 id) by simp [go_sem])); have hc1 := (hl2.cell (p := ⟨w.heap.size + 1, 0, none⟩) (show w.heap.size + 1 < w1.heap.size by simp at hs1; omega)).trans ((hb1.cell (p := ⟨w.heap.size + 1, 0, none⟩) (by simp)).trans (show _ = some (Value.pointer ro) by simp [go_sem])); clear hown2 hgrow2)
        | (go_at_call 224; refine Calls.mono (HF.out _ hB2) ?_; rintro e w3 ⟨rfl, hb3⟩; dsimp only))
      go_ret
      exact ⟨_, rfl, ownsRow_belowA hb3 HO2.out _, (hB2.trans (hb3.mono hB2.size)).alloc (Nat.le_trans hB2.size hb3.size) _⟩
  · have HF : Hid (∀ W : World, Below w.heap.size w W → Calls Tryz.prog 224 #[.agg #[.pointer ro], .int .i64 id] W fun e w' => ∃ u2 ∈ vs, u.f = u2.f ∧ e = .returned (.tuple #[encF u2, .bool true]) ∧ Below W.heap.size W w') := fun W hW => (HF'.out W hW).mono fun e w' h => h.1.elim (fun ⟨u2, h1, h2, h3⟩ => ⟨u2, h1, Option.some.inj h2, h3, h.2⟩) (fun h => by cases h.1)
    clear HF'
    cases p with
    | none =>
      have ha : a = none := hp
      subst ha
      clear hp
      go_enter Tryz.func207, Tryz.ntmps207
      go_wp2_with (first
        | (go_at_call 224; refine Calls.mono (HF.out _ (hBB _ _)) ?_; rintro e w3 ⟨u2, hu2, hfu, rfl, hb3⟩; simp only [encF]; have hs3 := hb3.size; have HU : Hid (u2 ∈ vs) := hu2; have HFU : Hid (u.f = u2.f) := hfu; clear hu2 hfu)
        | (go_at_call 53; refine Calls.mono (HB.out u2 _ (HG.out u2 HU.out) (((hBB _ _).trans (hb3.mono (by simp; omega))).alloc (by simp at hs3; omega) _)) ?_; rintro e w4 ⟨rfl, hb4⟩; dsimp only; have hs4 := hb4.size)
        | (at_builtin; refine wpList_append_own _ rfl (.tmp 28) (.tmp 32) 319 rfl w.heap.size 141 i141 (.agg #[.int .i64 0, .int .i64 0, .int .i64 0, .int .i64 0]) 4 32 Tryz.underlying319 HI.out.1 HI.out.2.1 HI.out.2.2.1 HI.out.2.2.2 rfl (by decide) (.slice none 0 0) 0 [] rfl (World.ownsRow_nil _ _ _ _) ⟨w4.heap.size, 0, none⟩ 1 1 [.int .i64 (boxZ u2.f.ps).l, .int .i64 (boxZ u2.f.ps).t, .int .i64 (boxZ u2.f.ps).r, .int .i64 (boxZ u2.f.ps).b] rfl rfl (fun j u hj => by
        rw [addr_add]
        match j, hj with
        | 0, hj => simp at hj; subst hj; simp [go_sem]
        | 1, hj => simp at hj; subst hj; simp [go_sem]
        | 2, hj => simp at hj; subst hj; simp [go_sem]
        | 3, hj => simp at hj; subst hj; simp [go_sem]
        | j + 4, hj => simp at hj) (fun u hu => by simp at hu; rcases hu with hu | hu | hu | hu <;> (subst hu; rfl)) (by unfold maxLen; omega) (by omega) (by simp at hs3 hs4; simp; omega) ?_; intro v5 w5 hown5 hgrow5 _; have hB5 : Below w.heap.size w w5 := ((((((hBB _ _).trans (hb3.mono (by simp; omega))).alloc (by simp at hs3; omega) _).trans (hb4.mono (by simp at hs3; simp; omega))).alloc (by simp at hs3 hs4; omega) _)).grown hgrow5 (by simp at hs3 hs4; simp; omega) (fun k hk => by cases hk); obtain ⟨g5, c5, rfl, _, _⟩ := ownsRow_more hown5; have HO5 : Hid _ := hown5; clear hown5 hgrow5))
      go_ret
      refine ⟨_, rfl, ?_, hB5⟩
      rw [HFU.out]
      exact HO5.out
    | some f =>
      obtain ⟨R, b, o, cap, rfl, hR, c5, c6, c7, c8, c9, hgd⟩ := hp
      have HGd : Hid (Good I w ⟨f, b, o, cap⟩) := hgd
      have hne := neq_ptr
      have hRlt := hI R hR
      clear hgd
      go_enter Tryz.func207, Tryz.ntmps207
      go_wp2_with (first
        | (at_builtin; refine wpList_append_own _ rfl (.tmp 28) (.tmp 32) 319 rfl w.heap.size 141 i141 (.agg #[.int .i64 0, .int .i64 0, .int .i64 0, .int .i64 0]) 4 32 Tryz.underlying319 HI.out.1 HI.out.2.1 HI.out.2.2.1 HI.out.2.2.2 rfl (by decide) (.slice (some ⟨g2, 0, none⟩) 1 c2) 1 [.int .i64 (boxZ f.ps).l, .int .i64 (boxZ f.ps).t, .int .i64 (boxZ f.ps).r, .int .i64 (boxZ f.ps).b] rfl (ownsRow_belowA hb4 (ownsRow_belowA hb3 HO2.out _) _) ⟨w4.heap.size, 0, none⟩ 1 1 [.int .i64 (boxZ u2.f.ps).l, .int .i64 (boxZ u2.f.ps).t, .int .i64 (boxZ u2.f.ps).r, .int .i64 (boxZ u2.f.ps).b] rfl rfl (fun j u hj => by
        rw [addr_add]
        match j, hj with
        | 0, hj => simp at hj; subst hj; simp [go_sem]
        | 1, hj => simp at hj; subst hj; simp [go_sem]
        | 2, hj => simp at hj; subst hj; simp [go_sem]
        | 3, hj => simp at hj; subst hj; simp [go_sem]
        | j + 4, hj => simp at hj) (fun u hu => by simp at hu; rcases hu with hu | hu | hu | hu <;> (subst hu; rfl)) (by unfold maxLen; omega) (by omega) (by have := hB2.size; simp at hs3 hs4; simp; omega) ?_; intro v5 w5 hown5 hgrow5 _; have hB5 : Below w.heap.size w w5 := ((((hB2.trans (hb3.mono hB2.size)).alloc (Nat.le_trans hB2.size hb3.size) _).trans (hb4.mono (by have := hB2.size; simp; omega))).alloc (by have := hB2.size; simp at hs4; omega) _).grown hgrow5 (by have := hB2.size; simp at hs4; simp; omega) (fun k hk => (HO2.out.lt k hk).1); obtain ⟨g5, c5, rfl, _, _⟩ := ownsRow_more hown5; have HO5 : Hid _ := hown5; clear hown5 hgrow5)
        | (go_at_call_of 53 (Value.slice (some ⟨u2.pb, u2.po, none⟩) u2.f.ps.length u2.cap); refine Calls.mono (HB.out u2 _ (HG.out u2 HU.out) ((hB2.trans (hb3.mono hB2.size)).alloc (Nat.le_trans hB2.size hb3.size) _)) ?_; rintro e w4 ⟨rfl, hb4⟩; dsimp only; have hs4 := hb4.size)
        | (go_at_call 224; refine Calls.mono (HF.out _ hB2) ?_; rintro e w3 ⟨u2, hu2, hfu, rfl, hb3⟩; simp only [encF]; have hs3 := hb3.size; have HU : Hid (u2 ∈ vs) := hu2; have HFU : Hid (u.f = u2.f) := hfu; clear hu2 hfu)
        | (at_builtin; refine wpList_append_own _ rfl (.tmp 11) (.tmp 18) 319 rfl w.heap.size 141 i141 (.agg #[.int .i64 0, .int .i64 0, .int .i64 0, .int .i64 0]) 4 32 Tryz.underlying319 HI.out.1 HI.out.2.1 HI.out.2.2.1 HI.out.2.2.2 rfl (by decide) (.slice none 0 0) 0 [] rfl (World.ownsRow_nil _ _ _ _) ⟨w1.heap.size, 0, none⟩ 1 1 [.int .i64 (boxZ f.ps).l, .int .i64 (boxZ f.ps).t, .int .i64 (boxZ f.ps).r, .int .i64 (boxZ f.ps).b] rfl rfl (fun j u hj => by
        rw [addr_add]
        match j, hj with
        | 0, hj => simp at hj; subst hj; simp [go_sem]
        | 1, hj => simp at hj; subst hj; simp [go_sem]
        | 2, hj => simp at hj; subst hj; simp [go_sem]
        | 3, hj => simp at hj; subst hj; simp [go_sem]
        | j + 4, hj => simp at hj) (fun u hu => by simp at hu; rcases hu with hu | hu | hu | hu <;> (subst hu; rfl)) (by unfold maxLen; omega) (by omega) (by have := hB1.size; simp; omega) ?_; intro v2 w2 hown2 hgrow2 _; have hB2 : Below w.heap.size w w2 := ((hB1.alloc hB1.size _)).grown hgrow2 (by have := hB1.size; simp; omega) (fun k hk => by cases hk); have hl2 : Below w1.heap.size w1 w2 := (((Below.refl _ _).alloc (Nat.le_refl _) _)).grown hgrow2 (by simp) (fun k hk => by cases hk); obtain ⟨g2, c2, rfl, _, _⟩ := ownsRow_more hown2; have HO2 : Hid (w2.ownsRow w.heap.size 141 4 (.slice (some ⟨g2, 0, none⟩) 1 c2) 1 [.int .i64 (boxZ f.ps).l, .int .i64 (boxZ f.ps).t, .int .i64 (boxZ f.ps).r, .int .i64 (boxZ f.ps).b]) := hown2; have hc0 := (hl2.cell (p := ⟨w.heap.size, 0, none⟩) (show w.heap.size < w1.heap.size by simp at hs1; omega)).trans ((hb1.cell (p := ⟨w.heap.size, 0, none⟩) (by simp; omega)).trans (show _ = some (Value.int .i64 id) by simp [go_sem])); have hc1 := (hl2.cell (p := ⟨w.heap.size + 1, 0, none⟩) (show w.heap.size + 1 < w1.heap.size by simp at hs1; omega)).trans ((hb1.cell (p := ⟨w.heap.size + 1, 0, none⟩) (by simp)).trans (show _ = some (Value.pointer ro) by simp [go_sem])); clear hown2 hgrow2)
        | (go_at_call_of 53 (Value.slice (some ⟨b, o, none⟩) f.ps.length cap); refine Calls.mono (HB.out ⟨f, b, o, cap⟩ _ HGd.out (hBB _ _)) ?_; rintro e w1 ⟨rfl, hb1⟩; dsimp only; have hs1 := hb1.size; have hB1 : Below w.heap.size w w1 := (hBB _ _).trans (hb1.mono (by simp; omega))))
      go_ret
      refine ⟨_, rfl, ?_, hB5⟩
      rw [HFU.out]
      exact HO5.out

end Go.Proofs.YtenaepdmlknlcaaGreatDoor

namespace Go.Proofs.YtenaepdmlknlcaaGreatDoor
open Go.RowKit Go.Shelf

/-- Boxes in memory. -/
def BxsAt (w : World) (g : Nat) (bs : List Bx) : Prop := ∀ (i : Nat) x, bs[i]? = some x → w.cell? ⟨g, i * 4, none⟩ = some (.int .i64 x.l) ∧ w.cell? ⟨g, i * 4 + 1, none⟩ = some (.int .i64 x.t) ∧ w.cell? ⟨g, i * 4 + 2, none⟩ = some (.int .i64 x.r) ∧ w.cell? ⟨g, i * 4 + 3, none⟩ = some (.int .i64 x.b)
theorem flatB_get (bs : List Bx) : ∀ (i : Nat) (x : Bx), bs[i]? = some x → (flatB bs)[i * 4]? = some (.int .i64 x.l) ∧ (flatB bs)[i * 4 + 1]? = some (.int .i64 x.t) ∧ (flatB bs)[i * 4 + 2]? = some (.int .i64 x.r) ∧ (flatB bs)[i * 4 + 3]? = some (.int .i64 x.b) := by
  induction bs with
  | nil => intro i x h; simp at h
  | cons b r ih =>
    intro i x h
    cases i with
    | zero => simp at h; subst h; exact ⟨rfl, rfl, rfl, rfl⟩
    | succ i =>
      have h' := ih i x (by simpa using h)
      rw [show (i + 1) * 4 = i * 4 + 4 by omega]
      exact h'
theorem BxsAt.own {w : World} {base g n cap : Nat} {bs : List Bx} (h : w.ownsRow base 141 4 (.slice (some ⟨g, 0, none⟩) n cap) n (flatB bs)) (hn : n = bs.length) : BxsAt w g bs := fun i x hx => by
  have hi := (List.getElem?_eq_some_iff.1 hx).1
  obtain ⟨h0, h1, h2, h3⟩ := flatB_get bs i x hx
  have hc : ∀ j, j < n * 4 → w.cell? ⟨g, j, none⟩ = (flatB bs)[j]? := fun j hj => by
    have := h.cellAt j hj
    rw [this]
  exact ⟨(hc _ (by omega)).trans h0, (hc _ (by omega)).trans h1, (hc _ (by omega)).trans h2, (hc _ (by omega)).trans h3⟩
theorem BxsAt.below {n : Nat} {A B : World} (h : Below n A B) {g : Nat} {bs : List Bx} (hg : g < n) (k : BxsAt A g bs) : BxsAt B g bs := fun i x e =>
  ⟨(h.cell (p := ⟨g, _, none⟩) hg).trans (k i x e).1, (h.cell (p := ⟨g, _, none⟩) hg).trans (k i x e).2.1, (h.cell (p := ⟨g, _, none⟩) hg).trans (k i x e).2.2.1, (h.cell (p := ⟨g, _, none⟩) hg).trans (k i x e).2.2.2⟩

abbrev bxV (x : Bx) : Value := .agg #[.int .i64 x.l, .int .i64 x.t, .int .i64 x.r, .int .i64 x.b]

set_option maxHeartbeats 1000000 in
theorem IndexBx_any (s : Bx) (a : Option Addr) (n cap : Nat) (bs : List Bx) (w : World) (hn : n = bs.length) (hcap : n ≤ cap) (hn9 : n ≤ 1000000) (ha : bs = [] ∨ ∃ g, a = some ⟨g, 0, none⟩ ∧ g < w.heap.size ∧ BxsAt w g bs) :
    Calls Tryz.prog 234 #[.slice a n cap, .func (.func 158) #[bxV s] #[]] w fun e w' => (∃ i : Int, e = .returned (.int .i64 i) ∧ decide (0 ≤ i) = bs.any (meetBx s)) ∧ Below w.heap.size w w' := by
  have Hn : Hid (n = bs.length) := hn
  have HA : Hid (bs = [] ∨ ∃ g, a = some ⟨g, 0, none⟩ ∧ g < w.heap.size ∧ BxsAt w g bs) := ha
  clear hn ha
  go_enter Tryz.func234, Tryz.ntmps234
  go_wp2_with fail
  go_loopw [8] (fun i wr => ∃ k : Nat, k ≤ n ∧ i = .int .i64 k ∧ Hid (∀ j x, j < k → bs[j]? = some x → meetBx s x = false) ∧ Below w.heap.size w wr) (fun i _ => n - (intOf i).toNat)
  case atStart => exact ⟨0, by omega, rfl, fun j x hj => by omega, Below.refl _ _⟩
  case round =>
    obtain ⟨k, hk, rfl, HJ, hB⟩ := hrel
    by_cases hlt : k < n
    · obtain ⟨x, hx⟩ : ∃ x, bs[k]? = some x := ⟨bs[k]'(by rw [← Hn.out]; exact hlt), List.getElem?_eq_getElem _⟩
      obtain ⟨g, rfl, hg, hK⟩ := HA.out.resolve_left (fun e => by rw [e] at hx; simp at hx)
      obtain ⟨x0, x1, x2, x3⟩ := (hK.below hB hg) k x hx
      have HX : Hid (bs[k]? = some x) := hx
      have hI : (k : Int) < (n : Int) := by omega
      have hI0 : (0 : Int) ≤ (k : Int) := by omega
      have HC : Hid (∀ W : World, Calls Tryz.prog 158 #[.agg #[.int .i64 s.l, .int .i64 s.t, .int .i64 s.r, .int .i64 s.b], .agg #[.int .i64 x.l, .int .i64 x.t, .int .i64 x.r, .int .i64 x.b]] W fun e w' => e = .returned (.bool (meetBx s x)) ∧ Below W.heap.size W w') := fun W => Meets_any _ _ _ _ _ _ _ _ W
      obtain ⟨q, hq⟩ : ∃ q, meetBx s x = q := ⟨_, rfl⟩
      rw [hq] at HC
      have HQ : Hid (meetBx s x = q) := hq
      clear hx hK hq
      cases q with
      | true =>
        go_wp2_with (go_at_call 158; refine Calls.mono (HC.out _) ?_; rintro e w2 ⟨rfl, hb2⟩; dsimp only)
        go_ret
        refine ⟨⟨_, rfl, ?_⟩, hB.trans (hb2.mono hB.size)⟩
        rw [decide_eq_true (by omega)]
        exact (List.any_eq_true.2 ⟨x, List.mem_of_getElem? HX.out, HQ.out⟩).symm
      | false =>
        go_wp2_with (go_at_call 158; refine Calls.mono (HC.out _) ?_; rintro e w2 ⟨rfl, hb2⟩; dsimp only)
        refine ⟨⟨k + 1, by omega, by go_num, fun j y hj ey => ?_, hB.trans (hb2.mono hB.size)⟩, by simp [intOf]; omega⟩
        by_cases hjk : j = k
        · subst hjk
          have := HX.out
          rw [this] at ey
          cases ey
          exact HQ.out
        · exact HJ.out j y (by omega) ey
    · obtain rfl : k = n := by omega
      go_wp2
      go_ret
      refine ⟨⟨_, rfl, ?_⟩, hB⟩
      rw [decide_eq_false (by omega)]
      refine (List.any_eq_false.2 fun x hx => ?_).symm
      obtain ⟨i, hi, rfl⟩ := List.getElem_of_mem hx
      rw [HJ.out i bs[i] (by rw [Hn.out]; exact hi) (List.getElem?_eq_getElem hi)]
      simp

theorem Contains_any (s : Bx) (a : Option Addr) (n cap : Nat) (bs : List Bx) (w : World) (hn : n = bs.length) (hcap : n ≤ cap) (hn9 : n ≤ 1000000) (ha : bs = [] ∨ ∃ g, a = some ⟨g, 0, none⟩ ∧ g < w.heap.size ∧ BxsAt w g bs) :
    Calls Tryz.prog 223 #[.slice a n cap, .func (.func 158) #[bxV s] #[]] w fun e w' => e = .returned (.bool (bs.any (meetBx s))) ∧ Below w.heap.size w w' := by
  have HX : Hid _ := IndexBx_any s a n cap bs w hn hcap hn9 ha
  clear hn ha
  go_enter Tryz.func223, Tryz.ntmps223
  go_wp2_with (go_at_call 234; refine Calls.mono HX.out ?_; rintro e w1 ⟨⟨i, rfl, hi⟩, hb1⟩; dsimp only)
  go_ret
  exact ⟨ret_bool (by simp []), hb1⟩

end Go.Proofs.YtenaepdmlknlcaaGreatDoor
