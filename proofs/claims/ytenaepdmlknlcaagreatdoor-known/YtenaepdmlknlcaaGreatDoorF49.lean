import Derived.Test.YtenaepdmlknlcaaGreatDoorF46
namespace Go.Proofs.YtenaepdmlknlcaaGreatDoor
open Go.RowKit Go.Shelf

/-! What Known puts over a tile. -/
def f99w (c r w : Int) : Feat := ⟨99, 3, 9, 9, [(c * w, r * w), (c * w + w - 1, r * w), (c * w + w - 1, r * w + w - 1), (c * w, r * w + w - 1)]⟩
def f99 (t : Tl) : Feat := f99w t.c t.r (8 * pZ t.z)
theorem all99 : ((tilesZ 0 ++ tilesZ 1 ++ tilesZ 2 ++ tilesZ 3).all fun t => validF (f99 t) && (List.range 64).all fun n => coverB 3 (f99 t).ps (pixZ (pZ t.z) t.c t.r n).l (pixZ (pZ t.z) t.c t.r n).t (pixZ (pZ t.z) t.c t.r n).r (pixZ (pZ t.z) t.c t.r n).b) = true := by decide +kernel
theorem good99 {t : Tl} (h : t.good) : validF (f99 t) = true ∧ ∀ n, n < 64 → coverB 3 (f99 t).ps (pixZ (pZ t.z) t.c t.r n).l (pixZ (pZ t.z) t.c t.r n).t (pixZ (pZ t.z) t.c t.r n).r (pixZ (pZ t.z) t.c t.r n).b = true := by
  have hz := h
  unfold Tl.good tileB at hz
  rw [decide_eq_true_eq] at hz
  have h4 : t.z = ((0 : Nat) : Int) ∨ t.z = ((1 : Nat) : Int) ∨ t.z = ((2 : Nat) : Int) ∨ t.z = ((3 : Nat) : Int) := by omega
  have hm : t ∈ tilesZ 0 ++ tilesZ 1 ++ tilesZ 2 ++ tilesZ 3 := by
    simp only [List.mem_append]
    rcases h4 with e | e | e | e
    · exact .inl (.inl (.inl (tile_mem h e (by omega))))
    · exact .inl (.inl (.inr (tile_mem h e (by omega))))
    · exact .inl (.inr (tile_mem h e (by omega)))
    · exact .inr (tile_mem h e (by omega))
  have ha := List.all_eq_true.1 all99 t hm
  rw [Bool.and_eq_true] at ha
  exact ⟨ha.1, fun n hn => List.all_eq_true.1 ha.2 n (List.mem_range.2 hn)⟩
theorem fold_in (x : Bx) : ∀ (vs : List FV) (o : Option FV) (u : FV), vs.foldl (pickV x) o = some u → u ∈ vs ∨ o = some u
  | [], o, u, h => .inr h
  | v :: vs, o, u, h => by
    rcases fold_in x vs (pickV x o v) u h with h1 | h1
    · exact .inl (List.mem_cons_of_mem _ h1)
    · unfold pickV at h1
      split at h1
      · split at h1
        · cases h1; exact .inl (List.mem_cons_self)
        · split at h1
          · cases h1; exact .inl (List.mem_cons_self)
          · exact .inr h1
      · exact .inr h1
theorem top_in (x : Bx) {vs : List FV} {u : FV} (h : topOf x vs = some u) : u ∈ vs := (fold_in x vs none u h).elim id (fun e => by cases e)
theorem col99 {fs : List Feat} (hv : ∀ f ∈ fs, validF f = true) (hid : ∀ f ∈ fs, f.id ≤ 6) {t : Tl} (ht : t.good) {n : Nat} (hn : n < 64) : colR ((fs ++ [f99 t]).map mkV) (pZ t.z) t.c t.r n = 9 := by
  unfold colR topOf
  rw [List.map_append, List.foldl_append]
  show (tcol (pickV (pixZ (pZ t.z) t.c t.r n) (topOf (pixZ (pZ t.z) t.c t.r n) (fs.map mkV)) (mkV (f99 t)))).toNat = 9
  have hc : coverB (mkV (f99 t)).f.kd (mkV (f99 t)).f.ps (pixZ (pZ t.z) t.c t.r n).l (pixZ (pZ t.z) t.c t.r n).t (pixZ (pZ t.z) t.c t.r n).r (pixZ (pZ t.z) t.c t.r n).b = true := (good99 ht).2 n hn
  unfold pickV
  rw [if_pos hc]
  split
  · rfl
  · rename_i u hu
    obtain ⟨f, hf, rfl⟩ := List.mem_map.1 (top_in _ hu)
    have h1 := hv f hf
    have h2 := hid f hf
    unfold validF inB at h1
    simp only [Bool.and_eq_true, decide_eq_true_eq] at h1
    have ha : aboveB (mkV (f99 t)).f.ht (mkV (f99 t)).f.id (mkV f).f.ht (mkV f).f.id = true := by
      show aboveB 9 99 f.ht f.id = true
      unfold aboveB
      split
      · rw [decide_eq_true_eq]; omega
      · rw [decide_eq_true_eq]; omega
    rw [if_pos ha]
    rfl
theorem stN_const {f : Nat → Nat} {c : Nat} : ∀ k, (∀ j, j ≤ k → f j = c) → stN f k = ([], k + 1, c)
  | 0, h => by unfold stN; rw [h 0 (Nat.le_refl _)]
  | k + 1, h => by
    unfold stN
    rw [stN_const k (fun j hj => h j (by omega)), h (k + 1) (Nat.le_refl _)]
    unfold stp
    simp
def b99 : ByteArray := ⟨#[54, 52, 120, 57]⟩
theorem body99 {fs : List Feat} (hv : ∀ f ∈ fs, validF f = true) (hid : ∀ f ∈ fs, f.id ≤ 6) {t : Tl} (ht : t.good) : bodyF (fs ++ [f99 t]) t = b99 := by
  unfold bodyF bodyL bodyR
  rw [stN_const 63 (c := 9) (fun j hj => col99 hv hid ht (by omega))]
  unfold fin runT
  dsimp only
  rw [digs_dec, digs_dec, Lib.decDigits, dif_neg (by omega), Lib.decDigits_one (by omega), Lib.decDigits_one (by omega)]
  rfl
/-- The put's text. -/
theorem put99 (t : Tl) : putT (f99 t) = ⟨#[112, 117, 116, 32, 57, 57, 32, 97, 114, 101, 97, 32, 57, 32, 57, 32]⟩ ++ ptT (t.c * (8 * pZ t.z), t.r * (8 * pZ t.z)) ++ ⟨#[32]⟩ ++ ptT (t.c * (8 * pZ t.z) + 8 * pZ t.z - 1, t.r * (8 * pZ t.z)) ++ ⟨#[32]⟩ ++ ptT (t.c * (8 * pZ t.z) + 8 * pZ t.z - 1, t.r * (8 * pZ t.z) + 8 * pZ t.z - 1) ++ ⟨#[32]⟩ ++ ptT (t.c * (8 * pZ t.z), t.r * (8 * pZ t.z) + 8 * pZ t.z - 1) := by
  have e : headT (f99 t) ++ ⟨#[32]⟩ = ⟨#[112, 117, 116, 32, 57, 57, 32, 97, 114, 101, 97, 32, 57, 32, 57, 32]⟩ := by
    show headT ⟨99, 3, 9, 9, []⟩ ++ ⟨#[32]⟩ = _
    kernel_rfl
  rw [← e]
  unfold putT
  show stepT (stepT (stepT (stepT (headT (f99 t)) _) _) _) _ = _
  simp only [stepT, ptT, f99, f99w, ByteArray.append_assoc]
theorem size99 {t : Tl} (h : t.good) : (putT (f99 t)).size ≤ 200 := by
  have hv := (good99 h).1
  unfold validF at hv
  simp only [Bool.and_eq_true] at hv
  have hp := List.all_eq_true.1 hv.2
  unfold putT
  have h1 := fold_size (f99 t).ps (fun p hp' => by have := hp p hp'; unfold inW inB at this; simp only [Bool.and_eq_true, decide_eq_true_eq] at this; omega) (headT (f99 t))
  have e : (headT (f99 t)).size = 15 := by show (headT ⟨99, 3, 9, 9, []⟩).size = 15; kernel_rfl
  have e2 : (f99 t).ps.length = 4 := rfl
  omega
theorem get_markK (t : Tl) (m : ByteArray) : getT t ++ ⟨#[32]⟩ ++ m = getW t [m] := by
  rw [get_join]
  unfold getW
  rw [List.append_nil, join_snoc _ (by simp)]
theorem dch_freeK (d : Nat) (h : d < 16) : dch d ≠ 32 ∧ dch d ≠ 44 := by
  have : ∀ i : Fin 16, dch i.val ≠ 32 ∧ dch i.val ≠ 44 := by decide +kernel
  exact this ⟨d, h⟩
theorem digs_freeK : ∀ (k v : Nat), v < 16 ^ k → (32 : UInt8) ∉ digs 16 v
  | 0, v, h => by
    have : v = 0 := by simpa using h
    subst this
    rw [digs_small (by omega)]
    intro e
    exact (dch_freeK 0 (by omega)).1 (List.mem_singleton.1 e).symm
  | k + 1, v, h => by
    by_cases h16 : v < 16
    · rw [digs_small h16]
      intro e
      exact (dch_freeK v h16).1 (List.mem_singleton.1 e).symm
    · rw [digs_big (by omega)]
      intro e
      rcases List.mem_append.1 e with e | e
      · exact digs_freeK k (v / 16) (by rw [Nat.pow_succ] at h; omega) e
      · exact (dch_freeK (v % 16) (by omega)).1 (List.mem_singleton.1 e).symm
theorem mark_freeK (b : ByteArray) : (32 : UInt8) ∉ (markS b).data.toList := by
  show (32 : UInt8) ∉ (markN b.data.toList)
  unfold markN padN
  intro e
  rcases List.mem_append.1 e with e | e
  · have := List.eq_of_mem_replicate e
    revert this; decide
  · exact digs_freeK 8 _ (by have := sumN_lt b.data.toList; omega) e
/-- A get with a mark. -/
theorem read_mark {t : Tl} (h : t.good) (b : ByteArray) : readP (getT t ++ ⟨#[32]⟩ ++ markS b) = .get t (markS b) := by
  rw [get_markK]; exact readP_getW h (.inr ⟨_, rfl, mark_size b, mark_freeK b⟩)
theorem tell_same (b : ByteArray) : tellS (markS b) b = ⟨#[51, 48, 52, 32]⟩ ++ markS b := by
  unfold tellS; rw [if_pos (by simp)]
theorem tell_other {m b : ByteArray} (h : m ≠ markS b) : tellS m b = tellS ⟨#[]⟩ b := by
  rw [tell_new]
  unfold tellS
  rw [eqS, if_neg]
  intro e
  exact h (of_decide_eq_true e)
/-- What a get's answer is made of. -/
theorem ext_list (x : ByteArray) (i j : Nat) : (x.extract i j).data.toList = (x.data.toList.drop i).take (j - i) := by
  rw [ByteArray.data_extract, Array.toList_extract]; first | done | rfl
theorem told_list (m b : ByteArray) : (⟨#[50, 48, 48, 32]⟩ ++ m ++ ⟨#[32]⟩ ++ b : ByteArray).data.toList = [50, 48, 48, 32] ++ (m.data.toList ++ (32 :: b.data.toList)) := by
  simp [ByteArray.data_append]
theorem told_parts (m b : ByteArray) (hm : m.size = 8) : (⟨#[50, 48, 48, 32]⟩ ++ m ++ ⟨#[32]⟩ ++ b : ByteArray).extract 0 4 = ⟨#[50, 48, 48, 32]⟩ ∧ (⟨#[50, 48, 48, 32]⟩ ++ m ++ ⟨#[32]⟩ ++ b : ByteArray).extract 4 12 = m ∧ (⟨#[50, 48, 48, 32]⟩ ++ m ++ ⟨#[32]⟩ ++ b : ByteArray).extract 12 (13 + b.size) = ⟨#[32]⟩ ++ b := by
  have hM : m.data.toList.length = 8 := by rw [Array.length_toList]; exact hm
  refine ⟨ba_ext ?_, ba_ext ?_, ba_ext ?_⟩
  · rw [ext_list, told_list]; first | done | rfl
  · rw [ext_list, told_list]
    show ((m.data.toList ++ (32 :: b.data.toList))).take 8 = _
    rw [← hM, List.take_left]
  · rw [ext_list, told_list]
    show ((m.data.toList ++ (32 :: b.data.toList)).drop 8).take (13 + b.size - 12) = _
    rw [← hM, List.drop_left, List.take_of_length_le]
    · simp [ByteArray.data_append]
    · show _ ≤ 13 + b.data.size - 12
      simp; omega

set_option maxHeartbeats 1000000 in
theorem corner_any (x y : Int) (hx : -9 ≤ x ∧ x ≤ 1000) (hy : -9 ≤ y ∧ y ≤ 1000) (w : World) : Calls Tryz.prog 23 #[.int .i64 x, .int .i64 y] w fun e w' => e = .returned (.string (ptT (x, y))) ∧ w' = w := by
  have H1 : Hid _ := decimal_any x hx.1 hx.2
  have H2 : Hid _ := decimal_any y hy.1 hy.2
  have h1 := decZ_size hx.1 hx.2
  have h2 := decZ_size hy.1 hy.2
  unfold ptT
  dsimp only
  obtain ⟨s1, hs1⟩ : ∃ s, decZ x = s := ⟨_, rfl⟩
  obtain ⟨s2, hs2⟩ : ∃ s, decZ y = s := ⟨_, rfl⟩
  rw [hs1] at H1 h1
  rw [hs2] at H2 h2
  rw [hs1, hs2]
  have hcat1 : (9223372036854775807 < s1.size + 1) = False := eq_false (by omega)
  have hcat2 : (9223372036854775807 < s1.size + 1 + s2.size) = False := eq_false (by omega)
  clear hs1 hs2
  go_enter Tryz.func23, Tryz.ntmps23
  go_wp2_with fail
  refine Calls.mono (H1.out _) ?_
  rintro e w1 ⟨rfl, rfl⟩
  dsimp only
  go_wp2_with (go_at_call 21; refine Calls.mono (H2.out _) ?_; rintro e w2 ⟨rfl, rfl⟩; dsimp only)
  go_ret
  exact ⟨rfl, rfl⟩
end Go.Proofs.YtenaepdmlknlcaaGreatDoor

namespace Go.Proofs.YtenaepdmlknlcaaGreatDoor
open Go.RowKit Go.Shelf

/-- A call of ask, in any memory. -/
def AskC (b0 p A : Nat) (v : Nat → Value) (P : Pl) (a a' : Atl) (x an : ByteArray) : Prop := ∀ (W : World) (Z : Nat → Prop), PlayAt W b0 p A Z v { P with a := a } → Calls Tryz.prog 22 #[.pointer (some ⟨p, 0, none⟩), .string x] W fun e w' => e = .returned (.tuple #[.string an, .bool true]) ∧ ∃ Z', PN b0 p A Z v Z' v { P with a := a' } W w'
theorem askC {b0 p A : Nat} {v : Nat → Value} (P : Pl) {a : Atl} {T : Int} {fs : List Feat} (h : AskOk a T fs) (hT : T + 6 < 4611686018427387904) {x an : ByteArray} (hx : x.size ≤ 200) (ha : ansR fs (readP x) = an) : AskC b0 p A v P a (askM a x) x an := fun W Z hW => by
  have := ask_any hW (show AskOk { P with a := a }.a T fs from h) hT x hx
  unfold AskPost at this
  dsimp only at this
  rw [h.fs, ha] at this
  exact this
set_option maxHeartbeats 1000000 in
/-- What Known asks, and what it is told. -/
theorem known_asks {P : Pl} {T : Int} {fs : List Feat} (h : AskOk P.a T fs) (hT : T + 30 < 4611686018427387904) (hid : ∀ f ∈ fs, f.id ≤ 6) {t : Tl} (ht : t.good) (hs : (getT t).size ≤ 100) :
    ∃ (a1 a2 a3 a4 a5 : Atl) (m M F G X : ByteArray), (∀ (b0 p A : Nat) (v : Nat → Value), AskC b0 p A v P P.a a1 (getT t) F ∧ AskC b0 p A v P a1 a2 (getT t ++ ⟨#[32]⟩ ++ m) (⟨#[51, 48, 52, 32]⟩ ++ m) ∧ AskC b0 p A v P a2 a3 (putT (f99 t)) ⟨#[50, 48, 49]⟩ ∧ AskC b0 p A v P a3 a4 (getT t) G ∧ AskC b0 p A v P a4 a5 (getT t ++ ⟨#[32]⟩ ++ m) X) ∧
      m.size = 8 ∧ 13 ≤ F.size ∧ F.extract 0 4 = ⟨#[50, 48, 48, 32]⟩ ∧ F.extract 4 12 = m ∧ G.size = 17 ∧ G.extract 0 4 = ⟨#[50, 48, 48, 32]⟩ ∧ G.extract 4 12 = M ∧ G.extract 12 17 = ⟨#[32, 54, 52, 120, 57]⟩ ∧ (M = m → X = ⟨#[51, 48, 52, 32]⟩ ++ m) ∧ (M ≠ m → X = G) := by
  have hv := h.fair.ok.g.fs.valid
  rw [h.fs] at hv
  have g0 : readP (getT t) = .get t ⟨#[]⟩ := by rw [get_join]; exact readP_getW ht (.inl rfl)
  have gm := read_mark ht (bodyF fs t)
  have gp : readP (putT (f99 t)) = .put (f99 t) := readP_put (good99 ht).1
  have s2 : (getT t ++ ⟨#[32]⟩ ++ markS (bodyF fs t)).size ≤ 200 := by
    simp only [ByteArray.size_append, mark_size]
    show (getT t).size + 1 + 8 ≤ 200
    omega
  have s3 := size99 ht
  obtain ⟨n1, n2⟩ := has98 hid (i := 99) (by omega)
  have e3 : newFs fs 99 (some (f99 t)) = fs ++ [f99 t] := by unfold newFs; rw [n2]; rfl
  have h1 := ask_ok h (by omega) (x := getT t) (by omega)
  rw [g0] at h1
  have h2 := ask_ok h1 (by omega) (x := getT t ++ ⟨#[32]⟩ ++ markS (bodyF fs t)) s2
  rw [gm] at h2
  have h3 := ask_ok h2 (by omega) (x := putT (f99 t)) s3
  rw [gp] at h3
  have h4 := ask_ok h3 (by omega) (x := getT t) (by omega)
  rw [g0] at h4
  have e3' : fsR (fsR (fsR fs (.get t ⟨#[]⟩)) (.get t (markS (bodyF fs t)))) (.put (f99 t)) = fs ++ [f99 t] := e3
  have e4' : fsR (fsR (fsR (fsR fs (.get t ⟨#[]⟩)) (.get t (markS (bodyF fs t)))) (.put (f99 t))) (.get t ⟨#[]⟩) = fs ++ [f99 t] := e3
  rw [e3'] at h3
  rw [e4'] at h4
  have hb := body99 hv hid ht
  have tn := tell_new b99
  have ts : ∀ x, x = markS b99 → tellS x b99 = ⟨#[51, 48, 52, 32]⟩ ++ x := fun x e => by rw [e]; exact tell_same _
  have tx : ∀ x, x ≠ markS b99 → tellS x b99 = tellS ⟨#[]⟩ b99 := fun x e => tell_other e
  have hM8 := mark_size b99
  have tn' := tell_new (bodyF fs t)
  have ts' := tell_same (bodyF fs t)
  have hm8 := mark_size (bodyF fs t)
  have tl : 13 ≤ (tellS ⟨#[]⟩ (bodyF fs t)).size := by
    rw [tell_new]
    simp only [ByteArray.size_append, mark_size]
    show 13 ≤ 4 + 8 + 1 + _
    omega
  obtain ⟨M, hM⟩ : ∃ x, markS b99 = x := ⟨_, rfl⟩
  rw [hM] at tn ts tx hM8
  obtain ⟨m, hm⟩ : ∃ x, markS (bodyF fs t) = x := ⟨_, rfl⟩
  rw [hm] at tn' ts' hm8 gm s2 h2 h3 h4
  obtain ⟨F, hF⟩ : ∃ x, tellS ⟨#[]⟩ (bodyF fs t) = x := ⟨_, rfl⟩
  rw [hF] at tn' tl
  obtain ⟨G, hG⟩ : ∃ x, tellS ⟨#[]⟩ b99 = x := ⟨_, rfl⟩
  rw [hG] at tn tx
  obtain ⟨p1, p2, p3⟩ := told_parts M b99 hM8
  rw [← tn] at p1 p2 p3
  obtain ⟨q1, q2, _⟩ := told_parts m (bodyF fs t) hm8
  rw [← tn'] at q1 q2
  have e17 : 13 + b99.size = 17 := rfl
  have eb : (⟨#[32]⟩ : ByteArray) ++ b99 = ⟨#[32, 54, 52, 120, 57]⟩ := by kernel_rfl
  rw [e17, eb] at p3
  have hG17 : G.size = 17 := by
    rw [tn]
    simp only [ByteArray.size_append, hM8]
    rfl
  have c1 : ansR fs (readP (getT t)) = F := by rw [g0]; exact hF
  have c2 : ansR fs (readP (getT t ++ ⟨#[32]⟩ ++ m)) = ⟨#[51, 48, 52, 32]⟩ ++ m := by rw [gm]; exact ts'
  have c3 : ansR fs (readP (putT (f99 t))) = ⟨#[50, 48, 49]⟩ := by
    rw [gp]
    show ansF (hasF 99 fs) (some (f99 t)) = _
    rw [n1]; rfl
  have c4 : ansR (fs ++ [f99 t]) (readP (getT t)) = G := by
    rw [g0]
    show tellS ⟨#[]⟩ (bodyF (fs ++ [f99 t]) t) = _
    rw [hb, hG]
  have c5 : ansR (fs ++ [f99 t]) (readP (getT t ++ ⟨#[32]⟩ ++ m)) = tellS m b99 := by
    rw [gm]
    show tellS _ (bodyF (fs ++ [f99 t]) t) = _
    rw [hb]
  exact ⟨_, _, _, _, _, m, M, F, G, tellS m b99, fun b0 p A v => ⟨askC P h (by omega) (by omega) c1, askC P h1 (by omega) s2 c2, askC P h2 (by omega) s3 c3, askC P h3 (by omega) (by omega) c4, askC P h4 (by omega) s2 c5⟩, hm8, tl, q1, q2, hG17, p1, p2, p3, fun e => ts m e.symm, fun e => tx m (fun e' => e e'.symm)⟩
theorem w8_at {t : Tl} (h : t.good) : 32 ≤ 8 * pZ t.z ∧ 8 * pZ t.z ≤ 256 ∧ 0 ≤ t.c * (8 * pZ t.z) ∧ t.c * (8 * pZ t.z) + 8 * pZ t.z ≤ 256 ∧ 0 ≤ t.r * (8 * pZ t.z) ∧ t.r * (8 * pZ t.z) + 8 * pZ t.z ≤ 256 := by
  have hf := tile_facts h
  have hp : 4 ≤ pZ t.z ∧ pZ t.z ≤ 32 := by unfold pZ; split <;> (try split) <;> (try split) <;> omega
  obtain ⟨_, h1, _, h2, _, h3, h4⟩ := hf
  have e1 : t.c * (8 * pZ t.z) = 8 * pZ t.z * t.c := Int.mul_comm _ _
  have e2 : t.r * (8 * pZ t.z) = 8 * pZ t.z * t.r := Int.mul_comm _ _
  have b1 : 0 ≤ 8 * pZ t.z * t.c := Int.mul_nonneg (by omega) h1
  have b2 : 0 ≤ 8 * pZ t.z * t.r := Int.mul_nonneg (by omega) h2
  rw [e1, e2]
  omega
end Go.Proofs.YtenaepdmlknlcaaGreatDoor
