import Derived.Test.YtenaepdmlknlcaaGreatDoorF33
import Derived.Lib.AtoiAllCases
import Derived.Test.YtenaepdmlknlcaaGreatDoorF39
import Derived.Test.YtenaepdmlknlcaaGreatDoorF35
namespace Go.Proofs.YtenaepdmlknlcaaGreatDoor
open Go.RowKit Go.Shelf

/-! What the texts of requests are read as. -/

theorem idx_free {c : UInt8} : ∀ {l : List UInt8}, c ∉ l → Lib.index l [c] = -1
  | [], _ => by simp [Lib.index]
  | b :: l, h => by
    have hb : b ≠ c := fun e => h (by simp [e])
    have hp : ([c] : List UInt8).isPrefixOf (b :: l) = false := by simp [List.isPrefixOf, Ne.symm hb]
    rw [Lib.index, hp, idx_free (l := l) (fun e => h (by simp [e]))]
    simp
theorem idx_at {c : UInt8} : ∀ {a : List UInt8} (r : List UInt8), c ∉ a → Lib.index (a ++ c :: r) [c] = (a.length : Int)
  | [], r, _ => by rw [List.nil_append, Lib.index]; simp [List.isPrefixOf]
  | b :: a, r, h => by
    have hb : b ≠ c := fun e => h (by simp [e])
    have hp : ([c] : List UInt8).isPrefixOf (b :: (a ++ c :: r)) = false := by simp [List.isPrefixOf, Ne.symm hb]
    have hi := idx_at (c := c) (a := a) r (fun e => h (by simp [e]))
    rw [List.cons_append, Lib.index, hp, hi]
    have : ((a.length : Int) == -1) = false := by simp
    rw [this]
    simp
theorem ba_ext {a b : ByteArray} (h : a.data.toList = b.data.toList) : a = b := by
  obtain ⟨⟨a⟩⟩ := a; obtain ⟨⟨b⟩⟩ := b; simp at h; rw [h]
theorem sp_list (a r : ByteArray) (c : UInt8) : (a ++ ⟨#[c]⟩ ++ r).data.toList = a.data.toList ++ c :: r.data.toList := by
  simp
theorem words_one {a : ByteArray} (h : (32 : UInt8) ∉ a.data.toList) : wordsOf a = [a] := by
  unfold wordsOf; exact Lib.splitB_miss _ _ _ _ (idx_free h)
theorem words_cons {a r : ByteArray} (h : (32 : UInt8) ∉ a.data.toList) : wordsOf (a ++ ⟨#[32]⟩ ++ r) = a :: wordsOf r := by
  have hs : a.size = a.data.toList.length := by simp
  have hi : Lib.indexB (a ++ ⟨#[32]⟩ ++ r) ⟨#[32]⟩ = ((a.size : Nat) : Int) := by
    show Lib.index (a ++ ⟨#[32]⟩ ++ r).data.toList [32] = _
    rw [sp_list, idx_at _ h, hs]
  unfold wordsOf
  have e1 : (a ++ ⟨#[32]⟩ ++ r).extract 0 (a.size + 0) = a := by
    apply ba_ext
    rw [Lib.extract_from_zero, sp_list, hs, Nat.add_zero, List.take_left']
    rfl
  have e2 : (a ++ ⟨#[32]⟩ ++ r).extract (a.size + 1) (a ++ ⟨#[32]⟩ ++ r).size = r := by
    apply ba_ext
    rw [Lib.extract_to_end, sp_list, hs, show a.data.toList ++ 32 :: r.data.toList = (a.data.toList ++ [32]) ++ r.data.toList by simp, List.drop_left']
    simp
  rw [Lib.countB_hit _ _ a.size (by decide) hi, Nat.add_comm 1, Lib.splitB_hit _ _ _ _ a.size hi, e1, show (⟨#[32]⟩ : ByteArray).size = 1 from rfl, e2]
/-- Words, with a blank between two. -/
def joinW : List ByteArray → ByteArray
  | [] => ⟨#[]⟩
  | [x] => x
  | x :: y :: l => x ++ ⟨#[32]⟩ ++ joinW (y :: l)
theorem words_join : ∀ {l : List ByteArray}, l ≠ [] → (∀ x ∈ l, (32 : UInt8) ∉ x.data.toList) → wordsOf (joinW l) = l
  | [], h, _ => absurd rfl h
  | [x], _, h => words_one (h x (by simp))
  | x :: y :: l, _, h => by
    rw [joinW, words_cons (h x (by simp)), words_join (l := y :: l) (by simp) (fun z hz => h z (by simp [hz]))]
theorem join_snoc : ∀ {l : List ByteArray} (x : ByteArray), l ≠ [] → joinW (l ++ [x]) = joinW l ++ ⟨#[32]⟩ ++ x
  | [], _, h => absurd rfl h
  | [y], x, _ => rfl
  | y :: z :: l, x, _ => by
    have := join_snoc (l := z :: l) x (by simp)
    simp only [List.cons_append] at this ⊢
    rw [joinW, this, joinW]
    simp only [ByteArray.append_assoc]

/-! Numbers. -/
theorem dig_val {u : Nat} (h : u < 10) : (UInt8.ofNat (48 + u)).toNat = 48 + u := by
  rw [UInt8.toNat_ofNat']; omega
theorem pu_snoc : ∀ {l : List UInt8} {acc v : Nat} {d : Nat}, Lib.parseUint10 acc l = .ok v → d < 10 → v * 10 + d < 9223372036854775808 → Lib.parseUint10 acc (l ++ [UInt8.ofNat (48 + d)]) = .ok (v * 10 + d)
  | [], acc, v, d, h, hd, hv => by
    simp only [Lib.parseUint10] at h
    injection h with h
    subst h
    have e := dig_val hd
    rw [List.nil_append, Lib.parseUint10, e, if_pos (by omega), if_neg (by omega), if_neg (by omega), Lib.parseUint10]
    congr 1
    omega
  | c :: r, acc, v, d, h, hd, hv => by
    rw [List.cons_append]
    rw [Lib.parseUint10] at h ⊢
    split at h
    · rename_i h1
      rw [if_pos h1]
      split at h
      · cases h
      · rename_i h2
        rw [if_neg h2]
        split at h
        · cases h
        · rename_i h3
          rw [if_neg h3]
          exact pu_snoc h hd hv
    · cases h
theorem dec_parse : ∀ (k u : Nat), u < 10 ^ k → u < 900000000000000000 → Lib.parseUint10 0 (Lib.decDigits u) = .ok u
  | 0, u, h, _ => by
    have : u = 0 := by simpa using h
    subst this
    rw [Lib.decDigits_one (by omega)]
    have := pu_snoc (l := []) (acc := 0) (v := 0) (d := 0) rfl (by omega) (by omega)
    simpa using this
  | k + 1, u, h, hu => by
    by_cases h10 : u < 10
    · rw [Lib.decDigits_one h10]
      have := pu_snoc (l := []) (acc := 0) (v := 0) (d := u) rfl h10 (by omega)
      simpa using this
    · have ih := dec_parse k (u / 10) (by rw [Nat.pow_succ] at h; omega) (by omega)
      rw [Lib.decDigits, dif_neg h10]
      have := pu_snoc ih (d := u % 10) (by omega) (by omega)
      rw [this]
      congr 1
      omega
theorem dec_ne (u : Nat) : Lib.decDigits u ≠ [] := by
  rw [Lib.decDigits]; split <;> simp
theorem dec_dig : ∀ (k u : Nat), u ≤ k → ∀ c ∈ Lib.decDigits u, 48 ≤ c.toNat ∧ c.toNat ≤ 57
  | k, u, hk, c, hc => by
    by_cases h10 : u < 10
    · rw [Lib.decDigits_one h10] at hc
      rw [List.mem_singleton.1 hc, dig_val h10]; omega
    · rw [Lib.decDigits, dif_neg h10] at hc
      match k, hk with
      | 0, hk => omega
      | k + 1, hk =>
        rcases List.mem_append.1 hc with hc | hc
        · exact dec_dig k (u / 10) (by omega) c hc
        · rw [List.mem_singleton.1 hc, dig_val (by omega)]; omega
theorem atoi_itoa {n : Int} (h0 : -9 ≤ n) (h1 : n ≤ 1000) : Lib.atoiAll (Lib.itoa n) = .ok n := by
  unfold Lib.itoa
  split
  · rename_i hn
    rw [Lib.atoiAll_minus, Lib.parseMag, if_neg (dec_ne _), dec_parse 18 n.natAbs (by omega) (by omega)]
    simp only [Lib.signed]
    rw [if_neg (by omega)]
    congr 1
    omega
  · rename_i hn
    obtain ⟨c, r, e⟩ : ∃ c r, Lib.decDigits n.toNat = c :: r := by
      cases hd : Lib.decDigits n.toNat with
      | nil => exact absurd hd (dec_ne _)
      | cons c r => exact ⟨c, r, rfl⟩
    have hc := dec_dig _ n.toNat (Nat.le_refl _) c (by rw [e]; simp)
    rw [e, Lib.atoiAll_plain c r (by omega) (by omega), ← e, Lib.parseMag, if_neg (dec_ne _), dec_parse 18 n.toNat (by omega) (by omega)]
    simp only [Lib.signless]
    rw [if_neg (by omega)]
    congr 1
    omega
theorem decZ_list (n : Int) : (decZ n).data.toList = Lib.itoa n := rfl
theorem numV_dec {n : Int} (h0 : -9 ≤ n) (h1 : n ≤ 1000) : numV (decZ n) = n := by
  unfold numV; rw [decZ_list, atoi_itoa h0 h1]
theorem numOk_dec {n : Int} (h0 : -9 ≤ n) (h1 : n ≤ 1000) : numOk (decZ n) = true := by
  unfold numOk; rw [decZ_list, atoi_itoa h0 h1]; exact decide_eq_true rfl
theorem dec_free {n : Int} {c : UInt8} (hc : c = 32 ∨ c = 44) : c ∉ (decZ n).data.toList := by
  intro h
  rw [decZ_list] at h
  have hd : c.toNat = 32 ∨ c.toNat = 44 := by rcases hc with rfl | rfl <;> simp
  unfold Lib.itoa at h
  split at h
  · rcases List.mem_cons.1 h with rfl | h
    · revert hd; decide
    · have := dec_dig _ _ (Nat.le_refl _) c h; omega
  · have := dec_dig _ _ (Nat.le_refl _) c h; omega

/-- A place, as a word. -/
def ptT (p : Int × Int) : ByteArray := decZ p.1 ++ ⟨#[44]⟩ ++ decZ p.2
theorem pt_free (p : Int × Int) : (32 : UInt8) ∉ (ptT p).data.toList := by
  unfold ptT
  rw [sp_list]
  intro h
  rcases List.mem_append.1 h with h | h
  · exact dec_free (.inl rfl) h
  · rcases List.mem_cons.1 h with h | h
    · revert h; decide
    · exact dec_free (.inl rfl) h
theorem pt_cut (p : Int × Int) : cutX (ptT p) = decZ p.1 ∧ cutY (ptT p) = decZ p.2 := by
  have hi : Lib.index (ptT p).data.toList [44] = ((decZ p.1).data.toList.length : Int) := by
    unfold ptT; rw [sp_list, idx_at _ (dec_free (.inr rfl))]
  have e : Lib.cut (ptT p).data.toList [44] = ((decZ p.1).data.toList, (decZ p.2).data.toList, true) := by
    unfold Lib.cut
    rw [hi, if_pos (by omega)]
    unfold ptT
    rw [sp_list]
    have a1 : ((decZ p.1).data.toList ++ 44 :: (decZ p.2).data.toList).take (((decZ p.1).data.toList.length : Int)).toNat = (decZ p.1).data.toList := by
      rw [Int.toNat_natCast, List.take_left']; rfl
    have a2 : ((decZ p.1).data.toList ++ 44 :: (decZ p.2).data.toList).drop ((((decZ p.1).data.toList.length : Int)).toNat + [(44 : UInt8)].length) = (decZ p.2).data.toList := by
      rw [Int.toNat_natCast, show (decZ p.1).data.toList ++ 44 :: (decZ p.2).data.toList = ((decZ p.1).data.toList ++ [44]) ++ (decZ p.2).data.toList by simp, List.drop_left']
      simp
    rw [a1, a2]
  unfold cutX cutY
  rw [e]
  exact ⟨rfl, rfl⟩
theorem pt_read {p : Int × Int} (h : inW p = true) : ptOf (ptT p) = p ∧ ptOk (ptT p) = true := by
  obtain ⟨e1, e2⟩ := pt_cut p
  simp only [inW, inB, Bool.and_eq_true, decide_eq_true_eq] at h
  unfold ptOf ptOk
  rw [e1, e2, numV_dec (by omega) (by omega), numV_dec (by omega) (by omega), numOk_dec (by omega) (by omega), numOk_dec (by omega) (by omega)]
  exact ⟨rfl, rfl⟩
theorem kindB_read {k : Int} (h : k = 1 ∨ k = 2 ∨ k = 3) : kindV (kindB k) = k ∧ (32 : UInt8) ∉ (kindB k).data.toList := by
  rcases h with rfl | rfl | rfl
  · exact ⟨by decide +kernel, by decide +kernel⟩
  · exact ⟨by decide +kernel, by decide +kernel⟩
  · exact ⟨by decide +kernel, by decide +kernel⟩

def wPut : ByteArray := ⟨#[112, 117, 116]⟩
def wDel : ByteArray := ⟨#[100, 101, 108]⟩
def wGet : ByteArray := ⟨#[103, 101, 116]⟩
theorem put_join (f : Feat) : putT f = joinW ([wPut, decZ f.id, kindB f.kd, decZ f.ht, decZ f.col] ++ f.ps.map ptT) := by
  have hh : headT f = joinW [wPut, decZ f.id, kindB f.kd, decZ f.ht, decZ f.col] := by
    unfold headT
    simp only [joinW]
    rw [show (⟨#[112, 117, 116, 32]⟩ : ByteArray) = wPut ++ ⟨#[32]⟩ from rfl]
    simp only [ByteArray.append_assoc]
  have hg : ∀ (ps : Pts) (l : List ByteArray), l ≠ [] → ps.foldl stepT (joinW l) = joinW (l ++ ps.map ptT) := by
    intro ps
    induction ps with
    | nil => intro l _; simp
    | cons p ps ih =>
      intro l hl
      have : stepT (joinW l) p = joinW (l ++ [ptT p]) := by
        rw [join_snoc _ hl]; unfold stepT ptT; simp only [ByteArray.append_assoc]
      rw [List.foldl_cons, this, ih _ (by simp)]
      simp
  unfold putT
  rw [hh, hg _ _ (by simp)]
theorem readP_put {f : Feat} (h : validF f = true) : readP (putT f) = .put f := by
  have hv := h
  unfold validF at h
  simp only [Bool.and_eq_true, inB, decide_eq_true_eq, mayB] at h
  obtain ⟨⟨⟨⟨h1, h2⟩, h3⟩, h4⟩, h5⟩ := h
  have hk : f.kd = 1 ∨ f.kd = 2 ∨ f.kd = 3 := by omega
  obtain ⟨k1, k2⟩ := kindB_read hk
  have hw : wordsOf (putT f) = wPut :: decZ f.id :: kindB f.kd :: decZ f.ht :: decZ f.col :: f.ps.map ptT := by
    rw [put_join, words_join (by simp)]
    · rfl
    · intro x hx
      simp only [List.cons_append, List.nil_append, List.mem_cons, List.mem_map] at hx
      rcases hx with rfl | rfl | rfl | rfl | rfl | ⟨p, _, rfl⟩
      · decide +kernel
      · exact dec_free (.inl rfl)
      · exact k2
      · exact dec_free (.inl rfl)
      · exact dec_free (.inl rfl)
      · exact pt_free p
  have hm : (f.ps.map ptT).map ptOf = f.ps := by
    rw [List.map_map]
    conv => rhs; rw [← List.map_id f.ps]
    exact List.map_congr_left fun p hp => (pt_read (List.all_eq_true.1 h5 p hp)).1
  have ha : (f.ps.map ptT).all ptOk = true := by
    rw [List.all_eq_true]
    intro x hx
    obtain ⟨p, hp, rfl⟩ := List.mem_map.1 hx
    exact (pt_read (List.all_eq_true.1 h5 p hp)).2
  have hn : ∀ {n : Int}, -9 ≤ n → n ≤ 1000 → ∀ l, (⟨decZ n :: l, false⟩ : Wd).number = (n, ⟨l, false⟩) := by
    intro n a b l
    simp only [Wd.number, Wd.next, Wd.check, numV_dec a b, numOk_dec a b]
    rfl
  have hkd : ∀ l, (⟨kindB f.kd :: l, false⟩ : Wd).kind = (f.kd, ⟨l, false⟩) := by
    intro l
    simp only [Wd.kind, Wd.next, k1]
    rw [if_neg (by omega)]
  have ht : putOf ⟨decZ f.id :: kindB f.kd :: decZ f.ht :: decZ f.col :: f.ps.map ptT, false⟩ = f ∧ (Wd.four ⟨decZ f.id :: kindB f.kd :: decZ f.ht :: decZ f.col :: f.ps.map ptT, false⟩) = ⟨f.ps.map ptT, false⟩ := by
    unfold putOf Wd.four
    simp only [hn (n := f.id) (by omega) (by omega), hkd, hn (n := f.ht) (by omega) (by omega), hn (n := f.col) (by omega) (by omega), hm, and_self]
  have hpw : putWrong ⟨decZ f.id :: kindB f.kd :: decZ f.ht :: decZ f.col :: f.ps.map ptT, false⟩ = false := by
    unfold putWrong
    rw [ht.2, ht.1, hv, ha]
    rfl
  unfold readP readW
  rw [hw]
  refine Eq.trans (if_neg ?_) (Eq.trans (if_pos ?_) (Eq.trans (if_neg ?_) ?_))
  · show ¬ isGet wPut = true
    decide +kernel
  · show isPut wPut = true
    decide +kernel
  · show ¬ putWrong ⟨decZ f.id :: kindB f.kd :: decZ f.ht :: decZ f.col :: f.ps.map ptT, false⟩ = true
    rw [hpw]; simp
  · show Rd.put (putOf ⟨decZ f.id :: kindB f.kd :: decZ f.ht :: decZ f.col :: f.ps.map ptT, false⟩) = _
    rw [ht.1]
theorem readP_del {i : Int} (h0 : 1 ≤ i) (h1 : i ≤ 99) : readP (delT i) = .del i := by
  have hw : wordsOf (delT i) = [wDel, decZ i] := by
    have : delT i = joinW [wDel, decZ i] := by
      unfold delT
      simp only [joinW]
      rfl
    rw [this, words_join (by simp)]
    intro x hx
    simp only [List.mem_cons, List.not_mem_nil, or_false] at hx
    rcases hx with rfl | rfl
    · decide +kernel
    · exact dec_free (.inl rfl)
  have hi : (⟨[decZ i], false⟩ : Wd).id = (i, ⟨[], false⟩) := by
    have e1 : inB i 1 99 = true := by simp only [inB, decide_eq_true_eq]; omega
    simp only [Wd.id, Wd.number, Wd.next, Wd.check, numV_dec (n := i) (by omega) (by omega), numOk_dec (n := i) (by omega) (by omega), e1]
    rfl
  unfold readP readW
  rw [hw]
  refine Eq.trans (if_neg ?_) (Eq.trans (if_neg ?_) (Eq.trans (if_pos ?_) (Eq.trans (if_neg ?_) ?_)))
  · show ¬ isGet wDel = true
    decide +kernel
  · show ¬ isPut wDel = true
    decide +kernel
  · show isDel wDel = true
    decide +kernel
  · show ¬ ((⟨[decZ i], false⟩ : Wd).id.2.wrong = true ∨ (⟨[decZ i], false⟩ : Wd).id.2.left ≠ [])
    rw [hi]; simp
  · show Rd.del (⟨[decZ i], false⟩ : Wd).id.1 = _
    rw [hi]
/-- A get that tells a mark, or none. -/
def getW (t : Tl) (ms : List ByteArray) : ByteArray := joinW ([wGet, decZ t.z, decZ t.c, decZ t.r] ++ ms)
theorem get_join (t : Tl) : getT t = getW t [] := by
  unfold getT getW
  simp only [List.append_nil, joinW]
  rw [show (⟨#[103, 101, 116, 32]⟩ : ByteArray) = wGet ++ ⟨#[32]⟩ from rfl]
  simp only [ByteArray.append_assoc]
theorem tile_words {t : Tl} (h : t.good) (l : List ByteArray) : (⟨decZ t.z :: decZ t.c :: decZ t.r :: l, false⟩ : Wd).tile = (t, ⟨l, false⟩) := by
  have hg := h
  unfold Tl.good tileB manyZ at h
  rw [decide_eq_true_eq] at h
  have hn : ∀ {n : Int}, -9 ≤ n → n ≤ 1000 → ∀ l, (⟨decZ n :: l, false⟩ : Wd).number = (n, ⟨l, false⟩) := by
    intro n a b l
    simp only [Wd.number, Wd.next, Wd.check, numV_dec a b, numOk_dec a b]
    rfl
  have b1 : t.c < 9 ∧ t.r < 9 := by
    obtain ⟨_, _, _, h4, _, h6⟩ := h
    revert h4 h6
    split
    · omega
    · split
      · omega
      · split <;> omega
  have hg' : tileB t.z t.c t.r = true := hg
  unfold Wd.tile
  simp only [hn (n := t.z) (by omega) (by omega), hn (n := t.c) (by omega) (by omega), hn (n := t.r) (by omega) (by omega), Wd.check, hg']
  rfl
theorem readP_getW {t : Tl} (h : t.good) {ms : List ByteArray} (hm : ms = [] ∨ ∃ m : ByteArray, ms = [m] ∧ m.size = 8 ∧ (32 : UInt8) ∉ m.data.toList) : readP (getW t ms) = .get t (ms.headD ⟨#[]⟩) := by
  have hw : wordsOf (getW t ms) = wGet :: decZ t.z :: decZ t.c :: decZ t.r :: ms := by
    unfold getW
    rw [words_join (by simp)]
    · rfl
    · intro x hx
      simp only [List.cons_append, List.nil_append, List.mem_cons] at hx
      rcases hx with rfl | rfl | rfl | rfl | hx
      · decide +kernel
      · exact dec_free (.inl rfl)
      · exact dec_free (.inl rfl)
      · exact dec_free (.inl rfl)
      · rcases hm with rfl | ⟨m, rfl, _, hf⟩
        · cases hx
        · rw [List.mem_singleton.1 hx]; exact hf
  have hr : ∀ l : List ByteArray, readW ⟨wGet :: decZ t.z :: decZ t.c :: decZ t.r :: l, false⟩ = if (⟨l, false⟩ : Wd).mark.2.wrong = true ∨ (⟨l, false⟩ : Wd).mark.2.left ≠ [] then .bad else .get t (⟨l, false⟩ : Wd).mark.1 := by
    intro l
    unfold readW
    refine Eq.trans (if_pos ?_) ?_
    · show isGet wGet = true
      decide +kernel
    · show (if (⟨decZ t.z :: decZ t.c :: decZ t.r :: l, false⟩ : Wd).tile.2.mark.2.wrong = true ∨ (⟨decZ t.z :: decZ t.c :: decZ t.r :: l, false⟩ : Wd).tile.2.mark.2.left ≠ [] then Rd.bad else Rd.get (⟨decZ t.z :: decZ t.c :: decZ t.r :: l, false⟩ : Wd).tile.1 (⟨decZ t.z :: decZ t.c :: decZ t.r :: l, false⟩ : Wd).tile.2.mark.1) = _
      rw [tile_words h]
  unfold readP
  rw [hw, hr]
  rcases hm with rfl | ⟨m, rfl, h8, _⟩
  · simp [Wd.mark]
  · simp [Wd.mark, Wd.check, h8]
/-- What a request in raw numbers asks for. -/
def askZ (q : Rq) : Rd := if kindZ q = 0 then .put (featZ q) else if kindZ q = 1 then .del (1 + pkZ q.a 6) else .get (tileZ q) ⟨#[]⟩
theorem readP_text (q : Rq) : readP (textT q) = askZ q := by
  unfold textT askZ
  split
  · exact readP_put (featZ_valid q)
  · split
    · have := pkZ_bd q.a 6 (by decide)
      exact readP_del (by omega) (by omega)
    · rw [get_join]
      exact readP_getW (tileZ_good q) (.inl rfl)

end Go.Proofs.YtenaepdmlknlcaaGreatDoor

namespace Go.Proofs.YtenaepdmlknlcaaGreatDoor
open Go.RowKit Go.Shelf

/-! A request that is done while nothing else is. -/
/-- What a request is answered, if it is done all at once, and what it does. -/
def ansR (fs : List Feat) : Rd → ByteArray
  | .bad => s400
  | .get t m => tellS m (bodyF fs t)
  | .put f => ansF (hasF f.id fs) (some f)
  | .del id => ansF (hasF id fs) none
def fsR (fs : List Feat) : Rd → List Feat
  | .bad => fs
  | .get _ _ => fs
  | .put f => newFs fs f.id (some f)
  | .del id => newFs fs id none
/-- Steps that go on, and the last one that answers. -/
inductive Runs : Gr → Stp → Nat → ByteArray → Gr → Prop
  | ans {g g' : Gr} {st : Stp} {x : ByteArray} : stepM g st = (.answer x, g') → Runs g st 1 x g'
  | next {g g' g'' : Gr} {st st' : Stp} {k : Nat} {x : ByteArray} : stepM g st = (.next st', g') → Runs g' st' k x g'' → Runs g st (k + 1) x g''
theorem runs_change {g : Gr} (hl : g.lk = false) (id : Int) (p : Option Feat) : ∃ g', Runs g (.lock id p) 6 (ansF (hasF id g.fs) p) g' ∧ g'.fs = newFs g.fs id p ∧ g'.lk = false := by
  refine ⟨_, .next (stepM_lock1 hl) (.next (by rfl) (.next (by rfl) (.next (by rfl) (.next (by rfl) (.ans (by rfl)))))), rfl, rfl⟩
theorem runs_ask {g : Gr} (hk : KeptOk g) (hl : g.lk = false) (r : Rd) : ∃ j g', 1 ≤ j ∧ j ≤ 6 ∧ Runs g (firstS r) j (ansR g.fs r) g' ∧ g'.fs = fsR g.fs r ∧ g'.lk = false := by
  cases r with
  | bad => exact ⟨1, g, by omega, by omega, .ans rfl, rfl, hl⟩
  | get t m =>
    cases e : useK t (g.S.ks (shN t)) with
    | none => exact ⟨3, _, by omega, by omega, .next (stepM_look0 e) (.next (stepM_note1 hl) (.ans rfl)), by show (if _ then _ else _ : Gr).fs = _; split <;> rfl, by show (if _ then _ else _ : Gr).lk = _; split <;> exact hl⟩
    | some x =>
      obtain ⟨b, ks⟩ := x
      obtain ⟨_, _, u3⟩ := use_uniq (hk.u _ (shN_lt t)) e
      have hb : b = bodyF g.fs t := hk.b _ _ (shN_lt t) u3
      refine ⟨1, { g with S := g.S.setK (shN t) ks }, by omega, by omega, .ans ?_, rfl, hl⟩
      rw [show firstS (.get t m) = .look t m from rfl, stepM_look1 e, hb]; rfl
  | put f =>
    obtain ⟨g', h1, h2, h3⟩ := runs_change hl f.id (some f)
    exact ⟨6, g', by omega, by omega, h1, h2, h3⟩
  | del id =>
    obtain ⟨g', h1, h2, h3⟩ := runs_change hl id none
    exact ⟨6, g', by omega, by omega, h1, h2, h3⟩

theorem set_twice (a : Atl) (g g' : Gr) (n : Nat) (s s' : Ses) : (a.set g n s).set g' n s' = a.set g' n s' := by
  unfold Atl.set
  congr 1
  funext k
  by_cases e : k = n
  · simp [e]
  · simp [e]
theorem set_at (a : Atl) (g : Gr) (n : Nat) (s : Ses) : (a.set g n s).ss n = s := by rw [set_ss, if_pos rfl]
theorem pick_some_nx (a : Atl) (g : Gr) (n : Nat) (q : List ByteArray) (st : Stp) (an : List ByteArray) : pickM (a.set g n ⟨q, some st, an⟩) n = match stepM g st with
    | (.blocked, _) => (false, a.set g n ⟨q, some st, an⟩)
    | (.next st', g') => (true, a.set g' n ⟨q, some st', an⟩)
    | (.answer x, g') => (true, a.set g' n ⟨q, none, an ++ [x]⟩) := by
  unfold pickM
  rw [set_at]
  dsimp only
  unfold doM
  rw [set_g]
  split <;> (rename_i e; simp only [e, set_twice])
theorem pick_first (a : Atl) (g : Gr) (n : Nat) (x : ByteArray) (q : List ByteArray) (an : List ByteArray) : pickM (a.set g n ⟨x :: q, none, an⟩) n = pickM (a.set g n ⟨q, some (firstS (readP x)), an⟩) n := by
  rw [pick_some_nx]
  unfold pickM
  rw [set_at]
  dsimp only
  unfold doM
  rw [set_g]
  split <;> (rename_i e; simp only [e, set_twice])
theorem pick_none_nx (a : Atl) (g : Gr) (n : Nat) (an : List ByteArray) : pickM (a.set g n ⟨[], none, an⟩) n = (false, a.set g n ⟨[], none, an⟩) := by
  unfold pickM
  rw [set_at]
theorem tell_set (a : Atl) (g : Gr) (n : Nat) (s : Ses) : tellM (a.set g n s) n = a.set g n { s with an := [] } := by
  unfold tellM; rw [set_at, set_g, set_twice]
/-- Nothing is asked for, nothing is told. -/
structure Quiet (a : Atl) : Prop where
  lk : a.g.lk = false
  ss : ∀ n, n < 4 → a.ss n = ⟨[], none, []⟩
theorem ses_idle {s : Ses} (h : waitS s = 0) (ha : s.an = []) : s = ⟨[], none, []⟩ := by
  obtain ⟨q, nx, an⟩ := s
  rw [waitS_eq] at h
  dsimp only at h ha
  have h1 : q = [] := List.eq_nil_of_length_eq_zero (by omega)
  have h2 : nx = none := by cases nx with | none => rfl | some x => simp [busyS] at h
  rw [h1, h2, ha]
theorem quiet_of {a : Atl} (h : FairOk a) (hw : ∀ n, n < 4 → waitS (a.ss n) = 0) : Quiet a := by
  refine ⟨wait_free h.lock (by unfold waitM sum4; dsimp only; rw [hw 0 (by omega), hw 1 (by omega), hw 2 (by omega), hw 3 (by omega)]), fun n hn => ses_idle (hw n hn) (h.an n hn)⟩

/-! The same, of a play. -/
def picksP (P : Pl) (n : Nat) : Nat → Pl
  | 0 => P
  | k + 1 => picksP (pickP P n) n k
theorem picksP_add (n : Nat) : ∀ (j k : Nat) (P : Pl), picksP P n (j + k) = picksP (picksP P n j) n k
  | 0, k, P => by rw [Nat.zero_add]; rfl
  | j + 1, k, P => by rw [show j + 1 + k = (j + k) + 1 by omega]; exact picksP_add n j k (pickP P n)
theorem updD_last {did : Bool} {t : Int} {an : Option ByteArray} {l : List Dn} {d : Dn} (hl : ∀ x ∈ l, 0 < x.un) (_hd : d.un = 0) : updD did t an (l ++ [d]) = l ++ [updD did t an [d]].flatten := by
  induction l with
  | nil => simp
  | cons x r ih =>
    rw [List.cons_append, updD_cons, if_pos (hl x (by simp)), ih fun y hy => hl y (by simp [hy])]
    rfl
theorem updD_done {did : Bool} {t : Int} {an : Option ByteArray} : ∀ {l : List Dn}, (∀ x ∈ l, 0 < x.un) → updD did t an l = l
  | [], _ => rfl
  | x :: r, h => by rw [updD_cons, if_pos (h x (by simp)), updD_done fun y hy => h y (by simp [hy])]
/-- What a play has come to, while a request of session n is done. -/
structure Doing (a : Atl) (A : Nat → List Dn) (n : Nat) (l : List Dn) (q : Rq) (P : Pl) (g : Gr) (s : Ses) (d : Dn) : Prop where
  at_ : P.a = a.set g n s
  all : P.all n = l ++ [d]
  oth : ∀ k, k ≠ n → P.all k = A k
  t : 0 ≤ P.time
  q : d.q = q
theorem doing_run {a : Atl} {A : Nat → List Dn} {n : Nat} {l : List Dn} {q : Rq} (hl : ∀ x ∈ l, 0 < x.un) {g g' : Gr} {st : Stp} {j : Nat} {x : ByteArray} (hr : Runs g st j x g') : ∀ {P : Pl} {d : Dn} {s : Ses}, Doing a A n l q P g s d → (s = ⟨[], some st, []⟩ ∨ ∃ y, s = ⟨[y], none, []⟩ ∧ firstS (readP y) = st) → d.un = 0 → ∃ d', Doing a A n l q (picksP P n j) g' ⟨[], none, []⟩ d' ∧ 0 < d'.un ∧ d'.an = x := by
  induction hr with
  | @ans g g' st x e =>
    intro P d s h hs hd
    have hp : pickM P.a n = (true, a.set g' n ⟨[], none, [x]⟩) := by
      rw [h.at_]
      rcases hs with rfl | ⟨y, rfl, rfl⟩
      · rw [pick_some_nx, e]; rfl
      · rw [pick_first, pick_some_nx, e]; rfl
    have ht := h.t
    refine ⟨updOne true (P.time + 1) (some x) d, ⟨?_, ?_, fun k hk => ?_, ?_, h.q⟩, ?_, rfl⟩
    · show turnM P.a n = _
      unfold turnM; rw [hp, tell_set]
    · show (if n = n then updD (pickM P.a n).1 (P.time + 1) ((pickM P.a n).2.ss n).an.head? (P.all n) else P.all n) = _
      rw [if_pos rfl, hp, h.all, set_at, updD_last hl hd]
      rw [updD_cons, if_neg (by omega)]
      rfl
    · show (if k = n then _ else P.all k) = _
      rw [if_neg hk]; exact h.oth k hk
    · show 0 ≤ P.time + 1; omega
    · show 0 < P.time + 1; omega
  | @next g g' g'' st st' k x e hr ih =>
    intro P d s h hs hd
    have hp : pickM P.a n = (true, a.set g' n ⟨[], some st', []⟩) := by
      rw [h.at_]
      rcases hs with rfl | ⟨y, rfl, rfl⟩
      · rw [pick_some_nx, e]
      · rw [pick_first, pick_some_nx, e]
    have ht := h.t
    refine ih (P := pickP P n) (d := updOne true (P.time + 1) none d) (s := ⟨[], some st', []⟩) ⟨?_, ?_, fun k hk => ?_, ?_, h.q⟩ (.inl rfl) hd
    · show turnM P.a n = _
      unfold turnM; rw [hp, tell_set]
    · show (if n = n then updD (pickM P.a n).1 (P.time + 1) ((pickM P.a n).2.ss n).an.head? (P.all n) else P.all n) = _
      rw [if_pos rfl, hp, h.all, set_at, updD_last hl hd]
      rw [updD_cons, if_neg (by omega)]
      rfl
    · show (if k = n then _ else P.all k) = _
      rw [if_neg hk]; exact h.oth k hk
    · show 0 ≤ P.time + 1; omega
theorem doing_idle {a : Atl} {A : Nat → List Dn} {n : Nat} {l : List Dn} {q : Rq} (hl : ∀ x ∈ l, 0 < x.un) {g : Gr} : ∀ (k : Nat) {P : Pl} {d : Dn}, Doing a A n l q P g ⟨[], none, []⟩ d → 0 < d.un → Doing a A n l q (picksP P n k) g ⟨[], none, []⟩ d
  | 0, P, d, h, _ => h
  | k + 1, P, d, h, hd => by
    have hp : pickM P.a n = (false, a.set g n ⟨[], none, []⟩) := by rw [h.at_, pick_none_nx]
    have ht := h.t
    refine doing_idle hl k (P := pickP P n) ⟨?_, ?_, fun k hk => ?_, ?_, h.q⟩ hd
    · show turnM P.a n = _
      unfold turnM; rw [hp, tell_set]
    · show (if n = n then updD (pickM P.a n).1 (P.time + 1) ((pickM P.a n).2.ss n).an.head? (P.all n) else P.all n) = _
      rw [if_pos rfl, h.all, updD_done]
      intro x hx
      rcases List.mem_append.1 hx with hx | hx
      · exact hl x hx
      · rw [List.mem_singleton.1 hx]; exact hd
    · show (if k = n then _ else P.all k) = _
      rw [if_neg hk]; exact h.oth k hk
    · show 0 ≤ P.time + 1; omega
theorem open_done {P : Pl} (h : PlOk P) {n : Nat} (hn : n < 4) (hw : waitS (P.a.ss n) = 0) : ∀ x ∈ P.all n, 0 < x.un := by
  intro x hx
  have h0 := h.un n hn x hx
  have hc := h.cnt n hn
  rw [hw] at hc
  unfold openN at hc
  rw [List.countP_eq_zero] at hc
  have := hc x hx
  simp at this
  omega
/-- A request of session n is sent and done. -/
theorem ask_play {P : Pl} (h : PlOk P) (hk : KeptOk P.a.g) (hw : ∀ n, n < 4 → waitS (P.a.ss n) = 0) {n : Nat} (hn : n < 4) (d : Dn) (hd : d.un = 0) :
    ∃ d', (picksP (sendP P n d) n 6).all n = P.all n ++ [d'] ∧ d'.an = ansR P.a.g.fs (readP (textT d.q)) ∧ 0 < d'.un ∧ d'.q = d.q ∧ (∀ k, k ≠ n → (picksP (sendP P n d) n 6).all k = P.all k) ∧ (picksP (sendP P n d) n 6).a.g.fs = fsR P.a.g.fs (readP (textT d.q)) ∧ Quiet (picksP (sendP P n d) n 6).a := by
  have hq := quiet_of h.a hw
  have hl := open_done h hn (hw n hn)
  obtain ⟨j, g', j1, j6, hr, hf, hlk⟩ := runs_ask hk hq.lk (readP (textT d.q))
  have hs : sendP P n d = { P with a := P.a.set P.a.g n ⟨[textT d.q], none, []⟩, all := fun k => if k = n then P.all n ++ [d] else P.all k } := by
    unfold sendP
    rw [if_neg (by rw [h.cnt n hn, hw n hn]; omega)]
    unfold sendM
    rw [hq.ss n hn]
    rfl
  have h0 : Doing P.a P.all n (P.all n) d.q (sendP P n d) P.a.g ⟨[textT d.q], none, []⟩ d := by
    rw [hs]
    exact ⟨rfl, if_pos rfl, fun k hk => if_neg hk, h.t, rfl⟩
  obtain ⟨d', h1, h2, h3⟩ := doing_run hl hr h0 (.inr ⟨_, rfl, rfl⟩) hd
  have h4 := doing_idle hl (6 - j) h1 h2
  rw [← picksP_add, show j + (6 - j) = 6 by omega] at h4
  refine ⟨d', h4.all, h3, h2, h4.q, h4.oth, by rw [h4.at_, set_g]; exact hf, ?_⟩
  rw [h4.at_]
  refine ⟨hlk, fun m hm => ?_⟩
  rw [set_ss]
  split
  · rfl
  · exact hq.ss m hm

end Go.Proofs.YtenaepdmlknlcaaGreatDoor
