import Derived.Test.YtenaepdmlknlcaaGreatDoorE33
import Derived.Lib.AtoiAllCases
import Derived.Test.YtenaepdmlknlcaaGreatDoorE39
import Derived.Test.YtenaepdmlknlcaaGreatDoorE35
namespace Go.Proofs.YtenaepdmlknlcaaGreatDoor
open Go.RowKit Go.Shelf

/-! What the texts of requests are read as. -/

theorem idx_free {c : UInt8} : ∀ {l : List UInt8}, c ∉ l → Lib.index l [c] = -1
  | [], _ => by simp [Lib.index]
  | b :: l, h => by
    have hb : b ≠ c := fun e => h (by simp [e])
    have hp : ([c] : List UInt8).isPrefixOf (b :: l) = false := by simp [List.isPrefixOf, Ne.symm hb]
    rw [Lib.index, hp, idx_free (l := l) (fun e => h (by simp [e]))]
    simp
theorem idx_at {c : UInt8} : ∀ {a : List UInt8} (r : List UInt8), c ∉ a → Lib.index (a ++ c :: r) [c] = (a.length : Int)
  | [], r, _ => by rw [List.nil_append, Lib.index]; simp [List.isPrefixOf]
  | b :: a, r, h => by
    have hb : b ≠ c := fun e => h (by simp [e])
    have hp : ([c] : List UInt8).isPrefixOf (b :: (a ++ c :: r)) = false := by simp [List.isPrefixOf, Ne.symm hb]
    have hi := idx_at (c := c) (a := a) r (fun e => h (by simp [e]))
    rw [List.cons_append, Lib.index, hp, hi]
    have : ((a.length : Int) == -1) = false := by simp
    rw [this]
    simp
theorem ba_ext {a b : ByteArray} (h : a.data.toList = b.data.toList) : a = b := by
  obtain ⟨⟨a⟩⟩ := a; obtain ⟨⟨b⟩⟩ := b; simp at h; rw [h]
theorem sp_list (a r : ByteArray) (c : UInt8) : (a ++ ⟨#[c]⟩ ++ r).data.toList = a.data.toList ++ c :: r.data.toList := by
  simp
theorem words_one {a : ByteArray} (h : (32 : UInt8) ∉ a.data.toList) : wordsOf a = [a] := by
  unfold wordsOf; exact Lib.splitB_miss _ _ _ _ (idx_free h)
theorem words_cons {a r : ByteArray} (h : (32 : UInt8) ∉ a.data.toList) : wordsOf (a ++ ⟨#[32]⟩ ++ r) = a :: wordsOf r := by
  have hs : a.size = a.data.toList.length := by simp
  have hi : Lib.indexB (a ++ ⟨#[32]⟩ ++ r) ⟨#[32]⟩ = ((a.size : Nat) : Int) := by
    show Lib.index (a ++ ⟨#[32]⟩ ++ r).data.toList [32] = _
    rw [sp_list, idx_at _ h, hs]
  unfold wordsOf
  have e1 : (a ++ ⟨#[32]⟩ ++ r).extract 0 (a.size + 0) = a := by
    apply ba_ext
    rw [Lib.extract_from_zero, sp_list, hs, Nat.add_zero, List.take_left']
    rfl
  have e2 : (a ++ ⟨#[32]⟩ ++ r).extract (a.size + 1) (a ++ ⟨#[32]⟩ ++ r).size = r := by
    apply ba_ext
    rw [Lib.extract_to_end, sp_list, hs, show a.data.toList ++ 32 :: r.data.toList = (a.data.toList ++ [32]) ++ r.data.toList by simp, List.drop_left']
    simp
  rw [Lib.countB_hit _ _ a.size (by decide) hi, Nat.add_comm 1, Lib.splitB_hit _ _ _ _ a.size hi, e1, show (⟨#[32]⟩ : ByteArray).size = 1 from rfl, e2]
/-- Words, with a blank between two. -/
def joinW : List ByteArray → ByteArray
  | [] => ⟨#[]⟩
  | [x] => x
  | x :: y :: l => x ++ ⟨#[32]⟩ ++ joinW (y :: l)
theorem words_join : ∀ {l : List ByteArray}, l ≠ [] → (∀ x ∈ l, (32 : UInt8) ∉ x.data.toList) → wordsOf (joinW l) = l
  | [], h, _ => absurd rfl h
  | [x], _, h => words_one (h x (by simp))
  | x :: y :: l, _, h => by
    rw [joinW, words_cons (h x (by simp)), words_join (l := y :: l) (by simp) (fun z hz => h z (by simp [hz]))]
theorem join_snoc : ∀ {l : List ByteArray} (x : ByteArray), l ≠ [] → joinW (l ++ [x]) = joinW l ++ ⟨#[32]⟩ ++ x
  | [], _, h => absurd rfl h
  | [y], x, _ => rfl
  | y :: z :: l, x, _ => by
    have := join_snoc (l := z :: l) x (by simp)
    simp only [List.cons_append] at this ⊢
    rw [joinW, this, joinW]
    simp only [ByteArray.append_assoc]

/-! Numbers. -/
theorem dig_val {u : Nat} (h : u < 10) : (UInt8.ofNat (48 + u)).toNat = 48 + u := by
  rw [UInt8.toNat_ofNat']; omega
theorem pu_snoc : ∀ {l : List UInt8} {acc v : Nat} {d : Nat}, Lib.parseUint10 acc l = .ok v → d < 10 → v * 10 + d < 9223372036854775808 → Lib.parseUint10 acc (l ++ [UInt8.ofNat (48 + d)]) = .ok (v * 10 + d)
  | [], acc, v, d, h, hd, hv => by
    simp only [Lib.parseUint10] at h
    injection h with h
    subst h
    have e := dig_val hd
    rw [List.nil_append, Lib.parseUint10, e, if_pos (by omega), if_neg (by omega), if_neg (by omega), Lib.parseUint10]
    congr 1
    omega
  | c :: r, acc, v, d, h, hd, hv => by
    rw [List.cons_append]
    rw [Lib.parseUint10] at h ⊢
    split at h
    · rename_i h1
      rw [if_pos h1]
      split at h
      · cases h
      · rename_i h2
        rw [if_neg h2]
        split at h
        · cases h
        · rename_i h3
          rw [if_neg h3]
          exact pu_snoc h hd hv
    · cases h
theorem dec_parse : ∀ (k u : Nat), u < 10 ^ k → u < 900000000000000000 → Lib.parseUint10 0 (Lib.decDigits u) = .ok u
  | 0, u, h, _ => by
    have : u = 0 := by simpa using h
    subst this
    rw [Lib.decDigits_one (by omega)]
    have := pu_snoc (l := []) (acc := 0) (v := 0) (d := 0) rfl (by omega) (by omega)
    simpa using this
  | k + 1, u, h, hu => by
    by_cases h10 : u < 10
    · rw [Lib.decDigits_one h10]
      have := pu_snoc (l := []) (acc := 0) (v := 0) (d := u) rfl h10 (by omega)
      simpa using this
    · have ih := dec_parse k (u / 10) (by rw [Nat.pow_succ] at h; omega) (by omega)
      rw [Lib.decDigits, dif_neg h10]
      have := pu_snoc ih (d := u % 10) (by omega) (by omega)
      rw [this]
      congr 1
      omega
theorem dec_ne (u : Nat) : Lib.decDigits u ≠ [] := by
  rw [Lib.decDigits]; split <;> simp
theorem dec_dig : ∀ (k u : Nat), u ≤ k → ∀ c ∈ Lib.decDigits u, 48 ≤ c.toNat ∧ c.toNat ≤ 57
  | k, u, hk, c, hc => by
    by_cases h10 : u < 10
    · rw [Lib.decDigits_one h10] at hc
      rw [List.mem_singleton.1 hc, dig_val h10]; omega
    · rw [Lib.decDigits, dif_neg h10] at hc
      match k, hk with
      | 0, hk => omega
      | k + 1, hk =>
        rcases List.mem_append.1 hc with hc | hc
        · exact dec_dig k (u / 10) (by omega) c hc
        · rw [List.mem_singleton.1 hc, dig_val (by omega)]; omega
theorem atoi_itoa {n : Int} (h0 : -9 ≤ n) (h1 : n ≤ 1000) : Lib.atoiAll (Lib.itoa n) = .ok n := by
  unfold Lib.itoa
  split
  · rename_i hn
    rw [Lib.atoiAll_minus, Lib.parseMag, if_neg (dec_ne _), dec_parse 18 n.natAbs (by omega) (by omega)]
    simp only [Lib.signed]
    rw [if_neg (by omega)]
    congr 1
    omega
  · rename_i hn
    obtain ⟨c, r, e⟩ : ∃ c r, Lib.decDigits n.toNat = c :: r := by
      cases hd : Lib.decDigits n.toNat with
      | nil => exact absurd hd (dec_ne _)
      | cons c r => exact ⟨c, r, rfl⟩
    have hc := dec_dig _ n.toNat (Nat.le_refl _) c (by rw [e]; simp)
    rw [e, Lib.atoiAll_plain c r (by omega) (by omega), ← e, Lib.parseMag, if_neg (dec_ne _), dec_parse 18 n.toNat (by omega) (by omega)]
    simp only [Lib.signless]
    rw [if_neg (by omega)]
    congr 1
    omega
theorem decZ_list (n : Int) : (decZ n).data.toList = Lib.itoa n := rfl
theorem numV_dec {n : Int} (h0 : -9 ≤ n) (h1 : n ≤ 1000) : numV (decZ n) = n := by
  unfold numV; rw [decZ_list, atoi_itoa h0 h1]
theorem numOk_dec {n : Int} (h0 : -9 ≤ n) (h1 : n ≤ 1000) : numOk (decZ n) = true := by
  unfold numOk; rw [decZ_list, atoi_itoa h0 h1]; exact decide_eq_true rfl
theorem dec_free {n : Int} {c : UInt8} (hc : c = 32 ∨ c = 44) : c ∉ (decZ n).data.toList := by
  intro h
  rw [decZ_list] at h
  have hd : c.toNat = 32 ∨ c.toNat = 44 := by rcases hc with rfl | rfl <;> simp
  unfold Lib.itoa at h
  split at h
  · rcases List.mem_cons.1 h with rfl | h
    · revert hd; decide
    · have := dec_dig _ _ (Nat.le_refl _) c h; omega
  · have := dec_dig _ _ (Nat.le_refl _) c h; omega

/-- A place, as a word. -/
def ptT (p : Int × Int) : ByteArray := decZ p.1 ++ ⟨#[44]⟩ ++ decZ p.2
theorem pt_free (p : Int × Int) : (32 : UInt8) ∉ (ptT p).data.toList := by
  unfold ptT
  rw [sp_list]
  intro h
  rcases List.mem_append.1 h with h | h
  · exact dec_free (.inl rfl) h
  · rcases List.mem_cons.1 h with h | h
    · revert h; decide
    · exact dec_free (.inl rfl) h
theorem pt_cut (p : Int × Int) : cutX (ptT p) = decZ p.1 ∧ cutY (ptT p) = decZ p.2 := by
  have hi : Lib.index (ptT p).data.toList [44] = ((decZ p.1).data.toList.length : Int) := by
    unfold ptT; rw [sp_list, idx_at _ (dec_free (.inr rfl))]
  have e : Lib.cut (ptT p).data.toList [44] = ((decZ p.1).data.toList, (decZ p.2).data.toList, true) := by
    unfold Lib.cut
    rw [hi, if_pos (by omega)]
    unfold ptT
    rw [sp_list]
    have a1 : ((decZ p.1).data.toList ++ 44 :: (decZ p.2).data.toList).take (((decZ p.1).data.toList.length : Int)).toNat = (decZ p.1).data.toList := by
      rw [Int.toNat_natCast, List.take_left']; rfl
    have a2 : ((decZ p.1).data.toList ++ 44 :: (decZ p.2).data.toList).drop ((((decZ p.1).data.toList.length : Int)).toNat + [(44 : UInt8)].length) = (decZ p.2).data.toList := by
      rw [Int.toNat_natCast, show (decZ p.1).data.toList ++ 44 :: (decZ p.2).data.toList = ((decZ p.1).data.toList ++ [44]) ++ (decZ p.2).data.toList by simp, List.drop_left']
      simp
    rw [a1, a2]
  unfold cutX cutY
  rw [e]
  exact ⟨rfl, rfl⟩
theorem pt_read {p : Int × Int} (h : inW p = true) : ptOf (ptT p) = p ∧ ptOk (ptT p) = true := by
  obtain ⟨e1, e2⟩ := pt_cut p
  simp only [inW, inB, Bool.and_eq_true, decide_eq_true_eq] at h
  unfold ptOf ptOk
  rw [e1, e2, numV_dec (by omega) (by omega), numV_dec (by omega) (by omega), numOk_dec (by omega) (by omega), numOk_dec (by omega) (by omega)]
  exact ⟨rfl, rfl⟩
theorem kindB_read {k : Int} (h : k = 1 ∨ k = 2 ∨ k = 3) : kindV (kindB k) = k ∧ (32 : UInt8) ∉ (kindB k).data.toList := by
  rcases h with rfl | rfl | rfl
  · exact ⟨by decide +kernel, by decide +kernel⟩
  · exact ⟨by decide +kernel, by decide +kernel⟩
  · exact ⟨by decide +kernel, by decide +kernel⟩

def wPut : ByteArray := ⟨#[112, 117, 116]⟩
def wDel : ByteArray := ⟨#[100, 101, 108]⟩
def wGet : ByteArray := ⟨#[103, 101, 116]⟩
theorem put_join (f : Feat) : putT f = joinW ([wPut, decZ f.id, kindB f.kd, decZ f.ht, decZ f.col] ++ f.ps.map ptT) := by
  have hh : headT f = joinW [wPut, decZ f.id, kindB f.kd, decZ f.ht, decZ f.col] := by
    unfold headT
    simp only [joinW]
    rw [show (⟨#[112, 117, 116, 32]⟩ : ByteArray) = wPut ++ ⟨#[32]⟩ from rfl]
    simp only [ByteArray.append_assoc]
  have hg : ∀ (ps : Pts) (l : List ByteArray), l ≠ [] → ps.foldl stepT (joinW l) = joinW (l ++ ps.map ptT) := by
    intro ps
    induction ps with
    | nil => intro l _; simp
    | cons p ps ih =>
      intro l hl
      have : stepT (joinW l) p = joinW (l ++ [ptT p]) := by
        rw [join_snoc _ hl]; unfold stepT ptT; simp only [ByteArray.append_assoc]
      rw [List.foldl_cons, this, ih _ (by simp)]
      simp
  unfold putT
  rw [hh, hg _ _ (by simp)]
theorem readP_put {f : Feat} (h : validF f = true) : readP (putT f) = .put f := by
  have hv := h
  unfold validF at h
  simp only [Bool.and_eq_true, inB, decide_eq_true_eq, mayB] at h
  obtain ⟨⟨⟨⟨h1, h2⟩, h3⟩, h4⟩, h5⟩ := h
  have hk : f.kd = 1 ∨ f.kd = 2 ∨ f.kd = 3 := by omega
  obtain ⟨k1, k2⟩ := kindB_read hk
  have hw : wordsOf (putT f) = wPut :: decZ f.id :: kindB f.kd :: decZ f.ht :: decZ f.col :: f.ps.map ptT := by
    rw [put_join, words_join (by simp)]
    · rfl
    · intro x hx
      simp only [List.cons_append, List.nil_append, List.mem_cons, List.mem_map] at hx
      rcases hx with rfl | rfl | rfl | rfl | rfl | ⟨p, _, rfl⟩
      · decide +kernel
      · exact dec_free (.inl rfl)
      · exact k2
      · exact dec_free (.inl rfl)
      · exact dec_free (.inl rfl)
      · exact pt_free p
  have hm : (f.ps.map ptT).map ptOf = f.ps := by
    rw [List.map_map]
    conv => rhs; rw [← List.map_id f.ps]
    exact List.map_congr_left fun p hp => (pt_read (List.all_eq_true.1 h5 p hp)).1
  have ha : (f.ps.map ptT).all ptOk = true := by
    rw [List.all_eq_true]
    intro x hx
    obtain ⟨p, hp, rfl⟩ := List.mem_map.1 hx
    exact (pt_read (List.all_eq_true.1 h5 p hp)).2
  have hn : ∀ {n : Int}, -9 ≤ n → n ≤ 1000 → ∀ l, (⟨decZ n :: l, false⟩ : Wd).number = (n, ⟨l, false⟩) := by
    intro n a b l
    simp only [Wd.number, Wd.next, Wd.check, numV_dec a b, numOk_dec a b]
    rfl
  have hkd : ∀ l, (⟨kindB f.kd :: l, false⟩ : Wd).kind = (f.kd, ⟨l, false⟩) := by
    intro l
    simp only [Wd.kind, Wd.next, k1]
    rw [if_neg (by omega)]
  have ht : putOf ⟨decZ f.id :: kindB f.kd :: decZ f.ht :: decZ f.col :: f.ps.map ptT, false⟩ = f ∧ (Wd.four ⟨decZ f.id :: kindB f.kd :: decZ f.ht :: decZ f.col :: f.ps.map ptT, false⟩) = ⟨f.ps.map ptT, false⟩ := by
    unfold putOf Wd.four
    simp only [hn (n := f.id) (by omega) (by omega), hkd, hn (n := f.ht) (by omega) (by omega), hn (n := f.col) (by omega) (by omega), hm, and_self]
  have hpw : putWrong ⟨decZ f.id :: kindB f.kd :: decZ f.ht :: decZ f.col :: f.ps.map ptT, false⟩ = false := by
    unfold putWrong
    rw [ht.2, ht.1, hv, ha]
    rfl
  unfold readP readW
  rw [hw]
  refine Eq.trans (if_neg ?_) (Eq.trans (if_pos ?_) (Eq.trans (if_neg ?_) ?_))
  · show ¬ isGet wPut = true
    decide +kernel
  · show isPut wPut = true
    decide +kernel
  · show ¬ putWrong ⟨decZ f.id :: kindB f.kd :: decZ f.ht :: decZ f.col :: f.ps.map ptT, false⟩ = true
    rw [hpw]; simp
  · show Rd.put (putOf ⟨decZ f.id :: kindB f.kd :: decZ f.ht :: decZ f.col :: f.ps.map ptT, false⟩) = _
    rw [ht.1]
theorem readP_del {i : Int} (h0 : 1 ≤ i) (h1 : i ≤ 99) : readP (delT i) = .del i := by
  have hw : wordsOf (delT i) = [wDel, decZ i] := by
    have : delT i = joinW [wDel, decZ i] := by
      unfold delT
      simp only [joinW]
      rfl
    rw [this, words_join (by simp)]
    intro x hx
    simp only [List.mem_cons, List.not_mem_nil, or_false] at hx
    rcases hx with rfl | rfl
    · decide +kernel
    · exact dec_free (.inl rfl)
  have hi : (⟨[decZ i], false⟩ : Wd).id = (i, ⟨[], false⟩) := by
    have e1 : inB i 1 99 = true := by simp only [inB, decide_eq_true_eq]; omega
    simp only [Wd.id, Wd.number, Wd.next, Wd.check, numV_dec (n := i) (by omega) (by omega), numOk_dec (n := i) (by omega) (by omega), e1]
    rfl
  unfold readP readW
  rw [hw]
  refine Eq.trans (if_neg ?_) (Eq.trans (if_neg ?_) (Eq.trans (if_pos ?_) (Eq.trans (if_neg ?_) ?_)))
  · show ¬ isGet wDel = true
    decide +kernel
  · show ¬ isPut wDel = true
    decide +kernel
  · show isDel wDel = true
    decide +kernel
  · show ¬ ((⟨[decZ i], false⟩ : Wd).id.2.wrong = true ∨ (⟨[decZ i], false⟩ : Wd).id.2.left ≠ [])
    rw [hi]; simp
  · show Rd.del (⟨[decZ i], false⟩ : Wd).id.1 = _
    rw [hi]
/-- A get that tells a mark, or none. -/
def getW (t : Tl) (ms : List ByteArray) : ByteArray := joinW ([wGet, decZ t.z, decZ t.c, decZ t.r] ++ ms)
theorem get_join (t : Tl) : getT t = getW t [] := by
  unfold getT getW
  simp only [List.append_nil, joinW]
  rw [show (⟨#[103, 101, 116, 32]⟩ : ByteArray) = wGet ++ ⟨#[32]⟩ from rfl]
  simp only [ByteArray.append_assoc]
theorem tile_words {t : Tl} (h : t.good) (l : List ByteArray) : (⟨decZ t.z :: decZ t.c :: decZ t.r :: l, false⟩ : Wd).tile = (t, ⟨l, false⟩) := by
  have hg := h
  unfold Tl.good tileB manyZ at h
  rw [decide_eq_true_eq] at h
  have hn : ∀ {n : Int}, -9 ≤ n → n ≤ 1000 → ∀ l, (⟨decZ n :: l, false⟩ : Wd).number = (n, ⟨l, false⟩) := by
    intro n a b l
    simp only [Wd.number, Wd.next, Wd.check, numV_dec a b, numOk_dec a b]
    rfl
  have b1 : t.c < 9 ∧ t.r < 9 := by
    obtain ⟨_, _, _, h4, _, h6⟩ := h
    revert h4 h6
    split
    · omega
    · split
      · omega
      · split <;> omega
  have hg' : tileB t.z t.c t.r = true := hg
  unfold Wd.tile
  simp only [hn (n := t.z) (by omega) (by omega), hn (n := t.c) (by omega) (by omega), hn (n := t.r) (by omega) (by omega), Wd.check, hg']
  rfl
theorem readP_getW {t : Tl} (h : t.good) {ms : List ByteArray} (hm : ms = [] ∨ ∃ m : ByteArray, ms = [m] ∧ m.size = 8 ∧ (32 : UInt8) ∉ m.data.toList) : readP (getW t ms) = .get t (ms.headD ⟨#[]⟩) := by
  have hw : wordsOf (getW t ms) = wGet :: decZ t.z :: decZ t.c :: decZ t.r :: ms := by
    unfold getW
    rw [words_join (by simp)]
    · rfl
    · intro x hx
      simp only [List.cons_append, List.nil_append, List.mem_cons] at hx
      rcases hx with rfl | rfl | rfl | rfl | hx
      · decide +kernel
      · exact dec_free (.inl rfl)
      · exact dec_free (.inl rfl)
      · exact dec_free (.inl rfl)
      · rcases hm with rfl | ⟨m, rfl, _, hf⟩
        · cases hx
        · rw [List.mem_singleton.1 hx]; exact hf
  have hr : ∀ l : List ByteArray, readW ⟨wGet :: decZ t.z :: decZ t.c :: decZ t.r :: l, false⟩ = if (⟨l, false⟩ : Wd).mark.2.wrong = true ∨ (⟨l, false⟩ : Wd).mark.2.left ≠ [] then .bad else .get t (⟨l, false⟩ : Wd).mark.1 := by
    intro l
    unfold readW
    refine Eq.trans (if_pos ?_) ?_
    · show isGet wGet = true
      decide +kernel
    · show (if (⟨decZ t.z :: decZ t.c :: decZ t.r :: l, false⟩ : Wd).tile.2.mark.2.wrong = true ∨ (⟨decZ t.z :: decZ t.c :: decZ t.r :: l, false⟩ : Wd).tile.2.mark.2.left ≠ [] then Rd.bad else Rd.get (⟨decZ t.z :: decZ t.c :: decZ t.r :: l, false⟩ : Wd).tile.1 (⟨decZ t.z :: decZ t.c :: decZ t.r :: l, false⟩ : Wd).tile.2.mark.1) = _
      rw [tile_words h]
  unfold readP
  rw [hw, hr]
  rcases hm with rfl | ⟨m, rfl, h8, _⟩
  · simp [Wd.mark]
  · simp [Wd.mark, Wd.check, h8]
/-- What a request in raw numbers asks for. -/
def askZ (q : Rq) : Rd := if kindZ q = 0 then .put (featZ q) else if kindZ q = 1 then .del (1 + pkZ q.a 6) else .get (tileZ q) ⟨#[]⟩
theorem readP_text (q : Rq) : readP (textT q) = askZ q := by
  unfold textT askZ
  split
  · exact readP_put (featZ_valid q)
  · split
    · have := pkZ_bd q.a 6 (by decide)
      exact readP_del (by omega) (by omega)
    · rw [get_join]
      exact readP_getW (tileZ_good q) (.inl rfl)

end Go.Proofs.YtenaepdmlknlcaaGreatDoor

namespace Go.Proofs.YtenaepdmlknlcaaGreatDoor
open Go.RowKit Go.Shelf

/-! A request that is done while nothing else is. -/
/-- What a request is answered, if it is done all at once, and what it does. -/
def ansR (fs : List Feat) : Rd → ByteArray
  | .bad => s400
  | .get t m => tellS m (bodyF fs t)
  | .put f => ansF (hasF f.id fs) (some f)
  | .del id => ansF (hasF id fs) none
def fsR (fs : List Feat) : Rd → List Feat
  | .bad => fs
  | .get _ _ => fs
  | .put f => newFs fs f.id (some f)
  | .del id => newFs fs id none
theorem set_twice (a : Atl) (g g' : Gr) (n : Nat) (s s' : Ses) : (a.set g n s).set g' n s' = a.set g' n s' := by
  unfold Atl.set
  congr 1
  funext k
  by_cases e : k = n
  · simp [e]
  · simp [e]
theorem set_at (a : Atl) (g : Gr) (n : Nat) (s : Ses) : (a.set g n s).ss n = s := by rw [set_ss, if_pos rfl]
theorem tell_set (a : Atl) (g : Gr) (n : Nat) (s : Ses) : tellM (a.set g n s) n = a.set g n { s with an := [] } := by
  unfold tellM; rw [set_at, set_g, set_twice]
/-- Nothing is asked for, nothing is told. -/
structure Quiet (a : Atl) : Prop where
  lk : a.g.lk = false
  ss : ∀ n, n < 4 → a.ss n = ⟨[], none, []⟩
theorem ses_idle {s : Ses} (h : waitS s = 0) (ha : s.an = []) : s = ⟨[], none, []⟩ := by
  obtain ⟨q, nx, an⟩ := s
  rw [waitS_eq] at h
  dsimp only at h ha
  have h1 : q = [] := List.eq_nil_of_length_eq_zero (by omega)
  have h2 : nx = none := by cases nx with | none => rfl | some x => simp [busyS] at h
  rw [h1, h2, ha]
theorem quiet_of {a : Atl} (h : FairOk a) (hw : ∀ n, n < 4 → waitS (a.ss n) = 0) : Quiet a := by
  refine ⟨wait_free h.lock (by unfold waitM sum4; dsimp only; rw [hw 0 (by omega), hw 1 (by omega), hw 2 (by omega), hw 3 (by omega)]), fun n hn => ses_idle (hw n hn) (h.an n hn)⟩

/-! The same, of a play. -/
theorem updD_done {did : Bool} {t : Int} {an : Option ByteArray} : ∀ {l : List Dn}, (∀ x ∈ l, 0 < x.un) → updD did t an l = l
  | [], _ => rfl
  | x :: r, h => by rw [updD_cons, if_pos (h x (by simp)), updD_done fun y hy => h y (by simp [hy])]
end Go.Proofs.YtenaepdmlknlcaaGreatDoor

namespace Go.Proofs.YtenaepdmlknlcaaGreatDoor
open Go.RowKit Go.Shelf

/-! The requests that were answered, put into one row. -/
/-- What step a request may have come to. -/
def stOf : Rd → Stp → Prop
  | .bad, st => st = .bad
  | .get t m, st => st = .look t m ∨ (∃ ag, st = .note t m ag) ∨ ∃ ag fs, st = .draw t m ag fs
  | .put f, st => st = .lock f.id (some f) ∨ (∃ z, st = .forget f.id (some f) z) ∨ st = .finish f.id (some f)
  | .del id, st => st = .lock id none ∨ (∃ z, st = .forget id none z) ∨ st = .finish id none
theorem stOf_first (r : Rd) : stOf r (firstS r) := by
  cases r <;> simp [stOf, firstS]
def isLock : Stp → Prop
  | .lock _ _ => True
  | _ => False
def isFirst : Stp → Prop
  | .lock _ _ => True
  | .look _ _ => True
  | .bad => True
  | _ => False
def isDraw : Option Stp → Prop
  | some (.draw _ _ _ _) => True
  | _ => False
/-- A session's requests: those that were answered, the one that it is at, those that wait. -/
structure SesL (s : Ses) (A B : List Dn) (T : Int) : Prop where
  done : ∀ d ∈ A, 0 < d.un
  opn : ∀ d ∈ B, d.un = 0
  idle : s.nx = none → s.q = B.map (fun d => textT d.q) ∧ ∀ d ∈ B, d.fr = 0
  busy : ∀ st, s.nx = some st → ∃ d B', B = d :: B' ∧ s.q = B'.map (fun d => textT d.q) ∧ stOf (askZ d.q) st ∧ (d.fr = 0 → isLock st) ∧ 0 ≤ d.fr ∧ d.fr ≤ T ∧ ∀ d ∈ B', d.fr = 0
/-- A moment: a session, a request of it, the time. -/
structure Ev where
  n : Nat
  i : Nat
  t : Int
def Rep (P : Pl) : List Feat → List Ev → List Feat → Prop
  | fs, [], fe => fs = fe
  | fs, e :: H, fe => ∃ d, (P.all e.n)[e.i]? = some d ∧ (0 < d.un → d.an = ansR fs (askZ d.q)) ∧ (d.un = 0 → ∃ t m ag, (P.a.ss e.n).nx = some (.draw t m ag fs) ∧ askZ d.q = .get t m) ∧ Rep P (fsR fs (askZ d.q)) H fe
structure Lin (P : Pl) (H : List Ev) : Prop where
  ses : ∀ n, n < 4 → ∃ A B, P.all n = A ++ B ∧ SesL (P.a.ss n) A B P.time ∧ (isDraw (P.a.ss n).nx → ∃ e ∈ H, e.n = n ∧ e.i = A.length)
  ok : ∀ e ∈ H, e.n < 4 ∧ e.t ≤ P.time ∧ ∃ d, (P.all e.n)[e.i]? = some d ∧ 0 < d.fr ∧ d.fr ≤ e.t ∧ (0 < d.un → e.t ≤ d.un)
  inc : H.Pairwise fun e f => e.t < f.t
  inj : H.Pairwise fun e f => e.n ≠ f.n ∨ e.i ≠ f.i
  all : ∀ n, n < 4 → ∀ (i : Nat) (d : Dn), (P.all n)[i]? = some d → 0 < d.un → ∃ e ∈ H, e.n = n ∧ e.i = i
  rep : Rep P [] H P.a.g.fs
theorem Rep.snoc {P : Pl} {fs fe : List Feat} {H : List Ev} (h : Rep P fs H fe) {e : Ev} {d : Dn} (hd : (P.all e.n)[e.i]? = some d) (h1 : 0 < d.un → d.an = ansR fe (askZ d.q)) (h2 : d.un = 0 → ∃ t m ag, (P.a.ss e.n).nx = some (.draw t m ag fe) ∧ askZ d.q = .get t m) : Rep P fs (H ++ [e]) (fsR fe (askZ d.q)) := by
  induction H generalizing fs with
  | nil => have : fs = fe := h; subst this; exact ⟨d, hd, h1, h2, rfl⟩
  | cons x H ih =>
    obtain ⟨d', a1, a2, a3, a4⟩ := h
    exact ⟨d', a1, a2, a3, ih a4⟩
/-- The row is as good in another play, if its requests are. -/
theorem Rep.other {P Q : Pl} {fs fe : List Feat} {H : List Ev} (h : Rep P fs H fe) (hd : ∀ e ∈ H, ∀ d, (P.all e.n)[e.i]? = some d → ∃ d', (Q.all e.n)[e.i]? = some d' ∧ d'.q = d.q ∧ (∀ fs, (0 < d.un → d.an = ansR fs (askZ d.q)) → (d.un = 0 → ∃ t m ag, (P.a.ss e.n).nx = some (.draw t m ag fs) ∧ askZ d.q = .get t m) → (0 < d'.un → d'.an = ansR fs (askZ d'.q)) ∧ (d'.un = 0 → ∃ t m ag, (Q.a.ss e.n).nx = some (.draw t m ag fs) ∧ askZ d'.q = .get t m))) : Rep Q fs H fe := by
  induction H generalizing fs with
  | nil => exact h
  | cons x H ih =>
    obtain ⟨d, a1, a2, a3, a4⟩ := h
    obtain ⟨d', b1, b2, b3⟩ := hd x (by simp) d a1
    obtain ⟨c1, c2⟩ := b3 fs a2 a3
    exact ⟨d', b1, c1, c2, by rw [b2]; exact ih a4 fun e he => hd e (by simp [he])⟩
theorem lin_new (r : Int) : Lin (newP r) [] :=
  ⟨fun n _ => ⟨[], [], rfl, ⟨fun d h => (by cases h), fun d h => (by cases h), fun _ => ⟨rfl, fun d h => (by cases h)⟩, fun st e => (by cases e)⟩, fun h => h.elim⟩, fun e h => (by cases h), List.Pairwise.nil, List.Pairwise.nil, fun n _ i d h => (by simp [newP] at h), rfl⟩
theorem get_snoc {l : List Dn} {d x : Dn} {i : Nat} (h : l[i]? = some x) : (l ++ [d])[i]? = some x := by
  rw [List.getElem?_append_left (List.getElem?_eq_some_iff.1 h).1]; exact h
/-- A request is sent. -/
theorem lin_send {P : Pl} {H : List Ev} (h : Lin P H) {n : Nat} (hn : n < 4) {d : Dn} (hd : d.un = 0) (hf : d.fr = 0) : Lin (sendP P n d) H := by
  unfold sendP
  split
  · exact h
  · have hnx : ∀ k, ((sendM P.a n (textT d.q)).ss k).nx = (P.a.ss k).nx := fun k => send_nx _ _ _ _
    have hget : ∀ (k i : Nat) (x : Dn), (P.all k)[i]? = some x → ((if k = n then P.all n ++ [d] else P.all k))[i]? = some x := by
      intro k i x e
      split
      · rename_i ek; rw [ek] at e; exact get_snoc e
      · exact e
    refine ⟨fun k hk => ?_, fun e he => ?_, h.inc, h.inj, fun k hk i x hx hu => ?_, ?_⟩
    · obtain ⟨A, B, e1, e2, e3⟩ := h.ses k hk
      dsimp only
      rw [hnx]
      by_cases ek : k = n
      · subst ek
        rw [if_pos rfl]
        refine ⟨A, B ++ [d], by rw [e1, List.append_assoc], ⟨e2.done, fun x hx => ?_, fun e => ?_, fun st e => ?_⟩, e3⟩
        · rcases List.mem_append.1 hx with hx | hx
          · exact e2.opn x hx
          · rw [List.mem_singleton.1 hx, hd]
        · rw [hnx] at e
          rw [send_q, if_pos rfl]
          obtain ⟨b1, b2⟩ := e2.idle e
          refine ⟨by rw [b1, List.map_append]; rfl, fun x hx => ?_⟩
          rcases List.mem_append.1 hx with hx | hx
          · exact b2 x hx
          · rw [List.mem_singleton.1 hx, hf]
        · rw [hnx] at e
          rw [send_q, if_pos rfl]
          obtain ⟨d0, B', b1, b2, b3, b4, b5, b6, b7⟩ := e2.busy st e
          refine ⟨d0, B' ++ [d], by rw [b1]; rfl, by rw [b2, List.map_append]; rfl, b3, b4, b5, b6, fun x hx => ?_⟩
          rcases List.mem_append.1 hx with hx | hx
          · exact b7 x hx
          · rw [List.mem_singleton.1 hx, hf]
      · rw [if_neg ek]
        refine ⟨A, B, e1, ⟨e2.done, e2.opn, fun e => ?_, fun st e => ?_⟩, e3⟩
        · rw [hnx] at e
          rw [send_q, if_neg ek]
          exact e2.idle e
        · rw [hnx] at e
          rw [send_q, if_neg ek]
          exact e2.busy st e
    · obtain ⟨a1, a2, x, a3, a4⟩ := h.ok e he
      exact ⟨a1, a2, x, hget _ _ _ a3, a4⟩
    · dsimp only at hx
      split at hx
      · rename_i ek
        subst ek
        by_cases hi : i < (P.all k).length
        · rw [List.getElem?_append_left hi] at hx
          exact h.all k hk i x hx hu
        · rw [List.getElem?_append_right (by omega)] at hx
          cases hj : i - (P.all k).length with
          | zero => rw [hj] at hx; simp at hx; subst hx; omega
          | succ j => rw [hj] at hx; simp at hx
      · exact h.all k hk i x hx hu
    · refine Rep.other h.rep fun e he x hx => ⟨x, hget _ _ _ hx, rfl, fun fs c1 c2 => ⟨c1, fun hu => ?_⟩⟩
      obtain ⟨t, m, ag, c3, c4⟩ := c2 hu
      exact ⟨t, m, ag, by rw [← c3]; exact hnx _, c4⟩
theorem updD_app {did : Bool} {t : Int} {an : Option ByteArray} : ∀ {A : List Dn} {B : List Dn}, (∀ x ∈ A, 0 < x.un) → updD did t an (A ++ B) = A ++ updD did t an B
  | [], _, _ => rfl
  | x :: A, B, h => by rw [List.cons_append, updD_cons, if_pos (h x (by simp)), updD_app fun y hy => h y (by simp [hy])]; rfl
theorem updD_head {did : Bool} {t : Int} {an : Option ByteArray} {d : Dn} {B : List Dn} (h : d.un = 0) : updD did t an (d :: B) = updOne did t an d :: B := by
  rw [updD_cons, if_neg (by omega)]
/-- The play behind a pick whose session comes to the request d, index A.length. -/
structure PickL (P : Pl) (n : Nat) (A : List Dn) (d : Dn) (B : List Dn) (d' : Dn) (Q : Pl) : Prop where
  alln : Q.all n = A ++ d' :: B
  oth : ∀ k, k ≠ n → Q.all k = P.all k
  ss : ∀ k, k ≠ n → Q.a.ss k = P.a.ss k
  time : Q.time = P.time + 1
  q : d'.q = d.q
/-- What the rows of all sessions are behind it. -/
theorem lin_pick {P Q : Pl} {H H' : List Ev} (h : Lin P H) {n : Nat} (hn : n < 4) {A B : List Dn} {d d' : Dn} (hA : P.all n = A ++ d :: B) (hS : SesL (P.a.ss n) A (d :: B) P.time) (hp : PickL P n A d B d' Q)
    (_hfr : d'.fr = d.fr ∨ d.fr = 0) (hH : H' = H ∨ H' = H ++ [⟨n, A.length, P.time + 1⟩])
    (hses : ∃ A' B', Q.all n = A' ++ B' ∧ SesL (Q.a.ss n) A' B' Q.time ∧ (isDraw (Q.a.ss n).nx → ∃ e ∈ H', e.n = n ∧ e.i = A'.length))
    (hin : ∀ e ∈ H', e.n = n → e.i = A.length → 0 < d'.fr ∧ d'.fr ≤ e.t ∧ (0 < d'.un → e.t ≤ d'.un))
    (hnew : H' = H ++ [⟨n, A.length, P.time + 1⟩] → ∀ e ∈ H, e.n ≠ n ∨ e.i ≠ A.length)
    (hun : 0 < d'.un → ∃ e ∈ H', e.n = n ∧ e.i = A.length)
    (hrep : Rep Q [] H' Q.a.g.fs) : Lin Q H' := by
  have hsub : ∀ e ∈ H', e ∈ H ∨ e = ⟨n, A.length, P.time + 1⟩ := by
    rcases hH with rfl | rfl
    · exact fun e he => .inl he
    · intro e he
      rcases List.mem_append.1 he with he | he
      · exact .inl he
      · exact .inr (List.mem_singleton.1 he)
  have hget : ∀ (i : Nat) (x : Dn), i ≠ A.length → (P.all n)[i]? = some x → (Q.all n)[i]? = some x := by
    intro i x hi hx
    rw [hp.alln]
    rw [hA] at hx
    by_cases hl : i < A.length
    · rw [List.getElem?_append_left hl] at hx ⊢; exact hx
    · rw [List.getElem?_append_right (by omega)] at hx ⊢
      obtain ⟨j, hj⟩ : ∃ j, i - A.length = j + 1 := ⟨i - A.length - 1, by omega⟩
      rw [hj] at hx ⊢
      simpa using hx
  have hget' : ∀ (i : Nat) (x : Dn), i ≠ A.length → (Q.all n)[i]? = some x → (P.all n)[i]? = some x := by
    intro i x hi hx
    rw [hp.alln] at hx
    rw [hA]
    by_cases hl : i < A.length
    · rw [List.getElem?_append_left hl] at hx ⊢; exact hx
    · rw [List.getElem?_append_right (by omega)] at hx ⊢
      obtain ⟨j, hj⟩ : ∃ j, i - A.length = j + 1 := ⟨i - A.length - 1, by omega⟩
      rw [hj] at hx ⊢
      simpa using hx
  have hat : (Q.all n)[A.length]? = some d' := by rw [hp.alln, List.getElem?_append_right (Nat.le_refl _)]; simp
  refine ⟨fun k hk => ?_, fun e he => ?_, ?_, ?_, fun k hk i x hx hu => ?_, hrep⟩
  · by_cases ek : k = n
    · subst ek; exact hses
    · obtain ⟨A1, B1, e1, e2, e3⟩ := h.ses k hk
      refine ⟨A1, B1, by rw [hp.oth k ek, e1], ?_, fun hd => ?_⟩
      · rw [hp.ss k ek, hp.time]
        refine ⟨e2.done, e2.opn, e2.idle, fun st est => ?_⟩
        obtain ⟨d0, B', b1, b2, b3, b4, b5, b6, b7⟩ := e2.busy st est
        exact ⟨d0, B', b1, b2, b3, b4, b5, by omega, b7⟩
      · rw [hp.ss k ek] at hd
        obtain ⟨e, he, q⟩ := e3 hd
        refine ⟨e, ?_, q⟩
        rcases hH with rfl | rfl
        · exact he
        · exact List.mem_append_left _ he
  · rcases hsub e he with h1 | h1
    · obtain ⟨a1, a2, x, a3, a4, a5, a6⟩ := h.ok e h1
      refine ⟨a1, by rw [hp.time]; omega, ?_⟩
      by_cases en : e.n = n
      · by_cases ei : e.i = A.length
        · rw [en, ei]
          exact ⟨d', hat, hin e he en ei⟩
        · rw [en] at a3 ⊢
          exact ⟨x, hget _ _ ei a3, a4, a5, a6⟩
      · rw [hp.oth _ en]
        exact ⟨x, a3, a4, a5, a6⟩
    · have e1 : e.n = n := by rw [h1]
      have e2 : e.i = A.length := by rw [h1]
      have e3 : e.t = P.time + 1 := by rw [h1]
      refine ⟨by rw [e1]; exact hn, by rw [hp.time, e3]; exact Int.le_refl _, ?_⟩
      rw [e1, e2]
      exact ⟨d', hat, hin e he e1 e2⟩
  · rcases hH with rfl | rfl
    · exact h.inc
    · rw [List.pairwise_append]
      refine ⟨h.inc, List.pairwise_singleton _ _, fun a ha b hb => ?_⟩
      rw [List.mem_singleton.1 hb]
      have := (h.ok a ha).2.1
      show a.t < P.time + 1
      omega
  · rcases hH with rfl | rfl
    · exact h.inj
    · rw [List.pairwise_append]
      refine ⟨h.inj, List.pairwise_singleton _ _, fun a ha b hb => ?_⟩
      rw [List.mem_singleton.1 hb]
      exact hnew rfl a ha
  · by_cases ek : k = n
    · subst ek
      by_cases ei : i = A.length
      · subst ei
        rw [hat] at hx
        obtain rfl := Option.some.inj hx
        exact hun hu
      · obtain ⟨e, he, q⟩ := h.all k hk i x (hget' _ _ ei hx) hu
        refine ⟨e, ?_, q⟩
        rcases hH with rfl | rfl
        · exact he
        · exact List.mem_append_left _ he
    · rw [hp.oth k ek] at hx
      obtain ⟨e, he, q⟩ := h.all k hk i x hx hu
      refine ⟨e, ?_, q⟩
      rcases hH with rfl | rfl
      · exact he
      · exact List.mem_append_left _ he

end Go.Proofs.YtenaepdmlknlcaaGreatDoor
