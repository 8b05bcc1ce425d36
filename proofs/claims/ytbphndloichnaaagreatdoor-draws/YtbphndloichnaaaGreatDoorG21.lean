import Derived.Test.YtbphndloichnaaaGreatDoorG17
import Derived.Test.YtbphndloichnaaaGreatDoorG20
import Derived.Test.YtbphndloichnaaaGreatDoorG11
import Derived.WalkLawsBesides
import Derived.Laws.FloatArith
namespace Go.Proofs.YtbphndloichnaaaGreatDoor
open Go.RowKit Go.Shelf

theorem digs_big {v : Nat} (h : 16 ≤ v) : digs 16 v = digs 16 (v / 16) ++ [dch (v % 16)] := by
  rw [digs, dif_neg (by omega)]
theorem digs_small {v : Nat} (h : v < 16) : digs 16 v = [dch v] := by rw [digs, dif_pos (.inl h)]
abbrev alphaT : ByteArray := ⟨#[48, 49, 50, 51, 52, 53, 54, 55, 56, 57, 97, 98, 99, 100, 101, 102, 103, 104, 105, 106, 107, 108, 109, 110, 111, 112, 113, 114, 115, 116, 117, 118, 119, 120, 121, 122]⟩
theorem alpha_at (d : Nat) (hd : d < 16) (h : d < alphaT.size) : alphaT[d]'h = dch d := by
  match d, hd with
  | 0, _ => rfl
  | 1, _ => rfl
  | 2, _ => rfl
  | 3, _ => rfl
  | 4, _ => rfl
  | 5, _ => rfl
  | 6, _ => rfl
  | 7, _ => rfl
  | 8, _ => rfl
  | 9, _ => rfl
  | 10, _ => rfl
  | 11, _ => rfl
  | 12, _ => rfl
  | 13, _ => rfl
  | 14, _ => rfl
  | 15, _ => rfl
  | _ + 16, h => omega
theorem str_nums (L : List UInt8) : strOfNums (L.map fun b => (b.toNat : Int)) = ⟨L.toArray⟩ := by
  rw [strOfNums, List.map_map]
  congr 2
  have : ((fun n : Int => UInt8.ofNat n.toNat) ∘ fun b : UInt8 => (b.toNat : Int)) = id := by
    funext b
    simp
  rw [this, List.map_id]

/-- The bytes l lie from i on. -/
def BytesAt (W : World) (A i : Nat) (l : List UInt8) : Prop := ∀ t ch, l[t]? = some ch → W.cell? ⟨A, i + t, none⟩ = some (.int .u8 (ch.toNat : Int))
theorem BytesAt.cons {W : World} {A i : Nat} {l : List UInt8} (h : BytesAt W A (i + 1) l) {c0 : Value} (hc : W.cell? ⟨A, i, none⟩ = some c0) (x : UInt8) : BytesAt (W.setCell ⟨A, i, none⟩ (.int .u8 (x.toNat : Int))) A i (x :: l) := by
  intro t ch ht
  cases t with
  | zero =>
    simp at ht
    subst ht
    exact World.cell?_setCell_same _ _ _ hc
  | succ t =>
    simp at ht
    have := h t ch ht
    rw [World.cell?_setCell_other _ _ _ _ (by intro e; injection e with _ e2 _; omega)]
    rw [show i + (t + 1) = i + 1 + t by omega]
    exact this

set_option maxRecDepth 100000 in
set_option maxHeartbeats 2000000 in
theorem fb16_ex (n : Nat) (w : World) (h1 : n < 4294967296) (ht : w.cell? ⟨3, 15, none⟩ = some (.int .u8 4)) (h3 : 3 < w.heap.size) :
    Calls Tryz.prog 135 #[.slice none 0 0, .int .u64 (n : Int), .int .i64 16, .bool false, .bool false] w fun e w' => e = .returned (.tuple #[.slice none 0 0, .string ⟨(digs 16 n).toArray⟩]) ∧ (digs 16 n).length ≤ 8 ∧ Below w.heap.size w w' := by
  go_enter Tryz.func135, Tryz.ntmps135
  go_wp2_with (first
    | (go_at_call 165; refine (pow16 _).mono ?_; rintro e w' ⟨rfl, rfl⟩)
    | (go_at_call 166; refine (tz16 _ (by simp [go_sem, *])).mono ?_; rintro e w' ⟨rfl, rfl⟩))
  have hcell : ∀ j, j < 65 → (w.alloc (.cells Tryz.zeroCells280 280)).cell? ⟨w.heap.size, j, none⟩ = some (.int .u8 0) := fun j hj => by
    rw [World.cell?_alloc_new]
    rw [zero125]
    simp [hj]
  have HC : Hid _ := hcell
  clear hcell
  go_loopw [1, 13] (fun uv iv wr => ∃ (m i v : Nat) (l : List UInt8), i + 1 + m = 65 ∧ m ≤ 7 ∧ uv = .int .u64 (v : Int) ∧ iv = .int .i64 ((i : Int) + 1) ∧ Hid ((v : Int) < fbB m) ∧ v < 4294967296 ∧ Hid (l.length = m ∧ BytesAt wr w.heap.size (i + 1) l ∧ digs 16 n = digs 16 v ++ l) ∧ Hid (∀ j, j < 65 → ∃ c : Int, wr.cell? ⟨w.heap.size, j, none⟩ = some (.int .u8 c) ∧ 0 ≤ c ∧ c < 256) ∧ Hid (∀ j, wr.frozen? ⟨w.heap.size, j, none⟩ = false) ∧ Below w.heap.size w wr ∧ w.heap.size < wr.heap.size) (fun uv _ _ => (intOf uv).toNat)
  case atStart => exact ⟨0, 64, n, [], rfl, by omega, rfl, rfl, by show (n : Int) < fbB 0; simp [fbB]; omega, h1, ⟨rfl, fun t ch h => by simp at h, by simp⟩, fun j hj => ⟨0, HC.out j hj, by omega, by omega⟩, fun j => by simp [go_sem], (Below.refl _ _).alloc (Nat.le_refl _) _, by simp⟩
  case round =>
    clear h1
    obtain ⟨m, i, v, l, him, hm, rfl, rfl, HvB, hv1, HL, Hcs, Hfz, hB, hs⟩ := hrel
    have hi65 : i < 65 := by omega
    have hiI : (i : Int) < 65 := by omega
    have hi0 : (0 : Int) ≤ (i : Int) := by omega
    obtain ⟨ci, hci, hci0, hci1⟩ := Hcs.out i hi65
    have hfi := Hfz.out i
    by_cases hge : 16 ≤ v
    · have hst := fb_step hm (by omega) HvB.out (by omega)
      have HST : Hid (m ≤ 6 ∧ (v : Int) / 16 < fbB (m + 1)) := hst
      clear hst
      obtain ⟨dd, hdd⟩ : ∃ dd : Nat, dd = v % 16 := ⟨_, rfl⟩
      have hand : bits BinOp.and IntKind.u64 (v : Int) 15 = (dd : Int) := by rw [and15 _ (by omega) (by omega), hdd]; rfl
      have hdd16 : dd < 16 := by omega
      have hddI : (dd : Int) < 36 := by omega
      have HD : Hid (digs 16 n = digs 16 (v / 16) ++ (dch dd :: l)) := by
        show digs 16 n = _
        rw [HL.out.2.2, digs_big hge, hdd, List.append_assoc]; rfl
      clear hdd
      have hgeI : (16 : Int) ≤ (v : Int) := by omega
      go_wp2
      have hal := alpha_at dd hdd16 (by show dd < 36; omega)
      have hi1 : i - 1 + 1 = i := by have := HST.out.1; omega
      refine ⟨⟨m + 1, i - 1, v / 16, dch dd :: l, by have := HST.out.1; omega, by have := HST.out.1; omega, rfl, ?_, ?_, by omega, ⟨by simp [HL.out.1], ?_, HD.out⟩, bytes_set Hcs.out i _, fun j => ?_, hB.trans (below_set1 w.heap.size wr w.heap.size i (Nat.le_refl _) _), Nat.lt_of_lt_of_le hs (below_set1 w.heap.size wr w.heap.size i (Nat.le_refl _) _).size⟩, ?_⟩
      · have h : (i : Int) = ((i - 1 : Nat) : Int) + 1 := by omega
        rw [← h]
      · have := HST.out.2
        show ((v / 16 : Nat) : Int) < _
        omega
      · have := BytesAt.cons HL.out.2.1 hci (dch dd)
        rw [hi1]
        rw [← hal] at this ⊢
        exact this
      · rw [World.frozen?_setCell]; exact Hfz.out j
      · show ((v : Int) / 16).toNat < (v : Int).toNat
        omega
    · have hdd16 : v < 16 := by omega
      have hddI : (v : Int) < 36 := by omega
      have hltI : (v : Int) < 16 := by omega
      have hal := alpha_at v hdd16 (by show v < 36; omega)
      have HD : Hid (digs 16 n = dch v :: l) := by
        show digs 16 n = _
        rw [HL.out.2.2, digs_small hdd16]; rfl
      have hlen : l.length = 64 - i := by rw [HL.out.1]; omega
      have hconv : ∀ x : UInt8, Sem.run Tryz.prog (convert 197 9 (.slice (some ⟨w.heap.size, i, none⟩) (65 - i) (65 - i))) (wr.setCell ⟨w.heap.size, i, none⟩ (.int .u8 (x.toNat : Int))) = .ok (.string (strOfNums ((x :: l).map fun b => (b.toNat : Int)))) (wr.setCell ⟨w.heap.size, i, none⟩ (.int .u8 (x.toNat : Int))) := fun x =>
        run_convert_bytes_arg _ 197 5 Tryz.underlying197 Tryz.underlying5 w.heap.size i (65 - i) (65 - i) _ (by simp; omega) (fun j hj => by
          have hjl : j < (x :: l).length := by rw [List.length_cons, hlen]; omega
          have := BytesAt.cons HL.out.2.1 hci x j _ (List.getElem?_eq_getElem hjl)
          rw [this, List.getD_eq_getElem?_getD, List.getElem?_map, List.getElem?_eq_getElem hjl]
          rfl) 9 Tryz.underlying9
      have HLn : Hid (l.length + 1 ≤ 8) := by show _ ≤ _; rw [HL.out.1]; omega
      have hi1 : (i : Int) ≤ 65 := by omega
      clear HL Hcs Hfz hal hlen
      go_wp2
      go_ret2
      have key : ∀ x : UInt8, x = dch v → Ending.returned (.tuple #[.slice none 0 0, .string (strOfNums ((x.toNat : Int) :: l.map fun b => (b.toNat : Int)))]) = .returned (.tuple #[.slice none 0 0, .string ⟨(digs 16 n).toArray⟩]) := by
        rintro _ rfl
        rw [HD.out, ← str_nums]
        rfl
      exact ⟨key _ (alpha_at v hdd16 (by show v < 36; omega)), by rw [HD.out]; exact HLn.out, hB.trans (below_set1 w.heap.size wr w.heap.size i (Nat.le_refl _) _)⟩

set_option maxHeartbeats 1000000 in
theorem FormatUint_ex (n : Nat) (w : World) (h1 : n < 4294967296) (ht : w.cell? ⟨3, 15, none⟩ = some (.int .u8 4)) (h3 : 3 < w.heap.size) :
    Calls Tryz.prog 59 #[.int .u64 (n : Int), .int .i64 16] w fun e w' => e = .returned (.string ⟨(digs 16 n).toArray⟩) ∧ (digs 16 n).length ≤ 8 ∧ Below w.heap.size w w' := by
  have h35 : Calls Tryz.prog 98 #[.int .u64 (n : Int), .int .i64 16] w fun e w' => e = .returned (.string ⟨(digs 16 n).toArray⟩) ∧ (digs 16 n).length ≤ 8 ∧ Below w.heap.size w w' := by
    go_enter Tryz.func98, Tryz.ntmps98
    go_wp2_with (go_at_call 135; refine (fb16_ex n _ h1 ht h3).mono ?_; rintro e w1 ⟨rfl, hs2, hb1⟩)
    go_ret
    exact ⟨rfl, hs2, hb1⟩
  have H35 : Hid _ := h35
  clear h35
  go_enter Tryz.func59, Tryz.ntmps59
  go_wp2_with (go_at_call 98; refine Calls.mono H35.out ?_; rintro e w1 ⟨rfl, hs2, hb1⟩)
  go_ret
  exact ⟨rfl, hs2, hb1⟩

theorem repeatL_zero (c : Nat) : Lib.repeatL [48] c = List.replicate c 48 := by
  induction c with
  | zero => rfl
  | succ c ih => simpa [Lib.repeatL, List.replicate_succ] using ih

set_option maxHeartbeats 1000000 in
theorem Mark_ex (b : ByteArray) (w : World) (hb : b.size ≤ 1000000) (ht : w.cell? ⟨3, 15, none⟩ = some (.int .u8 4)) (h3 : 3 < w.heap.size) :
    Calls Tryz.prog 33 #[.string b] w fun e w' => e = .returned (.string ⟨(markN b.data.toList).toArray⟩) ∧ Below w.heap.size w w' := by
  have hlt := sumN_lt b.data.toList
  have HM : Hid (markN b.data.toList = padN (digs 16 (sumN b.data.toList))) := rfl
  have HS : Hid (∀ W : World, Calls Tryz.prog 60 #[.string b] W fun e w' => e = .returned (.int .u32 ((sumN b.data.toList : Nat) : Int)) ∧ w' = W) := fun W => sum_ex b W hb
  obtain ⟨n, hn⟩ : ∃ n, sumN b.data.toList = n := ⟨_, rfl⟩
  rw [hn] at hlt HM HS
  clear hn
  have HF : Hid (∀ W : World, W.cell? ⟨3, 15, none⟩ = some (.int .u8 4) → 3 < W.heap.size → Calls Tryz.prog 59 #[.int .u64 (n : Int), .int .i64 16] W fun e w' => e = .returned (.string ⟨(digs 16 n).toArray⟩) ∧ (digs 16 n).length ≤ 8 ∧ Below W.heap.size W w') := fun W => FormatUint_ex n W hlt
  obtain ⟨d, hd⟩ : ∃ d, digs 16 n = d := ⟨_, rfl⟩
  rw [hd] at HM HF
  clear hd
  obtain ⟨zl, hzl⟩ : ∃ zl : List UInt8, zl = List.replicate (8 - d.length) 48 := ⟨_, rfl⟩
  have HR : Hid (∀ W : World, Calls Tryz.prog 61 #[.string ⟨#[48]⟩, .int .i64 ((8 - d.length : Nat) : Int)] W fun e w' => e = .returned (.string ⟨zl.toArray⟩) ∧ Below W.heap.size W w') := fun W => by
    have := repeat0 (8 - d.length) W (by omega)
    rwa [repeatL_zero, ← hzl] at this
  have hzn : zl.length ≤ 8 := by rw [hzl, List.length_replicate]; omega
  obtain ⟨pl, hpl⟩ : ∃ pl : List UInt8, zl ++ d = pl := ⟨_, rfl⟩
  have HP : Hid (pl = markN b.data.toList) := by show pl = _; rw [HM.out, padN, ← hpl, hzl]
  have HA : Hid (d.length ≤ 8 → ∀ W : World, Sem.run Tryz.prog (Op.stringOp .add ⟨zl.toArray⟩ ⟨d.toArray⟩) W = .ok (.string ⟨pl.toArray⟩) W) := fun hd W => by rw [← hpl]; exact run_string_add_lists W _ _ (by omega) (by omega)
  clear hzl hpl HM
  go_enter Tryz.func33, Tryz.ntmps33
  go_wp2_with (first
    | (go_at_call 60; refine Calls.mono (HS.out _) ?_; rintro e w1 ⟨rfl, rfl⟩)
    | (go_at_call 59; refine Calls.mono (HF.out _ ht h3) ?_; rintro e w2 ⟨rfl, hs2, hb2⟩; have hadd := HA.out hs2)
    | (go_at_call 61; rw [show (8 : Int) - (d.length : Int) = ((8 - d.length : Nat) : Int) from by omega]; refine Calls.mono (HR.out _) ?_; rintro e w3 ⟨rfl, hb3⟩))
  go_ret
  exact ⟨ret_str HP.out, hb2.trans (hb3.mono hb2.size)⟩

end Go.Proofs.YtbphndloichnaaaGreatDoor
namespace Go.Proofs.YtbphndloichnaaaGreatDoor
open Go.RowKit Go.Shelf

theorem above_iff (h i h' i' : Int) : aboveB h i h' i' = true ↔ (h' < h ∨ (h = h' ∧ i' < i)) := by
  unfold aboveB
  split
  · rename_i e; subst e; simp
  · simp; omega

def abv (a b : FV) : Bool := aboveB a.f.ht a.f.id b.f.ht b.f.id
def cov (x : Bx) (a : FV) : Bool := coverB a.f.kd a.f.ps x.l x.t x.r x.b
theorem pick_none (x : Bx) (a : FV) (h : cov x a = true) : pickV x none a = some a := by unfold pickV; unfold cov at h; simp [h]
theorem pick_some (x : Bx) (u a : FV) (h : cov x a = true) : pickV x (some u) a = if abv a u = true then some a else some u := by unfold pickV abv; unfold cov at h; simp [h]
theorem pick_not (x : Bx) (o : Option FV) (a : FV) (h : cov x a = false) : pickV x o a = o := by unfold pickV; unfold cov at h; simp [h]

theorem pick_comm (x : Bx) (a b : FV) (h : a.f.id ≠ b.f.id) (o : Option FV) : pickV x (pickV x o a) b = pickV x (pickV x o b) a := by
  cases ca : cov x a with
  | false => rw [pick_not x _ a ca, pick_not x _ a ca]
  | true =>
    cases cb : cov x b with
    | false => rw [pick_not x _ b cb, pick_not x _ b cb]
    | true =>
      have e1 := above_iff a.f.ht a.f.id b.f.ht b.f.id
      have e2 := above_iff b.f.ht b.f.id a.f.ht a.f.id
      change abv a b = true ↔ _ at e1
      change abv b a = true ↔ _ at e2
      cases o with
      | none =>
        rw [pick_none x a ca, pick_none x b cb, pick_some x a b cb, pick_some x b a ca]
        by_cases h1 : abv b a = true
        · rw [if_pos h1, if_neg (by rw [e1]; rw [e2] at h1; omega)]
        · rw [if_neg h1, if_pos (by rw [e1]; rw [e2] at h1; omega)]
      | some u =>
        have e3 := above_iff a.f.ht a.f.id u.f.ht u.f.id
        have e4 := above_iff b.f.ht b.f.id u.f.ht u.f.id
        change abv a u = true ↔ _ at e3
        change abv b u = true ↔ _ at e4
        rw [pick_some x u a ca, pick_some x u b cb]
        by_cases h1 : abv a u = true
        · rw [if_pos h1, pick_some x a b cb]
          by_cases h2 : abv b u = true
          · rw [if_pos h2, pick_some x b a ca]
            by_cases h3 : abv b a = true
            · rw [if_pos h3, if_neg (by rw [e1]; rw [e2] at h3; omega)]
            · rw [if_neg h3, if_pos (by rw [e1]; rw [e2] at h3; omega)]
          · rw [if_neg h2, pick_some x u a ca, if_pos h1, if_neg (by rw [e2]; rw [e3] at h1; rw [e4] at h2; omega)]
        · rw [if_neg h1, pick_some x u b cb]
          by_cases h2 : abv b u = true
          · rw [if_pos h2, pick_some x b a ca, if_neg (by rw [e1]; rw [e3] at h1; rw [e4] at h2; omega)]
          · rw [if_neg h2, pick_some x u a ca, if_neg h1]

/-- No two have the same number. -/
def Dist (vs : List FV) : Prop := ∀ a ∈ vs, ∀ b ∈ vs, a = b ∨ a.f.id ≠ b.f.id
theorem top_perm (x : Bx) {vs us : List FV} (hp : us.Perm vs) (hd : Dist vs) : topOf x us = topOf x vs := by
  unfold topOf
  refine hp.foldl_eq' (fun a ha b hb z => ?_) none
  rcases hd a (hp.mem_iff.1 ha) b (hp.mem_iff.1 hb) with rfl | h
  · rfl
  · exact pick_comm x a b h z

theorem okTo_dist {gs : List FG} (h : okTo gs gs.length = true) : Dist (gs.map FG.fv) := by
  have key : ∀ (i j : Nat) (a b : FG), i < j → gs[i]? = some a → gs[j]? = some b → a.f.id ≠ b.f.id := by
    intro i j a b hij ha hb e
    have hj : j < gs.length := (List.getElem?_eq_some_iff.1 hb).1
    have := (okTo_at h hj hb).2
    have hs : seenG gs (i + 1) b.f.id = true := by rw [seenG_succ ha]; simp [e]
    rw [seenG_more hs hij] at this
    cases this
  intro a ha b hb
  obtain ⟨i, hi⟩ := List.mem_iff_getElem?.1 ha
  obtain ⟨j, hj⟩ := List.mem_iff_getElem?.1 hb
  rw [List.getElem?_map, Option.map_eq_some_iff] at hi hj
  obtain ⟨ga, hga, rfl⟩ := hi
  obtain ⟨gb, hgb, rfl⟩ := hj
  rw [FG.fv_f, FG.fv_f]
  rcases Nat.lt_trichotomy i j with h1 | h1 | h1
  · exact .inr (key i j ga gb h1 hga hgb)
  · subst h1
    rw [hga] at hgb
    cases hgb
    exact .inl rfl
  · exact .inr (fun e => key j i gb ga h1 hgb hga e.symm)

/-- What the program's tree shows is what the document's list shows. -/
theorem col_eq {vs us : List FV} (hp : us.Perm vs) (hd : Dist vs) (hv : ∀ v ∈ vs, validF v.f = true) {p c r : Int} (h0 : 0 ≤ p) (n : Nat) : (colZ us p c r n).toNat = colR vs p c r n := by
  unfold colZ colR
  rw [top_filter _ us (fun v h => hv v (hp.mem_iff.1 h)) (by simp only [pixZ]; omega) (by simp only [pixZ]; omega), top_perm _ hp hd]
theorem body_eq {vs us : List FV} (hp : us.Perm vs) (hd : Dist vs) (hv : ∀ v ∈ vs, validF v.f = true) {p c r : Int} (h0 : 0 ≤ p) :
    Lib.join ((txts ((List.range 64).map fun n => (colZ us p c r n).toNat)).map (·.data.toList)) [44] = bodyR vs p c r := by
  rw [bodyR, fin_stN]
  congr 4
  funext n
  exact col_eq hp hd hv h0 n

end Go.Proofs.YtbphndloichnaaaGreatDoor
namespace Go.Proofs.YtbphndloichnaaaGreatDoor
open Go.RowKit

/-- A finite number that is not too great: what stands before 2 ^ place has 24 digits at most, and place is P at most. -/
def Fin32 (P : Int) (b : Nat) : Prop := ∃ s m p, Ieee.single.read b = .number s m p ∧ m < 2 ^ 24 ∧ p ≤ P

theorem cut_le (neg : Bool) (n drop k : Nat) (h : n < 2 ^ (k + drop)) : Ieee.Toward.even.cut neg n drop ≤ 2 ^ k := by
  unfold Ieee.Toward.cut
  simp only [Nat.one_shiftLeft]
  have hlow : n / 2 ^ min drop (n.log2 + 2) < 2 ^ k ∨ n / 2 ^ min drop (n.log2 + 2) = 0 := by
    by_cases hd : drop ≤ n.log2 + 2
    · rw [Nat.min_eq_left hd]
      left
      rw [Nat.div_lt_iff_lt_mul (Nat.two_pow_pos _), ← Nat.pow_add]
      exact h
    · rw [Nat.min_eq_right (by omega)]
      right
      apply Nat.div_eq_of_lt
      exact Nat.lt_of_lt_of_le Nat.lt_log2_self (Nat.pow_le_pow_right (by decide) (by omega))
  have hpos := Nat.two_pow_pos k
  have hb : ∀ b : Bool, b.toNat ≤ 1 := fun b => by cases b <;> decide
  have := hb (decide (2 ^ min drop (n.log2 + 2) < 2 * (n % 2 ^ min drop (n.log2 + 2))) || (2 ^ min drop (n.log2 + 2) == 2 * (n % 2 ^ min drop (n.log2 + 2)) && n / 2 ^ min drop (n.log2 + 2) % 2 == 1))
  omega

theorem read_word (neg : Bool) (rung : Nat) (h : rung < 255 * 2 ^ 23) : Ieee.single.read (Ieee.single.word neg rung) = if rung < 2 ^ 23 then .number neg rung (-149) else .number neg (2 ^ 23 + rung % 2 ^ 23) (-149 + (rung / 2 ^ 23 - 1 : Nat)) := by
  have e1 : Ieee.single.signWeight = 2147483648 := by rfl
  have e2 : Ieee.single.binade = 2 ^ 23 := by rfl
  have e3 : Ieee.single.infRung = 255 * 2 ^ 23 := by rfl
  have e4 : Ieee.single.leastPlace = -149 := by rfl
  have hr : rung < 2147483648 := Nat.lt_trans h (by decide)
  have a1 : (Ieee.single.word neg rung) / Ieee.single.signWeight % 2 = if neg then 1 else 0 := by
    unfold Ieee.Format.word
    rw [e1]
    cases neg
    · simp; omega
    · simp; omega
  have a2 : (Ieee.single.word neg rung) % Ieee.single.signWeight = rung := by
    unfold Ieee.Format.word
    rw [e1]
    cases neg
    · simp; omega
    · simp; omega
  have a3 : ((Ieee.single.word neg rung) / Ieee.single.signWeight % 2 == 1) = neg := by rw [a1]; cases neg <;> rfl
  unfold Ieee.Format.read
  simp only [a2, a3, e2, e3, e4, if_pos h]

theorem nearest_fin (neg : Bool) (mag : Nat) (place : Int) (L : Int) (hL : place + mag.log2 ≤ L) (hL2 : L ≤ 100) (hL3 : -100 ≤ L) : Fin32 (L - 21) (Ieee.single.nearest neg mag place) := by
  unfold Ieee.Format.nearest
  by_cases h0 : mag = 0
  · rw [if_pos h0]
    have := read_word neg 0 (by decide)
    rw [if_pos (by decide)] at this
    exact ⟨neg, 0, -149, this, by decide, by omega⟩
  rw [if_neg h0]
  have e2 : Ieee.single.binade = 2 ^ 23 := by rfl
  have e3 : Ieee.single.infRung = 255 * 2 ^ 23 := by rfl
  have e4 : Ieee.single.leastPlace = -149 := by rfl
  have e5 : (Ieee.single.fractionBits : Int) = 23 := by rfl
  simp only [e2, e3, e4, e5]
  obtain ⟨last, hlast⟩ : ∃ last, last = max (place + (mag.log2 : Int) - 23) (-149) := ⟨_, rfl⟩
  rw [← hlast]
  have hmag : mag < 2 ^ (mag.log2 + 1) := Nat.lt_log2_self
  have hkept : Ieee.Toward.even.cut neg (mag <<< (place - last).toNat) (last - place).toNat ≤ 2 ^ 24 := by
    apply cut_le
    rw [Nat.shiftLeft_eq]
    by_cases hc : last ≤ place
    · have : (last - place).toNat = 0 := by omega
      rw [this, Nat.add_zero]
      calc mag * 2 ^ (place - last).toNat < 2 ^ (mag.log2 + 1) * 2 ^ (place - last).toNat := Nat.mul_lt_mul_of_pos_right hmag (Nat.two_pow_pos _)
        _ = 2 ^ (mag.log2 + 1 + (place - last).toNat) := (Nat.pow_add 2 _ _).symm
        _ ≤ 2 ^ 24 := Nat.pow_le_pow_right (by decide) (by omega)
    · have : (place - last).toNat = 0 := by omega
      rw [this, Nat.pow_zero, Nat.mul_one]
      exact Nat.lt_of_lt_of_le hmag (Nat.pow_le_pow_right (by decide) (by omega))
  generalize Ieee.Toward.even.cut neg (mag <<< (place - last).toNat) (last - place).toNat = kept at *
  obtain ⟨A, hA⟩ : ∃ A : Nat, A = (last - -149).toNat := ⟨_, rfl⟩
  have hA2 : (A : Int) ≤ max (L + 126) 0 := by omega
  rw [← hA]
  have hk : kept ≤ 2 * 2 ^ 23 := by simpa using hkept
  have hrung : A * 2 ^ 23 + kept ≤ (A + 2) * 2 ^ 23 := by rw [Nat.add_mul]; omega
  have hA3 : A + 2 ≤ 228 := by omega
  have hlt : A * 2 ^ 23 + kept < 255 * 2 ^ 23 := Nat.lt_of_le_of_lt hrung (Nat.lt_of_le_of_lt (Nat.mul_le_mul_right _ hA3) (by decide))
  rw [Nat.min_eq_left (Nat.le_of_lt hlt)]
  obtain ⟨R, hR⟩ : ∃ R, R = A * 2 ^ 23 + kept := ⟨_, rfl⟩
  rw [← hR] at hlt hrung ⊢
  have hq : R / 2 ^ 23 ≤ A + 2 := Nat.div_le_of_le_mul (by rw [Nat.mul_comm]; exact hrung)
  have hm := Nat.mod_lt R (Nat.two_pow_pos 23)
  rw [Fin32, read_word neg R hlt]
  by_cases hr : R < 2 ^ 23
  · rw [if_pos hr]
    exact ⟨neg, R, -149, rfl, Nat.lt_trans hr (by decide), by omega⟩
  · rw [if_neg hr]
    refine ⟨neg, _, _, rfl, ?_, ?_⟩
    · have : (2 : Nat) ^ 24 = 2 ^ 23 + 2 ^ 23 := by decide
      omega
    · omega

theorem log2_le {n k : Nat} (h : n < 2 ^ (k + 1)) : n.log2 ≤ k := by
  by_cases h0 : n = 0
  · subst h0; simp [Nat.log2_zero]
  · exact Nat.le_of_lt_succ ((Nat.log2_lt h0).2 h)

theorem ofInt_fin (n : Int) (h1 : -1000 ≤ n) (h2 : n ≤ 1000) : Fin32 (-12) (floatOfInt .f32 n) := by
  have : n.natAbs.log2 ≤ 9 := log2_le (by omega)
  exact nearest_fin (n < 0) n.natAbs 0 9 (by omega) (by decide) (by decide)

theorem mul_fin {x y : Nat} (hx : Fin32 (-12) x) (hy : Fin32 (-12) y) : ∃ r, Ieee.single.mul x y = some r ∧ Fin32 2 r := by
  obtain ⟨s, m, p, e, hm, hp⟩ := hx
  obtain ⟨s', m', p', e', hm', hp'⟩ := hy
  refine ⟨_, by unfold Ieee.Format.mul; rw [e, e']; rfl, ?_⟩
  have h48 : m * m' < 2 ^ (47 + 1) := by
    rw [show (2 : Nat) ^ (47 + 1) = 2 ^ 24 * 2 ^ 24 by decide]
    exact Nat.mul_lt_mul'' hm hm'
  have := log2_le h48
  exact nearest_fin _ (m * m') (p + p') 23 (by omega) (by decide) (by decide)
theorem sub_some {P Q : Int} {x y : Nat} (hx : Fin32 P x) (hy : Fin32 Q y) : ∃ r, Ieee.single.sub x y = some r := by
  obtain ⟨s, m, p, e, hm, hp⟩ := hx
  obtain ⟨s', m', p', e', hm', hp'⟩ := hy
  exact ⟨_, by unfold Ieee.Format.sub; rw [e, e']; rfl⟩

set_option maxHeartbeats 1000000 in
theorem size_any (l t r b : Int) (w : World) (h1 : 0 ≤ l) (h2 : 0 ≤ t) (h3 : 0 ≤ r) (h4 : 0 ≤ b) (g1 : l ≤ 300) (g2 : t ≤ 300) (g3 : r ≤ 300) (g4 : b ≤ 300) :
    Calls Tryz.prog 157 #[.agg #[.int .i64 l, .int .i64 t, .int .i64 r, .int .i64 b]] w fun e w' => (∃ f, e = .returned (.float .f32 f) ∧ Fin32 2 f) ∧ Below w.heap.size w w' := by
  obtain ⟨x, hx, HX⟩ := mul_fin (ofInt_fin (r - l + 1) (by omega) (by omega)) (ofInt_fin (b - t + 1) (by omega) (by omega))
  have hrun : ∀ W : World, Sem.run Tryz.prog (binOp BinOp.mul 237 (.float .f32 (floatOfInt .f32 (r - l + 1))) (.float .f32 (floatOfInt .f32 (b - t + 1)))) W = .ok (.float .f32 x) W := fun W => run_float_arith W BinOp.mul 114 .f32 _ _ x hx
  have HF : Hid (Fin32 2 x) := HX
  clear HX hx
  go_enter Tryz.func157, Tryz.ntmps157
  go_wp2
  go_ret
  exact ⟨⟨x, rfl, HF.out⟩, (Below.refl _ _).alloc (Nat.le_refl _) _⟩

end Go.Proofs.YtbphndloichnaaaGreatDoor
