import Derived.Test.YtenaepdmlknlcaaGreatDoorF07
import Derived.Test.YtenaepdmlknlcaaGreatDoorF02
import Derived.Deep.RegionLaw
namespace Go.Proofs.YtenaepdmlknlcaaGreatDoor
open Go.RowKit Go.Shelf

/-- How many of a list's first things are c. -/
def lead (c : Nat) : List Nat → Nat
  | [] => 0
  | d :: r => if d = c then lead c r + 1 else 0
theorem lead_le (c : Nat) : ∀ l : List Nat, lead c l ≤ l.length
  | [] => Nat.le_refl _
  | d :: r => by simp only [lead]; split <;> (have := lead_le c r; simp; try omega)
/-- The runs of a list. -/
def rle : List Nat → List (Nat × Nat)
  | [] => []
  | c :: r => (lead c r + 1, c) :: rle (r.drop (lead c r))
termination_by l => l.length
decreasing_by simp; omega
theorem lead_spec (c : Nat) : ∀ (l : List Nat) (k : Nat), k ≤ l.length → (∀ j, j < k → l[j]? = some c) → l[k]? ≠ some c → lead c l = k
  | [], k, hk, _, _ => by simp at hk; subst hk; rfl
  | d :: r, 0, _, _, hn => by
    simp at hn
    simp [lead, hn]
  | d :: r, k + 1, hk, h, hn => by
    have h0 := h 0 (by omega)
    simp at h0
    subst h0
    simp only [lead, if_true]
    rw [lead_spec d r k (by simpa using hk) (fun j hj => by have := h (j + 1) (by omega); simpa using this) (by simpa using hn)]

def txt (n c : Nat) : ByteArray := ⟨(Lib.decDigits n ++ [120] ++ Lib.decDigits c).toArray⟩
def txts (cs : List Nat) : List ByteArray := (rle cs).map fun r => txt r.1 r.2

theorem info9 : (Tryz.prog.info? 9).map (fun i => (i.zero, i.size, i.bytes)) = some (some (.string ⟨#[]⟩), 1, 16) := by kernel_rfl

theorem step_append_own {P : Program} {ops : Array Oper} {o : Oper} {a : Act} {w : World} {K : Act → World → Prop} {Q : Exit → Act → World → Prop} {E : Prop} (hgd : o.guard = none) (s x : Operand) (t : TypeId)
    (ho : o.op = .call { callee := .builtin .append, args := #[s, x], argTypes := #[t, t] })
    (base : Nat) (e : TypeId) (i : TypeInfo) (z : Value) (size bytes : Nat) (ht : P.underlying t = some (.slice e)) (hi : P.info? e = some i) (hz : i.zero = some z)
    (hsize : i.size = size) (hby : i.bytes = bytes) (hzs : z.cells.size = size) (hsz : 0 < size)
    (v : Value) (n : Nat) (xs : List Value) (hs : a.eval s = v) (hown : w.ownsRow base e size v n xs)
    (ad : Addr) (m c : Nat) (news : List Value) (hx : a.eval x = .slice (some ad) m c) (hl : news.length = m * size) (hnews : ∀ j u, news[j]? = some u → w.cell? (ad.add j) = some u) (h1 : ∀ u ∈ news, u.oneCell' = true)
    (h63 : n + m ≤ maxLen) (hbytes : (n + m) * bytes ≤ 140737488355328) (hbase : base ≤ w.heap.size)
    (h : ∀ v' w', w'.ownsRow base e size v' (n + m) (xs ++ news) → w.grownBy w' v.ownBlock → K (a.put o.dst v') w') :
    if Region.wanted o (yielded ops a.tmps) = true then Oper.wp P o a w K Q else E := by
  rw [if_pos (by simp [Region.wanted, hgd])]
  exact wp_append_own w s x t ho base e i z size bytes ht hi hz hsize hby hzs hsz v n xs hs hown ad m c news hx hl hnews h1 h63 hbytes hbase fun v' w' h2 h3 _ => h v' w' h2 h3

theorem decDigits_short (u : Nat) (h : u < 100) : (Lib.decDigits u).length ≤ 2 := by
  unfold Lib.decDigits
  split
  · simp
  · rw [List.length_append]
    unfold Lib.decDigits
    rw [dif_pos (by omega)]
    simp

theorem rle_bd : ∀ (n : Nat) (cs : List Nat), cs.length ≤ n → (rle cs).length ≤ cs.length ∧ ∀ p ∈ rle cs, p.1 ≤ cs.length ∧ p.2 ∈ cs
  | _, [], _ => by simp [rle]
  | 0, c :: r, h => by simp at h
  | n + 1, c :: r, h => by
    have hl := lead_le c r
    have ih := rle_bd n (r.drop (lead c r)) (by simp at h ⊢; omega)
    rw [List.length_drop] at ih
    rw [rle]
    refine ⟨by simp; omega, fun p hp => ?_⟩
    rcases List.mem_cons.1 hp with rfl | hp
    · exact ⟨by simp; omega, by simp⟩
    · have := ih.2 p hp
      exact ⟨by simp; omega, List.mem_cons_of_mem _ (List.mem_of_mem_drop this.2)⟩
theorem joinTail_short (sep : List UInt8) (hs : sep.length = 1) : ∀ (l : List (List UInt8)), (∀ x ∈ l, x.length ≤ 5) → (Lib.joinTail sep l).length ≤ 6 * l.length
  | [], _ => by simp [Lib.joinTail]
  | x :: r, h => by
    have h1 := joinTail_short sep hs r (fun y hy => h y (by simp [hy]))
    have h2 := h x (by simp)
    simp only [Lib.joinTail, List.map_cons, List.flatten_cons, List.length_append, List.length_cons] at h1 ⊢
    omega
theorem join_short (cs : List Nat) (hc : ∀ c ∈ cs, c < 100) (hn : cs.length ≤ 64) : (Lib.join ((txts cs).map (·.data.toList)) ((⟨#[44]⟩ : ByteArray)).data.toList).length ≤ 140737488355328 := by
  have hb := rle_bd cs.length cs (Nat.le_refl _)
  have hx : ∀ x ∈ (txts cs).map (·.data.toList), x.length ≤ 5 := by
    intro x hx
    simp only [txts, List.map_map, List.mem_map, Function.comp] at hx
    obtain ⟨p, hp, rfl⟩ := hx
    have h1 := hb.2 p hp
    have h2 := decDigits_short p.1 (by omega)
    have h3 := decDigits_short p.2 (hc _ h1.2)
    simp [txt]; omega
  have hl : ((txts cs).map (·.data.toList)).length ≤ 64 := by simp [txts]; omega
  generalize (txts cs).map (·.data.toList) = l at *
  cases l with
  | nil => simp [Lib.join_nil]
  | cons x r =>
    rw [Lib.join_cons, List.length_append]
    have h1 := joinTail_short ((⟨#[44]⟩ : ByteArray)).data.toList rfl r (fun y hy => hx y (by simp [hy]))
    have h2 := hx x (by simp)
    simp at hl
    omega

set_option maxRecDepth 100000 in
set_option maxHeartbeats 2000000 in
theorem runs_any (b off n cap : Nat) (cs : List Nat) (w : World) (hb : b < w.heap.size) (hcs : ∀ (j : Nat) c, cs[j]? = some c → w.cell? ⟨b, off + j, none⟩ = some (.int .i64 (c : Int))) (hc : ∀ c ∈ cs, c < 100) (hn : n = cs.length) (hn1 : 1 ≤ n) (hn2 : n ≤ 64) (hcap : n ≤ cap) (hcap2 : cap ≤ 64) :
    Calls Tryz.prog 58 #[.slice (some ⟨b, off, none⟩) n cap] w fun e w' => e = .returned (.string ⟨(Lib.join ((txts cs).map (·.data.toList)) [44]).toArray⟩) ∧ Below w.heap.size w w' := by
  have Hn : Hid (n = cs.length) := hn
  have Hcs : Hid (∀ (j : Nat) c, cs[j]? = some c → w.cell? ⟨b, off + j, none⟩ = some (.int .i64 (c : Int))) := hcs
  have Hc : Hid (∀ c ∈ cs, c < 100) := hc
  clear hn hcs hc
  go_enter Tryz.func58, Tryz.ntmps58
  go_wp2
  go_loopw [0, 3] (fun s out wr => ∃ (rest : List Nat) (done : List ByteArray) (o c : Nat), s = .slice (some ⟨b, o, none⟩) rest.length c ∧ rest.length ≤ c ∧ c ≤ 64 ∧ rest.length + done.length ≤ 64 ∧ (∀ (j : Nat) x, rest[j]? = some x → w.cell? ⟨b, o + j, none⟩ = some (.int .i64 (x : Int))) ∧ (∀ x ∈ rest, x < 100) ∧ wr.ownsRow w.heap.size 9 1 out done.length (done.map .string) ∧ done ++ txts rest = txts cs ∧ Below w.heap.size w wr) (fun s _ _ => match s with | .slice _ m _ => m | _ => 0)
  case atStart => exact ⟨cs, [], off, cap, by rw [Hn.out], by rw [← Hn.out]; exact hcap, hcap2, by rw [← Hn.out]; simp; omega, Hcs.out, Hc.out, World.ownsRow_nil _ _ _ _, by simp, Below.refl _ _⟩
  case round =>
    obtain ⟨rest, done, o, c, rfl, hrc, hc64, hlen, hcell, hlt, hown, hdone, hB⟩ := hrel
    have Hcell : Hid (∀ (j : Nat) x, rest[j]? = some x → w.cell? ⟨b, o + j, none⟩ = some (.int .i64 (x : Int))) := hcell
    have Hlt : Hid (∀ x ∈ rest, x < 100) := hlt
    have Hown : Hid (wr.ownsRow w.heap.size 9 1 u3 done.length (done.map .string)) := hown
    have Hdone : Hid (done ++ txts rest = txts cs) := hdone
    clear hcell hlt hown hdone
    cases rest with
    | nil =>
      have hz : ((0 : Int) < (([] : List Nat).length : Int)) = False := by simp
      have Hd2 : Hid (done = txts cs) := by show done = txts cs; rw [← Hdone.out]; simp [txts, rle]
      have HdL : Hid (done.length ≤ 64) := by show done.length ≤ 64; simpa using hlen
      have hne : ∃ k, done.length = k + 1 := by
        have h1 : done = txts cs := Hd2.out
        have h2 : cs ≠ [] := by intro e; have := Hn.out; rw [e] at this; simp at this; omega
        cases hcs : cs with
        | nil => exact absurd hcs h2
        | cons a l => rw [h1, hcs, txts, rle]; exact ⟨_, by rw [List.map_cons, List.length_cons]⟩
      obtain ⟨k, hk⟩ := hne
      have hown := Hown.out
      rw [hk] at hown
      obtain ⟨g, cp, hu3⟩ := ownsRow_succ hown
      have hg := hown.lt
      rw [hu3] at hg hown
      have hglt := (hg g rfl).2
      have hcp : k + 1 ≤ cp := by
        rcases hown.2 with ⟨h, _⟩ | ⟨g', c', cur, h, _, _, hle, _⟩
        · cases h
        · cases h; exact hle
      have hj : ∀ (j : Nat) x, done[j]? = some x → wr.cell? ⟨g, 0 + j, none⟩ = some (.string x) := fun j x hjx => by
        have hjl := (List.getElem?_eq_some_iff.1 hjx).1
        rw [Nat.zero_add, hown.cellAt j (by omega)]
        simp [hjx]
      have hjoin := Tryz.strings_Join g 0 cp done ⟨#[44]⟩ wr hj hglt (by have := HdL.out; omega) (by omega) (by
        have h1 : done = txts cs := Hd2.out
        rw [h1]
        exact join_short cs Hc.out (by have := Hn.out; omega))
      rw [hk] at hjoin
      have HJ : Hid _ := hjoin
      clear hjoin hj hown hg Hown
      rw [hu3]
      go_wp2_with (go_at_call 97; refine Calls.mono HJ.out ?_; rintro e w2 ⟨rfl, hb2⟩)
      go_ret
      refine ⟨?_, hB.trans (hb2.mono hB.size)⟩
      rw [Hd2.out]
      rfl
    | cons c0 r =>
      have Hr : Hid ((c0 :: r).length = r.length + 1) := rfl
      have hmpos : 0 < (c0 :: r).length := by simp
      generalize hm : (c0 :: r).length = m at *
      have Hm : Hid ((c0 :: r).length = m) := hm
      clear hm
      have hmI : (0 : Int) < (m : Int) := by omega
      have hm64 : m ≤ 64 := by omega
      have hk0 : wr.cell? ⟨b, o, none⟩ = some (.int .i64 (c0 : Int)) := (hB.cell (p := ⟨b, o, none⟩) hb).trans (by have := Hcell.out 0 c0 rfl; simpa using this)
      have hc0 : c0 < 100 := Hlt.out c0 (by simp)
      obtain ⟨wo, rfl⟩ : ∃ wo : World, wo = wr := ⟨_, rfl⟩
      go_wp2
      go_loopw [4] (fun k wi => ∃ (i q : Nat), 1 ≤ i ∧ i ≤ m ∧ k = .int .i64 i ∧ (∀ j, 1 ≤ j → j < i → (c0 :: r)[j]? = some c0) ∧ wi = wo.drewN q) (fun k _ => m - (intOf k).toNat)
      case atStart => exact ⟨1, 0, by omega, by omega, rfl, fun j h1 h2 => by omega, rfl⟩
      case round =>
        obtain ⟨i, q, hi1, hi2, rfl, hall, rfl⟩ := hrel
        have Hall : Hid (∀ j, 1 ≤ j → j < i → (c0 :: r)[j]? = some c0) := hall
        clear hall
        by_cases hgo : i < m ∧ (c0 :: r)[i]? = some c0
        · obtain ⟨him, hic⟩ := hgo
          have hki : wo.cell? ⟨b, o + i, none⟩ = some (.int .i64 (c0 : Int)) := (hB.cell (p := ⟨b, o + i, none⟩) hb).trans (Hcell.out i c0 hic)
          have hiI : (i : Int) < (m : Int) := by omega
          have hi0 : (0 : Int) ≤ (i : Int) := by omega
          have Hic : Hid ((c0 :: r)[i]? = some c0) := hic
          clear hic
          go_wp2_with fail
          go_quiet (fail)
          go_wp2
          go_roundw
          case rel =>
            refine ⟨i + 1, _, by omega, by omega, by go_num, fun j h1 h2 => ?_, rfl⟩
            by_cases hj : j = i
            · rw [hj]; exact Hic.out
            · exact Hall.out j h1 (by omega)
          case measure => simp [intOf]; omega
        · have Hlead : Hid (lead c0 r + 1 = i) := by
            show lead c0 r + 1 = i
            obtain ⟨i', rfl⟩ : ∃ i', i = i' + 1 := ⟨i - 1, by omega⟩
            have hmr := Hm.out
            have hrl := Hr.out
            rw [lead_spec c0 r i' (by omega) (fun j hj => by have := Hall.out (j + 1) (by omega) (by omega); simpa using this) (fun h => hgo ⟨by
              have := (List.getElem?_eq_some_iff.1 h).1; omega, by simpa using h⟩)]
          have hex : (∃ v : Nat, i < m ∧ (c0 :: r)[i]? = some v ∧ v ≠ c0) ∨ ¬ i < m := by
            by_cases him : i < m
            · left
              have hil : i < (c0 :: r).length := by rw [Hm.out]; exact him
              exact ⟨(c0 :: r)[i], him, List.getElem?_eq_getElem hil, fun e => hgo ⟨him, by rw [List.getElem?_eq_getElem hil, e]⟩⟩
            · exact .inr him
          clear hgo Hall
          rcases hex with ⟨v, him, hiv, hne⟩ | him
          · have hki : wo.cell? ⟨b, o + i, none⟩ = some (.int .i64 (v : Int)) := (hB.cell (p := ⟨b, o + i, none⟩) hb).trans (Hcell.out i v hiv)
            have hiI : (i : Int) < (m : Int) := by omega
            have hi0 : (0 : Int) ≤ (i : Int) := by omega
            have hbe : ((v : Int) == (c0 : Int)) = false := by rw [beq_eq_false_iff_ne]; omega
            clear hiv
            go_wp2_with fail
            go_quiet (fail)
            go_upto_region 6 with fail
            obtain ⟨wd, hwd⟩ : ∃ wd, (wo.drewN q).drewN nq = wd := ⟨_, rfl⟩
            have hd0 : wd.cell? ⟨b, o, none⟩ = some (.int .i64 (c0 : Int)) := by rw [← hwd]; exact hk0
            have hBd : Below w.heap.size w wd := by rw [← hwd]; exact below_drewN (below_drewN hB q) nq
            have Hod : Hid (wd.ownsRow w.heap.size 9 1 u3 done.length (done.map .string)) := by show wd.ownsRow _ _ _ _ _ _; rw [← hwd]; exact Hown.out
            rw [hwd]
            clear hwd hk0 hB Hown
            have hd1 : (0 : Int) < (m : Int) := hmI
            obtain ⟨i9, hi9, hz90, hz91, hz92⟩ := info_parts info9
            have HI : Hid (Tryz.prog.info? 9 = some i9 ∧ i9.zero = some (.string ⟨#[]⟩) ∧ i9.size = 1 ∧ i9.bytes = 16) := ⟨hi9, hz90, hz91, hz92⟩
            clear hi9 hz90 hz91 hz92
            have hL1 := decDigits_short i (by omega)
            have hL2 := decDigits_short c0 (by omega)
            have hcatA : (9223372036854775807 < (Lib.decDigits i).length + 1) = False := eq_false (by omega)
            have hcatB : (9223372036854775807 < (Lib.decDigits i).length + 1 + (Lib.decDigits c0).length) = False := eq_false (by omega)
            have HodA : Hid (∀ x : Obj, ((wd.alloc x).drew).ownsRow w.heap.size 9 1 u3 done.length (done.map .string)) := fun x => Hod.out.alloc x
            clear hL1 hL2
            have hbd : b < wd.heap.size := Nat.lt_of_lt_of_le hb hBd.size
            have hdl : done.length + m ≤ 64 := by omega
            go_cut [3] (fun v wc => wc.ownsRow w.heap.size 9 1 v (done.length + 1) (done.map .string ++ [.string (txt i c0)]) ∧ Below w.heap.size w wc)
            case first =>
              go_region_held3 (fun w' => w'.cell? ⟨b, o, none⟩ = some (.int .i64 (c0 : Int))) (first | exact s3 | (simp [go_sem, *]; done))
                (first
                | (go_at_call_of 96 (Value.int IntKind.i64 (i : Int)); refine (Tryz.strconv_Itoa_small i (by omega) _).mono ?_; rintro e w2 ⟨rfl, rfl⟩)
                | (go_at_call_of 96 (Value.int IntKind.i64 (c0 : Int)); refine (Tryz.strconv_Itoa_small c0 hc0 _).mono ?_; rintro e w2 ⟨rfl, rfl⟩)
                | (refine step_append_own rfl (.tmp 24) (.tmp 33) 79 rfl w.heap.size 9 i9 (.string ⟨#[]⟩) 1 16 Tryz.underlying79 HI.out.1 HI.out.2.1 HI.out.2.2.1 HI.out.2.2.2 rfl (by decide) u3 done.length (done.map .string) rfl (HodA.out _) ⟨wd.heap.size, 0, none⟩ 1 1 [.string (⟨(Lib.decDigits i).toArray⟩ ++ ⟨#[120]⟩ ++ ⟨(Lib.decDigits c0).toArray⟩)] rfl rfl (fun j u hj => by
                      rw [addr_add]
                      match j, hj with
                      | 0, hj => simp at hj; subst hj; simp [go_sem]
                      | j + 1, hj => simp at hj) (fun u hu => by simp at hu; subst hu; rfl) (by unfold maxLen; omega) (by omega) (by have := hBd.size; simp; omega) ?_; intro v3 w3 hown3 hgrow3; have Hown3 : Hid (w3.ownsRow w.heap.size 9 1 v3 (done.length + 1) (done.map .string ++ [.string (⟨(Lib.decDigits i).toArray⟩ ++ ⟨#[120]⟩ ++ ⟨(Lib.decDigits c0).toArray⟩)])) := hown3; have s3 : w3.cell? ⟨b, o, none⟩ = some (.int .i64 (c0 : Int)) := (hgrow3.cell (a := ⟨b, o, none⟩) (show _ = some (Value.int .i64 (c0 : Int)) from (by simp [go_sem, *])) (fun e => (by have := (Hod.out.lt b e.symm).1; omega))); have hB3 : Below w.heap.size w w3 := (((hBd.alloc hBd.size _).drew).grown hgrow3 (by have := hBd.size; simp; omega) (fun k hk => (Hod.out.lt k hk).1)); clear hown3 hgrow3))
              all_goals
                go_wp2_with fail
                go_meet
                refine ⟨?_, hB3⟩
                have h := Hown3.out
                rw [ByteArray.mk_append_mk _ [120], ByteArray.mk_append_mk] at h
                exact h
            case rest =>
              have HCut : Hid _ := hcut
              clear hcut Hod HodA hBd hd0
              have HR : Hid ((r.drop (lead c0 r)).length = m - i) := by
                show (r.drop (lead c0 r)).length = m - i
                have h1 := Hm.out; have h2 := Hr.out; have h3 := Hlead.out
                rw [List.length_drop]; omega
              have HT : Hid (txts (c0 :: r) = txt i c0 :: txts (r.drop (lead c0 r))) := by
                show txts (c0 :: r) = _
                rw [txts, rle, List.map_cons, Hlead.out]; rfl
              have HD : Hid (∀ (j : Nat) x, (r.drop (lead c0 r))[j]? = some x → (c0 :: r)[i + j]? = some x) := fun j x hj => by
                rw [List.getElem?_drop] at hj
                rw [← Hlead.out, show lead c0 r + 1 + j = (lead c0 r + j) + 1 from by omega, List.getElem?_cons_succ]
                exact hj
              have hiI2 : (i : Int) ≤ (m : Int) := by omega
              have hi02 : (0 : Int) ≤ (i : Int) := by omega
              by_cases hci : c = i
              · go_wp2
                refine ⟨⟨r.drop (lead c0 r), done ++ [txt i c0], o, 0, by rw [HR.out], by rw [HR.out]; omega, by omega, by rw [HR.out]; simp; omega, fun j x hj => absurd (List.getElem?_eq_some_iff.1 hj).1 (by rw [HR.out]; omega), fun x hx => Hlt.out x (List.mem_cons_of_mem _ (List.mem_of_mem_drop hx)), by simpa using HCut.out.1, by rw [← Hdone.out, HT.out]; simp, HCut.out.2⟩, by show m - i < m; omega⟩
              · go_wp2
                refine ⟨⟨r.drop (lead c0 r), done ++ [txt i c0], o + i, c - i, by rw [HR.out], by rw [HR.out]; omega, by omega, by rw [HR.out]; simp; omega, fun j x hj => by rw [show o + i + j = o + (i + j) from by omega]; exact Hcell.out (i + j) x (HD.out j x hj), fun x hx => Hlt.out x (List.mem_cons_of_mem _ (List.mem_of_mem_drop hx)), by simpa using HCut.out.1, by rw [← Hdone.out, HT.out]; simp, HCut.out.2⟩, by show m - i < m; omega⟩
          · have hdd : decide ((i : Int) < (m : Int)) = false := by rw [decide_eq_false_iff_not]; omega
            go_wp2_with fail
            go_quiet (fail)
            go_upto_region 6 with fail
            obtain ⟨wd, hwd⟩ : ∃ wd, (wo.drewN q).drewN nq = wd := ⟨_, rfl⟩
            have hd0 : wd.cell? ⟨b, o, none⟩ = some (.int .i64 (c0 : Int)) := by rw [← hwd]; exact hk0
            have hBd : Below w.heap.size w wd := by rw [← hwd]; exact below_drewN (below_drewN hB q) nq
            have Hod : Hid (wd.ownsRow w.heap.size 9 1 u3 done.length (done.map .string)) := by show wd.ownsRow _ _ _ _ _ _; rw [← hwd]; exact Hown.out
            rw [hwd]
            clear hwd hk0 hB Hown
            have hd1 : (0 : Int) < (m : Int) := hmI
            obtain ⟨i9, hi9, hz90, hz91, hz92⟩ := info_parts info9
            have HI : Hid (Tryz.prog.info? 9 = some i9 ∧ i9.zero = some (.string ⟨#[]⟩) ∧ i9.size = 1 ∧ i9.bytes = 16) := ⟨hi9, hz90, hz91, hz92⟩
            clear hi9 hz90 hz91 hz92
            have hL1 := decDigits_short i (by omega)
            have hL2 := decDigits_short c0 (by omega)
            have hcatA : (9223372036854775807 < (Lib.decDigits i).length + 1) = False := eq_false (by omega)
            have hcatB : (9223372036854775807 < (Lib.decDigits i).length + 1 + (Lib.decDigits c0).length) = False := eq_false (by omega)
            have HodA : Hid (∀ x : Obj, ((wd.alloc x).drew).ownsRow w.heap.size 9 1 u3 done.length (done.map .string)) := fun x => Hod.out.alloc x
            clear hL1 hL2
            have hbd : b < wd.heap.size := Nat.lt_of_lt_of_le hb hBd.size
            have hdl : done.length + m ≤ 64 := by omega
            go_cut [3] (fun v wc => wc.ownsRow w.heap.size 9 1 v (done.length + 1) (done.map .string ++ [.string (txt i c0)]) ∧ Below w.heap.size w wc)
            case first =>
              go_region_held3 (fun w' => w'.cell? ⟨b, o, none⟩ = some (.int .i64 (c0 : Int))) (first | exact s3 | (simp [go_sem, *]; done))
                (first
                | (go_at_call_of 96 (Value.int IntKind.i64 (i : Int)); refine (Tryz.strconv_Itoa_small i (by omega) _).mono ?_; rintro e w2 ⟨rfl, rfl⟩)
                | (go_at_call_of 96 (Value.int IntKind.i64 (c0 : Int)); refine (Tryz.strconv_Itoa_small c0 hc0 _).mono ?_; rintro e w2 ⟨rfl, rfl⟩)
                | (refine step_append_own rfl (.tmp 24) (.tmp 33) 79 rfl w.heap.size 9 i9 (.string ⟨#[]⟩) 1 16 Tryz.underlying79 HI.out.1 HI.out.2.1 HI.out.2.2.1 HI.out.2.2.2 rfl (by decide) u3 done.length (done.map .string) rfl (HodA.out _) ⟨wd.heap.size, 0, none⟩ 1 1 [.string (⟨(Lib.decDigits i).toArray⟩ ++ ⟨#[120]⟩ ++ ⟨(Lib.decDigits c0).toArray⟩)] rfl rfl (fun j u hj => by
                      rw [addr_add]
                      match j, hj with
                      | 0, hj => simp at hj; subst hj; simp [go_sem]
                      | j + 1, hj => simp at hj) (fun u hu => by simp at hu; subst hu; rfl) (by unfold maxLen; omega) (by omega) (by have := hBd.size; simp; omega) ?_; intro v3 w3 hown3 hgrow3; have Hown3 : Hid (w3.ownsRow w.heap.size 9 1 v3 (done.length + 1) (done.map .string ++ [.string (⟨(Lib.decDigits i).toArray⟩ ++ ⟨#[120]⟩ ++ ⟨(Lib.decDigits c0).toArray⟩)])) := hown3; have s3 : w3.cell? ⟨b, o, none⟩ = some (.int .i64 (c0 : Int)) := (hgrow3.cell (a := ⟨b, o, none⟩) (show _ = some (Value.int .i64 (c0 : Int)) from (by simp [go_sem, *])) (fun e => (by have := (Hod.out.lt b e.symm).1; omega))); have hB3 : Below w.heap.size w w3 := (((hBd.alloc hBd.size _).drew).grown hgrow3 (by have := hBd.size; simp; omega) (fun k hk => (Hod.out.lt k hk).1)); clear hown3 hgrow3))
              all_goals
                go_wp2_with fail
                go_meet
                refine ⟨?_, hB3⟩
                have h := Hown3.out
                rw [ByteArray.mk_append_mk _ [120], ByteArray.mk_append_mk] at h
                exact h
            case rest =>
              have HCut : Hid _ := hcut
              clear hcut Hod HodA hBd hd0
              have HR : Hid ((r.drop (lead c0 r)).length = m - i) := by
                show (r.drop (lead c0 r)).length = m - i
                have h1 := Hm.out; have h2 := Hr.out; have h3 := Hlead.out
                rw [List.length_drop]; omega
              have HT : Hid (txts (c0 :: r) = txt i c0 :: txts (r.drop (lead c0 r))) := by
                show txts (c0 :: r) = _
                rw [txts, rle, List.map_cons, Hlead.out]; rfl
              have HD : Hid (∀ (j : Nat) x, (r.drop (lead c0 r))[j]? = some x → (c0 :: r)[i + j]? = some x) := fun j x hj => by
                rw [List.getElem?_drop] at hj
                rw [← Hlead.out, show lead c0 r + 1 + j = (lead c0 r + j) + 1 from by omega, List.getElem?_cons_succ]
                exact hj
              have hiI2 : (i : Int) ≤ (m : Int) := by omega
              have hi02 : (0 : Int) ≤ (i : Int) := by omega
              by_cases hci : c = i
              · go_wp2
                refine ⟨⟨r.drop (lead c0 r), done ++ [txt i c0], o, 0, by rw [HR.out], by rw [HR.out]; omega, by omega, by rw [HR.out]; simp; omega, fun j x hj => absurd (List.getElem?_eq_some_iff.1 hj).1 (by rw [HR.out]; omega), fun x hx => Hlt.out x (List.mem_cons_of_mem _ (List.mem_of_mem_drop hx)), by simpa using HCut.out.1, by rw [← Hdone.out, HT.out]; simp, HCut.out.2⟩, by show m - i < m; omega⟩
              · go_wp2
                refine ⟨⟨r.drop (lead c0 r), done ++ [txt i c0], o + i, c - i, by rw [HR.out], by rw [HR.out]; omega, by omega, by rw [HR.out]; simp; omega, fun j x hj => by rw [show o + i + j = o + (i + j) from by omega]; exact Hcell.out (i + j) x (HD.out j x hj), fun x hx => Hlt.out x (List.mem_cons_of_mem _ (List.mem_of_mem_drop hx)), by simpa using HCut.out.1, by rw [← Hdone.out, HT.out]; simp, HCut.out.2⟩, by show m - i < m; omega⟩

end Go.Proofs.YtenaepdmlknlcaaGreatDoor
