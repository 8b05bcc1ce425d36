import Derived.Test.YtenaepdmlknlcaaGreatDoorF46
namespace Go.Proofs.YtenaepdmlknlcaaGreatDoor
open Go.RowKit Go.Shelf

/-- The tiles that Settled asks for. -/
def askT (t : Tl) : List Tl := [⟨0, 0, 0⟩, ⟨1, 0, 0⟩, ⟨1, 1, 1⟩, ⟨2, 1, 2⟩, t]
def askS (t : Tl) : List ByteArray := [⟨#[103, 101, 116, 32, 48, 32, 48, 32, 48]⟩, ⟨#[103, 101, 116, 32, 49, 32, 48, 32, 48]⟩, ⟨#[103, 101, 116, 32, 49, 32, 49, 32, 49]⟩, ⟨#[103, 101, 116, 32, 50, 32, 49, 32, 50]⟩, getT t]
theorem getT_size (q : Rq) : (getT (tileZ q)).size ≤ 200 := by
  obtain ⟨h0, h1⟩ := pkZ_bd q.a 4 (by decide)
  have hp : 0 < powZ (pkZ q.a 4) ∧ powZ (pkZ q.a 4) ≤ 8 := by unfold powZ; split <;> (try split) <;> (try split) <;> omega
  obtain ⟨h2, h3⟩ := pkZ_bd q.b _ hp.1
  obtain ⟨h4, h5⟩ := pkZ_bd q.c _ hp.1
  have b1 := decZ_size (n := (tileZ q).z) (by simp only [tileZ]; omega) (by simp only [tileZ]; omega)
  have b2 := decZ_size (n := (tileZ q).c) (by simp only [tileZ]; omega) (by simp only [tileZ]; omega)
  have b3 := decZ_size (n := (tileZ q).r) (by simp only [tileZ]; omega) (by simp only [tileZ]; omega)
  have e : (getT (tileZ q)).size = 4 + (decZ (tileZ q).z).size + 1 + (decZ (tileZ q).c).size + 1 + (decZ (tileZ q).r).size := by
    unfold getT
    simp only [ByteArray.size_append]
    rfl
  omega
theorem askS_read (q : Rq) : ∀ (i : Nat) (x : ByteArray), (askS (tileZ q))[i]? = some x → x.size ≤ 200 ∧ ∃ t, (askT (tileZ q))[i]? = some t ∧ readP x = .get t ⟨#[]⟩
  | 0, x, h => by simp [askS] at h; subst h; exact ⟨by decide +kernel, _, rfl, by kernel_rfl⟩
  | 1, x, h => by simp [askS] at h; subst h; exact ⟨by decide +kernel, _, rfl, by kernel_rfl⟩
  | 2, x, h => by simp [askS] at h; subst h; exact ⟨by decide +kernel, _, rfl, by kernel_rfl⟩
  | 3, x, h => by simp [askS] at h; subst h; exact ⟨by decide +kernel, _, rfl, by kernel_rfl⟩
  | 4, x, h => by simp [askS] at h; subst h; exact ⟨getT_size q, _, rfl, by rw [get_join]; exact readP_getW (tileZ_good q) (.inl rfl)⟩
  | i + 5, x, h => by simp [askS] at h
/-- What a get is told. -/
def toldT (fs : List Feat) (t : Tl) : ByteArray := tellS ⟨#[]⟩ (bodyF fs t)
theorem told_len (fs : List Feat) (t : Tl) : 13 ≤ (toldT fs t).size := by
  unfold toldT
  rw [tell_new]
  simp only [ByteArray.size_append, mark_size]
  show 13 ≤ 4 + 8 + 1 + _
  omega
/-- What the first asks are told. -/
def toldL (fs : List Feat) (t : Tl) (k : Nat) : List Value := ((askT t).take k).map fun t => .string (toldT fs t)
theorem toldL_succ (fs : List Feat) (t : Tl) {k : Nat} {u : Tl} (h : (askT t)[k]? = some u) : toldL fs t (k + 1) = toldL fs t k ++ [.string (toldT fs u)] := by
  unfold toldL; rw [List.take_add_one, h]; simp
theorem toldL_len (fs : List Feat) (t : Tl) {k : Nat} (h : k ≤ 5) : (toldL fs t k).length = k := by
  unfold toldL; rw [List.length_map, List.length_take]; show min k 5 = k; omega
theorem ask_get {a : Atl} {T : Int} {fs : List Feat} (h : AskOk a T fs) (hT : T + 6 < 4611686018427387904) {x : ByteArray} (hx : x.size ≤ 200) {t : Tl} (hr : readP x = .get t ⟨#[]⟩) : AskOk (askM a x) (T + 6) fs ∧ ansR a.g.fs (readP x) = toldT fs t := by
  have := ask_ok h hT hx
  rw [hr] at this
  exact ⟨this, by rw [hr, h.fs]; rfl⟩

/-- A play that is asked, the texts that it is asked, and a row of what it told. -/
structure SetAt (b0 p A : Nat) (Z : Nat → Prop) (v : Nat → Value) (Z' : Nat → Prop) (v' : Nat → Value) (Q : Pl) (T : Int) (fs : List Feat) (ab : Nat) (tx : List ByteArray) (f : Value) (xs : List Value) (w1 wr : World) : Prop where
  pn : PN b0 p A Z v Z' v' Q w1 wr
  ask : AskOk Q.a T fs
  tx : ∀ (i : Nat) (x : ByteArray), tx[i]? = some x → wr.cell? ⟨ab, i, none⟩ = some (.string x)
  nb : ¬ PB Z' p v' ab
  b1 : w1.heap.size ≤ ab
  lt : ab < wr.heap.size
  row : wr.ownsRow (ab + 1) 9 1 f xs.length xs
  rb : ∀ b, f.ownBlock = some b → ¬ PB Z' p v' b
theorem SetAt.next {b0 p A : Nat} {Z : Nat → Prop} {v : Nat → Value} {Z' Z'' : Nat → Prop} {v' : Nat → Value} {Q Q' : Pl} {T T' : Int} {fs fs' : List Feat} {ab : Nat} {tx : List ByteArray} {f : Value} {xs : List Value} {w1 wr wq : World} (h : SetAt b0 p A Z v Z' v' Q T fs ab tx f xs w1 wr) (k : PN b0 p A Z' v' Z'' v' Q' wr wq) (ha : AskOk Q'.a T' fs') : SetAt b0 p A Z v Z'' v' Q' T' fs' ab tx f xs w1 wq := by
  have hn : ∀ b, b < wr.heap.size → ¬ PB Z' p v' b → ¬ PB Z'' p v' b := fun b hl hb e => (k.sub b e).elim hb (fun e' => by omega)
  exact ⟨h.pn.trans k, ha, fun i x hx => (k.fr.cell ab i h.lt h.nb).trans (h.tx i x hx), hn ab h.lt h.nb, h.b1, Nat.lt_of_lt_of_le h.lt k.fr.size, ownsRow_fr' k.fr h.row (fun b i e e' => h.rb b e e'), fun b e => hn b (h.row.lt b e).2 (h.rb b e)⟩
theorem SetAt.told {b0 p A : Nat} {Z : Nat → Prop} {v : Nat → Value} {Z' : Nat → Prop} {v' : Nat → Value} {Q : Pl} {T : Int} {fs : List Feat} {ab : Nat} {tx : List ByteArray} {f f' : Value} {xs : List Value} {u : Value} {w1 wr wq : World} {o : Obj} (h : SetAt b0 p A Z v Z' v' Q T fs ab tx f xs w1 wr) (hb0 : b0 ≤ ab) (hg : Fr (fun c _ => f.ownBlock = some c) (wr.alloc o) wq) (hrow : wq.ownsRow 0 9 1 f' (xs.length + 1) (xs ++ [u])) (hf : ∀ b, f'.ownBlock = some b → f.ownBlock = some b ∨ wr.heap.size ≤ b) : SetAt b0 p A Z v Z' v' Q T fs ab tx f' (xs ++ [u]) w1 wq := by
  have hF : Fr (fun c _ => f.ownBlock = some c) wr wq := (Fr.of_below ((Below.refl _ _).alloc (Nat.le_refl _) o)).trans hg
  have hpl : PlayAt wq b0 p A Z' v' Q := h.pn.pl.fr hF fun b i e => ⟨by have := (h.row.lt b e).1; omega, h.rb b e⟩
  have hab : ¬ f.ownBlock = some ab := fun e => by have := (h.row.lt ab e).1; omega
  refine ⟨⟨hpl, h.pn.sub, h.pn.fr.trans_new hF fun b i hb e => by have := (h.row.lt b e).1; have := h.b1; omega⟩, h.ask, fun i x hx => (hF.cell ab i h.lt hab).trans (h.tx i x hx), h.nb, h.b1, Nat.lt_of_lt_of_le h.lt hF.size, by rw [List.length_append]; exact ownsRow_base hrow (fun b e => (hf b e).elim (fun e => (h.row.lt b e).1) (fun e => by have := h.lt; omega)), fun b e hb => ?_⟩
  rcases hf b e with e1 | e1
  · exact h.rb b e1 hb
  · have := (h.pn.pl.pb hb).2; omega
theorem wpList_append_any {P : Program} {w : World} {ops : Array Oper} {rest : List Oper} {o : Oper} {a : Act} {Q : Exit → Act → World → Prop} (hg : o.guard = none) (s x : Operand) (t : TypeId) (hop : o.op = Op.call { callee := Callee.builtin Builtin.append, args := #[s, x], argTypes := #[t, t] })
    (e : TypeId) (i : TypeInfo) (z : Value) (size bytes : Nat) (h1 : P.underlying t = some (.slice e)) (h2 : P.info? e = some i) (h3 : i.zero = some z) (h4 : i.size = size) (h5 : i.bytes = bytes) (h6 : z.cells.size = size) (h7 : 0 < size)
    (v : Value) (n : Nat) (xs : List Value) (hs : a.eval s = v) (hown : w.ownsRow 0 e size v n xs)
    (ad : Addr) (m c : Nat) (news : List Value) (hx : a.eval x = .slice (some ad) m c) (hn : news.length = m * size) (hc : ∀ j u, news[j]? = some u → w.cell? (ad.add j) = some u) (h1c : ∀ u ∈ news, u.oneCell' = true)
    (b1 : n + m ≤ maxLen) (b2 : (n + m) * bytes ≤ 140737488355328)
    (h : ∀ v' w', w'.ownsRow 0 e size v' (n + m) (xs ++ news) → (∀ k, v'.ownBlock = some k → v.ownBlock = some k ∨ w.heap.size ≤ k) → Fr (fun c _ => v.ownBlock = some c) w w' → wpList P ops Q rest (a.put o.dst v') w') : wpList P ops Q (o :: rest) a w := by
  obtain ⟨v', w', hrun, r1, r2, r3⟩ := run_append_any (P := P) w t o.type e i z size bytes h1 h2 h3 h4 h5 h6 h7 v n xs hown ad m c news hn hc h1c b1 b2
  refine wpList_plain hg fun K hK => ?_
  unfold Oper.wp
  simp [execOp, hop, resolve, invoke, builtin, hs, hx, hrun, Result.andThen]
  exact hK _ _ (h v' w' r1 r2 r3)
theorem info9s : (Tryz.prog.info? 9).map (fun i => (i.zero, i.size, i.bytes)) = some (some (.string ⟨#[]⟩), 1, 16) := by kernel_rfl

set_option maxRecDepth 100000 in
set_option maxHeartbeats 8000000 in
theorem Settled_any (r : Int) (hr : i64 r) (a : Option Addr) (n cap : Nat) (l : List Stt) (q : Rq) (hq : RqOk q) (pa : Option Addr) (pn pc : Nat) (w : World) (g : Gl w) (hl : ScrAt w w.heap.size a l) (hn : n = l.length) (hlen : n ≤ 2199023255488) (hcap : n ≤ cap) :
    Calls Tryz.prog 9 #[.int .i64 r, .slice a n cap, rqV q (.slice pa pn pc)] w fun e w' => e = .returned (.bool true) ∧ Below w.heap.size w w' := by
  have hB0 : ∀ o : Obj, Below w.heap.size w (w.alloc o) := fun o => (Below.refl _ _).alloc (Nat.le_refl _) _
  have HBg : Hid (∀ W : World, Below w.heap.size w W → Calls Tryz.prog 16 #[.int .i64 r] W fun e w' => ∃ (p A : Nat) (Z : Nat → Prop) (v : Nat → Value), e = .returned (.tuple #[.pointer (some ⟨p, 0, none⟩), .bool true]) ∧ PlayAt w' W.heap.size p A Z v (newP r) ∧ Below W.heap.size W w') := fun W hW => begin_at r hr W (g.fr (M := fun _ _ => False) (Fr.of_below hW) (fun _ _ _ e => e))
  have HS : Hid (ScrAt w w.heap.size a l) := hl
  have Hn : Hid (n = l.length) := hn
  have h8 : 8 ≤ w.heap.size := by have := g.sz; omega
  have hb := play_bounds (newP r) 1000000 (newP_ok r) l l.length (Nat.le_refl _)
  have hsn := seen_play (newP r) 1000000 (seen_new r) l (by omega) l.length (Nat.le_refl _)
  rw [List.take_of_length_le (Nat.le_refl _)] at hb hsn
  have HSn : Hid (Seen (playP (newP r) 1000000 l).1 4000000000000) := hsn.mono (by omega)
  have HL : Hid (∀ j, j < 4 → ((playP (newP r) 1000000 l).1.all j).length ≤ 2000000) := fun j hj => by
    have := play_most (newP r) 1000000 (by decide) l j
    have e : ((newP r).all j).length = 0 := rfl
    omega
  have ht : (playP (newP r) 1000000 l).1.time ≤ 4000000000000 := by
    have := hb.t
    have e : (newP r).time = 0 := rfl
    omega
  have HPl : Hid (∀ (W : World) (p A : Nat) (Z : Nat → Prop) (v : Nat → Value), Below w.heap.size w W → PlayAt W w.heap.size p A Z v (newP r) → Calls Tryz.prog 24 #[.pointer (some ⟨p, 0, none⟩), .slice a n cap, .int .i64 1000000] W fun e w' => e = .returned (.bool true) ∧ ∃ Z' v', PN w.heap.size p A Z v Z' v' (playP (newP r) 1000000 l).1 W w') := fun W p A Z v hB hP => play_any hP (newP_ok r) (fun j _ => by show (0 : Nat) ≤ 1000; omega) (by show (0 : Int) ≤ 1000; omega) a n cap l (HS.out.below hB) Hn.out hlen hcap 1000000 (by decide) (by decide)
  obtain ⟨P1, hP1⟩ : ∃ x, (playP (newP r) 1000000 l).1 = x := ⟨_, rfl⟩
  rw [hP1] at HSn HL ht HPl
  have Ht : Hid (P1.time ≤ 4000000000000) := ht
  have HTl : Hid (∀ W : World, Calls Tryz.prog 20 #[rqV q (.slice pa pn pc)] W fun e w' => e = .returned (.agg #[.int .i64 (tileZ q).z, .int .i64 (tileZ q).c, .int .i64 (tileZ q).r]) ∧ Below W.heap.size W w') := fun W => qtile_any q hq pa pn pc W
  have HRd : Hid (∀ (i : Nat) (x : ByteArray), (askS (tileZ q))[i]? = some x → x.size ≤ 200 ∧ ∃ t, (askT (tileZ q))[i]? = some t ∧ readP x = .get t ⟨#[]⟩) := askS_read q
  obtain ⟨tz0, tz1, tc0, tc1, tr0, tr1⟩ : 0 ≤ (tileZ q).z ∧ (tileZ q).z ≤ 3 ∧ 0 ≤ (tileZ q).c ∧ (tileZ q).c ≤ 7 ∧ 0 ≤ (tileZ q).r ∧ (tileZ q).r ≤ 7 := by
    obtain ⟨h0, h1⟩ := pkZ_bd q.a 4 (by decide)
    have hp : 0 < powZ (pkZ q.a 4) ∧ powZ (pkZ q.a 4) ≤ 8 := by unfold powZ; split <;> (try split) <;> (try split) <;> omega
    obtain ⟨h2, h3⟩ := pkZ_bd q.b _ hp.1
    obtain ⟨h4, h5⟩ := pkZ_bd q.c _ hp.1
    simp only [tileZ]
    omega
  obtain ⟨tl, htl⟩ : ∃ T, tileZ q = T := ⟨_, rfl⟩
  rw [htl] at HTl HRd tz0 tz1 tc0 tc1 tr0 tr1
  obtain ⟨x, y, z⟩ := tl
  dsimp only at HTl tz0 tz1 tc0 tc1 tr0 tr1
  clear hb hsn hP1 hl hn g HS Hn ht htl hq
  obtain ⟨qk, qa, qb, qc, qd, qps⟩ := q
  dsimp only [rqV] at *
  go_enter Tryz.func9, Tryz.ntmps9
  go_wp2_with (first
    | (go_at_call 16; refine Calls.mono (HBg.out _ (hB0 _)) ?_; rintro e w1 ⟨p, A, Z, v, rfl, hp1, hb1⟩; dsimp only; have hs1 : w.heap.size + 1 ≤ w1.heap.size := (by have := hb1.size; simpa using this); have HP1 : Hid (PlayAt w1 w.heap.size p A Z v (newP r)) := hp1.weaken (by simp) h8 (fun _ _ => rfl); have HB1 : Hid (Below w.heap.size w w1) := (hB0 _).trans (hb1.mono (by simp)); have HNb : Hid (¬ PB Z p v w.heap.size) := (fun e => by have := (hp1.pb e).1; simp at this; omega); have hq0 : ∀ i u, ([.int .i64 qk, .int .i64 qa, .int .i64 qb, .int .i64 qc, .int .i64 qd, .slice pa pn pc] : List Value)[i]? = some u → w1.cell? ⟨w.heap.size, i, none⟩ = some u := (fun i u hi => (hb1.cell (p := ⟨w.heap.size, i, none⟩) (by simp)).trans (by show (w.alloc _).cell? _ = _; rw [World.cell?_alloc_new]; simpa using hi)); have HQ1 : Hid _ := hq0; clear hp1 hb1 hq0)
    | (go_at_call 24; refine Calls.mono (HPl.out _ _ _ _ _ HB1.out HP1.out) ?_; rintro e w2 ⟨rfl, Z1, v1, hpn⟩; dsimp only; have HN1 : Hid (PN w.heap.size p A Z v Z1 v1 P1 w1 w2) := hpn; clear hpn))
  go_loopw [8, 9] (fun ok i wr => ∃ k : Nat, k ≤ 2304 ∧ ok = .bool true ∧ i = .int .i64 k ∧ ∃ Z' v', PN w.heap.size p A Z v Z' v' (rrP P1 k) w1 wr) (fun _ i _ => 2304 - (intOf i).toNat)
  case atStart => exact ⟨0, Nat.zero_le _, rfl, rfl, Z1, v1, HN1.out⟩
  case round =>
    obtain ⟨k, hk, rfl, rfl, Zk, vk, hpn⟩ := hrel
    have HNk : Hid (PN w.heap.size p A Z v Zk vk (rrP P1 k) w1 wr) := hpn
    clear hpn
    by_cases hlt : k < 2304
    · have hkI : (k : Int) < 2304 := by omega
      obtain ⟨m, hm⟩ : ∃ m, k % 4 = m := ⟨_, rfl⟩
      have hm4 : m < 4 := by omega
      have hmI : (k : Int).tmod 4 = (m : Int) := by rw [Int.tmod_eq_emod_of_nonneg (by omega)]; omega
      have hmI2 : (k : Int) % 4 = (m : Int) := by omega
      have HK : Hid (Calls Tryz.prog 18 #[.pointer (some ⟨p, 0, none⟩), .int .i64 (m : Int)] wr (PickD w.heap.size p A m Zk vk (rrP P1 k) wr)) := pick_any HNk.out.pl (seen_rr HSn.out (by omega) k (by omega)).ok hm4 (by rw [rr_len]; have := HL.out m hm4; omega) (by rw [rr_time]; have := Ht.out; omega)
      have HNx : Hid (rrP P1 (k + 1) = pickP (rrP P1 k) m) := by show pickP (rrP P1 k) (k % 4) = _; rw [hm]
      clear hm
      go_wp2_with (go_at_call 18; refine Calls.mono HK.out ?_; rintro e w3 ⟨rfl, Z3, v3, hpn⟩; dsimp only; have HN3 : Hid _ := hpn; clear hpn)
      go_roundw
      case rel => exact ⟨k + 1, by omega, rfl, by go_num, Z3, v3, by rw [HNx.out]; exact HNk.out.trans HN3.out⟩
      case measure => simp [intOf]; omega
    · obtain rfl : k = 2304 := by omega
      obtain ⟨hask, hids, hw0⟩ := rr_end HSn.out (by omega)
      have hlk := hask.quiet.lk
      have hc0 := HNk.out.pl.c0
      have HLk := Look_in HNk.out.pl.atl (by have := fs_len hask.fair.ok.g.fs; omega)
      rw [hw0, hlk] at HLk
      have HLk' : Hid _ := HLk
      have HAs : Hid _ := hask
      have HId : Hid _ := hids.fs
      have hq1 : ∀ i u, ([.int .i64 qk, .int .i64 qa, .int .i64 qb, .int .i64 qc, .int .i64 qd, .slice pa pn pc] : List Value)[i]? = some u → wr.cell? ⟨w.heap.size, i, none⟩ = some u := fun i u hi => (HNk.out.fr.cell w.heap.size i (by omega) HNb.out).trans (HQ1.out i u hi)
      have k0 := hq1 0 _ rfl
      have k1 := hq1 1 _ rfl
      have k2 := hq1 2 _ rfl
      have k3 := hq1 3 _ rfl
      have k4 := hq1 4 _ rfl
      have k5 := hq1 5 _ rfl
      have hszr : w.heap.size < wr.heap.size := by have := HNk.out.fr.size; omega
      clear hask hids hw0 hlk HLk hq1
      obtain ⟨P2, hP2⟩ : ∃ x, rrP P1 2304 = x := ⟨_, rfl⟩
      rw [hP2] at HNk HLk' HAs HId
      clear hP2 HSn HL Ht
      go_wp2_with (first
        | (go_at_call 26; refine Calls.mono HLk'.out ?_; rintro e w4 ⟨rfl, hb4⟩; dsimp only; have HB4 : Hid (Below wr.heap.size wr w4) := hb4; have hs4 := hb4.size; have k0' := (hb4.cell (p := ⟨w.heap.size, 0, none⟩) hszr).trans k0; have k1' := (hb4.cell (p := ⟨w.heap.size, 1, none⟩) hszr).trans k1; have k2' := (hb4.cell (p := ⟨w.heap.size, 2, none⟩) hszr).trans k2; have k3' := (hb4.cell (p := ⟨w.heap.size, 3, none⟩) hszr).trans k3; have k4' := (hb4.cell (p := ⟨w.heap.size, 4, none⟩) hszr).trans k4; have k5' := (hb4.cell (p := ⟨w.heap.size, 5, none⟩) hszr).trans k5; have hsw : w.heap.size < w4.heap.size := (by omega); clear hb4)
        | (go_at_call 20; refine Calls.mono (HTl.out _) ?_; rintro e w5 ⟨rfl, hb5⟩; dsimp only; have HB5 : Hid _ := hb5; clear hb5))
      have HD1 : Hid (∀ W : World, Calls Tryz.prog 21 #[.int .i64 x] W fun e w' => e = .returned (.string (decZ x)) ∧ w' = W) := fun W => decimal_any x (by omega) (by omega) W
      have HD2 : Hid (∀ W : World, Calls Tryz.prog 21 #[.int .i64 y] W fun e w' => e = .returned (.string (decZ y)) ∧ w' = W) := fun W => decimal_any y (by omega) (by omega) W
      have HD3 : Hid (∀ W : World, Calls Tryz.prog 21 #[.int .i64 z] W fun e w' => e = .returned (.string (decZ z)) ∧ w' = W) := fun W => decimal_any z (by omega) (by omega) W
      have hsz1 := decZ_size (n := x) (by omega) (by omega)
      have hsz2 := decZ_size (n := y) (by omega) (by omega)
      have hsz3 := decZ_size (n := z) (by omega) (by omega)
      have HgT : Hid (getT ⟨x, y, z⟩ = ⟨#[103, 101, 116, 32]⟩ ++ decZ x ++ ⟨#[32]⟩ ++ decZ y ++ ⟨#[32]⟩ ++ decZ z) := rfl
      obtain ⟨s1, hs1⟩ : ∃ s, decZ x = s := ⟨_, rfl⟩
      obtain ⟨s2, hs2⟩ : ∃ s, decZ y = s := ⟨_, rfl⟩
      obtain ⟨s3, hs3⟩ : ∃ s, decZ z = s := ⟨_, rfl⟩
      rw [hs1] at HD1 hsz1 HgT
      rw [hs2] at HD2 hsz2 HgT
      rw [hs3] at HD3 hsz3 HgT
      have hcat1 : (9223372036854775807 < 4 + s1.size) = False := eq_false (by omega)
      have hcat2 : (9223372036854775807 < 4 + s1.size + 1) = False := eq_false (by omega)
      have hcat3 : (9223372036854775807 < 4 + s1.size + 1 + s2.size) = False := eq_false (by omega)
      have hcat4 : (9223372036854775807 < 4 + s1.size + 1 + s2.size + 1) = False := eq_false (by omega)
      have hcat5 : (9223372036854775807 < 4 + s1.size + 1 + s2.size + 1 + s3.size) = False := eq_false (by omega)
      clear hs1 hs2 hs3 k0 k1 k2 k3 k4 k5 k0' k1' k2' k3' k4' k5'
      go_region_held3 (fun w' => w'.cell? ⟨w5.heap.size, 0, none⟩ = some (.int .i64 x) ∧ w'.cell? ⟨w5.heap.size, 1, none⟩ = some (.int .i64 y) ∧ w'.cell? ⟨w5.heap.size, 2, none⟩ = some (.int .i64 z)) (first | (simp [go_sem]; done) | (simp [go_sem, *]; done))
          (first
            | (go_at_call_of 21 (Value.int IntKind.i64 x); refine Calls.mono (HD1.out _) ?_; rintro e w3 ⟨rfl, rfl⟩; dsimp only)
            | (go_at_call_of 21 (Value.int IntKind.i64 y); refine Calls.mono (HD2.out _) ?_; rintro e w3 ⟨rfl, rfl⟩; dsimp only)
            | (go_at_call_of 21 (Value.int IntKind.i64 z); refine Calls.mono (HD3.out _) ?_; rintro e w3 ⟨rfl, rfl⟩; dsimp only))
      have hs5 : wr.heap.size ≤ w5.heap.size := by have := HB5.out.size; simp at this; omega
      have HBr : Hid (Below wr.heap.size wr w5) := (HB4.out.alloc hs4 _).trans (HB5.out.mono (by simp; omega))
      have hw1 := HNk.out.fr.size
      have HS0 : Hid (SetAt w.heap.size p A Z v Zk vk P2 4000000002304 P2.a.g.fs (w5.heap.size + 1) (askS ⟨x, y, z⟩) (.slice none 0 0) [] w1 (((w5.alloc (.cells #[.int .i64 x, .int .i64 y, .int .i64 z] 24)).alloc (.cells #[.string ⟨#[103, 101, 116, 32, 48, 32, 48, 32, 48]⟩, .string ⟨#[103, 101, 116, 32, 49, 32, 48, 32, 48]⟩, .string ⟨#[103, 101, 116, 32, 49, 32, 49, 32, 49]⟩, .string ⟨#[103, 101, 116, 32, 50, 32, 49, 32, 50]⟩, .string (⟨#[103, 101, 116, 32]⟩ ++ s1 ++ ⟨#[32]⟩ ++ s2 ++ ⟨#[32]⟩ ++ s3)] 9)).drew)) := by
        refine ⟨HNk.out.trans (HNk.out.pl.grow (((HBr.out.alloc hs5 _).alloc (by simp; omega) _).drew)), HAs.out, fun i u hu => ?_, fun e => ?_, by omega, by simp, World.ownsRow_nil _ _ _ _, fun b e => by cases e⟩
        · show ((w5.alloc _).alloc _).cell? ⟨w5.heap.size + 1, i, none⟩ = _
          have e1 : (w5.alloc (.cells #[.int .i64 x, .int .i64 y, .int .i64 z] 24)).heap.size = w5.heap.size + 1 := by simp
          rw [← e1, World.cell?_alloc_new]
          unfold askS at hu
          rw [HgT.out] at hu
          match i, hu with
          | 0, hu => simp at hu; subst hu; rfl
          | 1, hu => simp at hu; subst hu; rfl
          | 2, hu => simp at hu; subst hu; rfl
          | 3, hu => simp at hu; subst hu; rfl
          | 4, hu => simp at hu; subst hu; rfl
          | i + 5, hu => simp at hu
        · have := (HNk.out.pl.pb e).2; omega
      obtain ⟨i9, hi0, hz0, hz1, hz2⟩ := info_parts info9s
      have HI : Hid (Tryz.prog.info? 9 = some i9 ∧ i9.zero = some (.string ⟨#[]⟩) ∧ i9.size = 1 ∧ i9.bytes = 16) := ⟨hi0, hz0, hz1, hz2⟩
      clear hi0 hz0 hz1 hz2
      go_wp2
      go_loopw [13, 14] (fun f i wr => ∃ k : Nat, k ≤ 5 ∧ i = .int .i64 k ∧ ∃ (Z' : Nat → Prop) (a' : Atl) (fv : Value), f = fv ∧ SetAt w.heap.size p A Z v Z' vk { P2 with a := a' } (4000000002304 + 6 * (k : Int)) P2.a.g.fs (w5.heap.size + 1) (askS ⟨x, y, z⟩) fv (toldL P2.a.g.fs ⟨x, y, z⟩ k) w1 wr) (fun _ i _ => 5 - (intOf i).toNat)
      case atStart => exact ⟨0, Nat.zero_le _, rfl, Zk, P2.a, _, rfl, HS0.out⟩
      case round =>
        obtain ⟨k, hk, rfl, Z7, a7, fv, rfl, hset⟩ := hrel
        have HSt : Hid (SetAt w.heap.size p A Z v Z7 vk { P2 with a := a7 } (4000000002304 + 6 * (k : Int)) P2.a.g.fs (w5.heap.size + 1) (askS ⟨x, y, z⟩) u13 (toldL P2.a.g.fs ⟨x, y, z⟩ k) w1 wr) := hset
        clear hset
        by_cases hlt : k < 5
        · have hkI : (k : Int) < 5 := by omega
          have hkn : ¬ (k : Int) < 0 := by omega
          obtain ⟨tx, htx⟩ : ∃ tx, (askS ⟨x, y, z⟩)[k]? = some tx := ⟨_, List.getElem?_eq_getElem (by show k < 5; omega)⟩
          have hctx := HSt.out.tx k tx htx
          obtain ⟨hsz, t, ht, hrd⟩ := HRd.out k tx htx
          obtain ⟨hok', hans⟩ := ask_get HSt.out.ask (by omega) hsz hrd
          have HAk := ask_any HSt.out.pn.pl HSt.out.ask (by omega) tx hsz
          unfold AskPost at HAk
          dsimp only at HAk hans
          rw [hans] at HAk
          have hlen13 := told_len P2.a.g.fs t
          have HAk' : Hid _ := HAk
          have Hok' : Hid _ := hok'
          have HTs : Hid _ := toldL_succ P2.a.g.fs ⟨x, y, z⟩ ht
          have HTl' : Hid _ := toldL_len P2.a.g.fs ⟨x, y, z⟩ hk
          obtain ⟨an, han⟩ : ∃ y, toldT P2.a.g.fs t = y := ⟨_, rfl⟩
          rw [han] at HAk' hlen13 HTs
          clear HAk hok' hans htx hrd ht han
          have hl13 : ¬ (an.size : Int) < 13 := by omega
          go_wp2_with (first
            | (go_at_call 22; refine Calls.mono HAk'.out ?_; rintro e w8 ⟨rfl, Z8, hpn⟩; dsimp only; have HS8 : Hid _ := HSt.out.next hpn Hok'.out; clear hpn)
            | (at_builtin; refine wpList_append_any rfl (.tmp 99) (.tmp 101) 79 rfl 9 i9 (.string ⟨#[]⟩) 1 16 Tryz.underlying79 HI.out.1 HI.out.2.1 HI.out.2.2.1 HI.out.2.2.2 rfl (by decide) u13 (toldL P2.a.g.fs ⟨x, y, z⟩ k).length (toldL P2.a.g.fs ⟨x, y, z⟩ k) rfl ((ownsRow_base0 HS8.out.row).alloc _) ⟨w8.heap.size, 0, none⟩ 1 1 [.string an] rfl rfl (fun j u hj => by
                  rw [addr_add]
                  match j, hj with
                  | 0, hj => simp at hj; subst hj; simp [go_sem]
                  | j + 1, hj => simp at hj) (fun u hu => by simp at hu; subst hu; rfl) (by unfold maxLen; have := HTl'.out; omega) (by have := HTl'.out; omega) ?_; intro v9 w9 hown9 hfr9 hF9; have HO9 : Hid _ := HS8.out.told (by omega) hF9 hown9 (fun b e => (hfr9 b e).imp id (fun e => by simp at e; omega)); clear hown9 hF9 hfr9))
          go_roundw
          case rel =>
            refine ⟨k + 1, by omega, by go_num, Z8, askM a7 tx, _, rfl, ?_⟩
            rw [HTs.out, show (4000000002304 + 6 * ((k + 1 : Nat) : Int)) = 4000000002304 + 6 * (k : Int) + 6 by omega]
            exact HO9.out
          case measure => simp [intOf]; omega
        · obtain rfl : k = 5 := by omega
          have htl5 := toldL_len P2.a.g.fs ⟨x, y, z⟩ (Nat.le_refl 5)
          have hrow0 := HSt.out.row
          obtain ⟨fa, fcap, hu13, hfc, hfg⟩ := row_form hrow0
          rw [htl5] at hu13 hfc hfg
          obtain ⟨fb, rfl, _⟩ := hfg (by omega)
          subst hu13
          clear hrow0 hfg
          have HSt5 : Hid (SetAt w.heap.size p A Z v Z7 vk { P2 with a := a7 } 4000000002334 P2.a.g.fs (w5.heap.size + 1) (askS ⟨x, y, z⟩) (.slice (some ⟨fb, 0, none⟩) 5 fcap) (toldL P2.a.g.fs ⟨x, y, z⟩ 5) w1 wr) := HSt.out
          obtain ⟨m1, m2, m3, m4⟩ := settled_mid HSt5.out.ask (by omega) HId.out
          have hp1 := ask_ok HSt5.out.ask (by omega) (x := tPut98) (by decide +kernel)
          have HPut := ask_any HSt5.out.pn.pl HSt5.out.ask (by omega) tPut98 (by decide +kernel)
          unfold AskPost at HPut
          dsimp only at HPut m1 m2 m3 m4 hp1
          have ef : a7.g.fs = P2.a.g.fs := HSt5.out.ask.fs
          rw [ef, m2] at HPut
          have HPut' : Hid (Calls Tryz.prog 22 #[.pointer (some ⟨p, 0, none⟩), .string ⟨#[112, 117, 116, 32, 57, 56, 32, 97, 114, 101, 97, 32, 48, 32, 49, 32, 48, 44, 48, 32, 50, 53, 53, 44, 48, 32, 50, 53, 53, 44, 50, 53, 53, 32, 48, 44, 50, 53, 53]⟩] wr fun e w' => e = .returned (.tuple #[.string ⟨#[50, 48, 49]⟩, .bool true]) ∧ ∃ Z', PN w.heap.size p A Z7 vk Z' vk { P2 with a := askM a7 tPut98 } wr w') := HPut
          have HDel : Hid (∀ (W : World) (Z9 : Nat → Prop), PlayAt W w.heap.size p A Z9 vk { P2 with a := askM a7 tPut98 } → Calls Tryz.prog 22 #[.pointer (some ⟨p, 0, none⟩), .string ⟨#[100, 101, 108, 32, 57, 56]⟩] W fun e w' => e = .returned (.tuple #[.string ⟨#[50, 48, 48]⟩, .bool true]) ∧ ∃ Z', PN w.heap.size p A Z9 vk Z' vk { P2 with a := askM (askM a7 tPut98) tDel98 } W w') := fun W Z9 hW => by
            have hd := ask_any hW hp1 (by omega) tDel98 (by decide +kernel)
            unfold AskPost at hd
            dsimp only at hd
            rw [m3] at hd
            exact hd
          have Hp1 : Hid _ := hp1
          have Hm1 : Hid _ := m1
          have Hm4 : Hid _ := m4
          clear HSt HPut m1 m2 m3 m4 hp1 ef htl5
          go_wp2_with fail
          refine Calls.mono HPut'.out ?_
          rintro e w8 ⟨rfl, Z8, hpn⟩
          dsimp only
          have HS8 : Hid (SetAt w.heap.size p A Z v Z8 vk { P2 with a := askM a7 tPut98 } (4000000002334 + 6) _ (w5.heap.size + 1) (askS ⟨x, y, z⟩) (.slice (some ⟨fb, 0, none⟩) 5 fcap) (toldL P2.a.g.fs ⟨x, y, z⟩ 5) w1 w8) := HSt5.out.next hpn Hp1.out
          clear hpn
          go_wp2_with (go_at_call 22; refine Calls.mono (HDel.out _ _ HS8.out.pn.pl) ?_; rintro e w9 ⟨rfl, Z9, hpn⟩; dsimp only; have HS9 : Hid (SetAt w.heap.size p A Z v Z9 vk { P2 with a := askM (askM a7 tPut98) tDel98 } (4000000002334 + 12) P2.a.g.fs (w5.heap.size + 1) (askS ⟨x, y, z⟩) (.slice (some ⟨fb, 0, none⟩) 5 fcap) (toldL P2.a.g.fs ⟨x, y, z⟩ 5) w1 w9) := HS8.out.next hpn Hm1.out; clear hpn)
          obtain ⟨a9, ha9⟩ : ∃ y, askM (askM a7 tPut98) tDel98 = y := ⟨_, rfl⟩
          rw [ha9] at HS9 Hm4
          clear ha9 HS8 Hp1 Hm1 HPut' HDel HSt5
          go_loopw [21] (fun i wr => ∃ k : Nat, k ≤ 4 ∧ i = .int .i64 k ∧ SetAt w.heap.size p A Z v Z9 vk { P2 with a := a9 } (4000000002334 + 12) P2.a.g.fs (w5.heap.size + 1) (askS ⟨x, y, z⟩) (.slice (some ⟨fb, 0, none⟩) 5 fcap) (toldL P2.a.g.fs ⟨x, y, z⟩ 5) w1 wr) (fun i _ => 4 - (intOf i).toNat)
          case atStart => exact ⟨0, Nat.zero_le _, rfl, HS9.out⟩
          case round =>
            obtain ⟨k, hk, rfl, hset⟩ := hrel
            have HSk : Hid (SetAt w.heap.size p A Z v Z9 vk { P2 with a := a9 } (4000000002334 + 12) P2.a.g.fs (w5.heap.size + 1) (askS ⟨x, y, z⟩) (.slice (some ⟨fb, 0, none⟩) 5 fcap) (toldL P2.a.g.fs ⟨x, y, z⟩ 5) w1 wr) := hset
            have hc0 := hset.pn.pl.c0
            clear hset
            by_cases hlt : k < 4
            · have hkI : (k : Int) < 4 := by omega
              have HKp := Kept_in HSk.out.pn.pl.atl hlt
              dsimp only at HKp
              rw [Hm4.out k hlt] at HKp
              have HKp' : Hid _ := HKp
              clear HKp
              go_wp2_with (go_at_call 27; refine Calls.mono HKp'.out ?_; rintro e w10 ⟨va, mk, kcap, rfl, hmk, _, hb10⟩; dsimp only; obtain rfl : mk = 0 := hmk; have HB10 : Hid (Below wr.heap.size wr w10) := hb10; clear hb10)
              go_roundw
              case rel => exact ⟨k + 1, by omega, by go_num, HSk.out.next (HSk.out.pn.pl.grow HB10.out) HSk.out.ask⟩
              case measure => simp [intOf]; omega
            · obtain rfl : k = 4 := by omega
              clear HS9 hc0
              go_wp2
              go_loopw [24] (fun i wr => ∃ k : Nat, k ≤ 5 ∧ i = .int .i64 k ∧ ∃ (Z' : Nat → Prop) (a' : Atl), SetAt w.heap.size p A Z v Z' vk { P2 with a := a' } (4000000002346 + 6 * (k : Int)) P2.a.g.fs (w5.heap.size + 1) (askS ⟨x, y, z⟩) (.slice (some ⟨fb, 0, none⟩) 5 fcap) (toldL P2.a.g.fs ⟨x, y, z⟩ 5) w1 wr) (fun i _ => 5 - (intOf i).toNat)
              case atStart => exact ⟨0, Nat.zero_le _, rfl, Z9, a9, HSk.out⟩
              case round =>
                obtain ⟨k, hk, rfl, Z10, a10, hset⟩ := hrel
                have HS10 : Hid (SetAt w.heap.size p A Z v Z10 vk { P2 with a := a10 } (4000000002346 + 6 * (k : Int)) P2.a.g.fs (w5.heap.size + 1) (askS ⟨x, y, z⟩) (.slice (some ⟨fb, 0, none⟩) 5 fcap) (toldL P2.a.g.fs ⟨x, y, z⟩ 5) w1 wr) := hset
                clear hset
                by_cases hlt : k < 5
                · have hkI : (k : Int) < 5 := by omega
                  have hkn : ¬ (k : Int) < 0 := by omega
                  obtain ⟨tx, htx⟩ : ∃ tx, (askS ⟨x, y, z⟩)[k]? = some tx := ⟨_, List.getElem?_eq_getElem (by show k < 5; omega)⟩
                  have hctx := HS10.out.tx k tx htx
                  obtain ⟨hsz, t, ht, hrd⟩ := HRd.out k tx htx
                  obtain ⟨hok', hans⟩ := ask_get HS10.out.ask (by omega) hsz hrd
                  have HAk := ask_any HS10.out.pn.pl HS10.out.ask (by omega) tx hsz
                  unfold AskPost at HAk
                  dsimp only at HAk hans
                  rw [hans] at HAk
                  have htold : (toldL P2.a.g.fs ⟨x, y, z⟩ 5)[k]? = some (.string (toldT P2.a.g.fs t)) := by
                    unfold toldL
                    rw [List.getElem?_map, List.getElem?_take, if_pos hlt, ht]; rfl
                  have HAk' : Hid _ := HAk
                  have Hok' : Hid _ := hok'
                  obtain ⟨an, han⟩ : ∃ y, toldT P2.a.g.fs t = y := ⟨_, rfl⟩
                  rw [han] at HAk' htold
                  have Htold : Hid _ := htold
                  clear HAk hok' hans htx hrd ht han htold
                  go_wp2_with (go_at_call 22; refine Calls.mono HAk'.out ?_; rintro e w11 ⟨rfl, Z11, hpn⟩; dsimp only; have HS11 : Hid (SetAt w.heap.size p A Z v Z11 vk { P2 with a := askM a10 tx } _ P2.a.g.fs (w5.heap.size + 1) (askS ⟨x, y, z⟩) (.slice (some ⟨fb, 0, none⟩) 5 fcap) (toldL P2.a.g.fs ⟨x, y, z⟩ 5) w1 w11) := HS10.out.next hpn Hok'.out; have hrow11 := HS11.out.row; rw [toldL_len P2.a.g.fs ⟨x, y, z⟩ (Nat.le_refl 5)] at hrow11; have hc11 : w11.cell? ⟨fb, k, none⟩ = some (.string an) := (hrow11.cellAt k (by omega)).trans Htold.out; clear hpn hrow11)
                  go_roundw
                  case rel => exact ⟨k + 1, by omega, by go_num, Z11, askM a10 tx, by rw [show (4000000002346 + 6 * ((k + 1 : Nat) : Int)) = 4000000002346 + 6 * (k : Int) + 6 by omega]; exact HS11.out⟩
                  case measure => simp [intOf]; omega
                · go_wp2
                  go_ret
                  exact ⟨rfl, HB1.out.trans (HS10.out.pn.below HP1.out)⟩

end Go.Proofs.YtenaepdmlknlcaaGreatDoor
