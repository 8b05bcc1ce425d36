import Derived.Test.YtenaepdmlknlcaaGreatDoorE10
import Derived.ArgAppend
namespace Go.Proofs.YtenaepdmlknlcaaGreatDoor
open Go.RowKit Go.Shelf

theorem flatK_one (ks : List Kp) : ∀ u ∈ flatK ks, u.oneCell' = true := by
  induction ks with
  | nil => intro u hu; simp [flatK] at hu
  | cons k ks ih =>
    intro u hu
    simp only [flatK, List.mem_cons] at hu
    rcases hu with rfl | rfl | rfl | rfl | hu
    · rfl
    · rfl
    · rfl
    · rfl
    · exact ih u hu
theorem flatK_append (a b : List Kp) : flatK (a ++ b) = flatK a ++ flatK b := by
  induction a with
  | nil => rfl
  | cons k a ih => simp only [List.cons_append, flatK, ih]
theorem flatK_take (ks : List Kp) (i : Nat) : flatK (ks.take i) = (flatK ks).take (i * 4) := by
  induction ks generalizing i with
  | nil => simp [flatK]
  | cons k ks ih =>
    cases i with
    | zero => simp [flatK]
    | succ i => rw [show (i + 1) * 4 = i * 4 + 1 + 1 + 1 + 1 by omega]; simp [flatK, ih]
theorem flatK_drop (ks : List Kp) (i : Nat) : flatK (ks.drop i) = (flatK ks).drop (i * 4) := by
  induction ks generalizing i with
  | nil => simp [flatK]
  | cons k ks ih =>
    cases i with
    | zero => simp
    | succ i => rw [show (i + 1) * 4 = i * 4 + 1 + 1 + 1 + 1 by omega]; simp [flatK, ih]
theorem flatK_erase (ks : List Kp) (i : Nat) : flatK (ks.eraseIdx i) = (flatK ks).take (i * 4) ++ (flatK ks).drop ((i + 1) * 4) := by
  rw [List.eraseIdx_eq_take_drop_succ, flatK_append, flatK_take, flatK_drop]
theorem flatK_get (ks : List Kp) (i : Nat) (k : Kp) (h : ks[i]? = some k) : (flatK ks)[i * 4]? = some (.int .i64 k.t.z) ∧ (flatK ks)[i * 4 + 1]? = some (.int .i64 k.t.c) ∧ (flatK ks)[i * 4 + 2]? = some (.int .i64 k.t.r) ∧ (flatK ks)[i * 4 + 3]? = some (.string k.body) := by
  induction ks generalizing i with
  | nil => simp at h
  | cons q ks ih =>
    cases i with
    | zero => simp at h; subst h; exact ⟨rfl, rfl, rfl, rfl⟩
    | succ i =>
      have := ih i (by simpa using h)
      rw [show (i + 1) * 4 = i * 4 + 1 + 1 + 1 + 1 by omega]
      simpa [flatK] using this

theorem KepAt.own {w : World} {base g n cap : Nat} {ks : List Kp} (h : w.ownsRow base 178 4 (.slice (some ⟨g, 0, none⟩) n cap) n (flatK ks)) : KepAt w g ks := fun i k e => by
  have hc := h.cells (g := g) rfl
  obtain ⟨e0, e1, e2, e3⟩ := flatK_get ks i k e
  have r0 := hc _ _ e0; have r1 := hc _ _ e1; have r2 := hc _ _ e2; have r3 := hc _ _ e3
  rw [addr0] at r0 r1 r2 r3
  exact ⟨r0, r1, r2, r3⟩

theorem ownsRow_fr' {M : Nat → Nat → Prop} {A B : World} (h : Fr M A B) {base : Nat} {e : TypeId} {size : Nat} {v : Value} {n : Nat} {xs : List Value} (o : A.ownsRow base e size v n xs) (hm : ∀ k i, v.ownBlock = some k → ¬ M k i) : B.ownsRow base e size v n xs := by
  obtain ⟨h1, h2⟩ := o
  refine ⟨h1, h2.imp id ?_⟩
  rintro ⟨g, cap, cur, e1, e2, e3, e4⟩
  exact ⟨g, cap, cur, e1, e2, (h.block g (Array.getElem?_eq_some_iff.1 e3).1 (fun i => hm g i (by rw [e1]; rfl))).trans e3, e4⟩

/-- The kept tiles of a shard at the place (A, o). -/
structure ShAt (w : World) (A o : Nat) (v : Value) (ks : List Kp) : Prop where
  c : w.cell? ⟨A, o, none⟩ = some v
  f : w.frozen? ⟨A, o, none⟩ = false
  own : w.ownsRow 0 178 4 v ks.length (flatK ks)
  ne : v.ownBlock ≠ some A
  lt : ks.length ≤ 1000

/-- What may be written: the shard's list, and the row that it has. -/
def ShM (A o : Nat) (v : Value) : Nat → Nat → Prop := fun c j => (c = A ∧ j = o) ∨ v.ownBlock = some c

theorem number_tile (z c r : Int) (w : World) (h1 : 0 ≤ z) (h2 : z ≤ 3) (h3 : 0 ≤ c) (h4 : c ≤ 7) (h5 : 0 ≤ r) (h6 : r ≤ 7) :
    Calls Tryz.prog 217 #[.agg #[.int .i64 z, .int .i64 c, .int .i64 r]] w fun e w' => e = .returned (.int .i64 ((z + c + r) % 4)) ∧ Below w.heap.size w w' := by
  go_enter Tryz.func217, Tryz.ntmps217
  go_wp2
  go_ret
  exact ⟨rfl, (Below.refl _ _).alloc (Nat.le_refl _) _⟩

set_option maxHeartbeats 1000000 in
theorem take_none (A o : Nat) (t : Tl) (v : Value) (ks : List Kp) (w : World) (h : ShAt w A o v ks) (hx : tileIx t ks = none) :
    Calls Tryz.prog 203 #[.pointer (some ⟨A, o, none⟩), .agg #[.int .i64 t.z, .int .i64 t.c, .int .i64 t.r]] w fun e w' => e = .returned (.tuple #[.string ⟨#[]⟩, .bool false]) ∧ Below w.heap.size w w' := by
  obtain ⟨hc, hf, own, hne, hlt⟩ := h
  have hA : A < w.heap.size := World.block_lt_of_cell? w ⟨A, o, none⟩ hc
  have HV : Hid (ixV t ks = -1) := by show ixV t ks = -1; rw [ixV, hx]
  obtain ⟨a, cap, rfl, ha, hcap⟩ : ∃ (a : Option Addr) (cap : Nat), v = .slice a ks.length cap ∧ (ks = [] ∨ ∃ g, a = some ⟨g, 0, none⟩ ∧ g < w.heap.size ∧ KepAt w g ks) ∧ ks.length ≤ cap := by
    rcases own.2 with ⟨e1, e2⟩ | ⟨g, cap, cur, e1, _, e3, e4, _⟩
    · exact ⟨none, 0, by rw [e2]; exact e1, .inl (List.length_eq_zero_iff.1 e2), by omega⟩
    · subst e1
      exact ⟨_, cap, rfl, .inr ⟨g, rfl, (Array.getElem?_eq_some_iff.1 e3).1, KepAt.own own⟩, e4⟩
  obtain ⟨n, hn⟩ : ∃ n, ks.length = n := ⟨_, rfl⟩
  rw [hn] at hc hcap
  have Hn : Hid (n = ks.length) := hn.symm
  have HA : Hid (ks = [] ∨ ∃ g, a = some ⟨g, 0, none⟩ ∧ g < w.heap.size ∧ KepAt w g ks) := ha
  have hn9 : n ≤ 1000000 := by omega
  clear own hne hf hx hn ha hlt
  go_enter Tryz.func203, Tryz.ntmps203
  go_wp2_with (go_at_call 218; refine Calls.mono (IndexFunc_any w.heap.size t a n cap ks _ Hn.out hcap hn9 (HA.out.imp id fun ⟨g, e1, e2, e3⟩ => ⟨g, e1, by simp; omega, e3.below ((Below.refl _ _).alloc (Nat.le_refl _) _) e2⟩) (by simp) (by simp [go_sem]) (by simp [go_sem]) (by simp [go_sem])) ?_; rintro e w1 ⟨rfl, hb1⟩; rw [HV.out]; dsimp only)
  go_ret2
  exact ⟨rfl, ((Below.refl _ _).alloc (Nat.le_refl _) _).trans (hb1.mono (by simp))⟩

set_option maxRecDepth 100000 in
set_option maxHeartbeats 2000000 in
theorem take_some (A o : Nat) (t : Tl) (v : Value) (ks : List Kp) (i : Nat) (k : Kp) (w : World) (h : ShAt w A o v ks) (hx : tileIx t ks = some i) (hk : ks[i]? = some k) :
    Calls Tryz.prog 203 #[.pointer (some ⟨A, o, none⟩), .agg #[.int .i64 t.z, .int .i64 t.c, .int .i64 t.r]] w fun e w' => e = .returned (.tuple #[.string k.body, .bool true]) ∧ ∃ v', ShAt w' A o v' (ks.eraseIdx i) ∧ v'.ownBlock = v.ownBlock ∧ Fr (ShM A o v) w w' := by
  obtain ⟨hc, hf, own, hne, hlt⟩ := h
  have hA : A < w.heap.size := World.block_lt_of_cell? w ⟨A, o, none⟩ hc
  have hil : i < ks.length := (List.getElem?_eq_some_iff.1 hk).1
  have HV : Hid (ixV t ks = (i : Int)) := by show ixV t ks = _; rw [ixV, hx]
  obtain ⟨m, hm⟩ : ∃ m, ks.length = m + 1 := ⟨ks.length - 1, by omega⟩
  obtain ⟨g, cap, cur, rfl, hg, hcap⟩ : ∃ (g cap : Nat) (cur : Array Value), v = .slice (some ⟨g, 0, none⟩) ks.length cap ∧ w.heap[g]? = some (.cells cur 178 (0, 0)) ∧ ks.length ≤ cap := by
    rcases own.2 with ⟨e1, e2⟩ | ⟨g, cap, cur, e1, _, e3, e4, _⟩
    · omega
    · exact ⟨g, cap, cur, e1, e3, e4⟩
  have hgs : g < w.heap.size := (Array.getElem?_eq_some_iff.1 hg).1
  have hgA : g ≠ A := fun e => hne (by rw [e]; rfl)
  have HK : Hid (KepAt w g ks) := KepAt.own own
  rw [hm] at own hc hcap
  have HO : Hid (w.ownsRow 0 178 4 (.slice (some ⟨g, 0, none⟩) (m + 1) cap) (m + 1) (flatK ks)) := own
  have Hm : Hid (m + 1 = ks.length) := hm.symm
  have hn9 : m + 1 ≤ 1000000 := by omega
  have him : i < m + 1 := by omega
  have hiI : (i : Int) < (m : Int) + 1 := by omega
  have hi0 : (0 : Int) ≤ (i : Int) := by omega
  have hin : ¬ (i : Int) < 0 := by omega
  have Hlt : Hid (ks.length ≤ 1000) := hlt
  have Hk : Hid (ks[i]? = some k) := hk
  have hw9 : IntKind.i64.wrap ((i : Int) + 1) = (i : Int) + 1 := by rw [IntKind.wrap_i64]; omega
  clear own hne hg hx hlt hk hil hm
  go_enter Tryz.func203, Tryz.ntmps203
  go_wp2_with (first
    | (go_at_call 218; refine Calls.mono (IndexFunc_any w.heap.size t (some ⟨g, 0, none⟩) (m + 1) cap ks _ Hm.out hcap hn9 (.inr ⟨g, rfl, by simp; omega, HK.out.below ((Below.refl _ _).alloc (Nat.le_refl _) _) hgs⟩) (by simp) (by simp [go_sem]) (by simp [go_sem]) (by simp [go_sem])) ?_; rintro e w1 ⟨rfl, hb1⟩; rw [HV.out]; have hB1 : Below w.heap.size w w1 := (((Below.refl _ _).alloc (Nat.le_refl _) _).trans (hb1.mono (by simp))); have c1 : w1.cell? ⟨A, o, none⟩ = some (.slice (some ⟨g, 0, none⟩) (m + 1) cap) := ((hB1.cell (p := ⟨A, o, none⟩) hA).trans hc); have f1 : w1.frozen? ⟨A, o, none⟩ = false := ((hB1.frozen (p := ⟨A, o, none⟩) hA).trans hf); have b1 := ((HK.out.below hB1 hgs) i k Hk.out).2.2.2; dsimp only)
    | (go_at_call 220; refine Calls.mono (Delete1_any 0 g m cap i (flatK ks) _ (ownsRow_fr (M := fun _ _ => False) (Fr.of_below (by first | exact hB1 | exact hB1.drew)) HO.out (fun _ _ _ e => e)) (flatK_one ks) him hn9) ?_; rintro e w2 ⟨rfl, hown2, hf2⟩; have HO2 : Hid _ := hown2; clear hown2; have c2 : w2.cell? ⟨A, o, none⟩ = some (.slice (some ⟨g, 0, none⟩) (m + 1) cap) := (hf2.cell A o (Nat.lt_of_lt_of_le hA hB1.size) (fun e => hgA (by have : A = g := e; exact this.symm))).trans c1; have f2 : w2.frozen? ⟨A, o, none⟩ = false := (hf2.frozen A o (Nat.lt_of_lt_of_le hA hB1.size) (fun e => hgA (by have : A = g := e; exact this.symm))).trans f1; dsimp only))
  go_ret2
  have hel : (ks.eraseIdx i).length = m := by
    rw [List.length_eraseIdx, if_pos (by rw [← Hm.out]; exact him), ← Hm.out]; rfl
  refine ⟨rfl, .slice (some ⟨g, 0, none⟩) m cap, ⟨cell_eq c2 _, by rw [World.frozen?_setCell]; exact f2, ?_, fun e => hgA (Option.some.inj e), by rw [hel]; have := Hlt.out; have := Hm.out; omega⟩, rfl, ?_⟩
  · rw [hel, flatK_erase]
    exact ownsRow_fr' (frB A w2 o _) HO2.out (fun c _ hc e => by have h1 : g = c := Option.some.inj hc; have h2 : c = A := e; exact hgA (h1.trans h2))
  · refine (((Fr.of_below hB1 : Fr (ShM A o (.slice (some ⟨g, 0, none⟩) ks.length cap)) w w1)).trans (hf2.mono fun c i e => .inr ?_)).setCell (b := A) (i := o) (.inl (.inl ⟨rfl, rfl⟩)) _
    have : c = g := e
    rw [this]; rfl

end Go.Proofs.YtenaepdmlknlcaaGreatDoor

namespace Go.Proofs.YtenaepdmlknlcaaGreatDoor
open Go.RowKit Go.Shelf

/-- An append to a row of our own: it stays where it is, or lies in a new block. -/
theorem run_append_any {P : Program} (w : World) (t ty : TypeId)
    (e : TypeId) (i : TypeInfo) (z : Value) (size bytes : Nat) (h1 : P.underlying t = some (.slice e)) (h2 : P.info? e = some i) (h3 : i.zero = some z) (h4 : i.size = size) (h5 : i.bytes = bytes) (h6 : z.cells.size = size) (h7 : 0 < size)
    (v : Value) (n : Nat) (xs : List Value) (hown : w.ownsRow 0 e size v n xs)
    (ad : Addr) (m c : Nat) (news : List Value) (hn : news.length = m * size) (hc : ∀ j u, news[j]? = some u → w.cell? (ad.add j) = some u) (h1c : ∀ u ∈ news, u.oneCell' = true)
    (b1 : n + m ≤ maxLen) (b2 : (n + m) * bytes ≤ 140737488355328) :
    ∃ v' w', (Builtin.append_ #[t, t] ty #[v, .slice (some ad) m c]).run P w = .ok v' w' ∧ w'.ownsRow 0 e size v' (n + m) (xs ++ news) ∧ (∀ k, v'.ownBlock = some k → v.ownBlock = some k ∨ w.heap.size ≤ k) ∧ Fr (fun c _ => v.ownBlock = some c) w w' := by
  have hgrown : ∀ v' w', w'.ownsRow w.heap.size e size v' (n + m) (xs ++ news) → w.grownBy w' none → w'.ownsRow 0 e size v' (n + m) (xs ++ news) ∧ (∀ k, v'.ownBlock = some k → v.ownBlock = some k ∨ w.heap.size ≤ k) ∧ Fr (fun c _ => v.ownBlock = some c) w w' := fun v' w' ho hg =>
    ⟨⟨ho.1, ho.2.imp id fun ⟨g, cap, cur, q1, _, q3⟩ => ⟨g, cap, cur, q1, Nat.zero_le _, q3⟩⟩, fun k hk => .inr (ho.lt k hk).1, Fr.of_below ((Below.refl _ _).grown hg (Nat.le_refl _) (fun k e => by cases e))⟩
  rcases hown.2 with ⟨rfl, rfl⟩ | ⟨g, cap, cur, rfl, _, e3, e4, e5, e6, e7⟩
  · obtain rfl : xs = [] := List.eq_nil_of_length_eq_zero (by simpa using hown.1)
    obtain ⟨v', w', hrun, r1, r2, _⟩ := run_append_own (P := P) w w.heap.size t ty e i z size bytes h1 h2 h3 h4 h5 h6 h7 (.slice none 0 0) 0 [] (World.ownsRow_nil w _ e size) ad m c news hn hc h1c b1 b2 (Nat.le_refl _)
    exact ⟨v', w', hrun, hgrown v' w' r1 r2⟩
  · by_cases hr : n + m ≤ cap
    · have hle : n * size + m * size ≤ cap * size := by
        have := Nat.mul_le_mul_right size hr
        rwa [Nat.add_mul] at this
      have hin : ∀ j, j < news.length → 0 + n * size + j < cur.size := fun j hj => by rw [hn] at hj; rw [e6]; omega
      obtain ⟨cur', k1, k2, k3⟩ := heap_setCells news (0 + n * size) w cur e3 (by rw [e6, hn]; omega)
      refine ⟨_, _, ?_, ⟨by rw [List.length_append, hown.1, hn, Nat.add_mul], .inr ⟨g, cap, cur', rfl, Nat.zero_le _, k1, hr, e5, k2.trans e6, ?_⟩⟩, fun k hk => .inl hk, (fr_setCells g news _ w).mono fun c i ec => by have : c = g := ec; rw [this]; rfl⟩
      · have := run_append_room_cells (P := P) w t ty e i h1 h2 g 0 n cap ad m c news (by rw [h4]; exact hn) hc h1c hr (fun j hj => by
          rw [h4]
          simp only [World.cell?, e3]
          rw [Array.getElem?_eq_getElem (hin j hj)]; rfl) (fun j hj => by simp [World.frozen?, e3])
        rwa [h4] at this
      · rw [k3, Nat.zero_add, e7]
        exact List.take_left' (by rw [List.length_append, hown.1, hn, Nat.add_mul])
    · obtain ⟨v', w', hrun, r1, r2⟩ := run_append_arg_grows (P := P) w t ty e i z size bytes h1 h2 h3 h4 h5 h6 h7 ⟨g, 0, none⟩ n cap xs hown.1 (hown.cells (g := g) rfl) ad m c news hn hc (by omega) b1 b2
      exact ⟨v', w', hrun, hgrown v' w' r1 r2⟩

theorem step_append_any {P : Program} {ops : Array Oper} {o : Oper} {a : Act} {w : World} {K : Act → World → Prop} {Q : Exit → Act → World → Prop} {E : Prop}
    (hg : o.guard = none) (s x : Operand) (t : TypeId) (hop : o.op = Op.call { callee := Callee.builtin Builtin.append, args := #[s, x], argTypes := #[t, t] })
    (e : TypeId) (i : TypeInfo) (z : Value) (size bytes : Nat) (h1 : P.underlying t = some (.slice e)) (h2 : P.info? e = some i) (h3 : i.zero = some z) (h4 : i.size = size) (h5 : i.bytes = bytes) (h6 : z.cells.size = size) (h7 : 0 < size)
    (v : Value) (n : Nat) (xs : List Value) (hs : a.eval s = v) (hown : w.ownsRow 0 e size v n xs)
    (ad : Addr) (m c : Nat) (news : List Value) (hx : a.eval x = .slice (some ad) m c) (hn : news.length = m * size) (hc : ∀ j u, news[j]? = some u → w.cell? (ad.add j) = some u) (h1c : ∀ u ∈ news, u.oneCell' = true)
    (b1 : n + m ≤ maxLen) (b2 : (n + m) * bytes ≤ 140737488355328)
    (h : ∀ v' w', w'.ownsRow 0 e size v' (n + m) (xs ++ news) → (∀ k, v'.ownBlock = some k → v.ownBlock = some k ∨ w.heap.size ≤ k) → Fr (fun c _ => v.ownBlock = some c) w w' → K (a.put o.dst v') w') :
    if Region.wanted o (yielded ops a.tmps) = true then Oper.wp P o a w K Q else E := by
  have hw : Region.wanted o (yielded ops a.tmps) = true := by simp [Region.wanted, hg]
  rw [if_pos hw]
  obtain ⟨v', w', hrun, r1, r2, r3⟩ := run_append_any (P := P) w t o.type e i z size bytes h1 h2 h3 h4 h5 h6 h7 v n xs hown ad m c news hn hc h1c b1 b2
  unfold Oper.wp
  simp [execOp, hop, resolve, invoke, builtin, hs, hx, hrun, Result.andThen]
  exact h v' w' r1 r2 r3

set_option maxRecDepth 100000 in
set_option maxHeartbeats 1000000 in
theorem add_any (A o : Nat) (t : Tl) (body : ByteArray) (v : Value) (ks : List Kp) (w : World) (h : ShAt w A o v ks) (hl : ks.length + 1 ≤ 1000) :
    Calls Tryz.prog 204 #[.pointer (some ⟨A, o, none⟩), .agg #[.int .i64 t.z, .int .i64 t.c, .int .i64 t.r], .string body] w fun e w' => e = .returned (.tuple #[]) ∧ ∃ v', ShAt w' A o v' (ks ++ [⟨t, body⟩]) ∧ (∀ k, v'.ownBlock = some k → v.ownBlock = some k ∨ w.heap.size ≤ k) ∧ Fr (ShM A o v) w w' := by
  obtain ⟨hc, hf, own, hne, hlt⟩ := h
  have hA : A < w.heap.size := World.block_lt_of_cell? w ⟨A, o, none⟩ hc
  obtain ⟨i178, hi0, hz0, hz1, hz2⟩ := info_parts info178
  have HI : Hid (Tryz.prog.info? 178 = some i178 ∧ i178.zero = some (.agg #[.int .i64 0, .int .i64 0, .int .i64 0, .string ⟨#[]⟩]) ∧ i178.size = 4 ∧ i178.bytes = 40) := ⟨hi0, hz0, hz1, hz2⟩
  have HO : Hid (w.ownsRow 0 178 4 v ks.length (flatK ks)) := own
  have HN : Hid (v.ownBlock ≠ some A) := hne
  have HL : Hid (ks.length + 1 ≤ 1000) := hl
  clear hi0 hz0 hz1 hz2 own hne hlt hl
  go_enter Tryz.func204, Tryz.ntmps204
  go_wp2_with fail
  go_region_law (refine step_append_any rfl (.tmp 10) (.tmp 14) 121 rfl 178 i178 (.agg #[.int .i64 0, .int .i64 0, .int .i64 0, .string ⟨#[]⟩]) 4 40 Tryz.underlying121 HI.out.1 HI.out.2.1 HI.out.2.2.1 HI.out.2.2.2 rfl (by decide) v ks.length (flatK ks) rfl ((HO.out.alloc _).alloc _) ⟨w.heap.size + 1, 0, none⟩ 1 1 [.int .i64 t.z, .int .i64 t.c, .int .i64 t.r, .string body] rfl rfl (fun j u hj => by
        rw [addr_add]
        match j, hj with
        | 0, hj => simp at hj; subst hj; simp [go_sem]
        | 1, hj => simp at hj; subst hj; simp [go_sem]
        | 2, hj => simp at hj; subst hj; simp [go_sem]
        | 3, hj => simp at hj; subst hj; simp [go_sem]
        | j + 4, hj => simp at hj) (fun u hu => by simp at hu; rcases hu with hu | hu | hu | hu <;> (subst hu; rfl)) (by have := HL.out; unfold maxLen; omega) (by have := HL.out; omega) ?_; intro v3 w3 hown3 hfr3 hF3; obtain ⟨g3, c3, rfl, _, _⟩ := ownsRow_more hown3; have Hown3 : Hid _ := hown3; have Hfr3 : Hid _ := hfr3; have c3' : w3.cell? ⟨A, o, none⟩ = some v := ((hF3.cell A o (by simp; omega) (fun e => HN.out e)).trans (by simp [go_sem, hA, hc])); have f3' : w3.frozen? ⟨A, o, none⟩ = false := ((hF3.frozen A o (by simp; omega) (fun e => HN.out e)).trans (by simp [go_sem, hA, hf])); clear hown3 hfr3)
  all_goals
    have hfr : ∀ k, (some g3 : Option Nat) = some k → v.ownBlock = some k ∨ w.heap.size + 1 + 1 ≤ k := fun k hk => by
      have := Hfr3.out k hk
      simpa using this
    have hgA : g3 ≠ A := fun e => (hfr A (by rw [e])).elim HN.out (fun h => by omega)
    go_end0
    refine ⟨rfl, _, ⟨cell_eq c3' _, by rw [World.frozen?_setCell]; exact f3', ?_, fun e => hgA (Option.some.inj e), by rw [List.length_append]; exact HL.out⟩, fun k hk => (hfr k hk).imp id (fun h => by omega), ?_⟩
    · rw [List.length_append, flatK_append]
      exact ownsRow_fr' (frB A w3 o _) Hown3.out (fun c _ hc e => by have h1 : g3 = c := Option.some.inj hc; have h2 : c = A := e; exact hgA (h1.trans h2))
    · exact (((((Fr.refl (ShM A o v) w).alloc _).alloc _).drew).trans (hF3.mono fun c i e => .inr e)).setCell (b := A) (i := o) (.inl (.inl ⟨rfl, rfl⟩)) _

end Go.Proofs.YtenaepdmlknlcaaGreatDoor

namespace Go.Proofs.YtenaepdmlknlcaaGreatDoor
open Go.RowKit Go.Shelf

/-- Which shard a tile is of; where it lies in the block of all shards that begins at so. -/
def shN (t : Tl) : Nat := ((t.z + t.c + t.r) % 4).toNat
theorem shN_lt (t : Tl) : shN t < 4 := by unfold shN; omega
def Tl.ok (t : Tl) : Prop := 0 ≤ t.z ∧ t.z ≤ 3 ∧ 0 ≤ t.c ∧ t.c ≤ 7 ∧ 0 ≤ t.r ∧ t.r ≤ 7

theorem of_any (A so : Nat) (t : Tl) (ht : t.ok) (w : World) :
    Calls Tryz.prog 202 #[.pointer (some ⟨A, so, none⟩), .agg #[.int .i64 t.z, .int .i64 t.c, .int .i64 t.r]] w fun e w' => e = .returned (.pointer (some ⟨A, so + 1 + shN t * 2, none⟩)) ∧ Below w.heap.size w w' := by
  obtain ⟨h1, h2, h3, h4, h5, h6⟩ := ht
  obtain ⟨q, hq⟩ : ∃ q : Nat, shN t = q := ⟨_, rfl⟩
  have hq4 : q < 4 := by have := shN_lt t; omega
  have hqI : (t.z + t.c + t.r) % 4 = (q : Int) := by unfold shN at hq; omega
  have HN : Hid _ := fun W => number_tile t.z t.c t.r W h1 h2 h3 h4 h5 h6
  rw [hq, hqI] at *
  have hI : (q : Int) < 4 := by omega
  have hI0 : (0 : Int) ≤ (q : Int) := by omega
  clear hq hqI h1 h2 h3 h4 h5 h6
  go_enter Tryz.func202, Tryz.ntmps202
  go_wp2_with fail
  go_region_with (go_at_call 217; refine Calls.mono (HN.out _) ?_; rintro e w1 ⟨rfl, hb1⟩; dsimp only; have hB1 : Below w.heap.size w w1 := (((Below.refl _ _).alloc (Nat.le_refl _) _).drew.trans (hb1.mono (by simp))))
  all_goals
    go_wp2
    go_ret
    exact ⟨rfl, hB1⟩

/-- All shards of an atlas, at the place (A, so): the room, and of each the list and the age. -/
structure Shs where
  room : Int
  ks : Nat → List Kp
  age : Nat → Int

structure ShsAt (w : World) (A so : Nat) (vs : Nat → Value) (S : Shs) : Prop where
  room : w.cell? ⟨A, so, none⟩ = some (.int .i64 S.room)
  sh : ∀ k, k < 4 → ShAt w A (so + 1 + k * 2) (vs k) (S.ks k)
  age : ∀ k, k < 4 → w.cell? ⟨A, so + 1 + k * 2 + 1, none⟩ = some (.int .i64 (S.age k)) ∧ w.frozen? ⟨A, so + 1 + k * 2 + 1, none⟩ = false
  apart : ∀ k j g, k < 4 → j < 4 → k ≠ j → (vs k).ownBlock = some g → (vs j).ownBlock ≠ some g

theorem Age_any (A so : Nat) (t : Tl) (ht : t.ok) (vs : Nat → Value) (S : Shs) (w : World) (h : ShsAt w A so vs S) :
    Calls Tryz.prog 189 #[.pointer (some ⟨A, so, none⟩), .agg #[.int .i64 t.z, .int .i64 t.c, .int .i64 t.r]] w fun e w' => e = .returned (.int .i64 (S.age (shN t))) ∧ Below w.heap.size w w' := by
  have ha := (h.age (shN t) (shN_lt t)).1
  have hA : A < w.heap.size := World.block_lt_of_cell? w _ ha
  obtain ⟨q, hq⟩ : ∃ q : Nat, shN t = q := ⟨_, rfl⟩
  have HO : Hid (∀ W, Calls Tryz.prog 202 #[.pointer (some ⟨A, so, none⟩), .agg #[.int .i64 t.z, .int .i64 t.c, .int .i64 t.r]] W fun e w' => e = .returned (.pointer (some ⟨A, so + 1 + q * 2, none⟩)) ∧ Below W.heap.size W w') := fun W => hq ▸ of_any A so t ht W
  rw [hq] at ha ⊢
  clear hq h
  go_enter Tryz.func189, Tryz.ntmps189
  go_wp2_with (go_at_call 202; refine Calls.mono (HO.out _) ?_; rintro e w1 ⟨rfl, hb1⟩; dsimp only; have c1 : w1.cell? ⟨A, so + 1 + q * 2 + 1, none⟩ = some (.int .i64 (S.age q)) := (hb1.cell (p := ⟨A, so + 1 + q * 2 + 1, none⟩) (by first | exact hA | (simp; omega))).trans (by first | exact ha | (simp [go_sem, hA, ha])))
  go_ret
  exact ⟨rfl, ((Below.refl _ _).alloc (Nat.le_refl _) _).trans (hb1.mono (by simp))⟩

theorem ShAt.fr {M : Nat → Nat → Prop} {W W' : World} (h : Fr M W W') {A o : Nat} {v : Value} {ks : List Kp} (k : ShAt W A o v ks) (hA : ¬ M A o) (hv : ∀ g i, v.ownBlock = some g → ¬ M g i) : ShAt W' A o v ks :=
  have hl : A < W.heap.size := World.block_lt_of_cell? W ⟨A, o, none⟩ k.c
  ⟨(h.cell A o hl hA).trans k.c, (h.frozen A o hl hA).trans k.f, ownsRow_fr' h k.own hv, k.ne, k.lt⟩
theorem ShAt.below {W W' : World} (h : Below W.heap.size W W') {A o : Nat} {v : Value} {ks : List Kp} (k : ShAt W A o v ks) : ShAt W' A o v ks := k.fr (M := fun _ _ => False) (Fr.of_below h) id (fun _ _ _ e => e)
theorem ShAt.ownLt {W : World} {A o : Nat} {v : Value} {ks : List Kp} (k : ShAt W A o v ks) : ∀ g, v.ownBlock = some g → g < W.heap.size := fun g e => (k.own.lt g e).2

/-- One shard was changed. -/
theorem ShsAt.upd {w w' : World} {A so : Nat} {vs : Nat → Value} {S : Shs} (h : ShsAt w A so vs S) {q : Nat} (hq : q < 4) {v' : Value} {ks' : List Kp} (hs : ShAt w' A (so + 1 + q * 2) v' ks') (hf : Fr (ShM A (so + 1 + q * 2) (vs q)) w w') (hfr : ∀ g, v'.ownBlock = some g → (vs q).ownBlock = some g ∨ w.heap.size ≤ g) :
    ShsAt w' A so (fun k => if k = q then v' else vs k) { S with ks := fun k => if k = q then ks' else S.ks k } := by
  have hA : A < w.heap.size := World.block_lt_of_cell? w _ h.room
  have hneA : (vs q).ownBlock ≠ some A := (h.sh q hq).ne
  refine ⟨(hf.cell A so hA (fun e => e.elim (fun e => by omega) hneA)).trans h.room, fun k hk => ?_, fun k hk => ?_, fun k j g hk hj hkj e1 e2 => ?_⟩
  · by_cases e : k = q
    · subst e; simp only [if_pos]; exact hs
    · simp only [if_neg e]
      exact (h.sh k hk).fr hf (fun e' => e'.elim (fun e' => by omega) hneA) (fun g i eg e' => e'.elim (fun e' => (h.sh k hk).ne (by rw [eg, e'.1])) (h.apart k q g hk hq e eg))
  · have ha := h.age k hk
    have hn : ¬ ShM A (so + 1 + q * 2) (vs q) A (so + 1 + k * 2 + 1) := fun e => e.elim (fun e => by omega) hneA
    exact ⟨(hf.cell A _ hA hn).trans ha.1, (hf.frozen A _ hA hn).trans ha.2⟩
  · by_cases e : k = q
    · subst e
      rw [if_pos rfl] at e1
      rw [if_neg (fun e => hkj e.symm)] at e2
      rcases hfr g e1 with h1 | h1
      · exact h.apart k j g hk hj hkj h1 e2
      · have := (h.sh j hj).ownLt g e2; omega
    · rw [if_neg e] at e1
      by_cases e' : j = q
      · subst e'
        rw [if_pos rfl] at e2
        rcases hfr g e2 with h1 | h1
        · exact h.apart k j g hk hj hkj e1 h1
        · have := (h.sh k hk).ownLt g e1; omega
      · rw [if_neg e'] at e2
        exact h.apart k j g hk hj hkj e1 e2

/-- A tile that is kept is used: it comes to the end. -/
def useK (t : Tl) (ks : List Kp) : Option (ByteArray × List Kp) := match tileIx t ks with
  | none => none
  | some i => (ks[i]?).map fun k => (k.body, ks.eraseIdx i ++ [⟨t, k.body⟩])

set_option maxHeartbeats 1000000 in
theorem Use_none (A so : Nat) (t : Tl) (ht : t.ok) (vs : Nat → Value) (S : Shs) (w : World) (h : ShsAt w A so vs S) (hx : tileIx t (S.ks (shN t)) = none) :
    Calls Tryz.prog 187 #[.pointer (some ⟨A, so, none⟩), .agg #[.int .i64 t.z, .int .i64 t.c, .int .i64 t.r]] w fun e w' => e = .returned (.tuple #[.string ⟨#[]⟩, .bool false]) ∧ Below w.heap.size w w' := by
  have HSh : Hid (ShAt w A (so + 1 + shN t * 2) (vs (shN t)) (S.ks (shN t))) := h.sh _ (shN_lt t)
  have HX : Hid (tileIx t (S.ks (shN t)) = none) := hx
  have HOf : Hid (∀ W, _) := fun W => of_any A so t ht W
  clear h hx
  go_enter Tryz.func187, Tryz.ntmps187
  go_wp2_with (first
    | (go_at_call 202; refine Calls.mono (HOf.out _) ?_; rintro e w1 ⟨rfl, hb1⟩; dsimp only; have hB1 : Below w.heap.size w w1 := (((Below.refl _ _).alloc (Nat.le_refl _) _).trans (hb1.mono (by simp))); obtain ⟨t10, t11, t12, _, _, _⟩ := (K3.new w (.int .i64 t.z) (.int .i64 t.c) (.int .i64 t.r) 24).below hb1 (Nat.le_refl _))
    | (go_at_call 203; refine Calls.mono (take_none A _ t _ _ _ (HSh.out.below hB1) HX.out) ?_; rintro e w2 ⟨rfl, hb2⟩; dsimp only))
  go_ret2
  exact ⟨rfl, hB1.trans (hb2.mono hB1.size)⟩

set_option maxRecDepth 100000 in
set_option maxHeartbeats 1000000 in
theorem Use_some (A so : Nat) (t : Tl) (ht : t.ok) (vs : Nat → Value) (S : Shs) (i : Nat) (k : Kp) (w : World) (h : ShsAt w A so vs S) (hx : tileIx t (S.ks (shN t)) = some i) (hk : (S.ks (shN t))[i]? = some k) :
    Calls Tryz.prog 187 #[.pointer (some ⟨A, so, none⟩), .agg #[.int .i64 t.z, .int .i64 t.c, .int .i64 t.r]] w fun e w' => e = .returned (.tuple #[.string k.body, .bool true]) ∧ ∃ v', ShAt w' A (so + 1 + shN t * 2) v' ((S.ks (shN t)).eraseIdx i ++ [⟨t, k.body⟩]) ∧ (∀ g, v'.ownBlock = some g → (vs (shN t)).ownBlock = some g ∨ w.heap.size ≤ g) ∧ Fr (ShM A (so + 1 + shN t * 2) (vs (shN t))) w w' := by
  have HSh : Hid (ShAt w A (so + 1 + shN t * 2) (vs (shN t)) (S.ks (shN t))) := h.sh _ (shN_lt t)
  have HX : Hid (tileIx t (S.ks (shN t)) = some i ∧ (S.ks (shN t))[i]? = some k) := ⟨hx, hk⟩
  have HOf : Hid (∀ W, _) := fun W => of_any A so t ht W
  have HLen : Hid (((S.ks (shN t)).eraseIdx i).length + 1 ≤ 1000) := by
    show _ + 1 ≤ 1000
    have h1 := (h.sh _ (shN_lt t)).lt
    have h2 := (List.getElem?_eq_some_iff.1 hk).1
    rw [List.length_eraseIdx, if_pos h2]
    omega
  have hA : A < w.heap.size := World.block_lt_of_cell? w _ h.room
  have HOwn : Hid (∀ g, (vs (shN t)).ownBlock = some g → g < w.heap.size) := (h.sh _ (shN_lt t)).ownLt
  clear h hx hk
  go_enter Tryz.func187, Tryz.ntmps187
  go_wp2_with (first
    | (go_at_call 202; refine Calls.mono (HOf.out _) ?_; rintro e w1 ⟨rfl, hb1⟩; dsimp only; have hB1 : Below w.heap.size w w1 := (((Below.refl _ _).alloc (Nat.le_refl _) _).trans (hb1.mono (by simp))); have hz1 : w.heap.size < w1.heap.size := (by have := hb1.size; simp at this; omega); have HT1 : Hid _ := (K3.new w (.int .i64 t.z) (.int .i64 t.c) (.int .i64 t.r) 24).below hb1 (Nat.le_refl _); obtain ⟨t10, t11, t12, _, _, _⟩ := HT1.out)
    | (go_at_call 203; refine Calls.mono (take_some A _ t _ _ i k _ (HSh.out.below hB1) HX.out.1 HX.out.2) ?_; rintro e w2 ⟨rfl, v2, hs2, ho2, hf2⟩; dsimp only; have HS2 : Hid _ := hs2; clear hs2; have hne2 : ∀ j, ¬ ShM A (so + 1 + shN t * 2) (vs (shN t)) w.heap.size j := (fun j e => e.elim (fun e => (by omega)) (fun e => (by have := HOwn.out _ e; omega))); obtain ⟨t20, t21, t22, _, _, _⟩ := HT1.out.fr hf2 hne2)
    | (go_at_call 204; refine Calls.mono (add_any A _ t k.body v2 _ _ HS2.out HLen.out) ?_; rintro e w3 ⟨rfl, v3, hs3, ho3, hf3⟩; dsimp only))
  go_ret2
  refine ⟨rfl, v3, hs3, fun g hg => (ho3 g hg).elim (fun h => .inl (ho2 ▸ h)) (fun h => .inr (by have := hf2.size; have := hB1.size; omega)), ?_⟩
  exact ((Fr.of_below hB1).trans hf2).trans (hf3.mono fun c j e => e.imp id (fun e => ho2 ▸ e))

end Go.Proofs.YtenaepdmlknlcaaGreatDoor
