import Derived.Test.YtenaepdmlknlcaaGreatDoorE18
import Derived.Conc.LoneSelectN
import Derived.Conc.LoneSelect
namespace Go.Proofs.YtenaepdmlknlcaaGreatDoor
open Go.RowKit Go.Shelf

def markS (b : ByteArray) : ByteArray := ⟨(markN b.data.toList).toArray⟩
/-- What a get is told of a tile with this body. -/
def tellS (m body : ByteArray) : ByteArray := if (m.toList == (markS body).toList) = true then ⟨#[51, 48, 52, 32]⟩ ++ markS body else ⟨#[50, 48, 48, 32]⟩ ++ markS body ++ ⟨#[32]⟩ ++ body

theorem MarkS_any (b : ByteArray) (hb : b.size ≤ 1000) (w : World) (g : Gl w) :
    Calls Tryz.prog 33 #[.string b] w fun e w' => e = .returned (.string (markS b)) ∧ Below w.heap.size w w' := by
  have h := Mark_ex b w (by omega) g.t3 (by have := g.sz; omega)
  exact h

theorem digs16_len : ∀ (k v : Nat), v < 16 ^ (k + 1) → (digs 16 v).length ≤ k + 1
  | 0, v, h => by rw [digs_small (by simpa using h)]; exact Nat.le_refl _
  | k + 1, v, h => by
    by_cases hv : v < 16
    · rw [digs_small hv]; exact Nat.succ_le_succ (Nat.zero_le _)
    · rw [digs_big (by omega), List.length_append]
      have := digs16_len k (v / 16) (by rw [Nat.pow_succ] at h; omega)
      simp only [List.length_cons, List.length_nil]
      omega
theorem markS_size (b : ByteArray) : (markS b).size = 8 := by
  have h := digs16_len 7 (sumN b.data.toList) (Nat.lt_of_lt_of_le (sumN_lt _) (by decide))
  simp only [markS, ByteArray.size, List.size_toArray, markN, padN, List.length_append, List.length_replicate]
  omega

set_option maxRecDepth 100000 in
set_option maxHeartbeats 1000000 in
theorem tell_any (z c r age : Int) (m body : ByteArray) (ro : Option Addr) (hb : body.size ≤ 1000) (w : World) (g : Gl w) :
    Calls Tryz.prog 188 #[.agg #[.int .i64 z, .int .i64 c, .int .i64 r, .string m, .int .i64 age, .pointer ro], .string body] w fun e w' => e = .returned (.agg #[.bool false, .nilFunc, .string (tellS m body)]) ∧ Below w.heap.size w w' := by
  have HM : Hid (∀ W, Below w.heap.size w W → Calls Tryz.prog 33 #[.string body] W fun e w' => e = .returned (.string (markS body)) ∧ Below W.heap.size W w') := fun W hW => MarkS_any body hb W (g.below hW g.sz)
  obtain ⟨mk, hmk⟩ : ∃ mk, markS body = mk := ⟨_, rfl⟩
  have HT : Hid (tellS m body = if (m.toList == mk.toList) = true then ⟨#[51, 48, 52, 32]⟩ ++ mk else ⟨#[50, 48, 48, 32]⟩ ++ mk ++ ⟨#[32]⟩ ++ body) := by show tellS m body = _; rw [tellS, hmk]
  have Hs : Hid (mk.size ≤ 8 ∧ body.size ≤ 1000) := ⟨by rw [← hmk, markS_size]; exact Nat.le_refl _, hb⟩
  rw [hmk] at HM
  clear hmk g hb
  have hcA : (9223372036854775807 < 4 + mk.size) = False := eq_false (by have := Hs.out.1; omega)
  have hcB : (9223372036854775807 < 4 + mk.size + 1) = False := eq_false (by have := Hs.out.1; omega)
  have hcC : (9223372036854775807 < 4 + mk.size + 1 + body.size) = False := eq_false (by have := Hs.out; omega)
  by_cases he : (m.toList == mk.toList) = true
  · go_enter Tryz.func188, Tryz.ntmps188
    go_wp2_with (first
      | (go_at_call 33; refine Calls.mono (HM.out _ (((Below.refl _ _).alloc (Nat.le_refl _) _).alloc (by simp) _)) ?_; rintro e w1 ⟨rfl, hb1⟩; dsimp only; have hB1 : Below w.heap.size w w1 := ((((Below.refl _ _).alloc (Nat.le_refl _) _).alloc (by simp) _).trans (hb1.mono (by simp <;> omega))); have c1 : w1.cell? ⟨w.heap.size, 3, none⟩ = some (.string m) := (hb1.cell (p := ⟨w.heap.size, 3, none⟩) (by simp <;> omega)).trans (by simp [go_sem]); have HK1 : Hid (K3 w1 (w.heap.size + 1) (.bool false) .nilFunc (.string ⟨#[]⟩)) := K3.below hb1 (Nat.le_refl _) (by have := K3.new (w.alloc (.cells #[.int .i64 z, .int .i64 c, .int .i64 r, .string m, .int .i64 age, .pointer ro] 291)) (.bool false) .nilFunc (.string ⟨#[]⟩) 231; rw [World.size_alloc] at this; exact this))
      | (go_at_call 194; refine (answered_any _ _).mono ?_; rintro e w2 ⟨rfl, hb2⟩; dsimp only; obtain ⟨r0, r1, r2, f0, f1, f2⟩ := HK1.out.below hb2 (Nat.le_refl _)))
    exact bodyPost_ret (v := .agg #[.bool false, .nilFunc, .string (⟨#[51, 48, 52, 32]⟩ ++ mk)]) (by simp [results, Tryz.results188, go_sem, r0, r1, r2]) rfl ⟨by rw [HT.out, if_pos he], set3b (hB1.trans (hb2.mono hB1.size)) (Nat.le_succ _) _ _ _⟩
  · have he' : (m.toList == mk.toList) = false := by simpa using he
    have HE : Hid (¬ (m.toList == mk.toList) = true) := he
    clear he
    go_enter Tryz.func188, Tryz.ntmps188
    go_wp2_with (first
      | (go_at_call 33; refine Calls.mono (HM.out _ (((Below.refl _ _).alloc (Nat.le_refl _) _).alloc (by simp) _)) ?_; rintro e w1 ⟨rfl, hb1⟩; dsimp only; have hB1 : Below w.heap.size w w1 := ((((Below.refl _ _).alloc (Nat.le_refl _) _).alloc (by simp) _).trans (hb1.mono (by simp <;> omega))); have c1 : w1.cell? ⟨w.heap.size, 3, none⟩ = some (.string m) := (hb1.cell (p := ⟨w.heap.size, 3, none⟩) (by simp <;> omega)).trans (by simp [go_sem]); have HK1 : Hid (K3 w1 (w.heap.size + 1) (.bool false) .nilFunc (.string ⟨#[]⟩)) := K3.below hb1 (Nat.le_refl _) (by have := K3.new (w.alloc (.cells #[.int .i64 z, .int .i64 c, .int .i64 r, .string m, .int .i64 age, .pointer ro] 291)) (.bool false) .nilFunc (.string ⟨#[]⟩) 231; rw [World.size_alloc] at this; exact this))
      | (go_at_call 194; refine (answered_any _ _).mono ?_; rintro e w2 ⟨rfl, hb2⟩; dsimp only; obtain ⟨r0, r1, r2, f0, f1, f2⟩ := HK1.out.below hb2 (Nat.le_refl _)))
    exact bodyPost_ret (v := .agg #[.bool false, .nilFunc, .string (⟨#[50, 48, 48, 32]⟩ ++ mk ++ ⟨#[32]⟩ ++ body)]) (by simp [results, Tryz.results188, go_sem, r0, r1, r2]) rfl ⟨by rw [HT.out, if_neg HE.out], set3b (hB1.trans (hb2.mono hB1.size)) (Nat.le_succ _) _ _ _⟩

end Go.Proofs.YtenaepdmlknlcaaGreatDoor

namespace Go.Proofs.YtenaepdmlknlcaaGreatDoor
open Go.RowKit Go.Shelf

/-- A get, as a value. -/
abbrev getV (t : Tl) (m : ByteArray) (age : Int) (ro : Option Addr) : Value := .agg #[.int .i64 t.z, .int .i64 t.c, .int .i64 t.r, .string m, .int .i64 age, .pointer ro]

theorem K3.new2 (w : World) (o : Obj) (v0 v1 v2 : Value) (t : TypeId) : K3 ((w.alloc o).alloc (.cells #[v0, v1, v2] t)) (w.heap.size + 1) v0 v1 v2 := by
  have := K3.new (w.alloc o) v0 v1 v2 t
  rwa [World.size_alloc] at this
theorem below2 (w : World) (o1 o2 : Obj) : Below w.heap.size w ((w.alloc o1).alloc o2) := ((Below.refl _ _).alloc (Nat.le_refl _) _).alloc (by simp) _

set_option maxHeartbeats 1000000 in
theorem note_locked (A mo : Nat) (t : Tl) (m : ByteArray) (age : Int) (ro : Option Addr) (w : World) (hl : w.cell? ⟨A, mo + 1, none⟩ = some (.bool true)) :
    Calls Tryz.prog 191 #[getV t m age ro, .pointer (some ⟨A, mo, none⟩)] w fun e w' => e = .returned (.agg #[.bool true, .nilFunc, .string ⟨#[]⟩]) ∧ Below w.heap.size w w' := by
  have hA : A < w.heap.size := World.block_lt_of_cell? w _ hl
  go_enter Tryz.func191, Tryz.ntmps191
  go_wp2_with (go_at_call 192; refine (blocked_any _).mono ?_; rintro e w1 ⟨rfl, hb1⟩; dsimp only; obtain ⟨r0, r1, r2, f0, f1, f2⟩ := (K3.new2 _ _ _ _ _ _).below hb1 (Nat.le_refl _))
  exact bodyPost_ret (v := .agg #[.bool true, .nilFunc, .string ⟨#[]⟩]) (by simp [results, Tryz.results191, go_sem, r0, r1, r2]) rfl ⟨rfl, set3b ((below2 w _ _).trans (hb1.mono (by simp; omega))) (Nat.le_succ _) _ _ _⟩

set_option maxHeartbeats 1000000 in
theorem note_open (A mo : Nat) (t : Tl) (m : ByteArray) (age : Int) (ro ro' : Option Addr) (w : World) (hl : w.cell? ⟨A, mo + 1, none⟩ = some (.bool false)) (hr : w.cell? ⟨A, mo, none⟩ = some (.pointer ro')) :
    Calls Tryz.prog 191 #[getV t m age ro, .pointer (some ⟨A, mo, none⟩)] w fun e w' => e = .returned (.agg #[.bool false, .func (.func 205) #[getV t m age ro'] #[], .string ⟨#[]⟩]) ∧ Below w.heap.size w w' := by
  have hA : A < w.heap.size := World.block_lt_of_cell? w _ hl
  go_enter Tryz.func191, Tryz.ntmps191
  go_wp2_with (go_at_call 190; refine (then_any _ _ _ _).mono ?_; rintro e w1 ⟨rfl, hb1⟩; dsimp only; obtain ⟨r0, r1, r2, f0, f1, f2⟩ := (K3.new2 _ _ _ _ _ _).below hb1 (Nat.le_refl _))
  exact bodyPost_ret (v := .agg #[.bool false, .func (.func 205) #[getV t m age ro'] #[], .string ⟨#[]⟩]) (by simp [results, Tryz.results191, go_sem, r0, r1, r2]) rfl ⟨rfl, set3b ((below2 w _ _).trans (hb1.mono (by simp; omega))) (Nat.le_succ _) _ _ _⟩

end Go.Proofs.YtenaepdmlknlcaaGreatDoor

namespace Go.Proofs.YtenaepdmlknlcaaGreatDoor
open Go.RowKit Go.Shelf

theorem ShsAt.below {w w' : World} {A so : Nat} {vs : Nat → Value} {S : Shs} (h : ShsAt w A so vs S) (hb : Below w.heap.size w w') : ShsAt w' A so vs S :=
  have hA : A < w.heap.size := World.block_lt_of_cell? w _ h.room
  ⟨(hb.cell (p := ⟨A, so, none⟩) hA).trans h.room, fun k hk => (h.sh k hk).below hb, fun k hk => ⟨(hb.cell (p := ⟨A, so + 1 + k * 2 + 1, none⟩) hA).trans (h.age k hk).1, (hb.frozen (p := ⟨A, so + 1 + k * 2 + 1, none⟩) hA).trans (h.age k hk).2⟩, h.apart⟩

theorem KA.all6 {w : World} {b : Nat} {v0 v1 v2 v3 v4 v5 : Value} (k : KA w b [v0, v1, v2, v3, v4, v5]) : (w.cell? ⟨b, 0, none⟩ = some v0 ∧ w.cell? ⟨b, 1, none⟩ = some v1 ∧ w.cell? ⟨b, 2, none⟩ = some v2 ∧ w.cell? ⟨b, 3, none⟩ = some v3 ∧ w.cell? ⟨b, 4, none⟩ = some v4 ∧ w.cell? ⟨b, 5, none⟩ = some v5) ∧ w.frozen? ⟨b, 0, none⟩ = false ∧ w.frozen? ⟨b, 1, none⟩ = false ∧ w.frozen? ⟨b, 2, none⟩ = false ∧ w.frozen? ⟨b, 3, none⟩ = false ∧ w.frozen? ⟨b, 4, none⟩ = false ∧ w.frozen? ⟨b, 5, none⟩ = false :=
  ⟨⟨(k 0 _ rfl).1, (k 1 _ rfl).1, (k 2 _ rfl).1, (k 3 _ rfl).1, (k 4 _ rfl).1, (k 5 _ rfl).1⟩, (k 0 _ rfl).2, (k 1 _ rfl).2, (k 2 _ rfl).2, (k 3 _ rfl).2, (k 4 _ rfl).2, (k 5 _ rfl).2⟩
theorem KA.below {A B : World} (h : Below A.heap.size A B) {b : Nat} {vs : List Value} (k : KA A b vs) : KA B b vs := k.fr (M := fun _ _ => False) (Fr.of_below h) (fun _ e => e)
theorem KA.alloc {w : World} {b : Nat} {vs : List Value} (k : KA w b vs) (o : Obj) : KA (w.alloc o) b vs := k.below ((Below.refl _ _).alloc (Nat.le_refl _) _)

theorem KA.drew {w : World} {b : Nat} {vs : List Value} (k : KA w b vs) : KA w.drew b vs := k.below (Below.refl w.heap.size w).drew
theorem K3.drew {w : World} {b : Nat} {v0 v1 v2 : Value} (k : K3 w b v0 v1 v2) : K3 w.drew b v0 v1 v2 := k.below (Below.refl w.heap.size w).drew (Nat.le_refl _)

set_option maxRecDepth 100000 in
set_option maxHeartbeats 1000000 in
theorem look_miss (A mo : Nat) (t : Tl) (ht : t.ok) (m : ByteArray) (age : Int) (ro : Option Addr) (vs : Nat → Value) (S : Shs) (w : World) (h : ShsAt w A (mo + 2) vs S) (hx : tileIx t (S.ks (shN t)) = none) :
    Calls Tryz.prog 174 #[getV t m age ro, .pointer (some ⟨A, mo, none⟩)] w fun e w' => e = .returned (.agg #[.bool false, .func (.func 191) #[getV t m (S.age (shN t)) ro] #[], .string ⟨#[]⟩]) ∧ Below w.heap.size w w' := by
  have HU : Hid (∀ W, Below w.heap.size w W → Calls Tryz.prog 187 #[.pointer (some ⟨A, mo + 2, none⟩), .agg #[.int .i64 t.z, .int .i64 t.c, .int .i64 t.r]] W fun e w' => e = .returned (.tuple #[.string ⟨#[]⟩, .bool false]) ∧ Below W.heap.size W w') := fun W hW => Use_none A (mo + 2) t ht vs S W (h.below hW) hx
  have HA : Hid (∀ W, Below w.heap.size w W → Calls Tryz.prog 189 #[.pointer (some ⟨A, mo + 2, none⟩), .agg #[.int .i64 t.z, .int .i64 t.c, .int .i64 t.r]] W fun e w' => e = .returned (.int .i64 (S.age (shN t))) ∧ Below W.heap.size W w') := fun W hW => Age_any A (mo + 2) t ht vs S W (h.below hW)
  obtain ⟨ag, hag⟩ : ∃ ag, S.age (shN t) = ag := ⟨_, rfl⟩
  rw [hag] at HA ⊢
  clear h hx hag
  go_enter Tryz.func174, Tryz.ntmps174
  go_wp2_with fail
  go_region_with (go_at_call 187; refine Calls.mono (HU.out _ (below2 w _ _).drew) ?_; rintro e w1 ⟨rfl, hb1⟩; dsimp only; have hB1 : Below w.heap.size w w1 := ((below2 w _ _).drew.trans (hb1.mono (by simp; omega))); have HK1 : Hid (KA w1 w.heap.size [.int .i64 t.z, .int .i64 t.c, .int .i64 t.r, .string m, .int .i64 age, .pointer ro]) := KA.below hb1 ((KA.new w [.int .i64 t.z, .int .i64 t.c, .int .i64 t.r, .string m, .int .i64 age, .pointer ro] 291).alloc _).drew; have HR1 : Hid (K3 w1 (w.heap.size + 1) (.bool false) .nilFunc (.string ⟨#[]⟩)) := (K3.new2 w _ _ _ _ _).drew.below hb1 (Nat.le_refl _); obtain ⟨⟨k0, k1, k2, k3, k4, k5⟩, z0, z1, z2, z3, z4, z5⟩ := HK1.out.all6)
  all_goals
    go_wp2_with fail
    clear k0 k1 k2 k3 k4 k5 z0 z1 z2 z3 z4 z5
    obtain ⟨⟨k0, k1, k2, k3, k4, k5⟩, z0, z1, z2, z3, z4, z5⟩ := HK1.out.all6
    go_region_with (go_at_call 189; refine Calls.mono (HA.out _ (by first | exact hB1.drew | exact hB1)) ?_; rintro e w2 ⟨rfl, hb2⟩; dsimp only; have hB2 : Below w.heap.size w w2 := (by first | exact hB1.drew.trans (hb2.mono hB1.size) | exact hB1.trans (hb2.mono hB1.size)); have HK2 : Hid (KA w2 w.heap.size [.int .i64 t.z, .int .i64 t.c, .int .i64 t.r, .string m, .int .i64 age, .pointer ro]) := KA.below hb2 HK1.out.drew; have HR2 : Hid (K3 w2 (w.heap.size + 1) (.bool false) .nilFunc (.string ⟨#[]⟩)) := HR1.out.drew.below hb2 (Nat.le_refl _); obtain ⟨⟨q0, q1, q2, q3, q4, q5⟩, y0, y1, y2, y3, y4, y5⟩ := HK2.out.all6)
    all_goals
      go_wp2_with (go_at_call 190; refine (then_any _ _ _ _).mono ?_; rintro e w3 ⟨rfl, hb3⟩; dsimp only; obtain ⟨r0, r1, r2, f0, f1, f2⟩ := ((HR2.out.fr (frB w.heap.size w2 4 _) (fun i e => (by have : w.heap.size + 1 = w.heap.size := e; omega))).below hb3 (Nat.le_refl _)); have hB3 : Below w.heap.size w w3 := (hB2.setCell (p := ⟨w.heap.size, 4, none⟩) (Nat.le_refl _) _).trans (hb3.mono (hB2.setCell (p := ⟨w.heap.size, 4, none⟩) (Nat.le_refl _) _).size))
      exact bodyPost_ret (v := .agg #[.bool false, .func (.func 191) #[getV t m ag ro] #[], .string ⟨#[]⟩]) (by simp [results, Tryz.results174, go_sem, r0, r1, r2]) rfl ⟨rfl, set3b hB3 (Nat.le_succ _) _ _ _⟩

end Go.Proofs.YtenaepdmlknlcaaGreatDoor

namespace Go.Proofs.YtenaepdmlknlcaaGreatDoor
open Go.RowKit Go.Shelf

set_option maxRecDepth 100000 in
set_option maxHeartbeats 1000000 in
theorem look_hit (A mo : Nat) (t : Tl) (ht : t.ok) (m : ByteArray) (age : Int) (ro : Option Addr) (vs : Nat → Value) (S : Shs) (i : Nat) (k : Kp) (w : World) (g : Gl w) (h : ShsAt w A (mo + 2) vs S) (hx : tileIx t (S.ks (shN t)) = some i) (hk : (S.ks (shN t))[i]? = some k) (hbody : k.body.size ≤ 1000) (h8 : 8 ≤ A) (hv8 : ∀ b, (vs (shN t)).ownBlock = some b → 8 ≤ b) :
    Calls Tryz.prog 174 #[getV t m age ro, .pointer (some ⟨A, mo, none⟩)] w fun e w' => e = .returned (.agg #[.bool false, .nilFunc, .string (tellS m k.body)]) ∧ ∃ v', ShAt w' A (mo + 2 + 1 + shN t * 2) v' ((S.ks (shN t)).eraseIdx i ++ [⟨t, k.body⟩]) ∧ (∀ b, v'.ownBlock = some b → (vs (shN t)).ownBlock = some b ∨ w.heap.size ≤ b) ∧ Fr (ShM A (mo + 2 + 1 + shN t * 2) (vs (shN t))) w w' := by
  have HU : Hid (∀ W, Below w.heap.size w W → Calls Tryz.prog 187 #[.pointer (some ⟨A, mo + 2, none⟩), .agg #[.int .i64 t.z, .int .i64 t.c, .int .i64 t.r]] W fun e w' => e = .returned (.tuple #[.string k.body, .bool true]) ∧ ∃ v', ShAt w' A (mo + 2 + 1 + shN t * 2) v' ((S.ks (shN t)).eraseIdx i ++ [⟨t, k.body⟩]) ∧ (∀ b, v'.ownBlock = some b → (vs (shN t)).ownBlock = some b ∨ W.heap.size ≤ b) ∧ Fr (ShM A (mo + 2 + 1 + shN t * 2) (vs (shN t))) W w') := fun W hW => Use_some A (mo + 2) t ht vs S i k W (h.below hW) hx hk
  have hA : A < w.heap.size := World.block_lt_of_cell? w _ h.room
  have HOwn : Hid (∀ b, (vs (shN t)).ownBlock = some b → b < w.heap.size) := (h.sh _ (shN_lt t)).ownLt
  have HG : Hid (Gl w) := g
  have HT : Hid (∀ W, Gl W → Calls Tryz.prog 188 #[getV t m age ro, .string k.body] W fun e w' => e = .returned (.agg #[.bool false, .nilFunc, .string (tellS m k.body)]) ∧ Below W.heap.size W w') := fun W gW => tell_any t.z t.c t.r age m k.body ro hbody W gW
  have H8 : Hid (∀ b j, b < 8 → ¬ ShM A (mo + 2 + 1 + shN t * 2) (vs (shN t)) b j) := fun b j hb e => e.elim (fun e => by omega) (fun e => by have := hv8 b e; omega)
  obtain ⟨q, hq⟩ : ∃ q, mo + 2 + 1 + shN t * 2 = q := ⟨_, rfl⟩
  obtain ⟨v, hv⟩ : ∃ v, vs (shN t) = v := ⟨_, rfl⟩
  obtain ⟨ks', hks⟩ : ∃ l, (S.ks (shN t)).eraseIdx i ++ [(⟨t, k.body⟩ : Kp)] = l := ⟨_, rfl⟩
  rw [hq, hv, hks] at HU
  rw [hq, hv] at H8
  rw [hv] at HOwn
  rw [hq, hv, hks]
  clear h hx hk g hbody hq hv hks hv8
  obtain ⟨bd, hbd⟩ : ∃ b, k.body = b := ⟨_, rfl⟩
  rw [hbd] at HU HT ⊢
  clear hbd
  go_enter Tryz.func174, Tryz.ntmps174
  go_wp2_with fail
  go_region_with (go_at_call 187; refine Calls.mono (HU.out _ (below2 w _ _).drew) ?_; rintro e w1 ⟨rfl, v1, hs1, ho1, hf1⟩; dsimp only; have HS1 : Hid _ := hs1; have hF1 : Fr (ShM A q v) w w1 := (Fr.of_below (below2 w _ _).drew).trans hf1; have hn0 : ∀ j, ¬ ShM A q v w.heap.size j := (fun j e => e.elim (fun e => (by omega)) (fun e => (by have := HOwn.out _ e; omega))); have hn1 : ∀ j, ¬ ShM A q v (w.heap.size + 1) j := (fun j e => e.elim (fun e => (by omega)) (fun e => (by have := HOwn.out _ e; omega))); have HK1 : Hid (KA w1 w.heap.size [.int .i64 t.z, .int .i64 t.c, .int .i64 t.r, .string m, .int .i64 age, .pointer ro]) := KA.fr hf1 ((KA.new w [.int .i64 t.z, .int .i64 t.c, .int .i64 t.r, .string m, .int .i64 age, .pointer ro] 291).alloc _).drew hn0; have HR1 : Hid (K3 w1 (w.heap.size + 1) (.bool false) .nilFunc (.string ⟨#[]⟩)) := (K3.new2 w _ _ _ _ _).drew.fr hf1 hn1; have hG1 : Gl w1 := HG.out.fr hF1 H8.out; obtain ⟨⟨k0, k1, k2, k3, k4, k5⟩, z0, z1, z2, z3, z4, z5⟩ := HK1.out.all6; clear hs1)
  all_goals
    go_wp2_with (go_at_call 188; refine Calls.mono (HT.out _ hG1) ?_; rintro e w2 ⟨rfl, hb2⟩; dsimp only; obtain ⟨r0, r1, r2, f0, f1, f2⟩ := HR1.out.below hb2 (Nat.le_refl _))
    have ho1' : ∀ b, v1.ownBlock = some b → v.ownBlock = some b ∨ w.heap.size + 2 ≤ b := fun b hb => (ho1 b hb).imp _root_.id (fun h => by simpa using h)
    refine bodyPost_ret (v := .agg #[.bool false, .nilFunc, .string (tellS m bd)]) (by simp [results, Tryz.results174, go_sem, r0, r1, r2]) rfl ⟨rfl, v1, ?_, fun b hb => (ho1' b hb).imp _root_.id (fun h => by omega), ?_⟩
    · refine (HS1.out.below hb2).fr (set3 w2 (w.heap.size + 1) _ _ _) (fun e => by have : A = w.heap.size + 1 := e; omega) (fun b j hb e => ?_)
      have h1 : b = w.heap.size + 1 := e
      rcases ho1' b hb with h2 | h2
      · have := HOwn.out b h2; omega
      · omega
    · exact (hF1.trans (Fr.of_below hb2)).trans_new (set3 w2 (w.heap.size + 1) _ _ _) (fun c j hc e => by have : c = w.heap.size + 1 := e; omega)

end Go.Proofs.YtenaepdmlknlcaaGreatDoor

namespace Go.Proofs.YtenaepdmlknlcaaGreatDoor
open Go.RowKit Go.Shelf

/-- A put or a del, as a value. -/
abbrev chgV (id : Int) (p : Option Addr) (zoom : Int) : Value := .agg #[.int .i64 id, .pointer p, .int .i64 zoom]

set_option maxHeartbeats 1000000 in
theorem lock_locked (A mo : Nat) (id z : Int) (p : Option Addr) (w : World) (hl : w.cell? ⟨A, mo + 1, none⟩ = some (.bool true)) :
    Calls Tryz.prog 175 #[chgV id p z, .pointer (some ⟨A, mo, none⟩)] w fun e w' => e = .returned (.agg #[.bool true, .nilFunc, .string ⟨#[]⟩]) ∧ Below w.heap.size w w' := by
  have hA : A < w.heap.size := World.block_lt_of_cell? w _ hl
  go_enter Tryz.func175, Tryz.ntmps175
  go_wp2_with (go_at_call 192; refine (blocked_any _).mono ?_; rintro e w1 ⟨rfl, hb1⟩; dsimp only; obtain ⟨r0, r1, r2, f0, f1, f2⟩ := (K3.new2 _ _ _ _ _ _).below hb1 (Nat.le_refl _))
  exact bodyPost_ret (v := .agg #[.bool true, .nilFunc, .string ⟨#[]⟩]) (by simp [results, Tryz.results175, go_sem, r0, r1, r2]) rfl ⟨rfl, set3b ((below2 w _ _).trans (hb1.mono (by simp; omega))) (Nat.le_succ _) _ _ _⟩

set_option maxHeartbeats 1000000 in
theorem lock_open (A mo : Nat) (id z : Int) (p : Option Addr) (w : World) (hl : w.cell? ⟨A, mo + 1, none⟩ = some (.bool false)) (hf : w.frozen? ⟨A, mo + 1, none⟩ = false) :
    Calls Tryz.prog 175 #[chgV id p z, .pointer (some ⟨A, mo, none⟩)] w fun e w' => e = .returned (.agg #[.bool false, .func (.func 193) #[chgV id p z] #[], .string ⟨#[]⟩]) ∧ w'.cell? ⟨A, mo + 1, none⟩ = some (.bool true) ∧ w'.frozen? ⟨A, mo + 1, none⟩ = false ∧ Fr (fun c j => c = A ∧ j = mo + 1) w w' := by
  have hA : A < w.heap.size := World.block_lt_of_cell? w _ hl
  have hsz : (w.setCell ⟨A, mo + 1, none⟩ (.bool true)).heap.size = w.heap.size := by simp [World.setCell]
  go_enter Tryz.func175, Tryz.ntmps175
  go_wp2_with (go_at_call 190; refine (then_any _ _ _ _).mono ?_; rintro e w1 ⟨rfl, hb1⟩; dsimp only; have hk := (K3.new2 (w.setCell ⟨A, mo + 1, none⟩ (.bool true)) _ _ _ _ _).below hb1 (Nat.le_refl _); rw [hsz] at hk; obtain ⟨r0, r1, r2, f0, f1, f2⟩ := hk)
  have hF1 : Fr (fun c j => c = A ∧ j = mo + 1) w w1 := ((((Fr.refl (fun c j => c = A ∧ j = mo + 1) w).setCell (b := A) (i := mo + 1) (.inl ⟨rfl, rfl⟩) _).alloc _).alloc _).trans (Fr.of_below hb1)
  have hA1 : A < (w.setCell ⟨A, mo + 1, none⟩ (.bool true)).heap.size := by rw [hsz]; exact hA
  have c1 : w1.cell? ⟨A, mo + 1, none⟩ = some (.bool true) := (hb1.cell (p := ⟨A, mo + 1, none⟩) (by simp; omega)).trans (((below2 (w.setCell ⟨A, mo + 1, none⟩ (.bool true)) _ _).cell (p := ⟨A, mo + 1, none⟩) hA1).trans (cell_eq hl _))
  have e1 : w1.frozen? ⟨A, mo + 1, none⟩ = false := (hb1.frozen (p := ⟨A, mo + 1, none⟩) (by simp; omega)).trans (((below2 (w.setCell ⟨A, mo + 1, none⟩ (.bool true)) _ _).frozen (p := ⟨A, mo + 1, none⟩) hA1).trans (by rw [World.frozen?_setCell]; exact hf))
  have hs3 := fun u0 u1 u2 => set3 w1 (w.heap.size + 1) u0 u1 u2
  have hz1 : w.heap.size + 2 ≤ w1.heap.size := by have := hb1.size; simp at this; omega
  refine bodyPost_ret (v := .agg #[.bool false, .func (.func 193) #[chgV id p z] #[], .string ⟨#[]⟩]) (by simp [results, Tryz.results175, go_sem, r0, r1, r2]) rfl ⟨rfl, ?_, ?_, ?_⟩
  · exact ((hs3 _ _ _).cell A _ (by omega) (fun e => by have : A = w.heap.size + 1 := e; omega)).trans c1
  · exact ((hs3 _ _ _).frozen A _ (by omega) (fun e => by have : A = w.heap.size + 1 := e; omega)).trans e1
  · exact hF1.trans_new (hs3 _ _ _) (fun c j hc e => by have : c = w.heap.size + 1 := e; omega)

end Go.Proofs.YtenaepdmlknlcaaGreatDoor

namespace Go.Proofs.YtenaepdmlknlcaaGreatDoor
open Go.RowKit Go.Shelf

set_option maxHeartbeats 1000000 in
theorem First_bad (w : World) :
    Calls Tryz.prog 151 #[.agg zeroR.toArray] w fun e w' => e = .returned (.func (.func 176) #[] #[]) ∧ Below w.heap.size w w' := by
  unfold zeroR
  go_enter Tryz.func151, Tryz.ntmps151
  go_wp2
  go_ret
  exact ⟨rfl, (Below.refl _ _).alloc (Nat.le_refl _) _⟩

set_option maxHeartbeats 1000000 in
theorem First_get (t : Tl) (m : ByteArray) (w : World) :
    Calls Tryz.prog 151 #[.agg #[.int .i64 1, .int .i64 t.z, .int .i64 t.c, .int .i64 t.r, .string m, .int .i64 0, .int .i64 0, .int .i64 0, .int .i64 0, .slice none 0 0, .int .i64 0]] w fun e w' => e = .returned (.func (.func 174) #[getV t m 0 none] #[]) ∧ Below w.heap.size w w' := by
  go_enter Tryz.func151, Tryz.ntmps151
  go_wp2
  go_ret
  exact ⟨rfl, (Below.refl _ _).alloc (Nat.le_refl _) _⟩

set_option maxHeartbeats 1000000 in
theorem First_del (id : Int) (w : World) :
    Calls Tryz.prog 151 #[.agg #[.int .i64 3, .int .i64 0, .int .i64 0, .int .i64 0, .string ⟨#[]⟩, .int .i64 0, .int .i64 0, .int .i64 0, .int .i64 0, .slice none 0 0, .int .i64 id]] w fun e w' => e = .returned (.func (.func 175) #[chgV id none 0] #[]) ∧ Below w.heap.size w w' := by
  go_enter Tryz.func151, Tryz.ntmps151
  go_wp2
  go_ret
  exact ⟨rfl, (Below.refl _ _).alloc (Nat.le_refl _) _⟩

set_option maxHeartbeats 1000000 in
theorem First_put (id kd ht col : Int) (a : Option Addr) (n cap : Nat) (w : World) :
    Calls Tryz.prog 151 #[.agg #[.int .i64 2, .int .i64 0, .int .i64 0, .int .i64 0, .string ⟨#[]⟩, .int .i64 id, .int .i64 kd, .int .i64 ht, .int .i64 col, .slice a n cap, .int .i64 0]] w fun e w' => e = .returned (.func (.func 175) #[chgV id (some ⟨w.heap.size, 5, none⟩) 0] #[]) ∧ KA w' w.heap.size [.int .i64 2, .int .i64 0, .int .i64 0, .int .i64 0, .string ⟨#[]⟩, .int .i64 id, .int .i64 kd, .int .i64 ht, .int .i64 col, .slice a n cap, .int .i64 0] ∧ w'.heap.size = w.heap.size + 1 ∧ Below w.heap.size w w' := by
  go_enter Tryz.func151, Tryz.ntmps151
  go_wp2
  go_ret
  exact ⟨rfl, KA.new _ _ _, by simp, (Below.refl _ _).alloc (Nat.le_refl _) _⟩

end Go.Proofs.YtenaepdmlknlcaaGreatDoor

namespace Go.Proofs.YtenaepdmlknlcaaGreatDoor
open Go.RowKit Go.Shelf

theorem isSession_any (n : Int) (w : World) : Calls Tryz.prog 76 #[.int .i64 n] w fun e w' => e = .returned (.bool (decide (0 ≤ n ∧ n < 4))) ∧ w' = w := by
  by_cases h1 : 0 ≤ n
  · by_cases h2 : n < 4
    · go_enter Tryz.func76, Tryz.ntmps76
      go_wp2
      go_ret
      exact ⟨ret_bool (by simp; omega), rfl⟩
    · go_enter Tryz.func76, Tryz.ntmps76
      go_wp2
      go_ret
      exact ⟨ret_bool (by simp; omega), rfl⟩
  · go_enter Tryz.func76, Tryz.ntmps76
    go_wp2
    go_ret
    exact ⟨ret_bool (by simp; omega), rfl⟩

theorem neq_nil (w : World) : Sem.run Tryz.prog (binOp BinOp.neq 131 .nilFunc .nilFunc) w = .ok (.bool false) w := by kernel_rfl
theorem neq_fn (f : Fn) (b fr : Array Value) (w : World) : Sem.run Tryz.prog (binOp BinOp.neq 131 (.func f b fr) .nilFunc) w = .ok (.bool true) w := by kernel_rfl
theorem eql_nilF (w : World) : Sem.run Tryz.prog (binOp BinOp.eql 131 .nilFunc .nilFunc) w = .ok (.bool true) w := by kernel_rfl
theorem eql_fn (f : Fn) (b fr : Array Value) (w : World) : Sem.run Tryz.prog (binOp BinOp.eql 131 (.func f b fr) .nilFunc) w = .ok (.bool false) w := by kernel_rfl

set_option maxRecDepth 100000 in
set_option maxHeartbeats 1000000 in
theorem waiting_idle (A o c : Nat) (cap : Nat) (buf : Array Value) (cl : Bool) (s r : Nat) (w : World) (hc : w.cell? ⟨A, o, none⟩ = some (.chan (some c))) (hn : w.cell? ⟨A, o + 1, none⟩ = some .nilFunc) (hch : w.heap[c]? = some (.chan cap buf cl s r false)) :
    Calls Tryz.prog 50 #[.pointer (some ⟨A, o, none⟩)] w fun e w' => e = .returned (.int .i64 (buf.size : Int)) ∧ w' = w := by
  have hlen := fun ty => Conc.run_len_chan (P := Tryz.prog) 129 ty Tryz.underlying129 hch
  have hne := neq_nil w
  clear hch
  go_enter Tryz.func50, Tryz.ntmps50
  go_wp2
  go_ret
  exact ⟨rfl, rfl⟩

set_option maxRecDepth 100000 in
set_option maxHeartbeats 1000000 in
theorem waiting_busy (A o c : Nat) (cap : Nat) (buf : Array Value) (cl : Bool) (s r : Nat) (f : Fn) (b fr : Array Value) (w : World) (hc : w.cell? ⟨A, o, none⟩ = some (.chan (some c))) (hn : w.cell? ⟨A, o + 1, none⟩ = some (.func f b fr)) (hch : w.heap[c]? = some (.chan cap buf cl s r false)) (hb : buf.size ≤ 1000) :
    Calls Tryz.prog 50 #[.pointer (some ⟨A, o, none⟩)] w fun e w' => e = .returned (.int .i64 ((buf.size : Int) + 1)) ∧ w' = w := by
  have hlen := fun ty => Conc.run_len_chan (P := Tryz.prog) 129 ty Tryz.underlying129 hch
  have hne := neq_fn f b fr w
  clear hch
  go_enter Tryz.func50, Tryz.ntmps50
  go_wp2
  go_ret
  exact ⟨rfl, rfl⟩

/-- A session's answers are given away. -/
theorem tellS_any (A o : Nat) (v : Option Addr) (n cap : Nat) (w : World) (hv : w.cell? ⟨A, o + 2, none⟩ = some (.slice v n cap)) (hf : w.frozen? ⟨A, o + 2, none⟩ = false) :
    Calls Tryz.prog 78 #[.pointer (some ⟨A, o, none⟩)] w fun e w' => e = .returned (.slice v n cap) ∧ w' = w.setCell ⟨A, o + 2, none⟩ (.slice none 0 0) := by
  go_enter Tryz.func78, Tryz.ntmps78
  go_wp2
  go_ret
  exact ⟨rfl, rfl⟩

end Go.Proofs.YtenaepdmlknlcaaGreatDoor

namespace Go.Proofs.YtenaepdmlknlcaaGreatDoor
open Go.Conc Go.RowKit Go.Shelf

set_option maxRecDepth 100000 in
set_option maxHeartbeats 1000000 in
theorem begin_empty (A o c cap s r : Nat) (w : World) (hc : w.cell? ⟨A, o, none⟩ = some (.chan (some c))) (hch : w.heap[c]? = some (.chan cap #[] false s r false)) :
    Calls Tryz.prog 119 #[.pointer (some ⟨A, o, none⟩)] w fun e w' => e = .returned (.bool false) ∧ w' = w := by
  refine calls_of_loneTo fun cs => ?_
  have e : Frame.enter Tryz.prog 119 #[.pointer (some ⟨A, o, none⟩)] .normal = (base 119).at ⟨#[.pointer (some ⟨A, o, none⟩), undef, undef, undef, undef, undef, undef, undef, undef, undef, undef, undef, undef, undef, undef, undef, undef, undef], []⟩ [.code (Tryz.f119.body.getD .skip)] := by
    simp [Frame.enter, Frame.at, Tryz.func119, base, Tryz.f119]
  rw [e]
  refine LoneTo.goes (n := 12) ?_
  simp only [Tryz.f119, Option.getD_some]
  s_c stepG_seq
  s_reg
  s_op
  s_c stepG_region_end
  s_c stepG_seq
  s_reg
  s_op
  s_op
  s_op
  s_op
  s_c stepG_region_end
  s_c stepG_seq
  s_stop
  refine LoneTo.goes (n := 1) ?_
  s_reg
  s_stop
  refine LoneTo.step (step_lone_select_default (c := c) (z := .string ⟨#[]⟩) (cap := cap) (s := s) (r := r) (tm := false) (stepG_comm (cases := #[rcase c (.string ⟨#[]⟩)]) (blocking := false) (shape := .select) (w' := w) rfl rfl (by decide) (by simp [go_sem, execOp, rcase, Act.eval])) hch) ?_
  rw [Frame.finish_at]
  walk_nrm
  refine LoneTo.goes (n := 12) ?_
  s_op
  s_op
  s_c stepG_region_end
  s_c stepG_block
  s_cond false
  s_c stepG_seq
  s_reg
  s_op
  s_c stepG_region_end
  s_c stepG_ret'
  s_stop
  exact LoneTo.done ⟨.returned (.bool false), _, rfl, ⟨rfl, rfl⟩, rfl, rfl, rfl, rfl, _, Tryz.func119, by simp [results, Tryz.f119, Frame.at]⟩

end Go.Proofs.YtenaepdmlknlcaaGreatDoor

namespace Go.Proofs.YtenaepdmlknlcaaGreatDoor
open Go.Conc Go.RowKit Go.Shelf

/-- A callee by its contract, in a walk of the machine of one: behind it the caller goes on. -/
theorem LoneTo.call {P : Program} {Q : Goroutine → World → Prop} {f : FuncId} {args : Array Value} {w : World} {R : Ending → World → Prop} {c : Frame} {cs : List Frame} (h : Calls P f args w R)
    (hR : ∀ e w', R e w' → ∃ v, e = .returned v ∧ LoneTo P Q (G (c.finish v) cs) w') : LoneTo P Q (G (Frame.enter P f args .normal) (c :: cs)) w := by
  obtain ⟨e, w', fr, hr, hc, hf, hl⟩ := h (c :: cs)
  obtain ⟨v, rfl, g₂, w₂, hs, hq⟩ := hR e w' hr
  exact ⟨g₂, w₂, Steps.trans hc (Steps.head (step_leave_returned hl) hs), hq⟩

end Go.Proofs.YtenaepdmlknlcaaGreatDoor
