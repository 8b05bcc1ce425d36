import Derived.Test.YtenaepdmlknlcaaGreatDoorProg
import Derived.WalkKit
import Derived.WalkSpells
import Derived.WalkLawsBesides
import Derived.Deep.QuietTactic
import Derived.BigQuiet
import Derived.Deep.RegionWith
import Derived.Deep.DeepFit
namespace Go.Proofs.YtenaepdmlknlcaaGreatDoor
open Go.RowKit

theorem ret_int {k : IntKind} {a b : Int} (h : a = b) : Ending.returned (.int k a) = .returned (.int k b) := by rw [h]
theorem ret_bool {a b : Bool} (h : a = b) : Ending.returned (.bool a) = .returned (.bool b) := by rw [h]

def inB (n l m : Int) : Bool := decide (l ≤ n ∧ n ≤ m)

set_option maxHeartbeats 400000 in
theorem within_any (n l m : Int) (w : World) :
    Calls Tryz.prog 82 #[.int .i64 n, .int .i64 l, .int .i64 m] w fun e w' => e = .returned (.bool (inB n l m)) ∧ w' = w := by
  by_cases h1 : l ≤ n
  · by_cases h2 : n ≤ m
    · go_enter Tryz.func82, Tryz.ntmps82
      go_wp2
      go_ret
      exact ⟨ret_bool (by simp [inB]; omega), rfl⟩
    · go_enter Tryz.func82, Tryz.ntmps82
      go_wp2
      go_ret
      exact ⟨ret_bool (by simp [inB]; omega), rfl⟩
  · go_enter Tryz.func82, Tryz.ntmps82
    go_wp2
    go_ret
    exact ⟨ret_bool (by simp [inB]; omega), rfl⟩

abbrev bx (l t r b : Int) : Value := .agg #[.int .i64 l, .int .i64 t, .int .i64 r, .int .i64 b]
set_option maxHeartbeats 400000 in
theorem boxAt_any (x y : Int) (w : World) :
    Calls Tryz.prog 85 #[.agg #[.int .i64 x, .int .i64 y]] w fun e w' => e = .returned (.agg #[.int .i64 x, .int .i64 y, .int .i64 x, .int .i64 y]) ∧ Below w.heap.size w w' := by
  go_enter Tryz.func85, Tryz.ntmps85
  go_wp2
  exact bodyPost_ret (v := .agg #[.int .i64 x, .int .i64 y, .int .i64 x, .int .i64 y]) (by simp [results, Tryz.results85, go_sem]) rfl ⟨rfl, ((Below.refl _ _).alloc (Nat.le_refl _) _).alloc (by simp) _⟩

def mnZ (a b : Int) : Int := min a b
def mxZ (a b : Int) : Int := max a b

set_option maxHeartbeats 400000 in
theorem Join_any (l t r b l' t' r' b' : Int) (w : World) :
    Calls Tryz.prog 86 #[.agg #[.int .i64 l, .int .i64 t, .int .i64 r, .int .i64 b], .agg #[.int .i64 l', .int .i64 t', .int .i64 r', .int .i64 b']] w fun e w' => e = .returned (.agg #[.int .i64 (mnZ l l'), .int .i64 (mnZ t t'), .int .i64 (mxZ r r'), .int .i64 (mxZ b b')]) ∧ Below w.heap.size w w' := by
  go_enter Tryz.func86, Tryz.ntmps86
  go_wp2
  all_goals exact bodyPost_ret (v := .agg #[.int .i64 (mnZ l l'), .int .i64 (mnZ t t'), .int .i64 (mxZ r r'), .int .i64 (mxZ b b')]) (by simp [results, Tryz.results86, go_sem, mnZ, mxZ] <;> omega) rfl ⟨rfl, (((Below.refl _ _).alloc (Nat.le_refl _) _).alloc (by simp) _).alloc (by simp; omega) _⟩

def meetsB (l t r b l' t' r' b' : Int) : Bool := decide (l ≤ r' ∧ l' ≤ r ∧ t ≤ b' ∧ t' ≤ b)

set_option maxHeartbeats 1000000 in
theorem Meets_any (l t r b l' t' r' b' : Int) (w : World) :
    Calls Tryz.prog 158 #[.agg #[.int .i64 l, .int .i64 t, .int .i64 r, .int .i64 b], .agg #[.int .i64 l', .int .i64 t', .int .i64 r', .int .i64 b']] w fun e w' => e = .returned (.bool (meetsB l t r b l' t' r' b')) ∧ Below w.heap.size w w' := by
  have hB : ∀ o1 o2 : Obj, Below w.heap.size w ((w.alloc o1).alloc o2) := fun o1 o2 => ((Below.refl _ _).alloc (Nat.le_refl _) _).alloc (by simp) _
  by_cases h1 : l ≤ r'
  · by_cases h2 : l' ≤ r
    · by_cases h3 : t ≤ b'
      · by_cases h4 : t' ≤ b
        · go_enter Tryz.func158, Tryz.ntmps158
          go_wp2
          go_ret
          exact ⟨ret_bool (by simp [meetsB]; omega), hB _ _⟩
        · go_enter Tryz.func158, Tryz.ntmps158
          go_wp2
          go_ret
          exact ⟨ret_bool (by simp [meetsB]; omega), hB _ _⟩
      · go_enter Tryz.func158, Tryz.ntmps158
        go_wp2
        go_ret
        exact ⟨ret_bool (by simp [meetsB]; omega), hB _ _⟩
    · go_enter Tryz.func158, Tryz.ntmps158
      go_wp2
      go_ret
      exact ⟨ret_bool (by simp [meetsB]; omega), hB _ _⟩
  · go_enter Tryz.func158, Tryz.ntmps158
    go_wp2
    go_ret
    exact ⟨ret_bool (by simp [meetsB]; omega), hB _ _⟩

end Go.Proofs.YtenaepdmlknlcaaGreatDoor

namespace Go.Proofs.YtenaepdmlknlcaaGreatDoor
open Go.RowKit

def mayB (k n : Int) : Bool := decide ((k = 1 ∧ n = 1) ∨ (k = 2 ∧ 2 ≤ n ∧ n ≤ 6) ∨ (k = 3 ∧ 3 ≤ n ∧ n ≤ 6))

set_option maxHeartbeats 400000 in
theorem mayHave_any (k n : Int) (w : World) :
    Calls Tryz.prog 83 #[.int .i64 k, .int .i64 n] w fun e w' => e = .returned (.bool (mayB k n)) ∧ w' = w := by
  by_cases h1 : k = 1
  · subst h1
    go_enter Tryz.func83, Tryz.ntmps83
    go_wp2_with (first | (go_at_call 82; refine (within_any _ _ _ _).mono ?_; rintro e w' ⟨rfl, rfl⟩))
    go_ret
    exact ⟨ret_bool (by rw [Bool.eq_iff_iff]; simp [mayB]), rfl⟩
  · by_cases h2 : k = 2
    · subst h2
      go_enter Tryz.func83, Tryz.ntmps83
      go_wp2_with (first | (go_at_call 82; refine (within_any _ _ _ _).mono ?_; rintro e w' ⟨rfl, rfl⟩))
      go_ret
      exact ⟨ret_bool (by rw [Bool.eq_iff_iff]; simp [mayB, inB]), rfl⟩
    · by_cases h3 : k = 3
      · subst h3
        go_enter Tryz.func83, Tryz.ntmps83
        go_wp2_with (first | (go_at_call 82; refine (within_any _ _ _ _).mono ?_; rintro e w' ⟨rfl, rfl⟩))
        go_ret
        exact ⟨ret_bool (by rw [Bool.eq_iff_iff]; simp [mayB, inB]), rfl⟩
      · have g1 : (k == 1) = false := by simp [h1]
        have g2 : (k == 2) = false := by simp [h2]
        have g3 : (k == 3) = false := by simp [h3]
        go_enter Tryz.func83, Tryz.ntmps83
        go_wp2_with (first | (go_at_call 82; refine (within_any _ _ _ _).mono ?_; rintro e w' ⟨rfl, rfl⟩))
        go_ret
        exact ⟨ret_bool (by rw [Bool.eq_iff_iff]; simp [mayB, h1, h2, h3]), rfl⟩

set_option maxHeartbeats 400000 in
theorem middle_any (l t r b : Int) (w : World) (h1 : 0 ≤ l) (h2 : 0 ≤ t) (h3 : 0 ≤ r) (h4 : 0 ≤ b) (g1 : l ≤ 1000) (g2 : t ≤ 1000) (g3 : r ≤ 1000) (g4 : b ≤ 1000) :
    Calls Tryz.prog 130 #[.agg #[.int .i64 l, .int .i64 t, .int .i64 r, .int .i64 b]] w fun e w' => e = .returned (.agg #[.int .i64 ((l + r) / 2), .int .i64 ((t + b) / 2)]) ∧ Below w.heap.size w w' := by
  go_enter Tryz.func130, Tryz.ntmps130
  go_wp2
  exact bodyPost_ret (v := .agg #[.int .i64 ((l + r) / 2), .int .i64 ((t + b) / 2)]) (by simp [results, Tryz.results130, go_sem]) rfl ⟨rfl, ((Below.refl _ _).alloc (Nat.le_refl _) _).alloc (by simp) _⟩

def turnZ (ax ay bx by' cx cy : Int) : Int := (bx - ax) * (cy - ay) - (by' - ay) * (cx - ax)

theorem mul_bd {a b A B : Int} (ha : -A ≤ a) (ha' : a ≤ A) (hb : -B ≤ b) (hb' : b ≤ B) : -(A * B) ≤ a * b ∧ a * b ≤ A * B := by
  have hA : 0 ≤ A := by omega
  have hB : 0 ≤ B := by omega
  have h : (a * b).natAbs ≤ (A * B).natAbs := by
    rw [Int.natAbs_mul, Int.natAbs_mul]
    exact Nat.mul_le_mul (by omega) (by omega)
  have h2 : 0 ≤ A * B := Int.mul_nonneg hA hB
  omega

set_option maxHeartbeats 400000 in
theorem turnOf_any (ax ay bx by' cx cy : Int) (w : World) (h1 : 0 ≤ ax) (h2 : 0 ≤ ay) (h3 : 0 ≤ bx) (h4 : 0 ≤ by') (h5 : 0 ≤ cx) (h6 : 0 ≤ cy) (g1 : ax ≤ 1000) (g2 : ay ≤ 1000) (g3 : bx ≤ 1000) (g4 : by' ≤ 1000) (g5 : cx ≤ 1000) (g6 : cy ≤ 1000) :
    Calls Tryz.prog 183 #[.agg #[.int .i64 ax, .int .i64 ay], .agg #[.int .i64 bx, .int .i64 by'], .agg #[.int .i64 cx, .int .i64 cy]] w fun e w' => e = .returned (.int .i64 (turnZ ax ay bx by' cx cy)) ∧ Below w.heap.size w w' := by
  have p1 := mul_bd (a := bx - ax) (b := cy - ay) (A := 1000) (B := 1000) (by omega) (by omega) (by omega) (by omega)
  have p2 := mul_bd (a := by' - ay) (b := cx - ax) (A := 1000) (B := 1000) (by omega) (by omega) (by omega) (by omega)
  obtain ⟨p1, p1'⟩ := p1
  obtain ⟨p2, p2'⟩ := p2
  go_enter Tryz.func183, Tryz.ntmps183
  go_wp2
  go_ret
  exact ⟨rfl, (((Below.refl _ _).alloc (Nat.le_refl _) _).alloc (by simp) _).alloc (by simp; omega) _⟩

set_option maxHeartbeats 400000 in
theorem corners_any (l t r b : Int) (w : World) :
    Calls Tryz.prog 182 #[.agg #[.int .i64 l, .int .i64 t, .int .i64 r, .int .i64 b]] w fun e w' => e = .returned (.agg #[.int .i64 l, .int .i64 t, .int .i64 r, .int .i64 t, .int .i64 r, .int .i64 b, .int .i64 l, .int .i64 b]) ∧ Below w.heap.size w w' := by
  go_enter Tryz.func182, Tryz.ntmps182
  go_wp2
  exact bodyPost_ret (v := .agg #[.int .i64 l, .int .i64 t, .int .i64 r, .int .i64 t, .int .i64 r, .int .i64 b, .int .i64 l, .int .i64 b]) (by simp [results, Tryz.results182, go_sem]) rfl ⟨rfl, ((Below.refl _ _).alloc (Nat.le_refl _) _).alloc (by simp) _⟩

def pointB (x y l t r b : Int) : Bool := decide (l ≤ x ∧ x < r ∧ t ≤ y ∧ y < b)

set_option maxHeartbeats 1000000 in
theorem pointCovers_any (x y l t r b : Int) (w : World) :
    Calls Tryz.prog 127 #[.agg #[.int .i64 x, .int .i64 y], .agg #[.int .i64 l, .int .i64 t, .int .i64 r, .int .i64 b]] w fun e w' => e = .returned (.bool (pointB x y l t r b)) ∧ Below w.heap.size w w' := by
  have hB : ∀ o1 o2 : Obj, Below w.heap.size w ((w.alloc o1).alloc o2) := fun o1 o2 => ((Below.refl _ _).alloc (Nat.le_refl _) _).alloc (by simp) _
  by_cases h1 : l ≤ x
  · by_cases h2 : x < r
    · by_cases h3 : t ≤ y
      · by_cases h4 : y < b
        · go_enter Tryz.func127, Tryz.ntmps127
          go_wp2
          go_ret
          exact ⟨ret_bool (by simp [pointB]; omega), hB _ _⟩
        · go_enter Tryz.func127, Tryz.ntmps127
          go_wp2
          go_ret
          exact ⟨ret_bool (by simp [pointB]; omega), hB _ _⟩
      · go_enter Tryz.func127, Tryz.ntmps127
        go_wp2
        go_ret
        exact ⟨ret_bool (by simp [pointB]; omega), hB _ _⟩
    · go_enter Tryz.func127, Tryz.ntmps127
      go_wp2
      go_ret
      exact ⟨ret_bool (by simp [pointB]; omega), hB _ _⟩
  · go_enter Tryz.func127, Tryz.ntmps127
    go_wp2
    go_ret
    exact ⟨ret_bool (by simp [pointB]; omega), hB _ _⟩

end Go.Proofs.YtenaepdmlknlcaaGreatDoor

namespace Go.Proofs.YtenaepdmlknlcaaGreatDoor
open Go.RowKit

abbrev Pts := List (Int × Int)

/-- The places lie in the block b, below n0, from off on. -/
def Places (n0 : Nat) (w : World) (b off : Nat) (ps : Pts) : Prop :=
  b < n0 ∧ ∀ k x y, ps[k]? = some (x, y) → w.cell? ⟨b, off + k * 2, none⟩ = some (.int .i64 x) ∧ w.cell? ⟨b, off + k * 2 + 1, none⟩ = some (.int .i64 y)

theorem Places.below {n0 : Nat} {A B : World} (h : Below n0 A B) {b off : Nat} {ps : Pts} (hp : Places n0 A b off ps) : Places n0 B b off ps :=
  ⟨hp.1, fun k x y e => ⟨(h.cell (p := ⟨b, off + k * 2, none⟩) hp.1).trans (hp.2 k x y e).1, (h.cell (p := ⟨b, off + k * 2 + 1, none⟩) hp.1).trans (hp.2 k x y e).2⟩⟩

theorem Places.at {n0 : Nat} {w : World} {b off : Nat} {ps : Pts} (hp : Places n0 w b off ps) {k : Nat} (hk : k < ps.length) :
    ∃ x y, ps[k]? = some (x, y) ∧ w.cell? ⟨b, off + k * 2, none⟩ = some (.int .i64 x) ∧ w.cell? ⟨b, off + k * 2 + 1, none⟩ = some (.int .i64 y) :=
  ⟨ps[k].1, ps[k].2, List.getElem?_eq_getElem hk, hp.2 k _ _ (List.getElem?_eq_getElem hk)⟩

def inW (p : Int × Int) : Bool := inB p.1 0 255 && inB p.2 0 255

theorem all_take_succ {ps : Pts} {f : Int × Int → Bool} {k : Nat} {p : Int × Int} (h : ps[k]? = some p) (ha : (ps.take k).all f = true) (hf : f p = true) : (ps.take (k + 1)).all f = true := by
  rw [List.take_add_one, h]
  simp only [Option.toList, List.all_append, ha, List.all_cons, hf, List.all_nil]; rfl

theorem all_false {ps : Pts} {f : Int × Int → Bool} {k : Nat} {p : Int × Int} (h : ps[k]? = some p) (hf : f p = false) : ps.all f = false := by
  rw [List.all_eq_false]
  exact ⟨p, List.mem_of_getElem? h, by simp [hf]⟩

set_option maxHeartbeats 1000000 in
theorem inWorld_any (b off n cap : Nat) (ps : Pts) (w : World) (hp : Places w.heap.size w b off ps) (hn : n = ps.length) (hn2 : n ≤ 1000000000000000) :
    Calls Tryz.prog 84 #[.slice (some ⟨b, off, none⟩) n cap] w fun e w' => e = .returned (.bool (ps.all inW)) ∧ Below w.heap.size w w' := by
  have Hn : Hid (n = ps.length) := hn
  clear hn
  go_enter Tryz.func84, Tryz.ntmps84
  go_wp2
  go_loopw [7] (fun i wr => ∃ k : Nat, k ≤ n ∧ i = .int .i64 k ∧ (ps.take k).all inW = true ∧ Below w.heap.size w wr) (fun i _ => n - (intOf i).toNat)
  case atStart => exact ⟨0, Nat.zero_le _, rfl, by simp, Below.refl _ _⟩
  case round =>
    obtain ⟨k, hk, rfl, hall, hb⟩ := hrel
    by_cases hlt : k < n
    · obtain ⟨x, y, hxy, hx, hy⟩ := (hp.below hb).at (k := k) (by rw [← Hn.out]; exact hlt)
      have Hxy : Hid (ps[k]? = some (x, y)) := hxy
      have Hall : Hid ((ps.take k).all inW = true) := hall
      clear hxy hall hp
      have hsz := hb.size
      by_cases gx : inB x 0 255 = true
      · by_cases gy : inB y 0 255 = true
        · have Hf : Hid (inW (x, y) = true) := by show inW (x, y) = true; simp [inW, gx, gy]
          go_wp2_with (go_at_call 82; refine (within_any _ _ _ _).mono ?_; rintro e w' ⟨rfl, rfl⟩)
          go_roundw
          case rel => exact ⟨k + 1, by omega, by go_num, all_take_succ Hxy.out Hall.out Hf.out, hb.alloc hsz _⟩
          case measure => simp [intOf]; omega
        · have gy' : inB y 0 255 = false := by simpa using gy
          clear gy
          have Hf : Hid (inW (x, y) = false) := by show inW (x, y) = false; simp [inW, gy']
          go_wp2_with (go_at_call 82; refine (within_any _ _ _ _).mono ?_; rintro e w' ⟨rfl, rfl⟩)
          go_ret
          exact ⟨ret_bool (all_false Hxy.out Hf.out).symm, hb.alloc hsz _⟩
      · have gx' : inB x 0 255 = false := by simpa using gx
        clear gx
        have Hf : Hid (inW (x, y) = false) := by show inW (x, y) = false; simp [inW, gx']
        go_wp2_with (go_at_call 82; refine (within_any _ _ _ _).mono ?_; rintro e w' ⟨rfl, rfl⟩)
        go_ret
        exact ⟨ret_bool (all_false Hxy.out Hf.out).symm, hb.alloc hsz _⟩
    · have Hall : Hid (ps.all inW = true) := by
        show ps.all inW = true
        have e : k = ps.length := by have := Hn.out; omega
        rw [e, List.take_length] at hall; exact hall
      clear hall
      go_wp2
      go_ret
      exact ⟨ret_bool Hall.out.symm, hb⟩

end Go.Proofs.YtenaepdmlknlcaaGreatDoor

namespace Go.Proofs.YtenaepdmlknlcaaGreatDoor
open Go.RowKit

structure Feat where
  id : Int
  kd : Int
  ht : Int
  col : Int
  ps : Pts

/-- The address of a list of places (any, where there are none). -/
def PtsAt (n0 : Nat) (w : World) (a : Option Addr) (ps : Pts) : Prop := ps = [] ∨ ∃ b off, a = some ⟨b, off, none⟩ ∧ Places n0 w b off ps

theorem PtsAt.below {n0 : Nat} {A B : World} (h : Below n0 A B) {a : Option Addr} {ps : Pts} (hp : PtsAt n0 A a ps) : PtsAt n0 B a ps :=
  hp.elim .inl fun ⟨b, off, e, p⟩ => .inr ⟨b, off, e, p.below h⟩

theorem Places.mono {n0 n1 : Nat} (h : n0 ≤ n1) {w : World} {b off : Nat} {ps : Pts} (hp : Places n0 w b off ps) : Places n1 w b off ps := ⟨Nat.lt_of_lt_of_le hp.1 h, hp.2⟩
theorem PtsAt.mono {n0 n1 : Nat} (h : n0 ≤ n1) {w : World} {a : Option Addr} {ps : Pts} (hp : PtsAt n0 w a ps) : PtsAt n1 w a ps :=
  hp.elim .inl fun ⟨b, off, e, p⟩ => .inr ⟨b, off, e, p.mono h⟩

def validF (f : Feat) : Bool := inB f.id 1 99 && inB f.ht (-9) 9 && inB f.col 1 9 && mayB f.kd f.ps.length && f.ps.all inW

theorem IsId_any (n : Int) (w : World) : Calls Tryz.prog 81 #[.int .i64 n] w fun e w' => e = .returned (.bool (inB n 1 99)) ∧ w' = w := by
  go_enter Tryz.func81, Tryz.ntmps81
  go_wp2_with (go_at_call 82; refine (within_any _ _ _ _).mono ?_; rintro e w' ⟨rfl, rfl⟩)
  go_ret
  exact ⟨rfl, rfl⟩

set_option maxHeartbeats 2000000 in
theorem IsFeature_any (id kd ht col : Int) (a : Option Addr) (n cap : Nat) (ps : Pts) (w : World) (hp : PtsAt w.heap.size w a ps) (hn : n = ps.length) (hn2 : n ≤ 1000000000000000) :
    Calls Tryz.prog 52 #[.agg #[.int .i64 id, .int .i64 kd, .int .i64 ht, .int .i64 col, .slice a n cap]] w fun e w' => e = .returned (.bool (validF ⟨id, kd, ht, col, ps⟩)) ∧ Below w.heap.size w w' := by
  have hB : ∀ o1 : Obj, Below w.heap.size w (w.alloc o1) := fun o1 => (Below.refl _ _).alloc (Nat.le_refl _) _
  have Hn : Hid (n = ps.length) := hn
  clear hn
  by_cases h1 : inB id 1 99 = true
  · by_cases h2 : inB ht (-9) 9 = true
    · by_cases h3 : inB col 1 9 = true
      · by_cases h4 : mayB kd n = true
        · have Hv : Hid (validF ⟨id, kd, ht, col, ps⟩ = ps.all inW) := by
            show validF ⟨id, kd, ht, col, ps⟩ = ps.all inW
            simp only [validF, h1, h2, h3, ← Hn.out, h4, Bool.true_and]
          have hne : ¬ ps = [] := by
            intro e
            have h0 := Hn.out
            rw [e] at h0
            simp [mayB, h0] at h4
          obtain ⟨b, off, rfl, hq⟩ := hp.resolve_left hne
          have hp1 : ∀ o : Obj, Places (w.alloc o).heap.size (w.alloc o) b off ps := fun o => (hq.below (hB o)).mono (by simp)
          clear hne hp hq
          go_enter Tryz.func52, Tryz.ntmps52
          go_wp2_with (first
            | (go_at_call 82; refine (within_any _ _ _ _).mono ?_; rintro e w' ⟨rfl, rfl⟩)
            | (go_at_call 81; refine (IsId_any _ _).mono ?_; rintro e w' ⟨rfl, rfl⟩)
            | (go_at_call 83; refine (mayHave_any _ _ _).mono ?_; rintro e w' ⟨rfl, rfl⟩)
            | (go_at_call 84; refine (inWorld_any b off n cap ps _ (hp1 _) Hn.out hn2).mono ?_; rintro e w' ⟨rfl, hb'⟩))
          go_ret
          exact ⟨ret_bool Hv.out.symm, (hB _).trans (hb'.mono (by simp))⟩
        · have h4' : mayB kd n = false := by simpa using h4
          clear h4
          have Hv : Hid (validF ⟨id, kd, ht, col, ps⟩ = false) := by
            show validF ⟨id, kd, ht, col, ps⟩ = false
            simp only [validF, ← Hn.out, h4', Bool.and_false, Bool.false_and]
          go_enter Tryz.func52, Tryz.ntmps52
          go_wp2_with (first
            | (go_at_call 82; refine (within_any _ _ _ _).mono ?_; rintro e w' ⟨rfl, rfl⟩)
            | (go_at_call 81; refine (IsId_any _ _).mono ?_; rintro e w' ⟨rfl, rfl⟩)
            | (go_at_call 83; refine (mayHave_any _ _ _).mono ?_; rintro e w' ⟨rfl, rfl⟩))
          go_ret
          exact ⟨ret_bool Hv.out.symm, hB _⟩
      · have h3' : inB col 1 9 = false := by simpa using h3
        clear h3
        have Hv : Hid (validF ⟨id, kd, ht, col, ps⟩ = false) := by
          show validF ⟨id, kd, ht, col, ps⟩ = false
          simp only [validF, h3', Bool.and_false, Bool.false_and]
        go_enter Tryz.func52, Tryz.ntmps52
        go_wp2_with (first
          | (go_at_call 82; refine (within_any _ _ _ _).mono ?_; rintro e w' ⟨rfl, rfl⟩)
            | (go_at_call 81; refine (IsId_any _ _).mono ?_; rintro e w' ⟨rfl, rfl⟩))
        go_ret
        exact ⟨ret_bool Hv.out.symm, hB _⟩
    · have h2' : inB ht (-9) 9 = false := by simpa using h2
      clear h2
      have Hv : Hid (validF ⟨id, kd, ht, col, ps⟩ = false) := by
        show validF ⟨id, kd, ht, col, ps⟩ = false
        simp only [validF, h2', Bool.and_false, Bool.false_and]
      go_enter Tryz.func52, Tryz.ntmps52
      go_wp2_with (first
        | (go_at_call 82; refine (within_any _ _ _ _).mono ?_; rintro e w' ⟨rfl, rfl⟩)
            | (go_at_call 81; refine (IsId_any _ _).mono ?_; rintro e w' ⟨rfl, rfl⟩))
      go_ret
      exact ⟨ret_bool Hv.out.symm, hB _⟩
  · have h1' : inB id 1 99 = false := by simpa using h1
    clear h1
    have Hv : Hid (validF ⟨id, kd, ht, col, ps⟩ = false) := by
      show validF ⟨id, kd, ht, col, ps⟩ = false
      simp only [validF, h1', Bool.false_and]
    go_enter Tryz.func52, Tryz.ntmps52
    go_wp2_with (first
      | (go_at_call 82; refine (within_any _ _ _ _).mono ?_; rintro e w' ⟨rfl, rfl⟩)
            | (go_at_call 81; refine (IsId_any _ _).mono ?_; rintro e w' ⟨rfl, rfl⟩))
    go_ret
    exact ⟨ret_bool Hv.out.symm, hB _⟩

def crossB (ax ay bx by' mx my : Int) : Bool :=
  if decide (my < ay) = decide (my < by') then false
  else if by' < ay then decide ((mx - bx) * (ay - by') < (my - by') * (ax - bx))
  else decide ((mx - ax) * (by' - ay) < (my - ay) * (bx - ax))

set_option maxHeartbeats 2000000 in
theorem crossed_any (ax ay bx by' mx my : Int) (w : World) (h1 : 0 ≤ ax) (h2 : 0 ≤ ay) (h3 : 0 ≤ bx) (h4 : 0 ≤ by') (h5 : 0 ≤ mx) (h6 : 0 ≤ my) (g1 : ax ≤ 1000) (g2 : ay ≤ 1000) (g3 : bx ≤ 1000) (g4 : by' ≤ 1000) (g5 : mx ≤ 1000) (g6 : my ≤ 1000) :
    Calls Tryz.prog 160 #[.agg #[.int .i64 ax, .int .i64 ay], .agg #[.int .i64 bx, .int .i64 by'], .agg #[.int .i64 mx, .int .i64 my]] w fun e w' => e = .returned (.bool (crossB ax ay bx by' mx my)) ∧ Below w.heap.size w w' := by
  have hB : ∀ o1 o2 o3 : Obj, Below w.heap.size w (((w.alloc o1).alloc o2).alloc o3) := fun o1 o2 o3 => (((Below.refl _ _).alloc (Nat.le_refl _) _).alloc (by simp) _).alloc (by simp; omega) _
  by_cases c1 : my < ay
  · by_cases c2 : my < by'
    · have Hv : Hid (crossB ax ay bx by' mx my = false) := by show crossB ax ay bx by' mx my = false; simp [crossB, c1, c2]
      go_enter Tryz.func160, Tryz.ntmps160
      go_wp2
      go_ret
      exact ⟨ret_bool Hv.out.symm, hB _ _ _⟩
    · have c3 : by' < ay := by omega
      have Hv : Hid (crossB ax ay bx by' mx my = decide ((mx - bx) * (ay - by') < (my - by') * (ax - bx))) := by show crossB ax ay bx by' mx my = _; simp [crossB, c1, c2, c3]
      obtain ⟨p1, p1'⟩ := mul_bd (a := mx - bx) (b := ay - by') (A := 1000) (B := 1000) (by omega) (by omega) (by omega) (by omega)
      obtain ⟨p2, p2'⟩ := mul_bd (a := my - by') (b := ax - bx) (A := 1000) (B := 1000) (by omega) (by omega) (by omega) (by omega)
      go_enter Tryz.func160, Tryz.ntmps160
      go_wp2
      go_ret
      exact ⟨ret_bool Hv.out.symm, hB _ _ _⟩
  · by_cases c2 : my < by'
    · have c3 : ¬ by' < ay := by omega
      have Hv : Hid (crossB ax ay bx by' mx my = decide ((mx - ax) * (by' - ay) < (my - ay) * (bx - ax))) := by show crossB ax ay bx by' mx my = _; simp [crossB, c1, c2, c3]
      obtain ⟨p1, p1'⟩ := mul_bd (a := mx - ax) (b := by' - ay) (A := 1000) (B := 1000) (by omega) (by omega) (by omega) (by omega)
      obtain ⟨p2, p2'⟩ := mul_bd (a := my - ay) (b := bx - ax) (A := 1000) (B := 1000) (by omega) (by omega) (by omega) (by omega)
      go_enter Tryz.func160, Tryz.ntmps160
      go_wp2
      go_ret
      exact ⟨ret_bool Hv.out.symm, hB _ _ _⟩
    · have Hv : Hid (crossB ax ay bx by' mx my = false) := by show crossB ax ay bx by' mx my = false; simp [crossB, c1, c2]
      go_enter Tryz.func160, Tryz.ntmps160
      go_wp2
      go_ret
      exact ⟨ret_bool Hv.out.symm, hB _ _ _⟩

end Go.Proofs.YtenaepdmlknlcaaGreatDoor

namespace Go.Proofs.YtenaepdmlknlcaaGreatDoor
open Go.RowKit

def ZP (z p : Int) : Prop := (z = 0 ∧ p = 32) ∨ (z = 1 ∧ p = 16) ∨ (z = 2 ∧ p = 8) ∨ (z = 3 ∧ p = 4)

/-- How many tiles there are along a side. -/
def manyZ (z : Int) : Int := if z = 0 then 1 else if z = 1 then 2 else if z = 2 then 4 else 8

def tileB (z c r : Int) : Bool := decide (0 ≤ z ∧ z ≤ 3 ∧ 0 ≤ c ∧ c < manyZ z ∧ 0 ≤ r ∧ r < manyZ z)

set_option maxHeartbeats 2000000 in
theorem IsTile_at (z m c r : Int) (w : World) (hz : (z = 0 ∧ m = 1) ∨ (z = 1 ∧ m = 2) ∨ (z = 2 ∧ m = 4) ∨ (z = 3 ∧ m = 8)) :
    Calls Tryz.prog 29 #[.agg #[.int .i64 z, .int .i64 c, .int .i64 r]] w fun e w' => e = .returned (.bool (decide (0 ≤ c ∧ c < m ∧ 0 ≤ r ∧ r < m))) ∧ Below w.heap.size w w' := by
  have hB : ∀ o1 : Obj, Below w.heap.size w (w.alloc o1) := fun o1 => (Below.refl _ _).alloc (Nat.le_refl _) _
  by_cases c1 : 0 ≤ c
  · by_cases c2 : c < m
    · by_cases c3 : 0 ≤ r
      · by_cases c4 : r < m
        · rcases hz with ⟨rfl, rfl⟩ | ⟨rfl, rfl⟩ | ⟨rfl, rfl⟩ | ⟨rfl, rfl⟩ <;>
          · go_enter Tryz.func29, Tryz.ntmps29
            go_wp2
            go_ret
            exact ⟨ret_bool (by simp; omega), hB _⟩
        · rcases hz with ⟨rfl, rfl⟩ | ⟨rfl, rfl⟩ | ⟨rfl, rfl⟩ | ⟨rfl, rfl⟩ <;>
          · go_enter Tryz.func29, Tryz.ntmps29
            go_wp2
            go_ret
            exact ⟨ret_bool (by simp; omega), hB _⟩
      · rcases hz with ⟨rfl, rfl⟩ | ⟨rfl, rfl⟩ | ⟨rfl, rfl⟩ | ⟨rfl, rfl⟩ <;>
        · go_enter Tryz.func29, Tryz.ntmps29
          go_wp2
          go_ret
          exact ⟨ret_bool (by simp; omega), hB _⟩
    · rcases hz with ⟨rfl, rfl⟩ | ⟨rfl, rfl⟩ | ⟨rfl, rfl⟩ | ⟨rfl, rfl⟩ <;>
      · go_enter Tryz.func29, Tryz.ntmps29
        go_wp2
        go_ret
        exact ⟨ret_bool (by simp; omega), hB _⟩
  · rcases hz with ⟨rfl, rfl⟩ | ⟨rfl, rfl⟩ | ⟨rfl, rfl⟩ | ⟨rfl, rfl⟩ <;>
    · go_enter Tryz.func29, Tryz.ntmps29
      go_wp2
      go_ret
      exact ⟨ret_bool (by simp; omega), hB _⟩

set_option maxHeartbeats 400000 in
theorem IsTile_no (z c r : Int) (w : World) (hz : z < 0 ∨ 3 < z) :
    Calls Tryz.prog 29 #[.agg #[.int .i64 z, .int .i64 c, .int .i64 r]] w fun e w' => e = .returned (.bool false) ∧ Below w.heap.size w w' := by
  have hB : ∀ o1 : Obj, Below w.heap.size w (w.alloc o1) := fun o1 => (Below.refl _ _).alloc (Nat.le_refl _) _
  by_cases c1 : z < 0
  · go_enter Tryz.func29, Tryz.ntmps29
    go_wp2
    go_ret
    exact ⟨rfl, hB _⟩
  · have c2 : 3 < z := by omega
    clear hz
    go_enter Tryz.func29, Tryz.ntmps29
    go_wp2
    go_ret
    exact ⟨rfl, hB _⟩

theorem IsTile_any (z c r : Int) (w : World) :
    Calls Tryz.prog 29 #[.agg #[.int .i64 z, .int .i64 c, .int .i64 r]] w fun e w' => e = .returned (.bool (tileB z c r)) ∧ Below w.heap.size w w' := by
  by_cases h : 0 ≤ z ∧ z ≤ 3
  · have hz : (z = 0 ∧ manyZ z = 1) ∨ (z = 1 ∧ manyZ z = 2) ∨ (z = 2 ∧ manyZ z = 4) ∨ (z = 3 ∧ manyZ z = 8) := by
      have : z = 0 ∨ z = 1 ∨ z = 2 ∨ z = 3 := by omega
      rcases this with rfl | rfl | rfl | rfl <;> simp [manyZ]
    refine (IsTile_at z (manyZ z) c r w hz).mono ?_
    rintro e w' ⟨rfl, hb⟩
    exact ⟨ret_bool (by simp [tileB, h]), hb⟩
  · refine (IsTile_no z c r w (by omega)).mono ?_
    rintro e w' ⟨rfl, hb⟩
    refine ⟨ret_bool ?_, hb⟩
    symm
    simp only [tileB, decide_eq_false_iff_not]
    omega

end Go.Proofs.YtenaepdmlknlcaaGreatDoor

namespace Go.Proofs.YtenaepdmlknlcaaGreatDoor
open Go.RowKit

/-- Four cells of a block, which may be written. -/
structure Q4 (w : World) (b : Nat) (v0 v1 v2 v3 : Value) : Prop where
  c0 : w.cell? ⟨b, 0, none⟩ = some v0
  c1 : w.cell? ⟨b, 1, none⟩ = some v1
  c2 : w.cell? ⟨b, 2, none⟩ = some v2
  c3 : w.cell? ⟨b, 3, none⟩ = some v3
  f0 : w.frozen? ⟨b, 0, none⟩ = false
  f1 : w.frozen? ⟨b, 1, none⟩ = false
  f2 : w.frozen? ⟨b, 2, none⟩ = false
  f3 : w.frozen? ⟨b, 3, none⟩ = false

theorem bcell {W w1 : World} {n : Nat} (hb : Below n W w1) : (∀ b o, b < n → w1.cell? ⟨b, o, none⟩ = W.cell? ⟨b, o, none⟩) ∧ (∀ b o, b < n → w1.frozen? ⟨b, o, none⟩ = W.frozen? ⟨b, o, none⟩) :=
  ⟨fun b o h => hb.cell (p := ⟨b, o, none⟩) h, fun b o h => hb.frozen (p := ⟨b, o, none⟩) h⟩

theorem Q4.below {n : Nat} {A B : World} (h : Below n A B) {b : Nat} (hb : b < n) {v0 v1 v2 v3 : Value} (q : Q4 A b v0 v1 v2 v3) : Q4 B b v0 v1 v2 v3 := by
  obtain ⟨hc, hf⟩ := bcell h
  exact ⟨(hc _ _ hb).trans q.c0, (hc _ _ hb).trans q.c1, (hc _ _ hb).trans q.c2, (hc _ _ hb).trans q.c3, (hf _ _ hb).trans q.f0, (hf _ _ hb).trans q.f1, (hf _ _ hb).trans q.f2, (hf _ _ hb).trans q.f3⟩

theorem Q4.new (w : World) (v0 v1 v2 v3 : Value) (t : TypeId) : Q4 (w.alloc (.cells #[v0, v1, v2, v3] t)) w.heap.size v0 v1 v2 v3 := by
  constructor <;> simp [go_sem]

theorem Q4.set {w : World} {b : Nat} {v0 v1 v2 v3 : Value} (q : Q4 w b v0 v1 v2 v3) (x0 x1 x2 x3 : Value) :
    Q4 ((((w.setCell ⟨b, 0, none⟩ x0).setCell ⟨b, 1, none⟩ x1).setCell ⟨b, 2, none⟩ x2).setCell ⟨b, 3, none⟩ x3) b x0 x1 x2 x3 := by
  obtain ⟨c0, c1, c2, c3, f0, f1, f2, f3⟩ := q
  constructor <;> simp [go_sem, c0, c1, c2, c3, f0, f1, f2, f3]

theorem Q4.drew {w : World} {b : Nat} {v0 v1 v2 v3 : Value} (q : Q4 w b v0 v1 v2 v3) : Q4 w.drew b v0 v1 v2 v3 := ⟨q.c0, q.c1, q.c2, q.c3, q.f0, q.f1, q.f2, q.f3⟩

structure Bx where
  l : Int
  t : Int
  r : Int
  b : Int
def Bx.join (a b : Bx) : Bx := ⟨mnZ a.l b.l, mnZ a.t b.t, mxZ a.r b.r, mxZ a.b b.b⟩
def bxAt (p : Int × Int) : Bx := ⟨p.1, p.2, p.1, p.2⟩
def boxZ : Pts → Bx
  | [] => ⟨0, 0, 0, 0⟩
  | p :: ps => ps.foldl (fun b q => b.join (bxAt q)) (bxAt p)
theorem boxZ_snoc (ps : Pts) (q : Int × Int) (h : ps ≠ []) : boxZ (ps ++ [q]) = (boxZ ps).join (bxAt q) := by
  cases ps with
  | nil => exact absurd rfl h
  | cons p r => simp [boxZ, List.foldl_append]

theorem below_set4 (n : Nat) (w : World) (b : Nat) (h : n ≤ b) (u0 u1 u2 u3 : Value) : Below n w ((((w.setCell ⟨b, 0, none⟩ u0).setCell ⟨b, 1, none⟩ u1).setCell ⟨b, 2, none⟩ u2).setCell ⟨b, 3, none⟩ u3) :=
  ((((Below.refl n w).setCell (p := ⟨b, 0, none⟩) h u0).setCell (p := ⟨b, 1, none⟩) h u1).setCell (p := ⟨b, 2, none⟩) h u2).setCell (p := ⟨b, 3, none⟩) h u3

theorem take_succ_pts {ps : Pts} {k : Nat} {p : Int × Int} (h : ps[k]? = some p) : ps.take (k + 1) = ps.take k ++ [p] := by
  rw [List.take_add_one, h]; rfl

set_option maxHeartbeats 2000000 in
theorem BoxOf_any (b off n cap : Nat) (ps : Pts) (w : World) (hp : Places w.heap.size w b off ps) (hn : n = ps.length) (hn1 : 1 ≤ n) (hn2 : n ≤ 1000000000000) (hcap : n ≤ cap) :
    Calls Tryz.prog 53 #[.slice (some ⟨b, off, none⟩) n cap] w fun e w' => e = .returned (.agg #[.int .i64 (boxZ ps).l, .int .i64 (boxZ ps).t, .int .i64 (boxZ ps).r, .int .i64 (boxZ ps).b]) ∧ Below w.heap.size w w' := by
  have Hn : Hid (n = ps.length) := hn
  clear hn
  obtain ⟨x0, y0, hxy0, hx0, hy0⟩ := hp.at (k := 0) (by rw [← Hn.out]; exact hn1)
  simp only [Nat.zero_mul, Nat.add_zero] at hx0 hy0
  have H0 : Hid (ps[0]? = some (x0, y0)) := hxy0
  clear hxy0
  have hbl := hp.1
  have Hp : Hid (Places w.heap.size w b off ps) := hp
  clear hp
  go_enter Tryz.func53, Tryz.ntmps53
  go_wp2_with (go_at_call 85; refine (boxAt_any _ _ _).mono ?_; rintro e w1 ⟨rfl, hb1⟩)
  all_goals
    have hsz1 := hb1.size
    simp at hsz1
    have hb1' : Below w.heap.size w w1 := ((Below.refl _ _).alloc (Nat.le_refl _) _).trans (hb1.mono (by simp))
    have hq1 : Q4 w1 w.heap.size (.int .i64 0) (.int .i64 0) (.int .i64 0) (.int .i64 0) := (Q4.new _ _ _ _ _ _).below hb1 (by simp)
    go_loopw [13] (fun i wr => ∃ k : Nat, k ≤ n - 1 ∧ i = .int .i64 k ∧ Q4 wr w1.heap.size (.int .i64 (boxZ (ps.take (k + 1))).l) (.int .i64 (boxZ (ps.take (k + 1))).t) (.int .i64 (boxZ (ps.take (k + 1))).r) (.int .i64 (boxZ (ps.take (k + 1))).b) ∧ Q4 wr w.heap.size (.int .i64 0) (.int .i64 0) (.int .i64 0) (.int .i64 0) ∧ Below w.heap.size w wr ∧ w1.heap.size < wr.heap.size) (fun i _ => n - 1 - (intOf i).toNat)
    case atStart =>
      refine ⟨0, Nat.zero_le _, rfl, ?_, hq1.below ((Below.refl _ _).alloc (Nat.le_refl _) _) (by omega), hb1'.alloc (by omega) _, by simp⟩
      rw [take_succ_pts H0.out]
      exact Q4.new _ _ _ _ _ _
    case round =>
      obtain ⟨k, hk, rfl, hq, hq0, hb, hz⟩ := hrel
      by_cases hlt : k < n - 1
      · first
        | (exfalso; omega)
        | (
          generalize hl : (boxZ (ps.take (k + 1))).l = l at hq
          generalize ht : (boxZ (ps.take (k + 1))).t = t at hq
          generalize hr : (boxZ (ps.take (k + 1))).r = r at hq
          generalize hbb : (boxZ (ps.take (k + 1))).b = bb at hq
          obtain ⟨x, y, hxy, hx, hy⟩ := (Hp.out.below hb).at (k := k + 1) (by rw [← Hn.out]; omega)
          rw [show off + (k + 1) * 2 = off + 2 + k * 2 from by omega] at hx hy
          have HJ : Hid (boxZ (ps.take (k + 1 + 1)) = (⟨mnZ l x, mnZ t y, mxZ r x, mxZ bb y⟩ : Bx)) := by
            show boxZ (ps.take (k + 1 + 1)) = _
            rw [take_succ_pts hxy, boxZ_snoc _ _ (by have := Hn.out; intro e; have h2 := congrArg List.length e; rw [List.length_take] at h2; simp only [List.length_nil] at h2; omega), ← hl, ← ht, ← hr, ← hbb]; rfl
          clear hxy hl ht hr hbb hx0 hy0
          have hQ : ∀ o : Obj, Q4 ((wr.alloc o).drew) w1.heap.size (.int .i64 l) (.int .i64 t) (.int .i64 r) (.int .i64 bb) := fun o => (hq.below ((Below.refl _ _).alloc (Nat.le_refl _) o) hz).drew
          obtain ⟨c0, c1, c2, c3, f0, f1, f2, f3⟩ := hq
          go_wp2
          go_region_with (first
            | (go_at_call 85; refine (boxAt_any _ _ _).mono ?_; rintro e w2 ⟨rfl, hb2⟩; have hs2 : wr.heap.size < w2.heap.size := (by have := hb2.size; (try simp at this); omega); have q2 := (hQ _).below hb2 (by simp; omega); obtain ⟨d0, d1, d2, d3, g0, g1, g2, g3⟩ := q2)
            | (go_at_call 86; refine (Join_any _ _ _ _ _ _ _ _ _).mono ?_; rintro e w3 ⟨rfl, hb3⟩; have hs3 : wr.heap.size < w3.heap.size := (by have := hb3.size; (try simp at this); omega); have q3 := (Q4.mk d0 d1 d2 d3 g0 g1 g2 g3).below hb3 (by omega); obtain ⟨k0, k1, k2, k3, m0, m1, m2, m3⟩ := q3))
          all_goals
            have HQ3 : Hid (Q4 w3 w1.heap.size (.int .i64 l) (.int .i64 t) (.int .i64 r) (.int .i64 bb)) := ⟨k0, k1, k2, k3, m0, m1, m2, m3⟩
            clear k0 k1 k2 k3 m0 m1 m2 m3 d0 d1 d2 d3 g0 g1 g2 g3 c0 c1 c2 c3 f0 f1 f2 f3 hQ
            go_wp2
            go_roundw
            case rel =>
              have hB3 : Below w.heap.size w w3 := ((hb.alloc (by omega) _).drew.trans (hb2.mono (by simp; omega))).trans (hb3.mono (by omega))
              have hz3 : Q4 w3 w.heap.size (.int .i64 0) (.int .i64 0) (.int .i64 0) (.int .i64 0) := ((hq0.below ((Below.refl _ _).alloc (Nat.le_refl _) _) (by omega)).drew.below hb2 (by simp; omega)).below hb3 (by omega)
              refine ⟨k + 1, by omega, by go_num, ?_, hz3.below (below_set4 w1.heap.size _ _ (Nat.le_refl _) _ _ _ _) (by omega), hB3.trans (below_set4 w.heap.size _ _ (by omega) _ _ _ _), ?_⟩
              · rw [HJ.out]
                exact HQ3.out.set _ _ _ _
              · exact Nat.lt_of_lt_of_le (by omega) (below_set4 w1.heap.size w3 w1.heap.size (Nat.le_refl _) _ _ _ _).size
            case measure => simp [intOf]; omega)
      · have HK : Hid (boxZ (ps.take (k + 1)) = boxZ ps) := by
          show boxZ (ps.take (k + 1)) = boxZ ps
          rw [show k + 1 = ps.length from by have := Hn.out; omega, List.take_length]
        rw [HK.out] at hq
        obtain ⟨c0, c1, c2, c3, f0, f1, f2, f3⟩ := hq
        have hq0' := hq0
        obtain ⟨z0, z1, z2, z3, e0, e1, e2, e3⟩ := hq0'
        go_wp2
        obtain ⟨y0', y1', y2', y3', _, _, _, _⟩ := hq0.set (.int .i64 (boxZ ps).l) (.int .i64 (boxZ ps).t) (.int .i64 (boxZ ps).r) (.int .i64 (boxZ ps).b)
        exact bodyPost_ret (v := .agg #[.int .i64 (boxZ ps).l, .int .i64 (boxZ ps).t, .int .i64 (boxZ ps).r, .int .i64 (boxZ ps).b]) (by simp [results, Tryz.results53, go_sem, y0', y1', y2', y3']) rfl ⟨rfl, hb.trans (below_set4 w.heap.size _ _ (Nat.le_refl _) _ _ _ _)⟩

end Go.Proofs.YtenaepdmlknlcaaGreatDoor
