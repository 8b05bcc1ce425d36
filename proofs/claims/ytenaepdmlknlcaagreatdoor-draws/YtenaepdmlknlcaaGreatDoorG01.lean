import Derived.Test.YtenaepdmlknlcaaGreatDoorProg
import Derived.WalkKit
import Derived.WalkSpells
import Derived.WalkLawsBesides
import Derived.Deep.QuietTactic
import Derived.BigQuiet
namespace Go.Proofs.YtenaepdmlknlcaaGreatDoor
open Go.RowKit

theorem ret_int {k : IntKind} {a b : Int} (h : a = b) : Ending.returned (.int k a) = .returned (.int k b) := by rw [h]
theorem ret_bool {a b : Bool} (h : a = b) : Ending.returned (.bool a) = .returned (.bool b) := by rw [h]

def inB (n l m : Int) : Bool := decide (l ≤ n ∧ n ≤ m)

set_option maxHeartbeats 400000 in
theorem within_any (n l m : Int) (w : World) :
    Calls Tryz.prog 82 #[.int .i64 n, .int .i64 l, .int .i64 m] w fun e w' => e = .returned (.bool (inB n l m)) ∧ w' = w := by
  by_cases h1 : l ≤ n
  · by_cases h2 : n ≤ m
    · go_enter Tryz.func82, Tryz.ntmps82
      go_wp2
      go_ret
      exact ⟨ret_bool (by simp [inB]; omega), rfl⟩
    · go_enter Tryz.func82, Tryz.ntmps82
      go_wp2
      go_ret
      exact ⟨ret_bool (by simp [inB]; omega), rfl⟩
  · go_enter Tryz.func82, Tryz.ntmps82
    go_wp2
    go_ret
    exact ⟨ret_bool (by simp [inB]; omega), rfl⟩

abbrev bx (l t r b : Int) : Value := .agg #[.int .i64 l, .int .i64 t, .int .i64 r, .int .i64 b]
set_option maxHeartbeats 400000 in
theorem boxAt_any (x y : Int) (w : World) :
    Calls Tryz.prog 85 #[.agg #[.int .i64 x, .int .i64 y]] w fun e w' => e = .returned (.agg #[.int .i64 x, .int .i64 y, .int .i64 x, .int .i64 y]) ∧ Below w.heap.size w w' := by
  go_enter Tryz.func85, Tryz.ntmps85
  go_wp2
  exact bodyPost_ret (v := .agg #[.int .i64 x, .int .i64 y, .int .i64 x, .int .i64 y]) (by simp [results, Tryz.results85, go_sem]) rfl ⟨rfl, ((Below.refl _ _).alloc (Nat.le_refl _) _).alloc (by simp) _⟩

def mnZ (a b : Int) : Int := min a b
def mxZ (a b : Int) : Int := max a b

set_option maxHeartbeats 400000 in
theorem Join_any (l t r b l' t' r' b' : Int) (w : World) :
    Calls Tryz.prog 86 #[.agg #[.int .i64 l, .int .i64 t, .int .i64 r, .int .i64 b], .agg #[.int .i64 l', .int .i64 t', .int .i64 r', .int .i64 b']] w fun e w' => e = .returned (.agg #[.int .i64 (mnZ l l'), .int .i64 (mnZ t t'), .int .i64 (mxZ r r'), .int .i64 (mxZ b b')]) ∧ Below w.heap.size w w' := by
  go_enter Tryz.func86, Tryz.ntmps86
  go_wp2
  all_goals exact bodyPost_ret (v := .agg #[.int .i64 (mnZ l l'), .int .i64 (mnZ t t'), .int .i64 (mxZ r r'), .int .i64 (mxZ b b')]) (by simp [results, Tryz.results86, go_sem, mnZ, mxZ]; omega) rfl ⟨rfl, (((Below.refl _ _).alloc (Nat.le_refl _) _).alloc (by simp) _).alloc (by simp; omega) _⟩

def meetsB (l t r b l' t' r' b' : Int) : Bool := decide (l ≤ r' ∧ l' ≤ r ∧ t ≤ b' ∧ t' ≤ b)

set_option maxHeartbeats 1000000 in
theorem Meets_any (l t r b l' t' r' b' : Int) (w : World) :
    Calls Tryz.prog 158 #[.agg #[.int .i64 l, .int .i64 t, .int .i64 r, .int .i64 b], .agg #[.int .i64 l', .int .i64 t', .int .i64 r', .int .i64 b']] w fun e w' => e = .returned (.bool (meetsB l t r b l' t' r' b')) ∧ Below w.heap.size w w' := by
  have hB : ∀ o1 o2 : Obj, Below w.heap.size w ((w.alloc o1).alloc o2) := fun o1 o2 => ((Below.refl _ _).alloc (Nat.le_refl _) _).alloc (by simp) _
  by_cases h1 : l ≤ r'
  · by_cases h2 : l' ≤ r
    · by_cases h3 : t ≤ b'
      · by_cases h4 : t' ≤ b
        · go_enter Tryz.func158, Tryz.ntmps158
          go_wp2
          go_ret
          exact ⟨ret_bool (by simp [meetsB]; omega), hB _ _⟩
        · go_enter Tryz.func158, Tryz.ntmps158
          go_wp2
          go_ret
          exact ⟨ret_bool (by simp [meetsB]; omega), hB _ _⟩
      · go_enter Tryz.func158, Tryz.ntmps158
        go_wp2
        go_ret
        exact ⟨ret_bool (by simp [meetsB]; omega), hB _ _⟩
    · go_enter Tryz.func158, Tryz.ntmps158
      go_wp2
      go_ret
      exact ⟨ret_bool (by simp [meetsB]; omega), hB _ _⟩
  · go_enter Tryz.func158, Tryz.ntmps158
    go_wp2
    go_ret
    exact ⟨ret_bool (by simp [meetsB]; omega), hB _ _⟩

end Go.Proofs.YtenaepdmlknlcaaGreatDoor

namespace Go.Proofs.YtenaepdmlknlcaaGreatDoor
open Go.RowKit

def mayB (k n : Int) : Bool := decide ((k = 1 ∧ n = 1) ∨ (k = 2 ∧ 2 ≤ n ∧ n ≤ 6) ∨ (k = 3 ∧ 3 ≤ n ∧ n ≤ 6))

set_option maxHeartbeats 400000 in
theorem mayHave_any (k n : Int) (w : World) :
    Calls Tryz.prog 83 #[.int .i64 k, .int .i64 n] w fun e w' => e = .returned (.bool (mayB k n)) ∧ w' = w := by
  by_cases h1 : k = 1
  · subst h1
    go_enter Tryz.func83, Tryz.ntmps83
    go_wp2_with (first | (go_at_call 82; refine (within_any _ _ _ _).mono ?_; rintro e w' ⟨rfl, rfl⟩))
    go_ret
    exact ⟨ret_bool (by rw [Bool.eq_iff_iff]; simp [mayB]), rfl⟩
  · by_cases h2 : k = 2
    · subst h2
      go_enter Tryz.func83, Tryz.ntmps83
      go_wp2_with (first | (go_at_call 82; refine (within_any _ _ _ _).mono ?_; rintro e w' ⟨rfl, rfl⟩))
      go_ret
      exact ⟨ret_bool (by rw [Bool.eq_iff_iff]; simp [mayB, inB]), rfl⟩
    · by_cases h3 : k = 3
      · subst h3
        go_enter Tryz.func83, Tryz.ntmps83
        go_wp2_with (first | (go_at_call 82; refine (within_any _ _ _ _).mono ?_; rintro e w' ⟨rfl, rfl⟩))
        go_ret
        exact ⟨ret_bool (by rw [Bool.eq_iff_iff]; simp [mayB, inB]), rfl⟩
      · have g1 : (k == 1) = false := by simp [h1]
        have g2 : (k == 2) = false := by simp [h2]
        have g3 : (k == 3) = false := by simp [h3]
        go_enter Tryz.func83, Tryz.ntmps83
        go_wp2_with (first | (go_at_call 82; refine (within_any _ _ _ _).mono ?_; rintro e w' ⟨rfl, rfl⟩))
        go_ret
        exact ⟨ret_bool (by rw [Bool.eq_iff_iff]; simp [mayB, h1, h2, h3]), rfl⟩

set_option maxHeartbeats 400000 in
theorem middle_any (l t r b : Int) (w : World) (h1 : 0 ≤ l) (h2 : 0 ≤ t) (h3 : 0 ≤ r) (h4 : 0 ≤ b) (g1 : l ≤ 1000) (g2 : t ≤ 1000) (g3 : r ≤ 1000) (g4 : b ≤ 1000) :
    Calls Tryz.prog 130 #[.agg #[.int .i64 l, .int .i64 t, .int .i64 r, .int .i64 b]] w fun e w' => e = .returned (.agg #[.int .i64 ((l + r) / 2), .int .i64 ((t + b) / 2)]) ∧ Below w.heap.size w w' := by
  go_enter Tryz.func130, Tryz.ntmps130
  go_wp2
  exact bodyPost_ret (v := .agg #[.int .i64 ((l + r) / 2), .int .i64 ((t + b) / 2)]) (by simp [results, Tryz.results130, go_sem]) rfl ⟨rfl, ((Below.refl _ _).alloc (Nat.le_refl _) _).alloc (by simp) _⟩

def turnZ (ax ay bx by' cx cy : Int) : Int := (bx - ax) * (cy - ay) - (by' - ay) * (cx - ax)

theorem mul_bd {a b A B : Int} (ha : -A ≤ a) (ha' : a ≤ A) (hb : -B ≤ b) (hb' : b ≤ B) : -(A * B) ≤ a * b ∧ a * b ≤ A * B := by
  have hA : 0 ≤ A := by omega
  have hB : 0 ≤ B := by omega
  have h : (a * b).natAbs ≤ (A * B).natAbs := by
    rw [Int.natAbs_mul, Int.natAbs_mul]
    exact Nat.mul_le_mul (by omega) (by omega)
  have h2 : 0 ≤ A * B := Int.mul_nonneg hA hB
  omega

set_option maxHeartbeats 400000 in
theorem turnOf_any (ax ay bx by' cx cy : Int) (w : World) (h1 : 0 ≤ ax) (h2 : 0 ≤ ay) (h3 : 0 ≤ bx) (h4 : 0 ≤ by') (h5 : 0 ≤ cx) (h6 : 0 ≤ cy) (g1 : ax ≤ 1000) (g2 : ay ≤ 1000) (g3 : bx ≤ 1000) (g4 : by' ≤ 1000) (g5 : cx ≤ 1000) (g6 : cy ≤ 1000) :
    Calls Tryz.prog 183 #[.agg #[.int .i64 ax, .int .i64 ay], .agg #[.int .i64 bx, .int .i64 by'], .agg #[.int .i64 cx, .int .i64 cy]] w fun e w' => e = .returned (.int .i64 (turnZ ax ay bx by' cx cy)) ∧ Below w.heap.size w w' := by
  have p1 := mul_bd (a := bx - ax) (b := cy - ay) (A := 1000) (B := 1000) (by omega) (by omega) (by omega) (by omega)
  have p2 := mul_bd (a := by' - ay) (b := cx - ax) (A := 1000) (B := 1000) (by omega) (by omega) (by omega) (by omega)
  obtain ⟨p1, p1'⟩ := p1
  obtain ⟨p2, p2'⟩ := p2
  go_enter Tryz.func183, Tryz.ntmps183
  go_wp2
  go_ret
  exact ⟨rfl, (((Below.refl _ _).alloc (Nat.le_refl _) _).alloc (by simp) _).alloc (by simp; omega) _⟩

set_option maxHeartbeats 400000 in
theorem corners_any (l t r b : Int) (w : World) :
    Calls Tryz.prog 182 #[.agg #[.int .i64 l, .int .i64 t, .int .i64 r, .int .i64 b]] w fun e w' => e = .returned (.agg #[.int .i64 l, .int .i64 t, .int .i64 r, .int .i64 t, .int .i64 r, .int .i64 b, .int .i64 l, .int .i64 b]) ∧ Below w.heap.size w w' := by
  go_enter Tryz.func182, Tryz.ntmps182
  go_wp2
  exact bodyPost_ret (v := .agg #[.int .i64 l, .int .i64 t, .int .i64 r, .int .i64 t, .int .i64 r, .int .i64 b, .int .i64 l, .int .i64 b]) (by simp [results, Tryz.results182, go_sem]) rfl ⟨rfl, ((Below.refl _ _).alloc (Nat.le_refl _) _).alloc (by simp) _⟩

def pointB (x y l t r b : Int) : Bool := decide (l ≤ x ∧ x < r ∧ t ≤ y ∧ y < b)

set_option maxHeartbeats 1000000 in
theorem pointCovers_any (x y l t r b : Int) (w : World) :
    Calls Tryz.prog 127 #[.agg #[.int .i64 x, .int .i64 y], .agg #[.int .i64 l, .int .i64 t, .int .i64 r, .int .i64 b]] w fun e w' => e = .returned (.bool (pointB x y l t r b)) ∧ Below w.heap.size w w' := by
  have hB : ∀ o1 o2 : Obj, Below w.heap.size w ((w.alloc o1).alloc o2) := fun o1 o2 => ((Below.refl _ _).alloc (Nat.le_refl _) _).alloc (by simp) _
  by_cases h1 : l ≤ x
  · by_cases h2 : x < r
    · by_cases h3 : t ≤ y
      · by_cases h4 : y < b
        · go_enter Tryz.func127, Tryz.ntmps127
          go_wp2
          go_ret
          exact ⟨ret_bool (by simp [pointB]; omega), hB _ _⟩
        · go_enter Tryz.func127, Tryz.ntmps127
          go_wp2
          go_ret
          exact ⟨ret_bool (by simp [pointB]; omega), hB _ _⟩
      · go_enter Tryz.func127, Tryz.ntmps127
        go_wp2
        go_ret
        exact ⟨ret_bool (by simp [pointB]; omega), hB _ _⟩
    · go_enter Tryz.func127, Tryz.ntmps127
      go_wp2
      go_ret
      exact ⟨ret_bool (by simp [pointB]; omega), hB _ _⟩
  · go_enter Tryz.func127, Tryz.ntmps127
    go_wp2
    go_ret
    exact ⟨ret_bool (by simp [pointB]; omega), hB _ _⟩

end Go.Proofs.YtenaepdmlknlcaaGreatDoor

namespace Go.Proofs.YtenaepdmlknlcaaGreatDoor
open Go.RowKit

abbrev Pts := List (Int × Int)

/-- The places lie in the block b, below n0, from off on. -/
def Places (n0 : Nat) (w : World) (b off : Nat) (ps : Pts) : Prop :=
  b < n0 ∧ ∀ k x y, ps[k]? = some (x, y) → w.cell? ⟨b, off + k * 2, none⟩ = some (.int .i64 x) ∧ w.cell? ⟨b, off + k * 2 + 1, none⟩ = some (.int .i64 y)

theorem Places.below {n0 : Nat} {A B : World} (h : Below n0 A B) {b off : Nat} {ps : Pts} (hp : Places n0 A b off ps) : Places n0 B b off ps :=
  ⟨hp.1, fun k x y e => ⟨(h.cell (p := ⟨b, off + k * 2, none⟩) hp.1).trans (hp.2 k x y e).1, (h.cell (p := ⟨b, off + k * 2 + 1, none⟩) hp.1).trans (hp.2 k x y e).2⟩⟩

theorem Places.at {n0 : Nat} {w : World} {b off : Nat} {ps : Pts} (hp : Places n0 w b off ps) {k : Nat} (hk : k < ps.length) :
    ∃ x y, ps[k]? = some (x, y) ∧ w.cell? ⟨b, off + k * 2, none⟩ = some (.int .i64 x) ∧ w.cell? ⟨b, off + k * 2 + 1, none⟩ = some (.int .i64 y) :=
  ⟨ps[k].1, ps[k].2, List.getElem?_eq_getElem hk, hp.2 k _ _ (List.getElem?_eq_getElem hk)⟩

def inW (p : Int × Int) : Bool := inB p.1 0 255 && inB p.2 0 255

theorem all_take_succ {ps : Pts} {f : Int × Int → Bool} {k : Nat} {p : Int × Int} (h : ps[k]? = some p) (ha : (ps.take k).all f = true) (hf : f p = true) : (ps.take (k + 1)).all f = true := by
  rw [List.take_add_one, h]
  simp only [Option.toList, List.all_append, ha, List.all_cons, hf, List.all_nil]; rfl

theorem all_false {ps : Pts} {f : Int × Int → Bool} {k : Nat} {p : Int × Int} (h : ps[k]? = some p) (hf : f p = false) : ps.all f = false := by
  rw [List.all_eq_false]
  exact ⟨p, List.mem_of_getElem? h, by simp [hf]⟩

set_option maxHeartbeats 1000000 in
theorem inWorld_any (b off n cap : Nat) (ps : Pts) (w : World) (hp : Places w.heap.size w b off ps) (hn : n = ps.length) (hn2 : n ≤ 1000000000000000) :
    Calls Tryz.prog 84 #[.slice (some ⟨b, off, none⟩) n cap] w fun e w' => e = .returned (.bool (ps.all inW)) ∧ Below w.heap.size w w' := by
  have Hn : Hid (n = ps.length) := hn
  clear hn
  go_enter Tryz.func84, Tryz.ntmps84
  go_wp2
  go_loopw [7] (fun i wr => ∃ k : Nat, k ≤ n ∧ i = .int .i64 k ∧ (ps.take k).all inW = true ∧ Below w.heap.size w wr) (fun i _ => n - (intOf i).toNat)
  case atStart => exact ⟨0, Nat.zero_le _, rfl, by simp, Below.refl _ _⟩
  case round =>
    obtain ⟨k, hk, rfl, hall, hb⟩ := hrel
    by_cases hlt : k < n
    · obtain ⟨x, y, hxy, hx, hy⟩ := (hp.below hb).at (k := k) (by rw [← Hn.out]; exact hlt)
      have Hxy : Hid (ps[k]? = some (x, y)) := hxy
      have Hall : Hid ((ps.take k).all inW = true) := hall
      clear hxy hall hp
      have hsz := hb.size
      by_cases gx : inB x 0 255 = true
      · by_cases gy : inB y 0 255 = true
        · have Hf : Hid (inW (x, y) = true) := by show inW (x, y) = true; simp [inW, gx, gy]
          go_wp2_with (go_at_call 82; refine (within_any _ _ _ _).mono ?_; rintro e w' ⟨rfl, rfl⟩)
          go_roundw
          case rel => exact ⟨k + 1, by omega, by go_num, all_take_succ Hxy.out Hall.out Hf.out, hb.alloc hsz _⟩
          case measure => simp [intOf]; omega
        · have gy' : inB y 0 255 = false := by simpa using gy
          clear gy
          have Hf : Hid (inW (x, y) = false) := by show inW (x, y) = false; simp [inW, gy']
          go_wp2_with (go_at_call 82; refine (within_any _ _ _ _).mono ?_; rintro e w' ⟨rfl, rfl⟩)
          go_ret
          exact ⟨ret_bool (all_false Hxy.out Hf.out).symm, hb.alloc hsz _⟩
      · have gx' : inB x 0 255 = false := by simpa using gx
        clear gx
        have Hf : Hid (inW (x, y) = false) := by show inW (x, y) = false; simp [inW, gx']
        go_wp2_with (go_at_call 82; refine (within_any _ _ _ _).mono ?_; rintro e w' ⟨rfl, rfl⟩)
        go_ret
        exact ⟨ret_bool (all_false Hxy.out Hf.out).symm, hb.alloc hsz _⟩
    · have Hall : Hid (ps.all inW = true) := by
        show ps.all inW = true
        have e : k = ps.length := by have := Hn.out; omega
        rw [e, List.take_length] at hall; exact hall
      clear hall
      go_wp2
      go_ret
      exact ⟨ret_bool Hall.out.symm, hb⟩

end Go.Proofs.YtenaepdmlknlcaaGreatDoor

namespace Go.Proofs.YtenaepdmlknlcaaGreatDoor
open Go.RowKit

structure Feat where
  id : Int
  kd : Int
  ht : Int
  col : Int
  ps : Pts

/-- The address of a list of places (any, where there are none). -/
def PtsAt (n0 : Nat) (w : World) (a : Option Addr) (ps : Pts) : Prop := ps = [] ∨ ∃ b off, a = some ⟨b, off, none⟩ ∧ Places n0 w b off ps

theorem PtsAt.below {n0 : Nat} {A B : World} (h : Below n0 A B) {a : Option Addr} {ps : Pts} (hp : PtsAt n0 A a ps) : PtsAt n0 B a ps :=
  hp.elim .inl fun ⟨b, off, e, p⟩ => .inr ⟨b, off, e, p.below h⟩

theorem Places.mono {n0 n1 : Nat} (h : n0 ≤ n1) {w : World} {b off : Nat} {ps : Pts} (hp : Places n0 w b off ps) : Places n1 w b off ps := ⟨Nat.lt_of_lt_of_le hp.1 h, hp.2⟩
theorem PtsAt.mono {n0 n1 : Nat} (h : n0 ≤ n1) {w : World} {a : Option Addr} {ps : Pts} (hp : PtsAt n0 w a ps) : PtsAt n1 w a ps :=
  hp.elim .inl fun ⟨b, off, e, p⟩ => .inr ⟨b, off, e, p.mono h⟩

def validF (f : Feat) : Bool := inB f.id 1 99 && inB f.ht (-9) 9 && inB f.col 1 9 && mayB f.kd f.ps.length && f.ps.all inW

theorem IsId_any (n : Int) (w : World) : Calls Tryz.prog 81 #[.int .i64 n] w fun e w' => e = .returned (.bool (inB n 1 99)) ∧ w' = w := by
  go_enter Tryz.func81, Tryz.ntmps81
  go_wp2_with (go_at_call 82; refine (within_any _ _ _ _).mono ?_; rintro e w' ⟨rfl, rfl⟩)
  go_ret
  exact ⟨rfl, rfl⟩

set_option maxHeartbeats 2000000 in
theorem IsFeature_any (id kd ht col : Int) (a : Option Addr) (n cap : Nat) (ps : Pts) (w : World) (hp : PtsAt w.heap.size w a ps) (hn : n = ps.length) (hn2 : n ≤ 1000000000000000) :
    Calls Tryz.prog 52 #[.agg #[.int .i64 id, .int .i64 kd, .int .i64 ht, .int .i64 col, .slice a n cap]] w fun e w' => e = .returned (.bool (validF ⟨id, kd, ht, col, ps⟩)) ∧ Below w.heap.size w w' := by
  have hB : ∀ o1 : Obj, Below w.heap.size w (w.alloc o1) := fun o1 => (Below.refl _ _).alloc (Nat.le_refl _) _
  have Hn : Hid (n = ps.length) := hn
  clear hn
  by_cases h1 : inB id 1 99 = true
  · by_cases h2 : inB ht (-9) 9 = true
    · by_cases h3 : inB col 1 9 = true
      · by_cases h4 : mayB kd n = true
        · have Hv : Hid (validF ⟨id, kd, ht, col, ps⟩ = ps.all inW) := by
            show validF ⟨id, kd, ht, col, ps⟩ = ps.all inW
            simp only [validF, h1, h2, h3, ← Hn.out, h4, Bool.true_and]
          have hne : ¬ ps = [] := by
            intro e
            have h0 := Hn.out
            rw [e] at h0
            simp [mayB, h0] at h4
          obtain ⟨b, off, rfl, hq⟩ := hp.resolve_left hne
          have hp1 : ∀ o : Obj, Places (w.alloc o).heap.size (w.alloc o) b off ps := fun o => (hq.below (hB o)).mono (by simp)
          clear hne hp hq
          go_enter Tryz.func52, Tryz.ntmps52
          go_wp2_with (first
            | (go_at_call 82; refine (within_any _ _ _ _).mono ?_; rintro e w' ⟨rfl, rfl⟩)
            | (go_at_call 81; refine (IsId_any _ _).mono ?_; rintro e w' ⟨rfl, rfl⟩)
            | (go_at_call 83; refine (mayHave_any _ _ _).mono ?_; rintro e w' ⟨rfl, rfl⟩)
            | (go_at_call 84; refine (inWorld_any b off n cap ps _ (hp1 _) Hn.out hn2).mono ?_; rintro e w' ⟨rfl, hb'⟩))
          go_ret
          exact ⟨ret_bool Hv.out.symm, (hB _).trans (hb'.mono (by simp))⟩
        · have h4' : mayB kd n = false := by simpa using h4
          clear h4
          have Hv : Hid (validF ⟨id, kd, ht, col, ps⟩ = false) := by
            show validF ⟨id, kd, ht, col, ps⟩ = false
            simp only [validF, ← Hn.out, h4', Bool.and_false, Bool.false_and]
          go_enter Tryz.func52, Tryz.ntmps52
          go_wp2_with (first
            | (go_at_call 82; refine (within_any _ _ _ _).mono ?_; rintro e w' ⟨rfl, rfl⟩)
            | (go_at_call 81; refine (IsId_any _ _).mono ?_; rintro e w' ⟨rfl, rfl⟩)
            | (go_at_call 83; refine (mayHave_any _ _ _).mono ?_; rintro e w' ⟨rfl, rfl⟩))
          go_ret
          exact ⟨ret_bool Hv.out.symm, hB _⟩
      · have h3' : inB col 1 9 = false := by simpa using h3
        clear h3
        have Hv : Hid (validF ⟨id, kd, ht, col, ps⟩ = false) := by
          show validF ⟨id, kd, ht, col, ps⟩ = false
          simp only [validF, h3', Bool.and_false, Bool.false_and]
        go_enter Tryz.func52, Tryz.ntmps52
        go_wp2_with (first
          | (go_at_call 82; refine (within_any _ _ _ _).mono ?_; rintro e w' ⟨rfl, rfl⟩)
            | (go_at_call 81; refine (IsId_any _ _).mono ?_; rintro e w' ⟨rfl, rfl⟩))
        go_ret
        exact ⟨ret_bool Hv.out.symm, hB _⟩
    · have h2' : inB ht (-9) 9 = false := by simpa using h2
      clear h2
      have Hv : Hid (validF ⟨id, kd, ht, col, ps⟩ = false) := by
        show validF ⟨id, kd, ht, col, ps⟩ = false
        simp only [validF, h2', Bool.and_false, Bool.false_and]
      go_enter Tryz.func52, Tryz.ntmps52
      go_wp2_with (first
        | (go_at_call 82; refine (within_any _ _ _ _).mono ?_; rintro e w' ⟨rfl, rfl⟩)
            | (go_at_call 81; refine (IsId_any _ _).mono ?_; rintro e w' ⟨rfl, rfl⟩))
      go_ret
      exact ⟨ret_bool Hv.out.symm, hB _⟩
  · have h1' : inB id 1 99 = false := by simpa using h1
    clear h1
    have Hv : Hid (validF ⟨id, kd, ht, col, ps⟩ = false) := by
      show validF ⟨id, kd, ht, col, ps⟩ = false
      simp only [validF, h1', Bool.false_and]
    go_enter Tryz.func52, Tryz.ntmps52
    go_wp2_with (first
      | (go_at_call 82; refine (within_any _ _ _ _).mono ?_; rintro e w' ⟨rfl, rfl⟩)
            | (go_at_call 81; refine (IsId_any _ _).mono ?_; rintro e w' ⟨rfl, rfl⟩))
    go_ret
    exact ⟨ret_bool Hv.out.symm, hB _⟩

def crossB (ax ay bx by' mx my : Int) : Bool :=
  if decide (my < ay) = decide (my < by') then false
  else if by' < ay then decide ((mx - bx) * (ay - by') < (my - by') * (ax - bx))
  else decide ((mx - ax) * (by' - ay) < (my - ay) * (bx - ax))

set_option maxHeartbeats 2000000 in
theorem crossed_any (ax ay bx by' mx my : Int) (w : World) (h1 : 0 ≤ ax) (h2 : 0 ≤ ay) (h3 : 0 ≤ bx) (h4 : 0 ≤ by') (h5 : 0 ≤ mx) (h6 : 0 ≤ my) (g1 : ax ≤ 1000) (g2 : ay ≤ 1000) (g3 : bx ≤ 1000) (g4 : by' ≤ 1000) (g5 : mx ≤ 1000) (g6 : my ≤ 1000) :
    Calls Tryz.prog 160 #[.agg #[.int .i64 ax, .int .i64 ay], .agg #[.int .i64 bx, .int .i64 by'], .agg #[.int .i64 mx, .int .i64 my]] w fun e w' => e = .returned (.bool (crossB ax ay bx by' mx my)) ∧ Below w.heap.size w w' := by
  have hB : ∀ o1 o2 o3 : Obj, Below w.heap.size w (((w.alloc o1).alloc o2).alloc o3) := fun o1 o2 o3 => (((Below.refl _ _).alloc (Nat.le_refl _) _).alloc (by simp) _).alloc (by simp; omega) _
  by_cases c1 : my < ay
  · by_cases c2 : my < by'
    · have Hv : Hid (crossB ax ay bx by' mx my = false) := by show crossB ax ay bx by' mx my = false; simp [crossB, c1, c2]
      go_enter Tryz.func160, Tryz.ntmps160
      go_wp2
      go_ret
      exact ⟨ret_bool Hv.out.symm, hB _ _ _⟩
    · have c3 : by' < ay := by omega
      have Hv : Hid (crossB ax ay bx by' mx my = decide ((mx - bx) * (ay - by') < (my - by') * (ax - bx))) := by show crossB ax ay bx by' mx my = _; simp [crossB, c1, c2, c3]
      obtain ⟨p1, p1'⟩ := mul_bd (a := mx - bx) (b := ay - by') (A := 1000) (B := 1000) (by omega) (by omega) (by omega) (by omega)
      obtain ⟨p2, p2'⟩ := mul_bd (a := my - by') (b := ax - bx) (A := 1000) (B := 1000) (by omega) (by omega) (by omega) (by omega)
      go_enter Tryz.func160, Tryz.ntmps160
      go_wp2
      go_ret
      exact ⟨ret_bool Hv.out.symm, hB _ _ _⟩
  · by_cases c2 : my < by'
    · have c3 : ¬ by' < ay := by omega
      have Hv : Hid (crossB ax ay bx by' mx my = decide ((mx - ax) * (by' - ay) < (my - ay) * (bx - ax))) := by show crossB ax ay bx by' mx my = _; simp [crossB, c1, c2, c3]
      obtain ⟨p1, p1'⟩ := mul_bd (a := mx - ax) (b := by' - ay) (A := 1000) (B := 1000) (by omega) (by omega) (by omega) (by omega)
      obtain ⟨p2, p2'⟩ := mul_bd (a := my - ay) (b := bx - ax) (A := 1000) (B := 1000) (by omega) (by omega) (by omega) (by omega)
      go_enter Tryz.func160, Tryz.ntmps160
      go_wp2
      go_ret
      exact ⟨ret_bool Hv.out.symm, hB _ _ _⟩
    · have Hv : Hid (crossB ax ay bx by' mx my = false) := by show crossB ax ay bx by' mx my = false; simp [crossB, c1, c2]
      go_enter Tryz.func160, Tryz.ntmps160
      go_wp2
      go_ret
      exact ⟨ret_bool Hv.out.symm, hB _ _ _⟩

end Go.Proofs.YtenaepdmlknlcaaGreatDoor

namespace Go.Proofs.YtenaepdmlknlcaaGreatDoor
open Go.RowKit

def ZP (z p : Int) : Prop := (z = 0 ∧ p = 32) ∨ (z = 1 ∧ p = 16) ∨ (z = 2 ∧ p = 8) ∨ (z = 3 ∧ p = 4)

/-- How many tiles there are along a side. -/
def manyZ (z : Int) : Int := if z = 0 then 1 else if z = 1 then 2 else if z = 2 then 4 else 8

def tileB (z c r : Int) : Bool := decide (0 ≤ z ∧ z ≤ 3 ∧ 0 ≤ c ∧ c < manyZ z ∧ 0 ≤ r ∧ r < manyZ z)

set_option maxHeartbeats 2000000 in
theorem IsTile_at (z m c r : Int) (w : World) (hz : (z = 0 ∧ m = 1) ∨ (z = 1 ∧ m = 2) ∨ (z = 2 ∧ m = 4) ∨ (z = 3 ∧ m = 8)) :
    Calls Tryz.prog 29 #[.agg #[.int .i64 z, .int .i64 c, .int .i64 r]] w fun e w' => e = .returned (.bool (decide (0 ≤ c ∧ c < m ∧ 0 ≤ r ∧ r < m))) ∧ Below w.heap.size w w' := by
  have hB : ∀ o1 : Obj, Below w.heap.size w (w.alloc o1) := fun o1 => (Below.refl _ _).alloc (Nat.le_refl _) _
  by_cases c1 : 0 ≤ c
  · by_cases c2 : c < m
    · by_cases c3 : 0 ≤ r
      · by_cases c4 : r < m
        · rcases hz with ⟨rfl, rfl⟩ | ⟨rfl, rfl⟩ | ⟨rfl, rfl⟩ | ⟨rfl, rfl⟩ <;>
          · go_enter Tryz.func29, Tryz.ntmps29
            go_wp2
            go_ret
            exact ⟨ret_bool (by simp; omega), hB _⟩
        · rcases hz with ⟨rfl, rfl⟩ | ⟨rfl, rfl⟩ | ⟨rfl, rfl⟩ | ⟨rfl, rfl⟩ <;>
          · go_enter Tryz.func29, Tryz.ntmps29
            go_wp2
            go_ret
            exact ⟨ret_bool (by simp; omega), hB _⟩
      · rcases hz with ⟨rfl, rfl⟩ | ⟨rfl, rfl⟩ | ⟨rfl, rfl⟩ | ⟨rfl, rfl⟩ <;>
        · go_enter Tryz.func29, Tryz.ntmps29
          go_wp2
          go_ret
          exact ⟨ret_bool (by simp; omega), hB _⟩
    · rcases hz with ⟨rfl, rfl⟩ | ⟨rfl, rfl⟩ | ⟨rfl, rfl⟩ | ⟨rfl, rfl⟩ <;>
      · go_enter Tryz.func29, Tryz.ntmps29
        go_wp2
        go_ret
        exact ⟨ret_bool (by simp; omega), hB _⟩
  · rcases hz with ⟨rfl, rfl⟩ | ⟨rfl, rfl⟩ | ⟨rfl, rfl⟩ | ⟨rfl, rfl⟩ <;>
    · go_enter Tryz.func29, Tryz.ntmps29
      go_wp2
      go_ret
      exact ⟨ret_bool (by simp; omega), hB _⟩

set_option maxHeartbeats 400000 in
theorem IsTile_no (z c r : Int) (w : World) (hz : z < 0 ∨ 3 < z) :
    Calls Tryz.prog 29 #[.agg #[.int .i64 z, .int .i64 c, .int .i64 r]] w fun e w' => e = .returned (.bool false) ∧ Below w.heap.size w w' := by
  have hB : ∀ o1 : Obj, Below w.heap.size w (w.alloc o1) := fun o1 => (Below.refl _ _).alloc (Nat.le_refl _) _
  by_cases c1 : z < 0
  · go_enter Tryz.func29, Tryz.ntmps29
    go_wp2
    go_ret
    exact ⟨rfl, hB _⟩
  · have c2 : 3 < z := by omega
    clear hz
    go_enter Tryz.func29, Tryz.ntmps29
    go_wp2
    go_ret
    exact ⟨rfl, hB _⟩

theorem IsTile_any (z c r : Int) (w : World) :
    Calls Tryz.prog 29 #[.agg #[.int .i64 z, .int .i64 c, .int .i64 r]] w fun e w' => e = .returned (.bool (tileB z c r)) ∧ Below w.heap.size w w' := by
  by_cases h : 0 ≤ z ∧ z ≤ 3
  · have hz : (z = 0 ∧ manyZ z = 1) ∨ (z = 1 ∧ manyZ z = 2) ∨ (z = 2 ∧ manyZ z = 4) ∨ (z = 3 ∧ manyZ z = 8) := by
      have : z = 0 ∨ z = 1 ∨ z = 2 ∨ z = 3 := by omega
      rcases this with rfl | rfl | rfl | rfl <;> simp [manyZ]
    refine (IsTile_at z (manyZ z) c r w hz).mono ?_
    rintro e w' ⟨rfl, hb⟩
    exact ⟨ret_bool (by simp [tileB, h]), hb⟩
  · refine (IsTile_no z c r w (by omega)).mono ?_
    rintro e w' ⟨rfl, hb⟩
    refine ⟨ret_bool ?_, hb⟩
    symm
    simp only [tileB, decide_eq_false_iff_not]
    omega

end Go.Proofs.YtenaepdmlknlcaaGreatDoor

namespace Go.Proofs.YtenaepdmlknlcaaGreatDoor
open Go.RowKit

theorem rin_any (n l m : Int) (w : World) :
    Calls Tryz.prog 105 #[.int .i64 n, .int .i64 l, .int .i64 m] w fun e w' => e = .returned (.bool (inB n l m)) ∧ w' = w := by
  by_cases h1 : l ≤ n
  · by_cases h2 : n ≤ m
    · go_enter Tryz.func105, Tryz.ntmps105
      go_wp2
      go_ret
      exact ⟨ret_bool (by simp [inB]; omega), rfl⟩
    · go_enter Tryz.func105, Tryz.ntmps105
      go_wp2
      go_ret
      exact ⟨ret_bool (by simp [inB]; omega), rfl⟩
  · go_enter Tryz.func105, Tryz.ntmps105
    go_wp2
    go_ret
    exact ⟨ret_bool (by simp [inB]; omega), rfl⟩

theorem power_any (z : Int) (w : World) (h : 0 ≤ z ∧ z ≤ 3) :
    Calls Tryz.prog 106 #[.int .i64 z] w fun e w' => e = .returned (.int .i64 (manyZ z)) ∧ w' = w := by
  obtain ⟨h1, h2⟩ := h
  go_enter Tryz.func106, Tryz.ntmps106
  go_wp2
  go_loopw [0, 3] (fun n p wr => ∃ k q : Int, n = .int .i64 k ∧ p = .int .i64 q ∧ 0 ≤ k ∧ k ≤ z ∧ 1 ≤ q ∧ q ≤ 8 ∧ q * manyZ k = manyZ z ∧ wr = w) (fun n _ _ => (intOf n).toNat)
  case atStart => exact ⟨z, 1, rfl, rfl, h1, by omega, by omega, by omega, by omega, by first | trivial | rfl⟩
  case round =>
    obtain ⟨k, q, rfl, rfl, k0, kz, q0, q8, hq, rfl⟩ := hrel
    by_cases hk : 0 < k
    · have hz : k = 1 ∨ k = 2 ∨ k = 3 := by omega
      have hm : manyZ k = 2 * manyZ (k - 1) := by rcases hz with rfl | rfl | rfl <;> rfl
      have hm1 : 1 ≤ manyZ (k - 1) := by rcases hz with rfl | rfl | rfl <;> decide
      have hm8 : manyZ z ≤ 8 := by simp only [manyZ]; split <;> (try split) <;> (try split) <;> omega
      have hq2 : 2 * q ≤ 8 := by
        rw [hm] at hq
        have := Int.mul_le_mul_of_nonneg_left hm1 (show 0 ≤ 2 * q by omega)
        have e : q * (2 * manyZ (k - 1)) = 2 * q * manyZ (k - 1) := by rw [← Int.mul_assoc, Int.mul_comm q 2]
        omega
      have Hq : Hid (2 * q * manyZ (k - 1) = manyZ z) := by
        show 2 * q * manyZ (k - 1) = manyZ z
        rw [← hq, hm, ← Int.mul_assoc, Int.mul_comm q 2]
      clear hz hm hm1 hm8 hq
      go_wp2
      go_roundw
      case rel => exact ⟨k - 1, 2 * q, by go_num, by go_num, by omega, by omega, by omega, by omega, Hq.out, by first | trivial | rfl⟩
      case measure => simp [intOf]; omega
    · have Hq : Hid (q = manyZ z) := by
        show q = manyZ z
        have : k = 0 := by omega
        subst this
        simp [manyZ] at hq ⊢
        exact hq
      clear hq
      go_wp2
      go_ret
      exact ⟨ret_int Hq.out, rfl⟩

theorem rIsTile_any (z c r : Int) (w : World) :
    Calls Tryz.prog 62 #[.agg #[.int .i64 z, .int .i64 c, .int .i64 r]] w fun e w' => e = .returned (.bool (tileB z c r)) ∧ Below w.heap.size w w' := by
  have hB : ∀ o1 : Obj, Below w.heap.size w (w.alloc o1) := fun o1 => (Below.refl _ _).alloc (Nat.le_refl _) _
  by_cases h : inB z 0 3 = true
  · have hz : 0 ≤ z ∧ z ≤ 3 := by simpa [inB] using h
    obtain ⟨m, hm⟩ : ∃ m, manyZ z = m := ⟨_, rfl⟩
    have hp : ∀ W : World, Calls Tryz.prog 106 #[.int .i64 z] W fun e w' => e = .returned (.int .i64 m) ∧ w' = W := fun W => hm ▸ power_any z W hz
    have HP : Hid _ := hp
    have ht : tileB z c r = decide (0 ≤ c ∧ 0 ≤ r ∧ c < m ∧ r < m) := by
      simp only [tileB, hm]
      congr 1
      rw [eq_iff_iff]
      omega
    clear hm hp
    rw [ht]
    clear ht
    by_cases c1 : 0 ≤ c
    · by_cases c2 : 0 ≤ r
      · by_cases c3 : c < m
        · by_cases c4 : r < m
          · go_enter Tryz.func62, Tryz.ntmps62
            go_wp2_with (first | (go_at_call 105; refine (rin_any _ _ _ _).mono ?_; rintro e w' ⟨rfl, rfl⟩) | (go_at_call 106; refine Calls.mono (HP.out _) ?_; rintro e w' ⟨rfl, rfl⟩))
            go_ret
            exact ⟨ret_bool (by rw [Bool.eq_iff_iff]; simp; omega), hB _⟩
          · go_enter Tryz.func62, Tryz.ntmps62
            go_wp2_with (first | (go_at_call 105; refine (rin_any _ _ _ _).mono ?_; rintro e w' ⟨rfl, rfl⟩) | (go_at_call 106; refine Calls.mono (HP.out _) ?_; rintro e w' ⟨rfl, rfl⟩))
            go_ret
            exact ⟨ret_bool (by rw [Bool.eq_iff_iff]; simp; omega), hB _⟩
        · go_enter Tryz.func62, Tryz.ntmps62
          go_wp2_with (first | (go_at_call 105; refine (rin_any _ _ _ _).mono ?_; rintro e w' ⟨rfl, rfl⟩) | (go_at_call 106; refine Calls.mono (HP.out _) ?_; rintro e w' ⟨rfl, rfl⟩))
          go_ret
          exact ⟨ret_bool (by rw [Bool.eq_iff_iff]; simp; omega), hB _⟩
      · go_enter Tryz.func62, Tryz.ntmps62
        go_wp2_with (first | (go_at_call 105; refine (rin_any _ _ _ _).mono ?_; rintro e w' ⟨rfl, rfl⟩) | (go_at_call 106; refine Calls.mono (HP.out _) ?_; rintro e w' ⟨rfl, rfl⟩))
        go_ret
        exact ⟨ret_bool (by rw [Bool.eq_iff_iff]; simp; omega), hB _⟩
    · go_enter Tryz.func62, Tryz.ntmps62
      go_wp2_with (first | (go_at_call 105; refine (rin_any _ _ _ _).mono ?_; rintro e w' ⟨rfl, rfl⟩) | (go_at_call 106; refine Calls.mono (HP.out _) ?_; rintro e w' ⟨rfl, rfl⟩))
      go_ret
      exact ⟨ret_bool (by rw [Bool.eq_iff_iff]; simp; omega), hB _⟩
  · have h' : inB z 0 3 = false := by simpa using h
    have ht : tileB z c r = false := by
      simp only [inB, decide_eq_false_iff_not] at h'
      simp only [tileB, decide_eq_false_iff_not]
      omega
    rw [ht]
    clear h ht
    go_enter Tryz.func62, Tryz.ntmps62
    go_wp2_with (go_at_call 105; refine (rin_any _ _ _ _).mono ?_; rintro e w' ⟨rfl, rfl⟩)
    go_ret
    exact ⟨rfl, hB _⟩

end Go.Proofs.YtenaepdmlknlcaaGreatDoor
