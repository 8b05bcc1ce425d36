import Derived.Test.YtcgpdfefnmhnhaaDoorC
namespace Go.Proofs.YtcgpdfefnmhnhaaDoor
open Go.RowKit

structure Feat where
  id : Int
  kd : Int
  ht : Int
  col : Int
  ps : Pts

/-- The address of a list of places (any, where there are none). -/
def PtsAt (n0 : Nat) (w : World) (a : Option Addr) (ps : Pts) : Prop := ps = [] ∨ ∃ b off, a = some ⟨b, off, none⟩ ∧ Places n0 w b off ps

theorem PtsAt.below {n0 : Nat} {A B : World} (h : Below n0 A B) {a : Option Addr} {ps : Pts} (hp : PtsAt n0 A a ps) : PtsAt n0 B a ps :=
  hp.elim .inl fun ⟨b, off, e, p⟩ => .inr ⟨b, off, e, p.below h⟩

theorem Places.mono {n0 n1 : Nat} (h : n0 ≤ n1) {w : World} {b off : Nat} {ps : Pts} (hp : Places n0 w b off ps) : Places n1 w b off ps := ⟨Nat.lt_of_lt_of_le hp.1 h, hp.2⟩
theorem PtsAt.mono {n0 n1 : Nat} (h : n0 ≤ n1) {w : World} {a : Option Addr} {ps : Pts} (hp : PtsAt n0 w a ps) : PtsAt n1 w a ps :=
  hp.elim .inl fun ⟨b, off, e, p⟩ => .inr ⟨b, off, e, p.mono h⟩

def validF (f : Feat) : Bool := inB f.id 1 99 && inB f.ht (-9) 9 && inB f.col 1 9 && mayB f.kd f.ps.length && f.ps.all inW

set_option maxHeartbeats 2000000 in
theorem IsFeature_any (id kd ht col : Int) (a : Option Addr) (n cap : Nat) (ps : Pts) (w : World) (hp : PtsAt w.heap.size w a ps) (hn : n = ps.length) (hn2 : n ≤ 1000000000000) :
    Calls Tryd.prog 12 #[.agg #[.int .i64 id, .int .i64 kd, .int .i64 ht, .int .i64 col, .slice a n cap]] w fun e w' => e = .returned (.bool (validF ⟨id, kd, ht, col, ps⟩)) ∧ Below w.heap.size w w' := by
  have hB : ∀ o1 : Obj, Below w.heap.size w (w.alloc o1) := fun o1 => (Below.refl _ _).alloc (Nat.le_refl _) _
  have Hn : Hid (n = ps.length) := hn
  clear hn
  by_cases h1 : inB id 1 99 = true
  · by_cases h2 : inB ht (-9) 9 = true
    · by_cases h3 : inB col 1 9 = true
      · by_cases h4 : mayB kd n = true
        · have Hv : Hid (validF ⟨id, kd, ht, col, ps⟩ = ps.all inW) := by
            show validF ⟨id, kd, ht, col, ps⟩ = ps.all inW
            simp only [validF, h1, h2, h3, ← Hn.out, h4, Bool.true_and]
          have hne : ¬ ps = [] := by
            intro e
            have h0 := Hn.out
            rw [e] at h0
            simp [mayB, h0] at h4
          obtain ⟨b, off, rfl, hq⟩ := hp.resolve_left hne
          have hp1 : ∀ o : Obj, Places (w.alloc o).heap.size (w.alloc o) b off ps := fun o => (hq.below (hB o)).mono (by simp)
          clear hne hp hq
          go_enter Tryd.func12, Tryd.ntmps12
          go_wp2_with (first
            | (go_at_call 22; refine (within_any _ _ _ _).mono ?_; rintro e w' ⟨rfl, rfl⟩)
            | (go_at_call 23; refine (mayHave_any _ _ _).mono ?_; rintro e w' ⟨rfl, rfl⟩)
            | (go_at_call 24; refine (inWorld_any b off n cap ps _ (hp1 _) Hn.out hn2).mono ?_; rintro e w' ⟨rfl, hb'⟩))
          go_ret
          exact ⟨ret_bool Hv.out.symm, (hB _).trans (hb'.mono (by simp))⟩
        · have h4' : mayB kd n = false := by simpa using h4
          clear h4
          have Hv : Hid (validF ⟨id, kd, ht, col, ps⟩ = false) := by
            show validF ⟨id, kd, ht, col, ps⟩ = false
            simp only [validF, ← Hn.out, h4', Bool.and_false, Bool.false_and]
          go_enter Tryd.func12, Tryd.ntmps12
          go_wp2_with (first
            | (go_at_call 22; refine (within_any _ _ _ _).mono ?_; rintro e w' ⟨rfl, rfl⟩)
            | (go_at_call 23; refine (mayHave_any _ _ _).mono ?_; rintro e w' ⟨rfl, rfl⟩))
          go_ret
          exact ⟨ret_bool Hv.out.symm, hB _⟩
      · have h3' : inB col 1 9 = false := by simpa using h3
        clear h3
        have Hv : Hid (validF ⟨id, kd, ht, col, ps⟩ = false) := by
          show validF ⟨id, kd, ht, col, ps⟩ = false
          simp only [validF, h3', Bool.and_false, Bool.false_and]
        go_enter Tryd.func12, Tryd.ntmps12
        go_wp2_with (first
          | (go_at_call 22; refine (within_any _ _ _ _).mono ?_; rintro e w' ⟨rfl, rfl⟩))
        go_ret
        exact ⟨ret_bool Hv.out.symm, hB _⟩
    · have h2' : inB ht (-9) 9 = false := by simpa using h2
      clear h2
      have Hv : Hid (validF ⟨id, kd, ht, col, ps⟩ = false) := by
        show validF ⟨id, kd, ht, col, ps⟩ = false
        simp only [validF, h2', Bool.and_false, Bool.false_and]
      go_enter Tryd.func12, Tryd.ntmps12
      go_wp2_with (first
        | (go_at_call 22; refine (within_any _ _ _ _).mono ?_; rintro e w' ⟨rfl, rfl⟩))
      go_ret
      exact ⟨ret_bool Hv.out.symm, hB _⟩
  · have h1' : inB id 1 99 = false := by simpa using h1
    clear h1
    have Hv : Hid (validF ⟨id, kd, ht, col, ps⟩ = false) := by
      show validF ⟨id, kd, ht, col, ps⟩ = false
      simp only [validF, h1', Bool.false_and]
    go_enter Tryd.func12, Tryd.ntmps12
    go_wp2_with (first
      | (go_at_call 22; refine (within_any _ _ _ _).mono ?_; rintro e w' ⟨rfl, rfl⟩))
    go_ret
    exact ⟨ret_bool Hv.out.symm, hB _⟩

def crossB (ax ay bx by' mx my : Int) : Bool :=
  if decide (my < ay) = decide (my < by') then false
  else if by' < ay then decide ((mx - bx) * (ay - by') < (my - by') * (ax - bx))
  else decide ((mx - ax) * (by' - ay) < (my - ay) * (bx - ax))

set_option maxHeartbeats 2000000 in
theorem crossed_any (ax ay bx by' mx my : Int) (w : World) (h1 : 0 ≤ ax) (h2 : 0 ≤ ay) (h3 : 0 ≤ bx) (h4 : 0 ≤ by') (h5 : 0 ≤ mx) (h6 : 0 ≤ my) (g1 : ax ≤ 1000) (g2 : ay ≤ 1000) (g3 : bx ≤ 1000) (g4 : by' ≤ 1000) (g5 : mx ≤ 1000) (g6 : my ≤ 1000) :
    Calls Tryd.prog 70 #[.agg #[.int .i64 ax, .int .i64 ay], .agg #[.int .i64 bx, .int .i64 by'], .agg #[.int .i64 mx, .int .i64 my]] w fun e w' => e = .returned (.bool (crossB ax ay bx by' mx my)) ∧ Below w.heap.size w w' := by
  have hB : ∀ o1 o2 o3 : Obj, Below w.heap.size w (((w.alloc o1).alloc o2).alloc o3) := fun o1 o2 o3 => (((Below.refl _ _).alloc (Nat.le_refl _) _).alloc (by simp) _).alloc (by simp; omega) _
  by_cases c1 : my < ay
  · by_cases c2 : my < by'
    · have Hv : Hid (crossB ax ay bx by' mx my = false) := by show crossB ax ay bx by' mx my = false; simp [crossB, c1, c2]
      go_enter Tryd.func70, Tryd.ntmps70
      go_wp2
      go_ret
      exact ⟨ret_bool Hv.out.symm, hB _ _ _⟩
    · have c3 : by' < ay := by omega
      have Hv : Hid (crossB ax ay bx by' mx my = decide ((mx - bx) * (ay - by') < (my - by') * (ax - bx))) := by show crossB ax ay bx by' mx my = _; simp [crossB, c1, c2, c3]
      obtain ⟨p1, p1'⟩ := mul_bd (a := mx - bx) (b := ay - by') (A := 1000) (B := 1000) (by omega) (by omega) (by omega) (by omega)
      obtain ⟨p2, p2'⟩ := mul_bd (a := my - by') (b := ax - bx) (A := 1000) (B := 1000) (by omega) (by omega) (by omega) (by omega)
      go_enter Tryd.func70, Tryd.ntmps70
      go_wp2
      go_ret
      exact ⟨ret_bool Hv.out.symm, hB _ _ _⟩
  · by_cases c2 : my < by'
    · have c3 : ¬ by' < ay := by omega
      have Hv : Hid (crossB ax ay bx by' mx my = decide ((mx - ax) * (by' - ay) < (my - ay) * (bx - ax))) := by show crossB ax ay bx by' mx my = _; simp [crossB, c1, c2, c3]
      obtain ⟨p1, p1'⟩ := mul_bd (a := mx - ax) (b := by' - ay) (A := 1000) (B := 1000) (by omega) (by omega) (by omega) (by omega)
      obtain ⟨p2, p2'⟩ := mul_bd (a := my - ay) (b := bx - ax) (A := 1000) (B := 1000) (by omega) (by omega) (by omega) (by omega)
      go_enter Tryd.func70, Tryd.ntmps70
      go_wp2
      go_ret
      exact ⟨ret_bool Hv.out.symm, hB _ _ _⟩
    · have Hv : Hid (crossB ax ay bx by' mx my = false) := by show crossB ax ay bx by' mx my = false; simp [crossB, c1, c2]
      go_enter Tryd.func70, Tryd.ntmps70
      go_wp2
      go_ret
      exact ⟨ret_bool Hv.out.symm, hB _ _ _⟩

end Go.Proofs.YtcgpdfefnmhnhaaDoor
