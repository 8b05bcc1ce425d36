import Derived.Test.YtcgpdfefnmhnhaaDoorB
namespace Go.Proofs.YtcgpdfefnmhnhaaDoor
open Go.RowKit

abbrev Pts := List (Int × Int)

/-- The places lie in the block b, below n0, from off on. -/
def Places (n0 : Nat) (w : World) (b off : Nat) (ps : Pts) : Prop :=
  b < n0 ∧ ∀ k x y, ps[k]? = some (x, y) → w.cell? ⟨b, off + k * 2, none⟩ = some (.int .i64 x) ∧ w.cell? ⟨b, off + k * 2 + 1, none⟩ = some (.int .i64 y)

theorem Places.below {n0 : Nat} {A B : World} (h : Below n0 A B) {b off : Nat} {ps : Pts} (hp : Places n0 A b off ps) : Places n0 B b off ps :=
  ⟨hp.1, fun k x y e => ⟨(h.cell (p := ⟨b, off + k * 2, none⟩) hp.1).trans (hp.2 k x y e).1, (h.cell (p := ⟨b, off + k * 2 + 1, none⟩) hp.1).trans (hp.2 k x y e).2⟩⟩

theorem Places.at {n0 : Nat} {w : World} {b off : Nat} {ps : Pts} (hp : Places n0 w b off ps) {k : Nat} (hk : k < ps.length) :
    ∃ x y, ps[k]? = some (x, y) ∧ w.cell? ⟨b, off + k * 2, none⟩ = some (.int .i64 x) ∧ w.cell? ⟨b, off + k * 2 + 1, none⟩ = some (.int .i64 y) :=
  ⟨ps[k].1, ps[k].2, List.getElem?_eq_getElem hk, hp.2 k _ _ (List.getElem?_eq_getElem hk)⟩

def inW (p : Int × Int) : Bool := inB p.1 0 255 && inB p.2 0 255

theorem all_take_succ {ps : Pts} {f : Int × Int → Bool} {k : Nat} {p : Int × Int} (h : ps[k]? = some p) (ha : (ps.take k).all f = true) (hf : f p = true) : (ps.take (k + 1)).all f = true := by
  rw [List.take_add_one, h]
  simp only [Option.toList, List.all_append, ha, List.all_cons, hf, List.all_nil]; rfl

theorem all_false {ps : Pts} {f : Int × Int → Bool} {k : Nat} {p : Int × Int} (h : ps[k]? = some p) (hf : f p = false) : ps.all f = false := by
  rw [List.all_eq_false]
  exact ⟨p, List.mem_of_getElem? h, by simp [hf]⟩

set_option maxHeartbeats 1000000 in
theorem inWorld_any (b off n cap : Nat) (ps : Pts) (w : World) (hp : Places w.heap.size w b off ps) (hn : n = ps.length) (hn2 : n ≤ 1000000000000) :
    Calls Tryd.prog 24 #[.slice (some ⟨b, off, none⟩) n cap] w fun e w' => e = .returned (.bool (ps.all inW)) ∧ Below w.heap.size w w' := by
  have Hn : Hid (n = ps.length) := hn
  clear hn
  go_enter Tryd.func24, Tryd.ntmps24
  go_wp2
  go_loopw [7] (fun i wr => ∃ k : Nat, k ≤ n ∧ i = .int .i64 k ∧ (ps.take k).all inW = true ∧ Below w.heap.size w wr) (fun i _ => n - (intOf i).toNat)
  case atStart => exact ⟨0, Nat.zero_le _, rfl, by simp, Below.refl _ _⟩
  case round =>
    obtain ⟨k, hk, rfl, hall, hb⟩ := hrel
    by_cases hlt : k < n
    · obtain ⟨x, y, hxy, hx, hy⟩ := (hp.below hb).at (k := k) (by rw [← Hn.out]; exact hlt)
      have Hxy : Hid (ps[k]? = some (x, y)) := hxy
      have Hall : Hid ((ps.take k).all inW = true) := hall
      clear hxy hall hp
      have hsz := hb.size
      by_cases gx : inB x 0 255 = true
      · by_cases gy : inB y 0 255 = true
        · have Hf : Hid (inW (x, y) = true) := by show inW (x, y) = true; simp [inW, gx, gy]
          go_wp2_with (go_at_call 22; refine (within_any _ _ _ _).mono ?_; rintro e w' ⟨rfl, rfl⟩)
          go_roundw
          case rel => exact ⟨k + 1, by omega, by go_num, all_take_succ Hxy.out Hall.out Hf.out, hb.alloc hsz _⟩
          case measure => simp [intOf]; omega
        · have gy' : inB y 0 255 = false := by simpa using gy
          clear gy
          have Hf : Hid (inW (x, y) = false) := by show inW (x, y) = false; simp [inW, gy']
          go_wp2_with (go_at_call 22; refine (within_any _ _ _ _).mono ?_; rintro e w' ⟨rfl, rfl⟩)
          go_ret
          exact ⟨ret_bool (all_false Hxy.out Hf.out).symm, hb.alloc hsz _⟩
      · have gx' : inB x 0 255 = false := by simpa using gx
        clear gx
        have Hf : Hid (inW (x, y) = false) := by show inW (x, y) = false; simp [inW, gx']
        go_wp2_with (go_at_call 22; refine (within_any _ _ _ _).mono ?_; rintro e w' ⟨rfl, rfl⟩)
        go_ret
        exact ⟨ret_bool (all_false Hxy.out Hf.out).symm, hb.alloc hsz _⟩
    · have Hall : Hid (ps.all inW = true) := by
        show ps.all inW = true
        have e : k = ps.length := by have := Hn.out; omega
        rw [e, List.take_length] at hall; exact hall
      clear hall
      go_wp2
      go_ret
      exact ⟨ret_bool Hall.out.symm, hb⟩

end Go.Proofs.YtcgpdfefnmhnhaaDoor
