import Derived.Test.YtenaepdmlknlcaaDoorG15
namespace Go.Proofs.YtenaepdmlknlcaaDoor
open Go.RowKit Go.Shelf

set_option maxRecDepth 100000 in
set_option maxHeartbeats 4000000 in
theorem boxedF (zoom column row fr many : Int) (w : World) (hw3 : 3 < w.heap.size) (htab : w.cell? ⟨3, 15, none⟩ = some (.int .u8 4))
    (a1 : -9223372036854775808 ≤ zoom) (a2 : zoom ≤ 9223372036854775807) (b1 : -9223372036854775808 ≤ column) (b2 : column ≤ 9223372036854775807) (c1 : -9223372036854775808 ≤ row) (c2 : row ≤ 9223372036854775807) (d1 : -9223372036854775808 ≤ fr) (d2 : fr ≤ 9223372036854775807) (e1 : -9223372036854775808 ≤ many) (e2 : many ≤ 9223372036854775807) :
    Calls Tryd.prog 3 #[.int .i64 zoom, .int .i64 column, .int .i64 row, .int .i64 fr, .int .i64 many, .bool false] w fun e w' => e = .returned (.bool true) ∧ Below w.heap.size w w' := by
  have Htab : Hid (w.cell? ⟨3, 15, none⟩ = some (.int .u8 4)) := htab
  clear htab
  go_enter Tryd.func3, Tryd.ntmps3
  go_wp2_with fail
  refine (pick_any zoom 4 _ (by omega) (by omega) a1 a2).mono ?_
  rintro e wz ⟨z, rfl, hz0, hz4, rfl⟩
  have hz : z = 0 ∨ z = 1 ∨ z = 2 ∨ z = 3 := by omega
  clear hz0 hz4
  rcases hz with rfl | rfl | rfl | rfl
  · go_wp2_with fail
    refine (pick_any column 1 _ (by omega) (by omega) b1 b2).mono ?_
    rintro e wz ⟨c, rfl, hc0, hc1, rfl⟩
    go_wp2_with fail
    refine (pick_any row 1 _ (by omega) (by omega) c1 c2).mono ?_
    rintro e wz ⟨r, rfl, hr0, hr1, rfl⟩
    go_wp2_with fail
    refine (pick_any fr 8 _ (by omega) (by omega) d1 d2).mono ?_
    rintro e wz ⟨ai, rfl, ha0, ha1, rfl⟩
    obtain ⟨a, rfl⟩ := Int.eq_ofNat_of_zero_le ha0
    go_wp2_with fail
    refine (pick_any many (8 - (a : Int)) _ (by omega) (by omega) e1 e2).mono ?_
    rintro e wz ⟨ni, rfl, hn0, hn1, rfl⟩
    obtain ⟨n, rfl⟩ := Int.eq_ofNat_of_zero_le hn0
    have hB : ∀ o1 o2 o3 o4 o5 o6 : Obj, Below wz.heap.size wz ((((((wz.alloc o1).alloc o2).alloc o3).alloc o4).alloc o5).alloc o6) := below_six wz
    clear a1 a2 b1 b2 c1 c2 d1 d2 e1 e2
    go_wp2_with fail
    refine (draw_two _ (wz.heap.size + 1 + 1 + 1 + 1 + 1) (wz.heap.size + 1) (wz.heap.size + 1 + 1 + 1) 0 32 c r 0 (c * 256 + (a : Int) * 32) (r * 256 + 64) (c * 256 + (a : Int) * 32 + (1 + (n : Int)) * 32 - 1) (r * 256 + 64 + 32 - 1) (c * 256 + (a : Int) * 32 + 1) (r * 256 + 64 + 1) a (n + 1) 5 (by simp [ZP]) (by simp) (by omega) (by omega) (by simp) (by omega) (by omega) (by omega) (by omega) (by omega) (by omega) hc0 (by omega) hr0 (by omega) (by omega) (by omega) (by simp) (by simp <;> omega) (by simp <;> omega) (by simp <;> omega) (((hB _ _ _ _ _ _).cell (p := ⟨3, 15, none⟩) hw3).trans Htab.out) (by simp [go_sem]) (by simp [go_sem]) (by simp [go_sem]) (by simp [go_sem]) (by simp [go_sem]) (by simp [go_sem]) (by simp [go_sem]) (by simp [go_sem]) (by simp [go_sem]) (by simp [go_sem]) (by simp [go_sem]) (by simp [go_sem]) (by simp [go_sem]) (by simp [go_sem]) (by simp [go_sem]) (by simp [go_sem]) (by simp [go_sem]) (by simp [go_sem]) (by simp [go_sem]) (by simp [go_sem]) (by simp [go_sem]) (by simp [go_sem])).mono ?_
    rintro e w1 ⟨m, rfl, hm8, hb1⟩
    have hbb : Hid (Below wz.heap.size wz w1) := (hB _ _ _ _ _ _).trans (hb1.mono (by simp <;> omega))
    clear hb1 hB
    go_wp2_with fail
    refine (decimal_var _ (16 + a) _ (by omega) (by omega)).mono ?_
    rintro e wy ⟨x1, rfl, H1, hx1, rfl⟩
    have f1 : (9223372036854775807 < x1.size + 3) = False := eq_false (by omega)
    go_wp2_with fail
    refine (decimal_var _ (n + 1) _ (by omega) (by omega)).mono ?_
    rintro e wy ⟨x2, rfl, H2, hx2, rfl⟩
    have f2 : (9223372036854775807 < x1.size + 3 + x2.size) = False := eq_false (by omega)
    have f3 : (9223372036854775807 < x1.size + 3 + x2.size + 1) = False := eq_false (by omega)
    go_wp2_with fail
    refine (decimal_var _ 5 _ (by omega) (by omega)).mono ?_
    rintro e wy ⟨x3, rfl, H3, hx3, rfl⟩
    have f4 : (9223372036854775807 < x1.size + 3 + x2.size + 1 + x3.size) = False := eq_false (by omega)
    have f5 : (9223372036854775807 < x1.size + 3 + x2.size + 1 + x3.size + 1) = False := eq_false (by omega)
    go_wp2_with fail
    refine (decimal_var _ (48 - a - (n + 1)) _ (by omega) (by omega)).mono ?_
    rintro e wy ⟨x4, rfl, H4, hx4, rfl⟩
    have f6 : (9223372036854775807 < x1.size + 3 + x2.size + 1 + x3.size + 1 + x4.size) = False := eq_false (by omega)
    have f7 : (9223372036854775807 < x1.size + 3 + x2.size + 1 + x3.size + 1 + x4.size + 2) = False := eq_false (by omega)
    have heq := want_eq H1.out H2.out H3.out H4.out
    go_wp2
    go_ret
    exact ⟨congrArg (fun b => Ending.returned (.bool b)) (beq_iff_eq.2 (of_eq_true heq)), hbb.out⟩
  · go_wp2_with fail
    refine (pick_any column 2 _ (by omega) (by omega) b1 b2).mono ?_
    rintro e wz ⟨c, rfl, hc0, hc1, rfl⟩
    go_wp2_with fail
    refine (pick_any row 2 _ (by omega) (by omega) c1 c2).mono ?_
    rintro e wz ⟨r, rfl, hr0, hr1, rfl⟩
    go_wp2_with fail
    refine (pick_any fr 8 _ (by omega) (by omega) d1 d2).mono ?_
    rintro e wz ⟨ai, rfl, ha0, ha1, rfl⟩
    obtain ⟨a, rfl⟩ := Int.eq_ofNat_of_zero_le ha0
    go_wp2_with fail
    refine (pick_any many (8 - (a : Int)) _ (by omega) (by omega) e1 e2).mono ?_
    rintro e wz ⟨ni, rfl, hn0, hn1, rfl⟩
    obtain ⟨n, rfl⟩ := Int.eq_ofNat_of_zero_le hn0
    have hB : ∀ o1 o2 o3 o4 o5 o6 : Obj, Below wz.heap.size wz ((((((wz.alloc o1).alloc o2).alloc o3).alloc o4).alloc o5).alloc o6) := below_six wz
    clear a1 a2 b1 b2 c1 c2 d1 d2 e1 e2
    go_wp2_with fail
    refine (draw_two _ (wz.heap.size + 1 + 1 + 1 + 1 + 1) (wz.heap.size + 1) (wz.heap.size + 1 + 1 + 1) 1 16 c r 0 (c * 128 + (a : Int) * 16) (r * 128 + 32) (c * 128 + (a : Int) * 16 + (1 + (n : Int)) * 16 - 1) (r * 128 + 32 + 16 - 1) (c * 128 + (a : Int) * 16 + 1) (r * 128 + 32 + 1) a (n + 1) 5 (by simp [ZP]) (by simp) (by omega) (by omega) (by simp) (by omega) (by omega) (by omega) (by omega) (by omega) (by omega) hc0 (by omega) hr0 (by omega) (by omega) (by omega) (by simp) (by simp <;> omega) (by simp <;> omega) (by simp <;> omega) (((hB _ _ _ _ _ _).cell (p := ⟨3, 15, none⟩) hw3).trans Htab.out) (by simp [go_sem]) (by simp [go_sem]) (by simp [go_sem]) (by simp [go_sem]) (by simp [go_sem]) (by simp [go_sem]) (by simp [go_sem]) (by simp [go_sem]) (by simp [go_sem]) (by simp [go_sem]) (by simp [go_sem]) (by simp [go_sem]) (by simp [go_sem]) (by simp [go_sem]) (by simp [go_sem]) (by simp [go_sem]) (by simp [go_sem]) (by simp [go_sem]) (by simp [go_sem]) (by simp [go_sem]) (by simp [go_sem]) (by simp [go_sem])).mono ?_
    rintro e w1 ⟨m, rfl, hm8, hb1⟩
    have hbb : Hid (Below wz.heap.size wz w1) := (hB _ _ _ _ _ _).trans (hb1.mono (by simp <;> omega))
    clear hb1 hB
    go_wp2_with fail
    refine (decimal_var _ (16 + a) _ (by omega) (by omega)).mono ?_
    rintro e wy ⟨x1, rfl, H1, hx1, rfl⟩
    have f1 : (9223372036854775807 < x1.size + 3) = False := eq_false (by omega)
    go_wp2_with fail
    refine (decimal_var _ (n + 1) _ (by omega) (by omega)).mono ?_
    rintro e wy ⟨x2, rfl, H2, hx2, rfl⟩
    have f2 : (9223372036854775807 < x1.size + 3 + x2.size) = False := eq_false (by omega)
    have f3 : (9223372036854775807 < x1.size + 3 + x2.size + 1) = False := eq_false (by omega)
    go_wp2_with fail
    refine (decimal_var _ 5 _ (by omega) (by omega)).mono ?_
    rintro e wy ⟨x3, rfl, H3, hx3, rfl⟩
    have f4 : (9223372036854775807 < x1.size + 3 + x2.size + 1 + x3.size) = False := eq_false (by omega)
    have f5 : (9223372036854775807 < x1.size + 3 + x2.size + 1 + x3.size + 1) = False := eq_false (by omega)
    go_wp2_with fail
    refine (decimal_var _ (48 - a - (n + 1)) _ (by omega) (by omega)).mono ?_
    rintro e wy ⟨x4, rfl, H4, hx4, rfl⟩
    have f6 : (9223372036854775807 < x1.size + 3 + x2.size + 1 + x3.size + 1 + x4.size) = False := eq_false (by omega)
    have f7 : (9223372036854775807 < x1.size + 3 + x2.size + 1 + x3.size + 1 + x4.size + 2) = False := eq_false (by omega)
    have heq := want_eq H1.out H2.out H3.out H4.out
    go_wp2
    go_ret
    exact ⟨congrArg (fun b => Ending.returned (.bool b)) (beq_iff_eq.2 (of_eq_true heq)), hbb.out⟩
  · go_wp2_with fail
    refine (pick_any column 4 _ (by omega) (by omega) b1 b2).mono ?_
    rintro e wz ⟨c, rfl, hc0, hc1, rfl⟩
    go_wp2_with fail
    refine (pick_any row 4 _ (by omega) (by omega) c1 c2).mono ?_
    rintro e wz ⟨r, rfl, hr0, hr1, rfl⟩
    go_wp2_with fail
    refine (pick_any fr 8 _ (by omega) (by omega) d1 d2).mono ?_
    rintro e wz ⟨ai, rfl, ha0, ha1, rfl⟩
    obtain ⟨a, rfl⟩ := Int.eq_ofNat_of_zero_le ha0
    go_wp2_with fail
    refine (pick_any many (8 - (a : Int)) _ (by omega) (by omega) e1 e2).mono ?_
    rintro e wz ⟨ni, rfl, hn0, hn1, rfl⟩
    obtain ⟨n, rfl⟩ := Int.eq_ofNat_of_zero_le hn0
    have hB : ∀ o1 o2 o3 o4 o5 o6 : Obj, Below wz.heap.size wz ((((((wz.alloc o1).alloc o2).alloc o3).alloc o4).alloc o5).alloc o6) := below_six wz
    clear a1 a2 b1 b2 c1 c2 d1 d2 e1 e2
    go_wp2_with fail
    refine (draw_two _ (wz.heap.size + 1 + 1 + 1 + 1 + 1) (wz.heap.size + 1) (wz.heap.size + 1 + 1 + 1) 2 8 c r 0 (c * 64 + (a : Int) * 8) (r * 64 + 16) (c * 64 + (a : Int) * 8 + (1 + (n : Int)) * 8 - 1) (r * 64 + 16 + 8 - 1) (c * 64 + (a : Int) * 8 + 1) (r * 64 + 16 + 1) a (n + 1) 5 (by simp [ZP]) (by simp) (by omega) (by omega) (by simp) (by omega) (by omega) (by omega) (by omega) (by omega) (by omega) hc0 (by omega) hr0 (by omega) (by omega) (by omega) (by simp) (by simp <;> omega) (by simp <;> omega) (by simp <;> omega) (((hB _ _ _ _ _ _).cell (p := ⟨3, 15, none⟩) hw3).trans Htab.out) (by simp [go_sem]) (by simp [go_sem]) (by simp [go_sem]) (by simp [go_sem]) (by simp [go_sem]) (by simp [go_sem]) (by simp [go_sem]) (by simp [go_sem]) (by simp [go_sem]) (by simp [go_sem]) (by simp [go_sem]) (by simp [go_sem]) (by simp [go_sem]) (by simp [go_sem]) (by simp [go_sem]) (by simp [go_sem]) (by simp [go_sem]) (by simp [go_sem]) (by simp [go_sem]) (by simp [go_sem]) (by simp [go_sem]) (by simp [go_sem])).mono ?_
    rintro e w1 ⟨m, rfl, hm8, hb1⟩
    have hbb : Hid (Below wz.heap.size wz w1) := (hB _ _ _ _ _ _).trans (hb1.mono (by simp <;> omega))
    clear hb1 hB
    go_wp2_with fail
    refine (decimal_var _ (16 + a) _ (by omega) (by omega)).mono ?_
    rintro e wy ⟨x1, rfl, H1, hx1, rfl⟩
    have f1 : (9223372036854775807 < x1.size + 3) = False := eq_false (by omega)
    go_wp2_with fail
    refine (decimal_var _ (n + 1) _ (by omega) (by omega)).mono ?_
    rintro e wy ⟨x2, rfl, H2, hx2, rfl⟩
    have f2 : (9223372036854775807 < x1.size + 3 + x2.size) = False := eq_false (by omega)
    have f3 : (9223372036854775807 < x1.size + 3 + x2.size + 1) = False := eq_false (by omega)
    go_wp2_with fail
    refine (decimal_var _ 5 _ (by omega) (by omega)).mono ?_
    rintro e wy ⟨x3, rfl, H3, hx3, rfl⟩
    have f4 : (9223372036854775807 < x1.size + 3 + x2.size + 1 + x3.size) = False := eq_false (by omega)
    have f5 : (9223372036854775807 < x1.size + 3 + x2.size + 1 + x3.size + 1) = False := eq_false (by omega)
    go_wp2_with fail
    refine (decimal_var _ (48 - a - (n + 1)) _ (by omega) (by omega)).mono ?_
    rintro e wy ⟨x4, rfl, H4, hx4, rfl⟩
    have f6 : (9223372036854775807 < x1.size + 3 + x2.size + 1 + x3.size + 1 + x4.size) = False := eq_false (by omega)
    have f7 : (9223372036854775807 < x1.size + 3 + x2.size + 1 + x3.size + 1 + x4.size + 2) = False := eq_false (by omega)
    have heq := want_eq H1.out H2.out H3.out H4.out
    go_wp2
    go_ret
    exact ⟨congrArg (fun b => Ending.returned (.bool b)) (beq_iff_eq.2 (of_eq_true heq)), hbb.out⟩
  · go_wp2_with fail
    refine (pick_any column 8 _ (by omega) (by omega) b1 b2).mono ?_
    rintro e wz ⟨c, rfl, hc0, hc1, rfl⟩
    go_wp2_with fail
    refine (pick_any row 8 _ (by omega) (by omega) c1 c2).mono ?_
    rintro e wz ⟨r, rfl, hr0, hr1, rfl⟩
    go_wp2_with fail
    refine (pick_any fr 8 _ (by omega) (by omega) d1 d2).mono ?_
    rintro e wz ⟨ai, rfl, ha0, ha1, rfl⟩
    obtain ⟨a, rfl⟩ := Int.eq_ofNat_of_zero_le ha0
    go_wp2_with fail
    refine (pick_any many (8 - (a : Int)) _ (by omega) (by omega) e1 e2).mono ?_
    rintro e wz ⟨ni, rfl, hn0, hn1, rfl⟩
    obtain ⟨n, rfl⟩ := Int.eq_ofNat_of_zero_le hn0
    have hB : ∀ o1 o2 o3 o4 o5 o6 : Obj, Below wz.heap.size wz ((((((wz.alloc o1).alloc o2).alloc o3).alloc o4).alloc o5).alloc o6) := below_six wz
    clear a1 a2 b1 b2 c1 c2 d1 d2 e1 e2
    go_wp2_with fail
    refine (draw_two _ (wz.heap.size + 1 + 1 + 1 + 1 + 1) (wz.heap.size + 1) (wz.heap.size + 1 + 1 + 1) 3 4 c r 0 (c * 32 + (a : Int) * 4) (r * 32 + 8) (c * 32 + (a : Int) * 4 + (1 + (n : Int)) * 4 - 1) (r * 32 + 8 + 4 - 1) (c * 32 + (a : Int) * 4 + 1) (r * 32 + 8 + 1) a (n + 1) 5 (by simp [ZP]) (by simp) (by omega) (by omega) (by simp) (by omega) (by omega) (by omega) (by omega) (by omega) (by omega) hc0 (by omega) hr0 (by omega) (by omega) (by omega) (by simp) (by simp <;> omega) (by simp <;> omega) (by simp <;> omega) (((hB _ _ _ _ _ _).cell (p := ⟨3, 15, none⟩) hw3).trans Htab.out) (by simp [go_sem]) (by simp [go_sem]) (by simp [go_sem]) (by simp [go_sem]) (by simp [go_sem]) (by simp [go_sem]) (by simp [go_sem]) (by simp [go_sem]) (by simp [go_sem]) (by simp [go_sem]) (by simp [go_sem]) (by simp [go_sem]) (by simp [go_sem]) (by simp [go_sem]) (by simp [go_sem]) (by simp [go_sem]) (by simp [go_sem]) (by simp [go_sem]) (by simp [go_sem]) (by simp [go_sem]) (by simp [go_sem]) (by simp [go_sem])).mono ?_
    rintro e w1 ⟨m, rfl, hm8, hb1⟩
    have hbb : Hid (Below wz.heap.size wz w1) := (hB _ _ _ _ _ _).trans (hb1.mono (by simp <;> omega))
    clear hb1 hB
    go_wp2_with fail
    refine (decimal_var _ (16 + a) _ (by omega) (by omega)).mono ?_
    rintro e wy ⟨x1, rfl, H1, hx1, rfl⟩
    have f1 : (9223372036854775807 < x1.size + 3) = False := eq_false (by omega)
    go_wp2_with fail
    refine (decimal_var _ (n + 1) _ (by omega) (by omega)).mono ?_
    rintro e wy ⟨x2, rfl, H2, hx2, rfl⟩
    have f2 : (9223372036854775807 < x1.size + 3 + x2.size) = False := eq_false (by omega)
    have f3 : (9223372036854775807 < x1.size + 3 + x2.size + 1) = False := eq_false (by omega)
    go_wp2_with fail
    refine (decimal_var _ 5 _ (by omega) (by omega)).mono ?_
    rintro e wy ⟨x3, rfl, H3, hx3, rfl⟩
    have f4 : (9223372036854775807 < x1.size + 3 + x2.size + 1 + x3.size) = False := eq_false (by omega)
    have f5 : (9223372036854775807 < x1.size + 3 + x2.size + 1 + x3.size + 1) = False := eq_false (by omega)
    go_wp2_with fail
    refine (decimal_var _ (48 - a - (n + 1)) _ (by omega) (by omega)).mono ?_
    rintro e wy ⟨x4, rfl, H4, hx4, rfl⟩
    have f6 : (9223372036854775807 < x1.size + 3 + x2.size + 1 + x3.size + 1 + x4.size) = False := eq_false (by omega)
    have f7 : (9223372036854775807 < x1.size + 3 + x2.size + 1 + x3.size + 1 + x4.size + 2) = False := eq_false (by omega)
    have heq := want_eq H1.out H2.out H3.out H4.out
    go_wp2
    go_ret
    exact ⟨congrArg (fun b => Ending.returned (.bool b)) (beq_iff_eq.2 (of_eq_true heq)), hbb.out⟩

end Go.Proofs.YtenaepdmlknlcaaDoor
