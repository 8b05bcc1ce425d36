import Derived.Test.YtenaepdmlknlcaaGreatDoorF31
import Derived.Test.YtenaepdmlknlcaaGreatDoorF32
namespace Go.Proofs.YtenaepdmlknlcaaGreatDoor
open Go.RowKit Go.Shelf

def delT (i : Int) : ByteArray := ⟨#[100, 101, 108, 32]⟩ ++ decZ i
def getT (t : Tl) : ByteArray := ⟨#[103, 101, 116, 32]⟩ ++ decZ t.z ++ ⟨#[32]⟩ ++ decZ t.c ++ ⟨#[32]⟩ ++ decZ t.r

set_option maxRecDepth 100000 in
set_option maxHeartbeats 2000000 in
theorem text_del (q : Rq) (hq : RqOk q) (hkd : kindZ q = 1) (pa : Option Addr) (pn pc : Nat) (w : World) :
    Calls Tryz.prog 45 #[rqV q (.slice pa pn pc)] w fun e w' => e = .returned (.string (delT (1 + pkZ q.a 6))) ∧ Below w.heap.size w w' := by
  have HK : Hid (∀ W : World, Calls Tryz.prog 46 #[rqV q (.slice pa pn pc)] W fun e w' => e = .returned (.int .i64 1) ∧ Below W.heap.size W w') := fun W => by rw [← hkd]; exact qkind_any q hq pa pn pc W
  have HC1 : Hid (∀ W : World, Calls Tryz.prog 28 #[.int .i64 q.a, .int .i64 6] W fun e w' => e = .returned (.int .i64 (pkZ q.a 6)) ∧ w' = W) := fun W => kpick_any q.a 6 hq.a (by decide) (by decide) W
  obtain ⟨a0, a1⟩ := pkZ_bd q.a 6 (by decide)
  obtain ⟨x, hx⟩ : ∃ x, pkZ q.a 6 = x := ⟨_, rfl⟩
  rw [hx] at HC1 a0 a1
  rw [hx]
  have HD : Hid (∀ W : World, Calls Tryz.prog 21 #[.int .i64 (1 + x)] W fun e w' => e = .returned (.string (decZ (1 + x))) ∧ w' = W) := fun W => decimal_any (1 + x) (by omega) (by omega) W
  have hsz := decZ_size (n := 1 + x) (by omega) (by omega)
  unfold delT
  obtain ⟨s, hs⟩ : ∃ s, decZ (1 + x) = s := ⟨_, rfl⟩
  rw [hs] at HD hsz
  rw [hs]
  have hw1 : IntKind.i64.wrap (1 + x) = 1 + x := by rw [IntKind.wrap_i64]; omega
  have hcat : (9223372036854775807 < 4 + s.size) = False := eq_false (by omega)
  obtain ⟨qk, qa, qb, qc, qd, qps⟩ := q
  dsimp only [rqV] at *
  clear hq hkd hx
  go_enter Tryz.func45, Tryz.ntmps45
  go_wp2_with (first
    | (go_at_call 46; refine Calls.mono (HK.out _) ?_; rintro e w1 ⟨rfl, hb1⟩; dsimp only; have k1 : w1.cell? ⟨w.heap.size, 1, none⟩ = some (.int .i64 qa) := (hb1.cell (p := ⟨w.heap.size, 1, none⟩) (by simp)).trans (by simp [go_sem]); have hB1 : Below w.heap.size w w1 := ((Below.refl _ _).alloc (Nat.le_refl _) _).trans (hb1.mono (by simp)))
    | (go_at_call 28; refine Calls.mono (HC1.out _) ?_; rintro e w2 ⟨rfl, rfl⟩; dsimp only)
    | (go_at_call 21; refine Calls.mono (HD.out _) ?_; rintro e w2 ⟨rfl, rfl⟩; dsimp only))
  go_ret
  exact ⟨rfl, hB1⟩

set_option maxRecDepth 100000 in
set_option maxHeartbeats 2000000 in
theorem text_get (q : Rq) (hq : RqOk q) (hkd : kindZ q = 2) (pa : Option Addr) (pn pc : Nat) (w : World) :
    Calls Tryz.prog 45 #[rqV q (.slice pa pn pc)] w fun e w' => e = .returned (.string (getT (tileZ q))) ∧ Below w.heap.size w w' := by
  have HK : Hid (∀ W : World, Calls Tryz.prog 46 #[rqV q (.slice pa pn pc)] W fun e w' => e = .returned (.int .i64 2) ∧ Below W.heap.size W w') := fun W => by rw [← hkd]; exact qkind_any q hq pa pn pc W
  have HT : Hid (∀ W : World, Calls Tryz.prog 20 #[rqV q (.slice pa pn pc)] W fun e w' => e = .returned (.agg #[.int .i64 (tileZ q).z, .int .i64 (tileZ q).c, .int .i64 (tileZ q).r]) ∧ Below W.heap.size W w') := fun W => qtile_any q hq pa pn pc W
  obtain ⟨z0, z1, c0, c1, r0, r1⟩ : 0 ≤ (tileZ q).z ∧ (tileZ q).z ≤ 3 ∧ 0 ≤ (tileZ q).c ∧ (tileZ q).c ≤ 7 ∧ 0 ≤ (tileZ q).r ∧ (tileZ q).r ≤ 7 := by
    obtain ⟨h0, h1⟩ := pkZ_bd q.a 4 (by decide)
    have hp : 0 < powZ (pkZ q.a 4) ∧ powZ (pkZ q.a 4) ≤ 8 := by unfold powZ; split <;> (try split) <;> (try split) <;> omega
    obtain ⟨h2, h3⟩ := pkZ_bd q.b _ hp.1
    obtain ⟨h4, h5⟩ := pkZ_bd q.c _ hp.1
    simp only [tileZ]
    omega
  obtain ⟨T, hT⟩ : ∃ T, tileZ q = T := ⟨_, rfl⟩
  rw [hT] at HT z0 z1 c0 c1 r0 r1
  rw [hT]
  clear hT
  obtain ⟨x, y, z⟩ := T
  dsimp only at HT z0 z1 c0 c1 r0 r1
  have HD1 : Hid (∀ W : World, Calls Tryz.prog 21 #[.int .i64 x] W fun e w' => e = .returned (.string (decZ x)) ∧ w' = W) := fun W => decimal_any x (by omega) (by omega) W
  have HD2 : Hid (∀ W : World, Calls Tryz.prog 21 #[.int .i64 y] W fun e w' => e = .returned (.string (decZ y)) ∧ w' = W) := fun W => decimal_any y (by omega) (by omega) W
  have HD3 : Hid (∀ W : World, Calls Tryz.prog 21 #[.int .i64 z] W fun e w' => e = .returned (.string (decZ z)) ∧ w' = W) := fun W => decimal_any z (by omega) (by omega) W
  have hsz1 := decZ_size (n := x) (by omega) (by omega)
  have hsz2 := decZ_size (n := y) (by omega) (by omega)
  have hsz3 := decZ_size (n := z) (by omega) (by omega)
  unfold getT
  dsimp only
  obtain ⟨s1, hs1⟩ : ∃ s, decZ x = s := ⟨_, rfl⟩
  obtain ⟨s2, hs2⟩ : ∃ s, decZ y = s := ⟨_, rfl⟩
  obtain ⟨s3, hs3⟩ : ∃ s, decZ z = s := ⟨_, rfl⟩
  rw [hs1] at HD1 hsz1
  rw [hs2] at HD2 hsz2
  rw [hs3] at HD3 hsz3
  rw [hs1, hs2, hs3]
  have hcat1 : (9223372036854775807 < 4 + s1.size) = False := eq_false (by omega)
  have hcat2 : (9223372036854775807 < 4 + s1.size + 1) = False := eq_false (by omega)
  have hcat3 : (9223372036854775807 < 4 + s1.size + 1 + s2.size) = False := eq_false (by omega)
  have hcat4 : (9223372036854775807 < 4 + s1.size + 1 + s2.size + 1) = False := eq_false (by omega)
  have hcat5 : (9223372036854775807 < 4 + s1.size + 1 + s2.size + 1 + s3.size) = False := eq_false (by omega)
  obtain ⟨qk, qa, qb, qc, qd, qps⟩ := q
  dsimp only [rqV] at *
  clear hq hkd
  go_enter Tryz.func45, Tryz.ntmps45
  go_wp2_with (first
    | (go_at_call 46; refine Calls.mono (HK.out _) ?_; rintro e w1 ⟨rfl, hb1⟩; dsimp only; have hc : ∀ i v, (w.alloc _).cell? ⟨w.heap.size, i, none⟩ = some v → w1.cell? ⟨w.heap.size, i, none⟩ = some v := (fun i v h => (hb1.cell (p := ⟨w.heap.size, i, none⟩) (by simp)).trans h); have k0 := hc 0 (.int .i64 qk) (by simp [go_sem]); have k1 := hc 1 (.int .i64 qa) (by simp [go_sem]); have k2 := hc 2 (.int .i64 qb) (by simp [go_sem]); have k3 := hc 3 (.int .i64 qc) (by simp [go_sem]); have k4 := hc 4 (.int .i64 qd) (by simp [go_sem]); have k5 := hc 5 (.slice pa pn pc) (by simp [go_sem]); clear hc; have hB1 : Below w.heap.size w w1 := ((Below.refl _ _).alloc (Nat.le_refl _) _).trans (hb1.mono (by simp)))
    | (go_at_call 20; refine Calls.mono (HT.out _) ?_; rintro e w2 ⟨rfl, hb2⟩; dsimp only; have hB2 := hB1.trans (hb2.mono hB1.size)))
  go_region_held3 (fun w' => w'.cell? ⟨w2.heap.size, 0, none⟩ = some (.int .i64 x) ∧ w'.cell? ⟨w2.heap.size, 1, none⟩ = some (.int .i64 y) ∧ w'.cell? ⟨w2.heap.size, 2, none⟩ = some (.int .i64 z)) (first | (simp [go_sem]; done) | (simp [go_sem, *]; done))
      (first
        | (go_at_call_of 21 (Value.int IntKind.i64 x); refine Calls.mono (HD1.out _) ?_; rintro e w3 ⟨rfl, rfl⟩; dsimp only)
        | (go_at_call_of 21 (Value.int IntKind.i64 y); refine Calls.mono (HD2.out _) ?_; rintro e w3 ⟨rfl, rfl⟩; dsimp only)
        | (go_at_call_of 21 (Value.int IntKind.i64 z); refine Calls.mono (HD3.out _) ?_; rintro e w3 ⟨rfl, rfl⟩; dsimp only))
  all_goals
    go_wp2
    go_ret
    exact ⟨rfl, (hB2.alloc hB2.size _).drew⟩

end Go.Proofs.YtenaepdmlknlcaaGreatDoor

namespace Go.Proofs.YtenaepdmlknlcaaGreatDoor
open Go.RowKit Go.Shelf

def stepT (s : ByteArray) (p : Int × Int) : ByteArray := s ++ ⟨#[32]⟩ ++ decZ p.1 ++ ⟨#[44]⟩ ++ decZ p.2
def kindB (k : Int) : ByteArray := if k = 1 then ⟨#[112, 111, 105, 110, 116]⟩ else if k = 2 then ⟨#[108, 105, 110, 101]⟩ else ⟨#[97, 114, 101, 97]⟩
def headT (f : Feat) : ByteArray := ⟨#[112, 117, 116, 32]⟩ ++ decZ f.id ++ ⟨#[32]⟩ ++ kindB f.kd ++ ⟨#[32]⟩ ++ decZ f.ht ++ ⟨#[32]⟩ ++ decZ f.col
def putT (f : Feat) : ByteArray := f.ps.foldl stepT (headT f)
def textT (q : Rq) : ByteArray := if kindZ q = 0 then putT (featZ q) else if kindZ q = 1 then delT (1 + pkZ q.a 6) else getT (tileZ q)
theorem RawAt.below {w W : World} {pa : Option Addr} {pn : Nat} {ps : List Int} (h : RawAt w pa pn ps) (hb : Below w.heap.size w W) : RawAt W pa pn ps :=
  ⟨h.1, h.2.imp id fun ⟨b, off, e, hl, hc⟩ => ⟨b, off, e, Nat.lt_of_lt_of_le hl hb.size, fun i x e' => (hb.cell (p := ⟨b, off + i, none⟩) hl).trans (hc i x e')⟩⟩
theorem stepT_size {s : ByteArray} {p : Int × Int} (h : 0 ≤ p.1 ∧ p.1 ≤ 255 ∧ 0 ≤ p.2 ∧ p.2 ≤ 255) : (stepT s p).size ≤ s.size + 10 := by
  have h1 := decZ_size (n := p.1) (by omega) (by omega)
  have h2 := decZ_size (n := p.2) (by omega) (by omega)
  have e : (stepT s p).size = s.size + 1 + (decZ p.1).size + 1 + (decZ p.2).size := by
    unfold stepT
    simp only [ByteArray.size_append]
    rfl
  omega
theorem fold_size (ps : Pts) (h : ∀ p ∈ ps, 0 ≤ p.1 ∧ p.1 ≤ 255 ∧ 0 ≤ p.2 ∧ p.2 ≤ 255) (s : ByteArray) : (ps.foldl stepT s).size ≤ s.size + 10 * ps.length := by
  induction ps generalizing s with
  | nil => simp
  | cons p r ih =>
    have h1 := stepT_size (s := s) (h p (by simp))
    have h2 := ih (fun x hx => h x (by simp [hx])) (stepT s p)
    simp only [List.foldl_cons, List.length_cons]
    omega
theorem kindB_size (k : Int) : (kindB k).size ≤ 5 := by
  unfold kindB
  split
  · exact Nat.le_refl 5
  · split
    · exact show (4 : Nat) ≤ 5 by omega
    · exact show (4 : Nat) ≤ 5 by omega
theorem headT_size {f : Feat} (h1 : 0 ≤ f.id ∧ f.id ≤ 9) (h2 : -9 ≤ f.ht ∧ f.ht ≤ 9) (h3 : 0 ≤ f.col ∧ f.col ≤ 9) : (headT f).size ≤ 30 := by
  have a1 := decZ_size (n := f.id) (by omega) (by omega)
  have a2 := decZ_size (n := f.ht) (by omega) (by omega)
  have a3 := decZ_size (n := f.col) (by omega) (by omega)
  have a4 := kindB_size f.kd
  have e : (headT f).size = 4 + (decZ f.id).size + 1 + (kindB f.kd).size + 1 + (decZ f.ht).size + 1 + (decZ f.col).size := by
    unfold headT
    simp only [ByteArray.size_append]
    rfl
  omega
theorem featZ_bd (q : Rq) : (1 ≤ (featZ q).id ∧ (featZ q).id ≤ 6) ∧ (1 ≤ (featZ q).kd ∧ (featZ q).kd ≤ 3) ∧ (-9 ≤ (featZ q).ht ∧ (featZ q).ht ≤ 9) ∧ (1 ≤ (featZ q).col ∧ (featZ q).col ≤ 9) ∧ (featZ q).ps.length ≤ 6 ∧ ∀ p ∈ (featZ q).ps, 0 ≤ p.1 ∧ p.1 ≤ 255 ∧ 0 ≤ p.2 ∧ p.2 ≤ 255 := by
  obtain ⟨a0, a1⟩ := pkZ_bd q.a 6 (by decide)
  obtain ⟨b0, b1⟩ := pkZ_bd q.b 3 (by decide)
  obtain ⟨c0, c1⟩ := pkZ_bd q.c 19 (by decide)
  obtain ⟨d0, d1⟩ := pkZ_bd q.d 9 (by decide)
  refine ⟨⟨show 1 ≤ 1 + _ by omega, show 1 + _ ≤ 6 by omega⟩, ⟨show 1 ≤ 1 + _ by omega, show 1 + _ ≤ 3 by omega⟩, ⟨show -9 ≤ _ - 9 by omega, show _ - 9 ≤ 9 by omega⟩, ⟨show 1 ≤ 1 + _ by omega, show 1 + _ ≤ 9 by omega⟩, ?_, ?_⟩
  · simp [featZ]; exact nPl_le q
  · intro p hp
    simp only [featZ, List.mem_map] at hp
    obtain ⟨i, _, rfl⟩ := hp
    exact place_bd _
theorem textT_size (q : Rq) : (textT q).size ≤ 200 := by
  obtain ⟨h1, h2, h3, h4, h5, h6⟩ := featZ_bd q
  unfold textT
  split
  · have := fold_size (featZ q).ps h6 (headT (featZ q))
    have := headT_size (f := featZ q) ⟨by omega, by omega⟩ h3 ⟨by omega, by omega⟩
    unfold putT
    omega
  · split
    · obtain ⟨a0, a1⟩ := pkZ_bd q.a 6 (by decide)
      have := decZ_size (n := 1 + pkZ q.a 6) (by omega) (by omega)
      have e : (delT (1 + pkZ q.a 6)).size = 4 + (decZ (1 + pkZ q.a 6)).size := by
        unfold delT
        simp only [ByteArray.size_append]
        rfl
      omega
    · obtain ⟨h0, h1⟩ := pkZ_bd q.a 4 (by decide)
      have hp : 0 < powZ (pkZ q.a 4) ∧ powZ (pkZ q.a 4) ≤ 8 := by unfold powZ; split <;> (try split) <;> (try split) <;> omega
      obtain ⟨h2, h3⟩ := pkZ_bd q.b _ hp.1
      obtain ⟨h4, h5⟩ := pkZ_bd q.c _ hp.1
      have b1 := decZ_size (n := (tileZ q).z) (by simp only [tileZ]; omega) (by simp only [tileZ]; omega)
      have b2 := decZ_size (n := (tileZ q).c) (by simp only [tileZ]; omega) (by simp only [tileZ]; omega)
      have b3 := decZ_size (n := (tileZ q).r) (by simp only [tileZ]; omega) (by simp only [tileZ]; omega)
      have e : (getT (tileZ q)).size = 4 + (decZ (tileZ q).z).size + 1 + (decZ (tileZ q).c).size + 1 + (decZ (tileZ q).r).size := by
        unfold getT
        simp only [ByteArray.size_append]
        rfl
      omega

end Go.Proofs.YtenaepdmlknlcaaGreatDoor
