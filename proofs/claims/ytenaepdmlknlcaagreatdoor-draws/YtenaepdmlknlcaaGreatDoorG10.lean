import Derived.Test.YtenaepdmlknlcaaGreatDoorG04
import Derived.Test.YtenaepdmlknlcaaGreatDoorG06
import Derived.Test.YtenaepdmlknlcaaGreatDoorG09
import Derived.Deep.QuietTactic
import Derived.BigQuiet
namespace Go.Proofs.YtenaepdmlknlcaaGreatDoor
open Go.RowKit

def FeatsO (w : World) (a : Option Addr) (vs : List FV) : Prop := vs = [] ∨ ∃ b off, a = some ⟨b, off, none⟩ ∧ FeatsAt w b off vs

theorem FeatsAt.below {A B : World} (h : Below A.heap.size A B) {b off : Nat} {vs : List FV} (f : FeatsAt A b off vs) : FeatsAt B b off vs := by
  obtain ⟨hc, _⟩ := bcell h
  refine ⟨Nat.lt_of_lt_of_le f.1 h.size, fun i v e => ?_⟩
  obtain ⟨⟨c0, c1, c2, c3, c4⟩, g1, g2, g3, g4⟩ := f.2 i v e
  exact ⟨⟨(hc _ _ f.1).trans c0, (hc _ _ f.1).trans c1, (hc _ _ f.1).trans c2, (hc _ _ f.1).trans c3, (hc _ _ f.1).trans c4⟩, g1, Nat.lt_of_lt_of_le g2 h.size, g3, fun k x y q => ⟨(hc _ _ g2).trans (g4 k x y q).1, (hc _ _ g2).trans (g4 k x y q).2⟩⟩
theorem FeatsO.below {A B : World} (h : Below A.heap.size A B) {a : Option Addr} {vs : List FV} (f : FeatsO A a vs) : FeatsO B a vs :=
  f.elim .inl fun ⟨b, off, e, p⟩ => .inr ⟨b, off, e, p.below h⟩

theorem FeatsAt.get {w : World} {b off : Nat} {vs : List FV} (h : FeatsAt w b off vs) {k : Nat} {v : FV} (hv : vs[k]? = some v) :
    ∃ (id kd ht col : Int) (pb po n cap : Nat) (ps : Pts), v = ⟨⟨id, kd, ht, col, ps⟩, pb, po, cap⟩ ∧ n = ps.length ∧ w.cell? ⟨b, off + k * 5, none⟩ = some (.int .i64 id) ∧ w.cell? ⟨b, off + k * 5 + 1, none⟩ = some (.int .i64 kd) ∧ w.cell? ⟨b, off + k * 5 + 2, none⟩ = some (.int .i64 ht) ∧ w.cell? ⟨b, off + k * 5 + 3, none⟩ = some (.int .i64 col) ∧ w.cell? ⟨b, off + k * 5 + 4, none⟩ = some (.slice (some ⟨pb, po, none⟩) n cap) ∧ Places w.heap.size w pb po ps ∧ mayB kd n = true ∧ ps.all inW = true ∧ n ≤ cap := by
  obtain ⟨⟨c0, c1, c2, c3, c4⟩, g1, g2, g3, g4⟩ := h.2 k v hv
  obtain ⟨⟨id, kd, ht, col, ps⟩, pb, po, cap⟩ := v
  simp only [validF, Bool.and_eq_true] at g1
  exact ⟨id, kd, ht, col, pb, po, ps.length, cap, ps, rfl, rfl, c0, c1, c2, c3, c4, ⟨g2, g4⟩, g1.1.2, g1.2, g3⟩

theorem top_succ (x : Bx) {vs : List FV} {k : Nat} {v : FV} (h : vs[k]? = some v) : topOf x (vs.take (k + 1)) = pickV x (topOf x (vs.take k)) v := by
  rw [topOf, topOf, List.take_add_one, h, List.foldl_append]
  rfl

/-- Which place, and what it holds. -/
def BestAt (x : Bx) (vs : List FV) (k : Nat) (best : Int) : Prop := (best = -1 ∧ topOf x (vs.take k) = none) ∨ ∃ (j : Nat) (u : FV), j < k ∧ best = (j : Int) ∧ vs[j]? = some u ∧ topOf x (vs.take k) = some u

set_option maxRecDepth 100000 in
set_option maxHeartbeats 4000000 in
theorem rcolour_any (a : Option Addr) (n cap : Nat) (vs : List FV) (x y p : Int) (w : World) (hf : FeatsO w a vs) (hn : n = vs.length) (hn2 : n ≤ 1000000000000000)
    (h5 : 0 ≤ x) (h6 : 0 ≤ y) (h7 : 0 ≤ p) (g5 : x ≤ 300) (g6 : y ≤ 300) (g7 : p ≤ 300) :
    Calls Tryz.prog 107 #[.slice a n cap, .int .i64 x, .int .i64 y, .int .i64 p] w fun e w' => e = .returned (.int .i64 (tcol (topOf ⟨x, y, x + p, y + p⟩ vs))) ∧ Below w.heap.size w w' := by
  have Hn : Hid (n = vs.length) := hn
  have Hf : Hid (FeatsO w a vs) := hf
  clear hn hf
  go_enter Tryz.func107, Tryz.ntmps107
  go_wp2
  go_loopw [9, 10] (fun bt i wr => ∃ (k : Nat) (best : Int), k ≤ n ∧ i = .int .i64 (k : Int) ∧ bt = .int .i64 best ∧ Hid (BestAt ⟨x, y, x + p, y + p⟩ vs k best) ∧ Below w.heap.size w wr) (fun _ i _ => n - (intOf i).toNat)
  case atStart => exact ⟨0, -1, by omega, rfl, rfl, Or.inl ⟨rfl, by simp [topOf]⟩, Below.refl _ _⟩
  case round =>
    obtain ⟨k, best, hk, rfl, rfl, HB, hBw⟩ := hrel
    have hsz := hBw.size
    by_cases hlt : k < n
    · have HfR : Hid (FeatsO wr a vs) := Hf.out.below hBw
      obtain ⟨v, hv⟩ : ∃ v, vs[k]? = some v := ⟨vs[k]'(by rw [← Hn.out]; exact hlt), List.getElem?_eq_getElem _⟩
      obtain ⟨b, off, rfl, hF⟩ := HfR.out.resolve_left (fun e => by rw [e] at hv; simp at hv)
      have HF : Hid (FeatsAt wr b off vs) := hF
      have hbw := hF.1
      obtain ⟨id, kd, ht, col, pb, po, m, pcap, ps, ev, hm, c0, c1, c2, c3, c4, hP, hmay, hall, hcap⟩ := hF.get hv
      have HS : Hid (topOf ⟨x, y, x + p, y + p⟩ (vs.take (k + 1)) = pickV ⟨x, y, x + p, y + p⟩ (topOf ⟨x, y, x + p, y + p⟩ (vs.take k)) v) := top_succ _ hv
      have Hv : Hid (vs[k]? = some v) := hv
      have HC : Hid (∀ W : World, Below wr.heap.size wr W → Calls Tryz.prog 141 #[.agg #[.int .i64 id, .int .i64 kd, .int .i64 ht, .int .i64 col, .slice (some ⟨pb, po, none⟩) m pcap], .int .i64 x, .int .i64 y, .int .i64 p] W fun e w' => e = .returned (.bool (coverB kd ps x y (x + p) (y + p))) ∧ Below W.heap.size W w') := fun W hW => by
        have := rCovers_any id kd ht col pb po m pcap ps x y p W ((hP.below hW).mono hW.size) hm hmay hall h5 h6 h7 g5 g6 g7
        rw [cover_eq _ _ _ _ _ h7 (by rw [← hm]; exact hmay)] at this
        exact this
      have HE : Hid (v = ⟨⟨id, kd, ht, col, ps⟩, pb, po, pcap⟩) := ev
      clear hF hv hP hmay hall ev hm hcap HfR
      have hk2 : ((k : Int)).toNat = k := by omega
      have hk3 : (k : Int) < (n : Int) := by omega
      have hbest : Hid (best = -1 ∨ ∃ j : Nat, j < k ∧ best = (j : Int)) := by
        rcases HB.out with ⟨h, _⟩ | ⟨j, u, h1, h2, _⟩
        · exact .inl h
        · exact .inr ⟨j, h1, h2⟩
      go_upto_region 6 with (go_at_call 141; refine Calls.mono (HC.out _ (by first | exact Below.refl _ _ | exact (Below.refl _ _).drew)) ?_; rintro e w2 ⟨rfl, hb2⟩)
      obtain ⟨hc2, hf2⟩ := bcell hb2
      have hB2 : Below w.heap.size w w2 := hBw.trans (hb2.mono hsz)
      have hs2 := hb2.size
      by_cases hcov : coverB kd ps x y (x + p) (y + p) = true
      · rw [hcov]
        rcases HB.out with ⟨rfl, htop⟩ | ⟨j, u, hj, rfl, hu, htop⟩
        · have HR : Hid (BestAt ⟨x, y, x + p, y + p⟩ vs (k + 1) (k : Int)) := by
            refine Or.inr ⟨k, v, by omega, rfl, Hv.out, ?_⟩
            rw [HS.out, htop, pickV, HE.out]
            simp only [hcov, if_true]
          clear HS htop HE Hv HC HB hbest
          go_quiet (fail)
          go_wp2
          go_roundw
          case rel => exact ⟨k + 1, (k : Int), by omega, by go_num, by go_num, HR, below_drewN hB2 _⟩
          case measure => simp [intOf]; omega
        · obtain ⟨id', kd', ht', col', pb', po', m', pcap', ps', ev', hm', d0, d1, d2, d3, d4, hP', hmay', hall', hcap'⟩ := HF.out.get hu
          have HSp : Hid (topOf ⟨x, y, x + p, y + p⟩ (vs.take (k + 1)) = if aboveB ht id ht' id' then some v else some u) := by
            show topOf _ _ = _
            rw [HS.out, htop, pickV, HE.out, ev']
            simp only [hcov, if_true]
          have Hu : Hid (vs[j]? = some u) := hu
          have HN : Hid (aboveB ht id ht' id' = true → BestAt ⟨x, y, x + p, y + p⟩ vs (k + 1) (k : Int)) := fun h => Or.inr ⟨k, v, by omega, rfl, Hv.out, by rw [HSp.out, h]; rfl⟩
          have HO : Hid (aboveB ht id ht' id' = false → BestAt ⟨x, y, x + p, y + p⟩ vs (k + 1) (j : Int)) := fun h => Or.inr ⟨j, u, by omega, rfl, Hu.out, by rw [HSp.out, h]; rfl⟩
          have e2 := (hc2 b (off + k * 5 + 2) hbw).trans c2
          have e0 := (hc2 b (off + k * 5) hbw).trans c0
          have f2 := (hc2 b (off + j * 5 + 2) hbw).trans d2
          have f0 := (hc2 b (off + j * 5) hbw).trans d0
          have hj2 : ((j : Int)).toNat = j := by omega
          have hj3 : (j : Int) < (n : Int) := by omega
          have hj0 : decide ((j : Int) < 0) = false := by simp
          clear HS htop HE Hv HC HB hbest ev' hm' d0 d1 d2 d3 d4 hP' hmay' hall' hcap' hu HSp Hu c0 c1 c2 c3 c4 hc2 hf2 HF hcov
          by_cases t1 : ht' < ht
          · have HR := HN.out (by simp only [aboveB]; rw [if_neg (by omega)]; simpa using t1)
            have HR : Hid (BestAt ⟨x, y, x + p, y + p⟩ vs (k + 1) (k : Int)) := HR
            clear HN HO
            go_quiet (fail)
            go_wp2
            go_roundw
            case rel => exact ⟨k + 1, (k : Int), by omega, by go_num, by go_num, HR, below_drewN hB2 _⟩
            case measure => simp [intOf]; omega
          · have t1' : decide (ht' < ht) = false := by simpa using t1
            by_cases t2 : ht = ht'
            · subst t2
              by_cases t3 : id' < id
              · have HR : Hid (BestAt ⟨x, y, x + p, y + p⟩ vs (k + 1) (k : Int)) := HN.out (by simp only [aboveB, if_true]; simpa using t3)
                clear HN HO
                go_quiet (fail)
                go_wp2
                go_roundw
                case rel => exact ⟨k + 1, (k : Int), by omega, by go_num, by go_num, HR, below_drewN hB2 _⟩
                case measure => simp [intOf]; omega
              · have t3' : decide (id' < id) = false := by simpa using t3
                have HR : Hid (BestAt ⟨x, y, x + p, y + p⟩ vs (k + 1) (j : Int)) := HO.out (by simp only [aboveB, if_true]; exact t3')
                clear HN HO
                go_quiet (fail)
                go_wp2
                go_roundw
                case rel => exact ⟨k + 1, (j : Int), by omega, by go_num, by go_num, HR, below_drewN hB2 _⟩
                case measure => simp [intOf]; omega
            · have t2' : decide (ht = ht') = false := by simpa using t2
              have HR : Hid (BestAt ⟨x, y, x + p, y + p⟩ vs (k + 1) (j : Int)) := HO.out (by simp only [aboveB]; rw [if_neg t2]; exact t1')
              clear HN HO
              go_quiet (fail)
              go_wp2
              go_roundw
              case rel => exact ⟨k + 1, (j : Int), by omega, by go_num, by go_num, HR, below_drewN hB2 _⟩
              case measure => simp [intOf]; omega
      · have hcov' : coverB kd ps x y (x + p) (y + p) = false := by simpa using hcov
        have HR : Hid (BestAt ⟨x, y, x + p, y + p⟩ vs (k + 1) best) := by
          have e : topOf ⟨x, y, x + p, y + p⟩ (vs.take (k + 1)) = topOf ⟨x, y, x + p, y + p⟩ (vs.take k) := by
            rw [HS.out, HE.out]
            generalize topOf ⟨x, y, x + p, y + p⟩ (vs.take k) = o
            simp [pickV, hcov']
          rcases HB.out with ⟨h1, h2⟩ | ⟨j, u, h1, h2, h3, h4⟩
          · exact Or.inl ⟨h1, e.trans h2⟩
          · exact Or.inr ⟨j, u, by omega, h2, h3, e.trans h4⟩
        rw [hcov']
        clear hcov hcov' HS HE Hv HC HB hbest HF
        go_quiet (fail)
        go_wp2
        go_roundw
        case rel => exact ⟨k + 1, best, by omega, by go_num, by go_num, HR, below_drewN hB2 _⟩
        case measure => simp [intOf]; omega
    · have HK : Hid (vs.take k = vs) := by
        show vs.take k = vs
        rw [show k = vs.length by have := Hn.out; omega, List.take_length]
      rcases HB.out with ⟨rfl, htop⟩ | ⟨j, u, hj, rfl, hu, htop⟩
      · have HT : Hid (tcol (topOf ⟨x, y, x + p, y + p⟩ vs) = 0) := by
          have h := htop
          rw [HK.out] at h
          show tcol _ = 0
          rw [h]; rfl
        clear htop HK
        go_wp2
        go_ret
        exact ⟨ret_int HT.out.symm, hBw⟩
      · have HfR : Hid (FeatsO wr a vs) := Hf.out.below hBw
        obtain ⟨b, off, rfl, hF⟩ := HfR.out.resolve_left (fun e => by rw [e] at hu; simp at hu)
        obtain ⟨id', kd', ht', col', pb', po', m', pcap', ps', ev', hm', d0, d1, d2, d3, d4, hP', hmay', hall', hcap'⟩ := hF.get hu
        have HT : Hid (tcol (topOf ⟨x, y, x + p, y + p⟩ vs) = col') := by
          have h := htop
          rw [HK.out] at h
          show tcol _ = col'
          rw [h, ev']; rfl
        have hj2 : ((j : Int)).toNat = j := by omega
        have hj3 : (j : Int) < (n : Int) := by omega
        clear htop HK hF HfR hu ev' hm' d0 d1 d2 d4 hP' hmay' hall' hcap' Hf HB
        go_wp2
        go_ret
        exact ⟨ret_int HT.out.symm, hBw⟩

end Go.Proofs.YtenaepdmlknlcaaGreatDoor

namespace Go.Proofs.YtenaepdmlknlcaaGreatDoor
open Go.RowKit

def dch (d : Nat) : UInt8 := UInt8.ofNat (if d < 10 then 48 + d else 87 + d)
/-- The digits of a number. -/
def digs (b n : Nat) : List UInt8 := if _h : n < b ∨ b < 2 then [dch n] else digs b (n / b) ++ [dch (n % b)]
termination_by n
decreasing_by exact Nat.div_lt_self (by omega) (by omega)
/-- None for nothing. -/
def digz (b n : Nat) : List UInt8 := if n = 0 then [] else digs b n
theorem digz_step {b n : Nat} (hb : 2 ≤ b) (hn : 0 < n) : digz b n = digz b (n / b) ++ [dch (n % b)] := by
  rw [digz, if_neg (by omega), digs]
  by_cases h : n < b
  · rw [dif_pos (.inl h), digz, Nat.div_eq_of_lt h, if_pos rfl, Nat.mod_eq_of_lt h]; rfl
  · rw [dif_neg (by omega), digz, if_neg (by have := Nat.div_pos (by omega : b ≤ n) (by omega); omega)]
theorem digs_step {b n : Nat} (hb : 2 ≤ b) : digs b n = digz b (n / b) ++ [dch (n % b)] := by
  rw [digs]
  by_cases h : n < b
  · rw [dif_pos (.inl h), digz, Nat.div_eq_of_lt h, if_pos rfl, Nat.mod_eq_of_lt h]; rfl
  · rw [dif_neg (by omega), digz, if_neg (by have := Nat.div_pos (by omega : b ≤ n) (by omega); omega)]

abbrev hexT : ByteArray := ⟨#[48, 49, 50, 51, 52, 53, 54, 55, 56, 57, 97, 98, 99, 100, 101, 102]⟩

theorem hex_at (d : Nat) (hd : d < 16) : hexT.extract d (d + 1) = ⟨[dch d].toArray⟩ := by
  match d, hd with
  | 0, _ => rfl
  | 1, _ => rfl
  | 2, _ => rfl
  | 3, _ => rfl
  | 4, _ => rfl
  | 5, _ => rfl
  | 6, _ => rfl
  | 7, _ => rfl
  | 8, _ => rfl
  | 9, _ => rfl
  | 10, _ => rfl
  | 11, _ => rfl
  | 12, _ => rfl
  | 13, _ => rfl
  | 14, _ => rfl
  | 15, _ => rfl
  | _ + 16, h => omega

set_option maxRecDepth 100000 in
set_option maxHeartbeats 1000000 in
theorem digits_any (n b : Nat) (w : World) (hn : n < 9223372036854775808) (hb : 2 ≤ b) (hb2 : b ≤ 16) :
    Calls Tryz.prog 108 #[.int .i64 (n : Int), .int .i64 (b : Int)] w fun e w' => e = .returned (.string ⟨(digs b n).toArray⟩) ∧ ∃ q, w' = w.drewN q := by
  have hbz : (b : Int) ≠ 0 := by omega
  have hr : n % b < 16 := Nat.lt_of_lt_of_le (Nat.mod_lt _ (by omega)) hb2
  have hx := hex_at (n % b) hr
  have hd1 : n / b < 9223372036854775808 := Nat.lt_of_le_of_lt (Nat.div_le_self _ _) hn
  have hd2 : n / b * 2 ≤ n := Nat.le_trans (Nat.mul_le_mul_left _ hb) (Nat.div_mul_le_self n b)
  have HS : Hid (digz b (n / b) ++ [dch (n % b)] = digs b n) := (digs_step hb).symm
  go_enter Tryz.func108, Tryz.ntmps108
  go_wp2
  go_quiet (fail)
  go_wp2
  go_loopw [0, 6] (fun nv sv wr => ∃ (m : Nat) (l : List UInt8) (q : Nat), nv = .int .i64 (m : Int) ∧ sv = .string ⟨l.toArray⟩ ∧ wr = w.drewN q ∧ m * 2 ^ l.length ≤ n ∧ Hid (digz b m ++ l = digs b n)) (fun nv _ _ => (intOf nv).toNat)
  case atStart => exact ⟨n / b, [dch (n % b)], nq, by first | rfl | simp, by rw [← hx], rfl, by simpa using hd2, HS⟩
  case round =>
    obtain ⟨m, l, q, rfl, rfl, rfl, hl, HD⟩ := hrel
    by_cases h0 : 0 < m
    · have hml : m < 9223372036854775808 := Nat.lt_of_le_of_lt (Nat.le_trans (Nat.le_mul_of_pos_right _ (Nat.two_pow_pos _)) hl) hn
      have hr' : m % b < 16 := Nat.lt_of_lt_of_le (Nat.mod_lt _ (by omega)) hb2
      have hx' := hex_at (m % b) hr'
      have hlen : l.length < 63 := by
        have h1 : 2 ^ l.length ≤ n := Nat.le_trans (Nat.le_mul_of_pos_left _ h0) hl
        exact (Nat.pow_lt_pow_iff_right (a := 2) (by decide)).1 (Nat.lt_of_le_of_lt h1 hn)
      have hl' : m / b * 2 ^ (l.length + 1) ≤ n := by
        refine Nat.le_trans ?_ hl
        rw [Nat.pow_succ, Nat.mul_comm (2 ^ l.length) 2, ← Nat.mul_assoc]
        exact Nat.mul_le_mul_right _ (Nat.le_trans (Nat.mul_le_mul_left _ hb) (Nat.div_mul_le_self m b))
      have hdl : m / b < m := Nat.div_lt_self h0 (by omega)
      have hd3 : m / b < 9223372036854775808 := by omega
      obtain ⟨d, hd⟩ : ∃ d : Nat, m / b = d := ⟨_, rfl⟩
      have hdi : (m : Int) / (b : Int) = (d : Int) := by rw [← hd]; rfl
      rw [hd] at hl' hdl hd3
      have HD' : Hid (digz b (m / b) ++ (dch (m % b) :: l) = digs b n) := by
        show digz b (m / b) ++ (dch (m % b) :: l) = digs b n
        rw [← HD.out, digz_step hb h0, List.append_assoc]; rfl
      have hadd : ∀ w' : World, Sem.run Tryz.prog (Op.stringOp .add ⟨[dch (m % b)].toArray⟩ ⟨l.toArray⟩) w' = .ok (.string ⟨(dch (m % b) :: l).toArray⟩) w' := fun w' =>
        run_string_add_lists w' [dch (m % b)] l (by simp) (by omega)
      rw [hd] at HD'
      clear HS HD hx hd
      go_wp2
      go_quiet (fail)
      go_wp2
      go_roundw
      case rel => exact ⟨d, dch (m % b) :: l, q + nq, by first | rfl | simp, rfl, rfl, by simpa using hl', HD'⟩
      case measure => simp [intOf]; omega
    · have HR : Hid (l = digs b n) := by
        show l = digs b n
        have := HD.out
        rw [show m = 0 by omega] at this
        exact this
      go_wp2
      go_ret
      exact ⟨congrArg (fun x : List UInt8 => Ending.returned (.string ⟨x.toArray⟩)) HR.out, q, rfl⟩

end Go.Proofs.YtenaepdmlknlcaaGreatDoor

namespace Go.Proofs.YtenaepdmlknlcaaGreatDoor
open Go.RowKit

theorem xor_u32 (a b : Nat) (ha : a < 4294967296) (hb : b < 4294967296) : bits BinOp.xor IntKind.u32 (a : Int) (b : Int) = ((a ^^^ b : Nat) : Int) := by
  have e : (BitVec.ofInt 32 (a : Int) ^^^ BitVec.ofInt 32 (b : Int)).toNat = a ^^^ b := by
    rw [BitVec.toNat_xor]
    have h1 : (BitVec.ofInt 32 (a : Int)).toNat = a := by simp; omega
    have h2 : (BitVec.ofInt 32 (b : Int)).toNat = b := by simp; omega
    rw [h1, h2]
  have hx : a ^^^ b < 4294967296 := Nat.xor_lt_two_pow (n := 32) ha hb
  show IntKind.u32.wrap ((BitVec.ofInt 32 (a : Int) ^^^ BitVec.ofInt 32 (b : Int)).toNat : Int) = _
  rw [e]
  simp [IntKind.wrap, IntKind.bits, IntKind.signed]
  omega
theorem xor_i64 (a b : Nat) (ha : a < 9223372036854775808) (hb : b < 9223372036854775808) : bits BinOp.xor IntKind.i64 (a : Int) (b : Int) = ((a ^^^ b : Nat) : Int) := by
  have e : (BitVec.ofInt 64 (a : Int) ^^^ BitVec.ofInt 64 (b : Int)).toNat = a ^^^ b := by
    rw [BitVec.toNat_xor]
    have h1 : (BitVec.ofInt 64 (a : Int)).toNat = a := by simp; omega
    have h2 : (BitVec.ofInt 64 (b : Int)).toNat = b := by simp; omega
    rw [h1, h2]
  have hx : a ^^^ b < 9223372036854775808 := Nat.xor_lt_two_pow (n := 63) ha hb
  show IntKind.i64.wrap ((BitVec.ofInt 64 (a : Int) ^^^ BitVec.ofInt 64 (b : Int)).toNat : Int) = _
  rw [e, IntKind.wrap_i64]
  omega

/-- One bit of the program's sum. -/
def pstep (v : Nat) : Nat := if v % 2 = 1 then (v / 2) ^^^ 3988292384 else v / 2
def psteps : Nat → Nat → Nat
  | 0, v => v
  | j + 1, v => pstep (psteps j v)
/-- One bit of the document's. -/
def rstep (v c : Nat) : Nat := if (v + c) % 2 = 1 then (v / 2) ^^^ 3988292384 else v / 2
def rsteps (v c : Nat) : Nat → Nat
  | 0 => v
  | j + 1 => rstep (rsteps v c j) (c / 2 ^ j)

theorem pstep_lt {v : Nat} (h : v < 4294967296) : pstep v < 4294967296 := by
  unfold pstep
  split
  · exact Nat.xor_lt_two_pow (n := 32) (by omega) (by decide)
  · omega
theorem psteps_lt {v : Nat} (h : v < 4294967296) : ∀ j, psteps j v < 4294967296
  | 0 => h
  | j + 1 => pstep_lt (psteps_lt h j)
theorem rstep_lt {v : Nat} (h : v < 4294967296) (c : Nat) : rstep v c < 4294967296 := by
  unfold rstep
  split
  · exact Nat.xor_lt_two_pow (n := 32) (by omega) (by decide)
  · omega
theorem rsteps_lt {v : Nat} (h : v < 4294967296) (c : Nat) : ∀ j, rsteps v c j < 4294967296
  | 0 => h
  | j + 1 => rstep_lt (rsteps_lt h c j) _

theorem xor_mod2 (a b : Nat) : (a ^^^ b) % 2 = (a + b) % 2 := by
  have h := Nat.xor_mod_two_pow (a := a) (b := b) (n := 1)
  simp only [Nat.pow_one] at h
  rw [h]
  have h1 : a % 2 = 0 ∨ a % 2 = 1 := by omega
  have h2 : b % 2 = 0 ∨ b % 2 = 1 := by omega
  rcases h1 with h1 | h1 <;> rcases h2 with h2 | h2 <;> rw [h1, h2] <;> simp <;> omega
theorem xor_div2 (a b : Nat) : (a ^^^ b) / 2 = (a / 2) ^^^ (b / 2) := by
  have := Nat.xor_div_two_pow (a := a) (b := b) (n := 1)
  simpa using this
theorem step_xor (v d : Nat) : pstep (v ^^^ d) = rstep v d ^^^ (d / 2) := by
  unfold pstep rstep
  rw [xor_mod2, xor_div2]
  split
  · rw [Nat.xor_assoc, Nat.xor_comm (d / 2), ← Nat.xor_assoc]
  · rfl
theorem steps_xor (v c : Nat) : ∀ j, psteps j (v ^^^ c) = rsteps v c j ^^^ (c / 2 ^ j)
  | 0 => by simp [psteps, rsteps]
  | j + 1 => by
    rw [psteps, steps_xor v c j, step_xor, rsteps, Nat.pow_succ, Nat.div_div_eq_div_mul]
theorem byte_eq (v c : Nat) (hc : c < 256) : psteps 8 (v ^^^ c) = rsteps v c 8 := by
  rw [steps_xor, Nat.div_eq_of_lt hc, Nat.xor_zero]

/-- The sum of the bytes so far. -/
def crcN (l : List UInt8) : Nat := l.foldl (fun v c => psteps 8 (v ^^^ c.toNat)) 4294967295
theorem crcN_snoc (l : List UInt8) (c : UInt8) : crcN (l ++ [c]) = psteps 8 (crcN l ^^^ c.toNat) := by simp [crcN, List.foldl_append]
theorem crcN_snoc' (l : List UInt8) (c : UInt8) : crcN (l ++ [c]) = rsteps (crcN l) c.toNat 8 := by rw [crcN_snoc, byte_eq _ _ c.toNat_lt]
theorem crcN_fold_lt (l : List UInt8) : ∀ v, v < 4294967296 → l.foldl (fun v c => psteps 8 (v ^^^ c.toNat)) v < 4294967296 := by
  induction l with
  | nil => exact fun v h => h
  | cons c r ih =>
    intro v h
    exact ih _ (psteps_lt (Nat.xor_lt_two_pow (n := 32) h (by have := c.toNat_lt; omega)) 8)
theorem crcN_lt (l : List UInt8) : crcN l < 4294967296 := crcN_fold_lt l _ (by decide)
def sumN (l : List UInt8) : Nat := 4294967295 - crcN l
theorem sumN_lt (l : List UInt8) : sumN l < 4294967296 := by unfold sumN; omega
theorem xor_ones (v : Nat) (h : v < 4294967296) : 4294967295 ^^^ v = 4294967295 - v := by
  have e : (~~~ (BitVec.ofNat 32 v)).toNat = 4294967295 - v := by
    rw [BitVec.toNat_not, BitVec.toNat_ofNat, Nat.mod_eq_of_lt (by simpa using h)]
  rw [← e, ← BitVec.allOnes_xor, BitVec.toNat_xor, BitVec.toNat_ofNat, Nat.mod_eq_of_lt (by simpa using h)]
  rfl

end Go.Proofs.YtenaepdmlknlcaaGreatDoor

namespace Go.Proofs.YtenaepdmlknlcaaGreatDoor
open Go.RowKit Go.Shelf

theorem and_u32 (a : Nat) (ha : a < 4294967296) : bits BinOp.and IntKind.u32 (a : Int) 1 = ((a % 2 : Nat) : Int) := by
  have e : (BitVec.ofInt 32 (a : Int) &&& BitVec.ofInt 32 1).toNat = a % 2 := by
    rw [BitVec.toNat_and]
    have h1 : (BitVec.ofInt 32 (a : Int)).toNat = a := by simp; omega
    rw [h1]
    show a &&& 1 = a % 2
    exact Nat.and_two_pow_sub_one_eq_mod a 1
  show IntKind.u32.wrap ((BitVec.ofInt 32 (a : Int) &&& BitVec.ofInt 32 1).toNat : Int) = _
  rw [e]
  simp [IntKind.wrap, IntKind.bits, IntKind.signed]
  omega

theorem int_u32 {a b : Int} (h : a = b) : Value.int .u32 a = .int .u32 b := by rw [h]
theorem bytes_take (s : ByteArray) (k : Nat) (h : k < s.size) : s.data.toList.take (k + 1) = s.data.toList.take k ++ [s[k]] := by
  rw [List.take_add_one]
  have : s.data.toList[k]? = some s[k] := by
    rw [List.getElem?_eq_getElem (by simpa using h)]
    rfl
  rw [this]; rfl

set_option maxRecDepth 100000 in
set_option maxHeartbeats 2000000 in
theorem sum_ex (s : ByteArray) (w : World) (hs : s.size ≤ 1000000) :
    Calls Tryz.prog 60 #[.string s] w fun e w' => e = .returned (.int .u32 ((sumN s.data.toList : Nat) : Int)) ∧ w' = w := by
  go_enter Tryz.func60, Tryz.ntmps60
  go_wp2
  go_loop [3, 8] (fun v i => ∃ (k : Nat) (u : Nat), k ≤ s.size ∧ i = .int .i64 k ∧ v = .int .u32 (u : Int) ∧ Hid (u = crcN (s.data.toList.take k))) (fun _ i => s.size - (intOf i).toNat)
  case atStart => exact ⟨0, 4294967295, by omega, rfl, rfl, by show _ = crcN _; simp [crcN]⟩
  case round =>
    obtain ⟨k, u, hk, rfl, rfl, HU⟩ := hrel
    have hu : u < 4294967296 := by rw [HU.out]; exact crcN_lt _
    by_cases hlt : k < s.size
    · have HB : Hid (crcN (s.data.toList.take (k + 1)) = psteps 8 (u ^^^ s[k].toNat)) := by
        show crcN _ = _
        rw [bytes_take s k hlt, crcN_snoc, ← HU.out]
      have HX : Hid (bits BinOp.xor IntKind.u32 (u : Int) ((s[k].toNat : Int) % 4294967296) = ((u ^^^ s[k].toNat : Nat) : Int)) := by
        show bits _ _ _ _ = _
        have := s[k].toNat_lt
        rw [show (s[k].toNat : Int) % 4294967296 = ((s[k].toNat : Nat) : Int) by omega, xor_u32 _ _ hu (by omega)]
      have hv : u ^^^ s[k].toNat < 4294967296 := Nat.xor_lt_two_pow (n := 32) hu (by have := s[k].toNat_lt; omega)
      obtain ⟨v, hvv⟩ : ∃ v, u ^^^ s[k].toNat = v := ⟨_, rfl⟩
      rw [hvv] at HB HX hv
      clear hvv HU
      go_wp2
      go_loop [3, 17] (fun x i => ∃ (j : Nat) (y : Nat), j ≤ 8 ∧ i = .int .i64 j ∧ x = .int .u32 (y : Int) ∧ Hid (y = psteps j v)) (fun _ i => 8 - (intOf i).toNat)
      case atStart => exact ⟨0, v, by omega, rfl, int_u32 HX.out, rfl⟩
      case round =>
        obtain ⟨j, y, hj, rfl, rfl, HY⟩ := hrel
        have hy : y < 4294967296 := by rw [HY.out]; exact psteps_lt hv _
        by_cases hlt2 : j < 8
        · have HS : Hid (psteps (j + 1) v = pstep y) := by show psteps (j + 1) v = _; rw [psteps, HY.out]
          have hand := and_u32 y hy
          by_cases hp : y % 2 = 1
          · rw [hp] at hand
            have HS2 : Hid (bits BinOp.xor IntKind.u32 ((y : Int) / 2) 3988292384 = ((psteps (j + 1) v : Nat) : Int)) := by
              show bits _ _ _ _ = _
              rw [HS.out, pstep, if_pos hp, show (y : Int) / 2 = ((y / 2 : Nat) : Int) by omega, show (3988292384 : Int) = ((3988292384 : Nat) : Int) by rfl, xor_u32 _ _ (by omega) (by decide)]
            clear HY HS hp
            go_wp2
            exact ⟨⟨j + 1, _, by omega, by go_num, int_u32 HS2.out, rfl⟩, by simp [intOf]; omega⟩
          · rw [show y % 2 = 0 by omega] at hand
            have HS2 : Hid (((y : Int) / 2) = ((psteps (j + 1) v : Nat) : Int)) := by
              show _ = _
              rw [HS.out, pstep, if_neg hp]
              omega
            clear HY HS hp
            go_wp2
            exact ⟨⟨j + 1, _, by omega, by go_num, int_u32 HS2.out, rfl⟩, by simp [intOf]; omega⟩
        · have HE : Hid (y = crcN (s.data.toList.take (k + 1))) := by
            show y = _
            rw [HB.out, HY.out, show j = 8 by omega]
          go_wp2
          go_round
          case rel => exact ⟨k + 1, y, by omega, by go_num, rfl, HE⟩
          case measure => simp [intOf]; omega
    · have HE : Hid (bits BinOp.xor IntKind.u32 IntKind.u32.max (u : Int) = ((sumN s.data.toList : Nat) : Int)) := by
        show bits _ _ _ _ = _
        have h1 : u = crcN s.data.toList := by
          rw [HU.out, show k = s.data.toList.length by simp only [Array.length_toList]; show k = s.size; omega, List.take_length]
        rw [show IntKind.u32.max = ((4294967295 : Nat) : Int) by rfl, xor_u32 _ _ (by decide) hu, xor_ones u hu, sumN, h1]
      clear HU
      go_wp2
      go_ret
      exact ⟨congrArg Ending.returned (int_u32 HE.out), rfl⟩

end Go.Proofs.YtenaepdmlknlcaaGreatDoor

namespace Go.Proofs.YtenaepdmlknlcaaGreatDoor
open Go.RowKit Go.Shelf

theorem int_i64 {a b : Int} (h : a = b) : Value.int .i64 a = .int .i64 b := by rw [h]

set_option maxRecDepth 100000 in
set_option maxHeartbeats 2000000 in
theorem rsum_ex (s : ByteArray) (w : World) (hs : s.size ≤ 1000000) :
    Calls Tryz.prog 109 #[.string s] w fun e w' => e = .returned (.int .i64 ((sumN s.data.toList : Nat) : Int)) ∧ w' = w := by
  go_enter Tryz.func109, Tryz.ntmps109
  go_wp2
  go_loop [3, 4] (fun v i => ∃ (k : Nat) (u : Nat), k ≤ s.size ∧ i = .int .i64 k ∧ v = .int .i64 (u : Int) ∧ Hid (u = crcN (s.data.toList.take k))) (fun _ i => s.size - (intOf i).toNat)
  case atStart => exact ⟨0, 4294967295, by omega, rfl, rfl, by show _ = crcN _; simp [crcN]⟩
  case round =>
    obtain ⟨k, u, hk, rfl, rfl, HU⟩ := hrel
    have hu : u < 4294967296 := by rw [HU.out]; exact crcN_lt _
    by_cases hlt : k < s.size
    · have HB : Hid (crcN (s.data.toList.take (k + 1)) = rsteps u s[k].toNat 8) := by
        show crcN _ = _
        rw [bytes_take s k hlt, crcN_snoc', ← HU.out]
      have hc := s[k].toNat_lt
      obtain ⟨c, hcc⟩ : ∃ c, s[k].toNat = c := ⟨_, rfl⟩
      have HC : Hid (wrap64 (s[k].toNat : Int) = (c : Int)) := by
        show wrap64 _ = _
        rw [hcc] at hc ⊢
        unfold wrap64
        omega
      rw [hcc] at HB hc
      clear hcc HU
      go_wp2
      go_loop [3, 5, 6] (fun x d i => ∃ (j : Nat) (y : Nat) (e : Nat), j ≤ 8 ∧ i = .int .i64 j ∧ x = .int .i64 (y : Int) ∧ d = .int .i64 (e : Int) ∧ Hid (y = rsteps u c j) ∧ Hid (e = c / 2 ^ j)) (fun _ _ i => 8 - (intOf i).toNat)
      case atStart => exact ⟨0, u, c, by omega, rfl, rfl, int_i64 HC.out, rfl, by show c = _; simp⟩
      case round =>
        obtain ⟨j, y, e, hj, rfl, rfl, rfl, HY, HE⟩ := hrel
        have hy : y < 4294967296 := by rw [HY.out]; exact rsteps_lt hu _ _
        have he : e < 256 := by rw [HE.out]; exact Nat.lt_of_le_of_lt (Nat.div_le_self _ _) (by omega)
        by_cases hlt2 : j < 8
        · have HS : Hid (rsteps u c (j + 1) = rstep y e) := by show rsteps u c (j + 1) = _; rw [rsteps, HY.out, HE.out]
          have HE2 : Hid (((e : Int) / 2) = ((c / 2 ^ (j + 1) : Nat) : Int)) := by
            show _ = _
            rw [Nat.pow_succ, ← Nat.div_div_eq_div_mul, ← HE.out]
            omega
          by_cases hp : (y + e) % 2 = 1
          · have hp' : ((y : Int) + (e : Int)) % 2 = 1 := by omega
            have HS2 : Hid (bits BinOp.xor IntKind.i64 ((y : Int) / 2) 3988292384 = ((rsteps u c (j + 1) : Nat) : Int)) := by
              show bits _ _ _ _ = _
              rw [HS.out, rstep, if_pos hp, show (y : Int) / 2 = ((y / 2 : Nat) : Int) by omega, show (3988292384 : Int) = ((3988292384 : Nat) : Int) by rfl, xor_i64 _ _ (by omega) (by decide)]
            clear HY HS hp HE
            go_wp2
            exact ⟨⟨j + 1, _, _, by omega, by go_num, int_i64 HS2.out, int_i64 HE2.out, rfl, rfl⟩, by simp [intOf]; omega⟩
          · have hp' : ((y : Int) + (e : Int)) % 2 = 0 := by omega
            have HS2 : Hid (((y : Int) / 2) = ((rsteps u c (j + 1) : Nat) : Int)) := by
              show _ = _
              rw [HS.out, rstep, if_neg hp]
              omega
            clear HY HS hp HE
            go_wp2
            exact ⟨⟨j + 1, _, _, by omega, by go_num, int_i64 HS2.out, int_i64 HE2.out, rfl, rfl⟩, by simp [intOf]; omega⟩
        · have HE : Hid (y = crcN (s.data.toList.take (k + 1))) := by
            show y = _
            rw [HB.out, HY.out, show j = 8 by omega]
          go_wp2
          go_round
          case rel => exact ⟨k + 1, y, by omega, by go_num, rfl, HE⟩
          case measure => simp [intOf]; omega
    · have HE : Hid ((4294967295 : Int) - (u : Int) = ((sumN s.data.toList : Nat) : Int)) := by
        show _ = _
        have h1 : u = crcN s.data.toList := by
          rw [HU.out, show k = s.data.toList.length by simp only [Array.length_toList]; show k = s.size; omega, List.take_length]
        rw [sumN, ← h1]
        omega
      clear HU
      go_wp2
      go_ret
      exact ⟨congrArg Ending.returned (int_i64 HE.out), rfl⟩

end Go.Proofs.YtenaepdmlknlcaaGreatDoor

namespace Go.Proofs.YtenaepdmlknlcaaGreatDoor
open Go.RowKit Go.Shelf

/-- Eight digits at least. -/
def padN (d : List UInt8) : List UInt8 := List.replicate (8 - d.length) 48 ++ d
def markN (l : List UInt8) : List UInt8 := padN (digs 16 (sumN l))

theorem ret_str {a b : List UInt8} (h : a = b) : Ending.returned (.string ⟨a.toArray⟩) = .returned (.string ⟨b.toArray⟩) := by rw [h]

set_option maxRecDepth 100000 in
set_option maxHeartbeats 2000000 in
theorem rMark_any (s : ByteArray) (w : World) (hs : s.size ≤ 1000000) :
    Calls Tryz.prog 65 #[.string s] w fun e w' => e = .returned (.string ⟨(markN s.data.toList).toArray⟩) ∧ ∃ q, w' = w.drewN q := by
  have hlt := sumN_lt s.data.toList
  obtain ⟨n, hn⟩ : ∃ n, sumN s.data.toList = n := ⟨_, rfl⟩
  have HS : Hid (∀ W : World, Calls Tryz.prog 109 #[.string s] W fun e w' => e = .returned (.int .i64 (n : Int)) ∧ w' = W) := fun W => by rw [← hn]; exact rsum_ex s W hs
  have HM : Hid (markN s.data.toList = padN (digs 16 n)) := by show markN _ = _; rw [markN, hn]
  have HD : Hid (∀ W : World, Calls Tryz.prog 108 #[.int .i64 (n : Int), .int .i64 16] W fun e w' => e = .returned (.string ⟨(digs 16 n).toArray⟩) ∧ ∃ q, w' = W.drewN q) := fun W => digits_any n 16 W (by omega) (by decide) (by decide)
  rw [hn] at hlt
  clear hn
  obtain ⟨d, hd⟩ : ∃ d, digs 16 n = d := ⟨_, rfl⟩
  rw [hd] at HM HD
  clear hd
  go_enter Tryz.func65, Tryz.ntmps65
  go_wp2_with (first
    | (go_at_call 109; refine Calls.mono (HS.out _) ?_; rintro e w2 ⟨rfl, rfl⟩)
    | (go_at_call 108; refine Calls.mono (HD.out _) ?_; rintro e w2 ⟨rfl, q, rfl⟩))
  go_loop [4] (fun v => ∃ j : Nat, v = .string ⟨(List.replicate j 48 ++ d).toArray⟩ ∧ (j = 0 ∨ j + d.length ≤ 8)) (fun v => match v with | .string t => 8 - t.size | _ => 0)
  case atStart => exact ⟨0, by simp, .inl rfl⟩
  case round =>
    obtain ⟨j, rfl, hj⟩ := hrel
    by_cases hl : j + d.length < 8
    · have hadd : ∀ w' : World, Sem.run Tryz.prog (Op.stringOp .add ⟨#[48]⟩ ⟨(List.replicate j 48 ++ d).toArray⟩) w' = .ok (.string ⟨(List.replicate (j + 1) 48 ++ d).toArray⟩) w' := fun w' => by
        have := run_string_add_lists (P := Tryz.prog) w' [48] (List.replicate j 48 ++ d) (by simp) (by simp; omega)
        rw [List.replicate_succ, List.cons_append]
        exact this
      go_wp2
      refine ⟨⟨j + 1, rfl, .inr (by omega)⟩, ?_⟩
      simp [ByteArray.size]
      omega
    · have HE : Hid (List.replicate j 48 ++ d = padN d) := by
        show _ = _
        rw [padN]
        congr 2
        omega
      go_wp2
      go_ret
      exact ⟨ret_str (HE.out.trans HM.out.symm), q, rfl⟩

end Go.Proofs.YtenaepdmlknlcaaGreatDoor
