import Derived.Test.YtenaepdmlknlcaaGreatDoorE44
import Derived.Deep.QuietTactic
import Derived.BigQuiet
namespace Go.Proofs.YtenaepdmlknlcaaGreatDoor
open Go.RowKit Go.Shelf

theorem RowM.back {w : World} {b0 lb gb j : Nat} {L : List Dn} {g : List Bool} (h : RowM w b0 lb gb L (g.set j true)) (hj : j < L.length) (h8 : 8 ≤ b0) (hg : g[j]? = some false) : RowM (w.setCell ⟨gb, j, none⟩ (.bool false)) b0 lb gb L g := by
  have := h.set (i := j) hj false h8
  rw [List.set_set] at this
  have e : g.set j false = g := by
    obtain ⟨hlt, he⟩ := List.getElem?_eq_some_iff.1 hg
    rw [← he]; exact List.set_getElem_self hlt
  rw [e] at this
  exact this
theorem row_tail {b0 lb gb j n lcap gcap : Nat} {L : List Dn} {g : List Bool} {w0 w7 W : World} {fa' : Option Addr} {fcap' : Nat} {gs' : List FG} {fs : List Feat} (hM : RowM w7 b0 lb gb L g) (hF : Fr (fun c _ => c = gb) w0 w7) (hFs : FeatsQ (fun b => b ≠ gb) w7 fa' gs') (hW : Below w7.heap.size w7 W) (hj : j < L.length) (h8 : 8 ≤ b0) (_hc : candB L g fs j = true) (hg : g[j]? = some false) (hfc : gs'.length ≤ fcap') (hok : FsOk (gs'.map (·.f)))
    (ih : ∀ g' : List Bool, leftG g' < leftG g → ∀ (gs : List FG) (fa : Option Addr) (fcap : Nat) (w : World), RowM w b0 lb gb L g' → FeatsQ (fun b => b ≠ gb) w fa gs → gs.length ≤ fcap → FsOk (gs.map (·.f)) →
      Calls Tryz.prog 25 #[.slice (some ⟨lb, 0, none⟩) n lcap, .slice (some ⟨gb, 0, none⟩) n gcap, .slice fa gs.length fcap] w (RowPost b0 lb gb L g' (gs.map (·.f)) w)) :
    RowM (W.setCell ⟨gb, j, none⟩ (.bool true)) b0 lb gb L (g.set j true) ∧ Fr (fun c _ => c = gb) w0 (W.setCell ⟨gb, j, none⟩ (.bool true)) ∧ Calls Tryz.prog 25 #[.slice (some ⟨lb, 0, none⟩) n lcap, .slice (some ⟨gb, 0, none⟩) n gcap, .slice fa' gs'.length fcap'] (W.setCell ⟨gb, j, none⟩ (.bool true)) (RowPost b0 lb gb L (g.set j true) (gs'.map (·.f)) (W.setCell ⟨gb, j, none⟩ (.bool true))) := by
  have hM2 := (hM.grow hW).set (i := j) hj true h8
  have hF2 : Fr (fun c _ => c = gb) w7 (W.setCell ⟨gb, j, none⟩ (.bool true)) := (Fr.of_below hW).setCell (b := gb) (i := j) (.inl rfl) _
  exact ⟨hM2, hF.trans hF2, ih _ (by have := left_set hg; omega) gs' fa' fcap' _ hM2 (hFs.fr hF2 (fun b _ e e' => e' e)) hfc hok⟩
set_option maxRecDepth 100000 in
set_option maxHeartbeats 8000000 in
theorem row_at (b0 lb gb n lcap gcap : Nat) (h8 : 8 ≤ b0) (L : List Dn) (hun : ∀ d ∈ L, 0 ≤ d.un) (hn : n = L.length) (hn2 : n ≤ 100000000) (hlc : n ≤ lcap) (hgc : n ≤ gcap) (g : List Bool)
    (ih : ∀ g' : List Bool, leftG g' < leftG g → ∀ (gs : List FG) (fa : Option Addr) (fcap : Nat) (w : World), RowM w b0 lb gb L g' → FeatsQ (fun b => b ≠ gb) w fa gs → gs.length ≤ fcap → FsOk (gs.map (·.f)) →
      Calls Tryz.prog 25 #[.slice (some ⟨lb, 0, none⟩) n lcap, .slice (some ⟨gb, 0, none⟩) n gcap, .slice fa gs.length fcap] w (RowPost b0 lb gb L g' (gs.map (·.f)) w))
    (gs : List FG) (fa : Option Addr) (fcap : Nat) (w : World) (hM : RowM w b0 lb gb L g) (hF : FeatsQ (fun b => b ≠ gb) w fa gs) (hfc : gs.length ≤ fcap) (hok : FsOk (gs.map (·.f))) :
    Calls Tryz.prog 25 #[.slice (some ⟨lb, 0, none⟩) n lcap, .slice (some ⟨gb, 0, none⟩) n gcap, .slice fa gs.length fcap] w (RowPost b0 lb gb L g (gs.map (·.f)) w) := by
  have Hn : Hid (n = L.length) := hn
  have Hun : Hid (∀ d ∈ L, 0 ≤ d.un) := hun
  have HM : Hid (RowM w b0 lb gb L g) := hM
  have HF : Hid (FeatsQ (fun b => b ≠ gb) w fa gs) := hF
  have Hok : Hid (FsOk (gs.map (·.f))) := hok
  have Hih : Hid _ := ih
  obtain ⟨fn, hfn⟩ : ∃ x, gs.length = x := ⟨_, rfl⟩
  have Hfn : Hid (gs.length = fn) := hfn
  rw [hfn] at hfc
  rw [hfn]
  clear hn hM hF hok ih hfn hun
  go_enter Tryz.func25, Tryz.ntmps25
  go_wp2
  go_loopw [7, 8] (fun ov i wr => ∃ k : Nat, k ≤ n ∧ ov = .bool (overT L g k) ∧ i = .int .i64 k ∧ wr = w) (fun _ i _ => n - (intOf i).toNat)
  case atStart => exact ⟨0, Nat.zero_le _, rfl, rfl, rfl⟩
  case round =>
    obtain ⟨k, hk, rfl, rfl, rfl⟩ := hrel
    by_cases hlt : k < n
    · obtain ⟨d, hd⟩ : ∃ d, L[k]? = some d := ⟨_, List.getElem?_eq_getElem (by have := Hn.out; omega)⟩
      obtain ⟨gk, hgk⟩ : ∃ b, g[k]? = some b := ⟨_, List.getElem?_eq_getElem (by rw [HM.out.len]; have := Hn.out; omega)⟩
      have hkI : (k : Int) < (n : Int) := by omega
      have hkn : ¬ (k : Int) < 0 := by omega
      have c7 := HM.out.cl k d hd 7 _ rfl
      have cg := (HM.out.cg k gk hgk).1
      have HS : Hid (overT L g (k + 1) = (overT L g k && (gk || d.un == 0))) := by
        show overT L g (k + 1) = _
        rw [over_succ hd]
        have : goneAt g k = gk := by unfold goneAt; rw [hgk]; rfl
        rw [this]
      obtain ⟨ov, hov⟩ : ∃ b, overT L g k = b := ⟨_, rfl⟩
      rw [hov] at HS
      rw [hov]
      obtain ⟨un, hun⟩ : ∃ u, d.un = u := ⟨_, rfl⟩
      rw [hun] at c7 HS
      clear hd hgk hov hun
      cases ov with
      | false =>
        go_wp2
        go_roundw
        case rel => exact ⟨k + 1, by omega, by rw [HS.out]; rfl, by go_num, by trivial⟩
        case measure => simp [intOf]; omega
      | true =>
        cases gk with
        | true =>
          go_wp2
          go_roundw
          case rel => exact ⟨k + 1, by omega, by rw [HS.out]; rfl, by go_num, by trivial⟩
          case measure => simp [intOf]; omega
        | false =>
          go_wp2
          go_roundw
          case rel => exact ⟨k + 1, by omega, by rw [HS.out]; simp, by go_num, by trivial⟩
          case measure => simp [intOf]; omega
    · obtain rfl : k = n := by omega
      have HO : Hid (overB L g = overT L g k) := by show overB L g = _; unfold overB overT; rw [← Hn.out]; rfl
      obtain ⟨ov, hov⟩ : ∃ b, overT L g k = b := ⟨_, rfl⟩
      rw [hov] at HO
      rw [hov]
      clear hov
      cases ov with
      | true =>
        go_wp2
        go_ret
        refine ⟨?_, HM.out, Fr.refl _ _⟩
        rw [row_over HO.out]
        rfl
      | false =>
        go_wp2
        have HFrF : Hid (∀ W : World, Fr (fun c _ => c = gb) wr W → FeatsQ (fun b => b ≠ gb) W fa gs) := fun W hW => HF.out.fr hW (fun b _ e e' => e' e)
        have HM0 : Hid (RowM wr b0 lb gb L g) := HM.out
        clear HF HM
        obtain ⟨w0, hw0⟩ : ∃ x, wr = x := ⟨_, rfl⟩
        rw [hw0] at HFrF HM0
        have Hw0 : Hid (wr = w0) := hw0
        rw [hw0]
        clear hw0
        go_loopw [9] (fun i wr => ∃ j : Nat, j ≤ k ∧ i = .int .i64 j ∧ RowM wr b0 lb gb L g ∧ Fr (fun c _ => c = gb) w0 wr ∧ noneT (leftG g - 1) L g (gs.map (·.f)) j) (fun i _ => k - (intOf i).toNat)
        case atStart => exact ⟨0, Nat.zero_le _, rfl, HM0.out, Fr.refl _ _, fun i hi => by omega⟩
        case round =>
          obtain ⟨j, hj, rfl, hm, hfr, hno⟩ := hrel
          have HM : Hid (RowM wr b0 lb gb L g) := hm
          have HFr : Hid (Fr (fun c _ => c = gb) w0 wr) := hfr
          have HNo : Hid (noneT (leftG g - 1) L g (gs.map (·.f)) j) := hno
          clear hm hfr hno
          by_cases hlt : j < k
          · obtain ⟨d, hd⟩ : ∃ d, L[j]? = some d := ⟨_, List.getElem?_eq_getElem (by have := Hn.out; omega)⟩
            obtain ⟨gj, hgj⟩ : ∃ b, g[j]? = some b := ⟨_, List.getElem?_eq_getElem (by rw [HM.out.len]; have := Hn.out; omega)⟩
            have hjI : (j : Int) < (k : Int) := by omega
            have hjn : ¬ (j : Int) < 0 := by omega
            have c6 := HM.out.cl j d hd 6 _ rfl
            have cg := (HM.out.cg j gj hgj).1
            have HC : Hid (candB L g (gs.map (·.f)) j = (!gj && !(d.fr == 0) && firstB L g j d.fr && !(decide (0 < d.un) && !decide (ansR (gs.map (·.f)) (askZ d.q) = d.an)) && !(d.un == 0 && decide (kindZ d.q = 2)))) := by
              show candB L g (gs.map (·.f)) j = _
              have : goneAt g j = gj := by unfold goneAt; rw [hgj]; rfl
              unfold candB
              rw [hd, this]
            have Hd : Hid (L[j]? = some d) := hd
            have Hgj : Hid (g[j]? = some gj) := hgj
            clear hd hgj
            cases gj with
            | true =>
              go_wp2
              go_roundw
              case rel => exact ⟨j + 1, by omega, by go_num, HM.out, HFr.out, none_succ HNo.out (by rw [HC.out]; rfl)⟩
              case measure => simp [intOf]; omega
            | false =>
              by_cases hf0 : d.fr = 0
              · have hf0' : (d.fr == 0) = true := by simpa using hf0
                go_wp2
                go_roundw
                case rel => exact ⟨j + 1, by omega, by go_num, HM.out, HFr.out, none_succ HNo.out (by rw [HC.out, hf0']; rfl)⟩
                case measure => simp [intOf]; omega
              · have hf0' : (d.fr == 0) = false := by simpa using hf0
                go_wp2
                go_loopw [10, 11] (fun ft i wq => ∃ m : Nat, m ≤ k ∧ ft = .bool (firstT L g j d.fr m) ∧ i = .int .i64 m ∧ Below wr.heap.size wr wq) (fun _ i _ => k - (intOf i).toNat)
                case atStart => exact ⟨0, Nat.zero_le _, rfl, rfl, Below.refl _ _⟩
                case round =>
                  obtain ⟨m, hm, rfl, rfl, hbq⟩ := hrel
                  have HBq : Hid (Below _ _ wr) := hbq
                  have HMq : Hid (RowM wr b0 lb gb L g) := HM.out.grow hbq
                  have HFq : Hid (Fr (fun c _ => c = gb) w0 wr) := HFr.out.trans (Fr.of_below hbq)
                  clear hbq c6 cg
                  have c6 := HMq.out.cl j d Hd.out 6 _ rfl
                  by_cases hlt2 : m < k
                  · obtain ⟨x, hx⟩ : ∃ x, L[m]? = some x := ⟨_, List.getElem?_eq_getElem (by have := Hn.out; omega)⟩
                    obtain ⟨gm, hgm⟩ : ∃ b, g[m]? = some b := ⟨_, List.getElem?_eq_getElem (by rw [HMq.out.len]; have := Hn.out; omega)⟩
                    have hmI : (m : Int) < (k : Int) := by omega
                    have hmn : ¬ (m : Int) < 0 := by omega
                    have c7 := HMq.out.cl m x hx 7 _ rfl
                    have cgm := (HMq.out.cg m gm hgm).1
                    have HSf : Hid (firstT L g j d.fr (m + 1) = (firstT L g j d.fr m && !(m != j && !gm && (decide (0 < x.un) && decide (x.un < d.fr))))) := by
                      show firstT L g j d.fr (m + 1) = _
                      rw [first_succ hx]
                      have : goneAt g m = gm := by unfold goneAt; rw [hgm]; rfl
                      rw [this]
                    obtain ⟨ft, hft⟩ : ∃ b, firstT L g j d.fr m = b := ⟨_, rfl⟩
                    rw [hft] at HSf
                    rw [hft]
                    clear hx hgm hft
                    by_cases hmj : m = j
                    · have hmj' : (m : Int) = (j : Int) := by omega
                      have hmj2 : (m != j) = false := by simp; omega
                      go_wp2_with fail
                      go_quiet (fail)
                      go_wp2
                      go_roundw
                      case rel => exact ⟨m + 1, by omega, by rw [HSf.out, hmj2]; simp, by go_num, by first | exact HBq.out | exact HBq.out.drew | exact Below.drewK HBq.out _⟩
                      case measure => simp [intOf]; omega
                    · have hmj' : ((m : Int) == (j : Int)) = false := by simp; omega
                      have hmj3 : decide ((m : Int) = (j : Int)) = false := by simp; omega
                      have hmj4 : ((m : Int) != (j : Int)) = true := by simp; omega
                      have hmj5 : ¬ (m : Int) = (j : Int) := by omega
                      have hmj2 : (m != j) = true := by simp; omega
                      cases gm with
                      | true =>
                        go_wp2_with fail
                        go_quiet (fail)
                        go_wp2
                        go_roundw
                        case rel => exact ⟨m + 1, by omega, by rw [HSf.out, hmj2]; simp, by go_num, by first | exact HBq.out | exact HBq.out.drew | exact Below.drewK HBq.out _⟩
                        case measure => simp [intOf]; omega
                      | false =>
                        by_cases hu : 0 < x.un
                        · have hu2 : decide (0 < x.un) = true := by simpa using hu
                          have hu3 : x.un > 0 := hu
                          by_cases hv : x.un < d.fr
                          · have hv2 : decide (x.un < d.fr) = true := by simpa using hv
                            go_wp2_with fail
                            go_quiet (fail)
                            go_wp2
                            go_roundw
                            case rel => exact ⟨m + 1, by omega, by rw [HSf.out, hmj2, hu2, hv2]; simp, by go_num, by first | exact HBq.out | exact HBq.out.drew | exact Below.drewK HBq.out _⟩
                            case measure => simp [intOf]; omega
                          · have hv2 : decide (x.un < d.fr) = false := by simpa using hv
                            go_wp2_with fail
                            go_quiet (fail)
                            go_wp2
                            go_roundw
                            case rel => exact ⟨m + 1, by omega, by rw [HSf.out, hmj2, hu2, hv2]; simp, by go_num, by first | exact HBq.out | exact HBq.out.drew | exact Below.drewK HBq.out _⟩
                            case measure => simp [intOf]; omega
                        · have hu2 : decide (0 < x.un) = false := by simpa using hu
                          have hu3 : decide (x.un > 0) = false := hu2
                          go_wp2_with fail
                          go_quiet (fail)
                          go_wp2
                          go_roundw
                          case rel => exact ⟨m + 1, by omega, by rw [HSf.out, hmj2, hu2]; simp, by go_num, by first | exact HBq.out | exact HBq.out.drew | exact Below.drewK HBq.out _⟩
                          case measure => simp [intOf]; omega
                  · obtain rfl : m = k := by omega
                    have HFb : Hid (firstB L g j d.fr = firstT L g j d.fr m) := by show firstB L g j d.fr = _; unfold firstB firstT; rw [← Hn.out]; rfl
                    obtain ⟨ft, hft⟩ : ∃ b, firstT L g j d.fr m = b := ⟨_, rfl⟩
                    rw [hft] at HFb
                    rw [hft]
                    clear hft
                    cases ft with
                    | false =>
                      go_wp2
                      go_roundw
                      case rel => exact ⟨j + 1, by omega, by go_num, HMq.out, HFq.out, none_succ HNo.out (by rw [HC.out, HFb.out]; simp)⟩
                      case measure => simp [intOf]; omega
                    | true =>
                      have k0 : wr.cell? ⟨lb, j * 9, none⟩ = _ := HMq.out.cl j d Hd.out 0 _ rfl
                      have k1 := HMq.out.cl j d Hd.out 1 _ rfl
                      have k2 := HMq.out.cl j d Hd.out 2 _ rfl
                      have k3 := HMq.out.cl j d Hd.out 3 _ rfl
                      have k4 := HMq.out.cl j d Hd.out 4 _ rfl
                      have k5 := HMq.out.cl j d Hd.out 5 _ rfl
                      have hmem : d ∈ L := List.mem_of_getElem? Hd.out
                      have HOn : Hid (Calls Tryz.prog 19 #[.slice fa fn fcap, .agg #[.int .i64 d.q.k, .int .i64 d.q.a, .int .i64 d.q.b, .int .i64 d.q.c, .int .i64 d.q.d, .slice d.pa d.pn d.pc]] wr (OncePost (fun b => b ≠ gb) gs d.q wr)) := once_any _ fa fn fcap gs d.q (HMq.out.rq d hmem).1 d.pa d.pn d.pc wr (HFrF.out _ HFq.out) Hfn.out.symm hfc (by have := fs_len Hok.out; have := Hfn.out; simp at *; omega) ((HMq.out.rq d hmem).2.at HMq.out.b2) Hok.out HMq.out.gl
                      unfold OncePost at HOn
                      have HKd : Hid (∀ W : World, Calls Tryz.prog 46 #[.agg #[.int .i64 d.q.k, .int .i64 d.q.a, .int .i64 d.q.b, .int .i64 d.q.c, .int .i64 d.q.d, .slice d.pa d.pn d.pc]] W fun e w' => e = .returned (.int .i64 (kindZ d.q)) ∧ Below W.heap.size W w') := fun W => qkind_any d.q (HMq.out.rq d hmem).1 d.pa d.pn d.pc W
                      have hjL : j < L.length := by have := Hn.out; omega
                      have Hgs : Hid ((g.set j true)[j]? = some true) := by
                        show (g.set j true)[j]? = some true
                        rw [List.getElem?_set, if_pos rfl, if_pos (by rw [HMq.out.len]; exact hjL)]
                      have HAsk : Hid (askAt L j (gs.map (·.f)) = fsR (gs.map (·.f)) (askZ d.q)) := by
                        show askAt L j (gs.map (·.f)) = _
                        unfold askAt
                        rw [Hd.out]
                      have hun := Hun.out d hmem
                      obtain ⟨an, han⟩ : ∃ x, ansR (gs.map (·.f)) (askZ d.q) = x := ⟨_, rfl⟩
                      rw [han, HFb.out, hf0'] at HC
                      rw [han] at HOn
                      obtain ⟨kd, hkd⟩ : ∃ x, kindZ d.q = x := ⟨_, rfl⟩
                      rw [hkd] at HKd HC
                      clear hkd han
                      by_cases hu : 0 < d.un
                      · have hu2 : decide (0 < d.un) = true := by simpa using hu
                        have hu3 : d.un > 0 := hu
                        have hz2 : (d.un == 0) = false := by simp; omega
                        have hz3 : ¬ d.un = 0 := by omega
                        by_cases ha : an = d.an
                        · have hcand : candB L g (gs.map (·.f)) j = true := by rw [HC.out, hu2, hz2, decide_eq_true ha]; rfl
                          subst ha
                          cases hrb : rowB (leftG (g.set j true)) L (g.set j true) (fsR (gs.map (·.f)) (askZ d.q)) with
                          | true =>
                            go_wp2_with (first | (go_at_call 19; refine Calls.mono HOn.out ?_; rintro e w7 ⟨fa', fcap', gs', rfl, hfc', hf', hm', hb7⟩; dsimp only; have HF7 : Hid (FeatsQ (fun b => b ≠ gb) w7 fa' gs') := FeatsQ.mono (fun b hb => hb.elim id (fun h e => by have := HMq.out.gb_lt; omega)) hf'; have Hm7 : Hid (gs'.map (·.f) = fsR (gs.map (·.f)) (askZ d.q)) := hm'; have HB7 : Hid (Below wr.heap.size wr w7) := hb7; have HM7 : Hid (RowM w7 b0 lb gb L g) := HMq.out.grow hb7; have HFr7 : Hid (Fr (fun c _ => c = gb) w0 w7) := HFq.out.trans (Fr.of_below hb7); have y0 : w7.cell? ⟨lb, j * 9, none⟩ = _ := HM7.out.cl j d Hd.out 0 _ rfl; have y1 := HM7.out.cl j d Hd.out 1 _ rfl; have y2 := HM7.out.cl j d Hd.out 2 _ rfl; have y3 := HM7.out.cl j d Hd.out 3 _ rfl; have y4 := HM7.out.cl j d Hd.out 4 _ rfl; have y5 := HM7.out.cl j d Hd.out 5 _ rfl; have y7 := HM7.out.cl j d Hd.out 7 _ rfl; have y8 := HM7.out.cl j d Hd.out 8 _ rfl; have cg7 := (HM7.out.cg j false Hgj.out).1; have fg7 := (HM7.out.cg j false Hgj.out).2;  clear hf' hm' hb7) | (go_at_call 25; obtain ⟨hM8, hF8, hcall⟩ := row_tail HM7.out HFr7.out HF7.out (Below.refl _ _) hjL h8 hcand Hgj.out hfc' (by rw [Hm7.out]; exact fsR_ok Hok.out _) Hih.out; refine Calls.mono hcall ?_; rintro e w9 ⟨rfl, hM9, hF9⟩; rw [Hm7.out, hrb]; dsimp only; have HM9 : Hid (RowM w9 b0 lb gb L (g.set j true)) := hM9; have HF9 : Hid (Fr (fun c _ => c = gb) w0 w9) := hF8.trans hF9; have c9 := (HM9.out.cg j true Hgs.out).1; have f9 := (HM9.out.cg j true Hgs.out).2; clear hM8 hF8 hcall hM9 hF9))
                            have HM10 : Hid (RowM (w9.setCell ⟨gb, j, none⟩ (.bool false)) b0 lb gb L g) := HM9.out.back hjL h8 Hgj.out
                            have HF10 : Hid (Fr (fun c _ => c = gb) w0 (w9.setCell ⟨gb, j, none⟩ (.bool false))) := HF9.out.setCell (b := gb) (i := j) (.inl rfl) _
                            go_ret
                            refine ⟨?_, HM10.out, by rw [Hw0.out]; exact HF10.out⟩
                            rw [row_found' (k := j) hjL hcand (by rw [HAsk.out]; exact hrb)]
                            rfl
                          | false =>
                            go_wp2_with (first | (go_at_call 19; refine Calls.mono HOn.out ?_; rintro e w7 ⟨fa', fcap', gs', rfl, hfc', hf', hm', hb7⟩; dsimp only; have HF7 : Hid (FeatsQ (fun b => b ≠ gb) w7 fa' gs') := FeatsQ.mono (fun b hb => hb.elim id (fun h e => by have := HMq.out.gb_lt; omega)) hf'; have Hm7 : Hid (gs'.map (·.f) = fsR (gs.map (·.f)) (askZ d.q)) := hm'; have HB7 : Hid (Below wr.heap.size wr w7) := hb7; have HM7 : Hid (RowM w7 b0 lb gb L g) := HMq.out.grow hb7; have HFr7 : Hid (Fr (fun c _ => c = gb) w0 w7) := HFq.out.trans (Fr.of_below hb7); have y0 : w7.cell? ⟨lb, j * 9, none⟩ = _ := HM7.out.cl j d Hd.out 0 _ rfl; have y1 := HM7.out.cl j d Hd.out 1 _ rfl; have y2 := HM7.out.cl j d Hd.out 2 _ rfl; have y3 := HM7.out.cl j d Hd.out 3 _ rfl; have y4 := HM7.out.cl j d Hd.out 4 _ rfl; have y5 := HM7.out.cl j d Hd.out 5 _ rfl; have y7 := HM7.out.cl j d Hd.out 7 _ rfl; have y8 := HM7.out.cl j d Hd.out 8 _ rfl; have cg7 := (HM7.out.cg j false Hgj.out).1; have fg7 := (HM7.out.cg j false Hgj.out).2;  clear hf' hm' hb7) | (go_at_call 25; obtain ⟨hM8, hF8, hcall⟩ := row_tail HM7.out HFr7.out HF7.out (Below.refl _ _) hjL h8 hcand Hgj.out hfc' (by rw [Hm7.out]; exact fsR_ok Hok.out _) Hih.out; refine Calls.mono hcall ?_; rintro e w9 ⟨rfl, hM9, hF9⟩; rw [Hm7.out, hrb]; dsimp only; have HM9 : Hid (RowM w9 b0 lb gb L (g.set j true)) := hM9; have HF9 : Hid (Fr (fun c _ => c = gb) w0 w9) := hF8.trans hF9; have c9 := (HM9.out.cg j true Hgs.out).1; have f9 := (HM9.out.cg j true Hgs.out).2; clear hM8 hF8 hcall hM9 hF9))
                            have HM10 : Hid (RowM (w9.setCell ⟨gb, j, none⟩ (.bool false)) b0 lb gb L g) := HM9.out.back hjL h8 Hgj.out
                            have HF10 : Hid (Fr (fun c _ => c = gb) w0 (w9.setCell ⟨gb, j, none⟩ (.bool false))) := HF9.out.setCell (b := gb) (i := j) (.inl rfl) _
                            go_roundw
                            case rel => exact ⟨j + 1, by omega, by go_num, HM10.out, HF10.out, none_succ HNo.out (by rw [HAsk.out, show leftG g - 1 = leftG (g.set j true) by have := left_set (cand_gone hcand); omega, hrb, Bool.and_false])⟩
                            case measure => simp [intOf]; omega
                        · have ha2 : decide (an = d.an) = false := decide_eq_false ha
                          have ha3 : (an.toList == d.an.toList) = false := by rw [eqS]; exact ha2
                          go_wp2_with (first | (go_at_call 19; refine Calls.mono HOn.out ?_; rintro e w7 ⟨fa', fcap', gs', rfl, hfc', hf', hm', hb7⟩; dsimp only; have HF7 : Hid (FeatsQ (fun b => b ≠ gb) w7 fa' gs') := FeatsQ.mono (fun b hb => hb.elim id (fun h e => by have := HMq.out.gb_lt; omega)) hf'; have Hm7 : Hid (gs'.map (·.f) = fsR (gs.map (·.f)) (askZ d.q)) := hm'; have HB7 : Hid (Below wr.heap.size wr w7) := hb7; have HM7 : Hid (RowM w7 b0 lb gb L g) := HMq.out.grow hb7; have HFr7 : Hid (Fr (fun c _ => c = gb) w0 w7) := HFq.out.trans (Fr.of_below hb7); have y0 : w7.cell? ⟨lb, j * 9, none⟩ = _ := HM7.out.cl j d Hd.out 0 _ rfl; have y1 := HM7.out.cl j d Hd.out 1 _ rfl; have y2 := HM7.out.cl j d Hd.out 2 _ rfl; have y3 := HM7.out.cl j d Hd.out 3 _ rfl; have y4 := HM7.out.cl j d Hd.out 4 _ rfl; have y5 := HM7.out.cl j d Hd.out 5 _ rfl; have y7 := HM7.out.cl j d Hd.out 7 _ rfl; have y8 := HM7.out.cl j d Hd.out 8 _ rfl; have cg7 := (HM7.out.cg j false Hgj.out).1; have fg7 := (HM7.out.cg j false Hgj.out).2;  clear hf' hm' hb7))
                          go_roundw
                          case rel => exact ⟨j + 1, by omega, by go_num, HM7.out, HFr7.out, none_succ HNo.out (by rw [HC.out, hu2, ha2]; rfl)⟩
                          case measure => simp [intOf]; omega
                      · have hz : d.un = 0 := by omega
                        have hu2 : decide (0 < d.un) = false := by simpa using hu
                        have hz2 : (d.un == 0) = true := by simpa using hz
                        by_cases hk2 : kd = 2
                        · go_wp2_with (first | (go_at_call 19; refine Calls.mono HOn.out ?_; rintro e w7 ⟨fa', fcap', gs', rfl, hfc', hf', hm', hb7⟩; dsimp only; have HF7 : Hid (FeatsQ (fun b => b ≠ gb) w7 fa' gs') := FeatsQ.mono (fun b hb => hb.elim id (fun h e => by have := HMq.out.gb_lt; omega)) hf'; have Hm7 : Hid (gs'.map (·.f) = fsR (gs.map (·.f)) (askZ d.q)) := hm'; have HB7 : Hid (Below wr.heap.size wr w7) := hb7; have HM7 : Hid (RowM w7 b0 lb gb L g) := HMq.out.grow hb7; have HFr7 : Hid (Fr (fun c _ => c = gb) w0 w7) := HFq.out.trans (Fr.of_below hb7); have y0 : w7.cell? ⟨lb, j * 9, none⟩ = _ := HM7.out.cl j d Hd.out 0 _ rfl; have y1 := HM7.out.cl j d Hd.out 1 _ rfl; have y2 := HM7.out.cl j d Hd.out 2 _ rfl; have y3 := HM7.out.cl j d Hd.out 3 _ rfl; have y4 := HM7.out.cl j d Hd.out 4 _ rfl; have y5 := HM7.out.cl j d Hd.out 5 _ rfl; have y7 := HM7.out.cl j d Hd.out 7 _ rfl; have y8 := HM7.out.cl j d Hd.out 8 _ rfl; have cg7 := (HM7.out.cg j false Hgj.out).1; have fg7 := (HM7.out.cg j false Hgj.out).2; rw [hz] at y7; clear hf' hm' hb7) | (go_at_call 46; refine Calls.mono (HKd.out _) ?_; rintro e w8 ⟨rfl, hb8⟩; dsimp only; have HB8 : Hid (Below w7.heap.size w7 w8) := hb8; have cg8 := ((HM7.out.grow hb8).cg j false Hgj.out).1; have fg8 := ((HM7.out.grow hb8).cg j false Hgj.out).2; clear hb8))
                          go_roundw
                          case rel => exact ⟨j + 1, by omega, by go_num, HM7.out.grow HB8.out, HFr7.out.trans (Fr.of_below HB8.out), none_succ HNo.out (by rw [HC.out, hz2, decide_eq_true hk2]; simp)⟩
                          case measure => simp [intOf]; omega
                        · have hcand : candB L g (gs.map (·.f)) j = true := by rw [HC.out, hu2, hz2, decide_eq_false hk2]; rfl
                          have hk3 : (kd == 2) = false := by simpa using hk2
                          cases hrb : rowB (leftG (g.set j true)) L (g.set j true) (fsR (gs.map (·.f)) (askZ d.q)) with
                          | true =>
                            go_wp2_with (first | (go_at_call 19; refine Calls.mono HOn.out ?_; rintro e w7 ⟨fa', fcap', gs', rfl, hfc', hf', hm', hb7⟩; dsimp only; have HF7 : Hid (FeatsQ (fun b => b ≠ gb) w7 fa' gs') := FeatsQ.mono (fun b hb => hb.elim id (fun h e => by have := HMq.out.gb_lt; omega)) hf'; have Hm7 : Hid (gs'.map (·.f) = fsR (gs.map (·.f)) (askZ d.q)) := hm'; have HB7 : Hid (Below wr.heap.size wr w7) := hb7; have HM7 : Hid (RowM w7 b0 lb gb L g) := HMq.out.grow hb7; have HFr7 : Hid (Fr (fun c _ => c = gb) w0 w7) := HFq.out.trans (Fr.of_below hb7); have y0 : w7.cell? ⟨lb, j * 9, none⟩ = _ := HM7.out.cl j d Hd.out 0 _ rfl; have y1 := HM7.out.cl j d Hd.out 1 _ rfl; have y2 := HM7.out.cl j d Hd.out 2 _ rfl; have y3 := HM7.out.cl j d Hd.out 3 _ rfl; have y4 := HM7.out.cl j d Hd.out 4 _ rfl; have y5 := HM7.out.cl j d Hd.out 5 _ rfl; have y7 := HM7.out.cl j d Hd.out 7 _ rfl; have y8 := HM7.out.cl j d Hd.out 8 _ rfl; have cg7 := (HM7.out.cg j false Hgj.out).1; have fg7 := (HM7.out.cg j false Hgj.out).2; rw [hz] at y7; clear hf' hm' hb7) | (go_at_call 46; refine Calls.mono (HKd.out _) ?_; rintro e w8 ⟨rfl, hb8⟩; dsimp only; have HB8 : Hid (Below w7.heap.size w7 w8) := hb8; have cg8 := ((HM7.out.grow hb8).cg j false Hgj.out).1; have fg8 := ((HM7.out.grow hb8).cg j false Hgj.out).2; clear hb8) | (go_at_call 25; obtain ⟨hM8, hF8, hcall⟩ := row_tail HM7.out HFr7.out HF7.out HB8.out hjL h8 hcand Hgj.out hfc' (by rw [Hm7.out]; exact fsR_ok Hok.out _) Hih.out; refine Calls.mono hcall ?_; rintro e w9 ⟨rfl, hM9, hF9⟩; rw [Hm7.out, hrb]; dsimp only; have HM9 : Hid (RowM w9 b0 lb gb L (g.set j true)) := hM9; have HF9 : Hid (Fr (fun c _ => c = gb) w0 w9) := hF8.trans hF9; have c9 := (HM9.out.cg j true Hgs.out).1; have f9 := (HM9.out.cg j true Hgs.out).2; clear hM8 hF8 hcall hM9 hF9))
                            have HM10 : Hid (RowM (w9.setCell ⟨gb, j, none⟩ (.bool false)) b0 lb gb L g) := HM9.out.back hjL h8 Hgj.out
                            have HF10 : Hid (Fr (fun c _ => c = gb) w0 (w9.setCell ⟨gb, j, none⟩ (.bool false))) := HF9.out.setCell (b := gb) (i := j) (.inl rfl) _
                            go_ret
                            refine ⟨?_, HM10.out, by rw [Hw0.out]; exact HF10.out⟩
                            rw [row_found' (k := j) hjL hcand (by rw [HAsk.out]; exact hrb)]
                            rfl
                          | false =>
                            go_wp2_with (first | (go_at_call 19; refine Calls.mono HOn.out ?_; rintro e w7 ⟨fa', fcap', gs', rfl, hfc', hf', hm', hb7⟩; dsimp only; have HF7 : Hid (FeatsQ (fun b => b ≠ gb) w7 fa' gs') := FeatsQ.mono (fun b hb => hb.elim id (fun h e => by have := HMq.out.gb_lt; omega)) hf'; have Hm7 : Hid (gs'.map (·.f) = fsR (gs.map (·.f)) (askZ d.q)) := hm'; have HB7 : Hid (Below wr.heap.size wr w7) := hb7; have HM7 : Hid (RowM w7 b0 lb gb L g) := HMq.out.grow hb7; have HFr7 : Hid (Fr (fun c _ => c = gb) w0 w7) := HFq.out.trans (Fr.of_below hb7); have y0 : w7.cell? ⟨lb, j * 9, none⟩ = _ := HM7.out.cl j d Hd.out 0 _ rfl; have y1 := HM7.out.cl j d Hd.out 1 _ rfl; have y2 := HM7.out.cl j d Hd.out 2 _ rfl; have y3 := HM7.out.cl j d Hd.out 3 _ rfl; have y4 := HM7.out.cl j d Hd.out 4 _ rfl; have y5 := HM7.out.cl j d Hd.out 5 _ rfl; have y7 := HM7.out.cl j d Hd.out 7 _ rfl; have y8 := HM7.out.cl j d Hd.out 8 _ rfl; have cg7 := (HM7.out.cg j false Hgj.out).1; have fg7 := (HM7.out.cg j false Hgj.out).2; rw [hz] at y7; clear hf' hm' hb7) | (go_at_call 46; refine Calls.mono (HKd.out _) ?_; rintro e w8 ⟨rfl, hb8⟩; dsimp only; have HB8 : Hid (Below w7.heap.size w7 w8) := hb8; have cg8 := ((HM7.out.grow hb8).cg j false Hgj.out).1; have fg8 := ((HM7.out.grow hb8).cg j false Hgj.out).2; clear hb8) | (go_at_call 25; obtain ⟨hM8, hF8, hcall⟩ := row_tail HM7.out HFr7.out HF7.out HB8.out hjL h8 hcand Hgj.out hfc' (by rw [Hm7.out]; exact fsR_ok Hok.out _) Hih.out; refine Calls.mono hcall ?_; rintro e w9 ⟨rfl, hM9, hF9⟩; rw [Hm7.out, hrb]; dsimp only; have HM9 : Hid (RowM w9 b0 lb gb L (g.set j true)) := hM9; have HF9 : Hid (Fr (fun c _ => c = gb) w0 w9) := hF8.trans hF9; have c9 := (HM9.out.cg j true Hgs.out).1; have f9 := (HM9.out.cg j true Hgs.out).2; clear hM8 hF8 hcall hM9 hF9))
                            have HM10 : Hid (RowM (w9.setCell ⟨gb, j, none⟩ (.bool false)) b0 lb gb L g) := HM9.out.back hjL h8 Hgj.out
                            have HF10 : Hid (Fr (fun c _ => c = gb) w0 (w9.setCell ⟨gb, j, none⟩ (.bool false))) := HF9.out.setCell (b := gb) (i := j) (.inl rfl) _
                            go_roundw
                            case rel => exact ⟨j + 1, by omega, by go_num, HM10.out, HF10.out, none_succ HNo.out (by rw [HAsk.out, show leftG g - 1 = leftG (g.set j true) by have := left_set (cand_gone hcand); omega, hrb, Bool.and_false])⟩
                            case measure => simp [intOf]; omega
          · obtain rfl : j = k := by omega
            go_wp2
            go_ret
            refine ⟨?_, HM.out, by rw [Hw0.out]; exact HFr.out⟩
            rw [row_none' HO.out (by rw [← Hn.out]; exact HNo.out)]
            rfl
end Go.Proofs.YtenaepdmlknlcaaGreatDoor
