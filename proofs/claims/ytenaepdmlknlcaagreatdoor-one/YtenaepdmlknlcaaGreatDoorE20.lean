import Derived.Test.YtenaepdmlknlcaaGreatDoorE19
import Derived.Conc.SmallLaws
namespace Go.Proofs.YtenaepdmlknlcaaGreatDoor
open Go.Conc Go.RowKit Go.Shelf

/-- The first step of a request, as a value; what it points at lies from n0 on. -/
def FirstV (n0 : Nat) (w' : World) : Rd → Value → Prop
  | .bad, v => v = .func (.func 176) #[] #[]
  | .get t m, v => v = .func (.func 174) #[getV t m 0 none] #[]
  | .del id, v => v = .func (.func 175) #[chgV id none 0] #[]
  | .put f, v => ∃ (R : Nat) (a : Option Addr) (n cap : Nat), v = .func (.func 175) #[chgV f.id (some ⟨R, 5, none⟩) 0] #[] ∧ n0 ≤ R ∧ KA w' R [.int .i64 2, .int .i64 0, .int .i64 0, .int .i64 0, .string ⟨#[]⟩, .int .i64 f.id, .int .i64 f.kd, .int .i64 f.ht, .int .i64 f.col, .slice a n cap, .int .i64 0] ∧ n = f.ps.length ∧ n ≤ cap ∧ PtsAt w'.heap.size w' a f.ps ∧ ∀ g o, a = some ⟨g, o, none⟩ → n0 ≤ g ∧ o = 0

theorem FirstV.fr {M : Nat → Nat → Prop} {W W' : World} (hf : Fr M W W') {n0 : Nat} {rd : Rd} {v : Value} (h : FirstV n0 W rd v) (hM : ∀ k j, n0 ≤ k → ¬ M k j) : FirstV n0 W' rd v := by
  cases rd with
  | bad => exact h
  | get t m => exact h
  | del id => exact h
  | put f =>
    obtain ⟨R, a, n, cap, e, h1, h2, h3, h4, h5, h6⟩ := h
    exact ⟨R, a, n, cap, e, h1, h2.fr hf (fun i => hM R i h1), h3, h4, h5.fr hf (fun g o i ea => hM g i (h6 g o ea).1), h6⟩

theorem First_any (n0 : Nat) (rd : Rd) (vs : Array Value) (w : World) (hn : n0 ≤ w.heap.size) (h : RdVal n0 w rd vs) :
    Calls Tryz.prog 151 #[.agg vs] w fun e w' => ∃ f b, e = .returned (.func f b #[]) ∧ FirstV n0 w' rd (.func f b #[]) ∧ Below w.heap.size w w' := by
  cases rd with
  | bad =>
    have h' : vs = zeroR.toArray := h
    subst h'
    exact (First_bad w).mono fun _ _ ⟨he, hb⟩ => ⟨_, _, he, rfl, hb⟩
  | get t m =>
    have h' : vs = _ := h
    subst h'
    exact (First_get t m w).mono fun _ _ ⟨he, hb⟩ => ⟨_, _, he, rfl, hb⟩
  | del id =>
    have h' : vs = _ := h
    subst h'
    exact (First_del id w).mono fun _ _ ⟨he, hb⟩ => ⟨_, _, he, rfl, hb⟩
  | put f =>
    obtain ⟨a, n, cap, rfl, h1, h2, h3, h4⟩ := h
    exact (First_put f.id f.kd f.ht f.col a n cap w).mono fun _ w' ⟨he, hk, _, hb⟩ => ⟨_, _, he, ⟨w.heap.size, a, n, cap, rfl, hn, hk, h1, h2, h3.fr (M := fun _ _ => False) (Fr.of_below hb) (fun _ _ _ _ e => e), h4⟩, hb⟩

theorem nm152 : (Tryz.f152.name == "runtime.NumGoroutine") = false := by decide
theorem nm151 : (Tryz.f151.name == "runtime.NumGoroutine") = false := by decide

set_option maxRecDepth 100000 in
set_option maxHeartbeats 1000000 in
theorem begin_some (A o c cap sn r : Nat) (buf : Array Value) (s : ByteArray) (hs : s.size ≤ 200) (w : World) (g : Gl w) (h8 : 8 ≤ c) (hc : w.cell? ⟨A, o, none⟩ = some (.chan (some c))) (hn : w.cell? ⟨A, o + 1, none⟩ = some .nilFunc) (hf : w.frozen? ⟨A, o + 1, none⟩ = false) (hch : w.heap[c]? = some (.chan cap buf false sn r false)) (hb : 0 < buf.size) (hb0 : buf.getD 0 undef = .string s) :
    Calls Tryz.prog 119 #[.pointer (some ⟨A, o, none⟩)] w fun e w' => e = .returned (.bool true) ∧ ∃ f b, w'.cell? ⟨A, o + 1, none⟩ = some (.func f b #[]) ∧ w'.frozen? ⟨A, o + 1, none⟩ = false ∧ FirstV w.heap.size w' (readP s) (.func f b #[]) ∧ w'.heap[c]? = some (.chan cap (buf.extract 1 buf.size) false sn (r + 1) false) ∧ Fr (fun k j => (k = c ∧ j = 0) ∨ (k = A ∧ j = o + 1)) w w' := by
  have hA : A < w.heap.size := World.block_lt_of_cell? w _ hc
  have hcl : c < w.heap.size := (Array.getElem?_eq_some_iff.1 hch).1
  have hAc : A ≠ c := fun e => by subst e; simp [World.cell?, hch] at hc
  have hsz : (w.setChan c cap (buf.extract 1 buf.size) false sn (r + 1) false).heap.size = w.heap.size := size_setChan _ _ _ _ _ _ _ _
  have hW1 : Fr (fun k j => k = c ∧ j = 0) w (w.setChan c cap (buf.extract 1 buf.size) false sn (r + 1) false) := (Fr.refl _ w).setChan (.inl ⟨rfl, rfl⟩) _ _ _ _ _ _ ⟨_, _, _, _, _, _, hch⟩
  have hG1 : Gl (w.setChan c cap (buf.extract 1 buf.size) false sn (r + 1) false) := g.fr hW1 (fun k j hk e => by omega)
  refine calls_of_loneTo fun cs => ?_
  have e : Frame.enter Tryz.prog 119 #[.pointer (some ⟨A, o, none⟩)] .normal = (base 119).at ⟨#[.pointer (some ⟨A, o, none⟩), undef, undef, undef, undef, undef, undef, undef, undef, undef, undef, undef, undef, undef, undef, undef, undef, undef], []⟩ [.code (Tryz.f119.body.getD .skip)] := by
    simp [Frame.enter, Frame.at, Tryz.func119, base, Tryz.f119]
  rw [e]
  refine LoneTo.goes (n := 12) ?_
  simp only [Tryz.f119, Option.getD_some]
  s_c stepG_seq
  s_reg
  s_op
  s_c stepG_region_end
  s_c stepG_seq
  s_reg
  s_op
  s_op
  s_op
  s_op
  s_c stepG_region_end
  s_c stepG_seq
  s_stop
  refine LoneTo.goes (n := 1) ?_
  s_reg
  s_stop
  refine LoneTo.step (step_lone_select_recv_buf (c := c) (z := .string ⟨#[]⟩) (cap := cap) (s := sn) (r := r) (tm := false) (stepG_comm (cases := #[rcase c (.string ⟨#[]⟩)]) (blocking := false) (shape := .select) (w' := w) rfl rfl (by decide) (by simp [go_sem, execOp, rcase, Act.eval])) hch hb) ?_
  rw [Frame.finish_at, hb0]
  walk_nrm
  refine LoneTo.goes (n := 12) ?_
  s_op
  s_op
  s_c stepG_region_end
  s_c stepG_block
  s_cond true
  s_c stepG_seq
  s_reg
  s_op
  s_op
  s_c stepG_region_end
  s_c stepG_seq
  s_stop
  refine LoneTo.goes (n := 4) ?_
  s_reg
  s_op
  s_op
  s_in
  refine goes_call rfl rfl (by decide) rfl Tryz.func152 nm152 rfl ⟨trivial, ?_⟩
  s_stop
  rw [← enter_at _ Tryz.func152 rfl]
  simp only [List.map_toArray, List.map_cons, List.map_nil, Act.eval]
  refine LoneTo.call (Read_any s hs _ hG1) ?_
  rintro _ w2 ⟨vs, rfl, hrd, hb2⟩
  refine ⟨_, rfl, ?_⟩
  rw [Frame.finish_at]
  walk_nrm
  refine LoneTo.goes (n := 1) ?_
  s_in
  refine goes_call rfl rfl (by decide) rfl Tryz.func151 nm151 rfl ⟨trivial, ?_⟩
  s_stop
  rw [← enter_at _ Tryz.func151 rfl]
  simp only [List.map_toArray, List.map_cons, List.map_nil, Act.eval]
  refine LoneTo.call (First_any _ _ vs _ hb2.size hrd) ?_
  rintro _ w3 ⟨f, b, rfl, hfv, hb3⟩
  refine ⟨_, rfl, ?_⟩
  rw [Frame.finish_at]
  walk_nrm
  rw [hsz] at hb2 hfv
  have hs2 : w.heap.size ≤ w2.heap.size := by have := hb2.size; rw [hsz] at this; exact this
  have hb2' : Below w2.heap.size w2 w3 := hb3
  have hF2 : Fr (fun k j => k = c ∧ j = 0) w w2 := hW1.trans (Fr.of_below (by rw [hsz]; exact hb2))
  have hF3 : Fr (fun k j => k = c ∧ j = 0) w w3 := hF2.trans (Fr.of_below hb3)
  have c3 : w3.cell? ⟨A, o + 1, none⟩ = some .nilFunc := (hF3.cell A _ hA (fun e => hAc e.1)).trans hn
  have f3 : w3.frozen? ⟨A, o + 1, none⟩ = false := (hF3.frozen A _ hA (fun e => hAc e.1)).trans hf
  have q3 : w3.heap[c]? = some (.chan cap (buf.extract 1 buf.size) false sn (r + 1) false) := (hb3.block c (by omega)).trans ((hb2.block c (by omega)).trans (heap_setChan w c cap _ false sn (r + 1) false hcl))
  refine LoneTo.goes (n := 12) ?_
  s_op
  s_op
  s_op
  s_c stepG_region_end
  s_c stepG_seq
  s_reg
  s_op
  s_c stepG_region_end
  s_c stepG_ret'
  s_stop
  refine LoneTo.done ⟨.returned (.bool true), _, rfl, ⟨rfl, f, b, cell_eq c3 _, by rw [World.frozen?_setCell]; exact f3, hfv.fr (frB A w3 (o + 1) _) (fun k j hk e => by have : k = A := e; omega), ?_, ?_⟩, rfl, rfl, rfl, rfl, _, Tryz.func119, by simp [results, Tryz.f119, Frame.at]⟩
  · rw [Below.heap_setCell _ _ _ _ (fun e => hAc e.symm)]; exact q3
  · exact (hF3.mono fun k j e => .inl e).setCell (b := A) (i := o + 1) (.inl (.inr ⟨rfl, rfl⟩)) _

end Go.Proofs.YtenaepdmlknlcaaGreatDoor

namespace Go.Proofs.YtenaepdmlknlcaaGreatDoor
open Go.Conc Go.RowKit Go.Shelf

/-- The queue of a session at the place (A, o), and how many requests stand in it: one that is worked at has left the channel. -/
structure QuAt (w : World) (A o c cap : Nat) (buf : Array Value) (sn r : Nat) (nx : Value) : Prop where
  c0 : w.cell? ⟨A, o, none⟩ = some (.chan (some c))
  c1 : w.cell? ⟨A, o + 1, none⟩ = some nx
  ch : w.heap[c]? = some (.chan cap buf false sn r false)
  le : buf.size ≤ 1000
  nx : nx = .nilFunc ∨ ∃ f b, nx = .func f b #[]
def busyN : Value → Nat | .nilFunc => 0 | _ => 1

theorem waiting_any (A o c cap : Nat) (buf : Array Value) (sn r : Nat) (nx : Value) (w : World) (h : QuAt w A o c cap buf sn r nx) :
    Calls Tryz.prog 50 #[.pointer (some ⟨A, o, none⟩)] w fun e w' => e = .returned (.int .i64 ((buf.size : Int) + (busyN nx : Nat))) ∧ w' = w := by
  obtain ⟨c0, c1, ch, le, hnx⟩ := h
  rcases hnx with rfl | ⟨f, b, rfl⟩
  · exact (waiting_idle A o c cap buf false sn r w c0 c1 ch).mono fun _ _ ⟨he, hw⟩ => ⟨by rw [he]; simp [busyN], hw⟩
  · exact (waiting_busy A o c cap buf false sn r f b #[] w c0 c1 ch le).mono fun _ _ ⟨he, hw⟩ => ⟨by rw [he]; simp [busyN], hw⟩

set_option maxRecDepth 100000 in
set_option maxHeartbeats 1000000 in
theorem Send_ok (A k c cap : Nat) (buf : Array Value) (sn r : Nat) (nx : Value) (s : ByteArray) (w : World) (hk : k < 4) (h : QuAt w A (11 + k * 3) c cap buf sn r nx) (hfull : buf.size + busyN nx < 6) (hs : s.size ≤ 200) (hcap : 6 ≤ cap) :
    Calls Tryz.prog 42 #[.pointer (some ⟨A, 0, none⟩), .int .i64 (k : Int), .string s] w fun e w' => e = .returned (.int .i64 0) ∧ w' = w.setChan c cap (buf.push (.string s)) false (sn + 1) r false := by
  have hd : decide (0 ≤ (k : Int) ∧ (k : Int) < 4) = true := decide_eq_true (by omega)
  have HW : Hid _ := waiting_any A (11 + k * 3) c cap buf sn r nx w h
  have hk0 : (0 : Int) ≤ (k : Int) := by omega
  have hk4 : (k : Int) < 4 := by omega
  obtain ⟨q, hq⟩ : ∃ q : Int, (buf.size : Int) + (busyN nx : Nat) = q := ⟨_, rfl⟩
  have hq6 : ¬ 6 ≤ q := by omega
  have hs' : ¬ (200 : Int) < (s.size : Int) := by omega
  rw [hq] at HW
  refine calls_of_loneTo fun cs => ?_
  have e : Frame.enter Tryz.prog 42 #[.pointer (some ⟨A, 0, none⟩), .int .i64 (k : Int), .string s] .normal = (base 42).at ⟨#[.pointer (some ⟨A, 0, none⟩), .int .i64 (k : Int), .string s, undef, undef, undef, undef, undef, undef, undef, undef, undef, undef, undef, undef, undef, undef, undef, undef, undef, undef, undef, undef, undef, undef, undef, undef], []⟩ [.code (Tryz.f42.body.getD .skip)] := by
    simp [Frame.enter, Frame.at, Tryz.func42, base, Tryz.f42]
  rw [e]
  refine LoneTo.goes (n := 12) ?_
  simp only [Tryz.f42, Option.getD_some]
  s_c stepG_seq
  s_reg
  s_op
  s_c stepG_region_end
  s_c stepG_seq
  s_c stepG_seq
  s_reg
  s_op
  s_in
  refine goes_call rfl rfl (by decide) rfl Tryz.func76 (by decide) rfl ⟨trivial, ?_⟩
  s_stop
  rw [← enter_at _ Tryz.func76 rfl]
  simp only [List.map_toArray, List.map_cons, List.map_nil, Act.eval]
  refine LoneTo.call (isSession_any (k : Int) w) ?_
  rintro _ w1 ⟨rfl, rfl⟩
  refine ⟨_, rfl, ?_⟩
  rw [Frame.finish_at, hd]
  walk_nrm
  refine LoneTo.goes (n := 16) ?_
  s_op
  s_c stepG_region_end
  s_cond false
  s_c stepG_skip
  s_c stepG_seq
  s_reg
  s_op
  s_op
  s_op
  s_op
  s_op
  s_op
  s_c stepG_region_end
  s_c stepG_seq
  s_c stepG_seq
  s_stop
  refine LoneTo.goes (n := 3) ?_
  s_reg
  s_op
  s_in
  refine goes_call rfl rfl (by decide) rfl Tryz.func50 (by decide) rfl ⟨trivial, ?_⟩
  s_stop
  rw [← enter_at _ Tryz.func50 rfl]
  simp only [List.map_toArray, List.map_cons, List.map_nil, Act.eval]
  refine LoneTo.call HW.out ?_
  rintro _ w2 ⟨rfl, rfl⟩
  refine ⟨_, rfl, ?_⟩
  rw [Frame.finish_at]
  walk_nrm
  refine LoneTo.goes (n := 12) ?_
  s_op
  s_c stepG_region_end
  s_cond false
  s_c stepG_skip
  s_c stepG_seq
  s_c stepG_seq
  s_reg
  s_op
  s_op
  s_op
  s_c stepG_region_end
  s_cond false
  s_stop
  refine LoneTo.goes (n := 6) ?_
  s_c stepG_skip
  s_c stepG_seq
  s_reg
  have hch := h.ch
  have c0 := h.c0
  s_op
  s_op
  s_op
  s_stop
  refine LoneTo.goes (n := 2) ?_
  s_op
  s_op
  s_stop
  refine LoneTo.step (step_lone_send_room (c := c) (v := .string s) (z' := .tuple #[]) (cap := cap) (s := sn) (r := r) (tm := false) (stepG_comm (cases := #[scase c (.string s) (.tuple #[])]) (blocking := true) (shape := .send) (w' := w2) rfl rfl (by decide) (by simp [go_sem, execOp, scase, Act.eval])) hch (by omega)) ?_
  rw [Frame.finish_at]
  walk_nrm
  refine LoneTo.goes (n := 5) ?_
  s_c stepG_region_end
  s_c stepG_seq
  s_reg
  s_op
  s_c stepG_region_end
  s_stop
  refine LoneTo.goes (n := 1) ?_
  s_c stepG_ret'
  s_stop
  refine LoneTo.done ⟨.returned (.int .i64 0), _, rfl, ⟨rfl, rfl⟩, rfl, rfl, rfl, rfl, _, Tryz.func42, by simp [results, Tryz.f42, Frame.at]⟩

end Go.Proofs.YtenaepdmlknlcaaGreatDoor

namespace Go.Proofs.YtenaepdmlknlcaaGreatDoor
open Go.RowKit Go.Shelf

/-- A function with a body, called. -/
def Enters (f : Nat) : Prop := ∀ (a : Array Value) (w : World), Sem.run Tryz.prog (callFunc f a) w = .ok (.enter f a) w

set_option maxRecDepth 100000 in
set_option maxHeartbeats 1000000 in
/-- A pick of a session that has a step to do. -/
theorem pick_blocked (A o mo f : Nat) (b : Array Value) (w : World) (_hA : A < w.heap.size) (h1 : w.cell? ⟨A, o + 1, none⟩ = some (.func (.func f) b #[])) (hE : Enters f)
    (hC : Calls Tryz.prog f (b.push (.pointer (some ⟨A, mo, none⟩))) w fun e w' => e = .returned (.agg #[.bool true, .nilFunc, .string ⟨#[]⟩]) ∧ Below w.heap.size w w') :
    Calls Tryz.prog 77 #[.pointer (some ⟨A, o, none⟩), .pointer (some ⟨A, mo, none⟩)] w fun e w' => e = .returned (.bool false) ∧ Below w.heap.size w w' := by
  have HC : Hid _ := hC
  clear hC
  have heq := eql_fn (.func f) b #[]
  have hE' := hE (b.push (.pointer (some ⟨A, mo, none⟩))) w
  clear hE
  go_enter Tryz.func77, Tryz.ntmps77
  go_wp2_with (refine Calls.mono HC.out ?_; rintro e w1 ⟨rfl, hb1⟩; dsimp only)
  go_ret
  exact ⟨rfl, hb1.alloc hb1.size _⟩

end Go.Proofs.YtenaepdmlknlcaaGreatDoor

namespace Go.Proofs.YtenaepdmlknlcaaGreatDoor
open Go.RowKit Go.Shelf

/-- A session's answers: a row of our own. -/
structure AnsAt (w : World) (A o : Nat) (v : Value) (xs : List Value) : Prop where
  c : w.cell? ⟨A, o + 2, none⟩ = some v
  f : w.frozen? ⟨A, o + 2, none⟩ = false
  own : w.ownsRow 0 9 1 v xs.length xs
  ne : v.ownBlock ≠ some A
  lt : xs.length ≤ 8000000

set_option maxRecDepth 100000 in
set_option maxHeartbeats 1000000 in
/-- A pick whose step answers. -/
theorem pick_answer (A o mo f : Nat) (b : Array Value) (an : ByteArray) (v : Value) (xs : List Value) (R : World → Prop) (w : World) (h1 : w.cell? ⟨A, o + 1, none⟩ = some (.func (.func f) b #[])) (hE : Enters f) (hl : xs.length + 1 ≤ 8000000)
    (hC : Calls Tryz.prog f (b.push (.pointer (some ⟨A, mo, none⟩))) w fun e w' => e = .returned (.agg #[.bool false, .nilFunc, .string an]) ∧ R w')
    (hR : ∀ w', R w' → (w'.cell? ⟨A, o + 1, none⟩ = some (.func (.func f) b #[]) ∧ w'.frozen? ⟨A, o + 1, none⟩ = false) ∧ AnsAt w' A o v xs) :
    Calls Tryz.prog 77 #[.pointer (some ⟨A, o, none⟩), .pointer (some ⟨A, mo, none⟩)] w fun e w' => e = .returned (.bool true) ∧ ∃ w1 v', R w1 ∧ AnsAt w' A o v' (xs ++ [.string an]) ∧ (∀ k, v'.ownBlock = some k → v.ownBlock = some k ∨ w1.heap.size ≤ k) ∧ w'.cell? ⟨A, o + 1, none⟩ = some .nilFunc ∧ w'.frozen? ⟨A, o + 1, none⟩ = false ∧ Fr (fun c j => (c = A ∧ (j = o + 1 ∨ j = o + 2)) ∨ v.ownBlock = some c) w1 w' := by
  have HC : Hid _ := hC
  clear hC
  have heq := eql_fn (.func f) b #[]
  have heq' := eql_nilF
  have hE' := hE (b.push (.pointer (some ⟨A, mo, none⟩))) w
  have HL : Hid (xs.length + 1 ≤ 8000000) := hl
  obtain ⟨i9, hi0, hz0, hz1, hz2⟩ := info_parts info9
  have HI : Hid (Tryz.prog.info? 9 = some i9 ∧ i9.zero = some (.string ⟨#[]⟩) ∧ i9.size = 1 ∧ i9.bytes = 16) := ⟨hi0, hz0, hz1, hz2⟩
  clear hE hl hi0 hz0 hz1 hz2
  go_enter Tryz.func77, Tryz.ntmps77
  go_wp2_with (refine Calls.mono HC.out ?_; rintro e w1 ⟨rfl, hR1⟩; dsimp only; obtain ⟨⟨q1, q2⟩, ⟨q3, q4, q5, q6, q7⟩⟩ := hR w1 hR1; have HO : Hid _ := q5; have HN : Hid (v.ownBlock ≠ some A) := q6; have HO' : Hid ((w1.setCell ⟨A, o + 1, none⟩ .nilFunc).ownsRow 0 9 1 v xs.length xs) := ownsRow_fr' (frB A w1 (o + 1) _) q5 (fun k i hk e => q6 (hk.trans (congrArg some e))); have hA1 : A < w1.heap.size := World.block_lt_of_cell? w1 _ q1; clear q5 q6 q7)
  go_region_law (refine step_append_any rfl (.tmp 38) (.tmp 41) 79 rfl 9 i9 (.string ⟨#[]⟩) 1 16 Tryz.underlying79 HI.out.1 HI.out.2.1 HI.out.2.2.1 HI.out.2.2.2 rfl (by decide) v xs.length xs rfl ((HO'.out.alloc _).alloc _) ⟨w1.heap.size + 1, 0, none⟩ 1 1 [.string an] rfl rfl (fun j u hj => by
        rw [addr_add]
        match j, hj with
        | 0, hj => simp at hj; subst hj; simp [go_sem]
        | j + 1, hj => simp at hj) (fun u hu => by simp at hu; subst hu; rfl) (by have := HL.out; unfold maxLen; omega) (by have := HL.out; omega) ?_; intro v3 w3 hown3 hfr3 hF3; obtain ⟨g3, c3, rfl, _, _⟩ := ownsRow_more hown3; have Hown3 : Hid _ := hown3; have Hfr3 : Hid _ := hfr3; have c3' : w3.cell? ⟨A, o + 2, none⟩ = some v := ((hF3.cell A (o + 2) (by simp; omega) (fun e => HN.out e)).trans (by simp [go_sem, hA1, q3])); have f3' : w3.frozen? ⟨A, o + 2, none⟩ = false := ((hF3.frozen A (o + 2) (by simp; omega) (fun e => HN.out e)).trans (by simp [go_sem, hA1, q4])); have d3' : w3.cell? ⟨A, o + 1, none⟩ = some .nilFunc := ((hF3.cell A (o + 1) (by simp; omega) (fun e => HN.out e)).trans (by simp [go_sem, hA1, q1])); have e3' : w3.frozen? ⟨A, o + 1, none⟩ = false := ((hF3.frozen A (o + 1) (by simp; omega) (fun e => HN.out e)).trans (by simp [go_sem, hA1, q2])); clear hown3 hfr3)
  all_goals
    have hfr : ∀ k, (some g3 : Option Nat) = some k → v.ownBlock = some k ∨ w1.heap.size + 1 + 1 ≤ k := fun k hk => by
      have := Hfr3.out k hk
      simpa using this
    have hgA : g3 ≠ A := fun e => (hfr A (by rw [e])).elim HN.out (fun h => by omega)
    go_wp2
    go_ret
    refine ⟨rfl, w1, _, hR1, ⟨cell_eq c3' _, by rw [World.frozen?_setCell]; exact f3', ?_, fun e => hgA (Option.some.inj e), by rw [List.length_append]; exact HL.out⟩, fun k hk => (hfr k hk).imp _root_.id (fun h => by omega), ?_, ?_, ?_⟩
    · rw [List.length_append]
      exact ownsRow_fr' (frB A w3 (o + 2) _) Hown3.out (fun c _ hc e => by have h1 : g3 = c := Option.some.inj hc; have h2 : c = A := e; exact hgA (h1.trans h2))
    · exact (cell_ne _ _ (.inr (by omega))).trans d3'
    · rw [World.frozen?_setCell]; exact e3'
    · exact ((((((Fr.refl _ w1).setCell (b := A) (i := o + 1) (.inl (.inl ⟨rfl, .inl rfl⟩)) _).alloc _).alloc _).drew).trans (hF3.mono fun c i e => .inr e)).setCell (b := A) (i := o + 2) (.inl (.inl ⟨rfl, .inr rfl⟩)) _

end Go.Proofs.YtenaepdmlknlcaaGreatDoor

namespace Go.Proofs.YtenaepdmlknlcaaGreatDoor
open Go.RowKit Go.Shelf

set_option maxRecDepth 100000 in
set_option maxHeartbeats 1000000 in
/-- A pick of a session that has nothing to do. -/
theorem pick_idle (A o mo c cap s r : Nat) (w : World) (hc : w.cell? ⟨A, o, none⟩ = some (.chan (some c))) (hn : w.cell? ⟨A, o + 1, none⟩ = some .nilFunc) (hch : w.heap[c]? = some (.chan cap #[] false s r false)) :
    Calls Tryz.prog 77 #[.pointer (some ⟨A, o, none⟩), .pointer (some ⟨A, mo, none⟩)] w fun e w' => e = .returned (.bool false) ∧ w' = w := by
  have HB : Hid _ := begin_empty A o c cap s r w hc hch
  have heq := eql_nilF
  clear hch
  go_enter Tryz.func77, Tryz.ntmps77
  go_wp2_with (go_at_call 119; refine Calls.mono HB.out ?_; rintro e w0 ⟨rfl, rfl⟩; dsimp only)
  go_ret
  exact ⟨rfl, rfl⟩

set_option maxRecDepth 100000 in
set_option maxHeartbeats 1000000 in
/-- A pick that begins a request, whose first step is blocked. -/
theorem pick_begin_blocked (A o mo : Nat) (B : World → Prop) (w : World) (hn : w.cell? ⟨A, o + 1, none⟩ = some .nilFunc)
    (hB : Calls Tryz.prog 119 #[.pointer (some ⟨A, o, none⟩)] w fun e w' => e = .returned (.bool true) ∧ B w')
    (hX : ∀ w0, B w0 → ∃ f b, w0.cell? ⟨A, o + 1, none⟩ = some (.func (.func f) b #[]) ∧ Enters f ∧ Calls Tryz.prog f (b.push (.pointer (some ⟨A, mo, none⟩))) w0 fun e w' => e = .returned (.agg #[.bool true, .nilFunc, .string ⟨#[]⟩]) ∧ Below w0.heap.size w0 w') :
    Calls Tryz.prog 77 #[.pointer (some ⟨A, o, none⟩), .pointer (some ⟨A, mo, none⟩)] w fun e w' => e = .returned (.bool false) ∧ ∃ w0, B w0 ∧ Below w0.heap.size w0 w' := by
  have HB : Hid _ := hB
  have HX : Hid _ := hX
  have heq0 := eql_nilF
  clear hB hX
  go_enter Tryz.func77, Tryz.ntmps77
  go_wp2_with (first
    | (go_at_call 119; refine Calls.mono HB.out ?_; rintro e w0 ⟨rfl, hB0⟩; dsimp only; obtain ⟨f, b, p1, hE, hC⟩ := HX.out w0 hB0; have heq := eql_fn (.func f) b #[]; have hE' := hE (b.push (.pointer (some ⟨A, mo, none⟩))) w0; have HC : Hid _ := hC; clear hE hC)
    | (refine Calls.mono HC.out ?_; rintro e w1 ⟨rfl, hb1⟩; dsimp only))
  go_ret
  exact ⟨rfl, w0, hB0, hb1.alloc hb1.size _⟩

set_option maxRecDepth 100000 in
set_option maxHeartbeats 1000000 in
/-- A pick that begins a request, whose first step is followed by another. -/
theorem pick_begin_then (A o mo : Nat) (B : World → Prop) (R : World → Fn → Array Value → World → Prop) (w : World) (hn : w.cell? ⟨A, o + 1, none⟩ = some .nilFunc)
    (hB : Calls Tryz.prog 119 #[.pointer (some ⟨A, o, none⟩)] w fun e w' => e = .returned (.bool true) ∧ B w')
    (hX : ∀ w0, B w0 → ∃ f b, w0.cell? ⟨A, o + 1, none⟩ = some (.func (.func f) b #[]) ∧ Enters f ∧ Calls Tryz.prog f (b.push (.pointer (some ⟨A, mo, none⟩))) w0 fun e w' => ∃ f' b', e = .returned (.agg #[.bool false, .func f' b' #[], .string ⟨#[]⟩]) ∧ R w0 f' b' w' ∧ w'.cell? ⟨A, o + 1, none⟩ = some (.func (.func f) b #[]) ∧ w'.frozen? ⟨A, o + 1, none⟩ = false) :
    Calls Tryz.prog 77 #[.pointer (some ⟨A, o, none⟩), .pointer (some ⟨A, mo, none⟩)] w fun e w' => e = .returned (.bool true) ∧ ∃ w0, B w0 ∧ ∃ f' b' w1, R w0 f' b' w1 ∧ w' = (w1.setCell ⟨A, o + 1, none⟩ (.func f' b' #[])).alloc (.cells #[.bool false, .func f' b' #[], .string ⟨#[]⟩] 231) := by
  have HB : Hid _ := hB
  have HX : Hid _ := hX
  have heq0 := eql_nilF
  clear hB hX
  go_enter Tryz.func77, Tryz.ntmps77
  go_wp2_with (first
    | (go_at_call 119; refine Calls.mono HB.out ?_; rintro e w0 ⟨rfl, hB0⟩; dsimp only; obtain ⟨f, b, p1, hE, hC⟩ := HX.out w0 hB0; have heq := eql_fn (.func f) b #[]; have hE' := hE (b.push (.pointer (some ⟨A, mo, none⟩))) w0; have HC : Hid _ := hC; clear hE hC)
    | (refine Calls.mono HC.out ?_; rintro e w1 ⟨f', b', rfl, hR1, q1, q2⟩; dsimp only; have heq' := eql_fn f' b' #[]; have hA1 : A < w1.heap.size := World.block_lt_of_cell? w1 _ q1))
  go_ret
  exact ⟨rfl, w0, hB0, f', b', w1, hR1, rfl⟩

end Go.Proofs.YtenaepdmlknlcaaGreatDoor

namespace Go.Proofs.YtenaepdmlknlcaaGreatDoor
open Go.RowKit Go.Shelf

set_option maxRecDepth 100000 in
set_option maxHeartbeats 1000000 in
/-- A pick that begins a request, whose first step answers. -/
theorem pick_begin_answer (A o mo : Nat) (v : Value) (xs : List Value) (B : World → Prop) (R : World → ByteArray → World → Prop) (w : World) (hn : w.cell? ⟨A, o + 1, none⟩ = some .nilFunc) (hl : xs.length + 1 ≤ 8000000)
    (hB : Calls Tryz.prog 119 #[.pointer (some ⟨A, o, none⟩)] w fun e w' => e = .returned (.bool true) ∧ B w')
    (hX : ∀ w0, B w0 → ∃ f b, w0.cell? ⟨A, o + 1, none⟩ = some (.func (.func f) b #[]) ∧ Enters f ∧ Calls Tryz.prog f (b.push (.pointer (some ⟨A, mo, none⟩))) w0 fun e w' => ∃ an, e = .returned (.agg #[.bool false, .nilFunc, .string an]) ∧ R w0 an w' ∧ (w'.cell? ⟨A, o + 1, none⟩ = some (.func (.func f) b #[]) ∧ w'.frozen? ⟨A, o + 1, none⟩ = false) ∧ AnsAt w' A o v xs) :
    Calls Tryz.prog 77 #[.pointer (some ⟨A, o, none⟩), .pointer (some ⟨A, mo, none⟩)] w fun e w' => e = .returned (.bool true) ∧ ∃ w0, B w0 ∧ ∃ an w1 v', R w0 an w1 ∧ AnsAt w' A o v' (xs ++ [.string an]) ∧ (∀ k, v'.ownBlock = some k → v.ownBlock = some k ∨ w1.heap.size ≤ k) ∧ w'.cell? ⟨A, o + 1, none⟩ = some .nilFunc ∧ w'.frozen? ⟨A, o + 1, none⟩ = false ∧ Fr (fun c j => (c = A ∧ (j = o + 1 ∨ j = o + 2)) ∨ v.ownBlock = some c) w1 w' := by
  have HB : Hid _ := hB
  have HX : Hid _ := hX
  have heq0 := eql_nilF
  have HL : Hid (xs.length + 1 ≤ 8000000) := hl
  obtain ⟨i9, hi0, hz0, hz1, hz2⟩ := info_parts info9
  have HI : Hid (Tryz.prog.info? 9 = some i9 ∧ i9.zero = some (.string ⟨#[]⟩) ∧ i9.size = 1 ∧ i9.bytes = 16) := ⟨hi0, hz0, hz1, hz2⟩
  clear hB hX hl hi0 hz0 hz1 hz2
  go_enter Tryz.func77, Tryz.ntmps77
  go_wp2_with (first
    | (go_at_call 119; refine Calls.mono HB.out ?_; rintro e w0 ⟨rfl, hB0⟩; dsimp only; obtain ⟨f, b, p1, hE, hC⟩ := HX.out w0 hB0; have heq := eql_fn (.func f) b #[]; have hE' := hE (b.push (.pointer (some ⟨A, mo, none⟩))) w0; have HC : Hid _ := hC; clear hE hC)
    | (refine Calls.mono HC.out ?_; rintro e w1 ⟨an, rfl, hR1, ⟨q1, q2⟩, ⟨q3, q4, q5, q6, q7⟩⟩; dsimp only; have HN : Hid (v.ownBlock ≠ some A) := q6; have HO' : Hid ((w1.setCell ⟨A, o + 1, none⟩ .nilFunc).ownsRow 0 9 1 v xs.length xs) := ownsRow_fr' (frB A w1 (o + 1) _) q5 (fun k i hk e => q6 (hk.trans (congrArg some e))); have hA1 : A < w1.heap.size := World.block_lt_of_cell? w1 _ q1; clear q5 q6 q7))
  go_region_law (refine step_append_any rfl (.tmp 38) (.tmp 41) 79 rfl 9 i9 (.string ⟨#[]⟩) 1 16 Tryz.underlying79 HI.out.1 HI.out.2.1 HI.out.2.2.1 HI.out.2.2.2 rfl (by decide) v xs.length xs rfl ((HO'.out.alloc _).alloc _) ⟨w1.heap.size + 1, 0, none⟩ 1 1 [.string an] rfl rfl (fun j u hj => by
        rw [addr_add]
        match j, hj with
        | 0, hj => simp at hj; subst hj; simp [go_sem]
        | j + 1, hj => simp at hj) (fun u hu => by simp at hu; subst hu; rfl) (by have := HL.out; unfold maxLen; omega) (by have := HL.out; omega) ?_; intro v3 w3 hown3 hfr3 hF3; obtain ⟨g3, c3, rfl, _, _⟩ := ownsRow_more hown3; have Hown3 : Hid _ := hown3; have Hfr3 : Hid _ := hfr3; have c3' : w3.cell? ⟨A, o + 2, none⟩ = some v := ((hF3.cell A (o + 2) (by simp; omega) (fun e => HN.out e)).trans (by simp [go_sem, hA1, q3])); have f3' : w3.frozen? ⟨A, o + 2, none⟩ = false := ((hF3.frozen A (o + 2) (by simp; omega) (fun e => HN.out e)).trans (by simp [go_sem, hA1, q4])); have d3' : w3.cell? ⟨A, o + 1, none⟩ = some .nilFunc := ((hF3.cell A (o + 1) (by simp; omega) (fun e => HN.out e)).trans (by simp [go_sem, hA1, q1])); have e3' : w3.frozen? ⟨A, o + 1, none⟩ = false := ((hF3.frozen A (o + 1) (by simp; omega) (fun e => HN.out e)).trans (by simp [go_sem, hA1, q2])); clear hown3 hfr3)
  all_goals
    have hfr : ∀ k, (some g3 : Option Nat) = some k → v.ownBlock = some k ∨ w1.heap.size + 1 + 1 ≤ k := fun k hk => by
      have := Hfr3.out k hk
      simpa using this
    have hgA : g3 ≠ A := fun e => (hfr A (by rw [e])).elim HN.out (fun h => by omega)
    go_wp2
    go_ret
    refine ⟨rfl, w0, hB0, an, w1, _, hR1, ⟨cell_eq c3' _, by rw [World.frozen?_setCell]; exact f3', ?_, fun e => hgA (Option.some.inj e), by rw [List.length_append]; exact HL.out⟩, fun k hk => (hfr k hk).imp _root_.id (fun h => by omega), ?_, ?_, ?_⟩
    · rw [List.length_append]
      exact ownsRow_fr' (frB A w3 (o + 2) _) Hown3.out (fun c _ hc e => by have h1 : g3 = c := Option.some.inj hc; have h2 : c = A := e; exact hgA (h1.trans h2))
    · exact (cell_ne _ _ (.inr (by omega))).trans d3'
    · rw [World.frozen?_setCell]; exact e3'
    · exact ((((((Fr.refl _ w1).setCell (b := A) (i := o + 1) (.inl (.inl ⟨rfl, .inl rfl⟩)) _).alloc _).alloc _).drew).trans (hF3.mono fun c i e => .inr e)).setCell (b := A) (i := o + 2) (.inl (.inl ⟨rfl, .inr rfl⟩)) _

end Go.Proofs.YtenaepdmlknlcaaGreatDoor

namespace Go.Proofs.YtenaepdmlknlcaaGreatDoor
open Go.RowKit Go.Shelf

theorem enters174 : Enters 174 := fun _ _ => by kernel_rfl
theorem enters175 : Enters 175 := fun _ _ => by kernel_rfl
theorem enters176 : Enters 176 := fun _ _ => by kernel_rfl
theorem enters191 : Enters 191 := fun _ _ => by kernel_rfl
theorem enters193 : Enters 193 := fun _ _ => by kernel_rfl
theorem enters205 : Enters 205 := fun _ _ => by kernel_rfl
theorem enters208 : Enters 208 := fun _ _ => by kernel_rfl

set_option maxRecDepth 100000 in
set_option maxHeartbeats 1000000 in
theorem Pick_any (A k : Nat) (bl : Bool) (R : World → Prop) (w : World) (hk : k < 4) (h : Calls Tryz.prog 77 #[.pointer (some ⟨A, 11 + k * 3, none⟩), .pointer (some ⟨A, 0, none⟩)] w.drew fun e w' => e = .returned (.bool bl) ∧ R w') :
    Calls Tryz.prog 43 #[.pointer (some ⟨A, 0, none⟩), .int .i64 (k : Int)] w fun e w' => e = .returned (.tuple #[.bool bl, .int .i64 0]) ∧ R w' := by
  have hd : decide (0 ≤ (k : Int) ∧ (k : Int) < 4) = true := decide_eq_true (by omega)
  have HP : Hid _ := h
  have hk0 : (0 : Int) ≤ (k : Int) := by omega
  have hk4 : (k : Int) < 4 := by omega
  clear h
  go_enter Tryz.func43, Tryz.ntmps43
  go_wp2_with (go_at_call 76; refine (isSession_any (k : Int) _).mono ?_; rintro e w1 ⟨rfl, rfl⟩; rw [hd]; dsimp only)
  go_region_with (go_at_call 77; refine Calls.mono HP.out ?_; rintro e w2 ⟨rfl, hR⟩; dsimp only)
  all_goals
    go_wp2
    exact bodyPost_ret (v := .tuple #[.bool bl, .int .i64 0]) (by simp [results, Tryz.results43, go_sem]) rfl ⟨rfl, hR⟩

set_option maxRecDepth 100000 in
set_option maxHeartbeats 1000000 in
theorem Answers_any (A k : Nat) (v : Option Addr) (n cap : Nat) (w : World) (hk : k < 4) (hv : w.cell? ⟨A, 11 + k * 3 + 2, none⟩ = some (.slice v n cap)) (hf : w.frozen? ⟨A, 11 + k * 3 + 2, none⟩ = false) :
    Calls Tryz.prog 44 #[.pointer (some ⟨A, 0, none⟩), .int .i64 (k : Int)] w fun e w' => e = .returned (.tuple #[.slice v n cap, .int .i64 0]) ∧ w' = w.setCell ⟨A, 11 + k * 3 + 2, none⟩ (.slice none 0 0) := by
  have hd : decide (0 ≤ (k : Int) ∧ (k : Int) < 4) = true := decide_eq_true (by omega)
  have HP : Hid _ := tellS_any A (11 + k * 3) v n cap w hv hf
  have hk0 : (0 : Int) ≤ (k : Int) := by omega
  have hk4 : (k : Int) < 4 := by omega
  clear hv hf
  go_enter Tryz.func44, Tryz.ntmps44
  go_wp2_with (first
    | (go_at_call 76; refine (isSession_any (k : Int) _).mono ?_; rintro e w1 ⟨rfl, rfl⟩; rw [hd]; dsimp only)
    | (go_at_call 78; refine Calls.mono HP.out ?_; rintro e w1 ⟨rfl, rfl⟩; dsimp only))
  exact bodyPost_ret (v := .tuple #[.slice v n cap, .int .i64 0]) (by simp [results, Tryz.results44, go_sem]) rfl ⟨rfl, rfl⟩

end Go.Proofs.YtenaepdmlknlcaaGreatDoor

namespace Go.Proofs.YtenaepdmlknlcaaGreatDoor
open Go.RowKit Go.Shelf

theorem heap_alloc2 (w : World) (a b : Obj) : ((w.alloc a).alloc b).heap[w.heap.size + 1]? = some b := by
  have h : (w.alloc a).heap.size = w.heap.size + 1 := by simp
  show ((w.alloc a).heap.push b)[w.heap.size + 1]? = some b
  rw [← h]
  exact Array.getElem?_push_size

set_option maxRecDepth 100000 in
set_option maxHeartbeats 1000000 in
theorem newSession_any (w : World) :
    Calls Tryz.prog 75 #[] w fun e w' => e = .returned (.agg #[.chan (some (w.heap.size + 1)), .nilFunc, .slice none 0 0]) ∧ w'.heap[w.heap.size + 1]? = some (.chan 6 #[] false 0 0 false) ∧ w'.heap.size = w.heap.size + 2 ∧ Below w.heap.size w w' := by
  obtain ⟨i9, hi0, _, _, hz2⟩ := info_parts info9
  have hmk : ∀ W : World, Sem.run Tryz.prog (Instr.makeChan 129 (Value.int IntKind.i64 6)) W = .ok (.chan (some W.heap.size)) (W.alloc (.chan 6 #[] false 0 0 false)) := fun W => Conc.run_makeChan (P := Tryz.prog) Tryz.underlying129 hi0 .i64 6 (by decide) (by rw [hz2]; decide)
  clear hi0 hz2
  go_enter Tryz.func75, Tryz.ntmps75
  go_wp2_with fail
  exact bodyPost_ret (v := .agg #[.chan (some (w.heap.size + 1)), .nilFunc, .slice none 0 0]) (by simp [results, Tryz.results75, go_sem]) rfl ⟨rfl, heap_alloc2 w _ _, by simp, below2 w _ _⟩

end Go.Proofs.YtenaepdmlknlcaaGreatDoor

namespace Go.Proofs.YtenaepdmlknlcaaGreatDoor
open Go.RowKit Go.Shelf

set_option maxRecDepth 100000 in
set_option maxHeartbeats 1000000 in
theorem shNew_any (n : Int) (w : World) :
    Calls Tryz.prog 74 #[.int .i64 n] w fun e w' => e = .returned (.agg #[.int .i64 n, .slice none 0 0, .int .i64 0, .slice none 0 0, .int .i64 0, .slice none 0 0, .int .i64 0, .slice none 0 0, .int .i64 0]) ∧ Below w.heap.size w w' := by
  go_enter Tryz.func74, Tryz.ntmps74
  go_wp2
  exact bodyPost_ret (v := .agg #[.int .i64 n, .slice none 0 0, .int .i64 0, .slice none 0 0, .int .i64 0, .slice none 0 0, .int .i64 0, .slice none 0 0, .int .i64 0]) (by simp [results, Tryz.results74, go_sem]) rfl ⟨rfl, (Below.refl _ _).alloc (Nat.le_refl _) _⟩

end Go.Proofs.YtenaepdmlknlcaaGreatDoor
