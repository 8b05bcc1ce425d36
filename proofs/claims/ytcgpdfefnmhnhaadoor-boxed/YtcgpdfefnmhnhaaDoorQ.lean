import Derived.Test.YtcgpdfefnmhnhaaDoorP
namespace Go.Proofs.YtcgpdfefnmhnhaaDoor
open Go.RowKit Go.Shelf

attribute [local go_sem] Oper.semAt_some

theorem RoundIn_any {F : Fence} (hd : F.depth = none) {m m' : Nat} {P : Program} {l : Nat} {f : FuncId} {tmps : Array Value} {assign body : Code} {w : World} {R : Ending → World → Prop}
    (h : RoundIn F m P l f tmps assign body w R) : RoundIn F m' P l f tmps assign body w R := ⟨h.1, fun c cs _ => h.2 c cs (room_none' hd _)⟩
theorem YieldAt_any {F : Fence} (hd : F.depth = none) {m : Nat} (m' : Nat) {P : Program} {l : Nat} {args : Array Value} {W : World} {R : Ending → World → Prop} (h : YieldAt F m P l args W R) : YieldAt F m' P l args W R := by
  obtain ⟨fn, tmps, assign, body, hy, hR⟩ := h
  exact ⟨fn, tmps, assign, body, hy, RoundIn_any hd hR⟩

set_option maxHeartbeats 400000 in
theorem Meeting_any (p : Option Addr) (x : Bx) (w : World) :
    Calls Tryd.prog 30 #[.agg #[.pointer p], .agg #[.int .i64 x.l, .int .i64 x.t, .int .i64 x.r, .int .i64 x.b]] w fun e w' => e = .returned (.func (.func 47) #[] #[.pointer (some ⟨w.heap.size, 0, none⟩), .pointer (some ⟨w.heap.size + 1, 0, none⟩)]) ∧ w' = (w.alloc (.cells #[.pointer p] 41)).alloc (.cells #[.int .i64 x.l, .int .i64 x.t, .int .i64 x.r, .int .i64 x.b] 48) := by
  go_enter Tryd.func30, Tryd.ntmps30
  go_wp2
  go_ret
  exact ⟨rfl, rfl⟩

set_option maxHeartbeats 2000000 in
theorem meeting_stops (ok : Nat → Prop) (w0 : World) (T n0 n d q Bt Bb : Nat) (vs : List FV) (x y : Bx) (w : World) (hT : ∀ b, ok b → b ≠ T) (hlt : ∀ b, ok b → b < n0) (hTn : T < n0) (hn0 : n0 ≤ w.heap.size)
    (hBt : w.cell? ⟨Bt, 0, none⟩ = some (.pointer (some ⟨q, 0, none⟩))) (hBb : C4 w Bb x) (hIT : IsT ok w d q vs y) (hg : ∀ v ∈ vs, Good ok w0 v) :
    SeqStopsK Fence.wide n Tryd.prog 47 #[.pointer (some ⟨Bt, 0, none⟩), .pointer (some ⟨Bb, 0, none⟩)] (fun v : { v : FV // Good ok w0 v } => #[encF v.1]) (KeepC T) (fun ys => ys.map Subtype.val = vs.filter (meetF x)) (fun _ => True) vs.length w := by
  intro l J Jx W hW hJ hJx hY h0
  refine callsIn_wide.2 ?_
  have hE := each_any ok w0 T l vs.length n0 x J Jx (fun m pre v W hj hl => YieldAt_any rfl m (hY pre v W hj hl)) (fun pre A B hj hb => hJ pre A B none hj (grown_of_below hb) (fun r e => by cases e)) hT hlt hTn d q vs y [] W
    (hIT.same (Same.of_below hW (fun b hb => Nat.lt_of_lt_of_le (hlt b hb) hn0))) hg (Nat.le_trans hn0 hW.size) h0 (by simp)
  have HE : Hid _ := hE
  have e0 := (hW.cell (p := ⟨Bt, 0, none⟩) (cell_lt hBt)).trans hBt
  obtain ⟨b0, b1, b2, b3⟩ := hBb.below hW (cell_lt hBb.c0)
  clear hE hJ hJx hY h0 hIT hBt hBb
  show Calls Tryd.prog 47 #[.func (.yield l) #[] #[], .pointer (some ⟨Bt, 0, none⟩), .pointer (some ⟨Bb, 0, none⟩)] W _
  go_enter Tryd.func47, Tryd.ntmps47
  go_wp2_with (go_at_call 48; refine Calls.mono HE.out ?_; rintro e W3 (⟨rfl, ⟨ys, hys, hj⟩, hk⟩ | ⟨rfl, zs, hjx⟩))
  · go_end0
    exact ⟨⟨_, rfl⟩, .inl ⟨ys, hys, by simpa using hj⟩⟩
  · go_end0
    exact ⟨⟨_, rfl⟩, .inr ⟨zs, trivial, by simpa using hjx⟩⟩

/-- The feature that is seen so far. -/
def pickV (x : Bx) (o : Option FV) (v : FV) : Option FV :=
  if coverB v.f.kd v.f.ps x.l x.t x.r x.b then
    match o with
    | none => some v
    | some u => if aboveB v.f.ht v.f.id u.f.ht u.f.id then some v else some u
  else o
def topOf (x : Bx) (vs : List FV) : Option FV := vs.foldl (pickV x) none
def tid : Option FV → Int
  | none => 0
  | some v => v.f.id
def tkd : Option FV → Int
  | none => 0
  | some v => v.f.kd
def tht : Option FV → Int
  | none => 0
  | some v => v.f.ht
def tcol : Option FV → Int
  | none => 0
  | some v => v.f.col
def tsl : Option FV → Value
  | none => .slice none 0 0
  | some v => .slice (some ⟨v.pb, v.po, none⟩) v.f.ps.length v.cap

/-- Five cells of a block, which may be written. -/
structure Q5 (w : World) (b : Nat) (v0 v1 v2 v3 v4 : Value) : Prop where
  c0 : w.cell? ⟨b, 0, none⟩ = some v0
  c1 : w.cell? ⟨b, 1, none⟩ = some v1
  c2 : w.cell? ⟨b, 2, none⟩ = some v2
  c3 : w.cell? ⟨b, 3, none⟩ = some v3
  c4 : w.cell? ⟨b, 4, none⟩ = some v4
  f0 : w.frozen? ⟨b, 0, none⟩ = false
  f1 : w.frozen? ⟨b, 1, none⟩ = false
  f2 : w.frozen? ⟨b, 2, none⟩ = false
  f3 : w.frozen? ⟨b, 3, none⟩ = false
  f4 : w.frozen? ⟨b, 4, none⟩ = false
theorem Q5.below {n : Nat} {A B : World} (h : Below n A B) {b : Nat} (hb : b < n) {v0 v1 v2 v3 v4 : Value} (q : Q5 A b v0 v1 v2 v3 v4) : Q5 B b v0 v1 v2 v3 v4 := by
  obtain ⟨hc, hf⟩ := bcell h
  exact ⟨(hc _ _ hb).trans q.c0, (hc _ _ hb).trans q.c1, (hc _ _ hb).trans q.c2, (hc _ _ hb).trans q.c3, (hc _ _ hb).trans q.c4, (hf _ _ hb).trans q.f0, (hf _ _ hb).trans q.f1, (hf _ _ hb).trans q.f2, (hf _ _ hb).trans q.f3, (hf _ _ hb).trans q.f4⟩
theorem Q5.kept {A B : World} {row : Option Nat} {b : Nat} {v0 v1 v2 v3 v4 : Value} (q : Q5 A b v0 v1 v2 v3 v4) (hg : A.grownBy B row) (hr : ∀ r, row = some r → ∃ o : Obj, A.heap[r]? = some o ∧ o.isCells = false) : Q5 B b v0 v1 v2 v3 v4 :=
  ⟨cell_kept q.c0 hg hr, cell_kept q.c1 hg hr, cell_kept q.c2 hg hr, cell_kept q.c3 hg hr, cell_kept q.c4 hg hr, (frozen_kept q.c0 hg hr).trans q.f0, (frozen_kept q.c1 hg hr).trans q.f1, (frozen_kept q.c2 hg hr).trans q.f2, (frozen_kept q.c3 hg hr).trans q.f3, (frozen_kept q.c4 hg hr).trans q.f4⟩
theorem Q5.new (w : World) (v0 v1 v2 v3 v4 : Value) (t : TypeId) : Q5 (w.alloc (.cells #[v0, v1, v2, v3, v4] t)) w.heap.size v0 v1 v2 v3 v4 := by
  constructor <;> simp [go_sem]
abbrev set5 (w : World) (b : Nat) (x0 x1 x2 x3 x4 : Value) : World := ((((w.setCell ⟨b, 0, none⟩ x0).setCell ⟨b, 1, none⟩ x1).setCell ⟨b, 2, none⟩ x2).setCell ⟨b, 3, none⟩ x3).setCell ⟨b, 4, none⟩ x4
theorem Q5.set {w : World} {b : Nat} {v0 v1 v2 v3 v4 : Value} (q : Q5 w b v0 v1 v2 v3 v4) (x0 x1 x2 x3 x4 : Value) : Q5 (set5 w b x0 x1 x2 x3 x4) b x0 x1 x2 x3 x4 := by
  obtain ⟨c0, c1, c2, c3, c4, f0, f1, f2, f3, f4⟩ := q
  constructor <;> simp [set5, go_sem, c0, c1, c2, c3, c4, f0, f1, f2, f3, f4]
theorem below_set5 (n : Nat) (w : World) (b : Nat) (h : n ≤ b) (u0 u1 u2 u3 u4 : Value) : Below n w (set5 w b u0 u1 u2 u3 u4) :=
  (((((Below.refl n w).setCell (p := ⟨b, 0, none⟩) h u0).setCell (p := ⟨b, 1, none⟩) h u1).setCell (p := ⟨b, 2, none⟩) h u2).setCell (p := ⟨b, 3, none⟩) h u3).setCell (p := ⟨b, 4, none⟩) h u4
theorem C4.kept {A B : World} {row : Option Nat} {b : Nat} {x : Bx} (q : C4 A b x) (hg : A.grownBy B row) (hr : ∀ r, row = some r → ∃ o : Obj, A.heap[r]? = some o ∧ o.isCells = false) : C4 B b x :=
  ⟨cell_kept q.c0 hg hr, cell_kept q.c1 hg hr, cell_kept q.c2 hg hr, cell_kept q.c3 hg hr⟩
theorem keepC_t {T : Nat} : ∀ {A B C : World}, KeepC T A B → KeepC T B C → KeepC T A C := fun h k => h.trans k
theorem keepC_b {T n : Nat} : ∀ (W : World) (l : Nat) (o o' : Obj), n ≤ l → W.heap[l]? = some o → o.isCells = false → o.isWalk = false → KeepC T W (W.putObj l o') := fun W l o o' _ hl ho _ =>
  ⟨(grownBy_putObj' W l o').size, fun b off v _ h => cell_kept h (grownBy_putObj' W l o') (fun r e => by cases e; exact ⟨o, hl, ho⟩)⟩
theorem keepC_set5 {T : Nat} (w : World) (u0 u1 u2 u3 u4 : Value) : KeepC T w (set5 w T u0 u1 u2 u3 u4) :=
  ⟨(below_set5 T w T (Nat.le_refl _) u0 u1 u2 u3 u4).size, fun b o v hb e => by
    simp only [set5]
    iterate 5 rw [World.cell?_setCell_far _ _ _ _ (fun h => hb h.symm)]
    exact e⟩

end Go.Proofs.YtcgpdfefnmhnhaaDoor
