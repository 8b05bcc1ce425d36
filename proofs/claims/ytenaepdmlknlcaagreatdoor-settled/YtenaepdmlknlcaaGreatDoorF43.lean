import Derived.Test.YtenaepdmlknlcaaGreatDoorF35
import Derived.Test.YtenaepdmlknlcaaGreatDoorF18
import Derived.Test.YtenaepdmlknlcaaGreatDoorF40
import Derived.Test.YtenaepdmlknlcaaGreatDoorF36
namespace Go.Proofs.YtenaepdmlknlcaaGreatDoor
open Go.RowKit Go.Shelf

/-! Lists of features in memory. -/
def fgV (g : FG) : List Value := [.int .i64 g.f.id, .int .i64 g.f.kd, .int .i64 g.f.ht, .int .i64 g.f.col, .slice g.a g.f.ps.length g.cap]
def flatG (l : List FG) : List Value := l.flatMap fgV
theorem flatG_append (a b : List FG) : flatG (a ++ b) = flatG a ++ flatG b := List.flatMap_append
theorem flatG_one (g : FG) : flatG [g] = fgV g := by simp [flatG]
theorem flatG_get : ∀ {l : List FG} {i : Nat} {g : FG}, l[i]? = some g → ∀ j, j < 5 → (flatG l)[i * 5 + j]? = (fgV g)[j]?
  | [], i, g, h, _, _ => by simp at h
  | x :: l, 0, g, h, j, hj => by
    simp at h; subst h
    show (fgV x ++ flatG l)[0 * 5 + j]? = _
    rw [Nat.zero_mul, Nat.zero_add, List.getElem?_append_left (by show j < 5; exact hj)]
  | x :: l, i + 1, g, h, j, hj => by
    show (fgV x ++ flatG l)[(i + 1) * 5 + j]? = _
    rw [List.getElem?_append_right (by show 5 ≤ _; omega), show (i + 1) * 5 + j - (fgV x).length = i * 5 + j by show (i + 1) * 5 + j - 5 = _; omega]
    exact flatG_get (l := l) (by simpa using h) j hj
/-- A feature's places are in memory, in blocks of Q. -/
structure FgOk (Q : Nat → Prop) (w : World) (g : FG) : Prop where
  pts : PtsAt w.heap.size w g.a g.f.ps
  cap : g.f.ps.length ≤ g.cap
  few : g.f.ps.length ≤ 6
  q : ∀ x, g.a = some x → Q x.block
/-- A list of features, all in blocks of Q. -/
def FeatsQ (Q : Nat → Prop) (w : World) (a : Option Addr) (gs : List FG) : Prop := gs = [] ∨ ∃ b off, a = some ⟨b, off, none⟩ ∧ Q b ∧ b < w.heap.size ∧ ∀ (i : Nat) g, gs[i]? = some g → FgOk Q w g ∧ ∀ j u, (fgV g)[j]? = some u → w.cell? ⟨b, off + i * 5 + j, none⟩ = some u
theorem PtsAt.frB {M : Nat → Nat → Prop} {A B : World} (h : Fr M A B) {a : Option Addr} {ps : Pts} (hp : PtsAt A.heap.size A a ps) (hm : ∀ x i, a = some x → ¬ M x.block i) : PtsAt B.heap.size B a ps := by
  rcases hp with e | ⟨b, off, e, hb, hc⟩
  · exact .inl e
  · refine .inr ⟨b, off, e, Nat.lt_of_lt_of_le hb h.size, fun k x y he => ⟨(h.cell b _ hb (hm _ _ e)).trans (hc k x y he).1, (h.cell b _ hb (hm _ _ e)).trans (hc k x y he).2⟩⟩
theorem FgOk.fr {Q : Nat → Prop} {M : Nat → Nat → Prop} {A B : World} (h : Fr M A B) {g : FG} (k : FgOk Q A g) (hm : ∀ b i, M b i → ¬ Q b) : FgOk Q B g :=
  ⟨k.pts.frB h fun x _i e hM => hm _ _ hM (k.q x e), k.cap, k.few, k.q⟩
theorem FeatsQ.fr {Q : Nat → Prop} {M : Nat → Nat → Prop} {A B : World} (h : Fr M A B) {a : Option Addr} {gs : List FG} (k : FeatsQ Q A a gs) (hm : ∀ b i, M b i → ¬ Q b) : FeatsQ Q B a gs := by
  rcases k with e | ⟨b, off, e, hq, hb, hc⟩
  · exact .inl e
  · exact .inr ⟨b, off, e, hq, Nat.lt_of_lt_of_le hb h.size, fun i g hg => ⟨(hc i g hg).1.fr h hm, fun j u hj => (h.cell b _ hb (fun hM => hm _ _ hM hq)).trans ((hc i g hg).2 j u hj)⟩⟩
theorem FeatsQ.below {Q : Nat → Prop} {A B : World} (h : Below A.heap.size A B) {a : Option Addr} {gs : List FG} (k : FeatsQ Q A a gs) : FeatsQ Q B a gs := k.fr (M := fun _ _ => False) (Fr.of_below h) (fun _ _ e => e.elim)
theorem FgOk.mono {Q R : Nat → Prop} (h : ∀ b, Q b → R b) {w : World} {g : FG} (k : FgOk Q w g) : FgOk R w g := ⟨k.pts, k.cap, k.few, fun x e => h _ (k.q x e)⟩
theorem FeatsQ.mono {Q R : Nat → Prop} (h : ∀ b, Q b → R b) {w : World} {a : Option Addr} {gs : List FG} (k : FeatsQ Q w a gs) : FeatsQ R w a gs := by
  rcases k with e | ⟨b, off, e, hq, hb, hc⟩
  · exact .inl e
  · exact .inr ⟨b, off, e, h _ hq, hb, fun i g hg => ⟨(hc i g hg).1.mono h, (hc i g hg).2⟩⟩
theorem FeatsQ.mem {Q : Nat → Prop} {w : World} {a : Option Addr} {gs : List FG} (k : FeatsQ Q w a gs) : ∀ g ∈ gs, FgOk Q w g := by
  intro g hg
  rcases k with e | ⟨b, off, e, hq, hb, hc⟩
  · rw [e] at hg; cases hg
  · obtain ⟨i, hi, e'⟩ := List.getElem_of_mem hg
    exact (hc i g (by rw [List.getElem?_eq_getElem hi, e'])).1
theorem FeatsQ.go {Q : Nat → Prop} {w : World} {a : Option Addr} {gs : List FG} (k : FeatsQ Q w a gs) : FeatsGO w a gs := by
  rcases k with e | ⟨b, off, e, hq, hb, hc⟩
  · exact .inl e
  · refine .inr ⟨b, off, e, hb, fun i g hg => ?_⟩
    obtain ⟨h1, h2⟩ := hc i g hg
    exact ⟨h2 0 _ rfl, h2 1 _ rfl, h2 2 _ rfl, h2 3 _ rfl, h2 4 _ rfl, h1.pts, h1.cap, by have := h1.few; omega⟩
theorem FeatsQ.row {Q : Nat → Prop} {w : World} {base : Nat} {v : Value} {gs : List FG} (h : w.ownsRow base 32 5 v gs.length (flatG gs)) (hq : ∀ b, v.ownBlock = some b → Q b) (hg : ∀ g ∈ gs, FgOk Q w g) : ∃ a cap, v = .slice a gs.length cap ∧ gs.length ≤ cap ∧ FeatsQ Q w a gs := by
  obtain ⟨a, cap, rfl, hc, hs⟩ := row_form h
  refine ⟨a, cap, rfl, hc, ?_⟩
  by_cases h0 : gs = []
  · exact .inl h0
  · obtain ⟨g, rfl, _⟩ := hs (List.length_pos_iff.2 h0)
    refine .inr ⟨g, 0, rfl, hq g rfl, (h.lt g rfl).2, fun i x hx => ⟨hg x (List.mem_of_getElem? hx), fun j u hj => ?_⟩⟩
    have hj5 : j < 5 := by
      have := (List.getElem?_eq_some_iff.1 hj).1
      exact this
    have hi := (List.getElem?_eq_some_iff.1 hx).1
    rw [Nat.zero_add, h.cellAt (i * 5 + j) (by omega), flatG_get hx j hj5, hj]
theorem hasF_snoc (id : Int) (fs : List Feat) (f : Feat) : hasF id (fs ++ [f]) = (hasF id fs || f.id == id) := by
  unfold hasF; simp
theorem info32 : (Tryz.prog.info? 32).map (fun i => (i.zero, i.size, i.bytes)) = some (some (.agg #[.int .i64 0, .int .i64 0, .int .i64 0, .int .i64 0, .slice none 0 0]), 5, 56) := by kernel_rfl
def notId (id : Int) (g : FG) : Bool := !(g.f.id == id)

set_option maxRecDepth 100000 in
set_option maxHeartbeats 2000000 in
theorem without_any (Q : Nat → Prop) (a : Option Addr) (n cap : Nat) (gs : List FG) (id : Int) (w : World) (h : FeatsQ Q w a gs) (hn : n = gs.length) (hcap : n ≤ cap) (hn2 : n ≤ 1000) :
    Calls Tryz.prog 48 #[.slice a n cap, .int .i64 id] w fun e w' => ∃ v, e = .returned (.tuple #[v, .bool (hasF id (gs.map (·.f)))]) ∧ w'.ownsRow w.heap.size 32 5 v (gs.filter (notId id)).length (flatG (gs.filter (notId id))) ∧ Below w.heap.size w w' := by
  have Hn : Hid (n = gs.length) := hn
  have HF : Hid (FeatsQ Q w a gs) := h
  obtain ⟨i32, hi0, hz0, hz1, hz2⟩ := info_parts info32
  have HI : Hid (Tryz.prog.info? 32 = some i32 ∧ i32.zero = some (.agg #[.int .i64 0, .int .i64 0, .int .i64 0, .int .i64 0, .slice none 0 0]) ∧ i32.size = 5 ∧ i32.bytes = 56) := ⟨hi0, hz0, hz1, hz2⟩
  clear hi0 hz0 hz1 hz2 h hn
  go_enter Tryz.func48, Tryz.ntmps48
  go_wp2
  go_loopw [6, 7, 8] (fun out is i wr => ∃ k : Nat, k ≤ n ∧ i = .int .i64 k ∧ is = .bool (hasF id ((gs.take k).map (·.f))) ∧ ∃ v, out = v ∧ wr.ownsRow w.heap.size 32 5 v ((gs.take k).filter (notId id)).length (flatG ((gs.take k).filter (notId id))) ∧ Below w.heap.size w wr) (fun _ _ i _ => n - (intOf i).toNat)
  case atStart => exact ⟨0, Nat.zero_le _, rfl, rfl, _, rfl, World.ownsRow_nil _ _ _ _, Below.refl _ _⟩
  case round =>
    obtain ⟨k, hk, rfl, rfl, out, rfl, hown, hbl⟩ := hrel
    have HOwn : Hid (wr.ownsRow w.heap.size 32 5 u6 ((gs.take k).filter (notId id)).length (flatG ((gs.take k).filter (notId id)))) := hown
    have HBl : Hid (Below w.heap.size w wr) := hbl
    clear hown
    by_cases hlt : k < n
    · obtain ⟨x, hx⟩ : ∃ x, gs[k]? = some x := ⟨_, List.getElem?_eq_getElem (by have := Hn.out; omega)⟩
      have htk : gs.take (k + 1) = gs.take k ++ [x] := by rw [List.take_add_one, hx]; rfl
      obtain ⟨b, off, rfl, hbw, hcx⟩ : ∃ b off, a = some ⟨b, off, none⟩ ∧ b < w.heap.size ∧ ∀ j u, (fgV x)[j]? = some u → w.cell? ⟨b, off + k * 5 + j, none⟩ = some u := by
        rcases HF.out with e | ⟨b, off, e, _, hb, hc⟩
        · rw [e] at hx; simp at hx
        · exact ⟨b, off, e, hb, (hc k x hx).2⟩
      have hcr : ∀ j u, (fgV x)[j]? = some u → wr.cell? ⟨b, off + k * 5 + j, none⟩ = some u := fun j u hj => (hbl.cell (p := ⟨b, off + k * 5 + j, none⟩) hbw).trans (hcx j u hj)
      have c0 : wr.cell? ⟨b, off + k * 5, none⟩ = some (.int .i64 x.f.id) := hcr 0 _ rfl
      have c1 : wr.cell? ⟨b, off + k * 5 + 1, none⟩ = some (.int .i64 x.f.kd) := hcr 1 _ rfl
      have c2 : wr.cell? ⟨b, off + k * 5 + 2, none⟩ = some (.int .i64 x.f.ht) := hcr 2 _ rfl
      have c3 : wr.cell? ⟨b, off + k * 5 + 3, none⟩ = some (.int .i64 x.f.col) := hcr 3 _ rfl
      have c4 : wr.cell? ⟨b, off + k * 5 + 4, none⟩ = some (.slice x.a x.f.ps.length x.cap) := hcr 4 _ rfl
      have hs := hbl.size
      have hkI : (k : Int) < (n : Int) := by omega
      have hkn : ¬ (k : Int) < 0 := by omega
      have hfl : ((gs.take k).filter (notId id)).length ≤ k := Nat.le_trans (List.length_filter_le _ _) (List.length_take_le _ _)
      clear hcx hcr hx hbl
      have HX1 : Hid (hasF id ((gs.take (k + 1)).map (·.f)) = (hasF id ((gs.take k).map (·.f)) || x.f.id == id)) := by show _ = _; rw [htk, List.map_append]; exact hasF_snoc _ _ _
      have HX2 : Hid ((gs.take (k + 1)).filter (notId id) = (gs.take k).filter (notId id) ++ [x].filter (notId id)) := by show _ = _; rw [htk, List.filter_append]
      clear htk
      by_cases hid : x.f.id = id
      · rw [hid] at c0
        have hf1 : [x].filter (notId id) = [] := by simp [notId, hid]
        go_wp2
        go_roundw
        case rel => exact ⟨k + 1, by omega, by go_num, by rw [HX1.out]; simp [hid], _, rfl, by rw [HX2.out, hf1, List.append_nil]; exact HOwn.out, HBl.out⟩
        case measure => simp [intOf]; omega
      · have hf1 : [x].filter (notId id) = [x] := by simp [notId, hid]
        go_wp2_with (at_builtin; refine wpList_append_own _ rfl (.tmp 22) (.tmp 27) 22 rfl w.heap.size 32 i32 (.agg #[.int .i64 0, .int .i64 0, .int .i64 0, .int .i64 0, .slice none 0 0]) 5 56 Tryz.underlying22 HI.out.1 HI.out.2.1 HI.out.2.2.1 HI.out.2.2.2 rfl (by decide) u6 ((gs.take k).filter (notId id)).length (flatG ((gs.take k).filter (notId id))) rfl (HOwn.out.alloc _) ⟨wr.heap.size, 0, none⟩ 1 1 (fgV x) rfl rfl (fun j u hj => by
                  rw [addr_add]
                  match j, hj with
                  | 0, hj => simp [fgV] at hj; subst hj; simp [go_sem]
                  | 1, hj => simp [fgV] at hj; subst hj; simp [go_sem]
                  | 2, hj => simp [fgV] at hj; subst hj; simp [go_sem]
                  | 3, hj => simp [fgV] at hj; subst hj; simp [go_sem]
                  | 4, hj => simp [fgV] at hj; subst hj; simp [go_sem]
                  | j + 5, hj => simp [fgV] at hj) (fun u hu => by simp only [fgV, List.mem_cons, List.not_mem_nil, or_false] at hu; rcases hu with hu | hu | hu | hu | hu <;> (rw [hu]; rfl)) (by unfold maxLen; omega) (by omega) (by simp; omega) ?_; intro v3 w3 hown3 hgrow3 _; have hb3 : Below w.heap.size wr w3 := ((Below.refl _ wr).alloc hs _).grown hgrow3 (by simp; omega) (fun k hk => (HOwn.out.lt k hk).1); have HO3 : Hid _ := hown3; have HB3 : Hid _ := hb3; clear hown3 hgrow3 hb3)
        go_roundw
        case rel =>
          refine ⟨k + 1, by omega, by go_num, by rw [HX1.out]; simp [hid, List.map_take], _, rfl, ?_, HBl.out.trans HB3.out⟩
          rw [HX2.out, hf1, List.length_append, flatG_append, flatG_one]
          exact HO3.out
        case measure => simp [intOf]; omega
    · obtain rfl : k = n := by omega
      have hall : gs.take k = gs := List.take_of_length_le (by have := Hn.out; omega)
      rw [hall] at HOwn
      rw [hall]
      go_wp2
      go_ret2
      exact ⟨u6, rfl, HOwn.out, HBl.out⟩

end Go.Proofs.YtenaepdmlknlcaaGreatDoor

namespace Go.Proofs.YtenaepdmlknlcaaGreatDoor
open Go.RowKit Go.Shelf

/-- What once leaves: the features behind the request, its answer. -/
def OncePost (Q : Nat → Prop) (gs : List FG) (q : Rq) (w : World) (e : Ending) (w' : World) : Prop :=
  ∃ (a' : Option Addr) (cap' : Nat) (gs' : List FG), e = .returned (.tuple #[.slice a' gs'.length cap', .string (ansR (gs.map (·.f)) (askZ q)), .bool true]) ∧ gs'.length ≤ cap' ∧ FeatsQ (fun b => Q b ∨ w.heap.size ≤ b) w' a' gs' ∧ gs'.map (·.f) = fsR (gs.map (·.f)) (askZ q) ∧ Below w.heap.size w w'
theorem ownsRow_le {w : World} {b0 b1 : Nat} {e : TypeId} {size : Nat} {v : Value} {n : Nat} {xs : List Value} (h : w.ownsRow b1 e size v n xs) (hb : b0 ≤ b1) : w.ownsRow b0 e size v n xs :=
  ⟨h.1, h.2.imp id fun ⟨g, cap, cur, e1, e2, e3⟩ => ⟨g, cap, cur, e1, Nat.le_trans hb e2, e3⟩⟩
theorem notId_map (id : Int) (gs : List FG) : (gs.filter (notId id)).map (·.f) = (gs.map (·.f)).filter fun f => !(f.id == id) := by
  rw [List.filter_map]; rfl
theorem ansF_put (had : Bool) (f : Feat) : ansF had (some f) = if had = true then ⟨#[50, 48, 48]⟩ else ⟨#[50, 48, 49]⟩ := by
  unfold ansF; simp
theorem ansF_del (had : Bool) : ansF had none = if had = true then ⟨#[50, 48, 48]⟩ else ⟨#[52, 48, 52]⟩ := by
  unfold ansF; simp
theorem Places.grow {A B : World} (h : Below A.heap.size A B) {b off : Nat} {ps : Pts} (hp : Places A.heap.size A b off ps) : Places B.heap.size B b off ps :=
  ⟨Nat.lt_of_lt_of_le hp.1 h.size, fun k x y e => ⟨(h.cell (p := ⟨b, off + k * 2, none⟩) hp.1).trans (hp.2 k x y e).1, (h.cell (p := ⟨b, off + k * 2 + 1, none⟩) hp.1).trans (hp.2 k x y e).2⟩⟩
/-- The list behind a put. -/
theorem put_list {Q : Nat → Prop} {gs : List FG} {id : Int} {w w' : World} {a : Option Addr} (h : FeatsQ Q w a gs) (hb : Below w.heap.size w w') {g : FG} (hg : FgOk (fun b => w.heap.size ≤ b) w' g) {v : Value} (hown : w'.ownsRow w.heap.size 32 5 v ((gs.filter (notId id)).length + 1) (flatG (gs.filter (notId id)) ++ fgV g)) :
    ∃ a' cap', v = .slice a' (gs.filter (notId id) ++ [g]).length cap' ∧ (gs.filter (notId id) ++ [g]).length ≤ cap' ∧ FeatsQ (fun b => Q b ∨ w.heap.size ≤ b) w' a' (gs.filter (notId id) ++ [g]) := by
  refine FeatsQ.row (base := w.heap.size) ?_ (fun b hb => .inr (hown.lt b hb).1) fun x hx => ?_
  · rw [List.length_append, flatG_append, flatG_one]; exact hown
  · rcases List.mem_append.1 hx with hx | hx
    · exact ((h.below hb).mem x (List.mem_filter.1 hx).1).mono fun b hb => .inl hb
    · rw [List.mem_singleton.1 hx]; exact hg.mono fun b hb => .inr hb

set_option maxRecDepth 100000 in
set_option maxHeartbeats 2000000 in
theorem once_put (Q : Nat → Prop) (a : Option Addr) (n cap : Nat) (gs : List FG) (q : Rq) (hq : RqOk q) (hkd : kindZ q = 0) (pa : Option Addr) (pn pc : Nat) (w : World) (h : FeatsQ Q w a gs) (hn : n = gs.length) (hcap : n ≤ cap) (hn2 : n ≤ 900) (hr : RawAt w pa pn q.ps) :
    Calls Tryz.prog 19 #[.slice a n cap, rqV q (.slice pa pn pc)] w (OncePost Q gs q w) := by
  have HK : Hid (∀ W : World, Calls Tryz.prog 46 #[rqV q (.slice pa pn pc)] W fun e w' => e = .returned (.int .i64 0) ∧ Below W.heap.size W w') := fun W => by rw [← hkd]; exact qkind_any q hq pa pn pc W
  have HFt : Hid (∀ W : World, Below w.heap.size w W → Calls Tryz.prog 47 #[rqV q (.slice pa pn pc)] W fun e w' => ∃ (b cap : Nat), e = .returned (.agg #[.int .i64 (featZ q).id, .int .i64 (featZ q).kd, .int .i64 (featZ q).ht, .int .i64 (featZ q).col, .slice (some ⟨b, 0, none⟩) (featZ q).ps.length cap]) ∧ W.heap.size ≤ b ∧ (featZ q).ps.length ≤ cap ∧ Places w'.heap.size w' b 0 (featZ q).ps ∧ Below W.heap.size W w') := fun W hW => qfeat_any q hq pa pn pc W (hr.below hW)
  have HWo : Hid (∀ W : World, Below w.heap.size w W → Calls Tryz.prog 48 #[.slice a n cap, .int .i64 (featZ q).id] W fun e w' => ∃ v, e = .returned (.tuple #[v, .bool (hasF (featZ q).id (gs.map (·.f)))]) ∧ w'.ownsRow W.heap.size 32 5 v (gs.filter (notId (featZ q).id)).length (flatG (gs.filter (notId (featZ q).id))) ∧ Below W.heap.size W w') := fun W hW => without_any Q a n cap gs (featZ q).id W (h.below hW) hn hcap (by omega)
  have HF : Hid (FeatsQ Q w a gs) := h
  have hlen : (gs.filter (notId (featZ q).id)).length ≤ 900 := by
    have := List.length_filter_le (notId (featZ q).id) gs; omega
  have hfew : (featZ q).ps.length ≤ 6 := (featZ_bd q).2.2.2.2.1
  have hask : askZ q = .put (featZ q) := by unfold askZ; rw [if_pos hkd]
  have HAns : Hid (ansR (gs.map (·.f)) (askZ q) = if hasF (featZ q).id (gs.map (·.f)) = true then ⟨#[50, 48, 48]⟩ else ⟨#[50, 48, 49]⟩) := by show _ = _; rw [hask]; exact ansF_put _ _
  have HFs : Hid (∀ (x : Option Addr) (c : Nat), (gs.filter (notId (featZ q).id) ++ [(⟨featZ q, x, c⟩ : FG)]).map (·.f) = fsR (gs.map (·.f)) (askZ q)) := fun x c => by
    rw [hask, List.map_append, notId_map]; rfl
  obtain ⟨i32, hi0, hz0, hz1, hz2⟩ := info_parts info32
  have HI : Hid (Tryz.prog.info? 32 = some i32 ∧ i32.zero = some (.agg #[.int .i64 0, .int .i64 0, .int .i64 0, .int .i64 0, .slice none 0 0]) ∧ i32.size = 5 ∧ i32.bytes = 56) := ⟨hi0, hz0, hz1, hz2⟩
  obtain ⟨⟨fi, fk, fh, fc, fp⟩, hf⟩ : ∃ f, featZ q = f := ⟨_, rfl⟩
  rw [hf] at HFt HWo hlen HAns hfew HFs
  dsimp only at HFt HWo hlen HAns hfew
  obtain ⟨rest, hrest⟩ : ∃ x, gs.filter (notId fi) = x := ⟨_, rfl⟩
  have Hrest : Hid (gs.filter (notId fi) = rest) := hrest
  rw [hrest] at HWo hlen
  clear hi0 hz0 hz1 hz2 h hr hn hf hrest hask hkd
  unfold OncePost
  rw [HAns.out]
  obtain ⟨qk, qa, qb, qc, qd, qps⟩ := q
  dsimp only [rqV] at *
  cases hh : hasF fi (gs.map (·.f))
  all_goals
    rw [hh] at HWo
    go_enter Tryz.func19, Tryz.ntmps19
    go_wp2_with (first
      | (go_at_call 46; refine Calls.mono (HK.out _) ?_; rintro e w1 ⟨rfl, hb1⟩; dsimp only; have hc : ∀ i v, (w.alloc _).cell? ⟨w.heap.size, i, none⟩ = some v → w1.cell? ⟨w.heap.size, i, none⟩ = some v := (fun i v h => (hb1.cell (p := ⟨w.heap.size, i, none⟩) (by simp)).trans h); have k0 := hc 0 (.int .i64 qk) (by simp [go_sem]); have k1 := hc 1 (.int .i64 qa) (by simp [go_sem]); have k2 := hc 2 (.int .i64 qb) (by simp [go_sem]); have k3 := hc 3 (.int .i64 qc) (by simp [go_sem]); have k4 := hc 4 (.int .i64 qd) (by simp [go_sem]); have k5 := hc 5 (.slice pa pn pc) (by simp [go_sem]); clear hc; have HB1 : Hid (Below w.heap.size w w1) := ((Below.refl _ _).alloc (Nat.le_refl _) _).trans (hb1.mono (by simp)); clear hb1)
      | (go_at_call 47; refine Calls.mono (HFt.out _ HB1.out) ?_; rintro e w2 ⟨pb, pcap, rfl, hpb, hpc, hpl, hb2⟩; dsimp only; have HB2 : Hid (Below w.heap.size w w2) := HB1.out.trans (hb2.mono HB1.out.size); have HPl : Hid (Places w2.heap.size w2 pb 0 fp) := hpl; have hpb' : w.heap.size ≤ pb := (by have := HB1.out.size; omega); clear hpl hb2)
      | (go_at_call 48; (refine Calls.mono (HWo.out _ (HB2.out.alloc HB2.out.size _)) ?_; rintro e w4 ⟨rv, rfl, hown, hb4⟩; dsimp only; have hc4 : ∀ i v, (w2.alloc _).cell? ⟨w2.heap.size, i, none⟩ = some v → w4.cell? ⟨w2.heap.size, i, none⟩ = some v := (fun i v h => (hb4.cell (p := ⟨w2.heap.size, i, none⟩) (by simp)).trans h); have m0 := hc4 0 (.int .i64 fi) (by simp [go_sem]); have m1 := hc4 1 (.int .i64 fk) (by simp [go_sem]); have m2 := hc4 2 (.int .i64 fh) (by simp [go_sem]); have m3 := hc4 3 (.int .i64 fc) (by simp [go_sem]); have m4 := hc4 4 (.slice (some ⟨pb, 0, none⟩) fp.length pcap) (by simp [go_sem]); clear hc4; have hs2 := HB2.out.size; have HB4 : Hid (Below w.heap.size w w4) := (HB2.out.alloc HB2.out.size _).trans (hb4.mono (by simp; omega)); have HO4 : Hid (w4.ownsRow w.heap.size 32 5 rv rest.length (flatG rest)) := ownsRow_le hown (by simp; omega); have HP4 : Hid (Places w4.heap.size w4 pb 0 fp) := (HPl.out.grow ((Below.refl _ _).alloc (Nat.le_refl _) _)).grow hb4; have HRb : Hid (∀ k, rv.ownBlock = some k → w2.heap.size + 1 ≤ k) := (fun k hk => by have := (hown.lt k hk).1; simpa using this); clear hown hb4))
      | (at_builtin; refine wpList_append_own _ rfl _ _ 22 rfl w.heap.size 32 i32 (.agg #[.int .i64 0, .int .i64 0, .int .i64 0, .int .i64 0, .slice none 0 0]) 5 56 Tryz.underlying22 HI.out.1 HI.out.2.1 HI.out.2.2.1 HI.out.2.2.2 rfl (by decide) rv rest.length (flatG rest) rfl (HO4.out.alloc _) ⟨w4.heap.size, 0, none⟩ 1 1 [.int .i64 fi, .int .i64 fk, .int .i64 fh, .int .i64 fc, .slice (some ⟨pb, 0, none⟩) fp.length pcap] rfl rfl (fun j u hj => by
                  rw [addr_add]
                  match j, hj with
                  | 0, hj => simp at hj; subst hj; simp [go_sem]
                  | 1, hj => simp at hj; subst hj; simp [go_sem]
                  | 2, hj => simp at hj; subst hj; simp [go_sem]
                  | 3, hj => simp at hj; subst hj; simp [go_sem]
                  | 4, hj => simp at hj; subst hj; simp [go_sem]
                  | j + 5, hj => simp at hj) (fun u hu => by simp only [List.mem_cons, List.not_mem_nil, or_false] at hu; rcases hu with hu | hu | hu | hu | hu <;> (rw [hu]; rfl)) (by unfold maxLen; omega) (by omega) (by have := HB4.out.size; simp; omega) ?_; intro v5 w5 hown5 hgrow5 _; have hb5 : Below w.heap.size w4 w5 := ((Below.refl _ w4).alloc HB4.out.size _).grown hgrow5 (by have := HB4.out.size; simp; omega) (fun k hk => (HO4.out.lt k hk).1); have HO5 : Hid (w5.ownsRow w.heap.size 32 5 v5 (rest.length + 1) (flatG rest ++ fgV ⟨⟨fi, fk, fh, fc, fp⟩, some ⟨pb, 0, none⟩, pcap⟩)) := hown5; have HG5 : Hid _ := hgrow5; have HB5 : Hid (Below w.heap.size w w5) := HB4.out.trans hb5; clear hown5 hgrow5 hb5))
    have hP5 : FgOk (fun b => w.heap.size ≤ b) w5 ⟨⟨fi, fk, fh, fc, fp⟩, some ⟨pb, 0, none⟩, pcap⟩ := by
      refine ⟨.inr ⟨pb, 0, rfl, ?_⟩, hpc, hfew, fun x e => by cases e; exact hpb'⟩
      have hlt := HP4.out.1
      have hne : ∀ k, rv.ownBlock = some k → k ≠ pb := fun k hk => by have := HRb.out k hk; have := HPl.out.1; omega
      have hcell : ∀ o, w5.cell? ⟨pb, o, none⟩ = w4.cell? ⟨pb, o, none⟩ := fun o =>
        (World.cell?_of_block (a := ⟨pb, o, none⟩) (HG5.out.block pb (by simp; omega) (fun e => hne pb e.symm rfl))).trans (((Below.refl w4.heap.size w4).alloc (Nat.le_refl _) _).cell (p := ⟨pb, o, none⟩) hlt)
      exact ⟨Nat.lt_of_lt_of_le hlt (by have := HG5.out.size; simp at this; omega), fun k x y e => ⟨(hcell _).trans (HP4.out.2 k x y e).1, (hcell _).trans (HP4.out.2 k x y e).2⟩⟩
    obtain ⟨a', cap', rfl, hc', hf'⟩ := put_list (id := fi) HF.out HB5.out hP5 (by rw [Hrest.out]; exact HO5.out)
    go_wp2
    go_ret3
    exact ⟨a', cap', _, rfl, hc', hf', HFs.out _ _, HB5.out⟩

set_option maxRecDepth 100000 in
set_option maxHeartbeats 2000000 in
theorem once_del (Q : Nat → Prop) (a : Option Addr) (n cap : Nat) (gs : List FG) (q : Rq) (hq : RqOk q) (hkd : kindZ q = 1) (pa : Option Addr) (pn pc : Nat) (w : World) (h : FeatsQ Q w a gs) (hn : n = gs.length) (hcap : n ≤ cap) (hn2 : n ≤ 900) :
    Calls Tryz.prog 19 #[.slice a n cap, rqV q (.slice pa pn pc)] w (OncePost Q gs q w) := by
  have HK : Hid (∀ W : World, Calls Tryz.prog 46 #[rqV q (.slice pa pn pc)] W fun e w' => e = .returned (.int .i64 1) ∧ Below W.heap.size W w') := fun W => by rw [← hkd]; exact qkind_any q hq pa pn pc W
  have HC1 : Hid (∀ W : World, Calls Tryz.prog 28 #[.int .i64 q.a, .int .i64 6] W fun e w' => e = .returned (.int .i64 (pkZ q.a 6)) ∧ w' = W) := fun W => kpick_any q.a 6 hq.a (by decide) (by decide) W
  obtain ⟨a0, a1⟩ := pkZ_bd q.a 6 (by decide)
  have HWo : Hid (∀ W : World, Below w.heap.size w W → Calls Tryz.prog 48 #[.slice a n cap, .int .i64 (1 + pkZ q.a 6)] W fun e w' => ∃ v, e = .returned (.tuple #[v, .bool (hasF (1 + pkZ q.a 6) (gs.map (·.f)))]) ∧ w'.ownsRow W.heap.size 32 5 v (gs.filter (notId (1 + pkZ q.a 6))).length (flatG (gs.filter (notId (1 + pkZ q.a 6)))) ∧ Below W.heap.size W w') := fun W hW => without_any Q a n cap gs _ W (h.below hW) hn hcap (by omega)
  have HF : Hid (FeatsQ Q w a gs) := h
  have hask : askZ q = .del (1 + pkZ q.a 6) := by unfold askZ; rw [if_neg (by omega), if_pos hkd]
  have HAns : Hid (ansR (gs.map (·.f)) (askZ q) = if hasF (1 + pkZ q.a 6) (gs.map (·.f)) = true then ⟨#[50, 48, 48]⟩ else ⟨#[52, 48, 52]⟩) := by show _ = _; rw [hask]; exact ansF_del _
  have HFs : Hid ((gs.filter (notId (1 + pkZ q.a 6))).map (·.f) = fsR (gs.map (·.f)) (askZ q)) := by
    show _ = _
    rw [hask, notId_map]
    show _ = newFs _ _ none
    unfold newFs; simp
  obtain ⟨x, hx⟩ : ∃ x, pkZ q.a 6 = x := ⟨_, rfl⟩
  rw [hx] at HC1 a0 a1 HWo HAns HFs
  have hw1 : IntKind.i64.wrap (1 + x) = 1 + x := by rw [IntKind.wrap_i64]; omega
  clear h hn hx hask hkd
  unfold OncePost
  rw [HAns.out]
  obtain ⟨qk, qa, qb, qc, qd, qps⟩ := q
  dsimp only [rqV] at *
  cases hh : hasF (1 + x) (gs.map (·.f))
  all_goals
    rw [hh] at HWo
    go_enter Tryz.func19, Tryz.ntmps19
    go_wp2_with (first
      | (go_at_call 46; refine Calls.mono (HK.out _) ?_; rintro e w1 ⟨rfl, hb1⟩; dsimp only; have k1 : w1.cell? ⟨w.heap.size, 1, none⟩ = some (.int .i64 qa) := (hb1.cell (p := ⟨w.heap.size, 1, none⟩) (by simp)).trans (by simp [go_sem]); have HB1 : Hid (Below w.heap.size w w1) := ((Below.refl _ _).alloc (Nat.le_refl _) _).trans (hb1.mono (by simp)); clear hb1)
      | (go_at_call 28; refine Calls.mono (HC1.out _) ?_; rintro e w2 ⟨rfl, rfl⟩; dsimp only)
      | (go_at_call 48; refine Calls.mono (HWo.out _ HB1.out) ?_; rintro e w4 ⟨rv, rfl, hown, hb4⟩; dsimp only; have hs1 := HB1.out.size; have HB4 : Hid (Below w.heap.size w w4) := HB1.out.trans (hb4.mono hs1); have HO4 : Hid (w4.ownsRow w.heap.size 32 5 rv (gs.filter (notId (1 + x))).length (flatG (gs.filter (notId (1 + x))))) := ownsRow_le hown hs1; clear hown hb4))
    obtain ⟨a', cap', rfl, hc', hf'⟩ := FeatsQ.row (Q := fun b => Q b ∨ w.heap.size ≤ b) HO4.out (fun b hb => .inr (HO4.out.lt b hb).1) (fun g hg => ((HF.out.below HB4.out).mem g (List.mem_filter.1 hg).1).mono fun b hb => .inl hb)
    go_wp2
    go_ret3
    exact ⟨a', cap', _, rfl, hc', hf', HFs.out, HB4.out⟩

end Go.Proofs.YtenaepdmlknlcaaGreatDoor

namespace Go.Proofs.YtenaepdmlknlcaaGreatDoor
open Go.RowKit Go.Shelf

theorem seen_not {gs : List FG} (hd : DistF (gs.map (·.f))) {i : Nat} {g : FG} (h : gs[i]? = some g) : seenG gs i g.f.id = false := by
  unfold seenG
  rw [List.any_eq_false]
  intro x hx
  obtain ⟨j, hj, e⟩ := List.getElem_of_mem hx
  simp at hj
  rw [List.getElem_take] at e
  intro he
  have he' : x.f.id = g.f.id := by simpa using he
  have hd' : ((gs.map (·.f)).map (·.id)).Nodup := hd
  have h1 : ((gs.map (·.f)).map (·.id))[j]? = some g.f.id := by
    rw [List.getElem?_map, List.getElem?_map, List.getElem?_eq_getElem (show j < gs.length by omega), e]
    simp [he']
  have h2 : ((gs.map (·.f)).map (·.id))[i]? = some g.f.id := by
    rw [List.getElem?_map, List.getElem?_map, h]; rfl
  have := (List.getElem?_inj (by simp; omega) hd').1 (h1.trans h2.symm)
  omega
theorem okTo_all {gs : List FG} (h : FsOk (gs.map (·.f))) : ∀ i, i ≤ gs.length → okTo gs i = true
  | 0, _ => rfl
  | i + 1, hi => by
    have hg : gs[i]? = some gs[i] := List.getElem?_eq_getElem (by omega)
    rw [okTo_succ hg, okTo_all h i (by omega), seen_not h.dist hg, h.valid gs[i].f (List.mem_map_of_mem (List.getElem_mem _))]
    rfl
theorem draw_get {gs : List FG} (h : FsOk (gs.map (·.f))) {t : Tl} (ht : t.good) : drawV gs t.z t.c t.r = .tuple #[.string (markS (bodyF (gs.map (·.f)) t)), .string (bodyF (gs.map (·.f)) t), .int .i64 0] := by
  have e : bodyR (gs.map FG.fv) (pZ t.z) t.c t.r = bodyL (gs.map (·.f)) t := bodyR_mk (by rw [List.map_map]; exact List.map_congr_left fun g _ => FG.fv_f g) t
  have ht' : tileB t.z t.c t.r = true := ht
  unfold drawV
  rw [ht', okTo_all h _ (Nat.le_refl _), e]
  rfl
theorem mark_len (l : List UInt8) : (markN l).length = 8 := by
  have h := digs16_len 7 (sumN l) (by have := sumN_lt l; omega)
  unfold markN padN
  rw [List.length_append, List.length_replicate]
  omega
theorem mark_size (b : ByteArray) : (markS b).size = 8 := by
  have := mark_len b.data.toList
  show (markN b.data.toList).toArray.size = 8
  simpa using this
theorem ansR_get (fs : List Feat) (t : Tl) (m : ByteArray) : ansR fs (.get t m) = tellS m (bodyF fs t) := rfl
theorem fsR_get (fs : List Feat) (t : Tl) (m : ByteArray) : fsR fs (.get t m) = fs := rfl
theorem tell_new (b : ByteArray) : tellS ⟨#[]⟩ b = ⟨#[50, 48, 48, 32]⟩ ++ markS b ++ ⟨#[32]⟩ ++ b := by
  unfold tellS
  rw [eqS, if_neg]
  intro e
  have h := mark_size b
  rw [← of_decide_eq_true e] at h
  revert h; decide

set_option maxRecDepth 100000 in
set_option maxHeartbeats 2000000 in
theorem once_get (Q : Nat → Prop) (a : Option Addr) (n cap : Nat) (gs : List FG) (q : Rq) (hq : RqOk q) (hkd : kindZ q = 2) (pa : Option Addr) (pn pc : Nat) (w : World) (h : FeatsQ Q w a gs) (hn : n = gs.length) (hcap : n ≤ cap) (hn2 : n ≤ 900) (hok : FsOk (gs.map (·.f))) (g : Gl w) :
    Calls Tryz.prog 19 #[.slice a n cap, rqV q (.slice pa pn pc)] w (OncePost Q gs q w) := by
  have HK : Hid (∀ W : World, Calls Tryz.prog 46 #[rqV q (.slice pa pn pc)] W fun e w' => e = .returned (.int .i64 2) ∧ Below W.heap.size W w') := fun W => by rw [← hkd]; exact qkind_any q hq pa pn pc W
  have HT : Hid (∀ W : World, Calls Tryz.prog 20 #[rqV q (.slice pa pn pc)] W fun e w' => e = .returned (.agg #[.int .i64 (tileZ q).z, .int .i64 (tileZ q).c, .int .i64 (tileZ q).r]) ∧ Below W.heap.size W w') := fun W => qtile_any q hq pa pn pc W
  have hsz : 3 < w.heap.size := by have := g.sz; omega
  have HD : Hid (∀ W : World, Below w.heap.size w W → Calls Tryz.prog 11 #[.slice a n cap, .agg #[.int .i64 (tileZ q).z, .int .i64 (tileZ q).c, .int .i64 (tileZ q).r]] W fun e w' => e = .returned (.tuple #[.string (markS (bodyF (gs.map (·.f)) (tileZ q))), .string (bodyF (gs.map (·.f)) (tileZ q)), .int .i64 0]) ∧ Below W.heap.size W w') := fun W hW => by
    have hd := Draw_any a n cap gs (tileZ q).z (tileZ q).c (tileZ q).r W (h.below hW).go hn (by omega) ((hW.cell (p := ⟨3, 15, none⟩) hsz).trans g.t3) (Nat.lt_of_lt_of_le hsz hW.size)
    rw [draw_get hok (tileZ_good q)] at hd
    exact hd
  have HF : Hid (FeatsQ Q w a gs) := h
  have hask : askZ q = .get (tileZ q) ⟨#[]⟩ := by unfold askZ; rw [if_neg (by omega), if_neg (by omega)]
  have HAns : Hid (ansR (gs.map (·.f)) (askZ q) = ⟨#[50, 48, 48, 32]⟩ ++ markS (bodyF (gs.map (·.f)) (tileZ q)) ++ ⟨#[32]⟩ ++ bodyF (gs.map (·.f)) (tileZ q)) := by show _ = _; rw [hask, ansR_get, tell_new]
  have HFs : Hid (gs.map (·.f) = fsR (gs.map (·.f)) (askZ q)) := by show _ = _; rw [hask, fsR_get]
  have hms := mark_size (bodyF (gs.map (·.f)) (tileZ q))
  have hbs := bodyF_size hok.valid (tileZ q)
  obtain ⟨bd, hbd⟩ : ∃ x, bodyF (gs.map (·.f)) (tileZ q) = x := ⟨_, rfl⟩
  rw [hbd] at HD HAns hms hbs
  obtain ⟨mk, hmk⟩ : ∃ x, markS bd = x := ⟨_, rfl⟩
  rw [hmk] at HD HAns hms
  obtain ⟨⟨tz, tc, tr⟩, ht⟩ : ∃ x, tileZ q = x := ⟨_, rfl⟩
  rw [ht] at HT HD
  dsimp only at HT HD
  have Hn : Hid (n = gs.length) := hn
  clear hbd hmk ht hask hkd h hok g hn
  unfold OncePost
  rw [HAns.out]
  have hcat1 : (9223372036854775807 < 4 + mk.size) = False := eq_false (by omega)
  have hcat2 : (9223372036854775807 < 4 + mk.size + 1) = False := eq_false (by omega)
  have hcat3 : (9223372036854775807 < 4 + mk.size + 1 + bd.size) = False := eq_false (by omega)
  obtain ⟨qk, qa, qb, qc, qd, qps⟩ := q
  dsimp only [rqV] at *
  go_enter Tryz.func19, Tryz.ntmps19
  go_wp2_with (first
    | (go_at_call 46; refine Calls.mono (HK.out _) ?_; rintro e w1 ⟨rfl, hb1⟩; dsimp only; have hc : ∀ i v, (w.alloc _).cell? ⟨w.heap.size, i, none⟩ = some v → w1.cell? ⟨w.heap.size, i, none⟩ = some v := (fun i v h => (hb1.cell (p := ⟨w.heap.size, i, none⟩) (by simp)).trans h); have k0 := hc 0 (.int .i64 qk) (by simp [go_sem]); have k1 := hc 1 (.int .i64 qa) (by simp [go_sem]); have k2 := hc 2 (.int .i64 qb) (by simp [go_sem]); have k3 := hc 3 (.int .i64 qc) (by simp [go_sem]); have k4 := hc 4 (.int .i64 qd) (by simp [go_sem]); have k5 := hc 5 (.slice pa pn pc) (by simp [go_sem]); clear hc; have HB1 : Hid (Below w.heap.size w w1) := ((Below.refl _ _).alloc (Nat.le_refl _) _).trans (hb1.mono (by simp)); clear hb1)
    | (go_at_call 20; refine Calls.mono (HT.out _) ?_; rintro e w2 ⟨rfl, hb2⟩; dsimp only; have HB2 : Hid (Below w.heap.size w w2) := HB1.out.trans (hb2.mono HB1.out.size); clear hb2)
    | (go_at_call 11; refine Calls.mono (HD.out _ HB2.out) ?_; rintro e w3 ⟨rfl, hb3⟩; dsimp only; have HB3 : Hid (Below w.heap.size w w3) := HB2.out.trans (hb3.mono HB2.out.size); clear hb3))
  go_ret3
  have hn := Hn.out
  subst hn
  exact ⟨a, cap, gs, rfl, hcap, (HF.out.below HB3.out).mono fun b hb => .inl hb, HFs.out, HB3.out⟩
/-- once, whatever the request. -/
theorem once_any (Q : Nat → Prop) (a : Option Addr) (n cap : Nat) (gs : List FG) (q : Rq) (hq : RqOk q) (pa : Option Addr) (pn pc : Nat) (w : World) (h : FeatsQ Q w a gs) (hn : n = gs.length) (hcap : n ≤ cap) (hn2 : n ≤ 900) (hr : RawAt w pa pn q.ps) (hok : FsOk (gs.map (·.f))) (g : Gl w) :
    Calls Tryz.prog 19 #[.slice a n cap, rqV q (.slice pa pn pc)] w (OncePost Q gs q w) := by
  by_cases h0 : kindZ q = 0
  · exact once_put Q a n cap gs q hq h0 pa pn pc w h hn hcap hn2 hr
  · by_cases h1 : kindZ q = 1
    · exact once_del Q a n cap gs q hq h1 pa pn pc w h hn hcap hn2
    · refine once_get Q a n cap gs q hq ?_ pa pn pc w h hn hcap hn2 hok g
      unfold kindZ at *
      split at h0
      · exact absurd rfl h0
      · rename_i h3
        rw [if_neg h3] at h1 ⊢
        split at h1
        · exact absurd rfl h1
        · rename_i h4
          rw [if_neg h4]

end Go.Proofs.YtenaepdmlknlcaaGreatDoor
