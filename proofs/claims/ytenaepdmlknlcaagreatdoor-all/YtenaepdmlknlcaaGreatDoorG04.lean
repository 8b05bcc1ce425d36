import Derived.Test.YtenaepdmlknlcaaGreatDoorG02
import Derived.Test.YtenaepdmlknlcaaGreatDoorG03
open Go.Proofs.Tryz
set_option maxRecDepth 100000
set_option maxHeartbeats 8000000
namespace Go.Proofs.YtenaepdmlknlcaaGreatDoor
section
open Go.RowKit
def Same(ok:Nat->Prop)(A B:World):Prop:=∀b o v,ok b->A.cell? ⟨b,o,none⟩=some v->B.cell? ⟨b,o,none⟩=some v
theorem Same.of_below{n:Nat}{A B:World}(h:Below n A B){ok:Nat->Prop}(hok:∀b,ok b->b<n):Same ok A B:=λb o _ hb e=>(h.cell (p:=⟨b,o,none⟩) (hok b hb)).trans e
structure FV where
 f:aW
 pb:Nat
 po:Nat
 cap:Nat
structure iy(ok:Nat->Prop)(w:World)(q:Nat)(v:FV):Prop where
 lt:ok q
 box:C4 w q (aD v.f.ps)
 kids:w.cell? ⟨q,4,none⟩=some (.slice none 0 0)
 id:w.cell? ⟨q,5,none⟩=some (.int .i64 v.f.id)
 kd:w.cell? ⟨q,6,none⟩=some (.int .i64 v.f.kd)
 ht:w.cell? ⟨q,7,none⟩=some (.int .i64 v.f.ht)
 col:w.cell? ⟨q,8,none⟩=some (.int .i64 v.f.col)
 sl:w.cell? ⟨q,9,none⟩=some (.slice (some ⟨v.pb,v.po,none⟩) v.f.ps.length v.cap)
 pb:ok v.pb
 cap:v.f.ps.length<=v.cap
 pts:∀k x y,v.f.ps[k]? =some (x,y)->w.cell? ⟨v.pb,v.po+k*2,none⟩=some (.int .i64 x)/\w.cell? ⟨v.pb,v.po+k*2+1,none⟩=some (.int .i64 y)
theorem C4.same{ok:Nat->Prop}{A B:World}(h:Same ok A B){q:Nat}(hq:ok q){x:Bx}(c:C4 A q x):C4 B q x:=
 ⟨h _ _ _ hq c.c0,h _ _ _ hq c.c1,h _ _ _ hq c.c2,h _ _ _ hq c.c3⟩
theorem iy.same{ok:Nat->Prop}{A B:World}(h:Same ok A B){q:Nat}{v:FV}(l:iy ok A q v):iy ok B q v:=
 ⟨l.lt,l.box.same h l.lt,h _ _ _ l.lt l.kids,h _ _ _ l.lt l.id,h _ _ _ l.lt l.kd,h _ _ _ l.lt l.ht,h _ _ _ l.lt l.col,h _ _ _ l.lt l.sl,l.pb,l.cap,λk x y e=>⟨h _ _ _ l.pb (l.pts k x y e).1,h _ _ _ l.pb (l.pts k x y e).2⟩⟩
theorem iy.mono{ok ok':Nat->Prop}(h:∀b,ok b->ok' b){w:World}{q:Nat}{v:FV}(l:iy ok w q v):iy ok' w q v:=
 ⟨h _ l.lt,l.box,l.kids,l.id,l.kd,l.ht,l.col,l.sl,h _ l.pb,l.cap,l.pts⟩
def mR(ok:Nat->Prop)(w:World)(kb ko:Nat)(ks:Kids):Prop:=
 ok kb/\∀(i:Nat) q x,ks[i]? =some (q,x)->w.cell? ⟨kb,ko+i,none⟩=some (.pointer (some ⟨q,0,none⟩))/\ok q/\C4 w q x
theorem mR.same{ok:Nat->Prop}{A B:World}(h:Same ok A B){kb ko:Nat}{ks:Kids}(k:mR ok A kb ko ks):mR ok B kb ko ks:=
 ⟨k.1,λi q x e=>⟨h _ _ _ k.1 (k.2 i q x e).1,(k.2 i q x e).2.1,(k.2 i q x e).2.2.same h (k.2 i q x e).2.1⟩⟩
theorem mR.mono{ok ok':Nat->Prop}(h:∀b,ok b->ok' b){w:World}{kb ko:Nat}{ks:Kids}(k:mR ok w kb ko ks):mR ok' w kb ko ks:=
 ⟨h _ k.1,λi q x e=>⟨(k.2 i q x e).1,h _ (k.2 i q x e).2.1,(k.2 i q x e).2.2⟩⟩
theorem mR.at{ok:Nat->Prop}{n0:Nat}(h:∀b,ok b->b<n0){w:World}{kb ko:Nat}{ks:Kids}(k:mR ok w kb ko ks):ew n0 w kb ko ks:=
 ⟨h _ k.1,λi q x e=>⟨(k.2 i q x e).1,h _ (k.2 i q x e).2.1,(k.2 i q x e).2.2⟩⟩
def iw(ok:Nat->Prop)(w:World):Nat->Nat->List FV->Bx->Prop
 |0,q,fs,x=>∃v,fs=[v]/\x=aD v.f.ps/\iy ok w q v
 |d+1,q,fs,x=>ok q/\C4 w q x/\∃(kb ko cap:Nat) (ks:Kids) (ts:List (List FV)),w.cell? ⟨q,4,none⟩=some (.slice (some ⟨kb,ko,none⟩) ks.length cap)/\ks≠[]/\ks.length<=4/\ks.length<=cap/\mR ok w kb ko ks/\ts.length=ks.length/\(∀(i:Nat) p y t,ks[i]? =some (p,y)->ts[i]? =some t->iw ok w d p t y)/\fs=ts.flatten/\x=bZ ks
theorem iw.same{ok:Nat->Prop}{A B:World}(h:Same ok A B):∀{d q:Nat} {fs:List FV} {x:Bx},iw ok A d q fs x->iw ok B d q fs x
 |0,_,_,_,⟨f,e,ex,l⟩=>⟨f,e,ex,l.same h⟩
 |_+1,_q,_,_,⟨hq,hc,kb,ko,cap,ks,ts,h4,hne,hle,hcap,hk,hl,ht,hf,hx⟩=>⟨hq,hc.same h hq,kb,ko,cap,ks,ts,h _ _ _ hq h4,hne,hle,hcap,hk.same h,hl,λi p y t e e'=>iw.same h (ht i p y t e e'),hf,hx⟩
theorem iw.mono{ok ok':Nat->Prop}(h:∀b,ok b->ok' b){w:World}:∀{d q:Nat} {fs:List FV} {x:Bx},iw ok w d q fs x->iw ok' w d q fs x
 |0,_,_,_,⟨f,e,ex,l⟩=>⟨f,e,ex,l.mono h⟩
 |_+1,_,_,_,⟨hq,hc,kb,ko,cap,ks,ts,h4,hne,hle,hcap,hk,hl,ht,hf,hx⟩=>⟨h _ hq,hc,kb,ko,cap,ks,ts,h4,hne,hle,hcap,hk.mono h,hl,λi p y t e e'=>iw.mono h (ht i p y t e e'),hf,hx⟩
theorem iw.lt{ok:Nat->Prop}{w:World}:∀{d q:Nat} {fs:List FV} {x:Bx},iw ok w d q fs x->ok q
 |0,_,_,_,⟨_,_,_,l⟩=>l.lt
 |_+1,_,_,_,h=>h.1
def ptrs(ks:Kids):List Value:=ks.map λk=> .pointer (some ⟨k.1,0,none⟩)
theorem qZ{ks:Kids}{i:Nat}{u:Value}(h:(ptrs ks)[i]? =some u):∃q x,ks[i]? =some (q,x)/\u=.pointer (some ⟨q,0,none⟩):=by
 simp only[ptrs,List.getElem?_map,Option.map_eq_some_iff]at h
 obtain⟨k,hk,rfl⟩:=h
 exact⟨k.1,k.2,hk,rfl⟩
theorem Gv(w:World):Sem.run prog (binOp BinOp.eql 143 (Value.slice none 0 0) (Value.slice none 0 0)) w=.ok (.bool true) w:=by kernel_rfl
theorem vV(w:World)(a:Addr)(n c:Nat):Sem.run prog (binOp BinOp.eql 143 (Value.slice (some a) n c) (Value.slice none 0 0)) w=.ok (.bool false) w:=by kernel_rfl
theorem CQ{w w1:World}{B:Nat}{v:Value}{ks:Kids}{m:Nat}(hm:ks.length=m+1)(hw:Below w.heap.size w w1)(hown:w1.ownsRow B 87 1 v (ptrs ks).length (ptrs ks))(hk:∀(i:Nat) q x,ks[i]? =some (q,x)->q<w.heap.size/\C4 w q x):
  ∃g c,v=.slice (some ⟨g,0,none⟩) (m+1) c/\m+1<=c/\B<=g/\ew w1.heap.size w1 g 0 ks:=by
 have hl:(ptrs ks).length=m+1:=by simp[ptrs,hm]
 rw[hl]at hown
 obtain⟨g,c,rfl⟩:=ownsRow_succ hown
 have hlt:=hown.lt g rfl
 have hc:m+1<=c:=by
  rcases hown.2 with⟨h,_⟩|⟨g',c',cur,h,_,_,hle,_⟩
  ·cases h
  ·cases h;exact hle
 refine⟨g,c,rfl,hc,hlt.1,hlt.2,λi q x e=>⟨?_,Nat.lt_of_lt_of_le (hk i q x e).1 hw.size,(hk i q x e).2.below hw (hk i q x e).1⟩⟩
 have hi:i<ks.length:=(List.getElem?_eq_some_iff.1 e).1
 rw[Nat.zero_add,hown.cellAt i (by omega)]
 simp[ptrs,e]
theorem Tp{W:World}{sb kb ko cap ql N:Nat}{ks:Kids}(hsb:sb<W.heap.size)(c0:W.cell? ⟨sb,0,none⟩=some (.slice (some ⟨kb,ko,none⟩) ks.length cap))(c1:W.cell? ⟨sb,1,none⟩=some (.slice (some ⟨N,0,none⟩) 1 1))
  (hkb:kb<W.heap.size) (hN:N<W.heap.size) (hk:∀(i:Nat) q x,ks[i]? =some (q,x)->W.cell? ⟨kb,ko+i,none⟩=some (.pointer (some ⟨q,0,none⟩))) (cn:W.cell? ⟨N,0,none⟩=some (.pointer (some ⟨ql,0,none⟩))):
  nZ W.heap.size W sb 0 [⟨kb,ko,cap,ptrs ks⟩,⟨N,0,1,[.pointer (some ⟨ql,0,none⟩)]⟩]:=by
 refine⟨hsb,λi p e=>?_⟩
 match i,e with
 |0,e=>
  simp at e
  subst e
  refine⟨by simpa[ptrs]using c0,hkb,λj u hj=>?_⟩
  obtain⟨q,x,hq,rfl⟩:=qZ hj
  exact hk j q x hq
 |1,e=>
  simp at e
  subst e
  refine⟨by simpa using c1,hN,λj u hj=>?_⟩
  match j,hj with
  |0,hj=>simp at hj;subst hj;simpa using cn
  |j+1,hj=>simp at hj
 |i+2,e=>simp at e
theorem lZ(ks:Kids):∀u∈ptrs ks,u.oneCell'=true:=by
 intro u hu
 simp only[ptrs,List.mem_map]at hu
 obtain⟨k,_,rfl⟩:=hu
 rfl
end
section
open Go.RowKit Go.Shelf
def aS(T:Nat)(A B:World):Prop:=A.heap.size<=B.heap.size/\∀b o v,b≠T->A.cell? ⟨b,o,none⟩=some v->B.cell? ⟨b,o,none⟩=some v
theorem aS.refl(T:Nat)(A:World):aS T A A:=⟨aM,λ_ _ _ _ h=>h⟩
theorem aS.trans{T:Nat}{A B C:World}(h:aS T A B)(k:aS T B C):aS T A C:=⟨Nat.le_trans h.1 k.1,λb o v hb e=>k.2 b o v hb (h.2 b o v hb e)⟩
theorem aZ{A:World}{b o:Nat}{v:Value}(h:A.cell? ⟨b,o,none⟩=some v):b<A.heap.size:=dz A ⟨b,o,none⟩ h
theorem aS.of_below{T:Nat}{A B:World}(h:Below A.heap.size A B):aS T A B:=⟨h.size,λb o _v _ e=>(h.cell (p:=⟨b,o,none⟩) (aZ e)).trans e⟩
theorem aS.same{T:Nat}{A B:World}(h:aS T A B){ok:Nat->Prop}(hok:∀b,ok b->b≠T):Same ok A B:=λb o v hb e=>h.2 b o v (hok b hb) e
theorem aS.q4{T:Nat}{A B:World}(h:aS T A B){b:Nat}(hb:b≠T){x:Bx}(c:C4 A b x):C4 B b x:=⟨h.2 _ _ _ hb c.c0,h.2 _ _ _ hb c.c1,h.2 _ _ _ hb c.c2,h.2 _ _ _ hb c.c3⟩
theorem bC{A B:World}(h:Below A.heap.size A B):A.grownBy B none:=⟨h.os,h.tape,h.output,h.size,λk hk _=>h.block k hk⟩
def mX(v:FV):Value:=.agg #[.int .i64 v.f.id,.int .i64 v.f.kd,.int .i64 v.f.ht,.int .i64 v.f.col,.slice (some ⟨v.pb,v.po,none⟩) v.f.ps.length v.cap]
def eG(x:Bx)(v:FV):Bool:=cQ (aD v.f.ps).l (aD v.f.ps).t (aD v.f.ps).r (aD v.f.ps).b x.l x.t x.r x.b
def cV(y x:Bx):Bool:=cQ y.l y.t y.r y.b x.l x.t x.r x.b
def Good(ok:Nat->Prop)(w:World)(v:FV):Prop:=aj v.f=true/\ok v.pb/\v.f.ps.length<=v.cap/\∀k x y,v.f.ps[k]? =some (x,y)->w.cell? ⟨v.pb,v.po+k*2,none⟩=some (.int .i64 x)/\w.cell? ⟨v.pb,v.po+k*2+1,none⟩=some (.int .i64 y)
theorem FM{F:Fence}(hd:F.depth=none)(k:Nat):F.room k:=λd h=>by rw[hd]at h;cases h
attribute [local go_sem] Oper.semAt_some
section
variable (ok:Nat->Prop) (G:FV->Prop) (T l N:Nat) (x:Bx) (J Jx:List {v:FV//G v}->World->Prop)
def Lg:Prop:=∀m pre v W,J pre W->pre.length<N->YieldAt Fence.wide m prog l #[mX v.1] W λe W'=>
 (e=.returned (.bool true)/\J (pre++[v]) W'/\aS T W W')\/(e=.returned (.bool false)/\Jx (pre++[v]) W')
def Bj(pre:List {v:FV//G v})(vs:List FV)(W:World)(e:Ending)(W':World):Prop:=
 (e=.returned (.bool true)/\(∃ys:List {v:FV//G v},ys.map Subtype.val=vs.filter (eG x)/\J (pre++ys) W')/\aS T W W')\/(e=.returned (.bool false)/\∃zs,Jx (pre++zs) W')
theorem IY(hY:Lg G T l N J Jx)(hJ:∀pre A B,J pre A->Below A.heap.size A B->J pre B)(hT:∀b,ok b->b≠T)(q:Nat)(v:FV)(pre:List {v:FV//G v})(W:World)(hg:G v)(hl:iy ok W q v)(hq:q<W.heap.size)(h0:J pre W)(hN:pre.length<N):
  Calls prog 126 #[.pointer (some ⟨q,0,none⟩),.agg #[.int .i64 x.l,.int .i64 x.t,.int .i64 x.r,.int .i64 x.b],.func (.yield l) #[] #[]] W (Bj G T x J Jx pre [v] W):=by
 have hB:∀o:Obj,Below W.heap.size W (W.alloc o):=λo=>bK.alloc aM o
 have HL:=af hl
 obtain⟨c0,c1,c2,c3⟩:=hl.box
 have Zs:=hT q hl.lt
 have aar:Hid (ok q):=hl.lt
 have Uh:=af h0
 clear hl h0
 generalize hbl:(aD v.f.ps).l=bl at *
 generalize hbt:(aD v.f.ps).t=bt at *
 generalize hbr:(aD v.f.ps).r=br at *
 generalize o8:(aD v.f.ps).b=bb at *
 have HM:Hid (eG x v=cQ bl bt br bb x.l x.t x.r x.b):=by show eG x v=_;rw[<-hbl,<-hbt,<-hbr,<-o8];rfl
 clear hbl hbt hbr o8
 obtain⟨xl,xt,xr,xb⟩:=x
 dsimp only at HM⊢
 go_enter func126,ntmps126
 go_upto_region 1 with fail
 go_cut [15] (λu wc=>u=.bool (!cQ bl bt br bb xl xt xr xb)/\aS T W wc/\Below W.heap.size W wc)
 case first=>
  go_region_held3 (λw'=>w'.cell? ⟨q,0,none⟩=some (.int .i64 bl)/\w'.cell? ⟨q,1,none⟩=some (.int .i64 bt)/\w'.cell? ⟨q,2,none⟩=some (.int .i64 br)/\w'.cell? ⟨q,3,none⟩=some (.int .i64 bb)/\w'.cell? ⟨W.heap.size,0,none⟩=some (.int .i64 xl)/\w'.cell? ⟨W.heap.size,1,none⟩=some (.int .i64 xt)/\w'.cell? ⟨W.heap.size,2,none⟩=some (.int .i64 xr)/\w'.cell? ⟨W.heap.size,3,none⟩=some (.int .i64 xb)) (first|(simp[go_sem, *];done)|exact s2)
   (first
   |(go_at_call 158;refine(nY bl bt br bb xl xt xr xb _).mono ?_;rintro e w2 ⟨rfl,hb2⟩;obtain⟨hc2,hf2⟩:=eF hb2;have s2:=And.intro ((hc2 q 0 (by simp<;>omega)).trans (show _=some (Value.int .i64 bl) from(by simp[go_sem, *]))) (And.intro ((hc2 q 1 (by simp<;>omega)).trans (show _=some (Value.int .i64 bt) from(by simp[go_sem, *]))) (And.intro ((hc2 q 2 (by simp<;>omega)).trans (show _=some (Value.int .i64 br) from(by simp[go_sem, *]))) (And.intro ((hc2 q 3 (by simp<;>omega)).trans (show _=some (Value.int .i64 bb) from(by simp[go_sem, *]))) (And.intro ((hc2 W.heap.size 0 (by simp<;>omega)).trans (show _=some (Value.int .i64 xl) from(by simp[go_sem]))) (And.intro ((hc2 W.heap.size 1 (by simp<;>omega)).trans (show _=some (Value.int .i64 xt) from(by simp[go_sem]))) (And.intro ((hc2 W.heap.size 2 (by simp<;>omega)).trans (show _=some (Value.int .i64 xr) from(by simp[go_sem]))) ((hc2 W.heap.size 3 (by simp<;>omega)).trans (show _=some (Value.int .i64 xb) from(by simp[go_sem])))))))));have hB2:Below W.heap.size W w2:=(hB _).drew.trans (hb2.mono (by simp<;>omega));clear hc2 hf2 hb2))
  all_goals
   go_wp2_with fail
   go_meet
   exact⟨rfl,aS.of_below hB2,hB2⟩
 case rest=>
  obtain⟨rfl,hK,hB1⟩:=hcut
  by_cases hm:cQ bl bt br bb xl xt xr xb=true
  ·rw[hm,Bool.not_true]
   have hl1:iy ok wc q v:=HL.out.same (hK.same hT)
   have d4:=hl1.kids
   have d5:=hl1.id
   have d6:=hl1.kd
   have d7:=hl1.ht
   have d8:=hl1.col
   have d9:=hl1.sl
   have hnn:=Gv
   obtain⟨fn,tmps,assign,body,hy,hR⟩:=hY 0 pre ⟨v,hg⟩ wc (hJ pre W wc Uh.out hB1) hN
   dsimp only[mX]at hy
   clear hl1 c0 c1 c2 c3
   go_upto_region 4 with fail
   refine(wpIn_wide (n:=1)).1 ?_
   gi_wp2
   refine hR.mono ?_
   rintro e W3 (⟨rfl,hJ3,hk3⟩|⟨rfl,hJx3⟩)
   ·gi_wp2
    go_wp2
    go_ret
    exact .inl ⟨rfl,⟨[⟨v,hg⟩],by simp[HM.out,hm],hJ3⟩,hK.trans hk3⟩
   ·gi_wp2
    go_wp2
    go_ret
    exact .inr ⟨rfl,[⟨v,hg⟩],hJx3⟩
  ·have hm':cQ bl bt br bb xl xt xr xb=false:=by simpa using hm
   rw[hm',Bool.not_false]
   have RO:Hid (J pre wc):=hJ pre W wc Uh.out hB1
   go_wp2
   go_ret
   exact .inl ⟨rfl,⟨[],by simp[HM.out,hm'],by simpa using RO.out⟩,hK⟩
def gN(y x:Bx):Prop:=x.l<=y.l/\x.t<=y.t/\y.r<=x.r/\y.b<=x.b
theorem gN.refl(x:Bx):gN x x:=⟨Int.le_refl _,Int.le_refl _,Int.le_refl _,Int.le_refl _⟩
theorem gN.trans{a b c:Bx}(h:gN a b)(k:gN b c):gN a c:=by unfold gN at *;omega
theorem gN.left(a b:Bx):gN a (a.join b):=by simp only[gN,Bx.join,ug,uh];omega
theorem gN.right(a b:Bx):gN b (a.join b):=by simp only[gN,Bx.join,ug,uh];omega
theorem Co(ks:Kids):∀(a:Bx),gN a (ks.foldl (λb q=>b.join q.2) a)/\∀k∈ks,gN k.2 (ks.foldl (λb q=>b.join q.2) a):=by
 induction ks with
 |nil=>exact λa=>⟨gN.refl a,λk hk=>by cases hk⟩
 |cons k r ih=>
  intro a
  have h:=ih (a.join k.2)
  refine⟨(gN.left a k.2).trans h.1,λk' hk'=>?_⟩
  rcases List.mem_cons.1 hk' with rfl|hk'
  ·exact(gN.right a k'.2).trans h.1
  ·exact h.2 k' hk'
theorem MW{ks:Kids}{k:Nat×Bx}(h:k∈ks):gN k.2 (bZ ks):=by
 cases ks with
 |nil=>cases h
 |cons p r=>
  rcases List.mem_cons.1 h with rfl|h
  ·exact(Co r k.2).1
  ·exact(Co r p.2).2 k h
theorem meet_mono{y z x:Bx}(h:gN y z)(hm:cV y x=true):cV z x=true:=by
 simp only[cV,cQ,decide_eq_true_eq]at *;unfold gN at h;omega
theorem iw.Lz{ok:Nat->Prop}{w:World}:∀{d q:Nat} {fs:List FV} {x:Bx},iw ok w d q fs x->∀v∈fs,gN (aD v.f.ps) x
 |0,_,_,_,⟨f,e,ex,_⟩=>λv hv=>by subst e ex;simp at hv;subst hv;exact gN.refl _
 |_+1,_,_,_,⟨_,_,_,_,_,ks,ts,_,_,_,_,_,hl,ht,hf,hx⟩=>λv hv=>by
  subst hf hx
  obtain⟨t,ht',hv'⟩:=List.mem_flatten.1 hv
  obtain⟨i,hi,rfl⟩:=List.mem_iff_getElem.1 ht'
  have h1:=iw.Lz (ht i (ks[i]'(by omega)).1 (ks[i]'(by omega)).2 ts[i] (List.getElem?_eq_getElem _) (List.getElem?_eq_getElem _)) v hv'
  exact h1.trans (MW (List.getElem_mem (by omega)))
theorem iw.none{ok:Nat->Prop}{w:World}{d q:Nat}{fs:List FV}{y x:Bx}(h:iw ok w d q fs y)(hm:cV y x=false):fs.filter (eG x)=[]:=by
 rw[List.filter_eq_nil_iff]
 intro v hv hc
 have:=meet_mono (h.Lz v hv) (show cV (aD v.f.ps) x=true from hc)
 rw[hm]at this
 cases this
end
attribute [local go_sem] Oper.semAt_some
theorem kA{ts:List (List FV)}{k:Nat}{t:List FV}(h:ts[k]? =some t):(ts.take (k+1)).flatten=(ts.take k).flatten++t:=by
 rw[List.take_add_one,h];simp
theorem tW(ts:List (List FV))(k:Nat):((ts.take k).flatten).length<=(ts.flatten).length:=by
 conv=>rhs;rw[<-List.take_append_drop k ts,List.flatten_append,List.length_append]
 omega
section
variable (ok:Nat->Prop) (G:FV->Prop) (T l N n0:Nat) (x:Bx) (J Jx:List {v:FV//G v}->World->Prop)
theorem Ce(hY:Lg G T l N J Jx)(hJ:∀pre A B,J pre A->Below A.heap.size A B->J pre B)(hT:∀b,ok b->b≠T)(hlt:∀b,ok b->b<n0)(UW:T<n0):∀(d q:Nat) (vs:List FV) (y:Bx) (pre:List {v:FV//G v}) (W:World),iw ok W d q vs y->(∀v∈vs,G v)->n0<=W.heap.size->J pre W->pre.length+vs.length<=N->
  Calls prog 126 #[.pointer (some ⟨q,0,none⟩),.agg #[.int .i64 x.l,.int .i64 x.t,.int .i64 x.r,.int .i64 x.b],.func (.yield l) #[] #[]] W (Bj G T x J Jx pre vs W)
 |0,q,vs,y,pre,W,⟨v,e,_,hl⟩,hg,hW,h0,hN=>by
  subst e
  exact IY ok G T l N x J Jx hY hJ hT q v pre W (hg v (by simp)) hl (Nat.lt_of_lt_of_le (hlt q hl.lt) hW) h0 (by simp at hN;omega)
 |d+1,q,vs,y,pre,W,Ku,hg,hW,h0,hN=>by
  have IH:=Ce hY hJ hT hlt UW d
  have WD:Hid _:=IH
  clear IH
  have YC:=Ku
  obtain⟨VB,hcq,kb,ko,cap,ks,ts,h4,hne,hle,hcap,yZ,PZ,hts,Rk,hy⟩:=YC
  have hq:q<W.heap.size:=Nat.lt_of_lt_of_le (hlt q VB) hW
  have hB:∀o:Obj,Below W.heap.size W (W.alloc o):=λo=>bK.alloc aM o
  obtain⟨c0,c1,c2,c3⟩:=hcq
  have Uh:=af h0
  have HN:=af hN
  have HIT:=af Ku
  have TE:=af yZ
  have HTL:=af PZ
  have HTS:=af hts
  have XB:=af Rk
  have TG:=af h4
  have hkb:kb<W.heap.size:=Nat.lt_of_lt_of_le (hlt kb yZ.1) hW
  have Zs:=hT q VB
  have hkT:=hT kb yZ.1
  clear h0 hN Ku yZ PZ hts Rk h4 hy
  generalize hkn:ks.length=n at *
  have X4:=af hkn
  clear hkn
  obtain⟨bl,bt,br,bb⟩:=y
  dsimp only at c0 c1 c2 c3
  obtain⟨xl,xt,xr,xb⟩:=x
  dsimp only
  go_enter func126,ntmps126
  go_upto_region 1 with fail
  go_cut [15] (λu wc=>u=.bool (!cQ bl bt br bb xl xt xr xb)/\aS T W wc/\Below W.heap.size W wc/\W.heap.size<wc.heap.size/\C4 wc W.heap.size ⟨xl,xt,xr,xb⟩)
  case first=>
   go_region_held3 (λw'=>w'.cell? ⟨q,0,none⟩=some (.int .i64 bl)/\w'.cell? ⟨q,1,none⟩=some (.int .i64 bt)/\w'.cell? ⟨q,2,none⟩=some (.int .i64 br)/\w'.cell? ⟨q,3,none⟩=some (.int .i64 bb)/\w'.cell? ⟨W.heap.size,0,none⟩=some (.int .i64 xl)/\w'.cell? ⟨W.heap.size,1,none⟩=some (.int .i64 xt)/\w'.cell? ⟨W.heap.size,2,none⟩=some (.int .i64 xr)/\w'.cell? ⟨W.heap.size,3,none⟩=some (.int .i64 xb)) (first|(simp[go_sem, *];done)|exact s2)
    (first
    |(go_at_call 158;refine(nY bl bt br bb xl xt xr xb _).mono ?_;rintro e w2 ⟨rfl,hb2⟩;obtain⟨hc2,hf2⟩:=eF hb2;have s2:=And.intro ((hc2 q 0 (by simp<;>omega)).trans (show _=some (Value.int .i64 bl) from(by simp[go_sem, *]))) (And.intro ((hc2 q 1 (by simp<;>omega)).trans (show _=some (Value.int .i64 bt) from(by simp[go_sem, *]))) (And.intro ((hc2 q 2 (by simp<;>omega)).trans (show _=some (Value.int .i64 br) from(by simp[go_sem, *]))) (And.intro ((hc2 q 3 (by simp<;>omega)).trans (show _=some (Value.int .i64 bb) from(by simp[go_sem, *]))) (And.intro ((hc2 W.heap.size 0 (by simp<;>omega)).trans (show _=some (Value.int .i64 xl) from(by simp[go_sem]))) (And.intro ((hc2 W.heap.size 1 (by simp<;>omega)).trans (show _=some (Value.int .i64 xt) from(by simp[go_sem]))) (And.intro ((hc2 W.heap.size 2 (by simp<;>omega)).trans (show _=some (Value.int .i64 xr) from(by simp[go_sem]))) ((hc2 W.heap.size 3 (by simp<;>omega)).trans (show _=some (Value.int .i64 xb) from(by simp[go_sem])))))))));have hB2:Below W.heap.size W w2:=(hB _).drew.trans (hb2.mono (by simp<;>omega));have hz2:W.heap.size<w2.heap.size:=(by have:=hb2.size;simp at this;omega);clear hc2 hf2 hb2))
   all_goals
    go_wp2_with fail
    go_meet
    exact⟨rfl,aS.of_below hB2,hB2,hz2,⟨s2.2.2.2.2.1,s2.2.2.2.2.2.1,s2.2.2.2.2.2.2.1,s2.2.2.2.2.2.2.2⟩⟩
  case rest=>
   obtain⟨rfl,hK,hB1,hz1,U0⟩:=hcut
   by_cases hm:cQ bl bt br bb xl xt xr xb=true
   ·rw[hm,Bool.not_true]
    have d4:wc.cell? ⟨q,4,none⟩=some (.slice (some ⟨kb,ko,none⟩) n cap):=hK.2 q 4 _ Zs TG.out
    have hnn:=vV
    have HK:=af hK
    have HBX:=af U0
    have HJc:Hid (J pre wc):=hJ pre W wc Uh.out hB1
    clear c0 c1 c2 c3 hK U0 hm
    go_wp2
    go_loopw [32] (λi wr=>∃(k:Nat) (ys:List {v:FV//G v}),k<=n/\i=.int .i64 k/\ys.map Subtype.val=((ts.take k).flatten).filter (eG ⟨xl,xt,xr,xb⟩)/\J (pre++ys) wr/\aS T W wr/\C4 wr W.heap.size ⟨xl,xt,xr,xb⟩/\W.heap.size<wr.heap.size) (λi _=>n-(intOf i).toNat)
    case atStart=>exact⟨0,[],by omega,rfl,by simp,by simpa using HJc.out,HK.out,HBX.out,hz1⟩
    case round=>
     obtain⟨k,ys,hk,rfl,hys,Bc,WX,hbk,hsk⟩:=hrel
     have XW:=af hys
     have HJk:=af Bc
     clear hys Bc
     by_cases hlt2:k<n
     ·have hki:k<ks.length:=by have:=X4.out;omega
      have E7:k<ts.length:=by have:=HTL.out;have:=X4.out;omega
      obtain⟨p,yp,hkp⟩:∃p yp,ks[k]? =some (p,yp):=⟨ks[k].1,ks[k].2,List.getElem?_eq_getElem hki⟩
      obtain⟨t,htk⟩:∃t,ts[k]? =some t:=⟨ts[k],List.getElem?_eq_getElem E7⟩
      have OA:=(HTS.out k p yp t hkp htk).same (WX.same hT)
      have hcell:=WX.2 kb (ko+k) _ hkT (TE.out.2 k p yp hkp).1
      have hsub:∀v∈t,G v:=λv hv=>hg v (by rw[XB.out];exact List.mem_flatten.2 ⟨t,List.mem_of_getElem? htk,hv⟩)
      have hlen:(pre++ys).length+t.length<=N:=by
       have h1:ys.length<=((ts.take k).flatten).length:=by
        have:=congrArg List.length XW.out
        rw[List.length_map]at this
        rw[this];exact List.length_filter_le _ _
       have h2:=tW ts (k+1)
       rw[kA htk,List.length_append,<-XB.out]at h2
       have:=HN.out
       rw[List.length_append];omega
      have hC:=WD.out p t yp (pre++ys) wr OA hsub (by omega) HJk.out hlen
      have HC:Hid _:=hC
      clear hC OA hsub hlen
      have HF:Hid (((ts.take (k+1)).flatten).filter (eG ⟨xl,xt,xr,xb⟩)=((ts.take k).flatten).filter (eG ⟨xl,xt,xr,xb⟩)++t.filter (eG ⟨xl,xt,xr,xb⟩)):=by
       show((ts.take (k+1)).flatten).filter _=_
       rw[kA htk,List.filter_append]
      have YS:=hbk
      obtain⟨b0,b1,b2,b3⟩:=YS
      dsimp only at b0 b1 b2 b3
      clear hkp htk
      go_wp2_with (go_at_call 126;refine aq HC.out ?_;clear HC;rintro e W3 (⟨rfl,Y1,hk3⟩|⟨rfl,zs,hJx3⟩))
      ·obtain⟨ys3,ZR,hJ3⟩:=Y1
       go_roundw
       case rel=>
        refine⟨k+1,ys++ys3,by omega,by go_num,?_,by rw[<-List.append_assoc];exact hJ3,WX.trans hk3,hk3.q4 (by omega) hbk,Nat.lt_of_lt_of_le hsk hk3.1⟩
        rw[List.map_append,XW.out,ZR,HF.out]
       case measure=>simp[intOf];omega
      ·go_ret
       exact .inr ⟨rfl,ys++zs,by rw[<-List.append_assoc];exact hJx3⟩
     ·have HF:Hid ((ts.take k).flatten=vs):=by
       show(ts.take k).flatten=vs
       rw[show k=ts.length from by have:=HTL.out;have:=X4.out;omega,List.take_length,XB.out]
      go_wp2
      go_ret
      exact .inl ⟨rfl,⟨ys,by rw[XW.out,HF.out],HJk.out⟩,WX⟩
   ·have hm':cQ bl bt br bb xl xt xr xb=false:=by simpa using hm
    rw[hm',Bool.not_false]
    have RO:Hid (J pre wc):=hJ pre W wc Uh.out hB1
    have Ut:Hid (vs.filter (eG ⟨xl,xt,xr,xb⟩)=[]):=HIT.out.none hm'
    go_wp2
    go_ret
    exact .inl ⟨rfl,⟨[],by rw[Ut.out];rfl,by simpa using RO.out⟩,hK⟩
end
attribute [local go_sem] Oper.semAt_some
theorem BM{F:Fence}(hd:F.depth=none){m m':Nat}{P:Program}{l:Nat}{f:FuncId}{tmps:Array Value}{assign body:Code}{w:World}{R:Ending->World->Prop}
  (h:RoundIn F m P l f tmps assign body w R):RoundIn F m' P l f tmps assign body w R:=⟨h.1,λc cs _=>h.2 c cs (FM hd _)⟩
theorem sS{F:Fence}(hd:F.depth=none){m:Nat}(m':Nat){P:Program}{l:Nat}{args:Array Value}{W:World}{R:Ending->World->Prop}(h:YieldAt F m P l args W R):YieldAt F m' P l args W R:=by
 obtain⟨fn,tmps,assign,body,hy,hR⟩:=h
 exact⟨fn,tmps,assign,body,hy,BM hd hR⟩
theorem kq(p:Option Addr)(x:Bx)(w:World):
  Calls prog 90 #[.agg #[.pointer p],.agg #[.int .i64 x.l,.int .i64 x.t,.int .i64 x.r,.int .i64 x.b]] w λe w'=>e=.returned (.func (.func 125) #[] #[.pointer (some ⟨w.heap.size,0,none⟩),.pointer (some ⟨w.heap.size+1,0,none⟩)])/\w'=(w.alloc (.cells #[.pointer p] 89)).alloc (.cells #[.int .i64 x.l,.int .i64 x.t,.int .i64 x.r,.int .i64 x.b] 141):=by
 go_enter func90,ntmps90
 go_wp2
 go_ret
 exact⟨rfl,rfl⟩
theorem o_(ok:Nat->Prop)(G:FV->Prop)(T n0 n d q Bt Bb:Nat)(vs:List FV)(x y:Bx)(w:World)(hT:∀b,ok b->b≠T)(hlt:∀b,ok b->b<n0)(UW:T<n0)(hn0:n0<=w.heap.size)
  (rK:w.cell? ⟨Bt,0,none⟩=some (.pointer (some ⟨q,0,none⟩))) (Sv:C4 w Bb x) (Ku:iw ok w d q vs y) (hg:∀v∈vs,G v):
  SeqStopsK Fence.wide n prog 125 #[.pointer (some ⟨Bt,0,none⟩),.pointer (some ⟨Bb,0,none⟩)] (λv:{v:FV//G v}=>#[mX v.1]) (aS T) (λys=>ys.map Subtype.val=vs.filter (eG x)) (λ_=>True) vs.length w:=by
 intro l J Jx W hW hJ Ma hY h0
 refine callsIn_wide.2 ?_
 have hE:=Ce ok G T l vs.length n0 x J Jx (λm pre v W hj hl=>sS rfl m (hY pre v W hj hl)) (λpre A B hj hb=>hJ pre A B none hj (bC hb) (λr e=>by cases e)) hT hlt UW d q vs y [] W
  (Ku.same (Same.of_below hW (λb hb=>Nat.lt_of_lt_of_le (hlt b hb) hn0))) hg (Nat.le_trans hn0 hW.size) h0 (by simp)
 have HE:Hid _:=hE
 have e0:=(hW.cell (p:=⟨Bt,0,none⟩) (aZ rK)).trans rK
 obtain⟨b0,b1,b2,b3⟩:=Sv.below hW (aZ Sv.c0)
 clear hE hJ Ma hY h0 Ku rK Sv
 show Calls prog 125 #[.func (.yield l) #[] #[],.pointer (some ⟨Bt,0,none⟩),.pointer (some ⟨Bb,0,none⟩)] W _
 go_enter func125,ntmps125
 go_wp2_with (go_at_call 126;refine aq HE.out ?_;rintro e W3 (⟨rfl,⟨ys,hys,hj⟩,hk⟩|⟨rfl,zs,W7⟩))
 ·go_end0
  exact⟨⟨_,rfl⟩,.inl ⟨ys,hys,by simpa using hj⟩⟩
 ·go_end0
  exact⟨⟨_,rfl⟩,.inr ⟨zs,trivial,by simpa using W7⟩⟩
def cR(x:Bx)(o:Option FV)(v:FV):Option FV:=
 if dB v.f.kd v.f.ps x.l x.t x.r x.b then
  match o with
  |none=>some v
  |some u=>if dU v.f.ht v.f.id u.f.ht u.f.id then some v else some u
 else o
def aN(x:Bx)(vs:List FV):Option FV:=vs.foldl (cR x) none
def tid:Option FV->Int
 |none=>0
 |some v=>v.f.id
def Ub:Option FV->Int
 |none=>0
 |some v=>v.f.kd
def Ua:Option FV->Int
 |none=>0
 |some v=>v.f.ht
def j6:Option FV->Int
 |none=>0
 |some v=>v.f.col
def Uc:Option FV->Value
 |none=> .slice none 0 0
 |some v=> .slice (some ⟨v.pb,v.po,none⟩) v.f.ps.length v.cap
structure Q5(w:World)(b:Nat)(v0 v1 v2 v3 v4:Value):Prop where
 c0:w.cell? ⟨b,0,none⟩=some v0
 c1:w.cell? ⟨b,1,none⟩=some v1
 c2:w.cell? ⟨b,2,none⟩=some v2
 c3:w.cell? ⟨b,3,none⟩=some v3
 c4:w.cell? ⟨b,4,none⟩=some v4
 f0:w.frozen? ⟨b,0,none⟩=false
 f1:w.frozen? ⟨b,1,none⟩=false
 f2:w.frozen? ⟨b,2,none⟩=false
 f3:w.frozen? ⟨b,3,none⟩=false
 f4:w.frozen? ⟨b,4,none⟩=false
theorem Q5.below{n:Nat}{A B:World}(h:Below n A B){b:Nat}(hb:b<n){v0 v1 v2 v3 v4:Value}(q:Q5 A b v0 v1 v2 v3 v4):Q5 B b v0 v1 v2 v3 v4:=by
 obtain⟨hc,hf⟩:=eF h
 exact⟨(hc _ _ hb).trans q.c0,(hc _ _ hb).trans q.c1,(hc _ _ hb).trans q.c2,(hc _ _ hb).trans q.c3,(hc _ _ hb).trans q.c4,(hf _ _ hb).trans q.f0,(hf _ _ hb).trans q.f1,(hf _ _ hb).trans q.f2,(hf _ _ hb).trans q.f3,(hf _ _ hb).trans q.f4⟩
theorem Q5.kept{A B:World}{row:Option Nat}{b:Nat}{v0 v1 v2 v3 v4:Value}(q:Q5 A b v0 v1 v2 v3 v4)(hg:A.grownBy B row)(hr:∀r,row=some r->∃o:Obj,A.heap[r]? =some o/\o.isCells=false):Q5 B b v0 v1 v2 v3 v4:=
 ⟨cell_kept q.c0 hg hr,cell_kept q.c1 hg hr,cell_kept q.c2 hg hr,cell_kept q.c3 hg hr,cell_kept q.c4 hg hr,(frozen_kept q.c0 hg hr).trans q.f0,(frozen_kept q.c1 hg hr).trans q.f1,(frozen_kept q.c2 hg hr).trans q.f2,(frozen_kept q.c3 hg hr).trans q.f3,(frozen_kept q.c4 hg hr).trans q.f4⟩
theorem Q5.new(w:World)(v0 v1 v2 v3 v4:Value)(t:TypeId):Q5 (w.alloc (.cells #[v0,v1,v2,v3,v4] t)) w.heap.size v0 v1 v2 v3 v4:=by
 constructor<;>simp[go_sem]
abbrev uo(w:World)(b:Nat)(x0 x1 x2 x3 x4:Value):World:=((((w.setCell ⟨b,0,none⟩ x0).setCell ⟨b,1,none⟩ x1).setCell ⟨b,2,none⟩ x2).setCell ⟨b,3,none⟩ x3).setCell ⟨b,4,none⟩ x4
theorem Q5.set{w:World}{b:Nat}{v0 v1 v2 v3 v4:Value}(q:Q5 w b v0 v1 v2 v3 v4)(x0 x1 x2 x3 x4:Value):Q5 (uo w b x0 x1 x2 x3 x4) b x0 x1 x2 x3 x4:=by
 obtain⟨c0,c1,c2,c3,c4,f0,f1,f2,f3,f4⟩:=q
 constructor<;>simp[uo,go_sem,c0,c1,c2,c3,c4,f0,f1,f2,f3,f4]
theorem fo(n:Nat)(w:World)(b:Nat)(h:n<=b)(u0 u1 u2 u3 u4:Value):Below n w (uo w b u0 u1 u2 u3 u4):=
 (((((Below.refl n w).setCell (p:=⟨b,0,none⟩) h u0).setCell (p:=⟨b,1,none⟩) h u1).setCell (p:=⟨b,2,none⟩) h u2).setCell (p:=⟨b,3,none⟩) h u3).setCell (p:=⟨b,4,none⟩) h u4
theorem C4.kept{A B:World}{row:Option Nat}{b:Nat}{x:Bx}(q:C4 A b x)(hg:A.grownBy B row)(hr:∀r,row=some r->∃o:Obj,A.heap[r]? =some o/\o.isCells=false):C4 B b x:=
 ⟨cell_kept q.c0 hg hr,cell_kept q.c1 hg hr,cell_kept q.c2 hg hr,cell_kept q.c3 hg hr⟩
theorem qN{T:Nat}:∀{A B C:World},aS T A B->aS T B C->aS T A C:=λh k=>h.trans k
theorem qM{T n:Nat}:∀(W:World) (l:Nat) (o o':Obj),n<=l->W.heap[l]? =some o->o.isCells=false->o.isWalk=false->aS T W (W.putObj l o'):=λW l o o' _ hl ho _=>
 ⟨(grownBy_putObj' W l o').size,λb off v _ h=>cell_kept h (grownBy_putObj' W l o') (λr e=>by cases e;exact⟨o,hl,ho⟩)⟩
theorem lW{T:Nat}(w:World)(u0 u1 u2 u3 u4:Value):aS T w (uo w T u0 u1 u2 u3 u4):=
 ⟨(fo T w T aM u0 u1 u2 u3 u4).size,λb o v hb e=>by
  simp only[uo]
  iterate 5 rw[World.cell?_setCell_far _ _ _ _ (λh=>hb h.symm)]
  exact e⟩
def dX(p c r:Int)(n:Nat):Bx:=⟨8*p*c+((n:Int)%8)*p,8*p*r+((n:Int)/8)*p,8*p*c+((n:Int)%8)*p+p,8*p*r+((n:Int)/8)*p+p⟩
def IL(vs:List FV)(p c r:Int)(n:Nat):Int:=j6 (aN (dX p c r n) (vs.filter (eG (dX p c r n))))
theorem Nr{z p c r:Int}(hz:ZP z p)(h1:0<=c)(h3:0<=r)(hc:8*p*c<=256-8*p)(hr:8*p*r<=256-8*p)(n:Nat)(hn:n<64):
  0<=(dX p c r n).l/\0<=(dX p c r n).t/\0<=(dX p c r n).r/\0<=(dX p c r n).b/\(dX p c r n).l<=1000/\(dX p c r n).t<=1000/\(dX p c r n).r<=1000/\(dX p c r n).b<=1000:=by
 simp only[dX]
 rcases hz with⟨rfl,rfl⟩|⟨rfl,rfl⟩|⟨rfl,rfl⟩|⟨rfl,rfl⟩<;>omega
theorem Good.below{ok:Nat->Prop}{A B:World}(h:Below A.heap.size A B)(hok:∀b,ok b->b<A.heap.size){v:FV}(g:Good ok A v):Good ok B v:=
 ⟨g.1,g.2.1,g.2.2.1,λk x y e=>⟨(h.cell (p:=⟨v.pb,v.po+k*2,none⟩) (hok _ g.2.1)).trans (g.2.2.2 k x y e).1,(h.cell (p:=⟨v.pb,v.po+k*2+1,none⟩) (hok _ g.2.1)).trans (g.2.2.2 k x y e).2⟩⟩
theorem QT(W:World)(C:Array Value)(hC:C=Array.replicate 64 (.int .i64 0))(j:Nat)(hj:j<64):(W.alloc (.cells C 148)).cell? ⟨W.heap.size,j,none⟩=some (.int .i64 0):=by
 subst hC
 simp[go_sem,hj]
theorem bJ(n:Nat)(w:World)(b o:Nat)(h:n<=b)(u:Value):Below n w (w.setCell ⟨b,o,none⟩ u):=(Below.refl n w).setCell (p:=⟨b,o,none⟩) h u
end
section
open Go.RowKit
def gG(w:World)(g:Nat)(ks:Kids):Prop:=∀(i:Nat) k,ks[i]? =some k->w.cell? ⟨g,i,none⟩=some (.pointer (some ⟨k.1,0,none⟩))/\w.frozen? ⟨g,i,none⟩=false
theorem swap_perm{α:Type}:∀(l:List α) (j:Nat) (a b:α),l[j]? =some a->l[j+1]? =some b->((l.set (j+1) a).set j b).Perm l
 |c::d::r,0,a,b,h1,h2=>by
  simp at h1 h2
  subst h1 h2
  exact List.Perm.swap _ _ _
 |c::r,j+1,a,b,h1,h2=>by
  simp at h1 h2
  simpa using swap_perm r j a b h1 h2
 |[],_,_,_,h1,_=>by simp at h1
 |[c],0,_,_,_,h2=>by simp at h2
abbrev Oc(W:World)(g j j' p q:Nat):World:=(W.setCell ⟨g,j,none⟩ (.pointer (some ⟨q,0,none⟩))).setCell ⟨g,j',none⟩ (.pointer (some ⟨p,0,none⟩))
theorem Dq{W:World}{g j j' p q:Nat}{x y:Bx}{ks:Kids}(h:gG W g ks)(hp:ks[j]? =some (p,x))(hq:ks[j']? =some (q,y))(hj:j'+1=j):
  gG (Oc W g j j' p q) g ((ks.set j (q,y)).set j' (p,x))/\((ks.set j (q,y)).set j' (p,x)).Perm ks:=by
 refine⟨λi k hk=>?_,?_⟩
 ·have hjl:j<ks.length:=(List.getElem?_eq_some_iff.1 hp).1
  have Za:j'<ks.length:=(List.getElem?_eq_some_iff.1 hq).1
  rw[World.frozen?_setCell,World.frozen?_setCell]
  by_cases h1:i=j'
  ·subst h1
   rw[List.getElem?_set_self (by rw[List.length_set];exact Za)]at hk
   simp at hk
   subst hk
   refine⟨World.cell?_setCell_same _ _ _ (u:=.pointer (some ⟨q,0,none⟩)) ?_,(h _ _ hq).2⟩
   rw[World.cell?_setCell_other _ _ _ _ (by intro e;injection e with _ e2 _;omega)]
   exact(h _ _ hq).1
  ·rw[List.getElem?_set_ne (by omega)]at hk
   rw[World.cell?_setCell_other _ _ _ _ (by intro e;injection e with _ e2 _;omega)]
   by_cases h2:i=j
   ·subst h2
    rw[List.getElem?_set_self hjl]at hk
    simp at hk
    subst hk
    exact⟨World.cell?_setCell_same _ _ _ (h _ _ hp).1,(h _ _ hp).2⟩
   ·rw[List.getElem?_set_ne (by omega)]at hk
    rw[World.cell?_setCell_other _ _ _ _ (by intro e;injection e with _ e2 _;omega)]
    exact h _ _ hk
 ·subst hj
  exact swap_perm ks j' (q,y) (p,x) hq hp
theorem za(W:World)(g j j' p q:Nat):aS g W (Oc W g j j' p q):=
 ⟨((bJ g W g j aM _).trans (bJ g _ g j' aM _)).size,λb o v hb e=>by
  rw[World.cell?_setCell_far _ _ _ _ (λh=>hb h.symm),World.cell?_setCell_far _ _ _ _ (λh=>hb h.symm)]
  exact e⟩
theorem vJ(W:World)(g j j' p q:Nat):Below g W (Oc W g j j' p q):=(bJ g W g j aM _).trans (bJ g _ g j' aM _)
theorem CJ(g n cap:Nat)(ks:Kids)(w:World)(hn:n=ks.length)(hn2:n<=20)(hrow:gG w g ks)(hks:∀k∈ks,k.1≠g/\C4 w k.1 k.2/\mh k.2):
  Calls prog 179 #[.slice (some ⟨g,0,none⟩) n cap,.int .i64 0,.int .i64 n,.func (.func 154) #[] #[]] w λe w'=>e=.returned (.tuple #[])/\∃ks':Kids,ks'.Perm ks/\gG w' g ks'/\aS g w w'/\Below g w w':=by
 have KV:=af hks
 have Hn:=af hn
 have HA:Hid (∀(W:World) (p q:Nat) (x y:Bx),C4 W p x->C4 W q y->mh x->mh y->Calls prog 154 #[.pointer (some ⟨p,0,none⟩),.pointer (some ⟨q,0,none⟩)] W λe w'=>e=.returned (.int .i64 (pE true x y))/\∃m,w'=W.drewN m):=λW p q x y hp hq hx hy=>Em p q x y W hp hq hx hy
 go_enter func179,ntmps179
 go_wp2
 go_loopw [8] (λiv wr=>∃(i:Nat) (ks':Kids),1<=i/\i<=n+1/\iv=.int .i64 (i:Int)/\Hid (ks'.Perm ks/\gG wr g ks'/\aS g w wr/\Below g w wr)) (λiv _=>n+1-(intOf iv).toNat)
 case atStart=>exact⟨1,ks,by omega,by omega,rfl,List.Perm.refl _,hrow,aS.refl _ _,bK⟩
 case round=>
  clear hrow hks hn
  obtain⟨i,ks',hi1,hi2,rfl,HI⟩:=hrel
  by_cases hlt:i<n
  ·go_wp2
   go_loopw [9] (λjv wq=>∃(j:Nat) (M5:Kids),j<=i/\jv=.int .i64 (j:Int)/\Hid (M5.Perm ks/\gG wq g M5/\aS g w wq/\Below g w wq)) (λjv _=>(intOf jv).toNat)
   case atStart=>exact⟨i,ks',by omega,rfl,HI.out⟩
   case round=>
    obtain⟨j,AD,hj,rfl,HJ⟩:=hrel
    by_cases hj0:0<j
    ·have hlen:AD.length=n:=by rw[HJ.out.1.length_eq,Hn.out]
     obtain⟨⟨p,x⟩,hp⟩:∃k,AD[j]? =some k:=⟨AD[j]'(by omega),List.getElem?_eq_getElem _⟩
     obtain⟨⟨q,y⟩,hq⟩:∃k,AD[j-1]? =some k:=⟨AD[j-1]'(by omega),List.getElem?_eq_getElem _⟩
     obtain⟨r1,f1⟩:=HJ.out.2.1 j _ hp
     obtain⟨r2,f2⟩:=HJ.out.2.1 (j-1) _ hq
     obtain⟨Zn,GG,VA⟩:=KV.out _ (HJ.out.1.mem_iff.1 (List.mem_of_getElem? hp))
     obtain⟨hqg,hqc,VD⟩:=KV.out _ (HJ.out.1.mem_iff.1 (List.mem_of_getElem? hq))
     dsimp only at *
     have wA:=HJ.out.2.2.1.q4 Zn GG
     have wC:=HJ.out.2.2.1.q4 hqg hqc
     have HP:Hid (AD[j]? =some (p,x)/\AD[j-1]? =some (q,y)):=⟨hp,hq⟩
     have HC:Hid (∀m,Calls prog 154 #[.pointer (some ⟨p,0,none⟩),.pointer (some ⟨q,0,none⟩)] (wr.drewN m) λe w'=>e=.returned (.int .i64 (pE true x y))/\∃k,w'=(wr.drewN m).drewN k):=λm=>HA.out _ p q x y ⟨wA.c0,wA.c1,wA.c2,wA.c3⟩ ⟨wC.c0,wC.c1,wC.c2,wC.c3⟩ VA VD
     clear hp hq GG hqc wA wC VA VD HA
     obtain⟨s,hs⟩:∃s,pE true x y=s:=⟨_,rfl⟩
     rw[hs]at HC
     clear hs
     have hji:(j:Int)-1=((j-1:Nat):Int):=by omega
     have hjn:(j:Int)<(n:Int):=by omega
     have SQ:((j-1:Nat):Int)<(n:Int):=by omega
     have Y_:(0:Int)<(j:Int):=by omega
     obtain⟨j',hj'⟩:∃j',j-1=j':=⟨_,rfl⟩
     rw[hj']at hji SQ r2 f2 HP
     by_cases hs0:s<0
     ·go_wp2
      go_quiet (first|(go_at_call 154;refine Calls.quiet_of (HC.out _)))
      go_wp2
      go_region
      go_wp2
      go_roundw
      case rel=>
       obtain⟨hR,hP⟩:=Dq (W:=wr.drewN (nq+1)) HJ.out.2.1 HP.out.1 HP.out.2 (by omega)
       exact⟨j',_,by omega,by first|rfl|go_num,hP.trans HJ.out.1,hR,HJ.out.2.2.1.trans ((show aS g wr (wr.drewN (nq+1)) from⟨aM,λ_ _ _ _ h=>h⟩).trans (za _ g j j' p q)),(below_drewN HJ.out.2.2.2 _).trans (vJ _ g j j' p q)⟩
      case measure=>simp[intOf];omega
     ·have hs1:decide (s<0)=false:=decide_eq_false hs0
      go_wp2
      go_quiet (first|(go_at_call 154;refine Calls.quiet_of (HC.out _)))
      go_wp2
      go_roundw
      case rel=>exact⟨i+1,AD,by omega,by omega,by go_num,HJ.out.1,HJ.out.2.1,HJ.out.2.2.1,below_drewN HJ.out.2.2.2 _⟩
      case measure=>simp[intOf];omega
    ·go_wp2
     go_quiet (fail)
     go_wp2
     go_roundw
     case rel=>exact⟨i+1,AD,by omega,by omega,by go_num,HJ.out.1,HJ.out.2.1,HJ.out.2.2.1,below_drewN HJ.out.2.2.2 _⟩
     case measure=>simp[intOf];omega
  ·go_wp2
   go_end0
   exact⟨rfl,ks',HI.out⟩
theorem CL(g n cap:Nat)(ks:Kids)(w:World)(hn:n=ks.length)(hn2:n<=20)(hrow:gG w g ks)(hks:∀k∈ks,k.1≠g/\C4 w k.1 k.2/\mh k.2):
  Calls prog 179 #[.slice (some ⟨g,0,none⟩) n cap,.int .i64 0,.int .i64 n,.func (.func 156) #[] #[]] w λe w'=>e=.returned (.tuple #[])/\∃ks':Kids,ks'.Perm ks/\gG w' g ks'/\aS g w w'/\Below g w w':=by
 have KV:=af hks
 have Hn:=af hn
 have HA:Hid (∀(W:World) (p q:Nat) (x y:Bx),C4 W p x->C4 W q y->mh x->mh y->Calls prog 156 #[.pointer (some ⟨p,0,none⟩),.pointer (some ⟨q,0,none⟩)] W λe w'=>e=.returned (.int .i64 (pE false x y))/\∃m,w'=W.drewN m):=λW p q x y hp hq hx hy=>En p q x y W hp hq hx hy
 go_enter func179,ntmps179
 go_wp2
 go_loopw [8] (λiv wr=>∃(i:Nat) (ks':Kids),1<=i/\i<=n+1/\iv=.int .i64 (i:Int)/\Hid (ks'.Perm ks/\gG wr g ks'/\aS g w wr/\Below g w wr)) (λiv _=>n+1-(intOf iv).toNat)
 case atStart=>exact⟨1,ks,by omega,by omega,rfl,List.Perm.refl _,hrow,aS.refl _ _,bK⟩
 case round=>
  clear hrow hks hn
  obtain⟨i,ks',hi1,hi2,rfl,HI⟩:=hrel
  by_cases hlt:i<n
  ·go_wp2
   go_loopw [9] (λjv wq=>∃(j:Nat) (M5:Kids),j<=i/\jv=.int .i64 (j:Int)/\Hid (M5.Perm ks/\gG wq g M5/\aS g w wq/\Below g w wq)) (λjv _=>(intOf jv).toNat)
   case atStart=>exact⟨i,ks',by omega,rfl,HI.out⟩
   case round=>
    obtain⟨j,AD,hj,rfl,HJ⟩:=hrel
    by_cases hj0:0<j
    ·have hlen:AD.length=n:=by rw[HJ.out.1.length_eq,Hn.out]
     obtain⟨⟨p,x⟩,hp⟩:∃k,AD[j]? =some k:=⟨AD[j]'(by omega),List.getElem?_eq_getElem _⟩
     obtain⟨⟨q,y⟩,hq⟩:∃k,AD[j-1]? =some k:=⟨AD[j-1]'(by omega),List.getElem?_eq_getElem _⟩
     obtain⟨r1,f1⟩:=HJ.out.2.1 j _ hp
     obtain⟨r2,f2⟩:=HJ.out.2.1 (j-1) _ hq
     obtain⟨Zn,GG,VA⟩:=KV.out _ (HJ.out.1.mem_iff.1 (List.mem_of_getElem? hp))
     obtain⟨hqg,hqc,VD⟩:=KV.out _ (HJ.out.1.mem_iff.1 (List.mem_of_getElem? hq))
     dsimp only at *
     have wA:=HJ.out.2.2.1.q4 Zn GG
     have wC:=HJ.out.2.2.1.q4 hqg hqc
     have HP:Hid (AD[j]? =some (p,x)/\AD[j-1]? =some (q,y)):=⟨hp,hq⟩
     have HC:Hid (∀m,Calls prog 156 #[.pointer (some ⟨p,0,none⟩),.pointer (some ⟨q,0,none⟩)] (wr.drewN m) λe w'=>e=.returned (.int .i64 (pE false x y))/\∃k,w'=(wr.drewN m).drewN k):=λm=>HA.out _ p q x y ⟨wA.c0,wA.c1,wA.c2,wA.c3⟩ ⟨wC.c0,wC.c1,wC.c2,wC.c3⟩ VA VD
     clear hp hq GG hqc wA wC VA VD HA
     obtain⟨s,hs⟩:∃s,pE false x y=s:=⟨_,rfl⟩
     rw[hs]at HC
     clear hs
     have hji:(j:Int)-1=((j-1:Nat):Int):=by omega
     have hjn:(j:Int)<(n:Int):=by omega
     have SQ:((j-1:Nat):Int)<(n:Int):=by omega
     have Y_:(0:Int)<(j:Int):=by omega
     obtain⟨j',hj'⟩:∃j',j-1=j':=⟨_,rfl⟩
     rw[hj']at hji SQ r2 f2 HP
     by_cases hs0:s<0
     ·go_wp2
      go_quiet (first|(go_at_call 156;refine Calls.quiet_of (HC.out _)))
      go_wp2
      go_region
      go_wp2
      go_roundw
      case rel=>
       obtain⟨hR,hP⟩:=Dq (W:=wr.drewN (nq+1)) HJ.out.2.1 HP.out.1 HP.out.2 (by omega)
       exact⟨j',_,by omega,by first|rfl|go_num,hP.trans HJ.out.1,hR,HJ.out.2.2.1.trans ((show aS g wr (wr.drewN (nq+1)) from⟨aM,λ_ _ _ _ h=>h⟩).trans (za _ g j j' p q)),(below_drewN HJ.out.2.2.2 _).trans (vJ _ g j j' p q)⟩
      case measure=>simp[intOf];omega
     ·have hs1:decide (s<0)=false:=decide_eq_false hs0
      go_wp2
      go_quiet (first|(go_at_call 156;refine Calls.quiet_of (HC.out _)))
      go_wp2
      go_roundw
      case rel=>exact⟨i+1,AD,by omega,by omega,by go_num,HJ.out.1,HJ.out.2.1,HJ.out.2.2.1,below_drewN HJ.out.2.2.2 _⟩
      case measure=>simp[intOf];omega
    ·go_wp2
     go_quiet (fail)
     go_wp2
     go_roundw
     case rel=>exact⟨i+1,AD,by omega,by omega,by go_num,HJ.out.1,HJ.out.2.1,HJ.out.2.2.1,below_drewN HJ.out.2.2.2 _⟩
     case measure=>simp[intOf];omega
  ·go_wp2
   go_end0
   exact⟨rfl,ks',HI.out⟩
theorem Au(w:World)(a:Addr)(n c:Nat):Sem.run prog (binOp BinOp.eql 143 (Value.slice (some a) n c) (Value.slice none 0 0)) w=.ok (.bool false) w:=vV w a n c
theorem G8(g o m cap:Nat)(c:Kids)(w:World)(hm:m=c.length)(hm1:1<=m)(hm2:m<=100)(hc:∀(j:Nat) k,c[j]? =some k->w.cell? ⟨g,o+j,none⟩=some (.pointer (some ⟨k.1,0,none⟩)))(hg:g<w.heap.size):
  Calls prog 122 #[.slice (some ⟨g,o,none⟩) m cap] w λe w'=>∃v:Value,e=.returned v/\w'.ownsRow w.heap.size 87 1 v m (ptrs c)/\Below w.heap.size w w':=by
 have hnn:=Au
 obtain⟨i0,hi,hz0,hz1,hz2⟩:=info_parts E_
 have Hc:=af hc
 have Hm:=af hm
 clear hm hc
 go_enter func122,ntmps122
 have HI:Hid (prog.info? 87=some i0/\i0.zero=some (.pointer none)/\i0.size=1/\i0.bytes=8):=⟨hi,hz0,hz1,hz2⟩
 have hB:∀o1:Obj,Below w.heap.size w (w.alloc o1):=λo1=>aU
 have HO:Hid ((w.alloc (.cells #[] 87)).ownsRow w.heap.size 87 1 (.slice (some ⟨w.heap.size,0,none⟩) 0 0) 0 []):=World.ownsRow_lit w #[] 0 aM (by decide) rfl
 have HC:Hid (∀j u,(ptrs c)[j]? =some u->(w.alloc (.cells #[] 87)).cell? ((⟨g,o,none⟩:Addr).add j)=some u):=λj u h=>by
  obtain⟨q,x,hq,rfl⟩:=qZ h
  rw[addr_add]
  exact((hB _).cell (p:=⟨g,o+j,none⟩) hg).trans (Hc.out j _ hq)
 have HL:Hid ((ptrs c).length=m*1):=by show(ptrs c).length=m*1;rw[ptrs,List.length_map,<-Hm.out,Nat.mul_one]
 clear hi hz0 hz1 hz2
 go_wp2_with (at_builtin;refine wpList_append_own _ rfl _ _ 143 rfl w.heap.size 87 i0 (.pointer none) 1 8 underlying143 HI.out.1 HI.out.2.1 HI.out.2.2.1 HI.out.2.2.2 rfl (by decide) _ _ _ rfl HO.out ⟨g,o,none⟩ m cap (ptrs c) rfl HL.out HC.out (lZ c) (by unfold maxLen;omega) (by omega) (by simp) ?_;intro v' w2 hown' hgrow _;have BF:=af hown';clear hown')
 go_ret
 refine⟨v',rfl,?_,(hB _).grown hgrow (by simp) (λk hk=>(HO.out.lt k hk).1)⟩
 have:=BF.out
 rwa[Nat.zero_add,List.nil_append]at this
theorem FY(d:Bool)(g n cap:Nat)(ks:Kids)(w:World)(hn:n=ks.length)(hn2:n<=19)(hrow:gG w g ks)(hks:∀k∈ks,k.1≠g/\C4 w k.1 k.2/\mh k.2):
  Calls prog 120 #[.slice (some ⟨g,0,none⟩) n cap,mV d] w λe w'=>e=.returned (.tuple #[])/\∃ks':Kids,ks'.Perm ks/\gG w' g ks'/\aS g w w'/\Below g w w':=by
 have HI:Hid (Calls prog 179 #[.slice (some ⟨g,0,none⟩) n cap,.int .i64 0,.int .i64 n,mV d] w λe w'=>e=.returned (.tuple #[])/\∃ks':Kids,ks'.Perm ks/\gG w' g ks'/\aS g w w'/\Below g w w'):=by
  cases d
  ·exact CL g n cap ks w hn (by omega) hrow hks
  ·exact CJ g n cap ks w hn (by omega) hrow hks
 clear hn hrow hks
 have hS:Calls prog 153 #[.slice (some ⟨g,0,none⟩) n cap,.int .i64 n,mV d] w λe w'=>e=.returned (.tuple #[])/\∃ks':Kids,ks'.Perm ks/\gG w' g ks'/\aS g w w'/\Below g w w':=by
  obtain⟨dv,Vb⟩:∃dv,mV d=dv:=⟨_,rfl⟩
  rw[Vb]at HI⊢
  clear Vb
  go_enter func153,ntmps153
  go_wp2
  go_loopw [7,8] (λav bv wr=>av=.int .i64 0/\bv=.int .i64 20/\wr=w) (λ_ _ _=>0)
  case atStart=>exact⟨rfl,rfl,rfl⟩
  case round=>
   obtain⟨rfl,rfl,rfl⟩:=hrel
   go_wp2_with (go_at_call 179;refine aq HI.out ?_;rintro e w2 ⟨rfl,hp⟩)
   have HP:Hid _:=hp
   clear hp
   go_loopw [6] (λsv wr=>sv=.int .i64 20/\wr=w2) (λ_ _=>0)
   case atStart=>exact⟨rfl,rfl⟩
   case round=>
    obtain⟨rfl,rfl⟩:=hrel
    go_wp2
    go_end0
    exact⟨rfl,HP.out⟩
 have HS:Hid _:=hS
 clear hS
 obtain⟨dv,Vb⟩:∃dv,mV d=dv:=⟨_,rfl⟩
 rw[Vb]at HS⊢
 clear Vb
 go_enter func120,ntmps120
 go_wp2_with (go_at_call 153;refine aq HS.out ?_;rintro e w2 ⟨rfl,hp⟩)
 go_end0
 exact⟨rfl,hp⟩
end
end Go.Proofs.YtenaepdmlknlcaaGreatDoor
