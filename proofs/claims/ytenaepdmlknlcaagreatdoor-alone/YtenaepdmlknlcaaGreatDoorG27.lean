import Derived.Test.YtenaepdmlknlcaaGreatDoorG21
open Go.Proofs.Tryz
set_option maxRecDepth 100000
set_option maxHeartbeats 8000000
namespace Go.Proofs.YtenaepdmlknlcaaGreatDoor
section
open Go.RowKit Go.Shelf
variable {M:Nat->Nat->Prop} {W W':World} {xs:List Value}
theorem jM.fr(h:Fr M W W'){A o:Nat}{v:Value}(k:jM W A o v xs)(hA:¬M A (o+2))(hv:∀g i,v.ownBlock=some g->¬M g i):jM W' A o v xs:=
 ⟨(h.cell A _ (dz W ⟨A,o+2,none⟩ k.c) hA).trans k.c,(h.frozen A _ (dz W ⟨A,o+2,none⟩ k.c) hA).trans k.f,bD h k.own (λg i e=>hv g i e),k.ne,k.lt⟩
variable {buf:Array Value} {nx:Value}
theorem BJ.fr(h:Fr M W W'){A o c cap:Nat}{sn r:Nat}(k:BJ W A o c cap buf sn r nx)(h0:¬M A o)(h1:¬M A (o+1))(hc:∀i,¬M c i):BJ W' A o c cap buf sn r nx:=
 ⟨(h.cell A _ (dz W ⟨A,o,none⟩ k.c0) h0).trans k.c0,(h.cell A _ (dz W ⟨A,o,none⟩ k.c0) h1).trans k.c1,(h.block c (Array.getElem?_eq_some_iff.1 k.ch).1 hc).trans k.ch,k.le,k.nx⟩
variable {x:kf} {n:Nat}
theorem mU.fr(h:Fr M W W'){A:Nat}{s:rJ}(k:mU W A x n s)(hA:∀i,i<3->¬M A (11+n*3+i))(hc:∀i,¬M (x.cb n) i)(hv:∀g i,(x.av n).ownBlock=some g->¬M g i)(hI:Same x.I W W'):mU W' A x n s:=
 ⟨k.q.fr h (hA 0 (by omega)) (hA 1 (by omega)) hc,(h.frozen A _ (dz W ⟨A,_,none⟩ k.q.c1) (hA 1 (by omega))).trans k.f1,k.nx.same hI,k.an.fr h (hA 2 (by omega)) hv⟩
theorem mU.wit{A:Nat}{x y:kf}{s:rJ}(k:mU W A x n s)(hI:∀b,x.I b->y.I b)(h1:y.cb n=x.cb n)(h2:y.av n=x.av n)(h3:y.nv n=x.nv n)(h4:y.sn n=x.sn n)(h5:y.rn n=x.rn n):mU W A y n s:=
 ⟨by rw[h1,h3,h4,h5];exact k.q,k.f1,by rw[h3];exact k.nx.mono hI,by rw[h2];exact k.an⟩
variable {w w':World} {vs:Nat->Value} {S:tT}
theorem dI.fr{A so:Nat}(hf:Fr M w w')(h:dI w A so vs S)(hA:∀i,i<9->¬M A (so+i))(hv:∀k g i,k<4->(vs k).ownBlock=some g->¬M g i):dI w' A so vs S:=by
 have hlt:A<w.heap.size:=dz w ⟨A,so,none⟩ h.room
 refine⟨(hf.cell A _ hlt (hA 0 (by omega))).trans h.room,λk hk=>(h.sh k hk).fr hf (by have:=hA (1+k*2) (by omega);rwa[<-Nat.add_assoc]at this) (λg i e=>hv k g i hk e),λk hk=>?_,h.apart⟩
 have hn:¬M A (so+1+k*2+1):=by have:=hA (1+k*2+1) (by omega);rwa[<-Nat.add_assoc,<-Nat.add_assoc]at this
 exact⟨(hf.cell A _ hlt hn).trans (h.aG k hk).1,(hf.frozen A _ hlt hn).trans (h.aG k hk).2⟩
variable {a:fW}
theorem au.fr(hf:Fr M w w'){A:Nat}(h:au w A x a)(hM:∀b i,M b i->8<=b/\¬x.I b/\¬x.Own A b):au w' A x a:=by
 have hA:∀i,¬M A i:=λi e=>(hM A i e).2.2 ⟨0,by omega,eu x A⟩
 have hlt:=h.A8.2
 have hS:Same x.I w w':=Same.fr hf (λb hb=>(h.lt b hb).2) (λb i hb e=>(hM b i e).2.1 hb)
 obtain⟨ro,r1,r2⟩:=h.root
 refine⟨h.gl.fr hf (λb i hb e=>absurd (hM b i e).1 (by omega)),h.ok,⟨ro,(hf.cell A _ hlt (hA _)).trans r1,r2.same hS⟩,(hf.frozen A _ hlt (hA _)).trans h.rf,(hf.cell A _ hlt (hA _)).trans h.lk,(hf.frozen A _ hlt (hA _)).trans h.lf,?_,λn hn=>?_,λi b hi e=>⟨(h.fD i b hi e).1,(h.fD i b hi e).2.1,Nat.lt_of_lt_of_le (h.fD i b hi e).2.2 hf.size⟩,h.apart,λb hb=>⟨(h.lt b hb).1,Nat.lt_of_lt_of_le (h.lt b hb).2 hf.size⟩⟩
 ·exact h.sh.fr hf (λi _=>hA _) (λk g i hk e m=>(hM g i m).2.2 ⟨k+1,by omega,by rw[fE x A k hk];exact e⟩)
 ·exact(h.lB n hn).fr hf (λi _=>hA _) (λi m=>(hM _ i m).2.2 ⟨n+5,by omega,eN x A n hn⟩) (λg i e m=>(hM g i m).2.2 ⟨n+9,by omega,by rw[eM];exact e⟩) hS
def GM(A:Nat)(x:kf):Nat->Nat->Prop:=λb i=>(b=A/\i<11)\/∃k,k<4/\(x.sv k).ownBlock=some b
variable {I1:Nat->Prop} {kP:Nat->Value}
theorem Nn{A i:Nat}:({x with I:=I1,sv:=kP}:kf).own A i=if i=0 then some A else if i<5 then(kP (i-1)).ownBlock else x.own A i:=by
 unfold kf.own
 by_cases h0:i=0
 ·rw[if_pos h0,if_pos h0]
 ·rw[if_neg h0,if_neg h0]
  by_cases h1:i<5
  ·rw[if_pos h1,if_pos h1]
  ·rw[if_neg h1,if_neg h1,if_neg h0,if_neg h1]
variable {w1:World} {g':Gr}
theorem au.ground{A:Nat}(h:au w A x a)(hok:vg g')(hf:Fr (GM A x) w w1)
  (root:∃ro,w1.cell? ⟨A,0,none⟩=some (.pointer ro)/\kM I1 w1 ro g'.fs) (rf:w1.frozen? ⟨A,0,none⟩=false) (lk:w1.cell? ⟨A,1,none⟩=some (.bool g'.lk)) (lf:w1.frozen? ⟨A,1,none⟩=false) (sh:dI w1 A 2 kP g'.S)
  (hI:∀b,x.I b->I1 b) (Rh:∀b,I1 b->x.I b\/(w.heap.size<=b/\b<w1.heap.size/\∀k,k<4->(kP k).ownBlock≠some b))
  (hs:∀k b,k<4->(kP k).ownBlock=some b->(x.sv k).ownBlock=some b\/w.heap.size<=b):
  au w1 A {x with I:=I1,sv:=kP} {a with g:=g'}:=by
 have hA:=h.A8
 have hGM:∀b i,GM A x b i->x.Own A b:=λb i e=>by
  rcases e with⟨rfl,_⟩|⟨k,hk,e⟩
  ·exact⟨0,by omega,eu x _⟩
  ·exact⟨k+1,by omega,by rw[fE x A k hk];exact e⟩
 have hGo:∀b i j,GM A x b i->5<=j->j<13->x.own A j≠some b:=λb i j e h5 hj=>by
  rcases e with⟨rfl,_⟩|⟨k,hk,e⟩
  ·exact h.apart 0 j b (by omega) hj (by omega) (eu x _)
  ·exact h.apart (k+1) j b (by omega) hj (by omega) (by rw[fE x A k hk];exact e)
 have hS:Same x.I w w1:=Same.fr hf (λb hb=>(h.lt b hb).2) (λb i hb e=>by
  obtain⟨j,hj,e'⟩:=hGM b i e
  exact(h.fD j b hj e').1 hb)
 have hrow:∀k b,k<4->(kP k).ownBlock=some b->b<w1.heap.size:=λk b hk e=>(sh.sh k hk).tI b e
 have hown:∀i b,i<13->({x with I:=I1,sv:=kP}:kf).own A i=some b->(x.own A i=some b\/(w.heap.size<=b/\1<=i/\i<5/\(kP (i-1)).ownBlock=some b)):=λi b hi e=>by
  rw[Nn]at e
  by_cases h0:i=0
  ·rw[if_pos h0]at e;left;rw[h0];exact e
  ·rw[if_neg h0]at e
   by_cases h1:i<5
   ·rw[if_pos h1]at e
    rcases hs (i-1) b (by omega) e with h'|h'
    ·left
     have:=fE x A (i-1) (by omega)
     rw[show i-1+1=i by omega]at this
     rw[this];exact h'
    ·right;exact⟨h',by omega,h1,e⟩
   ·rw[if_neg h1]at e;exact .inl e
 refine⟨h.gl.fr hf (λb i hb e=>?_),⟨hok,h.ok.ss⟩,root,rf,lk,lf,sh,λn hn=>?_,λi b hi e=>?_,λi j b hi hj hij e e'=>?_,λb hb=>?_⟩
 ·obtain⟨j,hj,e'⟩:=hGM b i e
  have:=(h.fD j b hj e').2.1
  omega
 ·refine mU.wit ((h.lB n hn).fr hf (λi hi e=>?_) (λi e=>hGo _ i (n+5) e (by omega) (by omega) (eN x A n hn)) (λg i eg e=>hGo g i (n+9) e (by omega) (by omega) (by rw[eM];exact eg)) hS) hI rfl rfl rfl rfl rfl
  rcases e with⟨_,e⟩|⟨k,hk,e⟩
  ·omega
  ·exact h.apart 0 (k+1) A (by omega) (by omega) (by omega) (eu x A) (by rw[fE x A k hk];exact e)
 ·rcases hown i b hi e with h'|⟨h1,h2,h3,h4⟩
  ·have:=h.fD i b hi h'
   refine⟨λhb=>?_,this.2.1,Nat.lt_of_lt_of_le this.2.2 hf.size⟩
   rcases Rh b hb with k|⟨k,_⟩
   ·exact this.1 k
   ·omega
  ·refine⟨λhb=>?_,by omega,hrow (i-1) b (by omega) h4⟩
   rcases Rh b hb with k|⟨_,_,k⟩
   ·have:=(h.lt b k).2;omega
   ·exact k (i-1) (by omega) h4
 ·rcases hown i b hi e with k|⟨k1,k2,k3,k4⟩
  ·rcases hown j b hj e' with k'|⟨ZU,ZV,ZW,k4'⟩
   ·exact h.apart i j b hi hj hij k k'
   ·have:=(h.fD i b hi k).2.2;omega
  ·rcases hown j b hj e' with k'|⟨ZU,ZV,ZW,k4'⟩
   ·have:=(h.fD j b hj k').2.2;omega
   ·exact sh.apart (i-1) (j-1) b (by omega) (by omega) (by omega) k4 k4'
 ·rcases Rh b hb with k|⟨k1,k2,_⟩
  ·exact⟨(h.lt b k).1,Nat.lt_of_lt_of_le (h.lt b k).2 hf.size⟩
  ·exact⟨by omega,k2⟩
def SM(A:Nat)(x:kf)(n:Nat):Nat->Nat->Prop:=λb i=>(b=A/\11+n*3<=i/\i<14+n*3)\/b=x.cb n\/(x.av n).ownBlock=some b
def d_{α:Type}(f:Nat->α)(n:Nat)(v:α):Nat->α:=λk=>if k=n then v else f k
variable {α:Type}
theorem aJ(f:Nat->α)(n:Nat)(v:α):d_ f n v n=v:=if_pos rfl
variable {k:Nat}
theorem rE(f:Nat->α)(n:Nat)(v:α)(h:k≠n):d_ f n v k=f k:=if_neg h
def kf.lB(x:kf)(n:Nat)(I1:Nat->Prop)(v nv:Value)(sn rn:Nat):kf:={x with I:=I1,av:=d_ x.av n v,nv:=d_ x.nv n nv,sn:=d_ x.sn n sn,rn:=d_ x.rn n rn}
theorem AL{v nv:Value}{sn rn A i:Nat}:(x.lB n I1 v nv sn rn).own A i=if i=n+9 then v.ownBlock else x.own A i:=by
 unfold kf.own kf.lB
 by_cases h0:i=0
 ·rw[if_pos h0,if_pos h0,if_neg (by omega)]
 ·by_cases h1:i<5
  ·rw[if_neg h0,if_neg h0,if_pos h1,if_pos h1,if_neg (by omega)]
  ·by_cases h2:i<9
   ·rw[if_neg h0,if_neg h0,if_neg h1,if_neg h1,if_pos h2,if_pos h2,if_neg (by omega)]
   ·rw[if_neg h0,if_neg h0,if_neg h1,if_neg h1,if_neg h2,if_neg h2]
    by_cases h3:i=n+9
    ·rw[if_pos h3,h3,Nat.add_sub_cancel]
     show(d_ x.av n v n).ownBlock=_
     rw[aJ]
    ·rw[if_neg h3]
     show(d_ x.av n v (i-9)).ownBlock=_
     rw[rE _ _ _ (by omega)]
variable {s':rJ} {sn rn:Nat}
theorem au.rz{A:Nat}(h:au w A x a)(hn:n<4)(hok:Lh s'){v nv:Value}(hf:Fr (SM A x n) w w1)
  (lB:mU w1 A (x.lB n I1 v nv sn rn) n s')
  (hI:∀b,x.I b->I1 b) (Rh:∀b,I1 b->x.I b\/(w.heap.size<=b/\b<w1.heap.size/\v.ownBlock≠some b))
  (hs:∀b,v.ownBlock=some b->b<w1.heap.size/\((x.av n).ownBlock=some b\/w.heap.size<=b)):
  au w1 A (x.lB n I1 v nv sn rn) (a.set a.g n s'):=by
 have hA:=h.A8
 have hSM:∀b i,SM A x n b i->x.Own A b:=λb i e=>by
  rcases e with⟨rfl,_⟩|rfl|e
  ·exact⟨0,by omega,eu x _⟩
  ·exact⟨n+5,by omega,eN x A n hn⟩
  ·exact⟨n+9,by omega,by rw[eM];exact e⟩
 have YK:∀b i j,SM A x n b i->1<=j->j<13->j≠n+5->j≠n+9->x.own A j≠some b:=λb i j e h1 hj h5 h9=>by
  rcases e with⟨rfl,_⟩|rfl|e
  ·exact h.apart 0 j b (by omega) hj (by omega) (eu x _)
  ·exact h.apart (n+5) j _ (by omega) hj (λe=>h5 e.symm) (eN x A n hn)
  ·exact h.apart (n+9) j b (by omega) hj (λe=>h9 e.symm) (by rw[eM];exact e)
 have TP:∀i,SM A x n A i->11+n*3<=i/\i<14+n*3:=λi e=>by
  rcases e with⟨_,e⟩|e|e
  ·exact e
  ·exact absurd (show x.own A (n+5)=some A by rw[eN x A n hn,<-e]) (h.apart 0 (n+5) A (by omega) (by omega) (by omega) (eu x A))
  ·exact absurd (show x.own A (n+9)=some A by rw[eM];exact e) (h.apart 0 (n+9) A (by omega) (by omega) (by omega) (eu x A))
 have hS:Same x.I w w1:=Same.fr hf (λb hb=>(h.lt b hb).2) (λb i hb e=>by
  obtain⟨j,hj,e'⟩:=hSM b i e
  exact(h.fD j b hj e').1 hb)
 have hown:∀i b,i<13->(x.lB n I1 v nv sn rn).own A i=some b->(x.own A i=some b\/(w.heap.size<=b/\i=n+9/\v.ownBlock=some b)):=λi b hi e=>by
  rw[AL]at e
  by_cases h9:i=n+9
  ·rw[if_pos h9]at e
   rcases(hs b e).2 with k|k
   ·left;rw[h9,eM];exact k
   ·exact .inr ⟨k,h9,e⟩
  ·rw[if_neg h9]at e;exact .inl e
 obtain⟨ro,r1,r2⟩:=h.root
 refine⟨h.gl.fr hf (λb i hb e=>?_),⟨h.ok.g,λk hk=>?_⟩,⟨ro,(hf.cell A _ hA.2 (λe=>by have:=TP _ e;omega)).trans r1,(r2.same hS).mono hI⟩,(hf.frozen A _ hA.2 (λe=>by have:=TP _ e;omega)).trans h.rf,(hf.cell A _ hA.2 (λe=>by have:=TP _ e;omega)).trans h.lk,(hf.frozen A _ hA.2 (λe=>by have:=TP _ e;omega)).trans h.lf,?_,λk hk=>?_,λi b hi e=>?_,λi j b hi hj hij e e'=>?_,λb hb=>?_⟩
 ·obtain⟨j,hj,e'⟩:=hSM b i e
  have:=(h.fD j b hj e').2.1
  omega
 ·show Lh (if k=n then s' else a.ss k)
  by_cases hkn:k=n
  ·rw[if_pos hkn];exact hok
  ·rw[if_neg hkn];exact h.ok.ss k hk
 ·exact h.sh.fr hf (λi hi e=>by have:=TP _ e;omega) (λk g i hk e m=>YK g i (k+1) m (by omega) (by omega) (by omega) (by omega) (by rw[fE x A k hk];exact e))
 ·show mU w1 A _ k (if k=n then s' else a.ss k)
  by_cases hkn:k=n
  ·rw[if_pos hkn,hkn];exact lB
  ·rw[if_neg hkn]
   refine mU.wit ((h.lB k hk).fr hf (λi hi e=>by have:=TP _ e;omega) (λi e=>YK _ i (k+5) e (by omega) (by omega) (by omega) (by omega) (eN x A k hk)) (λg i eg e=>YK g i (k+9) e (by omega) (by omega) (by omega) (by omega) (by rw[eM];exact eg)) hS) hI rfl (rE _ _ _ hkn) (rE _ _ _ hkn) (rE _ _ _ hkn) (rE _ _ _ hkn)
 ·rcases hown i b hi e with h'|⟨h1,h2,h3⟩
  ·have:=h.fD i b hi h'
   refine⟨λhb=>?_,this.2.1,Nat.lt_of_lt_of_le this.2.2 hf.size⟩
   rcases Rh b hb with k|⟨k,_⟩
   ·exact this.1 k
   ·omega
  ·refine⟨λhb=>?_,by omega,(hs b h3).1⟩
   rcases Rh b hb with k|⟨_,_,k⟩
   ·have:=(h.lt b k).2;omega
   ·exact k h3
 ·rcases hown i b hi e with k|⟨k1,k2,k3⟩
  ·rcases hown j b hj e' with k'|⟨ZU,ZV,ZW⟩
   ·exact h.apart i j b hi hj hij k k'
   ·have:=(h.fD i b hi k).2.2;omega
  ·rcases hown j b hj e' with k'|⟨ZU,ZV,ZW⟩
   ·have:=(h.fD j b hj k').2.2;omega
   ·omega
 ·rcases Rh b hb with k|⟨k1,k2,_⟩
  ·exact⟨(h.lt b k).1,Nat.lt_of_lt_of_le (h.lt b k).2 hf.size⟩
  ·exact⟨by omega,k2⟩
attribute [local go_sem] Oper.semAt_some
theorem Ee(z:Int)(w:World):
  Calls prog 222 #[.int .i64 z] w λe w'=>e=.returned (.func (.func 233) #[] #[.pointer (some ⟨w.heap.size,0,none⟩)])/\w'=w.alloc (.cells #[.int .i64 z] 3):=by
 go_enter func222,ntmps222
 go_wp2
 go_ret
 exact⟨rfl,rfl⟩
theorem Fr.grown{A B C:World}{row:Option Nat}(h:Fr M A B)(hg:B.grownBy C row)(hr:∀r,row=some r->A.heap.size<=r):Fr M A C:=by
 have hb:Below A.heap.size B C:=(Below.refl _ B).grown hg h.size (λk hk=>hr k hk)
 exact h.aC (Fr.sD hb) (λb i hb' e=>absurd hb' (Nat.not_lt.2 e))
theorem Fr.Qs{A B:World}{row:Option Nat}(hg:A.grownBy B row):Fr (λb _=>row=some b) A B:=by
 cases row with
 |none=>exact(Fr.of_below ((Below.refl _ A).grown hg aM (λk hk=>by cases hk))).mono λ_ _ e=>e
 |some r=>
  have hn:∀k,k<A.heap.size->k≠r->B.heap[k]? =A.heap[k]? :=λk hk hne=>hg.block k hk (λe=>hne (Option.some.inj e))
  refine⟨hg.os,hg.tape,hg.output,hg.size,λk hk h=>hn k hk (λe=>h 0 (by rw[e])),λk i hk h=>?_,λk i hk h=>?_⟩
  ·simp only[World.cell?,hn k hk (λe=>h (by rw[e]))]
  ·simp only[World.frozen?,hn k hk (λe=>h (by rw[e]))]
theorem qH(bs:List Bx)(k:Nat)(pre:List Tl)(t:Tl)(ks:List Kp):bW bs k (pre++[t]) ks=if dW bs t=true/\az t=k then cP t (bW bs k pre ks)else bW bs k pre ks:=by
 unfold bW
 rw[List.foldl_append]
 rfl
theorem tH(bs:List Bx)(k:Nat)(pre:List Tl)(t:Tl):aL bs k (pre++[t])=(aL bs k pre||(dW bs t&&decide (az t=k))):=by
 unfold aL
 rw[List.any_append]
 simp
def G_(A so:Nat)(vs:Nat->Value):Nat->Nat->Prop:=λc j=>(c=A/\so+1<=j/\j<so+9)\/∃k,k<4/\(vs k).ownBlock=some c
def Ks(bs:List Bx)(S:tT)(pre:List Tl):tT:={S with ks:=λk=>bW bs k pre (S.ks k)}
structure DM(A so n0:Nat)(a:Option Addr)(n cap:Nat)(bs:List Bx)(vs:Nat->Value)(S:tT)(w:World)(pre:List Tl)(W:World):Prop where
 c0:W.cell? ⟨n0,0,none⟩=some (.pointer (some ⟨A,so,none⟩))
 c1:W.cell? ⟨n0+1,0,none⟩=some (.slice a n cap)
 old:∀k,k<4->W.cell? ⟨n0+1+1,k,none⟩=some (.bool (aL bs k pre))/\W.frozen? ⟨n0+1+1,k,none⟩=false
 sh:∃vs',dI W A so vs' (Ks bs S pre)/\∀k,k<4->(vs' k).ownBlock=(vs k).ownBlock
 fr:Fr (G_ A so vs) w W
 big:n0+1+1+1<W.heap.size
variable {base size:Nat} {e:TypeId}
theorem pq{v:Value}(o:w.ownsRow base e size v n xs){g:Nat}(hg:v.ownBlock=some g):∃cur,w.heap[g]? =some (.cells cur e (0,0)):=by
 rcases o.2 with⟨rfl,_⟩|⟨g',cap,cur,rfl,_,h,_⟩
 ·cases hg
 ·cases hg;exact⟨cur,h⟩
theorem dI.grown{A B:World}{row:Option Nat}{P so:Nat}(h:dI A P so vs S)(hg:A.grownBy B row)(hr:∀r,row=some r->∃o:Obj,A.heap[r]? =some o/\o.isCells=false):dI B P so vs S:=by
 refine h.fr (Fr.Qs hg) (λi _ e=>?_) (λk g i hk e e'=>?_)
 ·obtain⟨o,ho,hc⟩:=hr P e
  have:=h.room
  simp only[World.cell?,ho]at this
  cases o<;>simp_all [Obj.isCells]
 ·obtain⟨o,ho,hc⟩:=hr g e'
  obtain⟨cur,U_⟩:=pq (h.sh k hk).own e
  rw[ho]at U_
  cases U_
  simp[Obj.isCells]at hc
variable {bs:List Bx} {pre:List Tl}
theorem DM.kept{A so n0:Nat}{a:Option Addr}{n cap:Nat}{row:Option Nat}(h:DM A so n0 a n cap bs vs S w pre W)(hg:W.grownBy W' row)(hr:∀r,row=some r->w.heap.size<=r/\∃o:Obj,W.heap[r]? =some o/\o.isCells=false):DM A so n0 a n cap bs vs S w pre W':=by
 have hr':∀r,row=some r->∃o:Obj,W.heap[r]? =some o/\o.isCells=false:=λr e=>(hr r e).2
 obtain⟨vs',h1,h2⟩:=h.sh
 exact⟨cell_kept h.c0 hg hr',cell_kept h.c1 hg hr',λk hk=>⟨cell_kept (h.old k hk).1 hg hr',(frozen_kept (h.old k hk).1 hg hr').trans (h.old k hk).2⟩,⟨vs',h1.grown hg hr',h2⟩,h.fr.grown hg (λr e=>(hr r e).1),Nat.lt_of_lt_of_le h.big hg.size⟩
theorem DM.below{A so n0:Nat}{a:Option Addr}{n cap:Nat}(h:DM A so n0 a n cap bs vs S w pre W)(hb:Below W.heap.size W W'):DM A so n0 a n cap bs vs S w pre W':=
 h.kept (bC hb) (λr e=>by cases e)
variable {t:Tl}
theorem DM.miss{A so n0:Nat}{a:Option Addr}{n cap:Nat}(h:DM A so n0 a n cap bs vs S w pre W)(hb:Below W.heap.size W W')(ht:dW bs t=false):DM A so n0 a n cap bs vs S w (pre++[t]) W':=by
 have h':=h.below hb
 have e1:∀k,aL bs k (pre++[t])=aL bs k pre:=λk=>by rw[tH,ht];simp
 have e2:Ks bs S (pre++[t])=Ks bs S pre:=by
  unfold Ks
  congr 1
  funext k
  rw[qH,if_neg (by rw[ht];simp)]
 exact⟨h'.c0,h'.c1,λk hk=>by rw[e1];exact h'.old k hk,by rw[e2];exact h'.sh,h'.fr,h'.big⟩
variable {W1 W2 W3:World} {vs':Nat->Value} {v2:Value}
theorem DM.hit{A so n0:Nat}{a:Option Addr}{n cap:Nat}(h:DM A so n0 a n cap bs vs S w pre W)(ht:dW bs t=true)(hA:A<w.heap.size)(hvs:∀k g,k<4->(vs k).ownBlock=some g->g<w.heap.size)(hn0:w.heap.size<=n0)(hsh:dI W A so vs' (Ks bs S pre))(ue:∀k,k<4->(vs' k).ownBlock=(vs k).ownBlock)
  (hb1:Below W.heap.size W W1) (h2:gu W2 A (so+1+az t*2) v2 (cP t (bW bs (az t) pre (S.ks (az t))))) (hv2:v2.ownBlock=(vs' (az t)).ownBlock) (hf2:Fr (n9 A (so+1+az t*2) (vs' (az t))) W1 W2) (hb3:Below W2.heap.size W2 W3):
  DM A so n0 a n cap bs vs S w (pre++[t]) (W3.setCell ⟨n0+1+1,az t,none⟩ (.bool true)):=by
 have hsz:=h.fr.size
 have hq:=bg t
 have hM:∀b i,n9 A (so+1+az t*2) (vs' (az t)) b i->G_ A so vs b i:=λb i e=>by
  rcases e with⟨rfl,rfl⟩|e
  ·exact .inl ⟨rfl,by omega,by omega⟩
  ·exact .inr ⟨az t,hq,by rw[<-ue _ hq];exact e⟩
 have Je:∀b i,n9 A (so+1+az t*2) (vs' (az t)) b i->b<w.heap.size:=λb i e=>by
  rcases e with⟨rfl,_⟩|e
  ·exact hA
  ·exact hvs _ b hq (by rw[<-ue _ hq];exact e)
 have hF:Fr (n9 A (so+1+az t*2) (vs' (az t))) W W3:=((Fr.of_below hb1).trans hf2).trans (Fr.of_below hb3)
 have l0:n0<W.heap.size:=dz W _ h.c0
 have l1:n0+1<W.heap.size:=dz W _ h.c1
 have l2:n0+1+1<W.heap.size:=dz W _ (h.old 0 (by omega)).1
 have nm:∀b i,w.heap.size<=b->¬n9 A (so+1+az t*2) (vs' (az t)) b i:=λb i hb e=>by have:=Je b i e;omega
 have hcell:∀b i,w.heap.size<=b->b<W.heap.size->W3.cell? ⟨b,i,none⟩=W.cell? ⟨b,i,none⟩:=λb i h1 h2=>hF.cell b i h2 (nm b i h1)
 have hfz:∀b i,w.heap.size<=b->b<W.heap.size->W3.frozen? ⟨b,i,none⟩=W.frozen? ⟨b,i,none⟩:=λb i h1 h2=>hF.frozen b i h2 (nm b i h1)
 have hs3:W.heap.size<=W3.heap.size:=hF.size
 have Zy:dI W3 A so (λk=>if k=az t then v2 else vs' k) (Ks bs S (pre++[t])):=by
  have hu:=hsh.upd hq (h2.below hb3) hF (λg e=> .inl (by rw[<-hv2];exact e))
  have e:Ks bs S (pre++[t])={Ks bs S pre with ks:=λk=>if k=az t then cP t (bW bs (az t) pre (S.ks (az t)))else(Ks bs S pre).ks k}:=by
   unfold Ks
   congr 1
   funext k
   rw[qH]
   by_cases hk:k=az t
   ·rw[if_pos ⟨ht,hk.symm⟩,if_pos hk,hk]
   ·rw[if_neg (λe=>hk e.2.symm),if_neg hk]
  rw[e]
  exact hu
 refine⟨?_,?_,λk hk=>⟨?_,?_⟩,⟨λk=>if k=az t then v2 else vs' k,?_,λk hk=>?_⟩,?_,by have:=h.big;simp[World.setCell];omega⟩
 ·exact(aK _ _ (.inl (by omega))).trans ((hcell n0 0 hn0 l0).trans h.c0)
 ·exact(aK _ _ (.inl (by omega))).trans ((hcell (n0+1) 0 (by omega) l1).trans h.c1)
 ·rw[tH,ht]
  by_cases hkt:az t=k
  ·subst hkt
   rw[decide_eq_true rfl,Bool.and_self,Bool.or_true]
   exact cell_eq ((hcell (n0+1+1) (az t) (by omega) l2).trans (h.old _ hk).1) _
  ·rw[decide_eq_false hkt,Bool.and_false,Bool.or_false,aK _ _ (.inr hkt)]
   exact(hcell (n0+1+1) k (by omega) l2).trans (h.old k hk).1
 ·rw[World.frozen?_setCell]
  exact(hfz (n0+1+1) k (by omega) l2).trans (h.old k hk).2
 ·refine Zy.fr (jQ (n0+1+1) W3 (az t) _) (λi _ e=>?_) (λk g i hk e e'=>?_)
  ·have:A=n0+1+1:=e
   omega
  ·have e1:g=n0+1+1:=e'
   have e2:(vs k).ownBlock=some g:=by
    by_cases hkt:k=az t
    ·rw[if_pos hkt]at e
     rw[hkt,<-ue _ hq,<-hv2];exact e
    ·rw[if_neg hkt]at e
     rw[<-ue k hk];exact e
   have:=hvs k g hk e2
   omega
 ·show Value.ownBlock (if k=az t then v2 else vs' k)=_
  by_cases hkt:k=az t
  ·rw[if_pos hkt,hv2,hkt,ue _ hq]
  ·rw[if_neg hkt,ue k hk]
 ·exact(h.fr.trans (hF.mono hM)).setCell (b:=n0+1+1) (i:=az t) (.inr (by omega)) _
end
end Go.Proofs.YtenaepdmlknlcaaGreatDoor
