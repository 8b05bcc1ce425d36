import Derived.Test.YtenaepdmlknlcaaGreatDoorG01
open Go.Proofs.Tryz
set_option maxRecDepth 100000
set_option maxHeartbeats 8000000
namespace Go.Proofs.YtenaepdmlknlcaaGreatDoor
section
open Go.RowKit
structure Fr(M:Nat->Nat->Prop)(A B:World):Prop where
 os:B.os=A.os
 tape:B.tape=A.tape
 output:B.output=A.output
 size:A.heap.size<=B.heap.size
 block:∀k,k<A.heap.size->(∀i,¬M k i)->B.heap[k]? =A.heap[k]?
 cell:∀k i,k<A.heap.size->¬M k i->B.cell? ⟨k,i,none⟩=A.cell? ⟨k,i,none⟩
 frozen:∀k i,k<A.heap.size->¬M k i->B.frozen? ⟨k,i,none⟩=A.frozen? ⟨k,i,none⟩
theorem Fr.refl(M:Nat->Nat->Prop)(A:World):Fr M A A:=⟨rfl,rfl,rfl,aM,λ_ _ _=>rfl,λ_ _ _ _=>rfl,λ_ _ _ _=>rfl⟩
variable {M M':Nat->Nat->Prop}
theorem Fr.aC{A B C:World}(h:Fr M A B)(k:Fr M' B C)(hm:∀b i,b<A.heap.size->M' b i->M b i):Fr M A C:=
 ⟨k.os.trans h.os,k.tape.trans h.tape,k.output.trans h.output,Nat.le_trans h.size k.size,
  λb hb hn=>(k.block b (Nat.lt_of_lt_of_le hb h.size) (λi e=>hn i (hm b i hb e))).trans (h.block b hb hn),
  λb i hb hn=>(k.cell b i (Nat.lt_of_lt_of_le hb h.size) (λe=>hn (hm b i hb e))).trans (h.cell b i hb hn),
  λb i hb hn=>(k.frozen b i (Nat.lt_of_lt_of_le hb h.size) (λe=>hn (hm b i hb e))).trans (h.frozen b i hb hn)⟩
theorem Fr.trans{A B C:World}(h:Fr M A B)(k:Fr M B C):Fr M A C:=h.aC k λ_ _ _ e=>e
theorem Fr.C0{A B:World}(h:Fr M A B)(hm:∀b i,b<A.heap.size->M b i->M' b i):Fr M' A B:=
 ⟨h.os,h.tape,h.output,h.size,λb hb hn=>h.block b hb (λi e=>hn i (hm b i hb e)),λb i hb hn=>h.cell b i hb (λe=>hn (hm b i hb e)),λb i hb hn=>h.frozen b i hb (λe=>hn (hm b i hb e))⟩
theorem Fr.mono{A B:World}(h:Fr M A B)(hm:∀b i,M b i->M' b i):Fr M' A B:=h.C0 λb i _=>hm b i
theorem Fr.of_below{A B:World}(h:Below A.heap.size A B):Fr M A B:=
 ⟨h.os,h.tape,h.output,h.size,λb hb _=>h.block b hb,λb i hb _=>h.cell (p:=⟨b,i,none⟩) hb,λb i hb _=>h.frozen (p:=⟨b,i,none⟩) hb⟩
variable {n:Nat}
theorem Fr.below{A B:World}(h:Fr M A B)(hn:n<=A.heap.size)(hm:∀b i,b<n->¬M b i):Below n A B:=
 ⟨h.os,h.tape,h.output,h.size,λb hb=>h.block b (by omega) (λi=>hm b i hb)⟩
theorem Fr.alloc{A B:World}(h:Fr M A B)(o:Obj):Fr M A (B.alloc o):=h.trans (Fr.of_below (bK.alloc aM o))
theorem Fr.drewN{A B:World}(h:Fr M A B)(n:Nat):Fr M A (B.drewN n):=⟨h.os,h.tape,h.output,h.size,h.block,h.cell,h.frozen⟩
theorem Fr.drew{A B:World}(h:Fr M A B):Fr M A B.drew:=⟨h.os,h.tape,h.output,h.size,h.block,h.cell,h.frozen⟩
variable {b i:Nat}
theorem Fr.setCell{A B:World}(h:Fr M A B)(hp:M b i\/A.heap.size<=b)(u:Value):Fr M A (B.setCell ⟨b,i,none⟩ u):=by
 refine⟨h.os,h.tape,h.output,by simpa[World.setCell]using h.size,λk hk hn=>?_,λk j hk hn=>?_,λk j hk hn=>?_⟩
 ·exact(Below.heap_setCell B ⟨b,i,none⟩ u k (λe=>by subst e;rcases hp with hp|hp;exact hn i hp;exact absurd hk (Nat.not_lt.2 hp))).trans (h.block k hk hn)
 ·rw[World.cell?_setCell_other _ _ _ _ (by intro e;injection e with e1 e2 _;subst e1;subst e2;rcases hp with hp|hp;exact hn hp;omega)]
  exact h.cell k j hk hn
 ·rw[World.frozen?_setCell]
  exact h.frozen k j hk hn
variable {c:Nat}
theorem Fr.setChan{A B:World}(h:Fr M A B)(hc:M c 0\/A.heap.size<=c)(cap:Nat)(buf:Array Value)(cl:Bool)(s r:Nat)(tm:Bool)(hB:∃cap' buf' cl' s' r' tm',B.heap[c]? =some (.chan cap' buf' cl' s' r' tm')):Fr M A (B.setChan c cap buf cl s r tm):=by
 obtain⟨cap',buf',cl',s',r',tm',hB⟩:=hB
 have hlt:c<B.heap.size:=(Array.getElem?_eq_some_iff.1 hB).1
 have hne:∀k,k≠c->(B.setChan c cap buf cl s r tm).heap[k]? =B.heap[k]? :=λk hk=>by
  simp only[World.setChan]
  exact Array.getElem?_setIfInBounds_ne (λe=>hk e.symm)
 have heq:(B.setChan c cap buf cl s r tm).heap[c]? =some (.chan cap buf cl s r tm):=Conc.heap_setChan B c cap buf cl s r tm hlt
 refine⟨h.os,h.tape,h.output,by rw[Conc.size_setChan];exact h.size,λk hk hn=>?_,λk j hk hn=>?_,λk j hk hn=>?_⟩
 ·exact(hne k (λe=>by subst e;rcases hc with hc|hc;exact hn 0 hc;omega)).trans (h.block k hk hn)
 ·refine Eq.trans ?_ (h.cell k j hk hn)
  by_cases e:k=c
  ·subst e
   simp only[World.cell?,heq,hB]
  ·simp only[World.cell?,hne k e]
 ·refine Eq.trans ?_ (h.frozen k j hk hn)
  by_cases e:k=c
  ·subst e
   simp only[World.frozen?,heq,hB]
  ·simp only[World.frozen?,hne k e]
theorem Fr.sD{A B:World}(h:Below n A B):Fr (λc _=>n<=c) A B:=
 ⟨h.os,h.tape,h.output,h.size,λb _ hn=>h.block b (Nat.lt_of_not_le (hn 0)),λb i _ hn=>h.cell (p:=⟨b,i,none⟩) (Nat.lt_of_not_le hn),λb i _ hn=>h.frozen (p:=⟨b,i,none⟩) (Nat.lt_of_not_le hn)⟩
variable {b' i':Nat}
theorem aK(w:World)(u:Value)(h:b≠b'\/i≠i'):(w.setCell ⟨b,i,none⟩ u).cell? ⟨b',i',none⟩=w.cell? ⟨b',i',none⟩:=
 World.cell?_setCell_other _ _ _ _ (by intro e;injection e with e1 e2 _;rcases h with h|h;exact h e1;exact h e2)
variable {w:World}
theorem cell_eq{v:Value}(h:w.cell? ⟨b,i,none⟩=some v)(u:Value):(w.setCell ⟨b,i,none⟩ u).cell? ⟨b,i,none⟩=some u:=World.cell?_setCell_same _ _ _ h
def pg(ps:dS)(i:Nat):Int×Int:=ps.getD i (0,0)
theorem mE{ps:dS}{p:Int×Int}(h:ps[i]? =some p):pg ps i=p:=by simp[pg,List.getD,h]
variable {k:Nat}
theorem nu{ps:dS}(ha:ps.all lI=true){x y:Int}(h:ps[k]? =some (x,y)):0<=x/\x<=255/\0<=y/\y<=255:=by
 have:=List.all_eq_true.1 ha (x,y) (List.mem_of_getElem? h)
 simp[lI,fP]at this
 omega
def zv(ps:dS)(l t r b:Int)(j:Nat):Bool:=pX (pg ps (j-1)).1 (pg ps (j-1)).2 (pg ps j).1 (pg ps j).2 l t r b
def fC(ps:dS)(l t r b:Int):Nat->Bool
 |0=>false
 |1=>false
 |k+2=>fC ps l t r b (k+1)||zv ps l t r b (k+1)
def wL(ps:dS)(l t r b:Int):Bool:=fC ps l t r b ps.length
theorem tD(ps:dS)(l t r b:Int)(k:Nat):∀d:Nat,fC ps l t r b k=true->fC ps l t r b (k+d)=true
 |0,h=>h
 |d+1,h=>by
  have ih:=tD ps l t r b k d h
  match hk:k+d,ih with
  |0,ih=>simp[fC]at ih
  |m+1,ih=>rw[show k+(d+1)=m+2 from by omega,fC,ih];rfl
theorem wM(bl off n cap:Nat)(ps:dS)(l t r b:Int)(w:World)(hp:cZ w.heap.size w bl off ps)(hn:n=ps.length)(hn1:2<=n)(hn2:n<=1000000000000)(hall:ps.all lI=true)
  (h5:0<=l) (h6:0<=t) (h7:0<=r) (h8:0<=b) (g5:l<=1000) (g6:t<=1000) (g7:r<=1000) (g8:b<=1000):
  Calls prog 128 #[.slice (some ⟨bl,off,none⟩) n cap,.agg #[.int .i64 l,.int .i64 t,.int .i64 r,.int .i64 b]] w λe w'=>e=.returned (.bool (wL ps l t r b))/\Below w.heap.size w w':=by
 have Hn:=af hn
 have Hp:=af hp
 have ji:=af hall
 have hbl:=hp.1
 clear hn hp hall
 go_enter func128,ntmps128
 go_wp2
 go_loopw [5] (λi wr=>∃m:Nat,m+1<=n/\i=.int .i64 ((m:Int)+1)/\fC ps l t r b (m+1)=false/\Q4 wr w.heap.size (.int .i64 l) (.int .i64 t) (.int .i64 r) (.int .i64 b)/\Below w.heap.size w wr/\w.heap.size<wr.heap.size) (λi _=>n-(intOf i).toNat)
 case atStart=>exact⟨0,by omega,rfl,rfl,Q4.new _ _ _ _ _ _,aU,by simp⟩
 case round=>
  obtain⟨m,hk,rfl,CC,q,hB,hs⟩:=hrel
  have vB:=af CC
  clear CC
  by_cases hlt:m+1<n
  ·obtain⟨x,y,hxy,hx,hy⟩:=(Hp.out.below hB).at (k:=m+1) (by rw[<-Hn.out];omega)
   obtain⟨x',y',wE,hx',hy'⟩:=(Hp.out.below hB).at (k:=m) (by rw[<-Hn.out];omega)
   obtain⟨b1,b2,b3,b4⟩:=nu ji.out hxy
   obtain⟨b1',b2',b3',b4'⟩:=nu ji.out wE
   have KY:Hid (fC ps l t r b (m+1+1)=pX x' y' x y l t r b):=by
    show fC ps l t r b (m+2)=_
    rw[fC,vB.out,Bool.false_or,zv,mE hxy,show m+1-1=m from rfl,mE wE]
   clear hxy wE vB
   have q':=q
   obtain⟨c0,c1,c2,c3,f0,f1,f2,f3⟩:=q
   have hk2:((m:Int)+1).toNat=m+1:=by omega
   have hk3:(m:Int)+1<(n:Int):=by omega
   have hk4:(m:Int)<(n:Int):=by omega
   have hk5:(0:Int)<=(m:Int):=by omega
   have Jh:(0:Int)<=(m:Int)+1:=by omega
   have hk7:IntKind.i64.wrap (m:Int)=(m:Int):=by rw[IntKind.wrap_i64];omega
   have hk8:IntKind.i64.wrap ((m:Int)+1-1)=(m:Int):=by rw[IntKind.wrap_i64];omega
   go_upto_region 4 with fail
   go_region_held3 (λw'=>w'.cell? ⟨bl,off+(m+1)*2,none⟩=some (.int .i64 x)/\w'.cell? ⟨bl,off+(m+1)*2+1,none⟩=some (.int .i64 y)/\w'.cell? ⟨bl,off+m*2,none⟩=some (.int .i64 x')/\w'.cell? ⟨bl,off+m*2+1,none⟩=some (.int .i64 y')/\w'.cell? ⟨w.heap.size,0,none⟩=some (.int .i64 l)/\w'.cell? ⟨w.heap.size,1,none⟩=some (.int .i64 t)/\w'.cell? ⟨w.heap.size,2,none⟩=some (.int .i64 r)/\w'.cell? ⟨w.heap.size,3,none⟩=some (.int .i64 b)) (first|(simp[go_sem, *];done)|exact s2)
    (first
    |(go_at_call 159;refine(sK x' y' x y l t r b _ (by omega) (by omega) (by omega) (by omega) (by omega) (by omega) (by omega) (by omega) (by omega) (by omega) (by omega) (by omega) (by omega) (by omega) (by omega) (by omega)).mono ?_;rintro e w2 ⟨rfl,hb2⟩;obtain⟨hc2,hf2⟩:=eF hb2;have s2:=And.intro ((hc2 bl (off+(m+1)*2) (by simp<;>omega)).trans hx) (And.intro ((hc2 bl (off+(m+1)*2+1) (by simp<;>omega)).trans hy) (And.intro ((hc2 bl (off+m*2) (by simp<;>omega)).trans hx') (And.intro ((hc2 bl (off+m*2+1) (by simp<;>omega)).trans hy') (And.intro ((hc2 w.heap.size 0 (by simp<;>omega)).trans c0) (And.intro ((hc2 w.heap.size 1 (by simp<;>omega)).trans c1) (And.intro ((hc2 w.heap.size 2 (by simp<;>omega)).trans c2) ((hc2 w.heap.size 3 (by simp<;>omega)).trans c3)))))));clear hc2 hf2))
   have hs2:=hb2.size
   simp at hs2
   have q2:=q'.drew.below hb2 (by simp<;>omega)
   have hB2:Below w.heap.size w w2:=hB.drew.trans (hb2.mono (by simp<;>omega))
   clear s2 c0 c1 c2 c3 f0 f1 f2 f3 hx hy hx' hy' q'
   by_cases PX:pX x' y' x y l t r b=true
   ·have Hv:Hid (wL ps l t r b=true):=by
     show wL ps l t r b=true
     have h:=tD ps l t r b (m+1+1) (ps.length-(m+1+1)) (by rw[KY.out];exact PX)
     rw[show m+1+1+(ps.length-(m+1+1))=ps.length from by have:=Hn.out;omega]at h
     exact h
    rw[PX]
    go_wp2
    go_ret
    exact⟨ah Hv.out.symm,hB2⟩
   ·have E6:pX x' y' x y l t r b=false:=by simpa using PX
    clear PX
    have Hv:Hid (fC ps l t r b (m+1+1)=false):=by show fC ps l t r b (m+1+1)=false;rw[KY.out];exact E6
    rw[E6]
    clear E6
    go_wp2
    go_roundw
    case rel=>exact⟨m+1,by omega,by go_num,Hv.out,q2,hB2,by omega⟩
    case measure=>simp[intOf];omega
  ·have Hv:Hid (wL ps l t r b=false):=by
    show fC ps l t r b ps.length=false
    rw[<-Hn.out,show n=m+1 from by omega];exact vB.out
   go_wp2
   go_ret
   exact⟨ah Hv.out.symm,hB⟩
def eL(ps:dS)(k:Nat):Int×Int:=if k=0 then pg ps (ps.length-1)else pg ps (k-1)
def eR(ps:dS)(mx my:Int):Nat->Bool
 |0=>false
 |k+1=>if bY (eL ps k).1 (eL ps k).2 (pg ps k).1 (pg ps k).2 mx my then !eR ps mx my k else eR ps mx my k
def qp(ps:dS)(mx my:Int):Bool:=eR ps mx my ps.length
theorem BR(bl off n cap:Nat)(ps:dS)(mx my:Int)(w:World)(hp:cZ w.heap.size w bl off ps)(hn:n=ps.length)(hn1:3<=n)(hn2:n<=1000000000000)(hall:ps.all lI=true)
  (h5:0<=mx) (h6:0<=my) (g5:mx<=1000) (g6:my<=1000):
  Calls prog 129 #[.slice (some ⟨bl,off,none⟩) n cap,.agg #[.int .i64 mx,.int .i64 my]] w λe w'=>e=.returned (.bool (qp ps mx my))/\Below w.heap.size w w':=by
 have Hn:=af hn
 have Hp:=af hp
 have ji:=af hall
 have hbl:=hp.1
 obtain⟨x0,y0,Jn,hx0,hy0⟩:=hp.at (k:=n-1) (by omega)
 obtain⟨b1,b2,b3,b4⟩:=nu hall Jn
 have H0:Hid (eL ps 0=(x0,y0)):=by show(if 0=0 then pg ps (ps.length-1)else _)=_;rw[if_pos rfl,<-hn];exact mE Jn
 clear hn hp hall Jn
 have hk2:((n:Int)-1).toNat=n-1:=by omega
 go_enter func129,ntmps129
 go_wp2
 go_loopw [5,17] (λins i wr=>∃(k:Nat) (fx fy:Int),k<=n/\i=.int .i64 k/\ins=.bool (eR ps mx my k)/\(k<n->eL ps k=(fx,fy))/\0<=fx/\fx<=255/\0<=fy/\fy<=255/\Q2 wr w.heap.size (.int .i64 mx) (.int .i64 my)/\Q2 wr (w.heap.size+1) (.int .i64 fx) (.int .i64 fy)/\Below w.heap.size w wr/\w.heap.size+2<=wr.heap.size) (λ_ i _=>n-(intOf i).toNat)
 case atStart=>
  refine⟨0,x0,y0,by omega,rfl,rfl,λ_=>H0.out,b1,b2,b3,b4,(Q2.new w _ _ _).alloc (by simp) _,?_,aU.alloc (by simp) _,by simp⟩
  have h:=Q2.new (w.alloc (.cells #[.int .i64 mx,.int .i64 my] 29)) (.int .i64 x0) (.int .i64 y0) 29
  rw[World.size_alloc]at h
  exact h
 case round=>
  clear b1 b2 b3 b4
  obtain⟨k,fx,fy,hk,rfl,rfl,hfr,f1,f2,f3,f4,q0,q1,hB,hs⟩:=hrel
  by_cases hlt:k<n
  ·obtain⟨x,y,hxy,hx,hy⟩:=(Hp.out.below hB).at (k:=k) (by rw[<-Hn.out];omega)
   obtain⟨b1,b2,b3,b4⟩:=nu ji.out hxy
   have Hfr:Hid (eL ps k=(fx,fy)):=hfr hlt
   have O6:Hid (eR ps mx my (k+1)=if bY fx fy x y mx my then !eR ps mx my k else eR ps mx my k):=by
    show eR ps mx my (k+1)=_
    rw[eR,Hfr.out,mE hxy]
   have Q3:Hid (eL ps (k+1)=(x,y)):=by show(if k+1=0 then _ else pg ps (k+1-1))=_;rw[if_neg (by omega)];exact mE hxy
   clear hfr Hfr hxy
   generalize hg:eR ps mx my k=pk at *
   clear hg
   have q0':=q0
   have Z3:=q1
   obtain⟨c0,c1,_,_⟩:=q0'
   obtain⟨d0,d1,d2,d3⟩:=Z3
   have hz0:w.heap.size<wr.heap.size:=by omega
   have hz1:w.heap.size+1<wr.heap.size:=by omega
   have hz2:bl<wr.heap.size:=by omega
   by_cases hcr:bY fx fy x y mx my=true
   ·have X7:Hid (eR ps mx my (k+1)=!pk):=by show eR ps mx my (k+1)=_;rw[O6.out,hcr,if_pos rfl]
    clear O6
    go_wp2_with (go_at_call 160;refine(s7 fx fy x y mx my _ (by omega) (by omega) (by omega) (by omega) (by omega) (by omega) (by omega) (by omega) (by omega) (by omega) (by omega) (by omega)).mono ?_;rintro e w2 ⟨rfl,hb2⟩;have hs2:=hb2.size;simp at hs2;have k0:=(q0.alloc hz0 _).below hb2 (by simp;omega);have k1:=(q1.alloc hz1 _).below hb2 (by simp;omega);have k2:=(Q2.new wr (.int .i64 x) (.int .i64 y) 29).below hb2 (by simp);have k3:=k1.c0;have k4:=k1.c1;have k5:=k1.f0;have k6:=k1.f1;have k7:=k2.c0;have k8:=k2.c1)
    refine⟨⟨k+1,x,y,by omega,by go_num,by rw[X7.out],λ_=>Q3.out,by omega,by omega,by omega,by omega,k0.below (iC (w.heap.size+1) _ _ aM _ _) (by omega),k1.set _ _,((hB.alloc (by omega) _).trans (hb2.mono (by simp;omega))).trans (iC w.heap.size _ _ (by omega) _ _),Nat.le_trans (by omega) (iC w.heap.size w2 (w.heap.size+1) (by omega) _ _).size⟩,by simp[intOf];omega⟩
   ·have YY:bY fx fy x y mx my=false:=by simpa using hcr
    clear hcr
    have X7:Hid (eR ps mx my (k+1)=pk):=by show eR ps mx my (k+1)=_;rw[O6.out,YY,if_neg (by simp)]
    clear O6
    go_wp2_with (go_at_call 160;refine(s7 fx fy x y mx my _ (by omega) (by omega) (by omega) (by omega) (by omega) (by omega) (by omega) (by omega) (by omega) (by omega) (by omega) (by omega)).mono ?_;rintro e w2 ⟨rfl,hb2⟩;have hs2:=hb2.size;simp at hs2;have k0:=(q0.alloc hz0 _).below hb2 (by simp;omega);have k1:=(q1.alloc hz1 _).below hb2 (by simp;omega);have k2:=(Q2.new wr (.int .i64 x) (.int .i64 y) 29).below hb2 (by simp);have k3:=k1.c0;have k4:=k1.c1;have k5:=k1.f0;have k6:=k1.f1;have k7:=k2.c0;have k8:=k2.c1)
    refine⟨⟨k+1,x,y,by omega,by go_num,by rw[X7.out],λ_=>Q3.out,by omega,by omega,by omega,by omega,k0.below (iC (w.heap.size+1) _ _ aM _ _) (by omega),k1.set _ _,((hB.alloc (by omega) _).trans (hb2.mono (by simp;omega))).trans (iC w.heap.size _ _ (by omega) _ _),Nat.le_trans (by omega) (iC w.heap.size w2 (w.heap.size+1) (by omega) _ _).size⟩,by simp[intOf];omega⟩
  ·have Hv:Hid (qp ps mx my=eR ps mx my k):=by
    show eR ps mx my ps.length=_
    rw[<-Hn.out,show n=k from by omega]
   go_wp2
   go_ret
   exact⟨ah Hv.out.symm,hB⟩
def dB(kd:Int)(ps:dS)(l t r b:Int):Bool:=
 if kd=1 then fT (pg ps 0).1 (pg ps 0).2 l t r b
 else if kd=2 then wL ps l t r b
 else if kd=3 then qp ps ((l+r)/2) ((t+b)/2)
 else false
theorem lJ(id kd ht col:Int)(bl off n cap:Nat)(ps:dS)(l t r b:Int)(w:World)(hp:cZ w.heap.size w bl off ps)(hn:n=ps.length)(hmay:fS kd n=true)(hall:ps.all lI=true)
  (h5:0<=l) (h6:0<=t) (h7:0<=r) (h8:0<=b) (g5:l<=1000) (g6:t<=1000) (g7:r<=1000) (g8:b<=1000):
  Calls prog 91 #[.agg #[.int .i64 id,.int .i64 kd,.int .i64 ht,.int .i64 col,.slice (some ⟨bl,off,none⟩) n cap],.agg #[.int .i64 l,.int .i64 t,.int .i64 r,.int .i64 b]] w λe w'=>e=.returned (.bool (dB kd ps l t r b))/\Below w.heap.size w w':=by
 have hB:∀o1 o2:Obj,Below w.heap.size w ((w.alloc o1).alloc o2):=λo1 o2=>aU.alloc (by simp) _
 have hk:(kd=1/\n=1)\/(kd=2/\2<=n/\n<=6)\/(kd=3/\3<=n/\n<=6):=by
  simp[fS]at hmay;omega
 clear hmay
 have hbl:=hp.1
 have Hp:=af hp
 have Hn:=af hn
 have ji:=af hall
 clear hall
 rcases hk with⟨rfl,rfl⟩|⟨rfl,hn1,hn2⟩|⟨rfl,hn1,hn2⟩
 ·obtain⟨x,y,hxy,hx,hy⟩:=hp.at (k:=0) (by omega)
  have Hv:Hid (dB 1 ps l t r b=fT x y l t r b):=by show dB 1 ps l t r b=_;simp only[dB,mE hxy,if_true]
  clear hxy hp hn
  simp only[Nat.zero_mul,Nat.add_zero]at hx hy
  go_enter func91,ntmps91
  go_upto_region 3 with fail
  go_region_held3 (λw'=>w'.cell? ⟨w.heap.size,4,none⟩=some (.slice (some ⟨bl,off,none⟩) 1 cap)/\w'.cell? ⟨bl,off,none⟩=some (.int .i64 x)/\w'.cell? ⟨bl,off+1,none⟩=some (.int .i64 y)/\w'.cell? ⟨w.heap.size+1,0,none⟩=some (.int .i64 l)/\w'.cell? ⟨w.heap.size+1,1,none⟩=some (.int .i64 t)/\w'.cell? ⟨w.heap.size+1,2,none⟩=some (.int .i64 r)/\w'.cell? ⟨w.heap.size+1,3,none⟩=some (.int .i64 b)) (first|(simp[go_sem, *];done)|exact s2)
   (first
   |(go_at_call 127;refine(uk x y l t r b _).mono ?_;rintro e w2 ⟨rfl,hb2⟩;obtain⟨hc2,hf2⟩:=eF hb2;have s2:=And.intro ((hc2 w.heap.size 4 (by simp<;>omega)).trans (show _=some (Value.slice (some ⟨bl,off,none⟩) 1 cap) from(by simp[go_sem]))) (And.intro ((hc2 bl off (by simp<;>omega)).trans (show _=some (Value.int .i64 x) from(by simp[go_sem, *]))) (And.intro ((hc2 bl (off+1) (by simp<;>omega)).trans (show _=some (Value.int .i64 y) from(by simp[go_sem, *]))) (And.intro ((hc2 (w.heap.size+1) 0 (by simp<;>omega)).trans (show _=some (Value.int .i64 l) from(by simp[go_sem]))) (And.intro ((hc2 (w.heap.size+1) 1 (by simp<;>omega)).trans (show _=some (Value.int .i64 t) from(by simp[go_sem]))) (And.intro ((hc2 (w.heap.size+1) 2 (by simp<;>omega)).trans (show _=some (Value.int .i64 r) from(by simp[go_sem]))) ((hc2 (w.heap.size+1) 3 (by simp<;>omega)).trans (show _=some (Value.int .i64 b) from(by simp[go_sem]))))))));clear hc2 hf2))
  go_wp2
  go_ret
  exact⟨ah Hv.out.symm,(hB _ _).drew.trans (hb2.mono (by simp<;>omega))⟩
 ·have Hv:Hid (dB 2 ps l t r b=wL ps l t r b):=by show dB 2 ps l t r b=_;simp[dB]
  clear hp hn
  go_enter func91,ntmps91
  go_wp2_with (go_at_call 128;refine(wM bl off n cap ps l t r b _ ((Hp.out.below (hB _ _)).mono (by simp<;>omega)) Hn.out hn1 (by omega) ji.out h5 h6 h7 h8 g5 g6 g7 g8).mono ?_;rintro e w2 ⟨rfl,hb2⟩)
  go_ret
  exact⟨ah Hv.out.symm,(hB _ _).trans (hb2.mono (by simp<;>omega))⟩
 ·have Hv:Hid (dB 3 ps l t r b=qp ps ((l+r)/2) ((t+b)/2)):=by show dB 3 ps l t r b=_;simp[dB]
  clear hp hn
  go_enter func91,ntmps91
  go_upto_region 7 with fail
  go_region_held3 (λw'=>w'.cell? ⟨w.heap.size,4,none⟩=some (.slice (some ⟨bl,off,none⟩) n cap)/\w'.cell? ⟨w.heap.size+1,0,none⟩=some (.int .i64 l)/\w'.cell? ⟨w.heap.size+1,1,none⟩=some (.int .i64 t)/\w'.cell? ⟨w.heap.size+1,2,none⟩=some (.int .i64 r)/\w'.cell? ⟨w.heap.size+1,3,none⟩=some (.int .i64 b)) (first|(simp[go_sem, *];done)|exact s3|exact s2)
   (first
   |(go_at_call 130;refine(Fm l t r b _ h5 h6 h7 h8 g5 g6 g7 g8).mono ?_;rintro e w2 ⟨rfl,hb2⟩;obtain⟨hc2,hf2⟩:=eF hb2;have s2:=And.intro ((hc2 w.heap.size 4 (by simp<;>omega)).trans (show _=some (Value.slice (some ⟨bl,off,none⟩) n cap) from(by simp[go_sem]))) (And.intro ((hc2 (w.heap.size+1) 0 (by simp<;>omega)).trans (show _=some (Value.int .i64 l) from(by simp[go_sem]))) (And.intro ((hc2 (w.heap.size+1) 1 (by simp<;>omega)).trans (show _=some (Value.int .i64 t) from(by simp[go_sem]))) (And.intro ((hc2 (w.heap.size+1) 2 (by simp<;>omega)).trans (show _=some (Value.int .i64 r) from(by simp[go_sem]))) ((hc2 (w.heap.size+1) 3 (by simp<;>omega)).trans (show _=some (Value.int .i64 b) from(by simp[go_sem]))))));have hz2:w.heap.size+2<=w2.heap.size:=(by have:=hb2.size;simp at this;omega);have hB2:Below w.heap.size w w2:=(hB _ _).drew.trans (hb2.mono (by simp<;>omega));clear hc2 hf2)
   |(go_at_call 129;refine(BR bl off n cap ps _ _ _ ((Hp.out.below hB2).mono (by omega)) Hn.out hn1 (by omega) ji.out (by omega) (by omega) (by omega) (by omega)).mono ?_;rintro e w3 ⟨rfl,hb3⟩;obtain⟨hc3,hf3⟩:=eF hb3;have s3:=And.intro ((hc3 w.heap.size 4 (by omega)).trans s2.1) (And.intro ((hc3 (w.heap.size+1) 0 (by omega)).trans s2.2.1) (And.intro ((hc3 (w.heap.size+1) 1 (by omega)).trans s2.2.2.1) (And.intro ((hc3 (w.heap.size+1) 2 (by omega)).trans s2.2.2.2.1) ((hc3 (w.heap.size+1) 3 (by omega)).trans s2.2.2.2.2))));clear hc3 hf3))
  go_wp2
  go_ret
  exact⟨ah Hv.out.symm,hB2.trans (hb3.mono (by omega))⟩
def dU(h i h' i':Int):Bool:=if h=h' then decide (i'<i)else decide (h'<h)
theorem yH(id kd ht col:Int)(v:Value)(id' ZX ht' col':Int)(v':Value)(w:World)(hv:∃a n c,v=.slice a n c)(hv':∃a n c,v'=.slice a n c):
  Calls prog 92 #[.agg #[.int .i64 id,.int .i64 kd,.int .i64 ht,.int .i64 col,v],.agg #[.int .i64 id',.int .i64 ZX,.int .i64 ht',.int .i64 col',v']] w λe w'=>e=.returned (.bool (dU ht id ht' id'))/\Below w.heap.size w w':=by
 obtain⟨a,n,c,rfl⟩:=hv
 obtain⟨a',n',c',rfl⟩:=hv'
 have hB:∀o1 o2:Obj,Below w.heap.size w ((w.alloc o1).alloc o2):=λo1 o2=>aU.alloc (by simp) _
 by_cases h:ht=ht'
 ·have hh:(ht !=ht')=false:=by simp[h]
  have Hv:Hid (dU ht id ht' id'=decide (id'<id)):=by show dU ht id ht' id'=_;simp[dU,h]
  clear h
  go_enter func92,ntmps92
  go_wp2
  go_ret
  exact⟨ah Hv.out.symm,hB _ _⟩
 ·have hh:(ht !=ht')=true:=by simp[h]
  have Hv:Hid (dU ht id ht' id'=decide (ht'<ht)):=by show dU ht id ht' id'=_;simp[dU,h]
  clear h
  go_enter func92,ntmps92
  go_wp2
  go_ret
  exact⟨ah Hv.out.symm,hB _ _⟩
end
end Go.Proofs.YtenaepdmlknlcaaGreatDoor
