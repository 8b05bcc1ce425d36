import Derived.Test.YtenaepdmlknlcaaGreatDoorG28
open Go.Proofs.Tryz
set_option maxRecDepth 100000
set_option maxHeartbeats 8000000
namespace Go.Proofs.YtenaepdmlknlcaaGreatDoor
section
open Go.RowKit Go.Shelf
theorem qD{c:UInt8}:∀{t:List UInt8},c∈t->∃a r,t=a++c::r/\c∉a
 |[],h=>by cases h
 |x::t,h=>by
  by_cases e:x=c
  ·exact⟨[],t,by rw[e];rfl,by simp⟩
  ·rcases List.mem_cons.1 h with e'|h'
   ·exact absurd e'.symm e
   ·obtain⟨a,r,e1,e2⟩:=qD h'
    refine⟨x::a,r,by rw[e1];rfl,λhm=>?_⟩
    rcases List.mem_cons.1 hm with e'|h''
    ·exact e e'.symm
    ·exact e2 h''
theorem words_eq:∀(k:Nat) (t:List UInt8),t.length<=k->dN ⟨t.toArray⟩=(cE 32 t).map λx=>⟨x.toArray⟩:=by
 intro k
 induction k with
 |zero=>
  intro t hk
  obtain rfl:t=[]:=List.eq_nil_of_length_eq_zero (by omega)
  rw[zQ (a:=⟨[].toArray⟩) (by simp)]
  rfl
 |succ k ih=>
  intro t hk
  by_cases h:(32:UInt8)∈t
  ·obtain⟨a,r,e1,e2⟩:=qD h
   subst e1
   have e:(⟨(a++32::r).toArray⟩:ByteArray)=⟨a.toArray⟩++⟨#[32]⟩++⟨r.toArray⟩:=Ak (by rw[uR])
   rw[e,F6 (a:=⟨a.toArray⟩) (by simpa using e2),gI r e2,ih r (by simp at hk;omega)]
   rfl
  ·rw[zQ (a:=⟨t.toArray⟩) (by simpa using h),gJ h]
   rfl
theorem F7(s:ByteArray):dN s=bU 32 s:=words_eq _ s.data.toList aM
theorem LJ{x:ByteArray}(h:(44:UInt8)∉x.data.toList):yf x=x/\yh x=⟨#[]⟩:=by
 unfold yf yh Lib.cut
 rw[wF h]
 exact⟨rfl,rfl⟩
theorem LI{x:ByteArray}{a r:List UInt8}(e:x.data.toList=a++44::r)(h:(44:UInt8)∉a):yf x=⟨a.toArray⟩/\yh x=⟨r.toArray⟩:=by
 unfold yf yh Lib.cut
 rw[e,E8 r h,if_pos (by omega)]
 have a1:(a++44::r).take ((a.length:Int)).toNat=a:=by rw[Int.toNat_natCast,List.take_left'];rfl
 have a2:(a++44::r).drop (((a.length:Int)).toNat+[(44:UInt8)].length)=r:=by
  rw[Int.toNat_natCast,show a++44::r=(a++[44])++r by simp,List.drop_left']
  simp
 rw[a1,a2]
 exact⟨rfl,rfl⟩
theorem JF{x:ByteArray}(h:(44:UInt8)∈x.data.toList):aO x=false:=by
 cases hk:aO x with
 |false=>rfl
 |true=>
  unfold aO at hk
  split at hk
  ·rename_i v hv
   have e:=of_decide_eq_true hk
   rw[<-e]at h
   exact absurd h (LK (n:=v) (.inr rfl))
  ·cases hk
theorem JG:aO ⟨#[]⟩=false:=rfl
theorem Ts{x:ByteArray}{p:Int×Int}(h:mL x=some p):kO x=true/\fV x=p:=by
 unfold mL at h
 by_cases hc:(44:UInt8)∈x.data.toList
 ·obtain⟨a,r,e1,e2⟩:=qD hc
  obtain⟨c1,c2⟩:=LI e1 e2
  rw[e1,gI r e2]at h
  by_cases hr:(44:UInt8)∈r
  ·obtain⟨a',r',f1,f2⟩:=qD hr
   rw[f1,gI r' f2]at h
   cases hs:cE 44 r' with
   |nil=>exact absurd hs (sM _ _)
   |cons y ys=>rw[hs]at h;cases h
  ·rw[gJ hr]at h
   have h':(if(bE a).2=true/\(bE r).2=true then some ((bE a).1,(bE r).1)else none)=some p:=h
   split at h'
   ·rename_i hn
    have h1:=eC (x:=⟨a.toArray⟩) hn.1
    have h2:=eC (x:=⟨r.toArray⟩) hn.2
    unfold kO fV
    rw[c1,c2,h1.1,h2.1,h1.2,h2.2]
    exact⟨rfl,Option.some.inj h'⟩
   ·cases h'
 ·rw[gJ hc]at h
  cases h
theorem Tr{x:ByteArray}(h:kO x=true)(hw:lI (fV x)=true):mL x=some (fV x):=by
 unfold kO at h
 rw[Bool.and_eq_true]at h
 by_cases hc:(44:UInt8)∈x.data.toList
 ·obtain⟨a,r,e1,e2⟩:=qD hc
  obtain⟨c1,c2⟩:=LI e1 e2
  unfold fV at hw⊢
  rw[c1,c2]at h hw
  have hr:(44:UInt8)∉r:=λhm=>by
   have:=JF (x:=⟨r.toArray⟩) (by simpa using hm)
   rw[this]at h;cases h.2
  simp only[lI,fP,Bool.and_eq_true,decide_eq_true_eq]at hw
  unfold mL
  rw[e1,gI r e2,gJ hr,c1,c2]
  have n1:=jD h.1 (by omega) (by omega)
  have n2:=jD h.2 (by omega) (by omega)
  show(if(bE a).2=true/\(bE r).2=true then some ((bE a).1,(bE r).1)else none)=_
  have n1':bE a=(bL ⟨a.toArray⟩,true):=n1
  have n2':bE r=(bL ⟨r.toArray⟩,true):=n2
  rw[n1',n2',if_pos ⟨rfl,rfl⟩]
 ·rw[(LJ hc).2,JG]at h
  cases h.2
theorem Wd.gK{s:Wd}(h:s.wrong=true)(g:Bool):(s.check g).wrong=true:=by unfold Wd.check;rw[h];rfl
theorem Wd.xm{s:Wd}(h:s.wrong=true):s.next.2.wrong=true:=by
 obtain⟨l,w⟩:=s
 cases l with
 |nil=>rfl
 |cons x xs=>exact h
theorem Wd.cO{s:Wd}(h:s.wrong=true):s.number.2.wrong=true:=Wd.gK (Wd.xm h) _
theorem Wd.F8{s:Wd}(h:s.wrong=true):s.kind.2.wrong=true:=by
 unfold Wd.kind
 dsimp only
 split
 ·rfl
 ·exact Wd.xm h
theorem Wd.qb{s:Wd}(h:s.wrong=true):s.mark.2.wrong=true:=by
 obtain⟨l,w⟩:=s
 cases l with
 |nil=>exact h
 |cons x xs=>exact Wd.gK (s:=⟨xs,w⟩) h _
theorem Wd.iI(w:Bool):(⟨[],w⟩:Wd).number.2.wrong=true:=by cases w<;>rfl
theorem oF(a b c:ByteArray):((bE a.data.toList).2=true/\(bE b.data.toList).2=true/\(bE c.data.toList).2=true/\cC (bE a.data.toList).1 (bE b.data.toList).1 (bE c.data.toList).1=true)↔((((false||!aO a)||!aO b)||!aO c)||!cC (bL a) (bL b) (bL c))=false:=by
 constructor
 ·rintro⟨h1,h2,h3,h4⟩
  obtain⟨a1,a2⟩:=eC h1
  obtain⟨b1,b2⟩:=eC h2
  obtain⟨c1,c2⟩:=eC h3
  rw[a1,b1,c1,a2,b2,c2,h4];rfl
 ·intro h
  simp only[Bool.or_eq_false_iff,Bool.not_eq_false',Bool.false_or]at h
  obtain⟨⟨⟨h1,h2⟩,h3⟩,h4⟩:=h
  have ht:=h4
  unfold cC cL at ht
  rw[decide_eq_true_eq]at ht
  have hz:(if bL a=0 then(1:Int)else if bL a=1 then 2 else if bL a=2 then 4 else 8)<=8:=by split<;>(try split)<;>(try split)<;>omega
  have a1:=jD h1 (by omega) (by omega)
  have b1:=jD h2 (by omega) (by omega)
  have c1:=jD h3 (by omega) (by omega)
  rw[a1,b1,c1]
  exact⟨rfl,rfl,rfl,h4⟩
theorem L9(g:ByteArray)(r:List ByteArray)(hg:iq g=true):gX ⟨g::r,false⟩=je (g::r):=by
 have h0:jz (g::r) 0=g:=rfl
 unfold gX je
 rw[h0,if_pos hg]
 have e1:(⟨g::r,false⟩:Wd).next=(g,⟨r,false⟩):=rfl
 rw[e1]
 dsimp only
 rw[if_pos hg]
 match r with
 |[]=>rw[if_pos (.inl (Wd.qb (Wd.gK (Wd.cO (Wd.cO (Wd.iI _))) _))),if_neg (by simp)]
 |[a]=>rw[if_pos (.inl (Wd.qb (Wd.gK (Wd.cO (Wd.iI _)) _))),if_neg (by simp)]
 |[a,b]=>rw[if_pos (.inl (Wd.qb (Wd.gK (Wd.iI _) _))),if_neg (by simp)]
 |[a,b,c]=>
  rw[if_pos (show[g,a,b,c].length=4\/_ from .inl rfl)]
  unfold Jd
  have n1:dL [g,a,b,c] 1=bE a.data.toList:=rfl
  have n2:dL [g,a,b,c] 2=bE b.data.toList:=rfl
  have n3:dL [g,a,b,c] 3=bE c.data.toList:=rfl
  have ht:(⟨[a,b,c],false⟩:Wd).l_=(⟨bL a,bL b,bL c⟩,⟨[],(((false||!aO a)||!aO b)||!aO c)||!cC (bL a) (bL b) (bL c)⟩):=rfl
  rw[n1,n2,n3,ht]
  have hm:(⟨[],(((false||!aO a)||!aO b)||!aO c)||!cC (bL a) (bL b) (bL c)⟩:Wd).mark=(⟨#[]⟩,⟨[],(((false||!aO a)||!aO b)||!aO c)||!cC (bL a) (bL b) (bL c)⟩):=rfl
  dsimp only
  rw[hm]
  dsimp only
  cases hw:((((false||!aO a)||!aO b)||!aO c)||!cC (bL a) (bL b) (bL c))with
  |false=>
   have hc:=(oF a b c).2 hw
   rw[if_neg (by simp),if_pos hc,(eC hc.1).2,(eC hc.2.1).2,(eC hc.2.2.1).2]
   rfl
  |true=>rw[if_pos (.inl rfl),if_neg (λe=>by rw[(oF a b c).1 e]at hw;cases hw)]
 |[a,b,c,m]=>
  have n1:dL [g,a,b,c,m] 1=bE a.data.toList:=rfl
  have n2:dL [g,a,b,c,m] 2=bE b.data.toList:=rfl
  have n3:dL [g,a,b,c,m] 3=bE c.data.toList:=rfl
  have n4:jz [g,a,b,c,m] 4=m:=rfl
  have ht:(⟨[a,b,c,m],false⟩:Wd).l_=(⟨bL a,bL b,bL c⟩,⟨[m],(((false||!aO a)||!aO b)||!aO c)||!cC (bL a) (bL b) (bL c)⟩):=rfl
  have hm:(⟨[m],(((false||!aO a)||!aO b)||!aO c)||!cC (bL a) (bL b) (bL c)⟩:Wd).mark=(m,⟨[],((((false||!aO a)||!aO b)||!aO c)||!cC (bL a) (bL b) (bL c))||!decide (m.size=8)⟩):=rfl
  rw[ht,n4]
  dsimp only
  rw[hm]
  dsimp only
  by_cases h8:m.size=8
  ·rw[if_pos (show[g,a,b,c,m].length=4\/_ from .inr ⟨rfl,h8⟩),decide_eq_true h8]
   unfold Jd
   rw[n1,n2,n3,n4]
   cases hw:((((false||!aO a)||!aO b)||!aO c)||!cC (bL a) (bL b) (bL c))with
   |false=>
    have hc:=(oF a b c).2 hw
    rw[if_neg (by simp),if_pos hc,(eC hc.1).2,(eC hc.2.1).2,(eC hc.2.2.1).2]
    rfl
   |true=>rw[if_pos (.inl rfl),if_neg (λe=>by rw[(oF a b c).1 e]at hw;cases hw)]
  ·rw[if_neg (show¬([g,a,b,c,m].length=4\/_) from λe=>by rcases e with e|e;cases e;exact h8 e.2),decide_eq_false h8,if_pos (.inl (by simp))]
 |a::b::c::m::x::r=>
  rw[if_neg (show¬((g::a::b::c::m::x::r).length=4\/_) from λe=>by rcases e with e|e<;>(simp at e))]
  rw[if_pos (.inr (show(x::r:List ByteArray)≠[] from by simp))]
theorem LL(g:ByteArray)(r:List ByteArray)(h1:iq g=false)(h2:jR g=false)(h3:mD g=true):gX ⟨g::r,false⟩=je (g::r):=by
 have h0:jz (g::r) 0=g:=rfl
 unfold gX je
 have e1:(⟨g::r,false⟩:Wd).next=(g,⟨r,false⟩):=rfl
 rw[h0,e1]
 dsimp only
 rw[h1,h2,h3]
 simp only[Bool.false_eq_true,if_false,if_true]
 match r with
 |[]=>rw[if_pos (.inl (Wd.gK (Wd.iI _) _)),if_neg (by simp)]
 |[a]=>
  have n1:dL [g,a] 1=bE a.data.toList:=rfl
  have hi:(⟨[a],false⟩:Wd).id=(bL a,⟨[],(false||!aO a)||!fP (bL a) 1 99⟩):=rfl
  rw[if_pos (show[g,a].length=2 from rfl),n1,hi]
  dsimp only
  by_cases hc:(bE a.data.toList).2=true/\1<=(bE a.data.toList).1/\(bE a.data.toList).1<=99
  ·obtain⟨a1,a2⟩:=eC hc.1
   rw[if_pos hc,a1,a2,if_neg]
   simp only[fP]
   rw[decide_eq_true hc.2]
   simp
  ·rw[if_neg hc,if_pos]
   left
   cases hn:aO a with
   |false=>simp
   |true=>
    cases hb:fP (bL a) 1 99 with
    |false=>simp
    |true=>
     unfold fP at hb
     rw[decide_eq_true_eq]at hb
     have:=jD hn (by omega) (by omega)
     rw[this]at hc
     exact absurd ⟨rfl,hb⟩ hc
 |a::b::r=>
  rw[if_neg (show¬(g::a::b::r).length=2 by simp),if_pos (.inr (show(b::r:List ByteArray)≠[]by simp))]
variable {f:aW}
theorem nJ(h:aj f=true):1<=f.id/\f.id<=99/\ -9<=f.ht/\f.ht<=9/\1<=f.col/\f.col<=9/\f.kd≠0/\f.ps≠[]/\∀p∈f.ps,lI p=true:=by
 unfold aj fP fS at h
 simp only[Bool.and_eq_true,decide_eq_true_eq]at h
 obtain⟨⟨⟨⟨h1,h2⟩,h3⟩,h4⟩,h5⟩:=h
 refine⟨h1.1,h1.2,h2.1,h2.2,h3.1,h3.2,by omega,λe=>by rw[e]at h4;simp at h4,λp hp=>List.all_eq_true.1 h5 p hp⟩
theorem Nz(l:List ByteArray):oN l=.bad\/((dL l 1).2=true/\(dL l 3).2=true/\(dL l 4).2=true/\((l.drop 5).all λx=>(mL x).isSome)=true/\aj (Df l)=true):=by
 unfold oN
 split
 ·rename_i h1
  split
  ·rename_i h2
   split
   ·rename_i h3
    exact .inr ⟨h1.1,h1.2.1,h1.2.2,h2,h3⟩
   ·exact .inl rfl
  ·exact .inl rfl
 ·exact .inl rfl
theorem Wd.M0(w:Bool):(⟨[],w⟩:Wd).kind.2.wrong=true:=by unfold Wd.kind;dsimp only;split<;>rfl
theorem NB{t:Wd}(h:t.four.wrong=true):iY t=true:=by unfold iY;rw[h];rfl
theorem wS{s:Wd}(h:s.left=[]):s.number.2.wrong=true:=by obtain⟨l,w⟩:=s;dsimp only at h;subst h;exact Wd.iI w
theorem JC(s:Wd):s.next.2.left=s.left.tail:=by obtain⟨l,w⟩:=s;cases l<;>rfl
theorem NC(g:ByteArray)(r:List ByteArray)(h1:iq g=false)(h2:jR g=true):gX ⟨g::r,false⟩=je (g::r):=by
 have h0:jz (g::r) 0=g:=rfl
 unfold gX je
 have e1:(⟨g::r,false⟩:Wd).next=(g,⟨r,false⟩):=rfl
 rw[h0,e1]
 dsimp only
 rw[h1,h2]
 simp only[Bool.false_eq_true,if_false,if_true]
 match r with
 |[]=>rw[if_neg (show¬6<=[g].length by simp),if_pos];exact NB (Wd.cO (Wd.cO (Wd.F8 (Wd.iI _))))
 |[a]=>rw[if_neg (show¬6<=[g,a].length by simp),if_pos];exact NB (Wd.cO (Wd.cO (Wd.M0 _)))
 |[a,k]=>rw[if_neg (show¬6<=[g,a,k].length by simp),if_pos];exact NB (Wd.cO (wS (by unfold Wd.kind;dsimp only;split<;>rfl)))
 |[a,k,h]=>rw[if_neg (show¬6<=[g,a,k,h].length by simp),if_pos];exact NB (wS (by show(Wd.kind _).2.next.2.left=[];rw[show((⟨[a,k,h],false⟩:Wd).number.2.kind.2).next.2.left=(⟨[a,k,h],false⟩:Wd).number.2.kind.2.left.tail from JC _,Wd.zb];rfl))
 |a::k::h::c::L=>
  have n1:dL (g::a::k::h::c::L) 1=bE a.data.toList:=rfl
  have n2:jz (g::a::k::h::c::L) 2=k:=rfl
  have n3:dL (g::a::k::h::c::L) 3=bE h.data.toList:=rfl
  have n4:dL (g::a::k::h::c::L) 4=bE c.data.toList:=rfl
  have hF:Df (g::a::k::h::c::L)=⟨(bE a.data.toList).1,dr k,(bE h.data.toList).1,(bE c.data.toList).1,L.map λx=>(mL x).getD (0,0)⟩:=rfl
  have hR:oN (g::a::k::h::c::L)=if(bE a.data.toList).2=true/\(bE h.data.toList).2=true/\(bE c.data.toList).2=true then(if(L.all λx=>(mL x).isSome)=true then(if aj (Df (g::a::k::h::c::L))=true then .put (Df (g::a::k::h::c::L))else .bad)else .bad)else .bad:=rfl
  by_cases hk:dr k=0
  ·have hw:(⟨a::k::h::c::L,false⟩:Wd).four.wrong=true:=by
    unfold Wd.four
    refine Wd.cO (Wd.cO ?_)
    have:(⟨a::k::h::c::L,false⟩:Wd).number.2=⟨k::h::c::L,false||!aO a⟩:=rfl
    rw[this]
    unfold Wd.kind
    dsimp only
    rw[if_pos (show dr (⟨k::h::c::L,false||!aO a⟩:Wd).next.1=0 from hk)]
   rw[if_pos (NB hw)]
   have hv:¬aj (Df (g::a::k::h::c::L))=true:=λe=>(nJ e).2.2.2.2.2.2.1 hk
   rw[hR,if_neg hv]
   split
   ·split
    ·split<;>rfl
    ·rfl
   ·rfl
  ·have Mx:(⟨a::k::h::c::L,false⟩:Wd).number.2.kind=(dr k,⟨h::c::L,false||!aO a⟩):=by
    have:(⟨a::k::h::c::L,false⟩:Wd).number.2=⟨k::h::c::L,false||!aO a⟩:=rfl
    rw[this]
    unfold Wd.kind
    try dsimp only
    rw[if_neg (show¬dr (⟨k::h::c::L,false||!aO a⟩:Wd).next.1=0 from hk)]
    rfl
   have Rl:(⟨a::k::h::c::L,false⟩:Wd).four=⟨L,((false||!aO a)||!aO h)||!aO c⟩:=by
    unfold Wd.four
    rw[Mx]
    rfl
   have hput:Dg ⟨a::k::h::c::L,false⟩=⟨bL a,dr k,bL h,bL c,L.map fV⟩:=by
    unfold Dg
    rw[Rl,Mx]
    rfl
   have hPW:iY ⟨a::k::h::c::L,false⟩=((((((false||!aO a)||!aO h)||!aO c))||!(L.all kO))||!(aj ⟨bL a,dr k,bL h,bL c,L.map fV⟩)):=by
    unfold iY
    rw[Rl,hput]
   rw[hput,hPW]
   cases hb:((((((false||!aO a)||!aO h)||!aO c))||!(L.all kO))||!(aj ⟨bL a,dr k,bL h,bL c,L.map fV⟩))with
   |false=>
    simp only[Bool.or_eq_false_iff,Bool.not_eq_false',Bool.false_or]at hb
    obtain⟨⟨⟨⟨b1,b2⟩,b3⟩,b4⟩,b5⟩:=hb
    obtain⟨g1,g2,g3,g4,g5,g6,_,g8,g9⟩:=nJ b5
    dsimp only at g1 g2 g3 g4 g5 g6 g8 g9
    have c1:=jD b1 (by omega) (by omega)
    have c2:=jD b2 (by omega) (by omega)
    have c3:=jD b3 (by omega) (by omega)
    have cp:∀x∈L,mL x=some (fV x):=λx hx=>Tr (List.all_eq_true.1 b4 x hx) (g9 _ (List.mem_map.2 ⟨x,hx,rfl⟩))
    have hL:L≠[]:=λe=>g8 (by rw[e];rfl)
    have hlen:6<=(g::a::k::h::c::L).length:=by
     have:=List.length_pos_iff.2 hL
     simp only[List.length_cons];omega
    have hFe:Df (g::a::k::h::c::L)=⟨bL a,dr k,bL h,bL c,L.map fV⟩:=by
     rw[hF,c1,c2,c3]
     have:(L.map λx=>(mL x).getD (0,0))=L.map fV:=List.map_congr_left λx hx=>by rw[cp x hx];rfl
     rw[this]
    rw[if_neg (by decide),if_pos hlen,hR,hFe,c1,c2,c3,if_pos ⟨rfl,rfl,rfl⟩,if_pos (List.all_eq_true.2 λx hx=>by rw[cp x hx];rfl),if_pos b5]
   |true=>
    rw[if_pos rfl]
    split
    ·rcases Nz (g::a::k::h::c::L)with e|⟨e1,e2,e3,e4,e5⟩
     ·exact e.symm
     ·rw[n1]at e1
      rw[n3]at e2
      rw[n4]at e3
      obtain⟨a1,a2⟩:=eC e1
      obtain⟨a3,a4⟩:=eC e2
      obtain⟨a5,a6⟩:=eC e3
      have cp:∀x∈L,kO x=true/\fV x=(mL x).getD (0,0):=λx hx=>by
       have:=List.all_eq_true.1 e4 x hx
       cases hp:mL x with
       |none=>rw[hp]at this;cases this
       |some p=>have:=Ts hp;exact⟨this.1,this.2⟩
      have hm:L.map fV=L.map λx=>(mL x).getD (0,0):=List.map_congr_left λx hx=>(cp x hx).2
      have ha:L.all kO=true:=List.all_eq_true.2 λx hx=>(cp x hx).1
      rw[a1,a3,a5,ha,a2,a4,a6,hm,<-hF,e5]at hb
      cases hb
    ·rfl
theorem J2(s:ByteArray):je (bU 32 s)=cm s:=by
 unfold cm
 rw[F7]
 have hne:bU 32 s≠[]:=λe=>sM 32 s.data.toList (by unfold bU at e;simpa using e)
 cases hl:bU 32 s with
 |nil=>exact absurd hl hne
 |cons g r=>
  symm
  cases h1:iq g with
  |true=>exact L9 g r h1
  |false=>
   cases h2:jR g with
   |true=>exact NC g r h1 h2
   |false=>
    cases h3:mD g with
    |true=>exact LL g r h1 h2 h3
    |false=>
     have h0:jz (g::r) 0=g:=rfl
     have e1:(⟨g::r,false⟩:Wd).next=(g,⟨r,false⟩):=rfl
     unfold gX je
     rw[h0,e1]
     dsimp only
     rw[h1,h2,h3]
     rfl
end
end Go.Proofs.YtenaepdmlknlcaaGreatDoor
