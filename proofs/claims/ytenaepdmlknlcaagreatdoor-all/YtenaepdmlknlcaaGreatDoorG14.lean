import Derived.Test.YtenaepdmlknlcaaGreatDoorG13
open Go.Proofs.Tryz
set_option maxRecDepth 100000
set_option maxHeartbeats 8000000
namespace Go.Proofs.YtenaepdmlknlcaaGreatDoor
section
open Go.RowKit Go.Shelf
structure Kp where
 t:Tl
 body:ByteArray
def bz:List Kp->List Value
 |[]=>[]
 |k::ks=> .int .i64 k.t.z::.int .i64 k.t.c::.int .i64 k.t.r::.string k.body::bz ks
def mj(w:World)(g:Nat)(ks:List Kp):Prop:=∀(i:Nat) k,ks[i]? =some k->w.cell? ⟨g,i*4,none⟩=some (.int .i64 k.t.z)/\w.cell? ⟨g,i*4+1,none⟩=some (.int .i64 k.t.c)/\w.cell? ⟨g,i*4+2,none⟩=some (.int .i64 k.t.r)/\w.cell? ⟨g,i*4+3,none⟩=some (.string k.body)
theorem Jo(T:Nat)(t:Tl)(k:Kp)(w:World)(h0:w.cell? ⟨T,0,none⟩=some (.int .i64 t.z))(h1:w.cell? ⟨T,1,none⟩=some (.int .i64 t.c))(h2:w.cell? ⟨T,2,none⟩=some (.int .i64 t.r)):
  Calls prog 219 #[.agg #[.int .i64 k.t.z,.int .i64 k.t.c,.int .i64 k.t.r,.string k.body],.pointer (some ⟨T,0,none⟩)] w λe w'=>e=.returned (.bool (decide (k.t=t)))/\Below w.heap.size w w':=by
 have hT:=dz w ⟨T,0,none⟩ h0
 obtain⟨⟨kz,kc,kr⟩,body⟩:=k
 obtain⟨z,c,r⟩:=t
 dsimp only at h0 h1 h2⊢
 go_enter func219,ntmps219
 go_wp2
 all_goals
  go_ret
  exact⟨rfl,aU⟩
def bO(t:Tl)(ks:List Kp):Option Nat:=ks.findIdx? λk=>decide (k.t=t)
def y7(t:Tl)(ks:List Kp):Int:=match bO t ks with|some i=>(i:Int)|none=> -1
variable {t:Tl} {ks:List Kp} {k:Nat}
theorem xg{x:Kp}(h:∀j y,j<k->ks[j]? =some y->¬y.t=t)(hx:ks[k]? =some x)(e:x.t=t):bO t ks=some k:=by
 unfold bO
 rw[List.findIdx?_eq_some_iff_getElem]
 obtain⟨hk,hx'⟩:=List.getElem?_eq_some_iff.1 hx
 refine⟨hk,by rw[hx'];simpa using e,λj hj=>?_⟩
 have:=h j _ hj (List.getElem?_eq_getElem (by omega))
 simpa using this
theorem tO(h:∀j y,j<ks.length->ks[j]? =some y->¬y.t=t):bO t ks=none:=by
 unfold bO
 rw[List.findIdx?_eq_none_iff]
 intro x hx
 obtain⟨j,hj,e⟩:=List.mem_iff_getElem.1 hx
 have:=h j x hj (by rw[List.getElem?_eq_getElem hj,e])
 simpa using this
variable {n:Nat}
theorem mj.below{A B:World}(h:Below n A B){g:Nat}(hg:g<n)(k:mj A g ks):mj B g ks:=λi x e=>
 have hc:=λo=>h.cell (p:=⟨g,o,none⟩) hg
 ⟨(hc _).trans (k i x e).1,(hc _).trans (k i x e).2.1,(hc _).trans (k i x e).2.2.1,(hc _).trans (k i x e).2.2.2⟩
theorem oV(T:Nat)(t:Tl)(a:Option Addr)(n cap:Nat)(ks:List Kp)(w:World)(hn:n=ks.length)(hcap:n<=cap)(MB:n<=1000000)(ha:ks=[]\/∃g,a=some ⟨g,0,none⟩/\g<w.heap.size/\mj w g ks)(hT:T<w.heap.size)(h0:w.cell? ⟨T,0,none⟩=some (.int .i64 t.z))(h1:w.cell? ⟨T,1,none⟩=some (.int .i64 t.c))(h2:w.cell? ⟨T,2,none⟩=some (.int .i64 t.r)):
  Calls prog 218 #[.slice a n cap,.func (.func 219) #[] #[.pointer (some ⟨T,0,none⟩)]] w λe w'=>e=.returned (.int .i64 (y7 t ks))/\Below w.heap.size w w':=by
 have HT:Hid (w.cell? ⟨T,0,none⟩=some (.int .i64 t.z)/\w.cell? ⟨T,1,none⟩=some (.int .i64 t.c)/\w.cell? ⟨T,2,none⟩=some (.int .i64 t.r)):=⟨h0,h1,h2⟩
 have Hn:=af hn
 have HA:=af ha
 clear h0 h1 h2 hn ha
 go_enter func218,ntmps218
 go_wp2_with fail
 go_loopw [8] (λi wr=>∃k:Nat,k<=n/\i=.int .i64 k/\Hid (∀j x,j<k->ks[j]? =some x->¬x.t=t)/\Below w.heap.size w wr) (λi _=>n-(intOf i).toNat)
 case atStart=>exact⟨0,by omega,rfl,λj x hj=>by omega,bK⟩
 case round=>
  obtain⟨k,hk,rfl,HJ,hB⟩:=hrel
  by_cases hlt:k<n
  ·obtain⟨x,hx⟩:∃x,ks[k]? =some x:=⟨ks[k]'(by rw[<-Hn.out];exact hlt),List.getElem?_eq_getElem _⟩
   obtain⟨g,rfl,hg,hK⟩:=HA.out.resolve_left (λe=>by rw[e]at hx;simp at hx)
   obtain⟨x0,x1,x2,x3⟩:=(hK.below hB hg) k x hx
   have HX:=af hx
   have hI:(k:Int)<(n:Int):=by omega
   have SB:(0:Int)<=(k:Int):=by omega
   have HC:Hid (∀W,Below w.heap.size w W->Calls prog 219 #[.agg #[.int .i64 x.t.z,.int .i64 x.t.c,.int .i64 x.t.r,.string x.body],.pointer (some ⟨T,0,none⟩)] W λe w'=>e=.returned (.bool (decide (x.t=t)))/\Below W.heap.size W w'):=λW hW=>
    Jo T t x W ((hW.cell (p:=⟨T,0,none⟩) hT).trans HT.out.1) ((hW.cell (p:=⟨T,1,none⟩) hT).trans HT.out.2.1) ((hW.cell (p:=⟨T,2,none⟩) hT).trans HT.out.2.2)
   have Hm:Hid (∀b:Bool,decide (x.t=t)=b->(b=true->x.t=t)/\(b=false->¬x.t=t)):=λb e=>⟨λe'=>by rw[e']at e;simpa using e,λe'=>by rw[e']at e;simpa using e⟩
   obtain⟨q,hq⟩:∃q,decide (x.t=t)=q:=⟨_,rfl⟩
   have HQ:=Hm.out q hq
   rw[hq]at HC
   obtain⟨xz,xc,xr,xb,e0,e1,e2,e3⟩:∃a b c d,x.t.z=a/\x.t.c=b/\x.t.r=c/\x.body=d:=⟨_,_,_,_,rfl,rfl,rfl,rfl⟩
   rw[e0]at x0;rw[e1]at x1;rw[e2]at x2;rw[e3]at x3;rw[e0,e1,e2,e3]at HC
   have HQ':=af HQ
   clear HQ Hm hx hK hq e0 e1 e2 e3
   cases q with
   |true=>
    go_wp2_with (go_at_call 219;refine aq (HC.out _ hB) ?_;rintro e w2 ⟨rfl,hb2⟩;dsimp only)
    go_ret
    rw[y7,xg HJ.out HX.out (HQ'.out.1 (by first|trivial|rfl))]
    exact⟨rfl,hB.trans (hb2.mono hB.size)⟩
   |false=>
    go_wp2_with (go_at_call 219;refine aq (HC.out _ hB) ?_;rintro e w2 ⟨rfl,hb2⟩;dsimp only)
    refine⟨⟨k+1,by omega,by go_num,λj y hj ey=>?_,hB.trans (hb2.mono hB.size)⟩,by simp[intOf];omega⟩
    by_cases hjk:j=k
    ·subst hjk
     have:=HX.out
     rw[this]at ey
     cases ey
     exact HQ'.out.2 (by first|trivial|rfl)
    ·exact HJ.out j y (by omega) ey
  ·obtain rfl:k=n:=by omega
   go_wp2
   go_ret
   rw[y7,tO (λj y hj=>HJ.out j y (by rw[Hn.out];exact hj))]
   exact⟨rfl,hB⟩
theorem yU(ks:List Kp):∀u∈bz ks,u.oneCell'=true:=by
 induction ks with
 |nil=>intro u hu;simp[bz]at hu
 |cons k ks ih=>
  intro u hu
  simp only[bz,List.mem_cons]at hu
  rcases hu with rfl|rfl|rfl|rfl|hu
  ·rfl
  ·rfl
  ·rfl
  ·rfl
  ·exact ih u hu
theorem qE(a b:List Kp):bz (a++b)=bz a++bz b:=by
 induction a with
 |nil=>rfl
 |cons k a ih=>simp only[List.cons_append,bz,ih]
theorem EK(ks:List Kp)(i:Nat):bz (ks.take i)=(bz ks).take (i*4):=by
 induction ks generalizing i with
 |nil=>simp[bz]
 |cons k ks ih=>
  cases i with
  |zero=>simp[bz]
  |succ i=>rw[show(i+1)*4=i*4+1+1+1+1 by omega];simp[bz,ih]
theorem vZ(ks:List Kp)(i:Nat):bz (ks.drop i)=(bz ks).drop (i*4):=by
 induction ks generalizing i with
 |nil=>simp[bz]
 |cons k ks ih=>
  cases i with
  |zero=>simp
  |succ i=>rw[show(i+1)*4=i*4+1+1+1+1 by omega];simp[bz,ih]
theorem Cm(ks:List Kp)(i:Nat):bz (ks.eraseIdx i)=(bz ks).take (i*4)++(bz ks).drop ((i+1)*4):=by
 rw[List.eraseIdx_eq_take_drop_succ,qE,EK,vZ]
theorem Jb(ks:List Kp)(i:Nat)(k:Kp)(h:ks[i]? =some k):(bz ks)[i*4]? =some (.int .i64 k.t.z)/\(bz ks)[i*4+1]? =some (.int .i64 k.t.c)/\(bz ks)[i*4+2]? =some (.int .i64 k.t.r)/\(bz ks)[i*4+3]? =some (.string k.body):=by
 induction ks generalizing i with
 |nil=>simp at h
 |cons q ks ih=>
  cases i with
  |zero=>simp at h;subst h;exact⟨rfl,rfl,rfl,rfl⟩
  |succ i=>
   have:=ih i (by simpa using h)
   rw[show(i+1)*4=i*4+1+1+1+1 by omega]
   simpa[bz]using this
variable {w:World}
theorem mj.own{base g n cap:Nat}(h:w.ownsRow base 178 4 (.slice (some ⟨g,0,none⟩) n cap) n (bz ks)):mj w g ks:=λi k e=>by
 have hc:=h.cells (g:=g) rfl
 obtain⟨e0,e1,e2,e3⟩:=Jb ks i k e
 have r0:=hc _ _ e0;have r1:=hc _ _ e1;have r2:=hc _ _ e2;have r3:=hc _ _ e3
 rw[Lp]at r0 r1 r2 r3
 exact⟨r0,r1,r2,r3⟩
variable {M:Nat->Nat->Prop} {base size:Nat} {e:TypeId} {xs:List Value}
theorem bD{A B:World}(h:Fr M A B){v:Value}(o:A.ownsRow base e size v n xs)(hm:∀k i,v.ownBlock=some k->¬M k i):B.ownsRow base e size v n xs:=by
 obtain⟨h1,h2⟩:=o
 refine⟨h1,h2.imp id ?_⟩
 rintro⟨g,cap,cur,e1,e2,e3,e4⟩
 exact⟨g,cap,cur,e1,e2,(h.block g (Array.getElem?_eq_some_iff.1 e3).1 (λi=>hm g i (by rw[e1];rfl))).trans e3,e4⟩
structure gu(w:World)(A o:Nat)(v:Value)(ks:List Kp):Prop where
 c:w.cell? ⟨A,o,none⟩=some v
 f:w.frozen? ⟨A,o,none⟩=false
 own:w.ownsRow 0 178 4 v ks.length (bz ks)
 ne:v.ownBlock≠some A
 lt:ks.length<=1000
def n9(A o:Nat)(v:Value):Nat->Nat->Prop:=λc j=>(c=A/\j=o)\/v.ownBlock=some c
theorem tG(z c r:Int)(w:World)(h1:0<=z)(h2:z<=3)(h3:0<=c)(h4:c<=7)(h5:0<=r)(h6:r<=7):
  Calls prog 217 #[.agg #[.int .i64 z,.int .i64 c,.int .i64 r]] w λe w'=>e=.returned (.int .i64 ((z+c+r)%4))/\Below w.heap.size w w':=by
 go_enter func217,ntmps217
 go_wp2
 go_ret
 exact⟨rfl,aU⟩
theorem zG(A o:Nat)(t:Tl)(v:Value)(ks:List Kp)(w:World)(h:gu w A o v ks)(hx:bO t ks=none):
  Calls prog 203 #[.pointer (some ⟨A,o,none⟩),.agg #[.int .i64 t.z,.int .i64 t.c,.int .i64 t.r]] w λe w'=>e=.returned (.tuple #[.string ⟨#[]⟩,.bool false])/\Below w.heap.size w w':=by
 obtain⟨hc,hf,own,hne,hlt⟩:=h
 have hA:A<w.heap.size:=dz w ⟨A,o,none⟩ hc
 have HV:Hid (y7 t ks= -1):=by show y7 t ks= -1;rw[y7,hx]
 obtain⟨a,cap,rfl,ha,hcap⟩:∃(a:Option Addr) (cap:Nat),v=.slice a ks.length cap/\(ks=[]\/∃g,a=some ⟨g,0,none⟩/\g<w.heap.size/\mj w g ks)/\ks.length<=cap:=by
  rcases own.2 with⟨e1,e2⟩|⟨g,cap,cur,e1,_,e3,e4,_⟩
  ·exact⟨none,0,by rw[e2];exact e1,.inl (List.length_eq_zero_iff.1 e2),by omega⟩
  ·subst e1
   exact⟨_,cap,rfl,.inr ⟨g,rfl,(Array.getElem?_eq_some_iff.1 e3).1,mj.own own⟩,e4⟩
 obtain⟨n,hn⟩:∃n,ks.length=n:=⟨_,rfl⟩
 rw[hn]at hc hcap
 have Hn:Hid (n=ks.length):=hn.symm
 have HA:=af ha
 have MB:n<=1000000:=by omega
 clear own hne hf hx hn ha hlt
 go_enter func203,ntmps203
 go_wp2_with (go_at_call 218;refine aq (oV w.heap.size t a n cap ks _ Hn.out hcap MB (HA.out.imp id λ⟨g,e1,e2,e3⟩=>⟨g,e1,by simp;omega,e3.below aU e2⟩) (by simp) (by simp[go_sem]) (by simp[go_sem]) (by simp[go_sem])) ?_;rintro e w1 ⟨rfl,hb1⟩;rw[HV.out];dsimp only)
 go_ret2
 exact⟨rfl,aU.trans (hb1.mono (by simp))⟩
theorem zI(A o:Nat)(t:Tl)(v:Value)(ks:List Kp)(i:Nat)(k:Kp)(w:World)(h:gu w A o v ks)(hx:bO t ks=some i)(hk:ks[i]? =some k):
  Calls prog 203 #[.pointer (some ⟨A,o,none⟩),.agg #[.int .i64 t.z,.int .i64 t.c,.int .i64 t.r]] w λe w'=>e=.returned (.tuple #[.string k.body,.bool true])/\∃v',gu w' A o v' (ks.eraseIdx i)/\v'.ownBlock=v.ownBlock/\Fr (n9 A o v) w w':=by
 obtain⟨hc,hf,own,hne,hlt⟩:=h
 have hA:A<w.heap.size:=dz w ⟨A,o,none⟩ hc
 have hil:i<ks.length:=(List.getElem?_eq_some_iff.1 hk).1
 have HV:Hid (y7 t ks=(i:Int)):=by show y7 t ks=_;rw[y7,hx]
 obtain⟨m,hm⟩:∃m,ks.length=m+1:=⟨ks.length-1,by omega⟩
 obtain⟨g,cap,cur,rfl,hg,hcap⟩:∃(g cap:Nat) (cur:Array Value),v=.slice (some ⟨g,0,none⟩) ks.length cap/\w.heap[g]? =some (.cells cur 178 (0,0))/\ks.length<=cap:=by
  rcases own.2 with⟨e1,e2⟩|⟨g,cap,cur,e1,_,e3,e4,_⟩
  ·omega
  ·exact⟨g,cap,cur,e1,e3,e4⟩
 have hgs:g<w.heap.size:=(Array.getElem?_eq_some_iff.1 hg).1
 have DV:g≠A:=λe=>hne (by rw[e];rfl)
 have HK:Hid (mj w g ks):=mj.own own
 rw[hm]at own hc hcap
 have HO:Hid (w.ownsRow 0 178 4 (.slice (some ⟨g,0,none⟩) (m+1) cap) (m+1) (bz ks)):=own
 have Hm:Hid (m+1=ks.length):=hm.symm
 have MB:m+1<=1000000:=by omega
 have Mv:i<m+1:=by omega
 have xU:(i:Int)<(m:Int)+1:=by omega
 have eH:(0:Int)<=(i:Int):=by omega
 have hin:¬(i:Int)<0:=by omega
 have H_:=af hlt
 have Hk:=af hk
 have hw9:IntKind.i64.wrap ((i:Int)+1)=(i:Int)+1:=by rw[IntKind.wrap_i64];omega
 clear own hne hg hx hlt hk hil hm
 go_enter func203,ntmps203
 go_wp2_with (first
  |(go_at_call 218;refine aq (oV w.heap.size t (some ⟨g,0,none⟩) (m+1) cap ks _ Hm.out hcap MB (.inr ⟨g,rfl,by simp;omega,HK.out.below aU hgs⟩) (by simp) (by simp[go_sem]) (by simp[go_sem]) (by simp[go_sem])) ?_;rintro e w1 ⟨rfl,hb1⟩;rw[HV.out];have hB1:Below w.heap.size w w1:=(aU.trans (hb1.mono (by simp)));have c1:w1.cell? ⟨A,o,none⟩=some (.slice (some ⟨g,0,none⟩) (m+1) cap):=((hB1.cell (p:=⟨A,o,none⟩) hA).trans hc);have f1:w1.frozen? ⟨A,o,none⟩=false:=((hB1.frozen (p:=⟨A,o,none⟩) hA).trans hf);have b1:=((HK.out.below hB1 hgs) i k Hk.out).2.2.2;dsimp only)
  |(go_at_call 220;refine aq (sQ 0 g m cap i (bz ks) _ (l6 (M:=λ_ _=>False) (Fr.of_below (by first|exact hB1|exact hB1.drew)) HO.out (λ_ _ _ e=>e)) (yU ks) Mv MB) ?_;rintro e w2 ⟨rfl,hown2,hf2⟩;have DN:Hid _:=hown2;clear hown2;have c2:w2.cell? ⟨A,o,none⟩=some (.slice (some ⟨g,0,none⟩) (m+1) cap):=(hf2.cell A o (Nat.lt_of_lt_of_le hA hB1.size) (λe=>DV (by have:A=g:=e;exact this.symm))).trans c1;have f2:w2.frozen? ⟨A,o,none⟩=false:=(hf2.frozen A o (Nat.lt_of_lt_of_le hA hB1.size) (λe=>DV (by have:A=g:=e;exact this.symm))).trans f1;dsimp only))
 go_ret2
 have hel:(ks.eraseIdx i).length=m:=by
  rw[List.length_eraseIdx,if_pos (by rw[<-Hm.out];exact Mv),<-Hm.out];rfl
 refine⟨rfl,.slice (some ⟨g,0,none⟩) m cap,⟨cell_eq c2 _,by rw[World.frozen?_setCell];exact f2,?_,λe=>DV (Option.some.inj e),by rw[hel];have:=H_.out;have:=Hm.out;omega⟩,rfl,?_⟩
 ·rw[hel,Cm]
  exact bD (jQ A w2 o _) DN.out (λc _ hc e=>by have h1:g=c:=Option.some.inj hc;have h2:c=A:=e;exact DV (h1.trans h2))
 ·refine(((Fr.of_below hB1:Fr (n9 A o (.slice (some ⟨g,0,none⟩) ks.length cap)) w w1)).trans (hf2.mono λc i e=> .inr ?_)).setCell (b:=A) (i:=o) (.inl (.inl ⟨rfl,rfl⟩)) _
  have:c=g:=e
  rw[this];rfl
end
section
open Go.RowKit
theorem dM(n l m:Int)(w:World):
  Calls prog 105 #[.int .i64 n,.int .i64 l,.int .i64 m] w λe w'=>e=.returned (.bool (fP n l m))/\w'=w:=by
 by_cases h1:l<=n
 ·by_cases h2:n<=m
  ·go_enter func105,ntmps105
   go_wp2
   go_ret
   exact⟨ah (by simp[fP];omega),rfl⟩
  ·go_enter func105,ntmps105
   go_wp2
   go_ret
   exact⟨ah (by simp[fP];omega),rfl⟩
 ·go_enter func105,ntmps105
  go_wp2
  go_ret
  exact⟨ah (by simp[fP];omega),rfl⟩
theorem oA(z:Int)(w:World)(h:0<=z/\z<=3):
  Calls prog 106 #[.int .i64 z] w λe w'=>e=.returned (.int .i64 (cL z))/\w'=w:=by
 obtain⟨h1,h2⟩:=h
 go_enter func106,ntmps106
 go_wp2
 go_loopw [0,3] (λn p wr=>∃k q:Int,n=.int .i64 k/\p=.int .i64 q/\0<=k/\k<=z/\1<=q/\q<=8/\q*cL k=cL z/\wr=w) (λn _ _=>(intOf n).toNat)
 case atStart=>exact⟨z,1,rfl,rfl,h1,by omega,by omega,by omega,by omega,by first|trivial|rfl⟩
 case round=>
  obtain⟨k,q,rfl,rfl,k0,kz,q0,q8,hq,rfl⟩:=hrel
  by_cases hk:0<k
  ·have hz:k=1\/k=2\/k=3:=by omega
   have hm:cL k=2*cL (k-1):=by rcases hz with rfl|rfl|rfl<;>rfl
   have hm1:1<=cL (k-1):=by rcases hz with rfl|rfl|rfl<;>decide
   have hm8:cL z<=8:=by simp only[cL];split<;>(try split)<;>(try split)<;>omega
   have Jj:2*q<=8:=by
    rw[hm]at hq
    have:=Int.mul_le_mul_of_nonneg_left hm1 (show 0<=2*q by omega)
    have e:q*(2*cL (k-1))=2*q*cL (k-1):=by rw[<-Int.mul_assoc,Int.mul_comm q 2]
    omega
   have Hq:Hid (2*q*cL (k-1)=cL z):=by
    show 2*q*cL (k-1)=cL z
    rw[<-hq,hm,<-Int.mul_assoc,Int.mul_comm q 2]
   clear hz hm hm1 hm8 hq
   go_wp2
   go_roundw
   case rel=>exact⟨k-1,2*q,by go_num,by go_num,by omega,by omega,by omega,by omega,Hq.out,by first|trivial|rfl⟩
   case measure=>simp[intOf];omega
  ·have Hq:Hid (q=cL z):=by
    show q=cL z
    have:k=0:=by omega
    subst this
    simp[cL]at hq⊢
    exact hq
   clear hq
   go_wp2
   go_ret
   exact⟨kB Hq.out,rfl⟩
theorem tK(z c r:Int)(w:World):
  Calls prog 62 #[.agg #[.int .i64 z,.int .i64 c,.int .i64 r]] w λe w'=>e=.returned (.bool (cC z c r))/\Below w.heap.size w w':=by
 have hB:∀o1:Obj,Below w.heap.size w (w.alloc o1):=λo1=>aU
 by_cases h:fP z 0 3=true
 ·have hz:0<=z/\z<=3:=by simpa[fP]using h
  obtain⟨m,hm⟩:∃m,cL z=m:=⟨_,rfl⟩
  have hp:∀W:World,Calls prog 106 #[.int .i64 z] W λe w'=>e=.returned (.int .i64 m)/\w'=W:=λW=>hm▸oA z W hz
  have HP:Hid _:=hp
  have ht:cC z c r=decide (0<=c/\0<=r/\c<m/\r<m):=by
   simp only[cC,hm]
   congr 1
   rw[eq_iff_iff]
   omega
  clear hm hp
  rw[ht]
  clear ht
  by_cases c1:0<=c
  ·by_cases c2:0<=r
   ·by_cases c3:c<m
    ·by_cases c4:r<m
     ·go_enter func62,ntmps62
      go_wp2_with (first|(go_at_call 105;refine(dM _ _ _ _).mono ?_;rintro e w' ⟨rfl,rfl⟩)|(go_at_call 106;refine aq (HP.out _) ?_;rintro e w' ⟨rfl,rfl⟩))
      go_ret
      exact⟨ah (by rw[Bool.eq_iff_iff];simp;omega),hB _⟩
     ·go_enter func62,ntmps62
      go_wp2_with (first|(go_at_call 105;refine(dM _ _ _ _).mono ?_;rintro e w' ⟨rfl,rfl⟩)|(go_at_call 106;refine aq (HP.out _) ?_;rintro e w' ⟨rfl,rfl⟩))
      go_ret
      exact⟨ah (by rw[Bool.eq_iff_iff];simp;omega),hB _⟩
    ·go_enter func62,ntmps62
     go_wp2_with (first|(go_at_call 105;refine(dM _ _ _ _).mono ?_;rintro e w' ⟨rfl,rfl⟩)|(go_at_call 106;refine aq (HP.out _) ?_;rintro e w' ⟨rfl,rfl⟩))
     go_ret
     exact⟨ah (by rw[Bool.eq_iff_iff];simp;omega),hB _⟩
   ·go_enter func62,ntmps62
    go_wp2_with (first|(go_at_call 105;refine(dM _ _ _ _).mono ?_;rintro e w' ⟨rfl,rfl⟩)|(go_at_call 106;refine aq (HP.out _) ?_;rintro e w' ⟨rfl,rfl⟩))
    go_ret
    exact⟨ah (by rw[Bool.eq_iff_iff];simp;omega),hB _⟩
  ·go_enter func62,ntmps62
   go_wp2_with (first|(go_at_call 105;refine(dM _ _ _ _).mono ?_;rintro e w' ⟨rfl,rfl⟩)|(go_at_call 106;refine aq (HP.out _) ?_;rintro e w' ⟨rfl,rfl⟩))
   go_ret
   exact⟨ah (by rw[Bool.eq_iff_iff];simp;omega),hB _⟩
 ·have h':fP z 0 3=false:=by simpa using h
  have ht:cC z c r=false:=by
   simp only[fP,decide_eq_false_iff_not]at h'
   simp only[cC,decide_eq_false_iff_not]
   omega
  rw[ht]
  clear h ht
  go_enter func62,ntmps62
  go_wp2_with (go_at_call 105;refine(dM _ _ _ _).mono ?_;rintro e w' ⟨rfl,rfl⟩)
  go_ret
  exact⟨rfl,hB _⟩
theorem JN(z p c r i j:Int)(w:World)(hz:ZP z p)(h1:0<=c)(h2:c<=7)(h3:0<=r)(h4:r<=7)(h5:0<=i)(h6:i<=7)(h7:0<=j)(h8:j<=7):
  Calls prog 57 #[.agg #[.int .i64 z,.int .i64 c,.int .i64 r],.int .i64 i,.int .i64 j] w λe w'=>e=.returned (.agg #[.int .i64 (8*p*c+i*p),.int .i64 (8*p*r+j*p),.int .i64 (8*p*c+i*p+p),.int .i64 (8*p*r+j*p+p)])/\Below w.heap.size w w':=by
 have hB:∀(o1 o2:Obj),Below w.heap.size w ((w.alloc o1).alloc o2):=λo1 o2=>aU.alloc (by simp) _
 have Re:∀(o1 o2 o3:Obj),Below w.heap.size w (((w.alloc o1).alloc o2).alloc o3):=λo1 o2 o3=>(hB o1 o2).alloc (by simp;omega) _
 have Hz:ZP z p:=hz
 rcases hz with⟨rfl,rfl⟩|⟨rfl,rfl⟩|⟨rfl,rfl⟩|⟨rfl,rfl⟩
 ·go_enter func57,ntmps57
  go_upto_region 1 with fail
  go_region_held3 (λw'=>w'.cell? ⟨w.heap.size,0,none⟩=some (.int .i64 0)/\w'.cell? ⟨w.heap.size,1,none⟩=some (.int .i64 c)/\w'.cell? ⟨w.heap.size,2,none⟩=some (.int .i64 r)) (first|with_reducible exact s2|with_reducible exact s1|(simp[go_sem,hz2,u0,u1,u2];done)|(simp[go_sem,hz1,t0,t1,t2];done)|(simp[go_sem];done))
   (first
   |(go_at_call 93;refine(jO _ _ c r _ Hz h1 h2 h3 h4).mono ?_;rintro e w1 ⟨rfl,hb1⟩;dsimp only;have s1:=T3.below hb1 (b:=w.heap.size) (c:=c) (r:=r) (by simp<;>omega) (by simp[T3,go_sem]<;>rfl);unfold T3 at s1;obtain⟨t0,t1,t2⟩:=id s1;have hz1:w.heap.size<w1.heap.size:=(by have:=hb1.size;simp at this;omega);have hB1:Below w.heap.size w w1:=(by first|exact(hB _ _).drew.trans (hb1.mono (by simp<;>omega))|exact(Re _ _ _).drew.trans (hb1.mono (by simp<;>omega))|exact(hB _ _).trans (hb1.mono (by simp<;>omega))|exact(Re _ _ _).trans (hb1.mono (by simp<;>omega)));(first|(have kk:K4 w1 (w.heap.size+1+1) (.int .i64 0) (.int .i64 0) (.int .i64 0) (.int .i64 0):=(by first|exact K4.below hb1 (by simp) (by constructor<;>simp[go_sem]));have hz3:w.heap.size+1+1<w1.heap.size:=(by have:=hb1.size;simp at this;omega);obtain⟨k0,k1,k2,k3,f0,f1,f2,f3⟩:=id kk)|skip);have S_:w.heap.size+1<w1.heap.size:=(by have:=hb1.size;simp at this;omega);have KR:Hid (K4 w1 (w.heap.size+1) (.int .i64 0) (.int .i64 0) (.int .i64 0) (.int .i64 0)):=K4.below hb1 (by simp<;>omega) (by constructor<;>simp[go_sem]))
   |(go_at_call 94;refine(nN _ _ c r _ Hz).mono ?_;rintro e w2 ⟨rfl,hb2⟩;dsimp only;have hz2:w.heap.size<w2.heap.size:=(by have:=hb2.size;(try simp at this);omega);have s2:=T3.below hb2 (b:=w.heap.size) (c:=c) (r:=r) (by(try simp)<;>omega) (by first|exact s1|(simp[T3,go_sem,hz1,t0,t1,t2]<;>rfl));unfold T3 at s2;obtain⟨u0,u1,u2⟩:=id s2;(first|(have kk:K4 w2 (w.heap.size+1+1) (.int .i64 0) (.int .i64 0) (.int .i64 0) (.int .i64 0):=(by first|exact K4.below hb2 hz3 kk);obtain⟨k0,k1,k2,k3,f0,f1,f2,f3⟩:=kk)|(have kk:K4 w2 w1.heap.size (.int .i64 0) (.int .i64 0) (.int .i64 0) (.int .i64 0):=(by first|exact K4.below hb2 (by simp) (K4.new w1 _ _ _ _ _));obtain⟨k0,k1,k2,k3,f0,f1,f2,f3⟩:=kk)|skip);have hB2:Below w.heap.size w w2:=(by first|exact hB1.trans (hb2.mono hB1.size)|exact(hB1.alloc hB1.size _).trans (hb2.mono (Nat.le_trans hB1.size (by simp))));have S9:w.heap.size+1<w2.heap.size:=(by have:=hb2.size;(try simp at this);omega);have KQ:Hid (K4 w2 (w.heap.size+1) (.int .i64 0) (.int .i64 0) (.int .i64 0) (.int .i64 0)):=K4.below hb2 (by(try simp)<;>omega) (by first|exact KR.out|exact K4.below ((Below.refl _ w1).alloc aM _) S_ KR.out)))
  all_goals
   go_wp2_with (go_at_call 95;go_loud (refine(j5 _ _ _ _ (by omega) (by omega) (by omega) (by omega) (by omega) (by omega)).mono ?_;rintro e w3 ⟨rfl,hb3⟩;dsimp only;have gZ:Below w.heap.size w w3:=(Below.trans (by repeat(first|exact hB2|refine Below.setCell ?_ (by(try simp)<;>omega) _|refine Below.alloc ?_ (by(try simp)<;>omega) _)) (hb3.mono (by(try simp)<;>omega)));obtain⟨r0,r1,r2,r3,g0,g1,g2,g3⟩:=KQ.out;have Tg:=K4.below hb3 (b:=w.heap.size+1) (v0:=.int .i64 0) (v1:=.int .i64 0) (v2:=.int .i64 0) (v3:=.int .i64 0) (by(try simp)<;>omega) (by constructor<;>simp[go_sem,r0,r1,r2,r3,g0,g1,g2,g3,S9]);clear r0 r1 r2 r3 g0 g1 g2 g3;obtain⟨r0,r1,r2,r3,g0,g1,g2,g3⟩:=Tg))
   exact bodyPost_ret (v:=.agg #[.int .i64 _,.int .i64 _,.int .i64 _,.int .i64 _]) (by simp[results,results57,go_sem,r0,r1,r2,r3]) rfl ⟨rfl,gZ.trans (((((bK.setCell (by simp) _).setCell (by simp) _).setCell (by simp) _).setCell (by simp) _))⟩
 ·go_enter func57,ntmps57
  go_upto_region 1 with fail
  go_region_held3 (λw'=>w'.cell? ⟨w.heap.size,0,none⟩=some (.int .i64 1)/\w'.cell? ⟨w.heap.size,1,none⟩=some (.int .i64 c)/\w'.cell? ⟨w.heap.size,2,none⟩=some (.int .i64 r)) (first|with_reducible exact s2|with_reducible exact s1|(simp[go_sem,hz2,u0,u1,u2];done)|(simp[go_sem,hz1,t0,t1,t2];done)|(simp[go_sem];done))
   (first
   |(go_at_call 93;refine(jO _ _ c r _ Hz h1 h2 h3 h4).mono ?_;rintro e w1 ⟨rfl,hb1⟩;dsimp only;have s1:=T3.below hb1 (b:=w.heap.size) (c:=c) (r:=r) (by simp<;>omega) (by simp[T3,go_sem]<;>rfl);unfold T3 at s1;obtain⟨t0,t1,t2⟩:=id s1;have hz1:w.heap.size<w1.heap.size:=(by have:=hb1.size;simp at this;omega);have hB1:Below w.heap.size w w1:=(by first|exact(hB _ _).drew.trans (hb1.mono (by simp<;>omega))|exact(Re _ _ _).drew.trans (hb1.mono (by simp<;>omega))|exact(hB _ _).trans (hb1.mono (by simp<;>omega))|exact(Re _ _ _).trans (hb1.mono (by simp<;>omega)));(first|(have kk:K4 w1 (w.heap.size+1+1) (.int .i64 0) (.int .i64 0) (.int .i64 0) (.int .i64 0):=(by first|exact K4.below hb1 (by simp) (by constructor<;>simp[go_sem]));have hz3:w.heap.size+1+1<w1.heap.size:=(by have:=hb1.size;simp at this;omega);obtain⟨k0,k1,k2,k3,f0,f1,f2,f3⟩:=id kk)|skip);have S_:w.heap.size+1<w1.heap.size:=(by have:=hb1.size;simp at this;omega);have KR:Hid (K4 w1 (w.heap.size+1) (.int .i64 0) (.int .i64 0) (.int .i64 0) (.int .i64 0)):=K4.below hb1 (by simp<;>omega) (by constructor<;>simp[go_sem]))
   |(go_at_call 94;refine(nN _ _ c r _ Hz).mono ?_;rintro e w2 ⟨rfl,hb2⟩;dsimp only;have hz2:w.heap.size<w2.heap.size:=(by have:=hb2.size;(try simp at this);omega);have s2:=T3.below hb2 (b:=w.heap.size) (c:=c) (r:=r) (by(try simp)<;>omega) (by first|exact s1|(simp[T3,go_sem,hz1,t0,t1,t2]<;>rfl));unfold T3 at s2;obtain⟨u0,u1,u2⟩:=id s2;(first|(have kk:K4 w2 (w.heap.size+1+1) (.int .i64 0) (.int .i64 0) (.int .i64 0) (.int .i64 0):=(by first|exact K4.below hb2 hz3 kk);obtain⟨k0,k1,k2,k3,f0,f1,f2,f3⟩:=kk)|(have kk:K4 w2 w1.heap.size (.int .i64 0) (.int .i64 0) (.int .i64 0) (.int .i64 0):=(by first|exact K4.below hb2 (by simp) (K4.new w1 _ _ _ _ _));obtain⟨k0,k1,k2,k3,f0,f1,f2,f3⟩:=kk)|skip);have hB2:Below w.heap.size w w2:=(by first|exact hB1.trans (hb2.mono hB1.size)|exact(hB1.alloc hB1.size _).trans (hb2.mono (Nat.le_trans hB1.size (by simp))));have S9:w.heap.size+1<w2.heap.size:=(by have:=hb2.size;(try simp at this);omega);have KQ:Hid (K4 w2 (w.heap.size+1) (.int .i64 0) (.int .i64 0) (.int .i64 0) (.int .i64 0)):=K4.below hb2 (by(try simp)<;>omega) (by first|exact KR.out|exact K4.below ((Below.refl _ w1).alloc aM _) S_ KR.out)))
  all_goals
   go_wp2_with (go_at_call 95;go_loud (refine(j5 _ _ _ _ (by omega) (by omega) (by omega) (by omega) (by omega) (by omega)).mono ?_;rintro e w3 ⟨rfl,hb3⟩;dsimp only;have gZ:Below w.heap.size w w3:=(Below.trans (by repeat(first|exact hB2|refine Below.setCell ?_ (by(try simp)<;>omega) _|refine Below.alloc ?_ (by(try simp)<;>omega) _)) (hb3.mono (by(try simp)<;>omega)));obtain⟨r0,r1,r2,r3,g0,g1,g2,g3⟩:=KQ.out;have Tg:=K4.below hb3 (b:=w.heap.size+1) (v0:=.int .i64 0) (v1:=.int .i64 0) (v2:=.int .i64 0) (v3:=.int .i64 0) (by(try simp)<;>omega) (by constructor<;>simp[go_sem,r0,r1,r2,r3,g0,g1,g2,g3,S9]);clear r0 r1 r2 r3 g0 g1 g2 g3;obtain⟨r0,r1,r2,r3,g0,g1,g2,g3⟩:=Tg))
   exact bodyPost_ret (v:=.agg #[.int .i64 _,.int .i64 _,.int .i64 _,.int .i64 _]) (by simp[results,results57,go_sem,r0,r1,r2,r3]) rfl ⟨rfl,gZ.trans (((((bK.setCell (by simp) _).setCell (by simp) _).setCell (by simp) _).setCell (by simp) _))⟩
 ·go_enter func57,ntmps57
  go_upto_region 1 with fail
  go_region_held3 (λw'=>w'.cell? ⟨w.heap.size,0,none⟩=some (.int .i64 2)/\w'.cell? ⟨w.heap.size,1,none⟩=some (.int .i64 c)/\w'.cell? ⟨w.heap.size,2,none⟩=some (.int .i64 r)) (first|with_reducible exact s2|with_reducible exact s1|(simp[go_sem,hz2,u0,u1,u2];done)|(simp[go_sem,hz1,t0,t1,t2];done)|(simp[go_sem];done))
   (first
   |(go_at_call 93;refine(jO _ _ c r _ Hz h1 h2 h3 h4).mono ?_;rintro e w1 ⟨rfl,hb1⟩;dsimp only;have s1:=T3.below hb1 (b:=w.heap.size) (c:=c) (r:=r) (by simp<;>omega) (by simp[T3,go_sem]<;>rfl);unfold T3 at s1;obtain⟨t0,t1,t2⟩:=id s1;have hz1:w.heap.size<w1.heap.size:=(by have:=hb1.size;simp at this;omega);have hB1:Below w.heap.size w w1:=(by first|exact(hB _ _).drew.trans (hb1.mono (by simp<;>omega))|exact(Re _ _ _).drew.trans (hb1.mono (by simp<;>omega))|exact(hB _ _).trans (hb1.mono (by simp<;>omega))|exact(Re _ _ _).trans (hb1.mono (by simp<;>omega)));(first|(have kk:K4 w1 (w.heap.size+1+1) (.int .i64 0) (.int .i64 0) (.int .i64 0) (.int .i64 0):=(by first|exact K4.below hb1 (by simp) (by constructor<;>simp[go_sem]));have hz3:w.heap.size+1+1<w1.heap.size:=(by have:=hb1.size;simp at this;omega);obtain⟨k0,k1,k2,k3,f0,f1,f2,f3⟩:=id kk)|skip);have S_:w.heap.size+1<w1.heap.size:=(by have:=hb1.size;simp at this;omega);have KR:Hid (K4 w1 (w.heap.size+1) (.int .i64 0) (.int .i64 0) (.int .i64 0) (.int .i64 0)):=K4.below hb1 (by simp<;>omega) (by constructor<;>simp[go_sem]))
   |(go_at_call 94;refine(nN _ _ c r _ Hz).mono ?_;rintro e w2 ⟨rfl,hb2⟩;dsimp only;have hz2:w.heap.size<w2.heap.size:=(by have:=hb2.size;(try simp at this);omega);have s2:=T3.below hb2 (b:=w.heap.size) (c:=c) (r:=r) (by(try simp)<;>omega) (by first|exact s1|(simp[T3,go_sem,hz1,t0,t1,t2]<;>rfl));unfold T3 at s2;obtain⟨u0,u1,u2⟩:=id s2;(first|(have kk:K4 w2 (w.heap.size+1+1) (.int .i64 0) (.int .i64 0) (.int .i64 0) (.int .i64 0):=(by first|exact K4.below hb2 hz3 kk);obtain⟨k0,k1,k2,k3,f0,f1,f2,f3⟩:=kk)|(have kk:K4 w2 w1.heap.size (.int .i64 0) (.int .i64 0) (.int .i64 0) (.int .i64 0):=(by first|exact K4.below hb2 (by simp) (K4.new w1 _ _ _ _ _));obtain⟨k0,k1,k2,k3,f0,f1,f2,f3⟩:=kk)|skip);have hB2:Below w.heap.size w w2:=(by first|exact hB1.trans (hb2.mono hB1.size)|exact(hB1.alloc hB1.size _).trans (hb2.mono (Nat.le_trans hB1.size (by simp))));have S9:w.heap.size+1<w2.heap.size:=(by have:=hb2.size;(try simp at this);omega);have KQ:Hid (K4 w2 (w.heap.size+1) (.int .i64 0) (.int .i64 0) (.int .i64 0) (.int .i64 0)):=K4.below hb2 (by(try simp)<;>omega) (by first|exact KR.out|exact K4.below ((Below.refl _ w1).alloc aM _) S_ KR.out)))
  all_goals
   go_wp2_with (go_at_call 95;go_loud (refine(j5 _ _ _ _ (by omega) (by omega) (by omega) (by omega) (by omega) (by omega)).mono ?_;rintro e w3 ⟨rfl,hb3⟩;dsimp only;have gZ:Below w.heap.size w w3:=(Below.trans (by repeat(first|exact hB2|refine Below.setCell ?_ (by(try simp)<;>omega) _|refine Below.alloc ?_ (by(try simp)<;>omega) _)) (hb3.mono (by(try simp)<;>omega)));obtain⟨r0,r1,r2,r3,g0,g1,g2,g3⟩:=KQ.out;have Tg:=K4.below hb3 (b:=w.heap.size+1) (v0:=.int .i64 0) (v1:=.int .i64 0) (v2:=.int .i64 0) (v3:=.int .i64 0) (by(try simp)<;>omega) (by constructor<;>simp[go_sem,r0,r1,r2,r3,g0,g1,g2,g3,S9]);clear r0 r1 r2 r3 g0 g1 g2 g3;obtain⟨r0,r1,r2,r3,g0,g1,g2,g3⟩:=Tg))
   exact bodyPost_ret (v:=.agg #[.int .i64 _,.int .i64 _,.int .i64 _,.int .i64 _]) (by simp[results,results57,go_sem,r0,r1,r2,r3]) rfl ⟨rfl,gZ.trans (((((bK.setCell (by simp) _).setCell (by simp) _).setCell (by simp) _).setCell (by simp) _))⟩
 ·go_enter func57,ntmps57
  go_upto_region 1 with fail
  go_region_held3 (λw'=>w'.cell? ⟨w.heap.size,0,none⟩=some (.int .i64 3)/\w'.cell? ⟨w.heap.size,1,none⟩=some (.int .i64 c)/\w'.cell? ⟨w.heap.size,2,none⟩=some (.int .i64 r)) (first|with_reducible exact s2|with_reducible exact s1|(simp[go_sem,hz2,u0,u1,u2];done)|(simp[go_sem,hz1,t0,t1,t2];done)|(simp[go_sem];done))
   (first
   |(go_at_call 93;refine(jO _ _ c r _ Hz h1 h2 h3 h4).mono ?_;rintro e w1 ⟨rfl,hb1⟩;dsimp only;have s1:=T3.below hb1 (b:=w.heap.size) (c:=c) (r:=r) (by simp<;>omega) (by simp[T3,go_sem]<;>rfl);unfold T3 at s1;obtain⟨t0,t1,t2⟩:=id s1;have hz1:w.heap.size<w1.heap.size:=(by have:=hb1.size;simp at this;omega);have hB1:Below w.heap.size w w1:=(by first|exact(hB _ _).drew.trans (hb1.mono (by simp<;>omega))|exact(Re _ _ _).drew.trans (hb1.mono (by simp<;>omega))|exact(hB _ _).trans (hb1.mono (by simp<;>omega))|exact(Re _ _ _).trans (hb1.mono (by simp<;>omega)));(first|(have kk:K4 w1 (w.heap.size+1+1) (.int .i64 0) (.int .i64 0) (.int .i64 0) (.int .i64 0):=(by first|exact K4.below hb1 (by simp) (by constructor<;>simp[go_sem]));have hz3:w.heap.size+1+1<w1.heap.size:=(by have:=hb1.size;simp at this;omega);obtain⟨k0,k1,k2,k3,f0,f1,f2,f3⟩:=id kk)|skip);have S_:w.heap.size+1<w1.heap.size:=(by have:=hb1.size;simp at this;omega);have KR:Hid (K4 w1 (w.heap.size+1) (.int .i64 0) (.int .i64 0) (.int .i64 0) (.int .i64 0)):=K4.below hb1 (by simp<;>omega) (by constructor<;>simp[go_sem]))
   |(go_at_call 94;refine(nN _ _ c r _ Hz).mono ?_;rintro e w2 ⟨rfl,hb2⟩;dsimp only;have hz2:w.heap.size<w2.heap.size:=(by have:=hb2.size;(try simp at this);omega);have s2:=T3.below hb2 (b:=w.heap.size) (c:=c) (r:=r) (by(try simp)<;>omega) (by first|exact s1|(simp[T3,go_sem,hz1,t0,t1,t2]<;>rfl));unfold T3 at s2;obtain⟨u0,u1,u2⟩:=id s2;(first|(have kk:K4 w2 (w.heap.size+1+1) (.int .i64 0) (.int .i64 0) (.int .i64 0) (.int .i64 0):=(by first|exact K4.below hb2 hz3 kk);obtain⟨k0,k1,k2,k3,f0,f1,f2,f3⟩:=kk)|(have kk:K4 w2 w1.heap.size (.int .i64 0) (.int .i64 0) (.int .i64 0) (.int .i64 0):=(by first|exact K4.below hb2 (by simp) (K4.new w1 _ _ _ _ _));obtain⟨k0,k1,k2,k3,f0,f1,f2,f3⟩:=kk)|skip);have hB2:Below w.heap.size w w2:=(by first|exact hB1.trans (hb2.mono hB1.size)|exact(hB1.alloc hB1.size _).trans (hb2.mono (Nat.le_trans hB1.size (by simp))));have S9:w.heap.size+1<w2.heap.size:=(by have:=hb2.size;(try simp at this);omega);have KQ:Hid (K4 w2 (w.heap.size+1) (.int .i64 0) (.int .i64 0) (.int .i64 0) (.int .i64 0)):=K4.below hb2 (by(try simp)<;>omega) (by first|exact KR.out|exact K4.below ((Below.refl _ w1).alloc aM _) S_ KR.out)))
  all_goals
   go_wp2_with (go_at_call 95;go_loud (refine(j5 _ _ _ _ (by omega) (by omega) (by omega) (by omega) (by omega) (by omega)).mono ?_;rintro e w3 ⟨rfl,hb3⟩;dsimp only;have gZ:Below w.heap.size w w3:=(Below.trans (by repeat(first|exact hB2|refine Below.setCell ?_ (by(try simp)<;>omega) _|refine Below.alloc ?_ (by(try simp)<;>omega) _)) (hb3.mono (by(try simp)<;>omega)));obtain⟨r0,r1,r2,r3,g0,g1,g2,g3⟩:=KQ.out;have Tg:=K4.below hb3 (b:=w.heap.size+1) (v0:=.int .i64 0) (v1:=.int .i64 0) (v2:=.int .i64 0) (v3:=.int .i64 0) (by(try simp)<;>omega) (by constructor<;>simp[go_sem,r0,r1,r2,r3,g0,g1,g2,g3,S9]);clear r0 r1 r2 r3 g0 g1 g2 g3;obtain⟨r0,r1,r2,r3,g0,g1,g2,g3⟩:=Tg))
   exact bodyPost_ret (v:=.agg #[.int .i64 _,.int .i64 _,.int .i64 _,.int .i64 _]) (by simp[results,results57,go_sem,r0,r1,r2,r3]) rfl ⟨rfl,gZ.trans (((((bK.setCell (by simp) _).setCell (by simp) _).setCell (by simp) _).setCell (by simp) _))⟩
end
section
open Go.RowKit Go.Shelf
attribute [local go_sem] Oper.semAt_some
theorem CZ(w0:World)(T n Bt Bb:Nat)(w:World)(rK:w.cell? ⟨Bt,0,none⟩=some (.pointer none)):
  SeqStopsK Fence.wide n prog 125 #[.pointer (some ⟨Bt,0,none⟩),.pointer (some ⟨Bb,0,none⟩)] (λv:{v:FV//Good (λ_=>False) w0 v}=>#[mX v.1]) (aS T) (λys=>ys=[]) (λ_=>True) 0 w:=by
 intro l J Jx W hW hJ Ma hY h0
 refine callsIn_wide.2 ?_
 have e0:=(hW.cell (p:=⟨Bt,0,none⟩) (aZ rK)).trans rK
 have H0:=af h0
 clear hJ Ma hY h0 rK
 show Calls prog 125 #[.func (.yield l) #[] #[],.pointer (some ⟨Bt,0,none⟩),.pointer (some ⟨Bb,0,none⟩)] W _
 go_enter func125,ntmps125
 go_wp2
 go_end0
 exact⟨⟨_,rfl⟩,.inl ⟨[],rfl,H0.out⟩⟩
theorem Ez(x:Bx)(w:World):
  Calls prog 56 #[.agg #[.pointer none],.agg #[.int .i64 x.l,.int .i64 x.t,.int .i64 x.r,.int .i64 x.b]] w λe w'=>e=.returned (.int .i64 (0))/\Below w.heap.size w w':=by
 refine(callsIn_wide (n:=4)).1 ?_
 refine callsIn_of_wp_marks func56 rfl trivial ?_ rfl
 simp only[ntmps56,List.size_toArray,List.length_cons,List.length_nil,Nat.reduceAdd,Nat.reduceSub,Array.replicate_succ,Array.replicate_zero,List.push_toArray,List.append_toArray,List.nil_append,List.cons_append]
 gi_wp2_with (refine⟨trivial,?_⟩;gi_at_call 90;refine(callsIn_wide.2 (kq _ x _)).mono ?_;rintro e w' ⟨rfl,rfl⟩)
 have hB0:∀o1 o2 o3 o4 o5:Obj,Below w.heap.size w (((((w.alloc o1).alloc o2).alloc o3).alloc o4).alloc o5):=λo1 o2 o3 o4 o5=>(((aU.alloc (by simp) _).alloc (by simp<;>omega) _).alloc (by simp<;>omega) _).alloc (by simp<;>omega) _
 refine wpIn_rangeFunc_ownH (F:=Fence.wide) rfl (by omega) (gf:=125) (lb:=#[.pointer (some ⟨w.heap.size+1+1+1,0,none⟩),.pointer (some ⟨w.heap.size+1+1+1+1,0,none⟩)]) rfl trivial (enters_of func125 (by kernel_rfl) rfl)
  (CZ w (w.heap.size+1+1) _ (w.heap.size+1+1+1) (w.heap.size+1+1+1+1) _ (by simp[go_sem]))
  qN qM bK (λ_=>rfl)
  (λpre W=>(Q5 W (w.heap.size+1+1) (.int .i64 (tid (aN x (pre.map Subtype.val)))) (.int .i64 (Ub (aN x (pre.map Subtype.val)))) (.int .i64 (Ua (aN x (pre.map Subtype.val)))) (.int .i64 (j6 (aN x (pre.map Subtype.val)))) (Uc (aN x (pre.map Subtype.val)))/\C4 W (w.heap.size+1) x)/\Below w.heap.size w W)
  (λ_ _ _=>False)
  (OwnFrom.and (Own.from (λs A B row hs hg hr=>⟨hs.1.kept hg hr,hs.2.kept hg hr⟩) _) (ownFrom_below aM (by simp<;>omega)))
  (λ_ _ _ _ _ hs _ _=>hs)
  ⟨⟨?q5,⟨by simp[go_sem],by simp[go_sem],by simp[go_sem],by simp[go_sem]⟩⟩,hB0 _ _ _ _ _⟩
  (λv a' W=>∃Bv,w.heap.size+1+1<Bv/\Q5 W Bv (.int .i64 v.1.f.id) (.int .i64 v.1.f.kd) (.int .i64 v.1.f.ht) (.int .i64 v.1.f.col) (.slice (some ⟨v.1.pb,v.1.po,none⟩) v.1.f.ps.length v.1.cap)/\
   a'={tmps:=#[.agg #[.pointer none],.agg #[.int .i64 x.l,.int .i64 x.t,.int .i64 x.r,.int .i64 x.b],.pointer (some ⟨w.heap.size,0,none⟩),.pointer (some ⟨w.heap.size+1,0,none⟩),.int .i64 0,.pointer (some ⟨w.heap.size+1+1,0,none⟩),.pointer (some ⟨Bv,0,none⟩),.agg #[.pointer none],.agg #[.int .i64 x.l,.int .i64 x.t,.int .i64 x.r,.int .i64 x.b],.func (.func 125) #[] #[.pointer (some ⟨w.heap.size+1+1+1,0,none⟩),.pointer (some ⟨w.heap.size+1+1+1+1,0,none⟩)],.agg #[.int .i64 v.1.f.id,.int .i64 v.1.f.kd,.int .i64 v.1.f.ht,.int .i64 v.1.f.col,.slice (some ⟨v.1.pb,v.1.po,none⟩) v.1.f.ps.length v.1.cap],undef,undef,undef,undef,undef,undef,undef,undef,undef,undef,undef,undef,undef,undef,undef,undef],defers:=[]})
  (λv a' s A B row hs hg hr=>by obtain⟨Bv,h1,h2,h3⟩:=hs;exact⟨Bv,h1,h2.kept hg (λr e=>(hr r e).2),h3⟩)
  ?assign ?body ?done ?stop
 case q5=>constructor<;>simp[go_sem,aN,tid,Ub,Ua,j6,Uc]
 case assign=>
  rintro l pre v W K ⟨⟨mI,hc4⟩,hBW⟩ hK
  simp only[mX]
  gi_wp2
  refine hK _ _ ((KeepsOthers.alloc _ _).from _) (aS.of_below aU) ⟨⟨mI.below aU (aZ mI.c0),hc4.below aU (aZ hc4.c0)⟩,hBW.alloc hBW.size _⟩ ⟨W.heap.size,aZ mI.c0,Q5.new _ _ _ _ _ _ _,rfl⟩
 case body=>
  rintro l pre v a' W hl hr _ _ hlen
  exact absurd hlen (by simp)
 case done=>
  rintro D ys W hD hys ⟨⟨mI,_⟩,hBW⟩ hK
  subst hys
  obtain⟨c0,c1,c2,c3,c4,_,_,_,_,_⟩:=mI
  gi_wp2
  refine⟨by simp,.inl ⟨_,_,rfl,run_takeDeferred hK,?_⟩⟩
  exact⟨_,results_tmp rfl _ _ _,rfl,hBW.trans (belowK_b (w:=w) aM W D _ _ (by simp at hD;omega) hK rfl rfl)⟩
 case stop=>
  rintro D c pre W _ _ h _
  exact h.elim
theorem Bg(ro:Option Addr)(F:Nat->Int)(z p c r:Int)(w:World)(hC:∀(k:Nat) (W:World),k<64->Below w.heap.size w W->Calls prog 56 #[.agg #[.pointer ro],.agg #[.int .i64 (dX p c r k).l,.int .i64 (dX p c r k).t,.int .i64 (dX p c r k).r,.int .i64 (dX p c r k).b]] W λe w'=>e=.returned (.int .i64 (F k))/\Below W.heap.size W w')(U7:∀n,0<=F n/\F n<100)
  (hz:ZP z p) (h1:0<=c) (h2:c<=7) (h3:0<=r) (h4:r<=7) (hc:8*p*c<=256-8*p) (hr:8*p*r<=256-8*p):
  Calls prog 32 #[.agg #[.pointer ro],.agg #[.int .i64 z,.int .i64 c,.int .i64 r]] w λe w'=>e=.returned (.string ⟨(Lib.join ((ia ((List.range 64).map λn=>(F n).toNat)).map (·.data.toList)) [44]).toArray⟩)/\Below w.heap.size w w':=by
 have HCc:=af hC
 have Uq:=af U7
 clear hC U7
 have Wx:Hid (∀C:Array Value,C=Array.replicate 64 (.int .i64 0)->∀(W:World) j,j<64->(W.alloc (.cells C 148)).cell? ⟨W.heap.size,j,none⟩=some (.int .i64 0)):=λC hC W j hj=>QT W C hC j hj
 go_enter func32,ntmps32
 go_wp2
 go_loopw [7] (λi wr=>∃k:Nat,k<=64/\i=.int .i64 k/\(∀j,j<64->wr.cell? ⟨w.heap.size+1+1,j,none⟩=some (.int .i64 (if j<k then F j else 0)))/\(∀j,wr.frozen? ⟨w.heap.size+1+1,j,none⟩=false)/\wr.cell? ⟨w.heap.size,0,none⟩=some (.pointer ro)/\wr.cell? ⟨w.heap.size+1,0,none⟩=some (.int .i64 z)/\wr.cell? ⟨w.heap.size+1,1,none⟩=some (.int .i64 c)/\wr.cell? ⟨w.heap.size+1,2,none⟩=some (.int .i64 r)/\Below w.heap.size w wr/\w.heap.size+3<=wr.heap.size) (λi _=>64-(intOf i).toNat)
 case atStart=>
  refine⟨0,by omega,rfl,λj hj=>?_,λj=>by simp[go_sem],by simp[go_sem],by simp[go_sem],by simp[go_sem],by simp[go_sem],(aU.alloc (by simp) _).alloc (by simp<;>omega) _,by simp⟩
  rw[if_neg (by omega)]
  have h:=Wx.out _ (show _=Array.replicate 64 (Value.int .i64 0) from rfl) ((w.alloc (.cells #[.pointer ro] 89)).alloc (.cells #[.int .i64 z,.int .i64 c,.int .i64 r] 24)) j hj
  rw[World.size_alloc,World.size_alloc]at h
  exact h
 case round=>
  obtain⟨k,hk,rfl,hcs,hfz,t0,t1,t2,t3,hB,hs⟩:=hrel
  have KP:=af hcs
  have TJ:=af hfz
  clear hcs hfz
  by_cases hlt:k<64
  ·have lU:(k:Int)<64:=by omega
   have hk0:(0:Int)<=(k:Int):=by omega
   obtain⟨p1,p2,p3,p4,p5,p6,p7,p8⟩:=Nr hz h1 h3 hc hr k hlt
   have HP:Hid (0<=(dX p c r k).l/\0<=(dX p c r k).t/\0<=(dX p c r k).r/\0<=(dX p c r k).b/\(dX p c r k).l<=1000/\(dX p c r k).t<=1000/\(dX p c r k).r<=1000/\(dX p c r k).b<=1000):=⟨p1,p2,p3,p4,p5,p6,p7,p8⟩
   clear p1 p2 p3 p4 p5 p6 p7 p8
   have HZ:=af hz
   have hmod:(k:Int).tmod 8=(k:Int)%8:=Int.tmod_eq_emod_of_nonneg hk0
   have hdiv:(k:Int).tdiv 8=(k:Int)/8:=Int.tdiv_eq_ediv_of_nonneg hk0
   have ZM:IntKind.i64.wrap ((k:Int)/8)=(k:Int)/8:=by rw[IntKind.wrap_i64];omega
   go_upto_region 5 with fail
   go_region_held3 (λw'=>w'.cell? ⟨w.heap.size,0,none⟩=some (.pointer ro)/\w'.cell? ⟨w.heap.size+1,0,none⟩=some (.int .i64 z)/\w'.cell? ⟨w.heap.size+1,1,none⟩=some (.int .i64 c)/\w'.cell? ⟨w.heap.size+1,2,none⟩=some (.int .i64 r)) (first|exact s4|exact s3|exact s2|(simp[go_sem, *];done))
    (first
    |(go_at_call 57;refine(JN z p c r _ _ _ HZ.out h1 h2 h3 h4 (by omega) (by omega) (by omega) (by omega)).mono ?_;rintro e w2 ⟨rfl,hb2⟩;obtain⟨hc2,hf2⟩:=eF hb2;have s2:=And.intro ((hc2 w.heap.size 0 (by simp<;>omega)).trans t0) (And.intro ((hc2 (w.heap.size+1) 0 (by simp<;>omega)).trans t1) (And.intro ((hc2 (w.heap.size+1) 1 (by simp<;>omega)).trans t2) ((hc2 (w.heap.size+1) 2 (by simp<;>omega)).trans t3)));have hz2:wr.heap.size<=w2.heap.size:=(by have:=hb2.size;simp at this;omega);have hB2:Below wr.heap.size wr w2:=bK.drew.trans (hb2.mono (by simp));clear hc2 hf2 hb2)
    |(go_at_call 56;refine aq (HCc.out k _ hlt (hB.trans (hB2.mono hB.size))) ?_;rintro e w3 ⟨rfl,hb3⟩;have gZ:Below wr.heap.size wr w3:=hB2.trans (hb3.mono hz2);obtain⟨hc3,hf3⟩:=eF gZ;have s3:=And.intro ((hc3 w.heap.size 0 (by omega)).trans t0) (And.intro ((hc3 (w.heap.size+1) 0 (by omega)).trans t1) (And.intro ((hc3 (w.heap.size+1) 1 (by omega)).trans t2) ((hc3 (w.heap.size+1) 2 (by omega)).trans t3)));have st1:=(hc3 (w.heap.size+1+1) k (by omega)).trans (KP.out k hlt);have st2:=(hf3 (w.heap.size+1+1) k (by omega)).trans (TJ.out k);clear hc3 hf3))
   all_goals
    have g_:=af gZ
    have rI:=af st1
    clear st1 st2 s2 s3 hb3 hB2 gZ
    go_wp2
    go_roundw
    case rel=>
     have gZ:=g_.out
     obtain⟨hc3,hf3⟩:=eF gZ
     have yw:∀u,Below (w.heap.size+1+1) w3 (w3.setCell ⟨w.heap.size+1+1,k,none⟩ u):=λu=>bJ _ w3 _ k aM u
     refine⟨k+1,by omega,by go_num,λj hj=>?_,λj=>?_,((yw _).cell (p:=⟨w.heap.size,0,none⟩) (show w.heap.size<w.heap.size+1+1 by omega)).trans ((hc3 _ _ (by omega)).trans t0),((yw _).cell (p:=⟨w.heap.size+1,0,none⟩) (show w.heap.size+1<w.heap.size+1+1 by omega)).trans ((hc3 _ _ (by omega)).trans t1),((yw _).cell (p:=⟨w.heap.size+1,1,none⟩) (show w.heap.size+1<w.heap.size+1+1 by omega)).trans ((hc3 _ _ (by omega)).trans t2),((yw _).cell (p:=⟨w.heap.size+1,2,none⟩) (show w.heap.size+1<w.heap.size+1+1 by omega)).trans ((hc3 _ _ (by omega)).trans t3),(hB.trans (gZ.mono hB.size)).trans ((yw _).mono (by omega)),Nat.le_trans (Nat.le_trans hs gZ.size) (yw _).size⟩
     ·by_cases hjk:j=k
      ·subst hjk
       rw[if_pos (by omega)]
       exact World.cell?_setCell_same _ _ _ rI.out
      ·rw[World.cell?_setCell_other _ _ _ _ (by intro e;exact hjk (by injection e with _ e2 _;exact e2.symm)),hc3 _ _ (by omega),KP.out j hj]
       by_cases hjl:j<k
       ·rw[if_pos hjl,if_pos (by omega)]
       ·rw[if_neg hjl,if_neg (by omega)]
     ·rw[World.frozen?_setCell,hf3 _ _ (by omega)]
      exact TJ.out j
    case measure=>simp[intOf];omega
  ·obtain rfl:k=64:=by omega
   have Rt:=NZ (w.heap.size+1+1) 0 64 64 ((List.range 64).map λn=>(F n).toNat) wr (by omega) (λj x hj=>by
    rw[List.getElem?_map,Option.map_eq_some_iff]at hj
    obtain⟨n,hn,rfl⟩:=hj
    obtain⟨Vj,hj2⟩:=List.getElem?_eq_some_iff.1 hn
    simp at Vj hj2
    subst hj2
    rw[Nat.zero_add,KP.out j Vj,if_pos Vj,Int.toNat_of_nonneg (Uq.out j).1]) (λx hx=>by
    simp only[List.mem_map,List.mem_range]at hx
    obtain⟨n,_,rfl⟩:=hx
    have:=Uq.out n
    omega) (by simp) (by omega) (by omega) (by omega) (by omega)
   have HR:Hid _:=Rt
   clear Rt
   go_wp2_with (go_at_call 58;refine aq HR.out ?_;rintro e w2 ⟨rfl,hb2⟩)
   go_ret
   exact⟨rfl,hB.trans (hb2.mono hB.size)⟩
end
end Go.Proofs.YtenaepdmlknlcaaGreatDoor
