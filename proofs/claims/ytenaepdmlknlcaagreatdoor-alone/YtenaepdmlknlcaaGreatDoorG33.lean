import Derived.Test.YtenaepdmlknlcaaGreatDoorG26
import Derived.Test.YtenaepdmlknlcaaGreatDoorG32
open Go.Proofs.Tryz
set_option maxRecDepth 100000
set_option maxHeartbeats 8000000
namespace Go.Proofs.YtenaepdmlknlcaaGreatDoor
section
open Go.RowKit Go.Shelf
variable {ops:Array Oper} {w:World} {Q:Exit->Act->World->Prop} {E:Prop}
theorem cB{P:Program}{o:Oper}{a:Act}{K:Act->World->Prop} 
  (hg:o.guard=none) (s x:Operand) (t:TypeId) (hop:o.op=Op.call {callee:=Callee.builtin Builtin.append,args:=#[s,x],argTypes:=#[t,t]})
  (e:TypeId) (i:TypeInfo) (z:Value) (size bytes:Nat) (h1:P.underlying t=some (.slice e)) (h2:P.info? e=some i) (h3:i.zero=some z) (h4:i.size=size) (h5:i.bytes=bytes) (h6:z.cells.size=size) (h7:0<size)
  (b0:Nat) (hb0:b0<=w.heap.size) (v:Value) (n:Nat) (xs:List Value) (hs:a.eval s=v) (hown:ak w b0 e size v n xs)
  (ad:Addr) (m c:Nat) (news:List Value) (hx:a.eval x=.slice (some ad) m c) (hn:news.length=m*size) (hc:∀j u,news[j]? =some u->w.cell? (ad.add j)=some u) (h1c:∀u∈news,u.oneCell'=true)
  (b1:n+m<=maxLen) (b2:(n+m)*bytes<=140737488355328)
  (h:∀v' w',ak w' b0 e size v' (n+m) (xs++news)->(∀k,v'.ownBlock=some k->v.ownBlock=some k\/w.heap.size<=k)->Fr (λc _=>v.ownBlock=some c) w w'->K (a.put o.dst v') w'):
  if Region.wanted o (yielded ops a.tmps)=true then Oper.wp P o a w K Q else E:=by
 have hw:Region.wanted o (yielded ops a.tmps)=true:=by simp[Region.wanted,hg]
 rw[if_pos hw]
 obtain⟨v',w',hrun,r1,r2,r3⟩:=nK (P:=P) w t o.type e i z size bytes h1 h2 h3 h4 h5 h6 h7 b0 hb0 v n xs hown ad m c news hn hc h1c b1 b2
 unfold Oper.wp
 simp[execOp,hop,resolve,invoke,builtin,hs,hx,hrun,Result.andThen]
 exact h v' w' r1 r2 r3
variable {b0 size n:Nat} {e:TypeId} {xs:List Value}
theorem ak.more{v:Value}(h:ak w b0 e size v (n+1) xs):∃g off cap,v=.slice (some ⟨g,off,none⟩) (n+1) cap/\b0<=g/\n+1<=cap:=by
 rcases h.2 with⟨_,e2⟩|⟨g,off,cap,cur,e1,e2,_,e4,_⟩
 ·cases e2
 ·exact⟨g,off,cap,e1,e2,e4⟩
theorem ak.zero{size n g off cap:Nat}(h:ak w b0 e size (.slice (some ⟨g,off,none⟩) n cap) n xs):ak w b0 e size (.slice (some ⟨g,off,none⟩) 0 0) 0 []:=by
 rcases h.2 with⟨e1,_⟩|⟨g',off',cap',cur,e1,e2,e3,e4,e5,e6,e7⟩
 ·cases e1
 ·cases e1
  exact⟨by simp,.inr ⟨g,off,0,cur,rfl,e2,e3,aM,Nat.zero_le _,by omega,by simp⟩⟩
theorem EJ:∀X:List Kp,(bz X).drop 4=bz X.tail
 |[]=>rfl
 |_x::_X=>rfl
theorem sI(A:Nat)(t:Tl)(ht:t.ok)(body:ByteArray)(room:Int)(v:Value)(ks:List Kp)(hl:ks.length<=1000)(w:World)(h:KR w A (az t) v ks)(hr:w.cell? ⟨A,0,none⟩=some (.int .i64 room)):
  Calls prog 147 #[.pointer (some ⟨A,0,none⟩),.agg #[.int .i64 t.z,.int .i64 t.c,.int .i64 t.r],.string body] w λe w'=>e=.returned (.tuple #[])/\∃v',KR w' A (az t) v' (iZ room t body ks)/\(∀b,v'.ownBlock=some b->w.heap.size<=b)/\Fr (λc i=>c=A/\i=2+az t) w w':=by
 have ke:Hid (∀W:World,Calls prog 146 #[.agg #[.int .i64 t.z,.int .i64 t.c,.int .i64 t.r]] W λe w'=>e=.returned (.int .i64 (az t:Int))/\Below W.heap.size W w'):=λW=>eD t ht W
 have hA:=dz w ⟨A,2+az t,none⟩ h.c
 have Hy:Hid (∀W:World,Below w.heap.size w W->Calls prog 171 #[.pointer (some ⟨A,0,none⟩),.agg #[.int .i64 t.z,.int .i64 t.c,.int .i64 t.r]] W (eX A t ks W)):=λW hW=>sH A t ht v ks hl W (h.below hW)
 unfold eX at Hy
 have j_:=bg t
 have XP:Hid (iZ room t body ks=if room<((cj t ks).length:Int)+1 then(cj t ks++[(⟨t,body⟩:Kp)]).drop 1 else cj t ks++[(⟨t,body⟩:Kp)]):=rfl
 have hR:(cj t ks).length<=1000:=Nat.le_trans (List.length_filter_le _ _) hl
 obtain⟨R,TT⟩:∃R,cj t ks=R:=⟨_,rfl⟩
 obtain⟨q,hq⟩:∃q,az t=q:=⟨_,rfl⟩
 rw[TT]at Hy XP hR
 rw[hq]at ke hA j_ Hy
 rw[hq,XP.out]
 have HF:Hid (bz (R++[(⟨t,body⟩:Kp)])=bz R++[.int .i64 t.z,.int .i64 t.c,.int .i64 t.r,.string body]):=by show _=_;rw[yT];rfl
 obtain⟨X,hX⟩:∃X,R++[(⟨t,body⟩:Kp)]=X:=⟨_,rfl⟩
 have HXl:Hid (X.length=R.length+1):=by show _=_;rw[<-hX,List.length_append];rfl
 rw[hX]at HF
 rw[hX]
 obtain⟨z,c,r⟩:=t
 dsimp only at ke Hy HF⊢
 have DW:(q:Int)<4:=by omega
 have wB:¬(q:Int)<0:=by omega
 obtain⟨i261,eH,hz0,hz1,hz2⟩:=info_parts GP
 have HI:Hid (prog.info? 261=some i261/\i261.zero=some (.agg #[.int .i64 0,.int .i64 0,.int .i64 0,.string ⟨#[]⟩])/\i261.size=4/\i261.bytes=40):=⟨eH,hz0,hz1,hz2⟩
 clear h hq ht eH hz0 hz1 hz2 TT hX XP hl
 have hB0:∀o:Obj,Below w.heap.size w (w.alloc o):=λo=>aU
 obtain⟨N,hN⟩:∃N,R.length=N:=⟨_,rfl⟩
 have HN:=af hN
 rw[hN]at hR
 rw[hN]
 clear hN
 go_enter func147,ntmps147
 go_wp2_with (first
  |(go_at_call 171;refine aq (Hy.out _ (hB0 _)) ?_;rintro e w1 ⟨rfl,v1,hk1,hn1,iL⟩;dsimp only;have vr:=af hk1;have Hn1:Hid (∀b,v1.ownBlock=some b->w.heap.size+1<=b):=(λb hb=>by have:=hn1 b hb;simpa using this);have F9:Hid (Fr (λc i=>c=A/\i=2+q) w w1):=(Fr.of_below (hB0 _)).trans iL;have hs1:w.heap.size+1<=w1.heap.size:=(by have:=iL.size;simpa using this);have p0:w1.cell? ⟨w.heap.size,0,none⟩=some (.int .i64 z):=(iL.cell w.heap.size 0 (by simp) (λe=>by omega)).trans (by simp[go_sem]);have p1:w1.cell? ⟨w.heap.size,1,none⟩=some (.int .i64 c):=(iL.cell w.heap.size 1 (by simp) (λe=>by omega)).trans (by simp[go_sem]);have p2:w1.cell? ⟨w.heap.size,2,none⟩=some (.int .i64 r):=(iL.cell w.heap.size 2 (by simp) (λe=>by omega)).trans (by simp[go_sem]);clear hk1 hn1 iL)
  |(go_at_call 146;refine aq (ke.out _) ?_;rintro e w2 ⟨rfl,hb2⟩;dsimp only;have dm:=af hb2;have s0:w2.cell? ⟨w.heap.size,0,none⟩=_:=(hb2.cell (p:=⟨w.heap.size,0,none⟩) hs1).trans p0;have s1:w2.cell? ⟨w.heap.size,1,none⟩=_:=(hb2.cell (p:=⟨w.heap.size,1,none⟩) hs1).trans p1;have s2:w2.cell? ⟨w.heap.size,2,none⟩=_:=(hb2.cell (p:=⟨w.heap.size,2,none⟩) hs1).trans p2;have cA:=(vr.out.below hb2).c;have fA:=(vr.out.below hb2).f;clear hb2))
 have PM:A<w2.heap.size:=dz w2 ⟨A,2+q,none⟩ cA
 have hr2:w2.cell? ⟨A,0,none⟩=some (.int .i64 room):=(dm.out.cell (p:=⟨A,0,none⟩) (by have:=F9.out.size;show A<w1.heap.size;omega)).trans ((F9.out.cell A 0 hA (λe=>by omega)).trans hr)
 have WE:Hid (KR w2 A q v1 R):=vr.out.below dm.out
 have HBq:Hid (∀W:World,Below w2.heap.size w2 W->ak W 0 261 4 v1 N (bz R)):=λW hW=>by have:=WE.out.own.below hW;rw[HN.out]at this;exact this
 have O5:Hid (v1.ownBlock≠some A):=vr.out.ne
 go_region_law (refine cB rfl (.tmp 19) (.tmp 23) 213 rfl 261 i261 (.agg #[.int .i64 0,.int .i64 0,.int .i64 0,.string ⟨#[]⟩]) 4 40 underlying213 HI.out.1 HI.out.2.1 HI.out.2.2.1 HI.out.2.2.2 rfl (by decide) 0 (Nat.zero_le _) v1 N (bz R) rfl (HBq.out _ (by repeat(first|with_reducible exact bK|with_reducible refine Below.drew ?_|with_reducible refine Below.alloc ?_ (by simp) _))) ⟨w2.heap.size,0,none⟩ 1 1 [.int .i64 z,.int .i64 c,.int .i64 r,.string body] rfl rfl (λj u hj=>by
    rw[addr_add]
    match j,hj with
    |0,hj=>simp at hj;subst hj;simp[go_sem]
    |1,hj=>simp at hj;subst hj;simp[go_sem]
    |2,hj=>simp at hj;subst hj;simp[go_sem]
    |3,hj=>simp at hj;subst hj;simp[go_sem]
    |j+4,hj=>simp at hj) (λu hu=>by simp at hu;rcases hu with hu|hu|hu|hu<;>(subst hu;rfl)) (by unfold maxLen;omega) (by omega) ?_;intro v3 w3 bp hfr3 ij;obtain⟨g3,C7,dV,rfl,_,wu⟩:=bp.more;have vu:=af bp;have eU:Hid (Fr (λc _=>v1.ownBlock=some c) w2 w3):=Fr.trans (Fr.of_below (by repeat(first|with_reducible exact bK|with_reducible refine Below.drew ?_|with_reducible refine Below.alloc ?_ (by simp) _))) ij;have xP:Hid (v1.ownBlock=some g3\/w2.heap.size<=g3):=(by have:=hfr3 g3 rfl;simp at this;rcases this with h|h;exact .inl h;exact .inr (by omega));have Q9:w3.cell? ⟨A,2+q,none⟩=some v1:=(eU.out.cell A _ PM O5.out).trans cA;have f3':w3.frozen? ⟨A,2+q,none⟩=false:=(eU.out.frozen A _ PM O5.out).trans fA;have r3':w3.cell? ⟨A,0,none⟩=some (.int .i64 room):=(eU.out.cell A _ PM O5.out).trans hr2;clear bp hfr3 ij)
 all_goals
  have nj:g3≠A:=λe=>by
   rcases xP.out with h|h
   ·rw[e]at h;exact O5.out h
   ·omega
  have DR:Hid (ak (w3.setCell ⟨A,2+q,none⟩ (.slice (some ⟨g3,C7,none⟩) (N+1) dV)) 0 261 4 (.slice (some ⟨g3,C7,none⟩) (N+1) dV) (N+1) (bz X)):=by
   show ak _ _ _ _ _ _ _
   rw[HF.out]
   exact vu.out.fr (jQ A w3 (2+q) _) (λb i hb e=>by cases hb;have e':g3=A:=e;exact nj e')
  have rH:Hid (Fr (λc i=>c=A/\i=2+q) w (w3.setCell ⟨A,2+q,none⟩ (.slice (some ⟨g3,C7,none⟩) (N+1) dV))):=by
   refine Fr.setCell ?_ (.inl ⟨rfl,rfl⟩) _
   refine(F9.out.trans (Fr.of_below dm.out)).aC eU.out (λb i hb e=>?_)
   have:=Hn1.out b e
   omega
  have SK:w.heap.size<=g3:=by
   rcases xP.out with h|h
   ·have:=Hn1.out g3 h;omega
   ·have:=dm.out.size;omega
  obtain⟨W4,Kv⟩:∃W,w3.setCell ⟨A,2+q,none⟩ (.slice (some ⟨g3,C7,none⟩) (N+1) dV)=W:=⟨_,rfl⟩
  have c4:W4.cell? ⟨A,2+q,none⟩=some (.slice (some ⟨g3,C7,none⟩) (N+1) dV):=by rw[<-Kv];exact cell_eq Q9 _
  have f4:W4.frozen? ⟨A,2+q,none⟩=false:=by rw[<-Kv,World.frozen?_setCell];exact f3'
  have r4:W4.cell? ⟨A,0,none⟩=some (.int .i64 room):=by rw[<-Kv,World.cell?_setCell_other _ _ _ _ (by intro e;injection e with _ e2 _;omega)];exact r3'
  rw[Kv]at DR rH
  have hA4:A<W4.heap.size:=dz W4 ⟨A,0,none⟩ r4
  simp only[Kv]
  clear Kv Q9 f3' r3' vu eU cA fA hr2 WE HBq
  by_cases hroom:room<(N:Int)+1
  ·have hgt:(N:Int)+1>room:=hroom
   have Vf:decide ((N:Int)+1>room)=true:=by simpa using hgt
   go_wp2_with fail
   go_quiet (fail)
   have hc1:(1:Int)<=(N:Int)+1:=by omega
   have hc2:(N:Int)+1<=(dV:Int):=by omega
   have hc3:(1:Int)<=(dV:Int):=by omega
   go_wp2_with fail
   go_region
   all_goals go_wp2
   all_goals
    go_end0
    have UN:=DR.out.drop
    rw[EJ X]at UN
    have hXt:X.tail.length=N:=by rw[List.length_tail,HXl.out,HN.out];rfl
    first
     |(refine⟨rfl,.slice (some ⟨g3,C7+4,none⟩) N (dV-1),⟨cell_eq (w:=W4.drewN _) c4 _,by rw[World.frozen?_setCell];exact f4,?_,λe=>nj (Option.some.inj e)⟩,λb hb=>by cases hb;exact SK,(rH.out.drewN _).setCell (b:=A) (i:=2+q) (.inl ⟨rfl,rfl⟩) _⟩
       rw[hXt]
       exact ak.fr (M:=ig A) (A:=W4) (((Fr.refl (ig A) W4).drewN _).setCell (b:=A) (i:=2+q) (.inl rfl) _) UN (λb i hb e=>by cases hb;have e':g3=A:=e;exact nj e'))
     |(have hN0:N=0:=by omega
       refine⟨rfl,.slice (some ⟨g3,C7,none⟩) N 0,⟨cell_eq (w:=W4.drewN _) c4 _,by rw[World.frozen?_setCell];exact f4,?_,λe=>nj (Option.some.inj e)⟩,λb hb=>by cases hb;exact SK,(rH.out.drewN _).setCell (b:=A) (i:=2+q) (.inl ⟨rfl,rfl⟩) _⟩
       have hXn:X.tail=[]:=List.eq_nil_of_length_eq_zero (by rw[hXt,hN0])
       rw[hXn,hN0]
       exact ak.fr (M:=ig A) (A:=W4) (((Fr.refl (ig A) W4).drewN _).setCell (b:=A) (i:=2+q) (.inl rfl) _) DR.out.zero (λb i hb e=>by cases hb;have e':g3=A:=e;exact nj e'))
  ·have hgt:¬(N:Int)+1>room:=hroom
   have Vf:decide ((N:Int)+1>room)=false:=by simpa using hgt
   go_wp2_with fail
   go_quiet (fail)
   go_wp2_with fail
   go_end0
   refine⟨rfl,.slice (some ⟨g3,C7,none⟩) (N+1) dV,⟨c4,f4,by rw[HXl.out,HN.out];exact DR.out,λe=>nj (Option.some.inj e)⟩,λb hb=>by cases hb;exact SK,rH.out.drewN _⟩
structure SC(w:World)(A n:Nat)(vq:Value)(st ag:Int)(vn va:Value):Prop where
 cq:w.cell? ⟨A,10+n*5,none⟩=some vq
 cs:w.cell? ⟨A,10+n*5+1,none⟩=some (.int .i64 st)
 cg:w.cell? ⟨A,10+n*5+2,none⟩=some (.int .i64 ag)
 cn:w.cell? ⟨A,10+n*5+3,none⟩=some vn
 ca:w.cell? ⟨A,10+n*5+4,none⟩=some va
 f:∀i,i<5->w.frozen? ⟨A,10+n*5+i,none⟩=false
variable {vq vn va:Value} {st ag:Int}
theorem SC.lt{A n:Nat}(h:SC w A n vq st ag vn va):A<w.heap.size:=dz w ⟨A,10+n*5,none⟩ h.cq
variable {M:Nat->Nat->Prop} {w':World}
theorem SC.fr(hf:Fr M w w'){A n:Nat}(h:SC w A n vq st ag vn va)(hm:∀i,i<5->¬M A (10+n*5+i)):SC w' A n vq st ag vn va:=
 ⟨(hf.cell A _ h.lt (hm 0 (by omega))).trans h.cq,(hf.cell A _ h.lt (hm 1 (by omega))).trans h.cs,(hf.cell A _ h.lt (hm 2 (by omega))).trans h.cg,(hf.cell A _ h.lt (hm 3 (by omega))).trans h.cn,(hf.cell A _ h.lt (hm 4 (by omega))).trans h.ca,λi hi=>(hf.frozen A _ h.lt (hm i hi)).trans (h.f i hi)⟩
theorem aP{A i j:Nat}{u:Value}(h:i≠j):(w.setCell ⟨A,i,none⟩ u).cell? ⟨A,j,none⟩=w.cell? ⟨A,j,none⟩:=World.cell?_setCell_other _ _ _ _ (by intro e;injection e with _ e2 _;exact h e2)
theorem SC.Dr{A n:Nat}(h:SC w A n vq st ag vn va)(oQ:Value)(s':Int)(vn':Value):SC (((w.setCell ⟨A,10+n*5,none⟩ oQ).setCell ⟨A,10+n*5+1,none⟩ (.int .i64 s')).setCell ⟨A,10+n*5+3,none⟩ vn') A n oQ s' ag vn' va:=by
 refine⟨?_,?_,?_,?_,?_,λi hi=>by rw[World.frozen?_setCell,World.frozen?_setCell,World.frozen?_setCell];exact h.f i hi⟩
 ·rw[aP (by omega),aP (by omega)];exact cell_eq h.cq _
 ·rw[aP (by omega)];exact cell_eq ((aP (by omega)).trans h.cs) _
 ·rw[aP (by omega),aP (by omega),aP (by omega)];exact h.cg
 ·exact cell_eq ((aP (by omega)).trans ((aP (by omega)).trans h.cn)) _
 ·rw[aP (by omega),aP (by omega),aP (by omega)];exact h.ca
theorem SC.drew{A n:Nat}(h:SC w A n vq st ag vn va):SC w.drew A n vq st ag vn va:=⟨h.cq,h.cs,h.cg,h.cn,h.ca,h.f⟩
theorem SC.V6{A n:Nat}(h:SC w A n vq st ag vn va)(uq:Value):SC (w.setCell ⟨A,10+n*5+4,none⟩ uq) A n vq st ag vn uq:=by
 refine⟨(aP (by omega)).trans h.cq,(aP (by omega)).trans h.cs,(aP (by omega)).trans h.cg,(aP (by omega)).trans h.cn,cell_eq h.ca _,λi hi=>by rw[World.frozen?_setCell];exact h.f i hi⟩
def uU(A n:Nat)(vq va:Value)(k:Nat)(qs:List Value)(m:Nat)(xs:List ByteArray)(x:ByteArray)(ag:Int)(w:World)(e:Ending)(w':World):Prop:=
 e=.returned (.tuple #[])/\∃oQ uq,SC w' A n oQ 0 ag (.slice none 0 0) uq/\ak w' 0 220 10 oQ k (qs.drop 10)/\ak w' 0 9 1 uq (m+1) ((xs++[x]).map .string)/\(∀b,oQ.ownBlock=some b->vq.ownBlock=some b)/\(∀b,uq.ownBlock=some b->va.ownBlock=some b\/w.heap.size<=b)/\Fr (λc i=>(c=A/\10+n*5<=i/\i<15+n*5)\/va.ownBlock=some c) w w'
theorem jc(A n:Nat)(hn:n<4)(vq:Value)(st ag:Int)(vn va:Value)(k:Nat)(qs:List Value)(m:Nat)(xs:List ByteArray)(_hm:m=xs.length)(hm2:m<=8000000)(hk:k<=1000)(x:ByteArray)(w:World)(h:SC w A n vq st ag vn va)(hq:ak w 0 220 10 vq (k+1) qs)(ha:ak w 0 9 1 va m (xs.map .string))(yu:vq.ownBlock≠some A)(xT:va.ownBlock≠some A)(GI:∀b,vq.ownBlock=some b->va.ownBlock≠some b):
  Calls prog 112 #[.pointer (some ⟨A,0,none⟩),.int .i64 (n:Int),.string x] w (uU A n vq va k qs m xs x ag w):=by
 have HC:=af h
 have HQ:=af hq
 have HA:=af ha
 have xQ:=af yu
 have BA:=af xT
 have WQ:=af GI
 have mK:=h.lt
 have c0:=h.cq
 have c1:=h.cs
 have c3:=h.cn
 have c4:=h.ca
 have f0:w.frozen? ⟨A,10+n*5,none⟩=false:=h.f 0 (by omega)
 have f1:=h.f 1 (by omega)
 have f3:=h.f 3 (by omega)
 have f4:=h.f 4 (by omega)
 obtain⟨gq,oq,cq,rfl,_,hcq⟩:=hq.more
 have t_:(n:Int)<4:=by omega
 have hn0:¬(n:Int)<0:=by omega
 have hk1:(1:Int)<=(k:Int)+1:=by omega
 have hk2:(k:Int)+1<=(cq:Int):=by omega
 have hk3:(1:Int)<=(cq:Int):=by omega
 obtain⟨i9,eH,hz0,hz1,hz2⟩:=info_parts MO
 have HI:Hid (prog.info? 9=some i9/\i9.zero=some (.string ⟨#[]⟩)/\i9.size=1/\i9.bytes=16):=⟨eH,hz0,hz1,hz2⟩
 clear h hq ha yu xT GI eH hz0 hz1 hz2 _hm
 go_enter func112,ntmps112
 go_wp2_with fail
 go_region_law (refine cB rfl (.tmp 14) (.tmp 16) 79 rfl 9 i9 (.string ⟨#[]⟩) 1 16 underlying79 HI.out.1 HI.out.2.1 HI.out.2.2.1 HI.out.2.2.2 rfl (by decide) 0 (Nat.zero_le _) va m (xs.map .string) rfl (HA.out.below (by repeat(first|with_reducible exact bK|with_reducible refine Below.drew ?_|with_reducible refine Below.alloc ?_ (by simp) _))) ⟨w.heap.size,0,none⟩ 1 1 [.string x] rfl rfl (λj u hj=>by
    rw[addr_add]
    match j,hj with
    |0,hj=>simp at hj;subst hj;simp[go_sem]
    |j+1,hj=>simp at hj) (λu hu=>by simp at hu;subst hu;rfl) (by unfold maxLen;omega) (by omega) ?_;intro v3 w3 bp hfr3 ij;obtain⟨g3,o3,dV,rfl,_,wu⟩:=bp.more;have vu:=af bp;have eU:Hid (Fr (λc _=>va.ownBlock=some c) w w3):=Fr.trans (Fr.of_below (by repeat(first|with_reducible exact bK|with_reducible refine Below.drew ?_|with_reducible refine Below.alloc ?_ (by simp) _))) ij;have xP:Hid (va.ownBlock=some g3\/w.heap.size<=g3):=(by have:=hfr3 g3 rfl;simp at this;rcases this with h|h;exact .inl h;exact .inr (by omega));have c4':w3.cell? ⟨A,10+n*5+4,none⟩=some va:=(eU.out.cell A _ mK BA.out).trans c4;have f4':w3.frozen? ⟨A,10+n*5+4,none⟩=false:=(eU.out.frozen A _ mK BA.out).trans f4;clear bp hfr3 ij)
 all_goals
  have nj:g3≠A:=λe=>by
   rcases xP.out with h|h
   ·rw[e]at h;exact BA.out h
   ·omega
  have SJ:gq≠A:=λe=>xQ.out (by rw[<-e];rfl)
  have aaE:gq≠g3:=λe=>by
   rcases xP.out with h|h
   ·exact WQ.out gq rfl (by rw[e];exact h)
   ·have h2:gq<w.heap.size:=(HQ.out.lt (k:=gq) rfl).2;omega
  have QZ:Hid (ak w3 0 220 10 (.slice (some ⟨gq,oq,none⟩) (k+1) cq) (k+1) qs):=HQ.out.fr eU.out (λb i hb e=>WQ.out b hb e)
  have oH:Hid (SC w3 A n (.slice (some ⟨gq,oq,none⟩) (k+1) cq) st ag vn va):=HC.out.fr eU.out (λi _ e=>BA.out e)
  have Gd:Hid (SC (w3.setCell ⟨A,10+n*5+4,none⟩ (.slice (some ⟨g3,o3,none⟩) (m+1) dV)) A n (.slice (some ⟨gq,oq,none⟩) (k+1) cq) st ag vn (.slice (some ⟨g3,o3,none⟩) (m+1) dV)):=oH.out.V6 _
  have TG:Hid (ak (w3.setCell ⟨A,10+n*5+4,none⟩ (.slice (some ⟨g3,o3,none⟩) (m+1) dV)) 0 220 10 (.slice (some ⟨gq,oq,none⟩) (k+1) cq) (k+1) qs):=QZ.out.fr (jQ A w3 _ _) (λb i hb e=>by cases hb;exact SJ e)
  have DR:Hid (ak (w3.setCell ⟨A,10+n*5+4,none⟩ (.slice (some ⟨g3,o3,none⟩) (m+1) dV)) 0 9 1 (.slice (some ⟨g3,o3,none⟩) (m+1) dV) (m+1) (xs.map .string++[.string x])):=vu.out.fr (jQ A w3 _ _) (λb i hb e=>by cases hb;exact nj e)
  have rH:Hid (Fr (λc i=>(c=A/\10+n*5<=i/\i<15+n*5)\/va.ownBlock=some c) w (w3.setCell ⟨A,10+n*5+4,none⟩ (.slice (some ⟨g3,o3,none⟩) (m+1) dV))):=(eU.out.mono (λb i e=> .inr e)).setCell (b:=A) (i:=10+n*5+4) (.inl (.inl ⟨rfl,by omega,by omega⟩)) _
  obtain⟨W4,Kv⟩:∃W,w3.setCell ⟨A,10+n*5+4,none⟩ (.slice (some ⟨g3,o3,none⟩) (m+1) dV)=W:=⟨_,rfl⟩
  rw[Kv]at Gd TG DR rH
  simp only[Kv]
  have d0:=Gd.out.cq
  have d1:=Gd.out.cs
  have d3:=Gd.out.cn
  have e0:W4.frozen? ⟨A,10+n*5,none⟩=false:=Gd.out.f 0 (by omega)
  have e1:=Gd.out.f 1 (by omega)
  have e3:=Gd.out.f 3 (by omega)
  clear Kv oH QZ vu eU c4' f4'
  clear c0 c1 c3 c4 f0 f1 f3 f4
  go_wp2_with fail
  go_region
  all_goals go_wp2
  all_goals
   go_end0
   have yj:∀u0 u1 u3:Value,Fr (ig A) W4 (((W4.setCell ⟨A,10+n*5,none⟩ u0).setCell ⟨A,10+n*5+1,none⟩ u1).setCell ⟨A,10+n*5+3,none⟩ u3).drew:=λu0 u1 u3=>((((Fr.refl (ig A) W4).setCell (b:=A) (.inl rfl) u0).setCell (b:=A) (.inl rfl) u1).setCell (b:=A) (.inl rfl) u3).drew
   have Rg:∀u0 u1 u3:Value,Fr (λc i=>(c=A/\10+n*5<=i/\i<15+n*5)\/va.ownBlock=some c) w (((W4.setCell ⟨A,10+n*5,none⟩ u0).setCell ⟨A,10+n*5+1,none⟩ u1).setCell ⟨A,10+n*5+3,none⟩ u3).drew:=λu0 u1 u3=>(((rH.out.setCell (b:=A) (i:=10+n*5) (.inl (.inl ⟨rfl,by omega,by omega⟩)) u0).setCell (b:=A) (i:=10+n*5+1) (.inl (.inl ⟨rfl,by omega,by omega⟩)) u1).setCell (b:=A) (i:=10+n*5+3) (.inl (.inl ⟨rfl,by omega,by omega⟩)) u3).drew
   refine⟨rfl,_,.slice (some ⟨g3,o3,none⟩) (m+1) dV,(Gd.out.Dr _ 0 (.slice none 0 0)).drew,?_,?_,λb hb=>hb,λb hb=>by cases hb;exact xP.out,Rg _ _ _⟩
   ·first
     |exact TG.out.drop.fr (yj _ _ _) (λb i hb e=>by cases hb;exact SJ e)
     |(have hk0:k=0:=by omega
       have VC:qs.drop 10=[]:=List.eq_nil_of_length_eq_zero (by rw[List.length_drop,TG.out.1,hk0])
       rw[VC,hk0]
       exact TG.out.zero.fr (yj _ _ _) (λb i hb e=>by cases hb;exact SJ e))
   ·rw[List.map_append]
    exact DR.out.fr (yj _ _ _) (λb i hb e=>by cases hb;exact nj e)
theorem SC.gC{A n:Nat}(h:SC w A n vq st ag vn va)(s':Int):SC (w.setCell ⟨A,10+n*5+1,none⟩ (.int .i64 s')) A n vq s' ag vn va:=
 ⟨(aP (by omega)).trans h.cq,cell_eq h.cs _,(aP (by omega)).trans h.cg,(aP (by omega)).trans h.cn,(aP (by omega)).trans h.ca,λi hi=>by rw[World.frozen?_setCell];exact h.f i hi⟩
theorem SC.V5{A n:Nat}(hn:n<4)(h:SC w A n vq st ag vn va)(u:Value):SC (w.setCell ⟨A,30,none⟩ u) A n vq st ag vn va:=
 ⟨(aP (by omega)).trans h.cq,(aP (by omega)).trans h.cs,(aP (by omega)).trans h.cg,(aP (by omega)).trans h.cn,(aP (by omega)).trans h.ca,λi hi=>by rw[World.frozen?_setCell];exact h.f i hi⟩
theorem um(A n:Nat)(hn:n<4)(k0 id kd ht col:Int)(pa:Option Addr)(pn pc:Nat)(vq:Value)(ag:Int)(vn va:Value)(lock:Int)(hl:0<=lock)(w:World)(h:SC w A n vq 0 ag vn va)(hL:w.cell? ⟨A,30,none⟩=some (.int .i64 lock)):
  Calls prog 114 #[.pointer (some ⟨A,0,none⟩),.int .i64 (n:Int),.agg #[.int .i64 k0,.int .i64 0,.int .i64 0,.int .i64 0,.string ⟨#[]⟩,.int .i64 id,.int .i64 kd,.int .i64 ht,.int .i64 col,.slice pa pn pc]] w λe w'=>e=.returned (.bool false)/\Below w.heap.size w w':=by
 have mK:=h.lt
 have c1:=h.cs
 have t_:(n:Int)<4:=by omega
 have hn0:¬(n:Int)<0:=by omega
 have Ze:lock>=0:=hl
 clear h
 go_enter func114,ntmps114
 go_wp2
 go_ret
 exact⟨rfl,aU⟩
theorem AX(A n:Nat)(hn:n<4)(k0 id kd ht col:Int)(pa:Option Addr)(pn pc:Nat)(vq:Value)(ag:Int)(vn va:Value)(lock:Int)(hl:lock<0)(w:World)(h:SC w A n vq 0 ag vn va)(hL:w.cell? ⟨A,30,none⟩=some (.int .i64 lock))(SD:w.frozen? ⟨A,30,none⟩=false):
  Calls prog 114 #[.pointer (some ⟨A,0,none⟩),.int .i64 (n:Int),.agg #[.int .i64 k0,.int .i64 0,.int .i64 0,.int .i64 0,.string ⟨#[]⟩,.int .i64 id,.int .i64 kd,.int .i64 ht,.int .i64 col,.slice pa pn pc]] w λe w'=>e=.returned (.bool true)/\SC w' A n vq 1 ag vn va/\w'.cell? ⟨A,30,none⟩=some (.int .i64 (n:Int))/\w'.frozen? ⟨A,30,none⟩=false/\Fr (λc i=>c=A/\(i=30\/i=10+n*5+1)) w w':=by
 have HC:=af h
 have mK:=h.lt
 have c1:=h.cs
 have f1:=h.f 1 (by omega)
 have t_:(n:Int)<4:=by omega
 have hn0:¬(n:Int)<0:=by omega
 have Ze:¬lock>=0:=by omega
 have hne:¬10+n*5+1=30:=by omega
 have hne':¬30=10+n*5+1:=by omega
 clear h
 go_enter func114,ntmps114
 go_wp2
 go_ret
 have hS:SC ((w.setCell ⟨A,30,none⟩ (.int .i64 (n:Int))).setCell ⟨A,10+n*5+1,none⟩ (.int .i64 1)) A n vq 1 ag vn va:=(SC.V5 hn HC.out _).gC 1
 have hB:∀(W:World) (o:Obj),Below W.heap.size W (W.alloc o):=λW o=>bK.alloc aM o
 have UJ:=hS.lt
 refine⟨rfl,hS.fr (M:=λ_ _=>False) (Fr.of_below (hB _ _)) (λ_ _ e=>e),?_,?_,?_⟩
 ·refine((hB _ _).cell (p:=⟨A,30,none⟩) UJ).trans ((aP (by omega)).trans (cell_eq hL _))
 ·refine((hB _ _).frozen (p:=⟨A,30,none⟩) UJ).trans ?_
  rw[World.frozen?_setCell,World.frozen?_setCell]
  exact SD
 ·exact(((Fr.refl _ w).setCell (b:=A) (i:=30) (.inl ⟨rfl,.inl rfl⟩) _).setCell (b:=A) (i:=10+n*5+1) (.inl ⟨rfl,.inr rfl⟩) _).alloc _
theorem NH(A:Nat)(n:Int)(hn:fP n 0 3=false)(w:World):Calls prog 70 #[.pointer (some ⟨A,0,none⟩),.int .i64 n] w λe w'=>e=.returned (.tuple #[.bool false,.int .i64 2])/\w'=w:=by
 have pI:Hid (∀W:World,Calls prog 105 #[.int .i64 n,.int .i64 0,.int .i64 3] W λe w'=>e=.returned (.bool false)/\w'=W):=λW=>by
  have:=dM n 0 3 W
  rw[hn]at this
  exact this
 go_enter func70,ntmps70
 go_wp2_with (go_at_call 105;refine aq (pI.out _) ?_;rintro e w1 ⟨rfl,hw⟩;subst w1;dsimp only)
 go_ret2
 exact⟨rfl,rfl⟩
theorem FC(A n:Nat)(hn:n<4)(a:Option Addr)(cap:Nat)(w:World)(c0:w.cell? ⟨A,10+n*5,none⟩=some (.slice a 0 cap)):Calls prog 70 #[.pointer (some ⟨A,0,none⟩),.int .i64 (n:Int)] w λe w'=>e=.returned (.tuple #[.bool false,.int .i64 0])/\w'=w:=by
 have pI:Hid (∀W:World,Calls prog 105 #[.int .i64 (n:Int),.int .i64 0,.int .i64 3] W λe w'=>e=.returned (.bool true)/\w'=W):=oB n hn
 have t_:(n:Int)<4:=by omega
 have hn0:¬(n:Int)<0:=by omega
 go_enter func70,ntmps70
 go_wp2_with (go_at_call 105;refine aq (pI.out _) ?_;rintro e w1 ⟨rfl,hw⟩;subst w1;dsimp only)
 go_ret2
 exact⟨rfl,rfl⟩
def uV(A n:Nat)(vq va:Value)(k:Nat)(qs:List Value)(m:Nat)(xs:List ByteArray)(ag:Int)(id:Int)(p:Option FG)(gs:List FG)(w:World)(e:Ending)(w':World):Prop:=
 e=.returned (.bool true)/\∃(a:Option Addr) (cap:Nat) (oQ uq:Value),AR w' A (.slice a (fY id p gs).length cap) (fY id p gs)/\(∀b,(Value.slice a (fY id p gs).length cap).ownBlock=some b->w.heap.size<=b)/\w'.cell? ⟨A,30,none⟩=some (.int .i64 (-1))/\w'.frozen? ⟨A,1,none⟩=false/\w'.frozen? ⟨A,30,none⟩=false/\SC w' A n oQ 0 ag (.slice none 0 0) uq/\ak w' 0 220 10 oQ k (qs.drop 10)/\ak w' 0 9 1 uq (m+1) ((xs++[pM (eV id (gs.map (·.f))) (p.map (·.f))]).map .string)/\(∀b,oQ.ownBlock=some b->vq.ownBlock=some b)/\(∀b,uq.ownBlock=some b->va.ownBlock=some b\/w.heap.size<=b)/\Fr (λc i=>(c=A/\(i=1\/i=30\/(10+n*5<=i/\i<15+n*5)))\/va.ownBlock=some c) w w'
theorem AW(A n:Nat)(hn:n<4)(k0 id kd ht col:Int)(pa:Option Addr)(pn pc:Nat)(vq:Value)(ag:Int)(vn va:Value)(k:Nat)(qs:List Value)(m:Nat)(xs:List ByteArray)(hm:m=xs.length)(hm2:m<=8000000)(hk:k<=1000)(vl:Value)(p:Option FG)(gs:List FG)(lock:Int)(w:World)(h:SC w A n vq 5 ag vn va)(hq:ak w 0 220 10 vq (k+1) qs)(ha:ak w 0 9 1 va m (xs.map .string))(yu:vq.ownBlock≠some A)(xT:va.ownBlock≠some A)(GI:∀b,vq.ownBlock=some b->va.ownBlock≠some b)(hl:w.cell? ⟨A,1,none⟩=some vl)(hlf:w.frozen? ⟨A,1,none⟩=false)(hL:w.cell? ⟨A,30,none⟩=some (.int .i64 lock))(SD:w.frozen? ⟨A,30,none⟩=false)
  (hD:∀W:World,Below w.heap.size w W->Calls prog 150 #[vl,.agg #[.int .i64 k0,.int .i64 0,.int .i64 0,.int .i64 0,.string ⟨#[]⟩,.int .i64 id,.int .i64 kd,.int .i64 ht,.int .i64 col,.slice pa pn pc]] W (uX id p gs W)):
  Calls prog 114 #[.pointer (some ⟨A,0,none⟩),.int .i64 (n:Int),.agg #[.int .i64 k0,.int .i64 0,.int .i64 0,.int .i64 0,.string ⟨#[]⟩,.int .i64 id,.int .i64 kd,.int .i64 ht,.int .i64 col,.slice pa pn pc]] w (uV A n vq va k qs m xs ag id p gs w):=by
 have HC:=af h
 have HQ:=af hq
 have HA:=af ha
 have xQ:=af yu
 have BA:=af xT
 have WQ:=af GI
 have HD:=af hD
 have mK:=h.lt
 have c1:=h.cs
 have t_:(n:Int)<4:=by omega
 have hn0:¬(n:Int)<0:=by omega
 have hB0:∀o:Obj,Below w.heap.size w (w.alloc o):=λo=>aU
 have mP:Hid (∀W:World,SC W A n vq 5 ag vn va->ak W 0 220 10 vq (k+1) qs->ak W 0 9 1 va m (xs.map .string)->Calls prog 112 #[.pointer (some ⟨A,0,none⟩),.int .i64 (n:Int),.string (pM (eV id (gs.map (·.f))) (p.map (·.f)))] W (uU A n vq va k qs m xs (pM (eV id (gs.map (·.f))) (p.map (·.f))) ag W)):=λW h1 h2 h3=>jc A n hn vq 5 ag vn va k qs m xs hm hm2 hk _ W h1 h2 h3 xQ.out BA.out WQ.out
 have Hp:Hid (∀e w',uV A n vq va k qs m xs ag id p gs w e w'↔uV A n vq va k qs m xs ag id p gs w e w'):=λ_ _=>Iff.rfl
 clear h hq ha yu xT GI hD hm
 obtain⟨D,Sz⟩:∃D,fY id p gs=D:=⟨_,rfl⟩
 obtain⟨X,hX⟩:∃X,pM (eV id (gs.map (·.f))) (p.map (·.f))=X:=⟨_,rfl⟩
 unfold uX at HD
 unfold uV
 rw[Sz,hX]at HD
 rw[hX]at mP
 rw[Sz,hX]
 clear Sz hX Hp
 go_enter func114,ntmps114
 go_wp2_with fail
 go_region_with (go_at_call 150;refine aq (HD.out _ (by first|with_reducible exact hB0 _|with_reducible exact(hB0 _).drew)) ?_;rintro e w1 ⟨a1,IJ,rfl,ho1,hb1⟩;dsimp only;have eO:Hid (Below w.heap.size w w1):=Below.trans (by first|with_reducible exact hB0 _|with_reducible exact(hB0 _).drew) (hb1.mono (by simp));have Ga:Hid (w1.ownsRow w.heap.size 32 5 (.slice a1 D.length IJ) D.length (cu D)):=iX ho1 (by simp);have cl1:w1.cell? ⟨A,1,none⟩=_:=(eO.out.cell (p:=⟨A,1,none⟩) mK).trans hl;have fl1:w1.frozen? ⟨A,1,none⟩=_:=(eO.out.frozen (p:=⟨A,1,none⟩) mK).trans hlf;have cL1:w1.cell? ⟨A,30,none⟩=_:=(eO.out.cell (p:=⟨A,30,none⟩) mK).trans hL;have fL1:w1.frozen? ⟨A,30,none⟩=_:=(eO.out.frozen (p:=⟨A,30,none⟩) mK).trans SD;have rO:Hid (Fr (λc i=>c=A/\(i=1\/i=30)) w ((w1.setCell ⟨A,1,none⟩ (.slice a1 D.length IJ)).setCell ⟨A,30,none⟩ (.int .i64 (-1)))):=(((Fr.of_below eO.out).setCell (b:=A) (i:=1) (.inl ⟨rfl,.inl rfl⟩) _).setCell (b:=A) (i:=30) (.inl ⟨rfl,.inr rfl⟩) _);clear ho1 hb1)
 all_goals
  go_wp2_with (go_at_call 112;refine aq (mP.out _ (HC.out.fr rO.out (λi hi e=>by omega)) (HQ.out.fr rO.out (λb i hb e=>xQ.out (by rw[<-e.1];exact hb))) (HA.out.fr rO.out (λb i hb e=>BA.out (by rw[<-e.1];exact hb)))) ?_;rintro e w3 ⟨rfl,vq3,va3,hs3,hq3,ha3,U2,UY,hf3⟩;dsimp only;have oH:Hid _:=hs3;have QZ:Hid _:=hq3;have HA3:Hid _:=ha3;have X0:Hid _:=U2;have XY:Hid _:=UY;have F_:Hid _:=hf3;clear hs3 hq3 ha3 U2 UY hf3)
  go_ret
  have hs2:w.heap.size<=((w1.setCell ⟨A,1,none⟩ (.slice a1 D.length IJ)).setCell ⟨A,30,none⟩ (.int .i64 (-1))).heap.size:=rO.out.size
  have Jl:∀b,va.ownBlock=some b->b<w.heap.size:=λb hb=>(HA.out.lt hb).2
  have hO2:ak ((w1.setCell ⟨A,1,none⟩ (.slice a1 D.length IJ)).setCell ⟨A,30,none⟩ (.int .i64 (-1))) 0 32 5 (.slice a1 D.length IJ) D.length (cu D):=((ak.pV Ga.out).le (λ_ _=>Nat.zero_le _)).fr (((Fr.refl (ig A) w1).setCell (b:=A) (i:=1) (.inl rfl) _).setCell (b:=A) (i:=30) (.inl rfl) _) (λb i hb e=>by have:=(Ga.out.lt b hb).1;have e':b=A:=e;omega)
  refine⟨rfl,a1,IJ,vq3,va3,⟨?_,hO2.fr F_.out (λb i hb e=>?_)⟩,λb hb=>(Ga.out.lt b hb).1,?_,?_,?_,oH.out,QZ.out,HA3.out,X0.out,λb hb=>?_,?_⟩
  ·exact(F_.out.cell A 1 (by omega) (λe=>by rcases e with e|e;omega;exact BA.out e)).trans ((aP (by omega)).trans (cell_eq cl1 _))
  ·have hb1:=(Ga.out.lt b hb).1
   rcases e with e|e
   ·omega
   ·have:=Jl b e;omega
  ·exact(F_.out.cell A 30 (by omega) (λe=>by rcases e with e|e;omega;exact BA.out e)).trans (cell_eq ((aP (by omega)).trans cL1) _)
  ·refine(F_.out.frozen A 1 (by omega) (λe=>by rcases e with e|e;omega;exact BA.out e)).trans ?_
   rw[World.frozen?_setCell,World.frozen?_setCell];exact fl1
  ·refine(F_.out.frozen A 30 (by omega) (λe=>by rcases e with e|e;omega;exact BA.out e)).trans ?_
   rw[World.frozen?_setCell,World.frozen?_setCell];exact fL1
  ·rcases XY.out b hb with h1|h1
   ·exact .inl h1
   ·exact .inr (by omega)
  ·refine(rO.out.mono (M':=λc i=>(c=A/\(i=1\/i=30\/(10+n*5<=i/\i<15+n*5)))\/va.ownBlock=some c) (λb i e=> .inl ⟨e.1,?_⟩)).aC F_.out (λb i _ e=>?_)
   ·rcases e.2 with e|e
    ·exact .inl e
    ·exact .inr (.inl e)
   ·rcases e with e|e
    ·exact .inl ⟨e.1,.inr (.inr e.2)⟩
    ·exact .inr e
variable {b1 s1 s2 n1 n2 b:Nat} {e1 e2:TypeId} {v1 v2:Value} {x1 x2:List Value}
theorem ak.apart(h1:ak w b0 e1 s1 v1 n1 x1)(h2:ak w b1 e2 s2 v2 n2 x2)(he:e1≠e2)(hb:v1.ownBlock=some b):v2.ownBlock≠some b:=λhb2=>by
 rcases h1.2 with⟨rfl,_⟩|⟨g,off,cap,cur,rfl,_,e3,_⟩
 ·cases hb
 ·rcases h2.2 with⟨rfl,_⟩|⟨g',off',cap',cur',rfl,_,TL,_⟩
  ·cases hb2
  ·cases hb
   cases hb2
   rw[e3]at TL
   injection TL with e
   injection e with _ e
   exact he e
structure zU(P:Nat->Prop)(w:World)(g:FG):Prop where
 v:aj g.f=true
 p:bV w.heap.size w g.a g.f.ps
 b:∀x,g.a=some x->P x.block
 c:g.f.ps.length<=g.cap
variable {P:Nat->Prop}
theorem zU.fr(hf:Fr M w w'){g:FG}(h:zU P w g)(hm:∀b i,P b->¬M b i):zU P w' g:=⟨h.v,bV.Ra hf h.p (λx i e=>hm _ i (h.b x e)),h.b,h.c⟩
variable {P':Nat->Prop}
theorem zU.mono(hp:∀b,P b->P' b){g:FG}(h:zU P w g):zU P' w g:=⟨h.v,h.p,λx e=>hp _ (h.b x e),h.c⟩
structure RQ where
 r:Rd
 a:Option Addr
 c:Nat
def RQ.cs(x:RQ):List Value:=match x.r with
 | .bad=>[.int .i64 0,.int .i64 0,.int .i64 0,.int .i64 0,.string ⟨#[]⟩,.int .i64 0,.int .i64 0,.int .i64 0,.int .i64 0,.slice none 0 0]
 | .get t m=>[.int .i64 1,.int .i64 t.z,.int .i64 t.c,.int .i64 t.r,.string m,.int .i64 0,.int .i64 0,.int .i64 0,.int .i64 0,.slice none 0 0]
 | .put f=>[.int .i64 2,.int .i64 0,.int .i64 0,.int .i64 0,.string ⟨#[]⟩,.int .i64 f.id,.int .i64 f.kd,.int .i64 f.ht,.int .i64 f.col,.slice x.a f.ps.length x.c]
 | .del id=>[.int .i64 3,.int .i64 0,.int .i64 0,.int .i64 0,.string ⟨#[]⟩,.int .i64 id,.int .i64 0,.int .i64 0,.int .i64 0,.slice none 0 0]
theorem RQ.len(x:RQ):x.cs.length=10:=by unfold RQ.cs;split<;>rfl
def RQ.ok(P:Nat->Prop)(w:World)(x:RQ):Prop:=match x.r with
 | .bad=>True
 | .get t _=>t.good
 | .put f=>zU P w ⟨f,x.a,x.c⟩
 | .del _=>True
theorem RQ.ok.fr(hf:Fr M w w'){x:RQ}(h:x.ok P w)(hm:∀b i,P b->¬M b i):x.ok P w':=by
 unfold RQ.ok at *
 cases e:x.r with
 |bad=>trivial
 |get t m=>rw[e]at h;exact h
 |put f=>rw[e]at h;exact zU.fr hf h hm
 |del id=>trivial
theorem RQ.ok.mono(hp:∀b,P b->P' b){x:RQ}(h:x.ok P w):x.ok P' w:=by
 unfold RQ.ok at *
 cases e:x.r with
 |bad=>trivial
 |get t m=>rw[e]at h;exact h
 |put f=>rw[e]at h;exact zU.mono hp h
 |del id=>trivial
def fZ(l:List RQ):List Value:=l.flatMap RQ.cs
theorem EL(x:RQ)(l:List RQ):fZ (x::l)=x.cs++fZ l:=rfl
theorem EM(l:List RQ)(x:RQ):fZ (l++[x])=fZ l++x.cs:=by unfold fZ;rw[List.flatMap_append];simp
theorem pS(x:RQ)(l:List RQ):(fZ (x::l)).drop 10=fZ l:=by rw[EL];exact List.drop_left' x.len
structure pK(w:World)(A n:Nat)(s:kL)(vq:Value)(qc:List RQ)(vn:Value)(ng:List FG)(va:Value)(P:Nat->Prop):Prop where
 sc:SC w A n vq (s.step:Int) s.aG vn va
 q:ak w 0 220 10 vq qc.length (fZ qc)
 qe:qc.map (·.r)=s.q
 ND:∀x∈qc,x.ok P w
 nt:ak w 0 32 5 vn ng.length (cu ng)
 Qq:ng.map (·.f)=s.nt
 Tm:∀g∈ng,zU P w g
 an:ak w 0 9 1 va s.an.length (s.an.map .string)
 n0:s.step<=1->vn=.slice none 0 0
structure kK(w:World)(A:Nat)(R:dw)(vl:Value)(gs:List FG)(vs:Nat->Value)(P:Nat->Prop):Prop where
 room:w.cell? ⟨A,0,none⟩=some (.int .i64 R.room)
 ar:AR w A vl gs
 Pr:w.frozen? ⟨A,1,none⟩=false
 DU:gs.map (·.f)=R.all
 PL:∀g∈gs,zU P w g
 sh:RS w A vs R.sh R.aG
 lk:w.cell? ⟨A,30,none⟩=some (.int .i64 R.lock)
 Qj:w.frozen? ⟨A,30,none⟩=false
variable {qc:List RQ} {ng:List FG}
theorem pK.fr(hf:Fr M w w'){A n:Nat}{s:kL}(h:pK w A n s vq qc vn ng va P)(h1:∀i,i<5->¬M A (10+n*5+i))(h2:∀b i,vq.ownBlock=some b\/vn.ownBlock=some b\/va.ownBlock=some b\/P b->¬M b i):pK w' A n s vq qc vn ng va P:=
 ⟨h.sc.fr hf h1,h.q.fr hf (λb i e=>h2 b i (.inl e)),h.qe,λx hx=>(h.ND x hx).fr hf (λb i e=>h2 b i (.inr (.inr (.inr e)))),h.nt.fr hf (λb i e=>h2 b i (.inr (.inl e))),h.Qq,λx hx=>(h.Tm x hx).fr hf (λb i e=>h2 b i (.inr (.inr (.inr e)))),h.an.fr hf (λb i e=>h2 b i (.inr (.inr (.inl e)))),h.n0⟩
theorem pK.mono(hp:∀b,P b->P' b){A n:Nat}{s:kL}(h:pK w A n s vq qc vn ng va P):pK w A n s vq qc vn ng va P':=
 ⟨h.sc,h.q,h.qe,λx hx=>(h.ND x hx).mono hp,h.nt,h.Qq,λx hx=>(h.Tm x hx).mono hp,h.an,h.n0⟩
variable {R:dw} {vl:Value} {gs:List FG} {vs:Nat->Value}
theorem kK.lt{A:Nat}(h:kK w A R vl gs vs P):A<w.heap.size:=dz w ⟨A,0,none⟩ h.room
theorem kK.fr(hf:Fr M w w'){A:Nat}(h:kK w A R vl gs vs P)(h1:∀i,i<10\/i=30->¬M A i)(h2:∀b i,vl.ownBlock=some b\/(∃k,k<4/\(vs k).ownBlock=some b)\/P b->¬M b i):kK w' A R vl gs vs P:=
 have hA:=h.lt
 ⟨(hf.cell A 0 hA (h1 0 (.inl (by omega)))).trans h.room,⟨(hf.cell A 1 hA (h1 1 (.inl (by omega)))).trans h.ar.c,h.ar.own.fr hf (λb i e=>h2 b i (.inl e))⟩,(hf.frozen A 1 hA (h1 1 (.inl (by omega)))).trans h.Pr,h.DU,λx hx=>(h.PL x hx).fr hf (λb i e=>h2 b i (.inr (.inr e))),h.sh.fr hf (λi _ hi=>h1 i (.inl hi)) (λk hk b i e=>h2 b i (.inr (.inl ⟨k,hk,e⟩))),(hf.cell A 30 hA (h1 30 (.inr rfl))).trans h.lk,(hf.frozen A 30 hA (h1 30 (.inr rfl))).trans h.Qj⟩
theorem kK.mono(hp:∀b,P b->P' b){A:Nat}(h:kK w A R vl gs vs P):kK w A R vl gs vs P':=
 ⟨h.room,h.ar,h.Pr,h.DU,λx hx=>(h.PL x hx).mono hp,h.sh,h.lk,h.Qj⟩
variable {R':dw}
theorem kK.congr{A:Nat}(h:kK w A R vl gs vs P)(e1:R'.room=R.room)(e2:R'.all=R.all)(e3:R'.sh=R.sh)(e4:R'.aG=R.aG)(e5:R'.lock=R.lock):kK w A R' vl gs vs P:=
 ⟨by rw[e1];exact h.room,h.ar,h.Pr,by rw[e2];exact h.DU,h.PL,by rw[e3,e4];exact h.sh,by rw[e5];exact h.lk,h.Qj⟩
structure RW where
 vl:Value
 gs:List FG
 vs:Nat->Value
 vq:Nat->Value
 qc:Nat->List RQ
 vn:Nat->Value
 ng:Nat->List FG
 va:Nat->Value
 P:Nat->Prop
def RW.Z(V:RW)(A b:Nat):Prop:=b=A\/V.P b\/V.vl.ownBlock=some b\/(∃k,k<4/\(V.vs k).ownBlock=some b)\/∃n,n<4/\((V.vq n).ownBlock=some b\/(V.vn n).ownBlock=some b\/(V.va n).ownBlock=some b)
structure bH(w:World)(A:Nat)(R:dw)(V:RW):Prop where
 g:kK w A R V.vl V.gs V.vs V.P
 s:∀n,n<4->pK w A n (R.ss n) (V.vq n) (V.qc n) (V.vn n) (V.ng n) (V.va n) V.P
 qA:∀n,n<4->(V.vq n).ownBlock≠some A
 aA:∀n,n<4->(V.va n).ownBlock≠some A
 nA:∀n,n<4->(V.vn n).ownBlock≠some A
 lA:V.vl.ownBlock≠some A
 qq:∀n m b,n<4->m<4->n≠m->(V.vq n).ownBlock=some b->(V.vq m).ownBlock≠some b
 aa:∀n m b,n<4->m<4->n≠m->(V.va n).ownBlock=some b->(V.va m).ownBlock≠some b
 P:∀b,V.P b->b<w.heap.size/\b≠A/\∀n,n<4->(V.vq n).ownBlock≠some b/\(V.va n).ownBlock≠some b
theorem bH.lt{A:Nat}{V:RW}(h:bH w A R V)(hb:V.Z A b):b<w.heap.size:=by
 rcases hb with rfl|hb|hb|⟨k,hk,hb⟩|⟨n,hn,hb|hb|hb⟩
 ·exact h.g.lt
 ·exact(h.P b hb).1
 ·exact(h.g.ar.own.lt hb).2
 ·exact((h.g.sh.k k hk).own.lt hb).2
 ·exact((h.s n hn).q.lt hb).2
 ·exact((h.s n hn).nt.lt hb).2
 ·exact((h.s n hn).an.lt hb).2
theorem bH.fr(hf:Fr M w w'){A:Nat}{V:RW}(h:bH w A R V)(hM:∀b i,M b i->¬V.Z A b):bH w' A R V:=
 ⟨h.g.fr hf (λi _ e=>hM _ _ e (.inl rfl)) (λb i hb e=>hM _ _ e (by
   rcases hb with hb|hb|hb
   ·exact .inr (.inr (.inl hb))
   ·exact .inr (.inr (.inr (.inl hb)))
   ·exact .inr (.inl hb))),λn hn=>(h.s n hn).fr hf (λi _ e=>hM _ _ e (.inl rfl)) (λb i hb e=>hM _ _ e (by
   rcases hb with hb|hb|hb|hb
   ·exact .inr (.inr (.inr (.inr ⟨n,hn,.inl hb⟩)))
   ·exact .inr (.inr (.inr (.inr ⟨n,hn,.inr (.inl hb)⟩)))
   ·exact .inr (.inr (.inr (.inr ⟨n,hn,.inr (.inr hb)⟩)))
   ·exact .inr (.inl hb))),h.qA,h.aA,h.nA,h.lA,h.qq,h.aa,λb hb=>⟨Nat.lt_of_lt_of_le (h.P b hb).1 hf.size,(h.P b hb).2⟩⟩
def cS(w:World)(A:Nat)(Z:Nat->Prop)(R:dw):Prop:=∃V,bH w A R V/\∀b,Z b↔V.Z A b
theorem cS.lt{A:Nat}{Z:Nat->Prop}(h:cS w A Z R)(hb:Z b):b<w.heap.size:=by
 obtain⟨V,hV,hz⟩:=h
 exact hV.lt ((hz b).1 hb)
theorem cS.fr(hf:Fr M w w'){A:Nat}{Z:Nat->Prop}(h:cS w A Z R)(hM:∀b i,M b i->¬Z b):cS w' A Z R:=by
 obtain⟨V,hV,hz⟩:=h
 exact⟨V,hV.fr hf (λb i e hb=>hM b i e ((hz b).2 hb)),hz⟩
theorem cS.below(hb:Below w.heap.size w w'){A:Nat}{Z:Nat->Prop}(h:cS w A Z R):cS w' A Z R:=h.fr (M:=λ_ _=>False) (Fr.of_below hb) (λ_ _ e=>e.elim)
def bF(A:Nat)(Z:Nat->Prop)(R':dw)(w w':World):Prop:=∃Z',cS w' A Z' R'/\(∀b,Z' b->Z b\/w.heap.size<=b)/\Fr (λb _=>Z b) w w'
variable {w1 w2:World}
theorem bF.below{A:Nat}{Z:Nat->Prop}(h:bF A Z R' w w1)(hb:Below w1.heap.size w1 w2):bF A Z R' w w2:=by
 obtain⟨Z',h1,h2,h3⟩:=h
 exact⟨Z',h1.below hb,h2,h3.trans (Fr.of_below hb)⟩
theorem bF.ahead{A:Nat}{Z:Nat->Prop}(hb:Below w.heap.size w w1)(h:bF A Z R' w1 w2):bF A Z R' w w2:=by
 obtain⟨Z',h1,h2,h3⟩:=h
 exact⟨Z',h1,λb hz=>(h2 b hz).imp _root_.id (λh=>Nat.le_trans hb.size h),(Fr.of_below hb).trans h3⟩
theorem bF.same{A:Nat}{Z:Nat->Prop}(h:cS w A Z R)(hb:Below w.heap.size w w'):bF A Z R w w':=⟨Z,h.below hb,λ_ hz=> .inl hz,Fr.of_below hb⟩
def BP(A n:Nat)(V:RW)(b i:Nat):Prop:=(b=A/\∀m,m<4->m≠n->∀j,j<5->i≠10+m*5+j)\/(V.vq n).ownBlock=some b\/(V.va n).ownBlock=some b
def RW.upd(V:RW)(n:Nat)(vl:Value)(gs:List FG)(vs:Nat->Value)(vq:Value)(qc:List RQ)(vn:Value)(ng:List FG)(va:Value)(P:Nat->Prop):RW:=
 ⟨vl,gs,vs,dR V.vq n vq,dR V.qc n qc,dR V.vn n vn,dR V.ng n ng,dR V.va n va,P⟩
variable {α:Type}
theorem cF(f:Nat->α)(n:Nat)(x:α):dR f n x n=x:=if_pos rfl
variable {m:Nat}
theorem bX(f:Nat->α)(x:α)(h:m≠n):dR f n x m=f m:=if_neg h
theorem bH.other{A n m:Nat}{V:RW}(h:bH w A R V)(hn:n<4)(hm:m<4)(hne:m≠n)(hf:Fr M w w')(hM:∀b i,M b i->BP A n V b i):pK w' A m (R.ss m) (V.vq m) (V.qc m) (V.vn m) (V.ng m) (V.va m) V.P:=by
 refine(h.s m hm).fr hf (λi hi e=>?_) (λb i hb e=>?_)
 ·rcases hM _ _ e with e|e|e
  ·exact e.2 m hm hne i hi rfl
  ·exact h.qA n hn e
  ·exact h.aA n hn e
 ·rcases hM _ _ e with⟨e,_⟩|e|e
  ·subst e
   rcases hb with hb|hb|hb|hb
   ·exact h.qA m hm hb
   ·exact h.nA m hm hb
   ·exact h.aA m hm hb
   ·exact(h.P _ hb).2.1 rfl
  ·rcases hb with hb|hb|hb|hb
   ·exact h.qq m n b hm hn hne hb e
   ·exact(h.s m hm).nt.apart (h.s n hn).q (by decide) hb e
   ·exact(h.s m hm).an.apart (h.s n hn).q (by decide) hb e
   ·exact((h.P _ hb).2.2 n hn).1 e
  ·rcases hb with hb|hb|hb|hb
   ·exact(h.s m hm).q.apart (h.s n hn).an (by decide) hb e
   ·exact(h.s m hm).nt.apart (h.s n hn).an (by decide) hb e
   ·exact h.aa m n b hm hn hne hb e
   ·exact((h.P _ hb).2.2 n hn).2 e
theorem bH.next{A n:Nat}{V:RW}{Z:Nat->Prop}(h:bH w A R V)(hZ:∀b,Z b↔V.Z A b)(hn:n<4)(hf:Fr M w w')(hM:∀b i,M b i->BP A n V b i)(hR:∀m,m<4->m≠n->R'.ss m=R.ss m)
  (vl:Value) (gs:List FG) (vs:Nat->Value) (vq:Value) (qc:List RQ) (vn:Value) (ng:List FG) (va:Value) (P:Nat->Prop) (g:kK w' A R' vl gs vs P) (s:pK w' A n (R'.ss n) vq qc vn ng va P) (TR:∀b,V.P b->P b) (bP:∀b,P b->V.P b\/(w.heap.size<=b/\b<w'.heap.size/\vq.ownBlock≠some b/\va.ownBlock≠some b))
  (bl:∀b,vl.ownBlock=some b->V.vl.ownBlock=some b\/w.heap.size<=b) (bs:∀k,k<4->∀b,(vs k).ownBlock=some b->(V.vs k).ownBlock=some b\/w.heap.size<=b) (bq:∀b,vq.ownBlock=some b->(V.vq n).ownBlock=some b\/w.heap.size<=b) (bn:∀b,vn.ownBlock=some b->(V.vn n).ownBlock=some b\/w.heap.size<=b) (ba:∀b,va.ownBlock=some b->(V.va n).ownBlock=some b\/w.heap.size<=b):bF A Z R' w w':=by
 have hA:=h.g.lt
 have lq:∀m,m<4->∀b,(V.vq m).ownBlock=some b->b<w.heap.size:=λm hm b hb=>((h.s m hm).q.lt hb).2
 have la:∀m,m<4->∀b,(V.va m).ownBlock=some b->b<w.heap.size:=λm hm b hb=>((h.s m hm).an.lt hb).2
 have hs':∀m,m<4->pK w' A m (R'.ss m) (dR V.vq n vq m) (dR V.qc n qc m) (dR V.vn n vn m) (dR V.ng n ng m) (dR V.va n va m) P:=λm hm=>by
  by_cases e:m=n
  ·subst e;rw[cF,cF,cF,cF,cF];exact s
  ·rw[bX _ _ e,bX _ _ e,bX _ _ e,bX _ _ e,bX _ _ e,hR m hm e]
   exact(h.other hn hm e hf hM).mono TR
 refine⟨(V.upd n vl gs vs vq qc vn ng va P).Z A,⟨V.upd n vl gs vs vq qc vn ng va P,⟨g,hs',λm hm=>?_,λm hm=>?_,λm hm=>?_,λe=>?_,λm k b hm hk hne hb e=>?_,λm k b hm hk hne hb e=>?_,λb hb=>?_⟩,λb=>Iff.rfl⟩,λb hb=>?_,hf.mono λb i e=>?_⟩
 ·show(dR V.vq n vq m).ownBlock≠some A
  by_cases e:m=n
  ·subst e;rw[cF]
   exact λe=>(bq A e).elim (h.qA m hn) (λe=>by omega)
  ·rw[bX _ _ e];exact h.qA m hm
 ·show(dR V.va n va m).ownBlock≠some A
  by_cases e:m=n
  ·subst e;rw[cF]
   exact λe=>(ba A e).elim (h.aA m hn) (λe=>by omega)
  ·rw[bX _ _ e];exact h.aA m hm
 ·show(dR V.vn n vn m).ownBlock≠some A
  by_cases e:m=n
  ·subst e;rw[cF]
   exact λe=>(bn A e).elim (h.nA m hn) (λe=>by omega)
  ·rw[bX _ _ e];exact h.nA m hm
 ·exact(bl A e).elim h.lA (λe=>by omega)
 ·have hb':(dR V.vq n vq m).ownBlock=some b:=hb
  have e':(dR V.vq n vq k).ownBlock=some b:=e
  by_cases em:m=n
  ·subst em
   rw[cF]at hb'
   rw[bX _ _ (λx=>hne x.symm)]at e'
   rcases bq b hb' with h1|h1
   ·exact h.qq m k b hm hk hne h1 e'
   ·have:=lq k hk b e';omega
  ·rw[bX _ _ em]at hb'
   by_cases ek:k=n
   ·subst ek
    rw[cF]at e'
    rcases bq b e' with h1|h1
    ·exact h.qq m k b hm hk hne hb' h1
    ·have:=lq m hm b hb';omega
   ·rw[bX _ _ ek]at e'
    exact h.qq m k b hm hk hne hb' e'
 ·have hb':(dR V.va n va m).ownBlock=some b:=hb
  have e':(dR V.va n va k).ownBlock=some b:=e
  by_cases em:m=n
  ·subst em
   rw[cF]at hb'
   rw[bX _ _ (λx=>hne x.symm)]at e'
   rcases ba b hb' with h1|h1
   ·exact h.aa m k b hm hk hne h1 e'
   ·have:=la k hk b e';omega
  ·rw[bX _ _ em]at hb'
   by_cases ek:k=n
   ·subst ek
    rw[cF]at e'
    rcases ba b e' with h1|h1
    ·exact h.aa m k b hm hk hne hb' h1
    ·have:=la m hm b hb';omega
   ·rw[bX _ _ ek]at e'
    exact h.aa m k b hm hk hne hb' e'
 ·show b<w'.heap.size/\b≠A/\∀m,m<4->(dR V.vq n vq m).ownBlock≠some b/\(dR V.va n va m).ownBlock≠some b
  have hsz:=hf.size
  rcases bP b hb with h1|⟨h1,h2,h3,h4⟩
  ·have hp:=h.P b h1
   refine⟨by omega,hp.2.1,λm hm=>?_⟩
   by_cases em:m=n
   ·subst em
    rw[cF,cF]
    exact⟨λe=>(bq b e).elim (hp.2.2 m hm).1 (λe=>by omega),λe=>(ba b e).elim (hp.2.2 m hm).2 (λe=>by omega)⟩
   ·rw[bX _ _ em,bX _ _ em]
    exact hp.2.2 m hm
  ·refine⟨h2,by omega,λm hm=>?_⟩
   by_cases em:m=n
   ·subst em
    rw[cF,cF]
    exact⟨h3,h4⟩
   ·rw[bX _ _ em,bX _ _ em]
    exact⟨λe=>by have:=lq m hm b e;omega,λe=>by have:=la m hm b e;omega⟩
 ·have hb':b=A\/P b\/vl.ownBlock=some b\/(∃k,k<4/\(vs k).ownBlock=some b)\/∃m,m<4/\((dR V.vq n vq m).ownBlock=some b\/(dR V.vn n vn m).ownBlock=some b\/(dR V.va n va m).ownBlock=some b):=hb
  rcases hb' with hb|hb|hb|⟨k,hk,hb⟩|⟨m,hm,hb⟩
  ·exact .inl ((hZ b).2 (.inl hb))
  ·exact(bP b hb).imp (λe=>(hZ b).2 (.inr (.inl e))) (λe=>e.1)
  ·exact(bl b hb).imp (λe=>(hZ b).2 (.inr (.inr (.inl e)))) _root_.id
  ·exact(bs k hk b hb).imp (λe=>(hZ b).2 (.inr (.inr (.inr (.inl ⟨k,hk,e⟩))))) _root_.id
  ·by_cases em:m=n
   ·subst em
    rw[cF,cF,cF]at hb
    rcases hb with hb|hb|hb
    ·exact(bq b hb).imp (λe=>(hZ b).2 (.inr (.inr (.inr (.inr ⟨m,hm,.inl e⟩))))) _root_.id
    ·exact(bn b hb).imp (λe=>(hZ b).2 (.inr (.inr (.inr (.inr ⟨m,hm,.inr (.inl e)⟩))))) _root_.id
    ·exact(ba b hb).imp (λe=>(hZ b).2 (.inr (.inr (.inr (.inr ⟨m,hm,.inr (.inr e)⟩))))) _root_.id
   ·rw[bX _ _ em,bX _ _ em,bX _ _ em]at hb
    exact .inl ((hZ b).2 (.inr (.inr (.inr (.inr ⟨m,hm,hb⟩)))))
 ·rcases hM b i e with e|e|e
  ·exact(hZ b).2 (.inl e.1)
  ·exact(hZ b).2 (.inr (.inr (.inr (.inr ⟨n,hn,.inl e⟩))))
  ·exact(hZ b).2 (.inr (.inr (.inr (.inr ⟨n,hn,.inr (.inr e)⟩))))
end
end Go.Proofs.YtenaepdmlknlcaaGreatDoor
