import Derived.Test.YtenaepdmlknlcaaGreatDoorG05
import Derived.Test.YtenaepdmlknlcaaGreatDoorG09
open Go.Proofs.Tryz
set_option maxRecDepth 100000
set_option maxHeartbeats 8000000
namespace Go.Proofs.YtenaepdmlknlcaaGreatDoor
section
open Go.RowKit Go.Shelf
def TM(m:Nat):Int:=4294967296/16^m
variable {m:Nat}
theorem PG{u:Int}(hm:m<=7)(_h0:0<=u)(h:u<TM m)(h16:16<=u):m<=6/\u/16<TM (m+1):=by
 have hc:m=0\/m=1\/m=2\/m=3\/m=4\/m=5\/m=6\/m=7:=by omega
 rcases hc with rfl|rfl|rfl|rfl|rfl|rfl|rfl|rfl<;>simp[TM]at h⊢ <;>omega
theorem Uy(u:Int)(h0:0<=u)(h:u<4294967296):bits BinOp.and IntKind.u64 u 15=u%16:=by
 obtain⟨n,rfl⟩:=Int.eq_ofNat_of_zero_le h0
 have e:(BitVec.ofInt 64 (n:Int)&&&BitVec.ofInt 64 15).toNat=n%16:=by
  rw[BitVec.toNat_and]
  have h1:(BitVec.ofInt 64 (n:Int)).toNat=n:=by simp;omega
  rw[h1]
  show n&&&15=n%16
  exact Nat.and_two_pow_sub_one_eq_mod n 4
 show IntKind.u64.wrap ((BitVec.ofInt 64 (n:Int)&&&BitVec.ofInt 64 15).toNat:Int)=_
 rw[e]
 simp[IntKind.wrap,IntKind.bits,IntKind.signed]
 omega
variable {W:World}
theorem II{A:Nat}(h:∀j,j<65->∃c:Int,W.cell? ⟨A,j,none⟩=some (.int .u8 c)/\0<=c/\c<256)(i:Nat)(b:UInt8):
  ∀j,j<65->∃c:Int,(W.setCell ⟨A,i,none⟩ (.int .u8 (b.toNat:Int))).cell? ⟨A,j,none⟩=some (.int .u8 c)/\0<=c/\c<256:=λj hj=>by
 obtain⟨c,hc,hc0,hc1⟩:=h j hj
 by_cases hij:j=i
 ·subst hij
  exact⟨b.toNat,World.cell?_setCell_same _ _ _ hc,by omega,by have:=b.toNat_lt;omega⟩
 ·exact⟨c,(World.cell?_setCell_other _ _ _ _ (by intro e;injection e with _ e2 _;exact hij e2.symm)).trans hc,hc0,hc1⟩
theorem QS:Tryz.zeroCells280=Array.replicate 65 (Value.int .u8 0):=by kernel_rfl
theorem QC(c:Nat)(w:World)(hc:c<=8):
  Calls prog 61 #[.string ⟨#[48]⟩,.int .i64 (c:Int)] w λe w'=>e=.returned (.string ⟨(Lib.repeatL [48] c).toArray⟩)/\Below w.heap.size w w':=by
 match c,hc with
 |0,_=>exact(Tryz.strings_Repeat_zero ⟨#[48]⟩ w).mono λe w' ⟨he,hw⟩=>⟨he,hw▸bK⟩
 |1,_=>exact(Tryz.strings_Repeat_one ⟨#[48]⟩ w).mono λe w' ⟨he,hw⟩=>⟨he,hw▸bK⟩
 |n+2,hc=>exact Tryz.strings_Repeat_main ⟨#[48]⟩ (n+2) w (by omega) (by omega) (by show 1*(n+2)<=_;omega) (by show 0<1;omega)
end
section
open Go.RowKit
structure mS(n0 g:Nat)(W:World)(p:Nat×Bx)(c:Kids):Prop where
 new:n0<=p.1
 lt:p.1<W.heap.size
 box:C4 W p.1 p.2
 eq:p.2=bZ c
 ne:c≠[]
 few:c.length<=4
 kids:∃kb cap,W.cell? ⟨p.1,4,none⟩=some (.slice (some ⟨kb,0,none⟩) c.length cap)/\c.length<=cap/\(kb=g\/n0<=kb)/\kb<W.heap.size/\∀(j:Nat) k,c[j]? =some k->W.cell? ⟨kb,j,none⟩=some (.pointer (some ⟨k.1,0,none⟩))
theorem mS.below{n0 g:Nat}{A B:World}{p:Nat×Bx}{c:Kids}(h:mS n0 g A p c)(hb:Below A.heap.size A B):mS n0 g B p c:=by
 obtain⟨h1,h2,h3,h4,h5,h6,kb,cap,k1,k2,k3,k4,k5⟩:=h
 obtain⟨hc,_⟩:=eF hb
 exact⟨h1,Nat.lt_of_lt_of_le h2 hb.size,h3.below hb h2,h4,h5,h6,kb,cap,(hc _ _ h2).trans k1,k2,k3,Nat.lt_of_lt_of_le k4 hb.size,λj k e=>(hc _ _ k4).trans (k5 j k e)⟩
def jN(g:Nat)(ks:Kids)(w:World)(e:Ending)(w':World):Prop:=
 ∃(s m:Nat) (ps:Kids) (T_:List Kids),e=.returned (.slice (some ⟨s,0,none⟩) m m)/\(m=1\/m=2)/\ps.length=m/\T_.length=m/\T_.flatten.Perm ks/\w.heap.size<=s/\s<w'.heap.size/\(∀(i:Nat) p,ps[i]? =some p->w'.cell? ⟨s,i,none⟩=some (.pointer (some ⟨p.1,0,none⟩)))/\(∀(i:Nat) p c,ps[i]? =some p->T_[i]? =some c->mS w.heap.size g w' p c)/\aS g w w'/\Below g w w'
theorem y8{ks:Kids}(h:∀k∈ks,mh k.2)(hne:ks≠[]):mh (bZ ks):=by
 cases ks with
 |nil=>exact absurd rfl hne
 |cons k r=>
  have:∀(r:Kids) (a:Bx),mh a->(∀k∈r,mh k.2)->mh (r.foldl (λb q=>b.join q.2) a):=by
   intro r
   induction r with
   |nil=>exact λa ha _=>ha
   |cons k r ih=>exact λa ha hk=>ih _ (ha.join (hk k (by simp))) (λq hq=>hk q (by simp[hq]))
  exact this r k.2 (h k (by simp)) (λq hq=>h q (by simp[hq]))
variable {w:World}
theorem wJ{g:Nat}{ks:Kids}(hg:g<w.heap.size)(hr:gG w g ks)(hk:∀k∈ks,k.1<w.heap.size/\C4 w k.1 k.2):ew w.heap.size w g 0 ks:=
 ⟨hg,λi q x e=>⟨by rw[Nat.zero_add];exact(hr i _ e).1,(hk _ (List.mem_of_getElem? e)).1,(hk _ (List.mem_of_getElem? e)).2⟩⟩
theorem Fu(g n cap:Nat)(ks:Kids)(w:World)(hg:g<w.heap.size)(hn:n=ks.length)(hn1:1<=n)(hn2:n<=4)(hcap:n<=cap)(hrow:gG w g ks)(hks:∀k∈ks,k.1<w.heap.size/\C4 w k.1 k.2):
  Calls prog 87 #[.slice (some ⟨g,0,none⟩) n cap] w (jN g ks w):=by
 have h4:(n:Int)<=4:=by omega
 have Hk:Hid (ew w.heap.size w g 0 ks):=wJ hg hrow hks
 have Hn:=af hn
 have HP:Hid (∀(s q:Nat) (w':World),w'.cell? ⟨s,0,none⟩=some (.pointer (some ⟨q,0,none⟩))->s<w'.heap.size->w.heap.size<=s->w.heap.size<=q->q<w'.heap.size->C4 w' q (bZ ks)->w'.cell? ⟨q,4,none⟩=some (.slice (some ⟨g,0,none⟩) n cap)->Below w.heap.size w w'->jN g ks w (.returned (.slice (some ⟨s,0,none⟩) 1 1)) w'):=by
  intro s q w' hs0 hs1 hs2 hq1 Jj hc h4 hb
  have qJ:g<w'.heap.size:=Nat.lt_of_lt_of_le hg hb.size
  refine⟨s,1,[(q,bZ ks)],[ks],rfl,.inl rfl,rfl,rfl,by simp,?_,hs1,?_,?_,aS.of_below hb,hb.mono (Nat.le_of_lt hg)⟩
  ·exact hs2
  ·intro i p hp
   match i,hp with
   |0,hp=>simp at hp;subst hp;exact hs0
   |i+1,hp=>simp at hp
  ·intro i p c hp hc'
   match i,hp,hc' with
   |0,hp,hc'=>
    simp at hp hc'
    subst hp hc'
    exact⟨hq1,Jj,hc,rfl,by intro e;rw[e]at hn;simp at hn;omega,by omega,g,cap,by rw[<-hn];exact h4,by omega,.inl rfl,qJ,λj k e=>(hb.cell (p:=⟨g,j,none⟩) hg).trans (hrow j k e).1⟩
   |i+1,hp,_=>simp at hp
 clear hrow hks hn
 go_enter func87,ntmps87
 go_wp2_with (go_at_call 54;refine(nI g 0 n cap ks _ Hk.out Hn.out hn1 (by omega) hcap).mono ?_;rintro e w1 ⟨q,rfl,hq1,Jj,hc,Yq,hB1⟩)
 go_ret
 have hB2:Below w1.heap.size w1 (w1.alloc (.cells #[.pointer (some ⟨q,0,none⟩)] 87)):=aU
 exact HP.out w1.heap.size q _ (by simp[go_sem]) (by simp) hB1.size hq1 (by simp;omega) (hc.below hB2 Jj) ((hB2.cell (p:=⟨q,4,none⟩) Jj).trans Yq) (hB1.trans (hB2.mono hB1.size))
variable {k j:Nat}
theorem getD_take{ks:Kids}{x:Nat×Bx}(h:(ks.take k)[j]? =some x):ks[j]? =some x:=by
 rw[List.getElem?_take]at h
 split at h
 ·exact h
 ·cases h
theorem ou{ks:Kids}{x:Nat×Bx}(h:(ks.drop k)[j]? =some x):ks[k+j]? =some x:=by
 rw[List.getElem?_drop]at h
 exact h
theorem Dc(g cap:Nat)(ks:Kids)(w:World)(hg:g<w.heap.size)(hn:5=ks.length)(hcap:5<=cap)(hrow:gG w g ks)(hks:∀k∈ks,k.1<w.heap.size/\C4 w k.1 k.2)(hne:∀k∈ks,k.1≠g/\mh k.2):
  Calls prog 87 #[.slice (some ⟨g,0,none⟩) 5 cap] w (jN g ks w):=by
 have Hk:Hid (ew w.heap.size w g 0 ks):=wJ hg hrow hks
 have Hn:=af hn
 have Uw:=af hrow
 have KV:=af hks
 have X5:=af hne
 have HJ:Hid (mh (bZ ks)):=y8 (λk hk=>(hne k hk).2) (by intro e;rw[e]at hn;simp at hn)
 clear hn hrow hks hne
 go_enter func87,ntmps87
 go_upto_region 4 with(go_at_call 54;refine(nI g 0 5 cap ks _ Hk.out Hn.out (by decide) (by decide) hcap).mono ?_;rintro e w1 ⟨q,rfl,hq1,Jj,hc,Yq,hB1⟩)
 have PY:=hB1.size
 obtain⟨c0,c1,c2,c3⟩:=hc
 have HA:Hid (∀W:World,Calls prog 121 #[.agg #[.int .i64 (bZ ks).l,.int .i64 (bZ ks).t,.int .i64 (bZ ks).r,.int .i64 (bZ ks).b]] W λe w'=>(∃d,e=.returned (mV d))/\Below W.heap.size W w'):=λW=>IA (bZ ks) W HJ.out
 have HS:Hid (∀(d:Bool) (W:World),Below w1.heap.size w1 W->Calls prog 120 #[.slice (some ⟨g,0,none⟩) 5 cap,mV d] W λe w'=>e=.returned (.tuple #[])/\∃ks':Kids,ks'.Perm ks/\gG w' g ks'/\aS g W w'/\Below g W w'):=λd W hW=>by
  have TV:Below w.heap.size w W:=hB1.trans (hW.mono hB1.size)
  exact FY d g 5 cap ks W Hn.out (by decide) (λi k e=>⟨(TV.cell (p:=⟨g,i,none⟩) hg).trans (Uw.out i k e).1,(TV.frozen (p:=⟨g,i,none⟩) hg).trans (Uw.out i k e).2⟩) (λk hk=>⟨(X5.out k hk).1,(KV.out k hk).2.below TV (KV.out k hk).1,(X5.out k hk).2⟩)
 go_upto_region 6 with(first
  |(go_at_call 121;refine aq (HA.out _) ?_;rintro e w2 ⟨⟨d,rfl⟩,hb2⟩)
  |(go_at_call 120;refine aq (HS.out d _ hb2) ?_;rintro e w3 ⟨rfl,ks',hperm,hrow3,EY,hb3⟩))
 have hB2:Below w.heap.size w w2:=hB1.trans (hb2.mono hB1.size)
 have gZ:Below g w w3:=(hB2.mono (Nat.le_of_lt hg)).trans hb3
 have ZE:=hB2.size
 have Jk:=EY.1
 have KH:Hid (∀k∈ks',k.1<w3.heap.size/\C4 w3 k.1 k.2):=λk hk=>by
  have hk2:=hperm.mem_iff.1 hk
  exact⟨by have:=(KV.out k hk2).1;omega,EY.q4 (X5.out k hk2).1 ((KV.out k hk2).2.below hB2 (KV.out k hk2).1)⟩
 have Vp:ks'.length=5:=by rw[hperm.length_eq];exact Hn.out.symm
 have HC:Hid (∀(o m cp:Nat) (W:World),o+m<=5->1<=m->Below w3.heap.size w3 W->Calls prog 122 #[.slice (some ⟨g,o,none⟩) m cp] W λe w'=>∃g1 WU:Nat,e=.returned (.slice (some ⟨g1,0,none⟩) m WU)/\m<=WU/\W.heap.size<=g1/\ew w'.heap.size w' g1 0 ((ks'.drop o).take m)/\Below W.heap.size W w'):=λo m cp W hom hm1 hW=>by
  have hlen:m=((ks'.drop o).take m).length:=by rw[List.length_take,List.length_drop,Vp];omega
  refine(G8 g o m cp ((ks'.drop o).take m) W hlen hm1 (by omega) (λj k e=>(hW.cell (p:=⟨g,o+j,none⟩) (show g<w3.heap.size by omega)).trans (hrow3 (o+j) k (ou (getD_take e))).1) (by have:=hW.size;omega)).mono ?_
  rintro e w' ⟨v,rfl,hown,hb⟩
  obtain⟨m',rfl⟩:∃m',m=m'+1:=⟨m-1,by omega⟩
  obtain⟨g1,c1,rfl,h1,h2,h3⟩:=CQ (ks:=(ks'.drop o).take (m'+1)) hlen.symm hb (by rw[show(ptrs ((ks'.drop o).take (m'+1))).length=m'+1 by rw[ptrs,List.length_map];exact hlen.symm];exact hown) (λi q x e=>by
   have:=KH.out _ (List.mem_of_getElem? (ou (getD_take e)))
   exact⟨Nat.lt_of_lt_of_le this.1 hW.size,this.2.below hW this.1⟩)
  exact⟨g1,c1,rfl,h1,h2,h3,hb⟩
 have HO:Hid (∀(gg m cc:Nat) (c:Kids) (W:World),ew W.heap.size W gg 0 c->m=c.length->1<=m->m<=5->m<=cc->Calls prog 54 #[.slice (some ⟨gg,0,none⟩) m cc] W λe w'=>∃q:Nat,e=.returned (.pointer (some ⟨q,0,none⟩))/\W.heap.size<=q/\q<w'.heap.size/\C4 w' q (bZ c)/\w'.cell? ⟨q,4,none⟩=some (.slice (some ⟨gg,0,none⟩) m cc)/\Below W.heap.size W w'):=λgg m cc c W hk hm h1 h2 h3=>nI gg 0 m cc c W hk hm h1 (by omega) h3
 have x0:Below w3.heap.size w3 w3.drew:=bK.drew
 have l1:2=((ks'.drop 0).take 2).length:=by rw[List.length_take,List.length_drop,Vp];decide
 have l2:3=((ks'.drop 2).take 3).length:=by rw[List.length_take,List.length_drop,Vp];decide
 have L1:=af l1
 have L2:=af l2
 have aal:=af hrow3
 have Hl5:=af Vp
 clear l1 l2 Vp hrow3 c0 c1 c2 c3 Yq HA HS hb2 hb3 Hk
 have h2c:(2:Int)<=(cap:Int):=by omega
 have h2n:2<=cap:=by omega
 go_region_held3 (λw'=>True) (trivial)
  (first
  |(go_at_call 122;have y2:=x2;refine aq (HC.out _ _ _ _ (by decide) (by decide) y2) ?_;rintro e w6 ⟨g2,cp2,rfl,U9,hg2,hk2,jC⟩;have x3:=y2.trans (jC.mono y2.size))
  |(go_at_call 122;refine aq (HC.out _ _ _ _ (by decide) (by decide) x0) ?_;rintro e w4 ⟨g1,WU,rfl,U8,hg1,hk1,hb4⟩;have x1:=x0.trans (hb4.mono x0.size))
  |(go_at_call 54;have y3:=x3;refine aq (HO.out _ _ _ _ _ hk2 L2.out (by decide) (by decide) U9) ?_;rintro e w7 ⟨q2,rfl,aaU,Zq,hc2,h42,TW⟩;have x4:=y3.trans (TW.mono y3.size))
  |(go_at_call 54;refine aq (HO.out _ _ _ _ _ hk1 L1.out (by decide) (by decide) U8) ?_;rintro e w5 ⟨q1,rfl,aaT,Zp,hc1,h41,hb5⟩;have x2:=x1.trans (hb5.mono x1.size)))
 have z4:w3.heap.size<=w4.heap.size:=hb4.size
 have z5:=hb5.size
 have z6:=jC.size
 have z7:=TW.size
 have zg1:w3.heap.size<=g1:=hg1
 have N1:mS w.heap.size g w5 (q1,bZ ((ks'.drop 0).take 2)) ((ks'.drop 0).take 2):=⟨by show _<=q1;omega,Zp,hc1,rfl,by intro e;have:=L1.out;rw[e]at this;simp at this,by rw[<-L1.out];decide,g1,WU,by rw[<-L1.out];exact h41,by rw[<-L1.out];exact U8,.inr (by omega),by have:=hk1.1;omega,λj k e=>(hb5.cell (p:=⟨g1,j,none⟩) hk1.1).trans (by have:=(hk1.2 j k.1 k.2 e).1;rwa[Nat.zero_add]at this)⟩
 have N2:mS w.heap.size g w7 (q2,bZ ((ks'.drop 2).take 3)) ((ks'.drop 2).take 3):=⟨by show _<=q2;omega,Zq,hc2,rfl,by intro e;have:=L2.out;rw[e]at this;simp at this,by rw[<-L2.out];decide,g2,cp2,by rw[<-L2.out];exact h42,by rw[<-L2.out];exact U9,.inr (by omega),by have:=hk2.1;omega,λj k e=>(TW.cell (p:=⟨g2,j,none⟩) hk2.1).trans (by have:=(hk2.2 j k.1 k.2 e).1;rwa[Nat.zero_add]at this)⟩
 have b8:∀o:Obj,Below w7.heap.size w7 (w7.alloc o):=λo=>bK.alloc aM o
 have M1:Hid (mS w.heap.size g w7 (q1,bZ ((ks'.drop 0).take 2)) ((ks'.drop 0).take 2)):=(N1.below jC).below TW
 have M2:=af N2
 have XO:Hid ([(ks'.drop 0).take 2,(ks'.drop 2).take 3].flatten.Perm ks):=by
  show List.Perm _ _
  have e:[(ks'.drop 0).take 2,(ks'.drop 2).take 3].flatten=ks':=by
   simp only[List.flatten_cons,List.flatten_nil,List.append_nil,List.drop_zero]
   rw[List.take_of_length_le (l:=ks'.drop 2) (by rw[List.length_drop,Hl5.out];decide),List.take_append_drop]
  rw[e];exact hperm
 clear N1 N2 hk1 hk2 hc1 hc2 h41 h42
 go_wp2
 go_ret
 refine⟨w7.heap.size,2,[(q1,bZ ((ks'.drop 0).take 2)),(q2,bZ ((ks'.drop 2).take 3))],[(ks'.drop 0).take 2,(ks'.drop 2).take 3],rfl,.inr rfl,rfl,rfl,XO.out,by omega,by simp,?_,?_,?_,?_⟩
 ·intro i p hp
  match i,hp with
  |0,hp=>simp at hp;subst hp;simp[go_sem]
  |1,hp=>simp at hp;subst hp;simp[go_sem]
  |i+2,hp=>simp at hp
 ·intro i p c hp hc'
  match i,hp,hc' with
  |0,hp,hc'=>
   simp only[List.getElem?_cons_zero,Option.some.injEq]at hp hc'
   subst hp hc'
   exact M1.out.below (b8 _)
  |1,hp,hc'=>
   simp only[List.getElem?_cons_succ,List.getElem?_cons_zero,Option.some.injEq]at hp hc'
   subst hp hc'
   exact M2.out.below (b8 _)
  |i+2,hp,_=>simp at hp
 ·exact((aS.of_below hB2).trans EY).trans (aS.of_below (x4.trans ((b8 _).mono x4.size)))
 ·exact gZ.trans ((x4.trans ((b8 _).mono x4.size)).mono (by omega))
variable {α β:Type}
theorem JI(f:α->β){l l':List β}(h:l.Perm l'):∀(m:List α),m.map f=l'->∃m':List α,m'.Perm m/\m'.map f=l:=by
 induction h with
 |nil=>intro m hm;exact⟨m,.refl _,hm⟩
 |cons x _ ih=>
  intro m hm
  cases m with
  |nil=>simp at hm
  |cons a r=>
   simp at hm
   obtain⟨m',h1,h2⟩:=ih r hm.2
   exact⟨a::m',h1.cons a,by simp[hm.1,h2]⟩
 |swap x y l=>
  intro m hm
  match m,hm with
  |a::b::r,hm=>
   simp at hm
   exact⟨b::a::r,.swap _ _ _,by simp[hm]⟩
  |[a],hm=>simp at hm
  |[],hm=>simp at hm
 |trans _ _ ih1 ih2=>
  intro m hm
  obtain⟨m1,h1,h2⟩:=ih2 m hm
  obtain⟨m2,h3,h4⟩:=ih1 m1 h2
  exact⟨m2,h3.trans h1,h4⟩
theorem pH{l:List α}(h:l.length=2):∃a b,l=[a,b]:=by
 match l,h with
 |[a,b],_=>exact⟨a,b,rfl⟩
theorem iw.c4{ok:Nat->Prop}:∀{d q:Nat} {fs:List FV} {x:Bx},iw ok w d q fs x->C4 w q x
 |0,_,_,_,⟨_,_,ex,l⟩=>by rw[ex];exact l.box
 |_+1,_,_,_,h=>h.2.1
def dA(ok:Nat->Prop)(d:Nat)(fs:List FV)(w:World)(e:Ending)(w':World):Prop:=
 ∃(s m:Nat) (ps:Kids) (qd:List (List FV)),e=.returned (.slice (some ⟨s,0,none⟩) m m)/\(m=1\/m=2)/\ps.length=m/\qd.length=m/\w.heap.size<=s/\s<w'.heap.size/\(∀(i:Nat) p,ps[i]? =some p->w'.cell? ⟨s,i,none⟩=some (.pointer (some ⟨p.1,0,none⟩)))/\(∀(i:Nat) p y t,ps[i]? =some (p,y)->qd[i]? =some t->iw (iM ok w.heap.size w'.heap.size) w' d p t y)/\qd.flatten.Perm fs/\Below w.heap.size w w'
abbrev KT:=List ((Nat×Bx)×List FV)
variable {W w':World}
theorem sA{ok:Nat->Prop}{g d:Nat}{p:Nat×Bx}{a:KT}(hg1:w.heap.size<=g)(qJ:g<w'.heap.size)(hW:w.heap.size<=W.heap.size)(hn:mS W.heap.size g w' p (a.map Prod.fst))
  (hT:∀k∈a,iw (iM ok w.heap.size w'.heap.size) w' d k.1.1 k.2 k.1.2):iw (iM ok w.heap.size w'.heap.size) w' (d+1) p.1 (a.map Prod.snd).flatten p.2:=by
 obtain⟨h1,h2,h3,h4,h5,h6,kb,cap,k1,k2,k3,k4,k5⟩:=hn
 refine⟨.inr ⟨by omega,h2⟩,h3,kb,0,cap,a.map Prod.fst,a.map Prod.snd,k1,h5,h6,k2,⟨.inr ⟨by rcases k3 with rfl|k3<;>omega,k4⟩,λi q x e=>?_⟩,by simp,λi q y t e e'=>?_,rfl,h4⟩
 ·rw[List.getElem?_map,Option.map_eq_some_iff]at e
  obtain⟨k,hk,W_⟩:=e
  have:=hT k (List.mem_of_getElem? hk)
  rw[W_]at this
  refine⟨by rw[Nat.zero_add];exact k5 i (q,x) (by rw[List.getElem?_map,hk];simp[W_]),this.lt,this.c4⟩
 ·rw[List.getElem?_map,Option.map_eq_some_iff]at e e'
  obtain⟨k,hk,W_⟩:=e
  obtain⟨k',hk',rfl⟩:=e'
  rw[hk]at hk'
  cases hk'
  have:=hT k (List.mem_of_getElem? hk)
  rw[W_]at this
  exact this
variable {kt:KT}
theorem Cs{ok:Nat->Prop}{g d:Nat}{e:Ending}(hg1:w.heap.size<=g)(hgW:g<W.heap.size)(hW:Below w.heap.size w W)
  (hT:∀k∈kt,iw (λb=>iM ok w.heap.size W.heap.size b/\b≠g) W d k.1.1 k.2 k.1.2) (hP:jN g (kt.map Prod.fst) W e w'):dA ok (d+1) (kt.map Prod.snd).flatten w e w':=by
 obtain⟨s,m,ps,T_,rfl,hm,hps,Vo,hperm,hs1,hs2,hrow,E0,hkeep,hbel⟩:=hP
 have hsz:=hW.size
 have ZE:=hkeep.1
 obtain⟨kt',hp1,jy⟩:=JI Prod.fst hperm kt rfl
 have UR:∀k∈kt',iw (iM ok w.heap.size w'.heap.size) w' d k.1.1 k.2 k.1.2:=λk hk=>
  ((hT k (hp1.mem_iff.1 hk)).same (hkeep.same (λb hb=>hb.2))).mono (λb hb=>hb.1.elim .inl (λh=> .inr ⟨h.1,by omega⟩))
 have hB:Below w.heap.size w w':=hW.trans (hbel.mono hg1)
 have qJ:g<w'.heap.size:=by omega
 rcases hm with rfl|rfl
 ·obtain⟨p,rfl⟩:∃p,ps=[p]:=List.length_eq_one_iff.1 hps
  obtain⟨c,rfl⟩:∃c,T_=[c]:=List.length_eq_one_iff.1 Vo
  simp only[List.flatten_cons,List.flatten_nil,List.append_nil]at jy
  have hN:=E0 0 p c rfl rfl
  rw[<-jy]at hN
  refine⟨s,1,[p],[(kt'.map Prod.snd).flatten],rfl,.inl rfl,rfl,rfl,by omega,hs2,hrow,?_,?_,hB⟩
  ·intro i q y t e e'
   match i,e,e' with
   |0,e,e'=>
    simp at e e'
    subst e e'
    exact sA hg1 qJ hsz hN UR
   |i+1,e,_=>simp at e
  ·simp only[List.flatten_cons,List.flatten_nil,List.append_nil]
   exact(hp1.map Prod.snd).flatten
 ·obtain⟨p,p2,rfl⟩:∃p p2,ps=[p,p2]:=pH hps
  obtain⟨c,c2,rfl⟩:∃c c2,T_=[c,c2]:=pH Vo
  simp only[List.flatten_cons,List.flatten_nil,List.append_nil]at jy
  obtain⟨a,b,rfl,rfl,rfl⟩:=List.map_eq_append_iff.1 jy
  have hN:=E0 0 p _ rfl rfl
  have hN2:=E0 1 p2 _ rfl rfl
  refine⟨s,2,[p,p2],[(a.map Prod.snd).flatten,(b.map Prod.snd).flatten],rfl,.inr rfl,rfl,rfl,by omega,hs2,hrow,?_,?_,hB⟩
  ·intro i q y t e e'
   match i,e,e' with
   |0,e,e'=>
    simp at e e'
    subst e e'
    exact sA hg1 qJ hsz hN (λk hk=>UR k (by simp[hk]))
   |1,e,e'=>
    simp at e e'
    subst e e'
    exact sA hg1 qJ hsz hN2 (λk hk=>UR k (by simp[hk]))
   |i+2,e,_=>simp at e
  ·simp only[List.flatten_cons,List.flatten_nil,List.append_nil]
   have:=(hp1.map Prod.snd).flatten
   rwa[List.map_append,List.flatten_append]at this
theorem LA{ps:dS}(hne:ps≠[])(ha:ps.all lI=true):mh (aD ps):=by
 have key:∀(r:dS) (a:Bx),mh a->r.all lI=true->mh (r.foldl (λb q=>b.join (eB q)) a):=by
  intro r
  induction r with
  |nil=>exact λa h _=>h
  |cons q r ih=>
   intro a h hr
   simp only[List.all_cons,Bool.and_eq_true]at hr
   refine ih _ (h.join ?_) hr.2
   have:=hr.1
   simp[lI,fP]at this
   constructor<;>simp only[eB]<;>omega
 cases ps with
 |nil=>exact absurd rfl hne
 |cons q r=>
  simp only[List.all_cons,Bool.and_eq_true]at ha
  refine key r _ ?_ ha.2
  have:=ha.1
  simp[lI,fP]at this
  constructor<;>simp only[eB]<;>omega
variable {f:aW}
theorem zO(h:aj f=true):mh (aD f.ps):=by
 simp only[aj,Bool.and_eq_true]at h
 refine LA ?_ h.2
 intro e
 have:=h.1.2
 rw[e]at this
 simp[fS]at this
theorem iw.Ya{ok:Nat->Prop}:∀{d q:Nat} {fs:List FV} {x:Bx},iw ok w d q fs x->(∀v∈fs,aj v.f=true)->mh x
 |0,_,_,_,⟨v,e,ex,_⟩,hv=>by subst e ex;exact zO (hv v (by simp))
 |d+1,_,_,_,⟨_,_,_,_,_,ks,ts,_,hne,_,_,_,hl,ht,hf,hx⟩,hv=>by
  subst hf hx
  refine y8 (λk hk=>?_) hne
  obtain⟨i,hi,rfl⟩:=List.mem_iff_getElem.1 hk
  have E7:i<ts.length:=by omega
  exact iw.Ya (ht i ks[i].1 ks[i].2 ts[i] (List.getElem?_eq_getElem hi) (List.getElem?_eq_getElem E7)) (λv h=>hv v (List.mem_flatten.2 ⟨ts[i],List.getElem_mem E7,h⟩))
variable {w1:World} {m:Nat}
theorem FO{B:Nat}{v:Value}{ks:Kids}(hm:ks.length=m+1)(hown:w1.ownsRow B 87 1 v (ptrs ks).length (ptrs ks)):
  ∃g c,v=.slice (some ⟨g,0,none⟩) (m+1) c/\m+1<=c/\B<=g/\g<w1.heap.size/\gG w1 g ks:=by
 have hl:(ptrs ks).length=m+1:=by simp[ptrs,hm]
 rw[hl]at hown
 obtain⟨g,c,rfl⟩:=ownsRow_succ hown
 have hlt:=hown.lt g rfl
 have hc:m+1<=c:=by
  rcases hown.2 with⟨h,_⟩|⟨g',c',cur,h,_,_,hle,_⟩
  ·cases h
  ·cases h;exact hle
 refine⟨g,c,rfl,hc,hlt.1,hlt.2,λi k e=>⟨?_,hown.frozenAt i⟩⟩
 have hi:i<ks.length:=(List.getElem?_eq_some_iff.1 e).1
 rw[hown.cellAt i (by omega)]
 simp[ptrs,e]
theorem Fq(g n cap:Nat)(ks:Kids)(w:World)(hg:g<w.heap.size)(hn:n=ks.length)(hn1:1<=n)(hn2:n<=5)(hcap:n<=cap)(hrow:gG w g ks)(hks:∀k∈ks,k.1<w.heap.size/\C4 w k.1 k.2)(hne:∀k∈ks,k.1≠g/\mh k.2):
  Calls prog 87 #[.slice (some ⟨g,0,none⟩) n cap] w (jN g ks w):=by
 by_cases h:n<=4
 ·exact Fu g n cap ks w hg hn hn1 h hcap hrow hks
 ·obtain rfl:n=5:=by omega
  exact Dc g cap ks w hg hn hcap hrow hks hne
theorem qV{ok:Nat->Prop}(w w0 W:World)(v:Value)(kt:KT)(d m:Nat)(hok:∀b,ok b->b<w.heap.size)(hm:kt.length=m+1)(hm2:m+1<=5)(h0:Below w.heap.size w w0)(hW:Below w0.heap.size w0 W)(hown:W.ownsRow w0.heap.size 87 1 v (ptrs (kt.map Prod.fst)).length (ptrs (kt.map Prod.fst)))
  (hT:∀k∈kt,iw (iM ok w.heap.size w0.heap.size) w0 d k.1.1 k.2 k.1.2) (hv:∀k∈kt,∀u∈k.2,aj u.f=true):
  ∃g c,v=.slice (some ⟨g,0,none⟩) (m+1) c/\Calls prog 87 #[.slice (some ⟨g,0,none⟩) (m+1) c] W (dA ok (d+1) (kt.map Prod.snd).flatten w):=by
 obtain⟨g,c,rfl,h1,h2,h3,h4⟩:=FO (ks:=kt.map Prod.fst) (by rw[List.length_map];exact hm) hown
 have hz0:=h0.size
 have hzW:=hW.size
 have hlt:∀b,iM ok w.heap.size w0.heap.size b->b<w0.heap.size:=λb hb=>hb.elim (λh=>Nat.lt_of_lt_of_le (hok b h) hz0) (λh=>h.2)
 refine⟨g,c,rfl,(Fq g (m+1) c (kt.map Prod.fst) W h3 (by rw[List.length_map];exact hm.symm) (by omega) hm2 h1 h4 ?_ ?_).mono λe w' hP=>Cs (by omega) h3 (h0.trans (hW.mono hz0)) ?_ hP⟩
 ·intro k hk
  obtain⟨x,hx,rfl⟩:=List.mem_map.1 hk
  have:=hlt _ (hT x hx).lt
  exact⟨by omega,(hT x hx).c4.below hW this⟩
 ·intro k hk
  obtain⟨x,hx,rfl⟩:=List.mem_map.1 hk
  have:=hlt _ (hT x hx).lt
  exact⟨by omega,(hT x hx).Ya (hv x hx)⟩
 ·intro k hk
  exact((hT k hk).same (Same.of_below hW hlt)).mono (λb hb=>⟨hb.elim .inl (λh=> .inr ⟨h.1,by omega⟩),by have:=hlt b hb;omega⟩)
theorem Kk(ok:Nat->Prop)(q ql:Nat)(fs:List FV)(x:Bx)(v:FV)(w:World)(hT:iw ok w 1 q fs x)(hok:∀b,ok b->b<w.heap.size)(hl:iw ok w 0 ql [v] (aD v.f.ps))(hval:∀u∈fs,aj u.f=true)(hv:aj v.f=true):
  Calls prog 55 #[.pointer (some ⟨q,0,none⟩),.pointer (some ⟨ql,0,none⟩)] w (dA ok 1 (fs++[v]) w):=by
 obtain⟨hq,hc,kb,ko,cap,ks,ts,h4,hne,hle,hcap,yZ,hlen,hkt,hf,hx⟩:=hT
 obtain⟨n,hn⟩:∃n,n=ks.length:=⟨_,rfl⟩
 have hn1:1<=n:=by
  rw[hn];exact List.length_pos_iff.2 hne
 rw[<-hn]at h4 hle hcap hlen
 have VC:=hok _ hq
 have hkb:=hok _ yZ.1
 have EX:=λ(i:Nat) p y (e:ks[i]? =some (p,y))=>(yZ.2 i p y e).1
 obtain⟨⟨q0,x0⟩,OC⟩:∃k,ks[0]? =some k:=⟨ks[0]'(by omega),List.getElem?_eq_getElem _⟩
 obtain⟨t0,S3⟩:∃t,ts[0]? =some t:=⟨ts[0]'(by omega),List.getElem?_eq_getElem _⟩
 obtain⟨v0,_,_,YD⟩:=hkt 0 q0 x0 t0 OC S3
 have OE:w.cell? ⟨kb,ko,none⟩=some (.pointer (some ⟨q0,0,none⟩)):=EX 0 q0 x0 OC
 have wB:=hok _ YD.lt
 have hnil:=YD.kids
 have Rs:=hok _ hl.lt
 have HK:=af EX
 have Hn:=af hn
 obtain⟨kt,CA⟩:∃kt:KT,kt=List.zip ks ts++[((ql,aD v.f.ps),[v])]:=⟨_,rfl⟩
 have e1:kt.map Prod.fst=ks++[(ql,aD v.f.ps)]:=by rw[CA,List.map_append,List.map_fst_zip (by omega)];rfl
 have e2:(kt.map Prod.snd).flatten=fs++[v]:=by rw[CA,List.map_append,List.map_snd_zip (by omega),List.flatten_append,<-hf];simp
 have hmem:∀k∈kt,iw ok w 0 k.1.1 k.2 k.1.2/\∀u∈k.2,aj u.f=true:=by
  intro k hk
  rw[CA,List.mem_append]at hk
  rcases hk with hk|hk
  ·obtain⟨i,hi,rfl⟩:=List.mem_iff_getElem.1 hk
   have hi':i<ks.length/\i<ts.length:=by simpa[List.length_zip,Nat.lt_min]using hi
   rw[List.getElem_zip]
   refine⟨hkt i _ _ _ (List.getElem?_eq_getElem hi'.1) (List.getElem?_eq_getElem hi'.2),λu hu=>hval u ?_⟩
   rw[hf];exact List.mem_flatten.2 ⟨_,List.getElem_mem hi'.2,hu⟩
  ·simp at hk
   subst hk
   exact⟨hl,λu hu=>by simp at hu;subst hu;exact hv⟩
 have uK:kt.length=n+1:=by
  have:=congrArg List.length e1
  rw[List.length_map,List.length_append,<-hn]at this
  exact this
 have HP:Hid (∀(w0 W:World) (vv:Value),Below w.heap.size w w0->Below w0.heap.size w0 W->W.ownsRow w0.heap.size 87 1 vv (ptrs (ks++[(ql,aD v.f.ps)])).length (ptrs (ks++[(ql,aD v.f.ps)]))->∃g c,vv=.slice (some ⟨g,0,none⟩) (n+1) c/\Calls prog 87 #[.slice (some ⟨g,0,none⟩) (n+1) c] W (dA ok 1 (fs++[v]) w)):=λw0 W vv h0 hW hown=>by
  rw[<-e1]at hown
  rw[<-e2]
  exact qV w w0 W vv kt 0 n hok uK (by omega) h0 hW hown (λk hk=>((hmem k hk).1.same (Same.of_below h0 hok)).mono (λb hb=> .inl hb)) (λk hk=>(hmem k hk).2)
 clear hmem e1 e2 CA uK hkt yZ OC S3 YD hl hval hv EX hn hf hx hc hne hlen
 have hnn:=Gv
 have h0n:(0:Int)<(n:Int):=by omega
 go_enter func55,ntmps55
 go_wp2_with fail
 have ym:bM [⟨kb,ko,cap,ptrs ks⟩,⟨w.heap.size,0,1,[.pointer (some ⟨ql,0,none⟩)]⟩] 2=ptrs (ks++[(ql,aD v.f.ps)]):=by simp[bM,ptrs]
 have hlen:(ptrs (ks++[(ql,aD v.f.ps)])).length=n+1:=by simp[ptrs,<-Hn.out]
 have hB0:∀o1 o2:Obj,Below w.heap.size w ((w.alloc o1).alloc o2):=λo1 o2=>aU.alloc (by simp) _
 refine(uW (w.heap.size+1) 0 2 2 [⟨kb,ko,cap,ptrs ks⟩,⟨w.heap.size,0,1,[.pointer (some ⟨ql,0,none⟩)]⟩] _ (Tp (by simp) (by simp[go_sem,<-Hn.out]) (by simp[go_sem]) (by simp;omega) (by simp;omega) (λi q x e=>((hB0 _ _).cell (p:=⟨kb,ko+i,none⟩) hkb).trans (HK.out i q x e)) (by simp[go_sem])) rfl (by omega) (by show 1<=(bM _ 2).length;rw[ym,hlen];omega) (by show(bM _ 2).length<=1000;rw[ym,hlen];omega) (by show∀u∈bM _ 2,_;rw[ym];exact lZ _)).mono ?_
 rintro e w1 ⟨vv,rfl,hown,hb1⟩
 replace hown:w1.ownsRow _ 87 1 vv (bM [⟨kb,ko,cap,ptrs ks⟩,⟨w.heap.size,0,1,[.pointer (some ⟨ql,0,none⟩)]⟩] 2).length (bM [⟨kb,ko,cap,ptrs ks⟩,⟨w.heap.size,0,1,[.pointer (some ⟨ql,0,none⟩)]⟩] 2):=hown
 rw[ym]at hown
 obtain⟨g,c,rfl,GD⟩:=HP.out _ w1 vv (hB0 _ _) hb1 hown
 have HC:Hid _:=GD
 clear GD hown HP ym hlen
 go_wp2_with (go_at_call 87;refine aq HC.out ?_;intro e w2 hpost;obtain⟨s,m,ps,qd,rfl,qK⟩:=hpost)
 go_ret
 exact⟨s,m,ps,qd,rfl,qK⟩
variable {N q:Nat}
theorem VQ{A B:World}(hb:Below N A B)(hq:q<N)(hm:m<N){x v0 v1 v2 v3:Value}
  (s:A.cell? ⟨q,4,none⟩=some x/\A.cell? ⟨m,0,none⟩=some v0/\A.cell? ⟨m,1,none⟩=some v1/\A.cell? ⟨m,2,none⟩=some v2/\A.cell? ⟨m,3,none⟩=some v3):
  B.cell? ⟨q,4,none⟩=some x/\B.cell? ⟨m,0,none⟩=some v0/\B.cell? ⟨m,1,none⟩=some v1/\B.cell? ⟨m,2,none⟩=some v2/\B.cell? ⟨m,3,none⟩=some v3:=by
 obtain⟨hc,_⟩:=eF hb
 obtain⟨a0,a1,a2,a3,a4⟩:=s
 exact⟨(hc _ _ hq).trans a0,(hc _ _ hm).trans a1,(hc _ _ hm).trans a2,(hc _ _ hm).trans a3,(hc _ _ hm).trans a4⟩
variable {o:Nat}
theorem VP{A B:World}(hb:Below N A B)(hq:q<N)(hm:m<N){x v0:Value}
  (s:A.cell? ⟨q,4,none⟩=some x/\A.cell? ⟨m,o,none⟩=some v0):
  B.cell? ⟨q,4,none⟩=some x/\B.cell? ⟨m,o,none⟩=some v0:=by
 obtain⟨hc,_⟩:=eF hb
 exact⟨(hc _ _ hq).trans s.1,(hc _ _ hm).trans s.2⟩
def vF(ok:Nat->Prop)(d:Nat)(fs:List FV)(w:World)(s m:Nat)(w':World):Prop:=
 ∃(ps:Kids) (qd:List (List FV)),(m=1\/m=2)/\ps.length=m/\qd.length=m/\w.heap.size<=s/\(∀(i:Nat) p,ps[i]? =some p->w'.cell? ⟨s,i,none⟩=some (.pointer (some ⟨p.1,0,none⟩)))/\(∀(i:Nat) p y t,ps[i]? =some (p,y)->qd[i]? =some t->iw (iM ok w.heap.size w'.heap.size) w' d p t y)/\qd.flatten.Perm fs
theorem dA.split{ok:Nat->Prop}{d:Nat}{fs:List FV}{e:Ending}(h:dA ok d fs w e w'):∃s m:Nat,e=.returned (.slice (some ⟨s,0,none⟩) m m)/\Hid (vF ok d fs w s m w')/\s<w'.heap.size/\Below w.heap.size w w':=by
 obtain⟨s,m,ps,qd,h1,h2,h3,h4,h5,h6,h7,h8,h9,h10⟩:=h
 exact⟨s,m,h1,⟨ps,qd,h2,h3,h4,h5,h7,h8,h9⟩,h6,h10⟩
theorem Jt{ok:Nat->Prop}{d q:Nat}{fs:List FV}{x:Bx}(h:iw ok w (d+1) q fs x):ok q/\∃kb ko n cap,w.cell? ⟨q,4,none⟩=some (.slice (some ⟨kb,ko,none⟩) n cap):=by
 obtain⟨h1,_,kb,ko,cap,ks,_,h4,_⟩:=h
 exact⟨h1,kb,ko,_,cap,h4⟩
def Gi(d:Nat):Prop:=∀(ok:Nat->Prop) (q ql:Nat) (fs:List FV) (x:Bx) (v:FV) (w:World),iw ok w (d+1) q fs x->(∀b,ok b->b<w.heap.size)->iw ok w 0 ql [v] (aD v.f.ps)->(∀u∈fs,aj u.f=true)->aj v.f=true->
 Calls prog 55 #[.pointer (some ⟨q,0,none⟩),.pointer (some ⟨ql,0,none⟩)] w (dA ok (d+1) (fs++[v]) w)
theorem dA.perm{ok:Nat->Prop}{d:Nat}{fs fs':List FV}{e:Ending}(h:dA ok d fs w e w')(hp:fs.Perm fs'):dA ok d fs' w e w':=by
 obtain⟨s,m,ps,qd,h1,h2,h3,h4,h5,h6,h7,h8,h9,h10⟩:=h
 exact⟨s,m,ps,qd,h1,h2,h3,h4,h5,h6,h7,h8,h9.trans hp,h10⟩
theorem nE{l:List α}{r:List β}{k:α×β}(h:k∈List.zip l r):∃i:Nat,l[i]? =some k.1/\r[i]? =some k.2:=by
 obtain⟨i,hi,rfl⟩:=List.mem_iff_getElem.1 h
 have hi':i<l.length/\i<r.length:=by simpa[List.length_zip,Nat.lt_min]using hi
 rw[List.getElem_zip]
 exact⟨i,List.getElem?_eq_getElem hi'.1,List.getElem?_eq_getElem hi'.2⟩
theorem Nq{a b c t u:List α}(h:b.Perm (t++u)):(a++b++c).Perm (a++t++c++u):=by
 refine((h.append_left a).append_right c).trans ?_
 rw[<-List.append_assoc,List.append_assoc (a++t) u c,List.append_assoc (a++t) c u]
 exact(List.perm_append_comm (l₁:=u) (l₂:=c)).append_left (a++t)
variable {i:Nat}
theorem Cn{ts:List (List α)}{t:List α}(h:ts[i]? =some t):(ts.take i).flatten++t++(ts.drop (i+1)).flatten=ts.flatten:=by
 have hi:i<ts.length:=(List.getElem?_eq_some_iff.1 h).1
 have ht:ts[i]=t:=(List.getElem?_eq_some_iff.1 h).2
 conv=>rhs;rw[<-List.take_append_drop i ts,List.drop_eq_getElem_cons hi,ht]
 simp
theorem DK(d:Nat)(ok:Nat->Prop)(kb ko cap n i s m:Nat)(ks:Kids)(ts:List (List FV))(fs ti:List FV)(v:FV)(w w1 w2:World)(hok:∀b,ok b->b<w.heap.size)(yZ:mR ok w kb ko ks)(hn:n=ks.length)(hlen:ts.length=n)(hle:n<=4)(hcap:n<=cap)(hi:i<n)
  (hkt:∀(i:Nat) p y t,ks[i]? =some (p,y)->ts[i]? =some t->iw ok w (d+1) p t y) (E7:ts[i]? =some ti) (hf:fs=ts.flatten) (hval:∀u∈fs,aj u.f=true) (hv:aj v.f=true)
  (hB1:Below w.heap.size w w1) (hb2:Below w1.heap.size w1 w2) (hs2:s<w2.heap.size) (hR:vF ok (d+1) (ti++[v]) w1 s m w2):
  Calls prog 88 #[.slice (some ⟨w2.heap.size,0,none⟩) 3 3] (w2.alloc (.cells #[.slice (some ⟨kb,ko,none⟩) i cap,.slice (some ⟨s,0,none⟩) m m,.slice (if cap=i+1 then some ⟨kb,ko,none⟩else some ⟨kb,ko+(i+1),none⟩) (n-(i+1)) (cap-(i+1))] 143)) λe w'=>
   ∃g c M:Nat,e=.returned (.slice (some ⟨g,0,none⟩) M c)/\Hid (Calls prog 87 #[.slice (some ⟨g,0,none⟩) M c] w' (dA ok (d+2) (fs++[v]) w))/\Below w.heap.size w w':=by
 obtain⟨ps,qd,hm,hps,P5,hs1,hrow,SG,hperm⟩:=hR
 have hB2:Below w.heap.size w w2:=hB1.trans (hb2.mono hB1.size)
 have hz1:=hB1.size
 have hz2:=hb2.size
 have hkb:=hok _ yZ.1
 generalize hO:Obj.cells #[.slice (some ⟨kb,ko,none⟩) i cap,.slice (some ⟨s,0,none⟩) m m,.slice (if cap=i+1 then some ⟨kb,ko,none⟩else some ⟨kb,ko+(i+1),none⟩) (n-(i+1)) (cap-(i+1))] 143=O
 have hA:Below w2.heap.size w2 (w2.alloc O):=aU
 have gZ:Below w.heap.size w (w2.alloc O):=hB2.trans (hA.mono hB2.size)
 obtain⟨o3,ud⟩:∃o3,o3=if cap=i+1 then ko else ko+(i+1):=⟨_,rfl⟩
 have hif:(if cap=i+1 then some (⟨kb,ko,none⟩:Addr)else some ⟨kb,ko+(i+1),none⟩)=some ⟨kb,o3,none⟩:=by
  rw[ud];split<;>rfl
 have ym:bM [⟨kb,ko,cap,ptrs (ks.take i)⟩,⟨s,0,m,ptrs ps⟩,⟨kb,o3,cap-(i+1),ptrs (ks.drop (i+1))⟩] 3=ptrs (ks.take i++ps++ks.drop (i+1)):=by simp[bM,ptrs]
 have hl1:(ptrs (ks.take i)).length=i:=by rw[ptrs,List.length_map,List.length_take];omega
 have hl2:(ptrs ps).length=m:=by rw[ptrs,List.length_map,hps]
 have hl3:(ptrs (ks.drop (i+1))).length=n-(i+1):=by rw[ptrs,List.length_map,List.length_drop,<-hn]
 have hP:nZ (w2.alloc O).heap.size (w2.alloc O) w2.heap.size 0 [⟨kb,ko,cap,ptrs (ks.take i)⟩,⟨s,0,m,ptrs ps⟩,⟨kb,o3,cap-(i+1),ptrs (ks.drop (i+1))⟩]:=by
  refine⟨by simp,λj p e=>?_⟩
  match j,e with
  |0,e=>
   simp at e;subst e
   refine⟨by rw[hl1,<-hO];simp[go_sem],by show kb<_;simp;omega,λj u hj=>?_⟩
   obtain⟨q,x,hq,rfl⟩:=qZ hj
   exact(gZ.cell (p:=⟨kb,ko+j,none⟩) hkb).trans (yZ.2 j q x (getD_take hq)).1
  |1,e=>
   simp at e;subst e
   refine⟨by rw[hl2,<-hO];simp[go_sem],by show s<_;simp;omega,λj u hj=>?_⟩
   obtain⟨q,x,hq,rfl⟩:=qZ hj
   rw[Nat.zero_add]
   exact(hA.cell (p:=⟨s,j,none⟩) hs2).trans (hrow j _ hq)
  |2,e=>
   simp at e;subst e
   refine⟨by rw[hl3,<-hO,hif];simp[go_sem],by show kb<_;simp;omega,λj u hj=>?_⟩
   obtain⟨q,x,hq,rfl⟩:=qZ hj
   have hq':=ou hq
   have hjl:i+1+j<ks.length:=(List.getElem?_eq_some_iff.1 hq').1
   have h3:o3=ko+(i+1):=by rw[ud,if_neg (by omega)]
   have:=(gZ.cell (p:=⟨kb,ko+(i+1+j),none⟩) hkb).trans (yZ.2 _ q x hq').1
   show(w2.alloc O).cell? ⟨kb,o3+j,none⟩=_
   rw[h3,Nat.add_assoc]
   exact this
  |j+3,e=>simp at e
 obtain⟨kt,CA⟩:∃kt:KT,kt=List.zip (ks.take i) (ts.take i)++List.zip ps qd++List.zip (ks.drop (i+1)) (ts.drop (i+1)):=⟨_,rfl⟩
 have z1:(ks.take i).length=(ts.take i).length:=by rw[List.length_take,List.length_take];omega
 have z3:(ks.drop (i+1)).length=(ts.drop (i+1)).length:=by rw[List.length_drop,List.length_drop];omega
 have e1:kt.map Prod.fst=ks.take i++ps++ks.drop (i+1):=by
  rw[CA,List.map_append,List.map_append,List.map_fst_zip (by omega),List.map_fst_zip (by omega),List.map_fst_zip (by omega)]
 have e2:(kt.map Prod.snd).flatten=(ts.take i).flatten++qd.flatten++(ts.drop (i+1)).flatten:=by
  rw[CA,List.map_append,List.map_append,List.map_snd_zip (by omega),List.map_snd_zip (by omega),List.map_snd_zip (by omega),List.flatten_append,List.flatten_append]
 have hpm:(kt.map Prod.snd).flatten.Perm (fs++[v]):=by
  rw[e2,hf,<-Cn E7]
  exact Nq hperm
 have uK:kt.length=(n+m-2)+1:=by
  have:=congrArg List.length e1
  rw[List.length_map,List.length_append,List.length_append,List.length_take,List.length_drop,hps,<-hn]at this
  omega
 have Zl:∀b,iM ok w1.heap.size w2.heap.size b->iM ok w.heap.size (w2.alloc O).heap.size b:=λb hb=>hb.elim .inl (λh=> .inr ⟨by omega,by simp;omega⟩)
 have hold:∀(j:Nat) (k:(Nat×Bx)×List FV),ks[j]? =some k.1->ts[j]? =some k.2->iw (iM ok w.heap.size (w2.alloc O).heap.size) (w2.alloc O) (d+1) k.1.1 k.2 k.1.2/\∀u∈k.2,aj u.f=true:=λj k h1 h2=>
  ⟨((hkt j _ _ _ h1 h2).same (Same.of_below gZ hok)).mono (λb hb=> .inl hb),λu hu=>hval u (by rw[hf];exact List.mem_flatten.2 ⟨k.2,List.mem_of_getElem? h2,hu⟩)⟩
 have hmem:∀k∈kt,iw (iM ok w.heap.size (w2.alloc O).heap.size) (w2.alloc O) (d+1) k.1.1 k.2 k.1.2/\∀u∈k.2,aj u.f=true:=by
  intro k hk
  rw[CA,List.mem_append,List.mem_append]at hk
  rcases hk with(hk|hk)|hk
  ·obtain⟨j,h1,h2⟩:=nE hk
   refine hold j k (getD_take h1) ?_
   rw[List.getElem?_take]at h2
   split at h2
   ·exact h2
   ·cases h2
  ·obtain⟨j,h1,h2⟩:=nE hk
   refine⟨((SG j k.1.1 k.1.2 k.2 h1 h2).same (Same.of_below hA (λb hb=>hb.elim (λh=>Nat.lt_of_lt_of_le (hok b h) (by omega)) (λh=>h.2)))).mono Zl,λu hu=>?_⟩
   have hmm:u∈qd.flatten:=List.mem_flatten.2 ⟨k.2,List.mem_of_getElem? h2,hu⟩
   rw[hperm.mem_iff,List.mem_append]at hmm
   rcases hmm with hmm|hmm
   ·exact hval u (by rw[hf];exact List.mem_flatten.2 ⟨ti,List.mem_of_getElem? E7,hmm⟩)
   ·simp at hmm;subst hmm;exact hv
  ·obtain⟨j,h1,h2⟩:=nE hk
   refine hold (i+1+j) k (ou h1) ?_
   rw[List.getElem?_drop]at h2
   exact h2
 have hpl:(ptrs (ks.take i++ps++ks.drop (i+1))).length=(n+m-2)+1:=by rw[ptrs,List.length_map,<-e1,List.length_map,uK]
 refine(uW w2.heap.size 0 3 3 _ _ hP rfl (by decide) (by show 1<=(bM _ 3).length;rw[ym,hpl];omega) (by show(bM _ 3).length<=1000;rw[ym,hpl];omega) (by show∀u∈bM _ 3,_;rw[ym];exact lZ _)).mono ?_
 rintro e w4 ⟨vv,rfl,hown,hb4⟩
 replace hown:w4.ownsRow (w2.alloc O).heap.size 87 1 vv (bM [⟨kb,ko,cap,ptrs (ks.take i)⟩,⟨s,0,m,ptrs ps⟩,⟨kb,o3,cap-(i+1),ptrs (ks.drop (i+1))⟩] 3).length (bM [⟨kb,ko,cap,ptrs (ks.take i)⟩,⟨s,0,m,ptrs ps⟩,⟨kb,o3,cap-(i+1),ptrs (ks.drop (i+1))⟩] 3):=hown
 rw[ym,<-e1]at hown
 obtain⟨g,c,rfl,GD⟩:=qV w (w2.alloc O) w4 vv kt (d+1) (n+m-2) hok uK (by omega) gZ hb4 hown (λk hk=>(hmem k hk).1) (λk hk=>(hmem k hk).2)
 exact⟨g,c,_,rfl,GD.mono (λe w' h=>h.perm hpm),gZ.trans (hb4.mono gZ.size)⟩
theorem F3(d:Nat)(IH:Gi d)(ok:Nat->Prop)(q ql:Nat)(fs:List FV)(x:Bx)(v:FV)(w:World)(hT:iw ok w (d+2) q fs x)(hok:∀b,ok b->b<w.heap.size)(hl:iw ok w 0 ql [v] (aD v.f.ps))(hval:∀u∈fs,aj u.f=true)(hv:aj v.f=true):
  Calls prog 55 #[.pointer (some ⟨q,0,none⟩),.pointer (some ⟨ql,0,none⟩)] w (dA ok (d+2) (fs++[v]) w):=by
 obtain⟨hq,hc,kb,ko,cap,ks,ts,h4,hne,hle,hcap,yZ,hlen,hkt,hf,hx⟩:=hT
 obtain⟨n,hn⟩:∃n,n=ks.length:=⟨_,rfl⟩
 have hn1:1<=n:=by
  rw[hn];exact List.length_pos_iff.2 hne
 rw[<-hn]at h4 hle hcap hlen
 have VC:=hok _ hq
 have hkb:=hok _ yZ.1
 obtain⟨⟨q0,x0⟩,OC⟩:∃k,ks[0]? =some k:=⟨ks[0]'(by omega),List.getElem?_eq_getElem _⟩
 obtain⟨t0,S3⟩:∃t,ts[0]? =some t:=⟨ts[0]'(by omega),List.getElem?_eq_getElem _⟩
 obtain⟨wB,kb0,ko0,n0,Ye,h40⟩:=Jt (hkt 0 q0 x0 t0 OC S3)
 have OE:w.cell? ⟨kb,ko,none⟩=some (.pointer (some ⟨q0,0,none⟩)):=(yZ.2 0 q0 x0 OC).1
 have aaS:=hok _ wB
 have Rs:=hok _ hl.lt
 obtain⟨b0,b1,b2,b3⟩:=hl.c4
 have Jl:=zO hv
 have HG:Hid (∀W:World,Below w.heap.size w W->Calls prog 89 #[.slice (some ⟨kb,ko,none⟩) n cap,.agg #[.int .i64 (aD v.f.ps).l,.int .i64 (aD v.f.ps).t,.int .i64 (aD v.f.ps).r,.int .i64 (aD v.f.ps).b]] W λe w'=>(∃i:Nat,i<n/\e=.returned (.int .i64 (i:Int)))/\Below W.heap.size W w'):=λW hW=>
  uf kb ko n cap ks (aD v.f.ps) W (((yZ.at hok).below hW).mono hW.size) hn hn1 (by omega) (λk hk=>by
   obtain⟨i,hi,rfl⟩:=List.mem_iff_getElem.1 hk
   have E7:i<ts.length:=by omega
   exact(hkt i ks[i].1 ks[i].2 ts[i] (List.getElem?_eq_getElem hi) (List.getElem?_eq_getElem E7)).Ya (λu hu=>hval u (by rw[hf];exact List.mem_flatten.2 ⟨ts[i],List.getElem_mem E7,hu⟩))) Jl
 have XF:=af hkt
 have TE:=af yZ
 have Hn:Hid (n=ks.length/\ts.length=n):=⟨hn,hlen⟩
 have Hf:=af hf
 have z_:Hid ((∀u∈fs,aj u.f=true)/\aj v.f=true):=⟨hval,hv⟩
 have Hl:=af hl
 have Ia:=af hok
 have WD:=af IH
 clear hn hlen hf hval hv hl hkt yZ hok OC S3 hc hx hne Jl IH
 have hnn:=vV
 have h0n:(0:Int)<(n:Int):=by omega
 have aat:0<n:=by omega
 go_enter func55,ntmps55
 go_upto_region 3 with fail
 go_region_held3 (λw'=>w'.cell? ⟨q,4,none⟩=some (.slice (some ⟨kb,ko,none⟩) n cap)/\w'.cell? ⟨ql,0,none⟩=some (.int .i64 (aD v.f.ps).l)/\w'.cell? ⟨ql,1,none⟩=some (.int .i64 (aD v.f.ps).t)/\w'.cell? ⟨ql,2,none⟩=some (.int .i64 (aD v.f.ps).r)/\w'.cell? ⟨ql,3,none⟩=some (.int .i64 (aD v.f.ps).b)) (first|exact s2|(simp[go_sem, *];done))
  (first
  |(go_at_call 89;refine aq (HG.out _ bK.drew) ?_;rintro e w1 ⟨⟨i,hi,rfl⟩,hb1⟩;have s2:=VQ (q:=q) (m:=ql) hb1 VC Rs (by assumption)))
 have hB1:Below w.heap.size w w1:=bK.drew.trans hb1
 have hz1:=hB1.size
 have g4:=s2.1
 have H4:=af h4
 clear s2 b0 b1 b2 b3 OE h40 HG h4 hb1
 obtain⟨⟨qi,xi⟩,WZ⟩:∃k,ks[i]? =some k:=⟨ks[i]'(by rw[<-Hn.out.1];exact hi),List.getElem?_eq_getElem _⟩
 obtain⟨ti,E7⟩:∃t,ts[i]? =some t:=⟨ts[i]'(by rw[Hn.out.2];exact hi),List.getElem?_eq_getElem _⟩
 have hpi:w1.cell? ⟨kb,ko+i,none⟩=some (.pointer (some ⟨qi,0,none⟩)):=(hB1.cell (p:=⟨kb,ko+i,none⟩) hkb).trans (TE.out.2 i qi xi WZ).1
 have Hei:Hid (ks[i]? =some (qi,xi)/\ts[i]? =some ti):=⟨WZ,E7⟩
 have HR:Hid (∀W:World,Below w1.heap.size w1 W->Calls prog 55 #[.pointer (some ⟨qi,0,none⟩),.pointer (some ⟨ql,0,none⟩)] W (dA ok (d+1) (ti++[v]) W)):=λW hW=>by
  have TV:Below w.heap.size w W:=hB1.trans (hW.mono hz1)
  have hsame:=Same.of_below TV Ia.out
  exact WD.out ok qi ql ti xi v W ((XF.out i qi xi ti WZ E7).same hsame) (λb hb=>Nat.lt_of_lt_of_le (Ia.out b hb) TV.size) (Hl.out.same hsame) (λu hu=>z_.out.1 u (by rw[Hf.out];exact List.mem_flatten.2 ⟨ti,List.mem_of_getElem? E7,hu⟩)) z_.out.2
 clear WZ E7
 have xU:(i:Int)<(n:Int):=by omega
 have hic:(i:Int)<=(cap:Int):=by omega
 have aaF:i<=cap:=by omega
 have hi1:(i:Int)+1<=(n:Int):=by omega
 have hin:i+1<=n:=by omega
 have hk2:((i:Int)+1).toNat=i+1:=by omega
 have hk5:(0:Int)<=(i:Int):=by omega
 have Jh:(0:Int)<=(i:Int)+1:=by omega
 have hk8:IntKind.i64.wrap ((i:Int)+1)=(i:Int)+1:=by rw[IntKind.wrap_i64];omega
 go_upto_region 4 with fail
 have HS:Hid (∀W:World,Below w.heap.size w W->W.cell? ⟨q,4,none⟩=some (.slice (some ⟨kb,ko,none⟩) n cap)/\W.cell? ⟨kb,ko+i,none⟩=some (.pointer (some ⟨qi,0,none⟩))):=λW hW=>VP hW VC hkb ⟨H4.out,(TE.out.2 i qi xi Hei.out.1).1⟩
 have Xz:Hid (∀(s m:Nat) (w2:World),Below w1.drew.heap.size w1.drew w2->s<w2.heap.size->vF ok (d+1) (ti++[v]) w1.drew s m w2->Calls prog 88 #[.slice (some ⟨w2.heap.size,0,none⟩) 3 3] (w2.alloc (.cells #[.slice (some ⟨kb,ko,none⟩) i cap,.slice (some ⟨s,0,none⟩) m m,.slice (if cap=i+1 then some ⟨kb,ko,none⟩else some ⟨kb,ko+(i+1),none⟩) (n-(i+1)) (cap-(i+1))] 143)) λe w'=>
   ∃g c M:Nat,e=.returned (.slice (some ⟨g,0,none⟩) M c)/\Hid (Calls prog 87 #[.slice (some ⟨g,0,none⟩) M c] w' (dA ok (d+2) (fs++[v]) w))/\Below w.heap.size w w'):=λs m w2 hb2 hs2 hR=>
  DK d ok kb ko cap n i s m ks ts fs ti v w w1.drew w2 Ia.out TE.out Hn.out.1 Hn.out.2 hle hcap hi XF.out Hei.out.2 Hf.out z_.out.1 z_.out.2 hB1.drew hb2 hs2 hR
 have xR:Below w.heap.size w w1.drew:=hB1.drew
 clear XF TE Hn Hf z_ Hl Ia WD
 go_region_held3 (λw'=>w'.cell? ⟨q,4,none⟩=some (.slice (some ⟨kb,ko,none⟩) n cap)/\w'.cell? ⟨kb,ko+i,none⟩=some (.pointer (some ⟨qi,0,none⟩))) (first|exact HS.out _ Oz|exact HS.out _ Ct|exact HS.out _ (hB2.alloc hB2.size _)|exact HS.out _ hB2|exact HS.out _ xR|(simp[go_sem, *];done))
  (first
  |(go_at_call 55;refine aq (HR.out _ bK.drew) ?_;intro e w2 hpost;obtain⟨s,m,rfl,XS,hs2,hb2⟩:=hpost.split;clear hpost;dsimp only;have hB2:Below w.heap.size w w2:=xR.trans (hb2.mono (by simp;omega)))
  |(go_at_call 88;refine aq (Xz.out _ _ _ hb2 hs2 XS.out) ?_;rintro e w4 ⟨g,c,M,rfl,HP,Ct⟩;dsimp only)
  |(go_at_call 87;refine aq HP.out ?_;intro e w5 hpost;have HWP:=af hpost;obtain⟨s',m',he,HW5,hs5,Oz⟩:=hpost.split;clear hpost;subst he;dsimp only))
 go_wp2
 all_goals
  go_ret
  exact HWP.out
theorem DJ:∀d,Gi d
 |0=>λok q ql fs x v w hT hok hl hval hv=>Kk ok q ql fs x v w hT hok hl hval hv
 |d+1=>λok q ql fs x v w hT hok hl hval hv=>F3 d (DJ d) ok q ql fs x v w hT hok hl hval hv
end
end Go.Proofs.YtenaepdmlknlcaaGreatDoor
