import Derived.Test.YtenaepdmlknlcaaGreatDoorG07
import Derived.Test.YtenaepdmlknlcaaGreatDoorG11
open Go.Proofs.Tryz
set_option maxRecDepth 100000
set_option maxHeartbeats 8000000
namespace Go.Proofs.YtenaepdmlknlcaaGreatDoor
section
open Go.RowKit Go.Shelf
variable {b:Nat} {w:World}
theorem Ju(W:World)(s:Wd)(hF:Fr (ig b) w W)(h:bI W b s):
  Calls prog 214 #[.pointer (some ⟨b,0,none⟩)] W λe w'=>e=.returned (.int .i64 s.kind.1)/\bI w' b s.kind.2/\Fr (ig b) w w':=
 (MZ b s W h).mono λ_ _ ⟨he,hw,hf⟩=>⟨he,hw,hF.trans hf⟩
theorem Wd.pY{s:Wd}(h:s.short):s.kind.2.short:=by
 unfold Wd.kind
 split
 ·exact(Wd.dO h).2
 ·exact(Wd.dO h).2
def Wd.four(s:Wd):Wd:=s.number.2.kind.2.number.2.number.2
def sliceLen:Option Value->Nat|some (.slice _ n _)=>n|_=>0
variable {M:Nat->Nat->Prop} {base size n:Nat} {e:TypeId} {xs:List Value}
theorem l6{A B:World}(h:Fr M A B){v:Value}(o:A.ownsRow base e size v n xs)(hm:∀k i,base<=k->¬M k i):B.ownsRow base e size v n xs:=by
 obtain⟨h1,h2⟩:=o
 refine⟨h1,h2.imp id ?_⟩
 rintro⟨g,cap,cur,e1,e2,e3,e4⟩
 exact⟨g,cap,cur,e1,e2,(h.block g (Array.getElem?_eq_some_iff.1 e3).1 (λi=>hm g i e2)).trans e3,e4⟩
theorem dc{v:Value}(o:w.ownsRow base e size v (n+1) xs):∃g cap:Nat,v=.slice (some ⟨g,0,none⟩) (n+1) cap/\base<=g/\n+1<=cap:=by
 rcases o.2 with⟨_,h⟩|⟨g,cap,cur,h1,h2,_,h4,_⟩
 ·omega
 ·exact⟨g,cap,h1,h2,h4⟩
def ju:dS->List Value
 |[]=>[]
 |p::ps=> .int .i64 p.1::.int .i64 p.2::ju ps
theorem qF(a b:dS):ju (a++b)=ju a++ju b:=by
 induction a with
 |nil=>rfl
 |cons p a ih=>simp only[List.cons_append,ju,ih]
theorem yV(ps:dS)(k:Nat)(x y:Int)(h:ps[k]? =some (x,y)):(ju ps)[k*2]? =some (.int .i64 x)/\(ju ps)[k*2+1]? =some (.int .i64 y):=by
 induction ps generalizing k with
 |nil=>simp at h
 |cons p ps ih=>
  cases k with
  |zero=>simp at h;subst h;exact⟨rfl,rfl⟩
  |succ k=>
   have:=ih k (by simpa using h)
   rw[show(k+1)*2=k*2+1+1 by omega]
   simpa[ju]using this
variable {v0 v1 v2 v3 v4:Value}
theorem Q5.fr{A B:World}(h:Fr M A B)(q:Q5 A b v0 v1 v2 v3 v4)(hm:∀i,¬M b i):Q5 B b v0 v1 v2 v3 v4:=
 have hb:b<A.heap.size:=dz A ⟨b,0,none⟩ q.c0
 ⟨(h.cell b 0 hb (hm _)).trans q.c0,(h.cell b 1 hb (hm _)).trans q.c1,(h.cell b 2 hb (hm _)).trans q.c2,(h.cell b 3 hb (hm _)).trans q.c3,(h.cell b 4 hb (hm _)).trans q.c4,(h.frozen b 0 hb (hm _)).trans q.f0,(h.frozen b 1 hb (hm _)).trans q.f1,(h.frozen b 2 hb (hm _)).trans q.f2,(h.frozen b 3 hb (hm _)).trans q.f3,(h.frozen b 4 hb (hm _)).trans q.f4⟩
theorem GQ:(prog.info? 29).map (λi=>(i.zero,i.size,i.bytes))=some (some (.agg #[.int .i64 0,.int .i64 0]),2,16):=by kernel_rfl
structure BI(b F:Nat)(w4:World)(i0 i1 i2 i3:Int)(L:List ByteArray)(wg:Bool)(k:Nat)(pv:Value)(wr:World):Prop where
 kl:k<=L.length
 wd:bI wr b ⟨L.drop k,wg||!((L.take k).all kO)⟩
 q:Q5 wr F (.int .i64 i0) (.int .i64 i1) (.int .i64 i2) (.int .i64 i3) pv
 own:wr.ownsRow (F+1) 29 2 pv k (ju ((L.take k).map fV))
 fr:Fr (ig b) w4 wr
theorem bI.len{s:Wd}(h:bI w b s):sliceLen (w.cell? ⟨b,0,none⟩)=s.left.length:=by
 obtain⟨⟨sb,off,cap,e0,_⟩,_⟩:=h
 rw[e0];rfl
variable {w4 wr w5 w3:World} {i0 i1 i2 i3:Int} {wg:Bool} {k:Nat}
theorem BI.step{b F:Nat}{L:List ByteArray}{pv v:Value}{x:ByteArray}(h:BI b F w4 i0 i1 i2 i3 L wg k pv wr)(hk:k<L.length)(htk:L.take (k+1)=L.take k++[x])(hF:w4.heap.size=F)(YR:b<F)
  (S8:bI w5 b ⟨L.drop (k+1),wg||!((L.take (k+1)).all kO)⟩) (jx:Fr (ig b) wr w5) (gZ:Below (F+1) w5 w3) (own:w3.ownsRow (F+1) 29 2 v (k+1) (ju ((L.take k).map fV)++[.int .i64 (fV x).1,.int .i64 (fV x).2])):
  BI b F w4 i0 i1 i2 i3 L wg (k+1) v (w3.setCell ⟨F,4,none⟩ v)/\sliceLen ((w3.setCell ⟨F,4,none⟩ v).cell? ⟨b,0,none⟩)<sliceLen (wr.cell? ⟨b,0,none⟩):=by
 have hwd:bI (w3.setCell ⟨F,4,none⟩ v) b ⟨L.drop (k+1),wg||!((L.take (k+1)).all kO)⟩:=
  (S8.fr (Fr.sD gZ) (λc _ hc e=>by omega)).fr (jQ F w3 4 v) (λc _ hc e=>by have:c=F:=e;omega)
 refine⟨⟨hk,hwd,?_,?_,?_⟩,?_⟩
 ·obtain⟨c0,c1,c2,c3,c4,f0,f1,f2,f3,f4⟩:=(h.q.fr jx (λi e=>by have:F=b:=e;omega)).below gZ (Nat.lt_succ_self F)
  exact⟨(aK _ _ (.inr (by decide))).trans c0,(aK _ _ (.inr (by decide))).trans c1,(aK _ _ (.inr (by decide))).trans c2,(aK _ _ (.inr (by decide))).trans c3,cell_eq c4 _,by rw[World.frozen?_setCell];exact f0,by rw[World.frozen?_setCell];exact f1,by rw[World.frozen?_setCell];exact f2,by rw[World.frozen?_setCell];exact f3,by rw[World.frozen?_setCell];exact f4⟩
 ·rw[htk,List.map_append,qF]
  exact l6 (jQ F w3 4 v) own (λc _ hc e=>by have:c=F:=e;omega)
 ·exact((h.fr.trans jx).aC (Fr.sD gZ) (λc _ hc e=>by omega)).aC (jQ F w3 4 v) (λc _ hc e=>by have:c=F:=e;omega)
 ·rw[hwd.len,h.wd.len]
  simp only[List.length_drop]
  omega
theorem Lp(g j:Nat):(⟨g,0,none⟩:Addr).add j=⟨g,j,none⟩:=by
 simp[Addr.add]
 exact λh=>h.symm
variable {pv:Value}
theorem BI.done{b F:Nat}{L:List ByteArray}(h:BI b F w4 i0 i1 i2 i3 L wg k pv wr)(hk:¬k<L.length):
  ∃(a:Option Addr) (cap:Nat),pv=.slice a L.length cap/\L.length<=cap/\bV wr.heap.size wr a (L.map fV)/\∀g o,a=some ⟨g,o,none⟩->F+1<=g/\o=0:=by
 have hk':k=L.length:=by have:=h.kl;omega
 subst hk'
 have own:=h.own
 rw[List.take_length]at own
 have hown:=own
 rcases own.2 with⟨h1,h2⟩|⟨g,cap,cur,h1,h2,h3,h4,_⟩
 ·refine⟨none,0,by rw[h2];exact h1,by omega,.inl ?_,λg o e=>by cases e⟩
  rw[List.length_eq_zero_iff.1 h2];rfl
 ·subst h1
  refine⟨some ⟨g,0,none⟩,cap,rfl,h4,.inr ⟨g,0,rfl,(Array.getElem?_eq_some_iff.1 h3).1,λk x y e=>?_⟩,λg' o e=>by cases e;exact⟨h2,rfl⟩⟩
  have hc:=hown.cells (g:=g) rfl
  obtain⟨e1,e2⟩:=yV _ k x y e
  have r1:=hc _ _ e1
  have r2:=hc _ _ e2
  rw[Lp]at r1 r2
  rw[Nat.zero_add]
  exact⟨r1,r2⟩
theorem bV.fr{A B:World}(h:Fr M A B){a:Option Addr}{ps:dS}(hp:bV A.heap.size A a ps)(hm:∀g o i,a=some ⟨g,o,none⟩->¬M g i):bV B.heap.size B a ps:=
 hp.elim .inl λ⟨b,off,e,p⟩=> .inr ⟨b,off,e,Nat.lt_of_lt_of_le p.1 h.size,λk x y ek=>⟨(h.cell b _ p.1 (hm b off _ e)).trans (p.2 k x y ek).1,(h.cell b _ p.1 (hm b off _ e)).trans (p.2 k x y ek).2⟩⟩
theorem FT(w:World)(b:Nat)(u0 u1 u2 u3 u4:Value):Fr (ig b) w (uo w b u0 u1 u2 u3 u4):=
 ((((jQ b w 0 u0).setCell (b:=b) (i:=1) (.inl rfl) u1).setCell (b:=b) (i:=2) (.inl rfl) u2).setCell (b:=b) (i:=3) (.inl rfl) u3).setCell (b:=b) (i:=4) (.inl rfl) u4
def uY(b:Nat)(st:Wd)(w:World)(e:Ending)(w':World):Prop:=
 ∃(a:Option Addr) (n cap:Nat),e=.returned (.agg #[.int .i64 st.number.1,.int .i64 st.number.2.kind.1,.int .i64 st.number.2.kind.2.number.1,.int .i64 st.number.2.kind.2.number.2.number.1,.slice a n cap])/\
  n=st.four.left.length/\n<=cap/\bV w'.heap.size w' a (st.four.left.map fV)/\(∀g o,a=some ⟨g,o,none⟩->w.heap.size<=g/\o=0)/\
  bI w' b ⟨[],(st.four.wrong||!(st.four.left.all kO))||!(aj ⟨st.number.1,st.number.2.kind.1,st.number.2.kind.2.number.1,st.number.2.kind.2.number.2.number.1,st.four.left.map fV⟩)⟩/\Fr (ig b) w w'
theorem Wd.FU{s:Wd}(h:s.short):s.four.short:=Wd.dh (Wd.dh (Wd.pY (Wd.dh h)))
theorem Wd.nH(s:Wd):s.next.2.left.length<=s.left.length:=by
 obtain⟨l,q⟩:=s
 cases l with
 |nil=>exact aM
 |cons x xs=>exact Nat.le_succ _
theorem Wd.zb(s:Wd):s.kind.2.left=s.next.2.left:=by unfold Wd.kind;split<;>rfl
theorem Wd.Cr(s:Wd):s.four.left.length<=s.left.length:=by
 have h1:=Wd.nH s
 have h2:=Wd.nH s.number.2
 have h3:=Wd.nH s.number.2.kind.2
 have h4:=Wd.nH s.number.2.kind.2.number.2
 have e1:s.number.2.left=s.next.2.left:=rfl
 have e2:=Wd.zb s.number.2
 have e3:s.number.2.kind.2.number.2.left=s.number.2.kind.2.next.2.left:=rfl
 have e4:s.four.left=s.number.2.kind.2.number.2.next.2.left:=rfl
 rw[e4];rw[e1]at h2;rw[e2]at h3;rw[e3]at h4
 omega
theorem Cg(b:Nat)(st:Wd)(hs:st.short)(hlen:st.left.length<=1000)(w:World)(g:Gl w)(hb:8<=b)(h:bI w b st):
  Calls prog 199 #[.pointer (some ⟨b,0,none⟩)] w (uY b st w):=by
 have HL:Hid (b<w.heap.size):=h.lt
 have HB:Hid (¬w.heap.size=b):=λe=>by have:=h.lt;omega
 have HW:Hid (bI (w.alloc (.cells #[.int .i64 0,.int .i64 0,.int .i64 0,.int .i64 0,.slice none 0 0] 32)) b st):=h.alloc _
 have HG:Hid (Gl (w.alloc (.cells #[.int .i64 0,.int .i64 0,.int .i64 0,.int .i64 0,.slice none 0 0] 32))):=g.below aU g.sz
 have HQ:Hid (Q5 (w.alloc (.cells #[.int .i64 0,.int .i64 0,.int .i64 0,.int .i64 0,.slice none 0 0] 32)) w.heap.size (.int .i64 0) (.int .i64 0) (.int .i64 0) (.int .i64 0) (.slice none 0 0)):=Q5.new _ _ _ _ _ _ _
 have HS:Hid st.short:=hs
 have H9:=af hlen
 clear g h hs hlen
 go_enter func199,ntmps199
 go_wp2_with (first
  |(go_at_call 212;refine(gH HG.out hb _ _ (Wd.dh (Wd.pY (Wd.dh HS.out))) hf3 hw3).mono ?_;rintro e w4 ⟨rfl,hw4,yY⟩;dsimp only)
  |(go_at_call 212;refine(gH HG.out hb _ _ (Wd.pY (Wd.dh HS.out)) hf2 hw2).mono ?_;rintro e w3 ⟨rfl,hw3,hf3⟩;dsimp only)
  |(go_at_call 214;refine(Ju _ _ iL hw1).mono ?_;rintro e w2 ⟨rfl,hw2,hf2⟩;dsimp only)
  |(go_at_call 212;refine(gH HG.out hb _ _ HS.out (Fr.refl _ _) HW.out).mono ?_;rintro e w1 ⟨rfl,hw1,iL⟩;dsimp only))
 have HW4:Hid (bI w4 b st.four):=hw4
 have rH:Hid _:=yY
 have aaw:b<w4.heap.size:=hw4.lt
 have HP:Hid (uY b st w=uY b st w):=rfl
 obtain⟨i0,eH⟩:∃i,st.number.1=i:=⟨_,rfl⟩
 obtain⟨i1,hi1⟩:∃i,st.number.2.kind.1=i:=⟨_,rfl⟩
 obtain⟨i2,hi2⟩:∃i,st.number.2.kind.2.number.1=i:=⟨_,rfl⟩
 obtain⟨i3,W6⟩:∃i,st.number.2.kind.2.number.2.number.1=i:=⟨_,rfl⟩
 have HI:Hid (st.number.1=i0/\st.number.2.kind.1=i1/\st.number.2.kind.2.number.1=i2/\st.number.2.kind.2.number.2.number.1=i3):=⟨eH,hi1,hi2,W6⟩
 rw[eH,hi1,hi2,W6]
 clear eH hi1 hi2 W6 hw1 hw2 hw3 hw4 iL hf2 hf3 yY
 obtain⟨L,hL⟩:∃L,st.four.left=L:=⟨_,rfl⟩
 obtain⟨wg,VM⟩:∃q,st.four.wrong=q:=⟨_,rfl⟩
 have RG:Hid (st.four=⟨L,wg⟩):=by show st.four=_;rw[<-hL,<-VM]
 clear hL VM
 obtain⟨F,hF⟩:∃F,w4.heap.size=F:=⟨_,rfl⟩
 have XD:=af hF
 have YR:b<F:=by omega
 rw[hF]
 go_loopw [] (λwr=>∃(k:Nat) (pv:Value),Hid (BI b F w4 i0 i1 i2 i3 L wg k pv wr)) (λwr=>sliceLen (wr.cell? ⟨b,0,none⟩))
 case atStart=>
  refine⟨0,.slice none 0 0,⟨Nat.zero_le _,?_,?_,World.ownsRow_nil _ _ _ _,(Fr.refl _ _).alloc _⟩⟩
  ·have h:=HW4.out.alloc (.cells #[.int .i64 i0,.int .i64 i1,.int .i64 i2,.int .i64 i3,.slice none 0 0] 32)
   rw[RG.out]at h
   simpa using h
  ·have h:=Q5.new w4 (.int .i64 i0) (.int .i64 i1) (.int .i64 i2) (.int .i64 i3) (.slice none 0 0) 32
   rwa[XD.out]at h
 case round=>
  obtain⟨k,pv,Gb⟩:=hrel
  have YA:F<wr.heap.size:=dz wr ⟨F,4,none⟩ Gb.out.q.c4
  have q4:wr.cell? ⟨F,4,none⟩=some pv:=Gb.out.q.c4
  have V3:wr.frozen? ⟨F,4,none⟩=false:=Gb.out.q.f4
  by_cases hk:k<L.length
  ·obtain⟨x,hx⟩:∃x,L[k]? =some x:=⟨L[k],List.getElem?_eq_getElem hk⟩
   have hd:L.drop k=x::L.drop (k+1):=by
    rw[List.drop_eq_getElem_cons hk]
    rw[List.getElem?_eq_getElem hk]at hx
    cases hx;rfl
   have htk:L.take (k+1)=L.take k++[x]:=by rw[List.take_add_one,hx];rfl
   have hwd:=Gb.out.wd
   obtain⟨q,hq⟩:∃q,(wg||!((L.take k).all kO))=q:=⟨_,rfl⟩
   have hq':(q||!kO x)=(wg||!((L.take (k+1)).all kO)):=by
    rw[<-hq,htk,List.all_append]
    simp only[List.all_cons,List.all_nil,Bool.and_true]
    cases wg<;>cases(L.take k).all kO<;>cases kO x<;>rfl
   rw[hq,hd]at hwd
   have hsh:(⟨x::L.drop (k+1),q⟩:Wd).short:=λy hy=>by
    have h4:=Wd.FU HS.out
    rw[RG.out]at h4
    exact h4 y (List.mem_of_mem_drop (i:=k) (by rw[hd];exact hy))
   have HPc:Hid (∀W,Below wr.heap.size wr W->Calls prog 215 #[.pointer (some ⟨b,0,none⟩)] W λe w'=>e=.returned (.agg #[.int .i64 (fV x).1,.int .i64 (fV x).2])/\Hid (bI w' b ⟨L.drop (k+1),wg||!((L.take (k+1)).all kO)⟩)/\Fr (ig b) wr w'):=λW hW=>by
    rw[<-hq']
    exact(JO b ⟨x::L.drop (k+1),q⟩ hsh W (((HG.out.Ni rH.out hb).Ni Gb.out.fr hb).below hW ((HG.out.Ni rH.out hb).Ni Gb.out.fr hb).sz) hb (hwd.below hW aM)).mono λ_ _ ⟨he,h1,h2⟩=>⟨he,h1,(Fr.of_below hW).trans h2⟩
   obtain⟨⟨sb,off,cap,e0,_⟩,_⟩:=hwd
   simp only[List.length_cons]at e0
   obtain⟨m,hm⟩:∃m,(L.drop (k+1)).length=m:=⟨_,rfl⟩
   rw[hm]at e0
   have Hm:=af hm
   have Hx:Hid (L[k]? =some x/\L.take (k+1)=L.take k++[x]):=⟨hx,htk⟩
   obtain⟨i29,Mu,hz0,hz1,hz2⟩:=info_parts GQ
   have zX:Hid (prog.info? 29=some i29/\i29.zero=some (.agg #[.int .i64 0,.int .i64 0])/\i29.size=2/\i29.bytes=16):=⟨Mu,hz0,hz1,hz2⟩
   clear Mu hz0 hz1 hz2 hm hx htk hd hsh hq hq'
   have hk3:k<1000:=by
    have h1:=Wd.Cr st
    rw[RG.out]at h1
    have h2:=H9.out
    dsimp only at h1
    omega
   go_upto_region 3 with fail
   go_region_law (first
    |(go_simp;go_at_call 215;refine aq (HPc.out _ (by first|exact bK.drew|exact bK)) ?_;rintro e w5 ⟨rfl,S8,jx⟩;dsimp only;have s5:w5.cell? ⟨F,4,none⟩=some pv:=(jx.cell F 4 YA (λe=>(by have:F=b:=e;omega))).trans q4;have hz5:F<w5.heap.size:=Nat.lt_of_lt_of_le YA jx.size;have Kr:Hid (w5.ownsRow (F+1) 29 2 pv k (ju ((L.take k).map fV))):=l6 jx Gb.out.own (λc _ hc e=>(by have:c=b:=e;omega)))
    |(refine jo rfl (.tmp 20) (.tmp 23) 30 rfl (F+1) 29 i29 (.agg #[.int .i64 0,.int .i64 0]) 2 16 underlying30 zX.out.1 zX.out.2.1 zX.out.2.2.1 zX.out.2.2.2 rfl (by decide) pv k (ju ((L.take k).map fV)) rfl (Kr.out.alloc _) ⟨w5.heap.size,0,none⟩ 1 1 [.int .i64 (fV x).1,.int .i64 (fV x).2] rfl rfl (λj u hj=>by
        rw[addr_add]
        match j,hj with
        |0,hj=>simp at hj;subst hj;simp[go_sem]
        |1,hj=>simp at hj;subst hj;simp[go_sem]
        |j+2,hj=>simp at hj) (λu hu=>by simp at hu;rcases hu with hu|hu<;>(subst hu;rfl)) (by unfold maxLen;omega) (by omega) (by simp;omega) ?_;intro v3 w3 bp iH;obtain⟨g3,c3,rfl,hg3,hc3⟩:=dc bp;have kj:=af bp;have gZ:Below (F+1) w5 w3:=((bK.alloc (by omega) _).grown iH (by simp;omega) (λk hk=>((Kr.out.lt k hk).1)));have s3:w3.cell? ⟨F,4,none⟩=some pv:=(gZ.cell (p:=⟨F,4,none⟩) (Nat.lt_succ_self F)).trans s5;have fz3:w3.frozen? ⟨F,4,none⟩=false:=(gZ.frozen (p:=⟨F,4,none⟩) (Nat.lt_succ_self F)).trans ((jx.frozen F 4 YA (λe=>(by have:F=b:=e;omega))).trans V3);clear bp iH))
   all_goals
    go_wp2
    exact⟨⟨k+1,_,(BI.step Gb.out hk Hx.out.2 XD.out YR S8.out jx gZ kj.out).1⟩,(BI.step Gb.out hk Hx.out.2 XD.out YR S8.out jx gZ kj.out).2⟩
  ·obtain⟨a,cap,rfl,hcap,yq,hg⟩:=Gb.out.done hk
   have hwd:=Gb.out.wd
   have uK:k=L.length:=by have:=Gb.out.kl;omega
   rw[uK,List.drop_length,List.take_length]at hwd
   obtain⟨n,hn⟩:∃n,L.length=n:=⟨_,rfl⟩
   have Hn:=af hn
   rw[hn]at q4 hcap
   have TZ:n<=1000:=by
    have h1:=Wd.Cr st
    rw[RG.out]at h1
    have h2:=H9.out
    dsimp only at h1
    omega
   have HWd:=af hwd
   have Kn:Hid (bV wr.heap.size wr a (L.map fV)/\∀g o,a=some ⟨g,o,none⟩->F+1<=g/\o=0):=⟨yq,hg⟩
   have hQ:=Gb.out.q
   have HQr:Hid (Q5 wr F (.int .i64 i0) (.int .i64 i1) (.int .i64 i2) (.int .i64 i3) (.slice a n cap)):=by
    show Q5 wr F _ _ _ _ _
    rw[hn]at hQ
    exact hQ
   obtain⟨⟨sb,off,cp,e0,_⟩,_⟩:=hwd
   simp only[List.length_nil]at e0
   clear yq hg uK hQ hn hk
   obtain⟨q0,q1,q2,q3,_,_,_,_,_,_⟩:=HQr.out
   have QX:Hid (∀W,Below wr.heap.size wr W->Calls prog 52 #[.agg #[.int .i64 i0,.int .i64 i1,.int .i64 i2,.int .i64 i3,.slice a n cap]] W λe w'=>e=.returned (.bool (aj ⟨i0,i1,i2,i3,L.map fV⟩))/\Below W.heap.size W w'):=λW hW=>
    xZ i0 i1 i2 i3 a n cap (L.map fV) W ((Kn.out.1.fr (M:=λ_ _=>False) (Fr.of_below hW) (λ_ _ _ _ e=>e))) (by rw[List.length_map];exact Hn.out.symm) (by omega)
   go_wp2_with (first
    |(go_at_call 52;refine aq (QX.out _ (by first|exact bK|exact bK.drew)) ?_;rintro e w6 ⟨rfl,jC⟩;dsimp only)
    |(go_at_call 213;refine(iD b _ _ _ (HWd.out.below jC aM)).mono ?_;rintro e w7 ⟨rfl,hw7,TW⟩;dsimp only;have Yy:Fr (ig b) wr w7:=(Fr.of_below jC).trans TW;obtain⟨p0,p1,p2,p3,p4,_,_,_,_,_⟩:=HQr.out.fr Yy (λi e=>(by have:F=b:=e;omega));have hF8:=(rH.out.trans Gb.out.fr).trans Yy;obtain⟨r0,r1,r2,r3,r4,g0,g1,g2,g3,g4⟩:=HQ.out.fr hF8 (λi e=>HB.out e)))
   have Vq:=HL.out
   refine bodyPost_ret (v:=.agg #[.int .i64 i0,.int .i64 i1,.int .i64 i2,.int .i64 i3,.slice a n cap]) (by simp[results,results199,go_sem,r0,r1,r2,r3,r4]) rfl ?_
   refine⟨a,n,cap,?_,?_,hcap,?_,?_,?_,?_⟩
   ·rw[HI.out.1,HI.out.2.1,HI.out.2.2.1,HI.out.2.2.2]
   ·rw[RG.out];exact Hn.out.symm
   ·rw[RG.out]
    refine(Kn.out.1.fr Yy (λg o i e hm=>?_)).fr (FT w7 w.heap.size _ _ _ _ _) (λg o i e hm=>?_)
    ·have:g=b:=hm
     have:=(Kn.out.2 g o e).1
     omega
    ·have:g=w.heap.size:=hm
     have h1:=(Kn.out.2 g o e).1
     have h2:=rH.out.size
     rw[World.size_alloc]at h2
     omega
   ·intro g o e
    have h1:=Kn.out.2 g o e
    have h2:=rH.out.size
    rw[World.size_alloc]at h2
    exact⟨by omega,h1.2⟩
   ·rw[RG.out,HI.out.1,HI.out.2.1,HI.out.2.2.1,HI.out.2.2.2]
    exact hw7.fr (FT w7 w.heap.size _ _ _ _ _) (λc _ hc e=>by have:c=w.heap.size:=e;omega)
   ·exact(((Fr.refl _ w).alloc _).trans hF8).aC (FT w7 w.heap.size _ _ _ _ _) (λc _ hc e=>by have:c=w.heap.size:=e;omega)
end
section
open Go.RowKit
def vQ(d:Nat):UInt8:=UInt8.ofNat (if d<10 then 48+d else 87+d)
def cD(b n:Nat):List UInt8:=if _h:n<b\/b<2 then[vQ n]else cD b (n/b)++[vQ (n%b)]
termination_by n
decreasing_by exact Nat.div_lt_self (by omega) (by omega)
def tV(b n:Nat):List UInt8:=if n=0 then[]else cD b n
variable {b n:Nat}
theorem IU(hb:2<=b)(hn:0<n):tV b n=tV b (n/b)++[vQ (n%b)]:=by
 rw[tV,if_neg (by omega),cD]
 by_cases h:n<b
 ·rw[dif_pos (.inl h),tV,Nat.div_eq_of_lt h,if_pos rfl,Nat.mod_eq_of_lt h];rfl
 ·rw[dif_neg (by omega),tV,if_neg (by have:=Nat.div_pos (by omega:b<=n) (by omega);omega)]
theorem IQ(hb:2<=b):cD b n=tV b (n/b)++[vQ (n%b)]:=by
 rw[cD]
 by_cases h:n<b
 ·rw[dif_pos (.inl h),tV,Nat.div_eq_of_lt h,if_pos rfl,Nat.mod_eq_of_lt h];rfl
 ·rw[dif_neg (by omega),tV,if_neg (by have:=Nat.div_pos (by omega:b<=n) (by omega);omega)]
abbrev Y3:ByteArray:=⟨#[48,49,50,51,52,53,54,55,56,57,97,98,99,100,101,102]⟩
theorem Mm(d:Nat)(hd:d<16):Y3.extract d (d+1)=⟨[vQ d].toArray⟩:=by
 match d,hd with
 |0,_=>rfl
 |1,_=>rfl
 |2,_=>rfl
 |3,_=>rfl
 |4,_=>rfl
 |5,_=>rfl
 |6,_=>rfl
 |7,_=>rfl
 |8,_=>rfl
 |9,_=>rfl
 |10,_=>rfl
 |11,_=>rfl
 |12,_=>rfl
 |13,_=>rfl
 |14,_=>rfl
 |15,_=>rfl
 |_+16,h=>omega
theorem vS(n b:Nat)(w:World)(hn:n<9223372036854775808)(hb:2<=b)(hb2:b<=16):
  Calls prog 108 #[.int .i64 (n:Int),.int .i64 (b:Int)] w λe w'=>e=.returned (.string ⟨(cD b n).toArray⟩)/\∃q,w'=w.drewN q:=by
 have hbz:(b:Int)≠0:=by omega
 have hr:n%b<16:=Nat.lt_of_lt_of_le (Nat.mod_lt _ (by omega)) hb2
 have hx:=Mm (n%b) hr
 have hd1:n/b<9223372036854775808:=Nat.lt_of_le_of_lt (Nat.div_le_self _ _) hn
 have hd2:n/b*2<=n:=Nat.le_trans (Nat.mul_le_mul_left _ hb) (Nat.div_mul_le_self n b)
 have HS:Hid (tV b (n/b)++[vQ (n%b)]=cD b n):=(IQ hb).symm
 go_enter func108,ntmps108
 go_wp2
 go_quiet (fail)
 go_wp2
 go_loopw [0,6] (λnv sv wr=>∃(m:Nat) (l:List UInt8) (q:Nat),nv=.int .i64 (m:Int)/\sv=.string ⟨l.toArray⟩/\wr=w.drewN q/\m*2^l.length<=n/\Hid (tV b m++l=cD b n)) (λnv _ _=>(intOf nv).toNat)
 case atStart=>exact⟨n/b,[vQ (n%b)],nq,by first|rfl|simp,by rw[<-hx],rfl,by simpa using hd2,HS⟩
 case round=>
  obtain⟨m,l,q,rfl,rfl,rfl,hl,HD⟩:=hrel
  by_cases h0:0<m
  ·have hml:m<9223372036854775808:=Nat.lt_of_le_of_lt (Nat.le_trans (Nat.le_mul_of_pos_right _ (Nat.two_pow_pos _)) hl) hn
   have hr':m%b<16:=Nat.lt_of_lt_of_le (Nat.mod_lt _ (by omega)) hb2
   have hx':=Mm (m%b) hr'
   have hlen:l.length<63:=by
    have h1:2^l.length<=n:=Nat.le_trans (Nat.le_mul_of_pos_left _ h0) hl
    exact(Nat.pow_lt_pow_iff_right (a:=2) (by decide)).1 (Nat.lt_of_le_of_lt h1 hn)
   have hl':m/b*2^(l.length+1)<=n:=by
    refine Nat.le_trans ?_ hl
    rw[Nat.pow_succ,Nat.mul_comm (2^l.length) 2,<-Nat.mul_assoc]
    exact Nat.mul_le_mul_right _ (Nat.le_trans (Nat.mul_le_mul_left _ hb) (Nat.div_mul_le_self m b))
   have TX:m/b<m:=Nat.div_lt_self h0 (by omega)
   have hd3:m/b<9223372036854775808:=by omega
   obtain⟨d,hd⟩:∃d:Nat,m/b=d:=⟨_,rfl⟩
   have hdi:(m:Int)/(b:Int)=(d:Int):=by rw[<-hd];rfl
   rw[hd]at hl' TX hd3
   have HD':Hid (tV b (m/b)++(vQ (m%b)::l)=cD b n):=by
    show tV b (m/b)++(vQ (m%b)::l)=cD b n
    rw[<-HD.out,IU hb h0,List.append_assoc];rfl
   have hadd:∀w':World,Sem.run prog (Op.stringOp .add ⟨[vQ (m%b)].toArray⟩ ⟨l.toArray⟩) w'=.ok (.string ⟨(vQ (m%b)::l).toArray⟩) w':=λw'=>
    run_string_add_lists w' [vQ (m%b)] l (by simp) (by omega)
   rw[hd]at HD'
   clear HS HD hx hd
   go_wp2
   go_quiet (fail)
   go_wp2
   go_roundw
   case rel=>exact⟨d,vQ (m%b)::l,q+nq,by first|rfl|simp,rfl,rfl,by simpa using hl',HD'⟩
   case measure=>simp[intOf];omega
  ·have HR:Hid (l=cD b n):=by
    show l=cD b n
    have:=HD.out
    rw[show m=0 by omega]at this
    exact this
   go_wp2
   go_ret
   exact⟨congrArg (λx:List UInt8=>Ending.returned (.string ⟨x.toArray⟩)) HR.out,q,rfl⟩
end
end Go.Proofs.YtenaepdmlknlcaaGreatDoor
