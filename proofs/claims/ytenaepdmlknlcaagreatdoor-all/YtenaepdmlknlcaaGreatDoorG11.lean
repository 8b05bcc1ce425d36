import Derived.Test.YtenaepdmlknlcaaGreatDoorG04
import Derived.Test.YtenaepdmlknlcaaGreatDoorG05
open Go.Proofs.Tryz
set_option maxRecDepth 100000
set_option maxHeartbeats 8000000
namespace Go.Proofs.YtenaepdmlknlcaaGreatDoor
section
open Go.RowKit
def yf(x:ByteArray):ByteArray:=⟨(Lib.cut x.data.toList [44]).1.toArray⟩
def yh(x:ByteArray):ByteArray:=⟨(Lib.cut x.data.toList [44]).2.1.toArray⟩
def fV(x:ByteArray):Int×Int:=(bL (yf x),bL (yh x))
def kO(x:ByteArray):Bool:=aO (yf x)&&aO (yh x)
theorem B_(x:ByteArray)(h:x.size<=1000):(yf x).size<=1000/\(yh x).size<=1000:=by
 have h':x.data.toList.length<=1000:=by rw[Array.length_toList];exact h
 unfold yf yh Lib.cut
 split
 ·simp only[ByteArray.size,List.size_toArray,List.length_take,List.length_drop]
  omega
 ·simp only[ByteArray.size,List.size_toArray,List.length_nil]
  omega
def Wd.place(s:Wd):(Int×Int)×Wd:=(fV s.next.1,s.next.2.check (kO s.next.1))
variable {b:Nat} {w:World}
theorem oZ(g:Gl w)(hb:8<=b)(W:World)(st:Wd)(s:ByteArray)(hs:s.size<=1000)(hF:Fr (ig b) w W)(h:bI W b st):
  Calls prog 231 #[.pointer (some ⟨b,0,none⟩),.string s] W λe w'=>e=.returned (.int .i64 (bL s))/\bI w' b (st.check (aO s))/\Fr (ig b) w w':=
 (qu b st s hs W (g.Ni hF hb) h).mono λ_ _ ⟨he,hw,hf⟩=>⟨he,hw,hF.trans hf⟩
theorem Sk(s:Wd)(a b:Bool):(s.check a).check b=s.check (a&&b):=by
 cases s with|mk l w=>simp only[Wd.check];cases w<;>cases a<;>cases b<;>rfl
structure K2(w:World)(b:Nat)(v0 v1:Value):Prop where
 c0:w.cell? ⟨b,0,none⟩=some v0
 c1:w.cell? ⟨b,1,none⟩=some v1
 f0:w.frozen? ⟨b,0,none⟩=false
 f1:w.frozen? ⟨b,1,none⟩=false
theorem K2.new(w:World)(v0 v1:Value)(t:TypeId):K2 (w.alloc (.cells #[v0,v1] t)) w.heap.size v0 v1:=by
 constructor<;>simp[go_sem]
variable {v0 v1:Value}
theorem K2.lt(k:K2 w b v0 v1):b<w.heap.size:=dz w ⟨b,0,none⟩ k.c0
variable {M:Nat->Nat->Prop}
theorem K2.fr{A B:World}(h:Fr M A B)(k:K2 A b v0 v1)(hm:∀i,¬M b i):K2 B b v0 v1:=
 ⟨(h.cell b 0 k.lt (hm _)).trans k.c0,(h.cell b 1 k.lt (hm _)).trans k.c1,(h.frozen b 0 k.lt (hm _)).trans k.f0,(h.frozen b 1 k.lt (hm _)).trans k.f1⟩
theorem V4(w:World)(b:Nat)(u0 u1:Value):Fr (ig b) w ((w.setCell ⟨b,0,none⟩ u0).setCell ⟨b,1,none⟩ u1):=
 (jQ b w 0 u0).setCell (b:=b) (i:=1) (.inl rfl) u1
theorem bI.drewN{s:Wd}(h:bI w b s)(n:Nat):bI (w.drewN n) b s:=h.below (below_drewN (Below.refl w.heap.size w) n) aM
theorem JO(b:Nat)(st:Wd)(hs:st.short)(w:World)(g:Gl w)(hb:8<=b)(h:bI w b st):
  Calls prog 215 #[.pointer (some ⟨b,0,none⟩)] w λe w'=>e=.returned (.agg #[.int .i64 st.place.1.1,.int .i64 st.place.1.2])/\bI w' b st.place.2/\Fr (ig b) w w':=by
 have HL:Hid (b<w.heap.size):=h.lt
 have HB:Hid (¬w.heap.size=b):=λe=>by have:=h.lt;omega
 have HW:Hid (bI (w.alloc (.cells #[.int .i64 0,.int .i64 0] 29)) b st):=h.alloc _
 have HG:Hid (Gl (w.alloc (.cells #[.int .i64 0,.int .i64 0] 29))):=g.below aU g.sz
 have HK:Hid (K2 (w.alloc (.cells #[.int .i64 0,.int .i64 0] 29)) w.heap.size (.int .i64 0) (.int .i64 0)):=K2.new _ _ _ _
 have HS:Hid (st.next.1.size<=1000):=(Wd.dO hs).1
 have HC:Hid (∀W:World,Gl W->Calls prog 232 #[.string st.next.1,.string ⟨#[44]⟩] W λe w'=>∃q:Bool,e=.returned (.tuple #[.string (yf st.next.1),.string (yh st.next.1),.bool q])/\Fr (ig b) W w'/\∃n,w'=W.drewN n):=λW gW=>by
  obtain⟨m,hm⟩:=gW.m1
  refine(Tryz.strings_Cut st.next.1 ⟨#[44]⟩ m W (Nat.lt_of_le_of_lt (Wd.dO hs).1 (by decide)) hm).mono ?_
  rintro e w' ⟨rfl,n,rfl⟩
  exact⟨_,rfl,(Fr.refl _ _).drewN n,n,rfl⟩
 clear g h hs
 go_enter func215,ntmps215
 go_wp2_with (first
  |(go_at_call 196;refine(iV b st _ HW.out).mono ?_;rintro e w1 ⟨rfl,hw1,iL⟩;dsimp only)
  |(go_at_call 232;refine aq (HC.out _ (HG.out.Ni iL hb)) ?_;rintro e w2 ⟨q,rfl,hf2,n,rfl⟩;dsimp only;have hw2:bI (w1.drewN n) b st.next.2:=hw1.drewN n;have hF2:=iL.trans hf2)
  |(go_at_call_of 231 (Value.string (yf st.next.1));refine(oZ HG.out hb _ _ _ (B_ _ HS.out).1 hF2 hw2).mono ?_;rintro e w3 ⟨rfl,hw3,hf3⟩;dsimp only)
  |(go_at_call_of 231 (Value.string (yh st.next.1));refine(oZ HG.out hb _ _ _ (B_ _ HS.out).2 hf3 hw3).mono ?_;rintro e w4 ⟨rfl,hw4,yY⟩;dsimp only;obtain⟨r0,r1,r2,r3⟩:=HK.out.fr yY (λ_ e=>HB.out e)))
 refine bodyPost_ret (v:=.agg #[.int .i64 _,.int .i64 _]) (by simp[results,results215,go_sem,r0,r1];exact⟨rfl,rfl⟩) rfl ⟨rfl,?_,?_⟩
 ·rw[Sk]at hw4
  exact hw4.fr (V4 w4 w.heap.size _ _) (λc _ hc e=>by have:c=w.heap.size:=e;have:=HL.out;omega)
 ·exact(((Fr.refl _ w).alloc _).trans yY).aC (V4 w4 w.heap.size _ _) (λc _ hc e=>by have:c=w.heap.size:=e;omega)
end
section
open Go.RowKit Go.Shelf
attribute [local go_sem] Oper.semAt_some
theorem Fy(x:Bx)(o:Option FV)(v:FV)(ho:∀u,o=some u->aj u.f=true)(hv:aj v.f=true):∀u,cR x o v=some u->aj u.f=true:=by
 intro u hu
 unfold cR at hu
 split at hu
 ·cases o with
  |none=>simp at hu;subst hu;exact hv
  |some z=>
   simp only at hu
   split at hu
   ·simp at hu;subst hu;exact hv
   ·exact ho u hu
 ·exact ho u hu
theorem EN(x:Bx)(vs:List FV):∀(o:Option FV),(∀u,o=some u->aj u.f=true)->(∀z∈vs,aj z.f=true)->∀u,vs.foldl (cR x) o=some u->aj u.f=true:=by
 induction vs with
 |nil=>intro o ho _ u hu;exact ho u hu
 |cons v r ih=>intro o ho hv u hu;exact ih (cR x o v) (Fy x o v ho (hv v (by simp))) (λz hz=>hv z (by simp[hz])) u hu
theorem zL(x:Bx)(vs:List FV)(h:∀z∈vs,aj z.f=true)(u:FV)(hu:aN x vs=some u):aj u.f=true:=EN x vs none (λ_ h=>by cases h) h u hu
theorem jS(B:Nat)(w:World)(b:Nat)(u0 u1 u2 u3 u4:Value):KeepsFrom B w (uo w b u0 u1 u2 u3 u4):=
 (((((KeepsOthers.setCell _ _ _).trans (KeepsOthers.setCell _ _ _)).trans (KeepsOthers.setCell _ _ _)).trans (KeepsOthers.setCell _ _ _)).trans (KeepsOthers.setCell _ _ _)).from B
theorem Ey(ok:Nat->Prop)(d q:Nat)(vs:List FV)(x y:Bx)(w:World)(hok:∀b,ok b->b<w.heap.size)(Ku:iw ok w d q vs y)(hg:∀v∈vs,Good ok w v)
  (h5:0<=x.l) (h6:0<=x.t) (h7:0<=x.r) (h8:0<=x.b) (g5:x.l<=1000) (g6:x.t<=1000) (g7:x.r<=1000) (g8:x.b<=1000):
  Calls prog 56 #[.agg #[.pointer (some ⟨q,0,none⟩)],.agg #[.int .i64 x.l,.int .i64 x.t,.int .i64 x.r,.int .i64 x.b]] w λe w'=>e=.returned (.int .i64 (j6 (aN x (vs.filter (eG x)))))/\Below w.heap.size w w':=by
 refine(callsIn_wide (n:=4)).1 ?_
 refine callsIn_of_wp_marks func56 rfl trivial ?_ rfl
 simp only[ntmps56,List.size_toArray,List.length_cons,List.length_nil,Nat.reduceAdd,Nat.reduceSub,Array.replicate_succ,Array.replicate_zero,List.push_toArray,List.append_toArray,List.nil_append,List.cons_append]
 gi_wp2_with (refine⟨trivial,?_⟩;gi_at_call 90;refine(callsIn_wide.2 (kq _ x _)).mono ?_;rintro e w' ⟨rfl,rfl⟩)
 have hB0:∀o1 o2 o3 o4 o5:Obj,Below w.heap.size w (((((w.alloc o1).alloc o2).alloc o3).alloc o4).alloc o5):=λo1 o2 o3 o4 o5=>(((aU.alloc (by simp) _).alloc (by simp<;>omega) _).alloc (by simp<;>omega) _).alloc (by simp<;>omega) _
 refine wpIn_rangeFunc_ownH (F:=Fence.wide) rfl (by omega) (gf:=125) (lb:=#[.pointer (some ⟨w.heap.size+1+1+1,0,none⟩),.pointer (some ⟨w.heap.size+1+1+1+1,0,none⟩)]) rfl trivial (enters_of func125 (by kernel_rfl) rfl)
  (o_ ok (Good ok w) (w.heap.size+1+1) (w.heap.size+3) _ d q (w.heap.size+1+1+1) (w.heap.size+1+1+1+1) vs x y _ (λb hb=>by have:=hok b hb;omega) (λb hb=>by have:=hok b hb;omega) (by omega) (by simp<;>omega) (by simp[go_sem]) ⟨by simp[go_sem],by simp[go_sem],by simp[go_sem],by simp[go_sem]⟩ (Ku.same (Same.of_below (hB0 _ _ _ _ _) hok)) hg)
  qN qM bK (λ_=>rfl)
  (λpre W=>(Q5 W (w.heap.size+1+1) (.int .i64 (tid (aN x (pre.map Subtype.val)))) (.int .i64 (Ub (aN x (pre.map Subtype.val)))) (.int .i64 (Ua (aN x (pre.map Subtype.val)))) (.int .i64 (j6 (aN x (pre.map Subtype.val)))) (Uc (aN x (pre.map Subtype.val)))/\C4 W (w.heap.size+1) x)/\Below w.heap.size w W)
  (λ_ _ _=>False)
  (OwnFrom.and (Own.from (λs A B row hs hg hr=>⟨hs.1.kept hg hr,hs.2.kept hg hr⟩) _) (ownFrom_below aM (by simp<;>omega)))
  (λ_ _ _ _ _ hs _ _=>hs)
  ⟨⟨?q5,⟨by simp[go_sem],by simp[go_sem],by simp[go_sem],by simp[go_sem]⟩⟩,hB0 _ _ _ _ _⟩
  (λv a' W=>∃Bv,w.heap.size+1+1<Bv/\Q5 W Bv (.int .i64 v.1.f.id) (.int .i64 v.1.f.kd) (.int .i64 v.1.f.ht) (.int .i64 v.1.f.col) (.slice (some ⟨v.1.pb,v.1.po,none⟩) v.1.f.ps.length v.1.cap)/\
   a'={tmps:=#[.agg #[.pointer (some ⟨q,0,none⟩)],.agg #[.int .i64 x.l,.int .i64 x.t,.int .i64 x.r,.int .i64 x.b],.pointer (some ⟨w.heap.size,0,none⟩),.pointer (some ⟨w.heap.size+1,0,none⟩),.int .i64 0,.pointer (some ⟨w.heap.size+1+1,0,none⟩),.pointer (some ⟨Bv,0,none⟩),.agg #[.pointer (some ⟨q,0,none⟩)],.agg #[.int .i64 x.l,.int .i64 x.t,.int .i64 x.r,.int .i64 x.b],.func (.func 125) #[] #[.pointer (some ⟨w.heap.size+1+1+1,0,none⟩),.pointer (some ⟨w.heap.size+1+1+1+1,0,none⟩)],.agg #[.int .i64 v.1.f.id,.int .i64 v.1.f.kd,.int .i64 v.1.f.ht,.int .i64 v.1.f.col,.slice (some ⟨v.1.pb,v.1.po,none⟩) v.1.f.ps.length v.1.cap],undef,undef,undef,undef,undef,undef,undef,undef,undef,undef,undef,undef,undef,undef,undef,undef],defers:=[]})
  (λv a' s A B row hs hg hr=>by obtain⟨Bv,h1,h2,h3⟩:=hs;exact⟨Bv,h1,h2.kept hg (λr e=>(hr r e).2),h3⟩)
  ?assign ?body ?done ?stop
 case q5=>constructor<;>simp[go_sem,aN,tid,Ub,Ua,j6,Uc]
 case assign=>
  rintro l pre v W K ⟨⟨mI,hc4⟩,hBW⟩ hK
  simp only[mX]
  gi_wp2
  refine hK _ _ ((KeepsOthers.alloc _ _).from _) (aS.of_below aU) ⟨⟨mI.below aU (aZ mI.c0),hc4.below aU (aZ hc4.c0)⟩,hBW.alloc hBW.size _⟩ ⟨W.heap.size,aZ mI.c0,Q5.new _ _ _ _ _ _ _,rfl⟩
 case body=>
  rintro l pre v a' W hl hr ⟨⟨mI,hc4⟩,hBW⟩ ⟨Bv,Yv,GK,rfl⟩ hlen
  have EW:=v.2
  obtain⟨hval,Kw,Vz,yq⟩:=EW
  have Bp:=af hBW
  have U1:=hok _ Kw
  have GH:∀W':World,Below W.heap.size W W'->cZ W'.heap.size W' v.1.pb v.1.po v.1.f.ps:=λW' hb=>⟨by have:=hBW.size;have:=hb.size;omega,λk a b e=>⟨((hBW.trans (hb.mono hBW.size)).cell (p:=⟨v.1.pb,v.1.po+k*2,none⟩) U1).trans (yq k a b e).1,((hBW.trans (hb.mono hBW.size)).cell (p:=⟨v.1.pb,v.1.po+k*2+1,none⟩) U1).trans (yq k a b e).2⟩⟩
  have Q6:=af GH
  have VL:=hval
  simp only[aj,Bool.and_eq_true]at VL
  obtain⟨⟨⟨⟨hid,_⟩,_⟩,hmay⟩,hall⟩:=VL
  have Vh:∀u:FV,aj u.f=true->¬u.f.id=0:=λu hu=>by
   simp only[aj,Bool.and_eq_true,fP,decide_eq_true_eq]at hu;omega
  have OZ:=af hmay
  have OO:=af hall
  clear GH yq hval Kw Vz hmay hall hid Ku hg
  have O7:Hid (aN x ((pre++[v]).map Subtype.val)=cR x (aN x (pre.map Subtype.val)) v.1):=by
   show aN x _=_
   simp[aN,List.foldl_append]
  have Htv:Hid (∀u,aN x (pre.map Subtype.val)=some u->aj u.f=true):=λu hu=>zL x (pre.map Subtype.val) (λz hz=>by
   obtain⟨y',_,rfl⟩:=List.mem_map.1 hz
   exact y'.2.1) u hu
  generalize hto:aN x (pre.map Subtype.val)=o at *
  clear hto
  obtain⟨⟨⟨id,kd,ht,col,ps⟩,pb,po,cap⟩,dQ⟩:=v
  dsimp only at *
  have hT:w.heap.size+1+1<W.heap.size:=aZ mI.c0
  have jw:Bv<W.heap.size:=aZ GK.c0
  have Zr:=mI
  have YU:=hc4
  have ZK:=GK
  obtain⟨c0,c1,c2,c3,c4,f0,f1,f2,f3,f4⟩:=Zr
  obtain⟨p0,p1,p2,p3⟩:=YU
  obtain⟨e0,e1,e2,e3,e4,_,_,_,_,_⟩:=ZK
  by_cases tZ:dB kd ps x.l x.t x.r x.b=true
  ·cases o with
   |none=>
    have RR:Hid (aN x ((pre++[(⟨⟨⟨id,kd,ht,col,ps⟩,pb,po,cap⟩,dQ⟩:{v:FV//Good ok w v})]).map Subtype.val)=some ⟨⟨id,kd,ht,col,ps⟩,pb,po,cap⟩):=by
     show aN x _=_
     rw[O7.out];simp[cR,tZ]
    simp only[tid,Ub,Ua,j6,Uc]at c0 c1 c2 c3 c4 mI
    gi_wp2_with (first|(refine⟨trivial,?_⟩;gi_at_call 91;refine(CallsIn.inRound l (callsIn_wide.2 (lJ id kd ht col pb po ps.length cap ps x.l x.t x.r x.b _ (Q6.out _ bK) rfl OZ.out OO.out h5 h6 h7 h8 g5 g6 g7 g8))).mono ?_;rintro e w2 ⟨rfl,hb2⟩;have k5:=mI.below hb2 hT;have m5:=GK.below hb2 jw;have hz2:=hb2.size;obtain⟨Xl,Xm,Xn,Xo,Xp,Xq,Xr,Xt,Xu,Xv⟩:=k5;obtain⟨mc0,mc1,mc2,mc3,mc4,_,_,_,_,_⟩:=m5)|(have _t:=hb2;refine⟨trivial,?_⟩))
    have iG:aN x ((pre++[(⟨⟨⟨id,kd,ht,col,ps⟩,pb,po,cap⟩,dQ⟩:{v:FV//Good ok w v})]).map Subtype.val)=some ⟨⟨id,kd,ht,col,ps⟩,pb,po,cap⟩:=RR.out
    refine⟨((KeepsFrom.of_grownBy (bC hb2) (λj e=>by cases e)).trans (jS _ _ _ _ _ _ _ _)),(aS.of_below hb2).trans (lW _ _ _ _ _ _),⟨⟨?_,(hc4.below hb2 (aZ hc4.c0)).below (fo (w.heap.size+1+1) _ _ aM _ _ _ _ _) (by omega)⟩,(Bp.out.trans (hb2.mono Bp.out.size)).trans (fo w.heap.size _ _ (by omega) _ _ _ _ _)⟩⟩
    rw[iG]
    exact(Q5.mk Xl Xm Xn Xo Xp Xq Xr Xt Xu Xv).set _ _ _ _ _
   |some u=>
    have hu0:(u.f.id==0)=false:=by simp[Vh u (Htv.out u rfl)]
    simp only[tid,Ub,Ua,j6,Uc]at c0 c1 c2 c3 c4 mI
    obtain⟨⟨uid,Xw,Ud,QM,ups⟩,upb,upo,Wb⟩:=u
    dsimp only at *
    by_cases hab:dU ht id Ud uid=true
    ·have RR:Hid (aN x ((pre++[(⟨⟨⟨id,kd,ht,col,ps⟩,pb,po,cap⟩,dQ⟩:{v:FV//Good ok w v})]).map Subtype.val)=some ⟨⟨id,kd,ht,col,ps⟩,pb,po,cap⟩):=by
      show aN x _=_
      rw[O7.out];simp[cR,tZ,hab]
     gi_wp2_with (first|(refine⟨trivial,?_⟩;gi_at_call 91;refine(CallsIn.inRound l (callsIn_wide.2 (lJ id kd ht col pb po ps.length cap ps x.l x.t x.r x.b _ (Q6.out _ bK) rfl OZ.out OO.out h5 h6 h7 h8 g5 g6 g7 g8))).mono ?_;rintro e w2 ⟨rfl,hb2⟩;have k5:=mI.below hb2 hT;have m5:=GK.below hb2 jw;have hz2:=hb2.size;obtain⟨Xl,Xm,Xn,Xo,Xp,Xq,Xr,Xt,Xu,Xv⟩:=k5;obtain⟨mc0,mc1,mc2,mc3,mc4,_,_,_,_,_⟩:=m5)|(refine⟨trivial,?_⟩;gi_at_call 92;refine(CallsIn.inRound l (callsIn_wide.2 (yH id kd ht col _ uid Xw Ud QM _ _ ⟨_,_,_,rfl⟩ ⟨_,_,_,rfl⟩))).mono ?_;rintro e w3 ⟨rfl,hb3⟩;have n5:=(Q5.mk Xl Xm Xn Xo Xp Xq Xr Xt Xu Xv).below hb3 (by omega);have m6:=(GK.below hb2 jw).below hb3 (by omega);have yl:=hb2.trans (hb3.mono hz2);obtain⟨nc0,nc1,nc2,nc3,nc4,nf0,nf1,nf2,nf3,nf4⟩:=n5;obtain⟨oc0,oc1,oc2,oc3,oc4,_,_,_,_,_⟩:=m6))
     have iG:aN x ((pre++[(⟨⟨⟨id,kd,ht,col,ps⟩,pb,po,cap⟩,dQ⟩:{v:FV//Good ok w v})]).map Subtype.val)=some ⟨⟨id,kd,ht,col,ps⟩,pb,po,cap⟩:=RR.out
     refine⟨((KeepsFrom.of_grownBy (bC yl) (λj e=>by cases e)).trans (jS _ _ _ _ _ _ _ _)),(aS.of_below yl).trans (lW _ _ _ _ _ _),⟨⟨?_,(hc4.below yl (aZ hc4.c0)).below (fo (w.heap.size+1+1) _ _ aM _ _ _ _ _) (by omega)⟩,(Bp.out.trans (yl.mono Bp.out.size)).trans (fo w.heap.size _ _ (by omega) _ _ _ _ _)⟩⟩
     rw[iG]
     exact(Q5.mk nc0 nc1 nc2 nc3 nc4 nf0 nf1 nf2 nf3 nf4).set _ _ _ _ _
    ·have YO:dU ht id Ud uid=false:=by simpa using hab
     have RR:Hid (aN x ((pre++[(⟨⟨⟨id,kd,ht,col,ps⟩,pb,po,cap⟩,dQ⟩:{v:FV//Good ok w v})]).map Subtype.val)=some ⟨⟨uid,Xw,Ud,QM,ups⟩,upb,upo,Wb⟩):=by
      show aN x _=_
      rw[O7.out];simp[cR,tZ,YO]
     clear hab
     gi_wp2_with (first|(refine⟨trivial,?_⟩;gi_at_call 91;refine(CallsIn.inRound l (callsIn_wide.2 (lJ id kd ht col pb po ps.length cap ps x.l x.t x.r x.b _ (Q6.out _ bK) rfl OZ.out OO.out h5 h6 h7 h8 g5 g6 g7 g8))).mono ?_;rintro e w2 ⟨rfl,hb2⟩;have k5:=mI.below hb2 hT;have m5:=GK.below hb2 jw;have hz2:=hb2.size;obtain⟨Xl,Xm,Xn,Xo,Xp,Xq,Xr,Xt,Xu,Xv⟩:=k5;obtain⟨mc0,mc1,mc2,mc3,mc4,_,_,_,_,_⟩:=m5)|(refine⟨trivial,?_⟩;gi_at_call 92;refine(CallsIn.inRound l (callsIn_wide.2 (yH id kd ht col _ uid Xw Ud QM _ _ ⟨_,_,_,rfl⟩ ⟨_,_,_,rfl⟩))).mono ?_;rintro e w3 ⟨rfl,hb3⟩;have yl:=hb2.trans (hb3.mono hz2)))
     have iG:aN x ((pre++[(⟨⟨⟨id,kd,ht,col,ps⟩,pb,po,cap⟩,dQ⟩:{v:FV//Good ok w v})]).map Subtype.val)=some ⟨⟨uid,Xw,Ud,QM,ups⟩,upb,upo,Wb⟩:=RR.out
     refine⟨KeepsFrom.of_grownBy (bC yl) (λj e=>by cases e),aS.of_below yl,⟨⟨?_,hc4.below yl (aZ hc4.c0)⟩,Bp.out.trans (yl.mono Bp.out.size)⟩⟩
     rw[iG]
     exact mI.below yl hT
  ·have Cw:dB kd ps x.l x.t x.r x.b=false:=by simpa using tZ
   clear tZ
   have RR:Hid (aN x ((pre++[(⟨⟨⟨id,kd,ht,col,ps⟩,pb,po,cap⟩,dQ⟩:{v:FV//Good ok w v})]).map Subtype.val)=o):=by
    show aN x _=o
    rw[O7.out];simp[cR,Cw]
   gi_wp2_with (first|(refine⟨trivial,?_⟩;gi_at_call 91;refine(CallsIn.inRound l (callsIn_wide.2 (lJ id kd ht col pb po ps.length cap ps x.l x.t x.r x.b _ (Q6.out _ bK) rfl OZ.out OO.out h5 h6 h7 h8 g5 g6 g7 g8))).mono ?_;rintro e w2 ⟨rfl,hb2⟩)|(have _t:=hb2;refine⟨trivial,?_⟩))
   have iG:aN x ((pre++[(⟨⟨⟨id,kd,ht,col,ps⟩,pb,po,cap⟩,dQ⟩:{v:FV//Good ok w v})]).map Subtype.val)=o:=RR.out
   refine⟨KeepsFrom.of_grownBy (bC hb2) (λj e=>by cases e),aS.of_below hb2,⟨⟨?_,hc4.below hb2 (aZ hc4.c0)⟩,Bp.out.trans (hb2.mono Bp.out.size)⟩⟩
   rw[iG]
   exact mI.below hb2 hT
 case done=>
  rintro D ys W hD hys ⟨⟨mI,_⟩,hBW⟩ hK
  rw[hys]at mI
  obtain⟨c0,c1,c2,c3,c4,_,_,_,_,_⟩:=mI
  gi_wp2
  refine⟨by simp,.inl ⟨_,_,rfl,run_takeDeferred hK,?_⟩⟩
  exact⟨_,results_tmp rfl _ _ _,rfl,hBW.trans (belowK_b (w:=w) aM W D _ _ (by simp at hD;omega) hK rfl rfl)⟩
 case stop=>
  rintro D c pre W _ _ h _
  exact h.elim
def lK(w:World)(b off:Nat)(vs:List FV):Prop:=
 b<w.heap.size/\∀(i:Nat) v,vs[i]? =some v->(w.cell? ⟨b,off+i*5,none⟩=some (.int .i64 v.f.id)/\w.cell? ⟨b,off+i*5+1,none⟩=some (.int .i64 v.f.kd)/\w.cell? ⟨b,off+i*5+2,none⟩=some (.int .i64 v.f.ht)/\w.cell? ⟨b,off+i*5+3,none⟩=some (.int .i64 v.f.col)/\w.cell? ⟨b,off+i*5+4,none⟩=some (.slice (some ⟨v.pb,v.po,none⟩) v.f.ps.length v.cap))/\Good (·<w.heap.size) w v
theorem uS(x:Bx)(vs:List FV)(h:∀z∈vs,aj z.f=true):0<=j6 (aN x vs)/\j6 (aN x vs)<100:=by
 cases ho:aN x vs with
 |none=>simp[j6]
 |some u=>
  have:=zL x vs h u ho
  simp only[aj,Bool.and_eq_true,fP,decide_eq_true_eq]at this
  simp only[j6]
  omega
end
end Go.Proofs.YtenaepdmlknlcaaGreatDoor
