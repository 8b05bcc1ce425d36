import Derived.Test.YtenaepdmlknlcaaGreatDoorG14
open Go.Proofs.Tryz
set_option maxRecDepth 100000
set_option maxHeartbeats 8000000
namespace Go.Proofs.YtenaepdmlknlcaaGreatDoor
section
open Go.RowKit Go.Shelf
def KA(w:World)(b:Nat)(vs:List Value):Prop:=∀(i:Nat) v,vs[i]? =some v->w.cell? ⟨b,i,none⟩=some v/\w.frozen? ⟨b,i,none⟩=false
variable {M:Nat->Nat->Prop} {b:Nat}
theorem KA.fr{A B:World}(h:Fr M A B){vs:List Value}(k:KA A b vs)(hm:∀i,¬M b i):KA B b vs:=λi v e=>
 have hb:b<A.heap.size:=dz A ⟨b,i,none⟩ (k i v e).1
 ⟨(h.cell b i hb (hm i)).trans (k i v e).1,(h.frozen b i hb (hm i)).trans (k i v e).2⟩
theorem KA.new(w:World)(vs:List Value)(t:TypeId):KA (w.alloc (.cells vs.toArray t)) w.heap.size vs:=λi v e=>by
 simp[go_sem,e]
variable {w:World} {v0 v1 v2 v3 v4 v5 v6 v7 v8 v9 v10:Value}
theorem KA.BQ(k:KA w b [v0,v1,v2,v3,v4,v5,v6,v7,v8,v9,v10]):(w.cell? ⟨b,0,none⟩=some v0/\w.cell? ⟨b,1,none⟩=some v1/\w.cell? ⟨b,2,none⟩=some v2/\w.cell? ⟨b,3,none⟩=some v3/\w.cell? ⟨b,4,none⟩=some v4/\w.cell? ⟨b,5,none⟩=some v5/\w.cell? ⟨b,6,none⟩=some v6/\w.cell? ⟨b,7,none⟩=some v7/\w.cell? ⟨b,8,none⟩=some v8/\w.cell? ⟨b,9,none⟩=some v9/\w.cell? ⟨b,10,none⟩=some v10)/\w.frozen? ⟨b,0,none⟩=false/\w.frozen? ⟨b,1,none⟩=false/\w.frozen? ⟨b,2,none⟩=false/\w.frozen? ⟨b,3,none⟩=false/\w.frozen? ⟨b,4,none⟩=false/\w.frozen? ⟨b,5,none⟩=false/\w.frozen? ⟨b,6,none⟩=false/\w.frozen? ⟨b,7,none⟩=false/\w.frozen? ⟨b,8,none⟩=false/\w.frozen? ⟨b,9,none⟩=false/\w.frozen? ⟨b,10,none⟩=false:=
 ⟨⟨(k 0 _ rfl).1,(k 1 _ rfl).1,(k 2 _ rfl).1,(k 3 _ rfl).1,(k 4 _ rfl).1,(k 5 _ rfl).1,(k 6 _ rfl).1,(k 7 _ rfl).1,(k 8 _ rfl).1,(k 9 _ rfl).1,(k 10 _ rfl).1⟩,(k 0 _ rfl).2,(k 1 _ rfl).2,(k 2 _ rfl).2,(k 3 _ rfl).2,(k 4 _ rfl).2,(k 5 _ rfl).2,(k 6 _ rfl).2,(k 7 _ rfl).2,(k 8 _ rfl).2,(k 9 _ rfl).2,(k 10 _ rfl).2⟩
theorem gp(w:World)(b:Nat)(u0 u1 u2 u3 u4 u5 u6 u7 u8 u9 u10:Value):Fr (ig b) w (((((((((((w.setCell ⟨b,0,none⟩ u0).setCell ⟨b,1,none⟩ u1).setCell ⟨b,2,none⟩ u2).setCell ⟨b,3,none⟩ u3).setCell ⟨b,4,none⟩ u4).setCell ⟨b,5,none⟩ u5).setCell ⟨b,6,none⟩ u6).setCell ⟨b,7,none⟩ u7).setCell ⟨b,8,none⟩ u8).setCell ⟨b,9,none⟩ u9).setCell ⟨b,10,none⟩ u10):=(((((((((((jQ b w 0 u0).setCell (b:=b) (i:=1) (.inl rfl) u1).setCell (b:=b) (i:=2) (.inl rfl) u2).setCell (b:=b) (i:=3) (.inl rfl) u3).setCell (b:=b) (i:=4) (.inl rfl) u4).setCell (b:=b) (i:=5) (.inl rfl) u5).setCell (b:=b) (i:=6) (.inl rfl) u6).setCell (b:=b) (i:=7) (.inl rfl) u7).setCell (b:=b) (i:=8) (.inl rfl) u8).setCell (b:=b) (i:=9) (.inl rfl) u9).setCell (b:=b) (i:=10) (.inl rfl) u10)
inductive Rd where
 |bad
 |get (t:Tl) (m:ByteArray)
 |put (f:aW)
 |del (id:Int)
def dZ:List Value:=[.int .i64 0,.int .i64 0,.int .i64 0,.int .i64 0,.string ⟨#[]⟩,.int .i64 0,.int .i64 0,.int .i64 0,.int .i64 0,.slice none 0 0,.int .i64 0]
def iq(x:ByteArray):Bool:=x.toList==[103,101,116]
def jR(x:ByteArray):Bool:=x.toList==[112,117,116]
def mD(x:ByteArray):Bool:=x.toList==[100,101,108]
theorem PK(b:Nat)(st:Wd)(hs:st.short)(w:World)(g:Gl w)(hb:8<=b)(h:bI w b st)(Ms:iq st.next.1=true):
  Calls prog 178 #[.pointer (some ⟨b,0,none⟩)] w λe w'=>e=.returned (.agg #[.int .i64 1,.int .i64 st.next.2.l_.1.z,.int .i64 st.next.2.l_.1.c,.int .i64 st.next.2.l_.1.r,.string st.next.2.l_.2.mark.1,.int .i64 0,.int .i64 0,.int .i64 0,.int .i64 0,.slice none 0 0,.int .i64 0])/\bI w' b st.next.2.l_.2.mark.2/\Fr (ig b) w w':=by
 have HL:Hid (b<w.heap.size):=h.lt
 have HW:Hid (bI (w.alloc (.cells dZ.toArray 270)) b st):=h.alloc _
 have HG:Hid (Gl (w.alloc (.cells dZ.toArray 270))):=g.below aU g.sz
 have HK:Hid (KA (w.alloc (.cells dZ.toArray 270)) w.heap.size dZ):=KA.new _ _ _
 have HS:Hid st.next.2.short:=(Wd.dO hs).2
 have HN:Hid _:=iV b st _ HW.out
 obtain⟨x,hx⟩:∃x,st.next.1=x:=⟨_,rfl⟩
 have HX:=af hx
 rw[hx]at Ms
 unfold iq at Ms
 clear g h hs hx
 unfold dZ at HW HG HK HN
 go_enter func178,ntmps178
 go_wp2_with (first
  |(go_at_call 196;refine aq HN.out ?_;rintro e w1 ⟨rfl,hw1,iL⟩;dsimp only;rw[HX.out])
  |(go_at_call 197;refine(Og b _ HS.out _ (HG.out.Ni iL hb) hb hw1).mono ?_;rintro e w2 ⟨rfl,hw2,hf2⟩;dsimp only;have hF2:=iL.trans hf2)
  |(go_at_call 198;refine(M9 b _ _ hw2).mono ?_;rintro e w3 ⟨rfl,hw3,hf3⟩;dsimp only;have ij:=hF2.trans hf3;obtain⟨⟨a0,a1,a2,a3,a4,a5,a6,a7,a8,a9,Lm⟩,z0,z1,z2,z3,z4,z5,z6,z7,z8,z9,Xx⟩:=(HK.out.fr ij (λi e=>(by have:w.heap.size=b:=e;have:=HL.out;omega))).BQ))
 exact bodyPost_ret (v:=.agg #[.int .i64 1,.int .i64 _,.int .i64 _,.int .i64 _,.string _,.int .i64 0,.int .i64 0,.int .i64 0,.int .i64 0,.slice none 0 0,.int .i64 0]) (by simp[results,results178,go_sem,a0,a1,a2,a3,a4,a5,a6,a7,a8,a9,Lm]) rfl ⟨rfl,hw3.fr (gp w3 w.heap.size _ _ _ _ _ _ _ _ _ _ _) (λc _ hc e=>by have:c=w.heap.size:=e;have:=HL.out;omega),(((Fr.refl _ w).alloc _).trans ij).aC (gp w3 w.heap.size _ _ _ _ _ _ _ _ _ _ _) (λc _ hc e=>by have:c=w.heap.size:=e;omega)⟩
def R3(b:Nat)(st:Wd)(w:World)(a:Option Addr)(n cap:Nat)(w':World):Prop:=
 n=st.four.left.length/\n<=cap/\bV w'.heap.size w' a (st.four.left.map fV)/\(∀g o,a=some ⟨g,o,none⟩->w.heap.size<=g/\o=0)/\
  bI w' b ⟨[],(st.four.wrong||!(st.four.left.all kO))||!(aj ⟨st.number.1,st.number.2.kind.1,st.number.2.kind.2.number.1,st.number.2.kind.2.number.2.number.1,st.four.left.map fV⟩)⟩/\Fr (ig b) w w'
theorem PB(b:Nat)(st:Wd)(hs:st.short)(w:World)(g:Gl w)(hb:8<=b)(h:bI w b st)(h1:iq st.next.1=false)(h2:jR st.next.1=false)(h3:mD st.next.1=true):
  Calls prog 178 #[.pointer (some ⟨b,0,none⟩)] w λe w'=>e=.returned (.agg #[.int .i64 3,.int .i64 0,.int .i64 0,.int .i64 0,.string ⟨#[]⟩,.int .i64 0,.int .i64 0,.int .i64 0,.int .i64 0,.slice none 0 0,.int .i64 st.next.2.id.1])/\bI w' b st.next.2.id.2/\Fr (ig b) w w':=by
 have HL:Hid (b<w.heap.size):=h.lt
 have HW:Hid (bI (w.alloc (.cells dZ.toArray 270)) b st):=h.alloc _
 have HG:Hid (Gl (w.alloc (.cells dZ.toArray 270))):=g.below aU g.sz
 have HK:Hid (KA (w.alloc (.cells dZ.toArray 270)) w.heap.size dZ):=KA.new _ _ _
 have HS:Hid st.next.2.short:=(Wd.dO hs).2
 have HN:Hid _:=iV b st _ HW.out
 obtain⟨x,hx⟩:∃x,st.next.1=x:=⟨_,rfl⟩
 have HX:=af hx
 rw[hx]at h1 h2 h3
 unfold iq at h1
 unfold jR at h2
 unfold mD at h3
 clear g h hs hx
 unfold dZ at HW HG HK HN
 go_enter func178,ntmps178
 go_wp2_with (first
  |(go_at_call 196;refine aq HN.out ?_;rintro e w1 ⟨rfl,hw1,iL⟩;dsimp only;rw[HX.out])
  |(go_at_call 200;refine(Ta b _ HS.out _ (HG.out.Ni iL hb) hb hw1).mono ?_;rintro e w2 ⟨rfl,hw2,hf2⟩;dsimp only;have hF2:=iL.trans hf2;obtain⟨⟨a0,a1,a2,a3,a4,a5,a6,a7,a8,a9,Lm⟩,z0,z1,z2,z3,z4,z5,z6,z7,z8,z9,Xx⟩:=(HK.out.fr hF2 (λi e=>(by have:w.heap.size=b:=e;have:=HL.out;omega))).BQ))
 exact bodyPost_ret (v:=.agg #[.int .i64 3,.int .i64 0,.int .i64 0,.int .i64 0,.string ⟨#[]⟩,.int .i64 0,.int .i64 0,.int .i64 0,.int .i64 0,.slice none 0 0,.int .i64 _]) (by simp[results,results178,go_sem,a0,a1,a2,a3,a4,a5,a6,a7,a8,a9,Lm]) rfl ⟨rfl,hw2.fr (gp w2 w.heap.size _ _ _ _ _ _ _ _ _ _ _) (λc _ hc e=>by have:c=w.heap.size:=e;have:=HL.out;omega),(((Fr.refl _ w).alloc _).trans hF2).aC (gp w2 w.heap.size _ _ _ _ _ _ _ _ _ _ _) (λc _ hc e=>by have:c=w.heap.size:=e;omega)⟩
theorem JH(b:Nat)(st:Wd)(hs:st.short)(w:World)(g:Gl w)(_hb:8<=b)(h:bI w b st)(h1:iq st.next.1=false)(h2:jR st.next.1=false)(h3:mD st.next.1=false):
  Calls prog 178 #[.pointer (some ⟨b,0,none⟩)] w λe w'=>e=.returned (.agg dZ.toArray)/\bI w' b ⟨st.next.2.left,true⟩/\Fr (ig b) w w':=by
 have HL:Hid (b<w.heap.size):=h.lt
 have HW:Hid (bI (w.alloc (.cells dZ.toArray 270)) b st):=h.alloc _
 have HG:Hid (Gl (w.alloc (.cells dZ.toArray 270))):=g.below aU g.sz
 have HK:Hid (KA (w.alloc (.cells dZ.toArray 270)) w.heap.size dZ):=KA.new _ _ _
 have HS:Hid st.next.2.short:=(Wd.dO hs).2
 have HN:Hid _:=iV b st _ HW.out
 obtain⟨x,hx⟩:∃x,st.next.1=x:=⟨_,rfl⟩
 have HX:=af hx
 rw[hx]at h1 h2 h3
 unfold iq at h1
 unfold jR at h2
 unfold mD at h3
 clear g h hs hx
 unfold dZ at HW HG HK HN
 go_enter func178,ntmps178
 go_wp2_with (first
  |(go_at_call 196;refine aq HN.out ?_;rintro e w1 ⟨rfl,hw1,iL⟩;dsimp only;rw[HX.out];have c1:=hw1.c1;have f1:=hw1.f1;obtain⟨⟨a0,a1,a2,a3,a4,a5,a6,a7,a8,a9,Lm⟩,z0,z1,z2,z3,z4,z5,z6,z7,z8,z9,Xx⟩:=(HK.out.fr (iL.trans (jQ b w1 1 (.bool true))) (λi e=>(by have:w.heap.size=b:=e;have:=HL.out;omega))).BQ))
 exact bodyPost_ret (v:=.agg #[.int .i64 0,.int .i64 0,.int .i64 0,.int .i64 0,.string ⟨#[]⟩,.int .i64 0,.int .i64 0,.int .i64 0,.int .i64 0,.slice none 0 0,.int .i64 0]) (by simp[results,results178,go_sem,a0,a1,a2,a3,a4,a5,a6,a7,a8,a9,Lm]) rfl ⟨rfl,hw1.bad.fr (gp _ w.heap.size _ _ _ _ _ _ _ _ _ _ _) (λc _ hc e=>by have:c=w.heap.size:=e;have:=HL.out;omega),(((Fr.refl _ w).alloc _).trans (iL.trans (jQ b w1 1 (.bool true)))).aC (gp _ w.heap.size _ _ _ _ _ _ _ _ _ _ _) (λc _ hc e=>by have:c=w.heap.size:=e;omega)⟩
theorem Qy(b:Nat)(st:Wd)(hs:st.short)(w:World)(g:Gl w)(hb:8<=b)(h:bI w b st)(hlen:st.left.length<=1000)(h1:iq st.next.1=false)(h2:jR st.next.1=true):
  Calls prog 178 #[.pointer (some ⟨b,0,none⟩)] w λe w'=>∃(a:Option Addr) (n cap:Nat),e=.returned (.agg #[.int .i64 2,.int .i64 0,.int .i64 0,.int .i64 0,.string ⟨#[]⟩,.int .i64 st.next.2.number.1,.int .i64 st.next.2.number.2.kind.1,.int .i64 st.next.2.number.2.kind.2.number.1,.int .i64 st.next.2.number.2.kind.2.number.2.number.1,.slice a n cap,.int .i64 0])/\Hid (R3 b st.next.2 w a n cap w'):=by
 have HL:Hid (b<w.heap.size):=h.lt
 have HW:Hid (bI (w.alloc (.cells dZ.toArray 270)) b st):=h.alloc _
 have HG:Hid (Gl (w.alloc (.cells dZ.toArray 270))):=g.below aU g.sz
 have HK:Hid (KA (w.alloc (.cells dZ.toArray 270)) w.heap.size dZ):=KA.new _ _ _
 have HS:Hid st.next.2.short:=(Wd.dO hs).2
 have HN:Hid _:=iV b st _ HW.out
 obtain⟨x,hx⟩:∃x,st.next.1=x:=⟨_,rfl⟩
 have HX:=af hx
 have HQ:Hid (st.next.2.left.length<=1000):=Nat.le_trans (Wd.nH st) hlen
 rw[hx]at h1 h2
 unfold iq at h1
 unfold jR at h2
 clear g h hs hx hlen
 unfold dZ at HW HG HK HN
 go_enter func178,ntmps178
 go_wp2_with (first
  |(go_at_call 196;refine aq HN.out ?_;rintro e w1 ⟨rfl,hw1,iL⟩;dsimp only;rw[HX.out])
  |(go_at_call 199;refine aq (Cg b _ HS.out HQ.out _ (HG.out.Ni iL hb) hb hw1) ?_;rintro e w2 ⟨a,n,cap,rfl,hm⟩;have HM:Hid _:=hm;clear hm;dsimp only;have hF2:=iL.trans HM.out.2.2.2.2.2;obtain⟨⟨a0,a1,a2,a3,a4,a5,a6,a7,a8,a9,Lm⟩,z0,z1,z2,z3,z4,z5,z6,z7,z8,z9,Xx⟩:=(HK.out.fr hF2 (λi e=>(by have:w.heap.size=b:=e;have:=HL.out;omega))).BQ))
 have hl:=HL.out
 have hs1:=iL.size
 rw[World.size_alloc]at hs1
 obtain⟨m1,m2,m3,m4,m5,m6⟩:=HM.out
 refine bodyPost_ret (v:=.agg #[.int .i64 2,.int .i64 0,.int .i64 0,.int .i64 0,.string ⟨#[]⟩,.int .i64 _,.int .i64 _,.int .i64 _,.int .i64 _,.slice a n cap,.int .i64 0]) (by simp[results,results178,go_sem,a0,a1,a2,a3,a4,a5,a6,a7,a8,a9,Lm]) rfl ⟨a,n,cap,rfl,m1,m2,?_,?_,?_,?_⟩
 ·exact m3.fr (gp w2 w.heap.size _ _ _ _ _ _ _ _ _ _ _) (λg o i e hm=>by have:g=w.heap.size:=hm;have:=(m4 g o e).1;omega)
 ·exact λg o e=>⟨by have:=(m4 g o e).1;omega,(m4 g o e).2⟩
 ·exact m5.fr (gp w2 w.heap.size _ _ _ _ _ _ _ _ _ _ _) (λc _ hc e=>by have:c=w.heap.size:=e;omega)
 ·exact(((Fr.refl _ w).alloc _).trans hF2).aC (gp w2 w.heap.size _ _ _ _ _ _ _ _ _ _ _) (λc _ hc e=>by have:c=w.heap.size:=e;omega)
def dN(s:ByteArray):List ByteArray:=Lib.splitB ⟨#[32]⟩ 0 (Lib.countB s ⟨#[32]⟩) s
theorem mA(s:ByteArray)(i j:Nat):(s.extract i j).size<=s.size:=by
 rw[ByteArray.size_extract]
 omega
theorem Ds(sep:ByteArray)(k:Nat):∀(s x:ByteArray),x∈Lib.splitB sep 0 k s->x.size<=s.size:=by
 induction k with
 |zero=>intro s x hx;simp[Lib.splitB]at hx;subst hx;exact aM
 |succ k ih=>
  intro s x hx
  unfold Lib.splitB at hx
  split at hx
  ·simp at hx;subst hx;exact aM
  ·rw[List.mem_cons]at hx
   rcases hx with rfl|hx
   ·exact mA _ _ _
   ·exact Nat.le_trans (ih _ x hx) (mA _ _ _)
theorem tQ(s:ByteArray):(dN s).length=Lib.countB s ⟨#[32]⟩+1:=Lib.splitB_all _ (by decide) 0 _ _ rfl
theorem DL(s:ByteArray)(h:s.size<=200)(q:Bool):(⟨dN s,q⟩:Wd).short:=λx hx=>Nat.le_trans (Ds _ _ _ _ hx) (by omega)
def Dg(t:Wd):aW:=⟨t.number.1,t.number.2.kind.1,t.number.2.kind.2.number.1,t.number.2.kind.2.number.2.number.1,t.four.left.map fV⟩
def iY(t:Wd):Bool:=(t.four.wrong||!(t.four.left.all kO))||!(aj (Dg t))
def gX(t:Wd):Rd:=
 if iq t.next.1=true then(if t.next.2.l_.2.mark.2.wrong=true\/t.next.2.l_.2.mark.2.left≠[]then .bad else .get t.next.2.l_.1 t.next.2.l_.2.mark.1)
 else if jR t.next.1=true then(if iY t.next.2=true then .bad else .put (Dg t.next.2))
 else if mD t.next.1=true then(if t.next.2.id.2.wrong=true\/t.next.2.id.2.left≠[]then .bad else .del t.next.2.id.1)
 else .bad
def cm(s:ByteArray):Rd:=gX ⟨dN s,false⟩
def sR(n0:Nat)(w':World):Rd->Array Value->Prop
 | .bad,vs=>vs=dZ.toArray
 | .get t m,vs=>vs=#[.int .i64 1,.int .i64 t.z,.int .i64 t.c,.int .i64 t.r,.string m,.int .i64 0,.int .i64 0,.int .i64 0,.int .i64 0,.slice none 0 0,.int .i64 0]
 | .put f,vs=>∃(a:Option Addr) (n cap:Nat),vs=#[.int .i64 2,.int .i64 0,.int .i64 0,.int .i64 0,.string ⟨#[]⟩,.int .i64 f.id,.int .i64 f.kd,.int .i64 f.ht,.int .i64 f.col,.slice a n cap,.int .i64 0]/\n=f.ps.length/\n<=cap/\bV w'.heap.size w' a f.ps/\∀g o,a=some ⟨g,o,none⟩->n0<=g/\o=0
 | .del id,vs=>vs=#[.int .i64 3,.int .i64 0,.int .i64 0,.int .i64 0,.string ⟨#[]⟩,.int .i64 0,.int .i64 0,.int .i64 0,.int .i64 0,.slice none 0 0,.int .i64 id]
def R7(b:Nat)(st:Wd)(w:World)(e:Ending)(w':World):Prop:=
 ∃(i0 i1 i2 i3:Int) (m:ByteArray) (i5 i6 i7 i8:Int) (a:Option Addr) (n cap:Nat) (i10:Int) (t:Wd),e=.returned (.agg #[.int .i64 i0,.int .i64 i1,.int .i64 i2,.int .i64 i3,.string m,.int .i64 i5,.int .i64 i6,.int .i64 i7,.int .i64 i8,.slice a n cap,.int .i64 i10])/\bI w' b t/\Fr (ig b) w w'/\((t.wrong=true\/t.left≠[])->gX st=.bad)/\(¬(t.wrong=true\/t.left≠[])->sR w.heap.size w' (gX st) #[.int .i64 i0,.int .i64 i1,.int .i64 i2,.int .i64 i3,.string m,.int .i64 i5,.int .i64 i6,.int .i64 i7,.int .i64 i8,.slice a n cap,.int .i64 i10])
theorem Dn(b:Nat)(st:Wd)(hs:st.short)(hlen:st.left.length<=1000)(w:World)(g:Gl w)(hb:8<=b)(h:bI w b st):
  Calls prog 178 #[.pointer (some ⟨b,0,none⟩)] w (R7 b st w):=by
 by_cases h1:iq st.next.1=true
 ·refine(PK b st hs w g hb h h1).mono ?_
  rintro e w' ⟨rfl,hw,hf⟩
  exact⟨_,_,_,_,_,_,_,_,_,_,_,_,_,_,rfl,hw,hf,λe=>by rw[gX,if_pos h1,if_pos e],λe=>by rw[gX,if_pos h1,if_neg e];rfl⟩
 ·have h1':iq st.next.1=false:=by simpa using h1
  by_cases h2:jR st.next.1=true
  ·refine(Qy b st hs w g hb h hlen h1' h2).mono ?_
   rintro e w' ⟨a,n,cap,rfl,m1,m2,m3,m4,m5,m6⟩
   refine⟨_,_,_,_,_,_,_,_,_,_,_,_,_,_,rfl,m5,m6,λe=>?_,λe=>?_⟩
   ·have e':iY st.next.2=true:=e.elim id (λh=>absurd rfl h)
    rw[gX,if_neg h1,if_pos h2,if_pos e']
   ·have e':¬iY st.next.2=true:=λh=>e (.inl h)
    rw[gX,if_neg h1,if_pos h2,if_neg e']
    exact⟨a,n,cap,rfl,by rw[m1];simp[Dg],m2,m3,m4⟩
  ·have h2':jR st.next.1=false:=by simpa using h2
   by_cases h3:mD st.next.1=true
   ·refine(PB b st hs w g hb h h1' h2' h3).mono ?_
    rintro e w' ⟨rfl,hw,hf⟩
    exact⟨_,_,_,_,_,_,_,_,_,_,_,_,_,_,rfl,hw,hf,λe=>by rw[gX,if_neg h1,if_neg h2,if_pos h3,if_pos e],λe=>by rw[gX,if_neg h1,if_neg h2,if_pos h3,if_neg e];rfl⟩
   ·have h3':mD st.next.1=false:=by simpa using h3
    refine(JH b st hs w g hb h h1' h2' h3').mono ?_
    rintro e w' ⟨rfl,hw,hf⟩
    exact⟨_,_,_,_,_,_,_,_,_,_,_,_,_,_,rfl,hw,hf,λe=>by rw[gX,if_neg h1,if_neg h2,if_neg h3],λe=>absurd (.inl rfl) e⟩
theorem yE(n0:Nat)(w':World):sR n0 w' .bad #[.int .i64 0,.int .i64 0,.int .i64 0,.int .i64 0,.string ⟨#[]⟩,.int .i64 0,.int .i64 0,.int .i64 0,.int .i64 0,.slice none 0 0,.int .i64 0]:=rfl
variable {n0 n1:Nat}
theorem sR.fr{A B:World}(hf:Fr M A B){r:Rd}{vs:Array Value}(h:sR n0 A r vs)(hM:∀g i,n0<=g->¬M g i)(hn:n1<=n0):sR n1 B r vs:=by
 cases r with
 |bad=>exact h
 |get t m=>exact h
 |del id=>exact h
 |put f=>
  obtain⟨a,n,cap,e,h1,h2,h3,h4⟩:=h
  exact⟨a,n,cap,e,h1,h2,h3.fr hf (λg o i ea=>hM g i (h4 g o ea).1),λg o ea=>⟨Nat.le_trans hn (h4 g o ea).1,(h4 g o ea).2⟩⟩
theorem Ip(s:ByteArray)(hs:s.size<=200)(w:World)(g:Gl w):
  Calls prog 177 #[.string s,.string ⟨#[32]⟩] w λe w'=>∃n,n=(dN s).length/\e=.returned (.slice (some ⟨w.heap.size,0,none⟩) n n)/\Below w.heap.size w w'/\w'.heap.size=w.heap.size+1/\∀(i:Nat) x,(dN s)[i]? =some x->w'.cell? ⟨w.heap.size,i,none⟩=some (.string x):=by
 obtain⟨m,hm⟩:=g.m1
 refine(Tryz.strings_Split s ⟨#[32]⟩ m w (Nat.lt_of_le_of_lt hs (by decide)) hm (by decide)).mono ?_
 rintro e w' ⟨rfl,rfl⟩
 refine⟨_,rfl,?_,aU,by simp,λi x e=>?_⟩
 ·rw[tQ]
 ·have e':(Lib.splitB ⟨#[32]⟩ 0 (Lib.countB s ⟨#[32]⟩) s)[i]? =some x:=e
  simp[go_sem,e']
variable {w':World} {sb n:Nat}
theorem Oo{s:ByteArray}(hn:n=(dN s).length)(hsb:sb<w'.heap.size)(hc:∀(i:Nat) x,(dN s)[i]? =some x->w'.cell? ⟨sb,i,none⟩=some (.string x)):
  bI (w'.alloc (.cells #[.slice (some ⟨sb,0,none⟩) n n,.bool false] 297)) w'.heap.size ⟨dN s,false⟩:=by
 refine⟨⟨sb,0,n,by rw[<-hn];simp[go_sem],by rw[hn];exact aM,hsb,λi x e=>?_⟩,by simp[go_sem],by simp[go_sem],by simp[go_sem]⟩
 rw[Nat.zero_add]
 exact(((Below.refl w'.heap.size w').alloc aM _).cell (p:=⟨sb,i,none⟩) hsb).trans (hc i x e)
theorem Lf(s:ByteArray)(hs:s.size<=200)(w:World)(g:Gl w):
  Calls prog 152 #[.string s] w λe w'=>∃vs:Array Value,e=.returned (.agg vs)/\sR w.heap.size w' (cm s) vs/\Below w.heap.size w w':=by
 have HS:=af hs
 have HG:Hid (Gl (w.alloc (.cells #[.int .i64 0,.int .i64 0,.int .i64 0,.int .i64 0,.string ⟨#[]⟩,.int .i64 0,.int .i64 0,.int .i64 0,.int .i64 0,.slice none 0 0,.int .i64 0] 270))):=g.below aU g.sz
 have HK:Hid (KA (w.alloc (.cells #[.int .i64 0,.int .i64 0,.int .i64 0,.int .i64 0,.string ⟨#[]⟩,.int .i64 0,.int .i64 0,.int .i64 0,.int .i64 0,.slice none 0 0,.int .i64 0] 270)) w.heap.size dZ):=KA.new w dZ 270
 have hg7:=g.sz
 have XG:Hid ((dN s).length<=1000):=by
  show(dN s).length<=1000
  rw[tQ]
  have:=Lib.countB_le ⟨#[32]⟩ (by decide) _ s aM
  omega
 clear g hs
 go_enter func152,ntmps152
 go_wp2_with (first
  |(go_at_call 177;refine aq (Ip s HS.out _ HG.out) ?_;rintro e w1 ⟨n1,hn1,rfl,hb1,hz1,hc1⟩;have WG:=af hn1;clear hn1;rw[World.size_alloc];rw[World.size_alloc]at hc1 hz1;have HC1:=af hc1;clear hc1;dsimp only)
  |(go_at_call 178;have hwd:=Oo WG.out (show w.heap.size+1<w1.heap.size by omega) HC1.out;rw[hz1]at hwd;refine aq (Dn _ _ (DL s HS.out false) XG.out _ ((HG.out.below hb1 HG.out.sz).below aU (HG.out.below hb1 HG.out.sz).sz) (by omega) hwd) ?_;rintro e w2 ⟨i0,i1,i2,i3,m,i5,i6,i7,i8,a,n,cap,i10,t,rfl,hw2,hf2,gR,dQ⟩;have HB:Hid _:=gR;have OT:Hid _:=dQ;have XS:Hid _:=hw2;clear hwd gR dQ;have hz2:w.heap.size+1+1<w2.heap.size:=hw2.lt;have hz3:w.heap.size<w2.heap.size:=(by omega);obtain⟨⟨sb,off,cp,e0,_⟩,e1,_,_⟩:=hw2;have hF2:Fr (ig (w.heap.size+1+1)) (w.alloc (.cells #[.int .i64 0,.int .i64 0,.int .i64 0,.int .i64 0,.string ⟨#[]⟩,.int .i64 0,.int .i64 0,.int .i64 0,.int .i64 0,.slice none 0 0,.int .i64 0] 270)) w2:=((Fr.of_below hb1).alloc _).trans hf2;obtain⟨⟨a0,a1,a2,a3,a4,a5,a6,a7,a8,a9,Lm⟩,z0,z1,z2,z3,z4,z5,z6,z7,z8,z9,Xx⟩:=KA.BQ (HK.out.fr hF2 (λi e=>(by have:w.heap.size=w.heap.size+1+1:=e;omega)));dsimp only))
 all_goals
  have Sw:∀(o:Obj) (u0 u1 u2 u3 u4 u5 u6 u7 u8 u9 u10:Value),Below w.heap.size w ((((((((((((w2.setCell ⟨w.heap.size,0,none⟩ u0).setCell ⟨w.heap.size,1,none⟩ u1).setCell ⟨w.heap.size,2,none⟩ u2).setCell ⟨w.heap.size,3,none⟩ u3).setCell ⟨w.heap.size,4,none⟩ u4).setCell ⟨w.heap.size,5,none⟩ u5).setCell ⟨w.heap.size,6,none⟩ u6).setCell ⟨w.heap.size,7,none⟩ u7).setCell ⟨w.heap.size,8,none⟩ u8).setCell ⟨w.heap.size,9,none⟩ u9).setCell ⟨w.heap.size,10,none⟩ u10).alloc o):=λo u0 u1 u2 u3 u4 u5 u6 u7 u8 u9 u10=>
   ((((Below.refl _ w).alloc aM _).trans (hF2.below (by simp) (λc i hc e=>by have:c=w.heap.size+1+1:=e;omega))).trans ((gp w2 w.heap.size u0 u1 u2 u3 u4 u5 u6 u7 u8 u9 u10).below (by omega) (λc i hc e=>by have:c=w.heap.size:=e;omega))).alloc (Nat.le_trans (Nat.le_of_lt hz3) (gp w2 w.heap.size u0 u1 u2 u3 u4 u5 u6 u7 u8 u9 u10).size) o
 ·rename_i hw
  have hr:cm s=.bad:=HB.out (.inl hw)
  rw[hr]
  exact bodyPost_ret (v:=.agg #[.int .i64 0,.int .i64 0,.int .i64 0,.int .i64 0,.string ⟨#[]⟩,.int .i64 0,.int .i64 0,.int .i64 0,.int .i64 0,.slice none 0 0,.int .i64 0]) (by simp[results,results152,go_sem,hz3,a0,a1,a2,a3,a4,a5,a6,a7,a8,a9,Lm]) rfl ⟨_,rfl,yE _ _,Sw _ _ _ _ _ _ _ _ _ _ _ _⟩
 ·rename_i hw hl
  have hr:cm s=.bad:=HB.out (.inr (λe=>by rw[e]at hl;exact absurd hl (by decide)))
  rw[hr]
  exact bodyPost_ret (v:=.agg #[.int .i64 0,.int .i64 0,.int .i64 0,.int .i64 0,.string ⟨#[]⟩,.int .i64 0,.int .i64 0,.int .i64 0,.int .i64 0,.slice none 0 0,.int .i64 0]) (by simp[results,results152,go_sem,hz3,a0,a1,a2,a3,a4,a5,a6,a7,a8,a9,Lm]) rfl ⟨_,rfl,yE _ _,Sw _ _ _ _ _ _ _ _ _ _ _ _⟩
 ·rename_i hw hl
  have hgd:=OT.out (λe=>e.elim hw (λe=>e (List.length_eq_zero_iff.1 (by omega))))
  refine bodyPost_ret (v:=.agg #[.int .i64 i0,.int .i64 i1,.int .i64 i2,.int .i64 i3,.string m,.int .i64 i5,.int .i64 i6,.int .i64 i7,.int .i64 i8,.slice a n cap,.int .i64 i10]) (by simp[results,results152,go_sem,hz3,a0,a1,a2,a3,a4,a5,a6,a7,a8,a9,Lm]) rfl ⟨_,rfl,?_,Sw _ _ _ _ _ _ _ _ _ _ _ _⟩
  refine sR.fr (M:=ig w.heap.size) ((gp w2 w.heap.size _ _ _ _ _ _ _ _ _ _ _).alloc _) hgd (λg i hg e=>?_) (by simp;omega)
  have:g=w.heap.size:=e
  simp at hg
  omega
def jB(vs:List FV)(p c r:Int)(k:Nat):Nat:=(j6 (aN (dX p c r k) vs)).toNat
def iO(vs:List FV)(p c r:Int):List UInt8:=fin (lC (jB vs p c r) 63)
theorem iB(w:World)(x y z:List UInt8)(hz:x++y=z)(hx:x.length<=1000)(hy:y.length<=1000):(Op.stringOp .add ⟨x.toArray⟩ ⟨y.toArray⟩).run prog w=.ok (.string ⟨z.toArray⟩) w:=by
 rw[<-hz];exact run_string_add_lists w x y (by omega) (by omega)
theorem rj(a:Option Addr)(n cap:Nat)(vs:List FV)(z m W8 p c r:Int)(w:World)(hf:lM w a vs)(hn:n=vs.length)(hn2:n<=1000000000000000)(hval:∀v∈vs,aj v.f=true)
  (hz:(z=0/\m=1/\W8=256/\p=32)\/(z=1/\m=2/\W8=128/\p=16)\/(z=2/\m=4/\W8=64/\p=8)\/(z=3/\m=8/\W8=32/\p=4)) (h1:0<=c) (h2:c<=7) (h3:0<=r) (h4:r<=7) (hc:8*p*c<=256-8*p) (hr:8*p*r<=256-8*p):
  Calls prog 64 #[.slice a n cap,.agg #[.int .i64 z,.int .i64 c,.int .i64 r]] w λe w'=>e=.returned (.string ⟨(iO vs p c r).toArray⟩)/\Below w.heap.size w w':=by
 have hB:∀o1:Obj,Below w.heap.size w (w.alloc o1):=λo1=>aU
 have Mo:∀k,jB vs p c r k<100:=λk=>by
  have:=uS (dX p c r k) vs hval
  unfold jB
  omega
 have HF:Hid (∀k,k<64->(lC (jB vs p c r) k).1.length<=6*k/\(lC (jB vs p c r) k).2.1<=k+1/\(lC (jB vs p c r) k).2.2<100):=FX _ Mo
 have F9:=af Mo
 have HP:Hid (∀W:World,Calls prog 106 #[.int .i64 z] W λe w'=>e=.returned (.int .i64 m)/\w'=W):=λW=>by
  have:=oA z W (by omega)
  rwa[show cL z=m by unfold cL;rcases hz with⟨rfl,rfl,_⟩|⟨rfl,rfl,_⟩|⟨rfl,rfl,_⟩|⟨rfl,rfl,_⟩<;>rfl]at this
 have HD:Hid (∀(x:Nat) (W:World),x<100->Calls prog 108 #[.int .i64 (x:Int),.int .i64 10] W λe w'=>e=.returned (.string ⟨(cD 10 x).toArray⟩)/\∃q,w'=W.drewN q):=λx W hx=>vS x 10 W (by omega) (by decide) (by decide)
 have HC:Hid (∀(k:Nat) (W:World),k<64->Below w.heap.size w W->Calls prog 107 #[.slice a n cap,.int .i64 (c*W8+(k:Int)%8*p),.int .i64 (r*W8+(k:Int)/8*p),.int .i64 p] W λe w'=>e=.returned (.int .i64 ((jB vs p c r k:Nat):Int))/\Below W.heap.size W w'):=λk W hk hW=>by
  have e:(⟨c*W8+(k:Int)%8*p,r*W8+(k:Int)/8*p,c*W8+(k:Int)%8*p+p,r*W8+(k:Int)/8*p+p⟩:Bx)=dX p c r k:=by
   unfold dX
   rcases hz with⟨_,_,rfl,rfl⟩|⟨_,_,rfl,rfl⟩|⟨_,_,rfl,rfl⟩|⟨_,_,rfl,rfl⟩<;>(congr 1<;>omega)
  have h:=Dl a n cap vs (c*W8+(k:Int)%8*p) (r*W8+(k:Int)/8*p) p W (hf.below hW) hn hn2
   (by rcases hz with⟨_,_,rfl,rfl⟩|⟨_,_,rfl,rfl⟩|⟨_,_,rfl,rfl⟩|⟨_,_,rfl,rfl⟩<;>omega) (by rcases hz with⟨_,_,rfl,rfl⟩|⟨_,_,rfl,rfl⟩|⟨_,_,rfl,rfl⟩|⟨_,_,rfl,rfl⟩<;>omega) (by omega)
   (by rcases hz with⟨_,_,rfl,rfl⟩|⟨_,_,rfl,rfl⟩|⟨_,_,rfl,rfl⟩|⟨_,_,rfl,rfl⟩<;>omega) (by rcases hz with⟨_,_,rfl,rfl⟩|⟨_,_,rfl,rfl⟩|⟨_,_,rfl,rfl⟩|⟨_,_,rfl,rfl⟩<;>omega) (by omega)
  rw[e]at h
  have hb:=uS (dX p c r k) vs hval
  rwa[show j6 (aN (dX p c r k) vs)=((jB vs p c r k:Nat):Int)by unfold jB;omega]at h
 have HR:Hid (iO vs p c r=fin (lC (jB vs p c r) 63)):=rfl
 clear hf hn hval Mo
 obtain⟨f,Rj⟩:∃f,jB vs p c r=f:=⟨_,rfl⟩
 rw[Rj]at HF F9 HC HR
 clear Rj
 rw[HR.out]
 have b1:0<=c*W8/\c*W8<=256:=by rcases hz with⟨_,_,rfl,rfl⟩|⟨_,_,rfl,rfl⟩|⟨_,_,rfl,rfl⟩|⟨_,_,rfl,rfl⟩<;>omega
 have b2:0<=r*W8/\r*W8<=256:=by rcases hz with⟨_,_,rfl,rfl⟩|⟨_,_,rfl,rfl⟩|⟨_,_,rfl,rfl⟩|⟨_,_,rfl,rfl⟩<;>omega
 have b3:0<=p/\p<=32:=by omega
 have q1:(256:Int)/m=W8:=by rcases hz with⟨_,rfl,rfl,rfl⟩|⟨_,rfl,rfl,rfl⟩|⟨_,rfl,rfl,rfl⟩|⟨_,rfl,rfl,rfl⟩<;>rfl
 have q2:W8/8=p:=by rcases hz with⟨_,_,rfl,rfl⟩|⟨_,_,rfl,rfl⟩|⟨_,_,rfl,rfl⟩|⟨_,_,rfl,rfl⟩<;>rfl
 have q3:1<=m/\m<=8:=by omega
 have q4:0<=W8/\W8<=256:=by omega
 obtain⟨b11,b12⟩:=b1
 obtain⟨b21,b22⟩:=b2
 obtain⟨WT,b32⟩:=b3
 obtain⟨q31,q32⟩:=q3
 obtain⟨q41,q42⟩:=q4
 clear hz hc hr HR
 go_enter func64,ntmps64
 go_wp2_with (go_at_call 106;refine aq (HP.out _) ?_;rintro e w2 ⟨rfl,rfl⟩)
 rw[q1,q2]
 clear q1 q2 q31 q32 HP
 go_loopw [7,8,9,10] (λsv rv lv kv wr=>∃(K:Nat) (sl:List UInt8) (rn la:Int),K<=64/\kv=.int .i64 (K:Int)/\sv=.string ⟨sl.toArray⟩/\rv=.int .i64 rn/\lv=.int .i64 la/\Hid ((K=0/\sl=[]/\rn=0/\la= -1)\/∃k,K=k+1/\sl=(lC f k).1/\rn=((lC f k).2.1:Nat)/\la=((lC f k).2.2:Nat))/\wr.cell? ⟨w.heap.size,1,none⟩=some (.int .i64 c)/\wr.cell? ⟨w.heap.size,2,none⟩=some (.int .i64 r)/\Below w.heap.size w wr/\w.heap.size<wr.heap.size) (λ_ _ _ kv _=>64-(intOf kv).toNat)
 case atStart=>exact⟨0,[],0,-1,by omega,rfl,rfl,rfl,rfl,.inl ⟨rfl,rfl,rfl,rfl⟩,by simp[go_sem],by simp[go_sem],hB _,by simp⟩
 case round=>
  obtain⟨K,sl,rn,la,hK,rfl,rfl,rfl,rfl,HI,c1,c2,hBw,hs⟩:=hrel
  by_cases hlt:K<64
  ·have hm1:0<=(K:Int)%8*p/\(K:Int)%8*p<=256:=by
    have e1:0<=(K:Int)%8/\(K:Int)%8<=7:=by omega
    refine⟨Int.mul_nonneg e1.1 WT,Int.le_trans (Int.mul_le_mul e1.2 b32 WT (by omega)) (by decide)⟩
   have hm2:0<=(K:Int)/8*p/\(K:Int)/8*p<=256:=by
    have e1:0<=(K:Int)/8/\(K:Int)/8<=7:=by omega
    refine⟨Int.mul_nonneg e1.1 WT,Int.le_trans (Int.mul_le_mul e1.2 b32 WT (by omega)) (by decide)⟩
   obtain⟨m11,m12⟩:=hm1
   obtain⟨m21,m22⟩:=hm2
   have hcK:=F9.out K
   go_upto_region 10 with(go_at_call 107;refine aq (HC.out K _ hlt hBw) ?_;rintro e w2 ⟨rfl,hb2⟩)
   obtain⟨hc2,hf2⟩:=eF hb2
   have hB2:Below w.heap.size w w2:=hBw.trans (hb2.mono (by omega))
   have hs2:=hb2.size
   have c1':=(hc2 w.heap.size 1 hs).trans c1
   have Uz:=(hc2 w.heap.size 2 hs).trans c2
   clear hc2 hf2 c1 c2 m11 m12 m21 m22
   have HK:Hid (f K=f K):=rfl
   obtain⟨x,hx⟩:∃x,f K=x:=⟨_,rfl⟩
   have HX:=af hx
   rw[hx]at hcK⊢
   clear hx HK
   rcases HI.out with⟨e0,rfl,rfl,rfl⟩|⟨k,e0,MH,VF,hla⟩
   ·have HN:Hid ((0=K+1/\([]:List UInt8)=[]/\(1:Int)=0/\(x:Int)= -1)\/∃k,K+1=k+1/\([]:List UInt8)=(lC f k).1/\(1:Int)=((lC f k).2.1:Nat)/\(x:Int)=((lC f k).2.2:Nat)):=by
     refine .inr ⟨0,by omega,rfl,rfl,?_⟩
     have:=HX.out
     rw[e0]at this
     show(x:Int)=((f 0:Nat):Int)
     rw[this]
    subst e0
    go_wp2
    go_roundw
    case rel=>exact⟨1,[],1,(x:Int),by omega,by go_num,by first|rfl|simp,by go_num,by go_num,.inr (HN.out.resolve_left (by omega)),c1',Uz,hB2,by omega⟩
    case measure=>simp[intOf]
   ·have Zc:k<64:=by omega
    obtain⟨d1,d2,d3⟩:=HF.out k Zc
    obtain⟨y,hy⟩:∃y,(lC f k).2.2=y:=⟨_,rfl⟩
    obtain⟨g,hg⟩:∃g,(lC f k).2.1=g:=⟨_,rfl⟩
    have HT:Hid (lC f (k+1)=N_ (sl,g,y) x):=by
     show lC f (k+1)=_
     rw[lC,<-MH.symm,<-hg,<-hy]
     congr 1
     rw[<-e0];exact HX.out
    rw[hy]at hla d3
    rw[hg]at VF d2
    rw[<-MH]at d1
    subst hla VF
    clear hy hg MH HX
    have hk0:(0:Int)<(K:Int):=by omega
    by_cases heq:x=y
    ·have HN:Hid ((0=K+1/\sl=[]/\((g:Int)+1)=0/\(x:Int)= -1)\/∃k,K+1=k+1/\sl=(lC f k).1/\((g:Int)+1)=((lC f k).2.1:Nat)/\(x:Int)=((lC f k).2.2:Nat)):=by
      refine .inr ⟨k+1,by omega,?_,?_,?_⟩<;>(rw[HT.out,N_,if_pos heq])
      ·simp
      ·show(x:Int)=(y:Int)
       omega
     clear HT
     subst heq
     go_wp2
     go_roundw
     case rel=>exact⟨K+1,sl,(g:Int)+1,(x:Int),by omega,by go_num,rfl,by go_num,by go_num,.inr (HN.out.resolve_left (by omega)),c1',Uz,hB2,by omega⟩
     case measure=>simp[intOf];omega
    ·have hne:(x:Int)≠(y:Int):=by omega
     have hd:decide ((x:Int)=(y:Int))=false:=decide_eq_false (by omega)
     have Mr:g<100:=by omega
     have Zf:=fq g Mr
     have Zg:=fq y d3
     obtain⟨l1,e1⟩:∃l,sl++cD 10 g=l:=⟨_,rfl⟩
     obtain⟨l2,e2⟩:∃l,l1++[120]=l:=⟨_,rfl⟩
     obtain⟨l3,e3⟩:∃l,l2++cD 10 y=l:=⟨_,rfl⟩
     obtain⟨l4,e4⟩:∃l,l3++[44]=l:=⟨_,rfl⟩
     have n1:l1.length=sl.length+(cD 10 g).length:=by rw[<-e1,List.length_append]
     have n2:l2.length=l1.length+1:=by rw[<-e2,List.length_append];rfl
     have n3:l3.length=l2.length+(cD 10 y).length:=by rw[<-e3,List.length_append]
     have a1:∀W:World,Sem.run prog (Op.stringOp .add ⟨sl.toArray⟩ ⟨(cD 10 g).toArray⟩) W=.ok (.string ⟨l1.toArray⟩) W:=λW=>iB W _ _ _ e1 (by omega) (by omega)
     have a2:∀W:World,Sem.run prog (Op.stringOp .add ⟨l1.toArray⟩ ⟨#[120]⟩) W=.ok (.string ⟨l2.toArray⟩) W:=λW=>iB W l1 [120] _ e2 (by omega) (by simp)
     have a3:∀W:World,Sem.run prog (Op.stringOp .add ⟨l2.toArray⟩ ⟨(cD 10 y).toArray⟩) W=.ok (.string ⟨l3.toArray⟩) W:=λW=>iB W _ _ _ e3 (by omega) (by omega)
     have a4:∀W:World,Sem.run prog (Op.stringOp .add ⟨l3.toArray⟩ ⟨#[44]⟩) W=.ok (.string ⟨l4.toArray⟩) W:=λW=>iB W l3 [44] _ e4 (by omega) (by simp)
     have HN:Hid ((0=K+1/\l4=[]/\(1:Int)=0/\(x:Int)= -1)\/∃k,K+1=k+1/\l4=(lC f k).1/\(1:Int)=((lC f k).2.1:Nat)/\(x:Int)=((lC f k).2.2:Nat)):=by
      refine .inr ⟨k+1,by omega,?_,?_,?_⟩<;>(rw[HT.out,N_,if_neg heq])
      ·rw[<-e4,<-e3,<-e2,<-e1]
       simp only[runT,List.append_assoc]
      ·rfl
     clear HT e1 e2 e3 e4 n1 n2 n3 heq d1 d2 Zf Zg
     go_wp2_with (go_at_call 108;refine aq (HD.out _ _ (by assumption)) ?_;rintro e w3 ⟨rfl,q1,rfl⟩)
     go_roundw
     case rel=>exact⟨K+1,l4,1,(x:Int),by omega,by go_num,rfl,by go_num,by go_num,.inr (HN.out.resolve_left (by omega)),c1',Uz,below_drewN hB2 _,by simp;omega⟩
     case measure=>simp[intOf];omega
  ·rcases HI.out with⟨e0,rfl,rfl,rfl⟩|⟨k,e0,MH,VF,hla⟩
   ·omega
   ·obtain rfl:k=63:=by omega
    obtain⟨d1,d2,d3⟩:=HF.out 63 (by decide)
    obtain⟨y,hy⟩:∃y,(lC f 63).2.2=y:=⟨_,rfl⟩
    obtain⟨g,hg⟩:∃g,(lC f 63).2.1=g:=⟨_,rfl⟩
    have HT:Hid (fin (lC f 63)=sl++runT g y):=by
     show fin (lC f 63)=_
     rw[fin,<-MH,hg,hy]
    rw[hy]at hla d3
    rw[hg]at VF d2
    rw[<-MH]at d1
    subst hla VF
    clear hy hg MH HF F9 HC HI
    have Mr:g<100:=by omega
    have Zf:=fq g Mr
    have Zg:=fq y d3
    obtain⟨l1,e1⟩:∃l,sl++cD 10 g=l:=⟨_,rfl⟩
    obtain⟨l2,e2⟩:∃l,l1++[120]=l:=⟨_,rfl⟩
    obtain⟨l3,e3⟩:∃l,l2++cD 10 y=l:=⟨_,rfl⟩
    have n1:l1.length=sl.length+(cD 10 g).length:=by rw[<-e1,List.length_append]
    have n2:l2.length=l1.length+1:=by rw[<-e2,List.length_append];rfl
    have a1:∀W:World,Sem.run prog (Op.stringOp .add ⟨sl.toArray⟩ ⟨(cD 10 g).toArray⟩) W=.ok (.string ⟨l1.toArray⟩) W:=λW=>iB W _ _ _ e1 (by omega) (by omega)
    have a2:∀W:World,Sem.run prog (Op.stringOp .add ⟨l1.toArray⟩ ⟨#[120]⟩) W=.ok (.string ⟨l2.toArray⟩) W:=λW=>iB W l1 [120] _ e2 (by omega) (by simp)
    have a3:∀W:World,Sem.run prog (Op.stringOp .add ⟨l2.toArray⟩ ⟨(cD 10 y).toArray⟩) W=.ok (.string ⟨l3.toArray⟩) W:=λW=>iB W _ _ _ e3 (by omega) (by omega)
    have HN:Hid (l3=fin (lC f 63)):=by
     show l3=_
     rw[HT.out,<-e3,<-e2,<-e1]
     simp only[runT,List.append_assoc]
    clear HT e1 e2 e3 n1 n2 d1 d2 Zf Zg c1 c2
    go_wp2_with (go_at_call 108;refine aq (HD.out _ _ (by assumption)) ?_;rintro e w3 ⟨rfl,q1,rfl⟩)
    go_ret
    exact⟨AZ HN.out,below_drewN hBw _⟩
theorem JR(a:Option Addr)(n cap:Nat)(vs:List FV)(z p c r:Int)(w:World)(hf:lM w a vs)(hn:n=vs.length)(hn2:n<=1000000000000000)(hval:∀v∈vs,aj v.f=true)
  (hz:ZP z p) (h1:0<=c) (h2:c<=7) (h3:0<=r) (h4:r<=7) (hc:8*p*c<=256-8*p) (hr:8*p*r<=256-8*p):
  Calls prog 64 #[.slice a n cap,.agg #[.int .i64 z,.int .i64 c,.int .i64 r]] w λe w'=>e=.returned (.string ⟨(iO vs p c r).toArray⟩)/\Below w.heap.size w w':=by
 rcases hz with⟨rfl,rfl⟩|⟨rfl,rfl⟩|⟨rfl,rfl⟩|⟨rfl,rfl⟩
 ·exact rj a n cap vs 0 1 256 32 c r w hf hn hn2 hval (by omega) h1 h2 h3 h4 hc hr
 ·exact rj a n cap vs 1 2 128 16 c r w hf hn hn2 hval (by omega) h1 h2 h3 h4 hc hr
 ·exact rj a n cap vs 2 4 64 8 c r w hf hn hn2 hval (by omega) h1 h2 h3 h4 hc hr
 ·exact rj a n cap vs 3 8 32 4 c r w hf hn hn2 hval (by omega) h1 h2 h3 h4 hc hr
structure FG where
 f:aW
 a:Option Addr
 cap:Nat
def FG.fv(g:FG):FV:=match g.a with
 |some x=>⟨g.f,x.block,x.off,g.cap⟩
 |none=>⟨g.f,0,0,g.cap⟩
theorem FG.UE(g:FG):g.fv.f=g.f:=by unfold FG.fv;split<;>rfl
structure zT(w:World)(b off:Nat)(g:FG):Prop where
 c0:w.cell? ⟨b,off,none⟩=some (.int .i64 g.f.id)
 c1:w.cell? ⟨b,off+1,none⟩=some (.int .i64 g.f.kd)
 c2:w.cell? ⟨b,off+2,none⟩=some (.int .i64 g.f.ht)
 c3:w.cell? ⟨b,off+3,none⟩=some (.int .i64 g.f.col)
 c4:w.cell? ⟨b,off+4,none⟩=some (.slice g.a g.f.ps.length g.cap)
 pts:bV w.heap.size w g.a g.f.ps
 cap:g.f.ps.length<=g.cap
 few:g.f.ps.length<=1000000000000000
variable {off:Nat}
theorem zT.below{A B:World}(h:Below A.heap.size A B){g:FG}(hb:b<A.heap.size)(f:zT A b off g):zT B b off g:=by
 obtain⟨hc,_⟩:=eF h
 exact⟨(hc _ _ hb).trans f.c0,(hc _ _ hb).trans f.c1,(hc _ _ hb).trans f.c2,(hc _ _ hb).trans f.c3,(hc _ _ hb).trans f.c4,(f.pts.below h).mono h.size,f.cap,f.few⟩
def rL(w:World)(b off:Nat)(gs:List FG):Prop:=b<w.heap.size/\∀(i:Nat) g,gs[i]? =some g->zT w b (off+i*5) g
def nW(w:World)(a:Option Addr)(gs:List FG):Prop:=gs=[]\/∃b off,a=some ⟨b,off,none⟩/\rL w b off gs
variable {gs:List FG}
theorem rL.below{A B:World}(h:Below A.heap.size A B)(f:rL A b off gs):rL B b off gs:=
 ⟨Nat.lt_of_lt_of_le f.1 h.size,λi g e=>(f.2 i g e).below h f.1⟩
theorem nW.below{A B:World}(h:Below A.heap.size A B){a:Option Addr}(f:nW A a gs):nW B a gs:=
 f.elim .inl λ⟨b,off,e,p⟩=> .inr ⟨b,off,e,p.below h⟩
theorem rL.LN(h:rL w b off gs)(hv:∀g∈gs,aj g.f=true):lK w b off (gs.map FG.fv):=by
 refine⟨h.1,λi v e=>?_⟩
 rw[List.getElem?_map,Option.map_eq_some_iff]at e
 obtain⟨g,hg,rfl⟩:=e
 have EW:=hv g (List.mem_of_getElem? hg)
 obtain⟨c0,c1,c2,c3,c4,hp,hc,_⟩:=h.2 i g hg
 have hne:g.f.ps≠[]:=by
  intro e
  simp only[aj,Bool.and_eq_true]at EW
  have:=EW.1.2
  rw[e]at this
  simp[fS]at this
 obtain⟨pb,po,ha,hP⟩:=hp.resolve_left hne
 obtain⟨f,a,cap⟩:=g
 simp only at ha hP c0 c1 c2 c3 c4 hc EW
 subst ha
 exact⟨⟨c0,c1,c2,c3,c4⟩,EW,hP.1,hc,hP.2⟩
theorem nW.LN{a:Option Addr}(h:nW w a gs)(hv:∀g∈gs,aj g.f=true):lM w a (gs.map FG.fv):=
 h.elim (λe=> .inl (by rw[e];rfl)) λ⟨b,off,e,p⟩=> .inr ⟨b,off,e,p.LN hv⟩
def pZ(z:Int):Int:=if z=0 then 32 else if z=1 then 16 else if z=2 then 8 else 4
theorem j7{z c r:Int}(h:cC z c r=true):ZP z (pZ z)/\0<=c/\c<=7/\0<=r/\r<=7/\8*pZ z*c<=256-8*pZ z/\8*pZ z*r<=256-8*pZ z:=by
 simp only[cC,decide_eq_true_eq]at h
 obtain⟨h1,h2,h3,h4,h5,h6⟩:=h
 have hz:z=0\/z=1\/z=2\/z=3:=by omega
 rcases hz with rfl|rfl|rfl|rfl<;>simp[cL,pZ,ZP]at * <;>omega
theorem Am(vs:List FV)(p c r:Int)(hv:∀v∈vs,aj v.f=true):(iO vs p c r).length<=1000:=by
 have hf:∀k,jB vs p c r k<100:=λk=>by
  have:=uS (dX p c r k) vs hv
  unfold jB
  omega
 obtain⟨h1,h2,h3⟩:=FX _ hf 63 (by decide)
 have:=fq (lC (jB vs p c r) 63).2.1 (by omega)
 have:=fq (lC (jB vs p c r) 63).2.2 h3
 simp only[iO,fin,runT,List.length_append,List.length_cons,List.length_nil]
 omega
theorem og(h i h' i':Int):dU h i h' i'=true↔(h'<h\/(h=h'/\i'<i)):=by
 unfold dU
 split
 ·rename_i e;subst e;simp
 ·simp;omega
def Ln(a b:FV):Bool:=dU a.f.ht a.f.id b.f.ht b.f.id
def Q_(x:Bx)(a:FV):Bool:=dB a.f.kd a.f.ps x.l x.t x.r x.b
theorem zn(x:Bx)(a:FV)(h:Q_ x a=true):cR x none a=some a:=by unfold cR;unfold Q_ at h;simp[h]
theorem eI(x:Bx)(u a:FV)(h:Q_ x a=true):cR x (some u) a=if Ln a u=true then some a else some u:=by unfold cR Ln;unfold Q_ at h;simp[h]
theorem qY(x:Bx)(o:Option FV)(a:FV)(h:Q_ x a=false):cR x o a=o:=by unfold cR;unfold Q_ at h;simp[h]
theorem JK(x:Bx)(a b:FV)(h:a.f.id≠b.f.id)(o:Option FV):cR x (cR x o a) b=cR x (cR x o b) a:=by
 cases ca:Q_ x a with
 |false=>rw[qY x _ a ca,qY x _ a ca]
 |true=>
  cases cb:Q_ x b with
  |false=>rw[qY x _ b cb,qY x _ b cb]
  |true=>
   have e1:=og a.f.ht a.f.id b.f.ht b.f.id
   have e2:=og b.f.ht b.f.id a.f.ht a.f.id
   change Ln a b=true↔_ at e1
   change Ln b a=true↔_ at e2
   cases o with
   |none=>
    rw[zn x a ca,zn x b cb,eI x a b cb,eI x b a ca]
    by_cases h1:Ln b a=true
    ·rw[if_pos h1,if_neg (by rw[e1];rw[e2]at h1;omega)]
    ·rw[if_neg h1,if_pos (by rw[e1];rw[e2]at h1;omega)]
   |some u=>
    have e3:=og a.f.ht a.f.id u.f.ht u.f.id
    have e4:=og b.f.ht b.f.id u.f.ht u.f.id
    change Ln a u=true↔_ at e3
    change Ln b u=true↔_ at e4
    rw[eI x u a ca,eI x u b cb]
    by_cases h1:Ln a u=true
    ·rw[if_pos h1,eI x a b cb]
     by_cases h2:Ln b u=true
     ·rw[if_pos h2,eI x b a ca]
      by_cases h3:Ln b a=true
      ·rw[if_pos h3,if_neg (by rw[e1];rw[e2]at h3;omega)]
      ·rw[if_neg h3,if_pos (by rw[e1];rw[e2]at h3;omega)]
     ·rw[if_neg h2,eI x u a ca,if_pos h1,if_neg (by rw[e2];rw[e3]at h1;rw[e4]at h2;omega)]
    ·rw[if_neg h1,eI x u b cb]
     by_cases h2:Ln b u=true
     ·rw[if_pos h2,eI x b a ca,if_neg (by rw[e1];rw[e3]at h1;rw[e4]at h2;omega)]
     ·rw[if_neg h2,eI x u a ca,if_neg h1]
def KC(vs:List FV):Prop:=∀a∈vs,∀b∈vs,a=b\/a.f.id≠b.f.id
theorem DG(x:Bx){vs us:List FV}(hp:us.Perm vs)(hd:KC vs):aN x us=aN x vs:=by
 unfold aN
 refine hp.foldl_eq' (λa ha b hb z=>?_) none
 rcases hd a (hp.mem_iff.1 ha) b (hp.mem_iff.1 hb)with rfl|h
 ·rfl
 ·exact JK x a b h z
theorem Sm{vs us:List FV}(hp:us.Perm vs)(hd:KC vs)(hv:∀v∈vs,aj v.f=true){p c r:Int}(h0:0<=p)(n:Nat):(IL us p c r n).toNat=jB vs p c r n:=by
 unfold IL jB
 rw[p_ _ us (λv h=>hv v (hp.mem_iff.1 h)) (by simp only[dX];omega) (by simp only[dX];omega),DG _ hp hd]
theorem body_eq{vs us:List FV}(hp:us.Perm vs)(hd:KC vs)(hv:∀v∈vs,aj v.f=true){p c r:Int}(h0:0<=p):
  Lib.join ((ia ((List.range 64).map λn=>(IL us p c r n).toNat)).map (·.data.toList)) [44]=iO vs p c r:=by
 rw[iO,Av]
 congr 4
 funext n
 exact Sm hp hd hv h0 n
end
end Go.Proofs.YtenaepdmlknlcaaGreatDoor
