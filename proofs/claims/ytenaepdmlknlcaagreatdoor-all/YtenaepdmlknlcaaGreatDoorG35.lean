import Derived.Test.YtenaepdmlknlcaaGreatDoorG29
import Derived.Test.YtenaepdmlknlcaaGreatDoorG30
import Derived.Test.YtenaepdmlknlcaaGreatDoorG32
open Go.Proofs.Tryz
set_option maxRecDepth 100000
set_option maxHeartbeats 8000000
namespace Go.Proofs.YtenaepdmlknlcaaGreatDoor
section
open Go.RowKit
variable {n0 k:Nat} {w:World}
theorem bV.at{a:Option Addr}{ps:dS}(hp:bV n0 w a ps)(hk:k<ps.length):
  ∃b off x y,a=some ⟨b,off,none⟩/\b<n0/\ps[k]? =some (x,y)/\w.cell? ⟨b,off+k*2,none⟩=some (.int .i64 x)/\w.cell? ⟨b,off+k*2+1,none⟩=some (.int .i64 y):=by
 rcases hp with rfl|⟨b,off,rfl,h⟩
 ·simp at hk
 ·obtain⟨x,y,h1,h2,h3⟩:=h.at hk
  exact⟨b,off,x,y,rfl,h.1,h1,h2,h3⟩
theorem wW(id kd ht col:Int)(a:Option Addr)(n cap:Nat)(ps:dS)(w:World)(hp:bV w.heap.size w a ps)(hn:n=ps.length)(hn2:n<=1000000000000000):
  Calls prog 63 #[.agg #[.int .i64 id,.int .i64 kd,.int .i64 ht,.int .i64 col,.slice a n cap]] w λe w'=>e=.returned (.bool (aj ⟨id,kd,ht,col,ps⟩))/\Below w.heap.size w w':=by
 have hB:∀o1:Obj,Below w.heap.size w (w.alloc o1):=λo1=>aU
 have Hn:=af hn
 have Hp:=af hp
 clear hn hp
 have HF:Hid ((id<1\/99<id\/ht< -9\/9<ht\/col<1\/9<col)->aj ⟨id,kd,ht,col,ps⟩=false):=by
  intro h
  simp only[aj,fP]
  rw[Bool.eq_false_iff]
  simp
  omega
 by_cases c1:id<1
 ·go_enter func63,ntmps63
  go_wp2
  go_ret
  exact⟨ah (HF.out (by omega)).symm,hB _⟩
 by_cases c2:99<id
 ·go_enter func63,ntmps63
  go_wp2
  go_ret
  exact⟨ah (HF.out (by omega)).symm,hB _⟩
 by_cases c3:ht< -9
 ·go_enter func63,ntmps63
  go_wp2
  go_ret
  exact⟨ah (HF.out (by omega)).symm,hB _⟩
 by_cases c4:9<ht
 ·go_enter func63,ntmps63
  go_wp2
  go_ret
  exact⟨ah (HF.out (by omega)).symm,hB _⟩
 by_cases c5:col<1
 ·go_enter func63,ntmps63
  go_wp2
  go_ret
  exact⟨ah (HF.out (by omega)).symm,hB _⟩
 by_cases c6:9<col
 ·go_enter func63,ntmps63
  go_wp2
  go_ret
  exact⟨ah (HF.out (by omega)).symm,hB _⟩
 clear HF
 have HT:Hid (aj ⟨id,kd,ht,col,ps⟩=(fS kd n&&ps.all lI)):=by
  show aj ⟨id,kd,ht,col,ps⟩=_
  have e1:fP id 1 99=true:=by simp[fP];omega
  have e2:fP ht (-9) 9=true:=by simp[fP];omega
  have e3:fP col 1 9=true:=by simp[fP];omega
  simp only[aj,e1,e2,e3,<-Hn.out,Bool.true_and]
 rw[HT.out]
 clear HT
 go_enter func63,ntmps63
 go_wp2
 go_loopw [3] (λi wr=>∃k:Nat,k<=n/\i=.int .i64 (k:Int)/\(ps.take k).all lI=true/\wr.cell? ⟨w.heap.size,4,none⟩=some (.slice a n cap)/\wr.cell? ⟨w.heap.size,1,none⟩=some (.int .i64 kd)/\Below w.heap.size w wr/\w.heap.size<wr.heap.size) (λi _=>n-(intOf i).toNat)
 case atStart=>exact⟨0,by omega,rfl,rfl,by simp[go_sem],by simp[go_sem],hB _,by simp⟩
 case round=>
  obtain⟨k,hk,rfl,hall,cl,ck,hBw,hs⟩:=hrel
  have ji:=af hall
  clear hall
  by_cases hlt:k<n
  ·obtain⟨b,off,x,y,rfl,hb,hxy,hx,hy⟩:=(Hp.out.below hBw).at (k:=k) (by rw[<-Hn.out];exact hlt)
   have RY:=af hxy
   clear hxy
   by_cases hx1:fP x 0 255=true
   ·by_cases hy1:fP y 0 255=true
    ·go_wp2_with (go_at_call 105;refine(dM _ _ _ _).mono ?_;rintro e w2 ⟨rfl,rfl⟩)
     go_roundw
     case rel=>exact⟨k+1,by omega,by go_num,oY RY.out ji.out (by simp[lI,hx1,hy1]),cl,ck,hBw,hs⟩
     case measure=>simp[intOf];omega
    ·have ZQ:fP y 0 255=false:=by simpa using hy1
     clear hy1
     have Hv:Hid (ps.all lI=false):=all_false RY.out (by simp[lI,ZQ])
     go_wp2_with (go_at_call 105;refine(dM _ _ _ _).mono ?_;rintro e w2 ⟨rfl,rfl⟩)
     go_ret
     exact⟨ah (by rw[Hv.out,Bool.and_false]),hBw⟩
   ·have ZO:fP x 0 255=false:=by simpa using hx1
    clear hx1
    have Hv:Hid (ps.all lI=false):=all_false RY.out (by simp[lI,ZO])
    go_wp2_with (go_at_call 105;refine(dM _ _ _ _).mono ?_;rintro e w2 ⟨rfl,rfl⟩)
    go_ret
    exact⟨ah (by rw[Hv.out,Bool.and_false]),hBw⟩
  ·have Hv:Hid ((fS kd n&&ps.all lI)=fS kd n):=by
    show(fS kd n&&ps.all lI)=fS kd n
    have h1:=ji.out
    rw[show k=ps.length by have:=Hn.out;omega,List.take_length]at h1
    rw[h1,Bool.and_true]
   clear ji Hp
   by_cases k1:kd=1
   ·subst k1
    go_wp2
    go_ret
    exact⟨ah (by rw[Hv.out,Bool.eq_iff_iff];simp[fS]<;>omega),hBw⟩
   by_cases k2:kd=2
   ·subst k2
    by_cases n1:2<=n
    ·go_wp2
     go_ret
     exact⟨ah (by rw[Hv.out,Bool.eq_iff_iff];simp[fS]<;>omega),hBw⟩
    ·go_wp2
     go_ret
     exact⟨ah (by rw[Hv.out,Bool.eq_iff_iff];simp[fS]<;>omega),hBw⟩
   by_cases k3:kd=3
   ·subst k3
    by_cases n1:3<=n
    ·go_wp2
     go_ret
     exact⟨ah (by rw[Hv.out,Bool.eq_iff_iff];simp[fS]<;>omega),hBw⟩
    ·go_wp2
     go_ret
     exact⟨ah (by rw[Hv.out,Bool.eq_iff_iff];simp[fS]<;>omega),hBw⟩
   ·go_wp2
    go_ret
    exact⟨ah (by rw[Hv.out,Bool.eq_iff_iff];simp[fS]<;>omega),hBw⟩
end
section
open Go.RowKit Go.Shelf
theorem JL(A o mo c cap s r:Nat)(w:World)(hc:w.cell? ⟨A,o,none⟩=some (.chan (some c)))(hn:w.cell? ⟨A,o+1,none⟩=some .nilFunc)(hch:w.heap[c]? =some (.chan cap #[] false s r false)):
  Calls prog 77 #[.pointer (some ⟨A,o,none⟩),.pointer (some ⟨A,mo,none⟩)] w λe w'=>e=.returned (.bool false)/\w'=w:=by
 have HB:Hid _:=BV A o c cap s r w hc hch
 have heq:=mZ
 clear hch
 go_enter func77,ntmps77
 go_wp2_with (go_at_call 119;refine aq HB.out ?_;rintro e w0 ⟨rfl,rfl⟩;dsimp only)
 go_ret
 exact⟨rfl,rfl⟩
theorem pW(A o mo:Nat)(B:World->Prop)(w:World)(hn:w.cell? ⟨A,o+1,none⟩=some .nilFunc)
  (hB:Calls prog 119 #[.pointer (some ⟨A,o,none⟩)] w λe w'=>e=.returned (.bool true)/\B w')
  (hX:∀w0,B w0->∃f b,w0.cell? ⟨A,o+1,none⟩=some (.func (.func f) b #[])/\Enters f/\Calls prog f (b.push (.pointer (some ⟨A,mo,none⟩))) w0 λe w'=>e=.returned (.agg #[.bool true,.nilFunc,.string ⟨#[]⟩])/\Below w0.heap.size w0 w'):
  Calls prog 77 #[.pointer (some ⟨A,o,none⟩),.pointer (some ⟨A,mo,none⟩)] w λe w'=>e=.returned (.bool false)/\∃w0,B w0/\Below w0.heap.size w0 w':=by
 have HB:Hid _:=hB
 have HX:Hid _:=hX
 have Vd:=mZ
 clear hB hX
 go_enter func77,ntmps77
 go_wp2_with (first
  |(go_at_call 119;refine aq HB.out ?_;rintro e w0 ⟨rfl,hB0⟩;dsimp only;obtain⟨f,b,p1,hE,hC⟩:=HX.out w0 hB0;have heq:=mY (.func f) b #[];have UK:=hE (b.push (.pointer (some ⟨A,mo,none⟩))) w0;have HC:Hid _:=hC;clear hE hC)
  |(refine aq HC.out ?_;rintro e w1 ⟨rfl,hb1⟩;dsimp only))
 go_ret
 exact⟨rfl,w0,hB0,hb1.alloc hb1.size _⟩
theorem uj(A o mo:Nat)(B:World->Prop)(R:World->Fn->Array Value->World->Prop)(w:World)(hn:w.cell? ⟨A,o+1,none⟩=some .nilFunc)
  (hB:Calls prog 119 #[.pointer (some ⟨A,o,none⟩)] w λe w'=>e=.returned (.bool true)/\B w')
  (hX:∀w0,B w0->∃f b,w0.cell? ⟨A,o+1,none⟩=some (.func (.func f) b #[])/\Enters f/\Calls prog f (b.push (.pointer (some ⟨A,mo,none⟩))) w0 λe w'=>∃f' b',e=.returned (.agg #[.bool false,.func f' b' #[],.string ⟨#[]⟩])/\R w0 f' b' w'/\w'.cell? ⟨A,o+1,none⟩=some (.func (.func f) b #[])/\w'.frozen? ⟨A,o+1,none⟩=false):
  Calls prog 77 #[.pointer (some ⟨A,o,none⟩),.pointer (some ⟨A,mo,none⟩)] w λe w'=>e=.returned (.bool true)/\∃w0,B w0/\∃f' b' w1,R w0 f' b' w1/\w'=(w1.setCell ⟨A,o+1,none⟩ (.func f' b' #[])).alloc (.cells #[.bool false,.func f' b' #[],.string ⟨#[]⟩] 231):=by
 have HB:Hid _:=hB
 have HX:Hid _:=hX
 have Vd:=mZ
 clear hB hX
 go_enter func77,ntmps77
 go_wp2_with (first
  |(go_at_call 119;refine aq HB.out ?_;rintro e w0 ⟨rfl,hB0⟩;dsimp only;obtain⟨f,b,p1,hE,hC⟩:=HX.out w0 hB0;have heq:=mY (.func f) b #[];have UK:=hE (b.push (.pointer (some ⟨A,mo,none⟩))) w0;have HC:Hid _:=hC;clear hE hC)
  |(refine aq HC.out ?_;rintro e w1 ⟨f',b',rfl,hR1,q1,q2⟩;dsimp only;have heq':=mY f' b' #[];have mH:A<w1.heap.size:=dz w1 _ q1))
 go_ret
 exact⟨rfl,w0,hB0,f',b',w1,hR1,rfl⟩
theorem IG(I:Nat->Prop)(id z:Int)(a:Option Addr)(p:Option aW)(ro:Option Addr)(vs:List FV)(w:World)(hI:∀b,I b->b<w.heap.size)(hp:jt I w a p)(hR:aT I w ro vs)(hg:∀v∈vs,Good I w v)(hd:kg (vs.map (·.f))):
  Calls prog 207 #[gL id a z,.agg #[.pointer ro]] w λe w'=>∃(a2:Option Addr) (n2 cap2:Nat),e=.returned (.slice a2 n2 cap2)/\n2=(bw p (vs.map (·.f)) id).length/\n2<=cap2/\(bw p (vs.map (·.f)) id=[]\/∃g,a2=some ⟨g,0,none⟩/\w.heap.size<=g/\g<w'.heap.size/\oT w' g (bw p (vs.map (·.f)) id))/\Below w.heap.size w w':=by
 refine(IE I id z a p ro vs w hI hp hR hg hd).mono ?_
 rintro e w' ⟨v,rfl,hown,hb⟩
 rcases hown.2 with⟨e1,e2⟩|⟨g,cap,cur,e1,e2,e3,e4,_⟩
 ·subst e1
  exact⟨none,0,0,rfl,e2.symm,aM,.inl (List.length_eq_zero_iff.1 e2),hb⟩
 ·subst e1
  exact⟨_,_,cap,rfl,rfl,e4,.inr ⟨g,rfl,e2,(Array.getElem?_eq_some_iff.1 e3).1,oT.own hown rfl⟩,hb⟩
theorem Ew(p:Option aW)(fs:List aW)(id:Int):(bw p fs id).length<=2:=by
 unfold bw
 cases p<;>cases findF id fs<;>simp
theorem frV(wc w2:World)(n:Nat)(h:Fr (λb _=>n<=b) wc w2)(u0 u1 u2:Value):Fr (λb _=>n<=b) wc (((w2.setCell ⟨n+1,0,none⟩ u0).setCell ⟨n+1,1,none⟩ u1).setCell ⟨n+1,2,none⟩ u2):=
 ((h.setCell (b:=n+1) (i:=0) (.inl (by omega)) u0).setCell (b:=n+1) (i:=1) (.inl (by omega)) u1).setCell (b:=n+1) (i:=2) (.inl (by omega)) u2
def C1(id:Int)(a:Option Addr)(z:Nat):Value:=if z=3 then .func (.func 208) #[gL id a 3] #[]else .func (.func 193) #[gL id a ((z+1:Nat):Int)] #[]
theorem Cq(A mo:Nat)(I:Nat->Prop)(id:Int)(a:Option Addr)(p:Option aW)(z:Nat)(ro:Option Addr)(vs:List FV)(sv:Nat->Value)(S:tT)(w:World)(hz:z<=3)(hA:A<w.heap.size)(hro:w.cell? ⟨A,mo,none⟩=some (.pointer ro))(hI:∀b,I b->b<w.heap.size)(hp:jt I w a p)(hR:aT I w ro vs)(hg:∀v∈vs,Good I w v)(hd:kg (vs.map (·.f)))(hs:dI w A (mo+2) sv S):
  Calls prog 193 #[gL id a (z:Int),.pointer (some ⟨A,mo,none⟩)] w λe w'=>e=.returned (.agg #[.bool false,C1 id a z,.string ⟨#[]⟩])/\∃DX,dI w' A (mo+2) DX (dD z (bw p (vs.map (·.f)) id) S)/\(∀k,k<4->(DX k).ownBlock=(sv k).ownBlock)/\Fr (G_ A (mo+2) sv) w w':=by
 have hvs:∀k g,k<4->(sv k).ownBlock=some g->g<w.heap.size:=λk g hk e=>(hs.sh k hk).tI g e
 have Je:∀b i,G_ A (mo+2) sv b i->b<w.heap.size:=λb i e=>by
  rcases e with⟨rfl,_⟩|⟨k,hk,e⟩
  ·exact hA
  ·exact hvs k b hk e
 have hB0:∀o o':Obj,Below w.heap.size w ((w.alloc o).alloc o').drew:=λo o'=>(aU.alloc (by simp) _).drew
 have jh:Hid (∀W:World,Below w.heap.size w W->Calls prog 207 #[gL id a (z:Int),.agg #[.pointer ro]] W λe w'=>∃(a2:Option Addr) (n2 cap2:Nat),e=.returned (.slice a2 n2 cap2)/\Hid (∀W',Below w'.heap.size w' W'->Calls prog 206 #[.pointer (some ⟨A,mo+2,none⟩),.int .i64 (z:Int),.slice a2 n2 cap2] W' λe w''=>e=.returned (.tuple #[])/\∃DX,dI w'' A (mo+2) DX (dD z (bw p (vs.map (·.f)) id) S)/\(∀k,k<4->(DX k).ownBlock=(sv k).ownBlock)/\Fr (G_ A (mo+2) sv) W' w'')/\Below W.heap.size W w'):=λW hW=>by
  refine(IG I id (z:Int) a p ro vs W (λb hb=>Nat.lt_of_lt_of_le (hI b hb) hW.size) (hp.same (Same.of_below hW hI)) (aT.same hR (Same.of_below hW hI)) (λv hv=>Good.same (Same.of_below hW hI) (hg v hv)) hd).mono ?_
  rintro e w' ⟨a2,n2,cap2,rfl,h1,h2,h3,h4⟩
  have hb:Below w.heap.size w w':=hW.trans (h4.mono hW.size)
  refine⟨a2,n2,cap2,rfl,λW' Bd=>?_,h4⟩
  have hb':Below w.heap.size w W':=hb.trans (Bd.mono hb.size)
  have hl:=Ew p (vs.map (·.f)) id
  refine DZ A (mo+2) z a2 n2 cap2 _ sv S W' hz (hs.below hb') h1 h2 (by omega) (h3.imp _root_.id λ⟨g,e1,e2,e3,e4⟩=>⟨g,e1,Nat.lt_of_lt_of_le e3 Bd.size,λi e=>?_,e4.below Bd e3⟩)
  have:=Je g i e
  have:=hW.size
  omega
 clear hp hR hg hd hs hI
 go_enter func193,ntmps193
 go_wp2_with fail
 go_cut [16] (λv wc=>(∃DX,dI wc A (mo+2) DX (dD z (bw p (vs.map (·.f)) id) S)/\(∀k,k<4->(DX k).ownBlock=(sv k).ownBlock))/\K3 wc w.heap.size (.int .i64 id) (.pointer a) (.int .i64 (z:Int))/\K3 wc (w.heap.size+1) (.bool false) .nilFunc (.string ⟨#[]⟩)/\Fr (G_ A (mo+2) sv) w wc)
 case first=>
  have mH:A<w.heap.size+1:=by omega
  have Xj:∀o':Obj,K3 ((w.alloc (.cells #[.int .i64 id,.pointer a,.int .i64 (z:Int)] 294)).alloc o').drew w.heap.size (.int .i64 id) (.pointer a) (.int .i64 (z:Int)):=λo'=>⟨by simp[go_sem],by simp[go_sem],by simp[go_sem],by simp[go_sem],by simp[go_sem],by simp[go_sem]⟩
  have Xk:∀o:Obj,K3 ((w.alloc o).alloc (.cells #[.bool false,.nilFunc,.string ⟨#[]⟩] 231)).drew (w.heap.size+1) (.bool false) .nilFunc (.string ⟨#[]⟩):=λo=>(K3.new2 w o _ _ _ _).drew
  go_region_with (first
   |(go_at_call 207;refine aq (jh.out _ (hB0 _ _)) ?_;rintro e w2 ⟨a2,n2,cap2,rfl,Yp,hb2⟩;dsimp only;have hB2:Below w.heap.size w w2:=(hB0 _ _).trans (hb2.mono (by simp;omega));have hr2:=(hB2.cell (p:=⟨A,mo,none⟩) hA).trans hro;have q0:=(hb2.cell (p:=⟨w.heap.size,0,none⟩) (by simp;omega)).trans (show _=some (Value.int .i64 id)by simp[go_sem]);have q1:=(hb2.cell (p:=⟨w.heap.size,1,none⟩) (by simp;omega)).trans (show _=some (Value.pointer a)by simp[go_sem]);have q2:=(hb2.cell (p:=⟨w.heap.size,2,none⟩) (by simp;omega)).trans (show _=some (Value.int .i64 (z:Int))by simp[go_sem]))
   |(go_at_call 206;refine aq (Yp.out _ bK) ?_;rintro e w3 ⟨rfl,sv3,h31,h32,h33⟩;dsimp only;have H31:Hid _:=h31;have H32:Hid _:=h32;have Xy:Hid _:=h33;clear h31 h32 h33))
  all_goals
   go_wp2_with fail
   go_meet
   refine⟨⟨sv3,H31.out,H32.out⟩,((Xj _).below hb2 aM).fr Xy.out (λi e=>?_),((Xk _).below hb2 aM).fr Xy.out (λi e=>?_),(Fr.of_below hB2).trans Xy.out⟩
   ·have:=Je _ _ e;omega
   ·have:=Je _ _ e;omega
 case rest=>
  obtain⟨⟨DX,h1,h2⟩,k0,k1,hF⟩:=hcut
  have H1:Hid _:=h1
  have H2:Hid _:=h2
  have HF:=af hF
  have hsz:=hF.size
  have l1:w.heap.size+1<wc.heap.size:=k1.lt
  have vr:=af k1
  obtain⟨c0,c1,c2,f0,f1,f2⟩:=k0
  clear h1 h2 hF k1
  by_cases h3:z=3
  ·subst h3
   go_wp2_with (go_at_call 190;refine(nP _ _ _ _).mono ?_;rintro e w2 ⟨rfl,hb2⟩;dsimp only;have h_:Hid (K3 w2 (w.heap.size+1) (.bool false) .nilFunc (.string ⟨#[]⟩)):=vr.out.below hb2 aM;have d0:=h_.out.c0;have d1:=h_.out.c1;have d2:=h_.out.c2;have g0:=h_.out.f0;have g1:=h_.out.f1;have g2:=h_.out.f2)
   have kk:=nC h_.out (.bool false) (.func (.func 208) #[gL id a 3] #[]) (.string ⟨#[]⟩)
   have hV:=frV wc w2 w.heap.size (Fr.of_below hb2) (.bool false) (.func (.func 208) #[gL id a 3] #[]) (.string ⟨#[]⟩)
   exact bodyPost_ret (v:=.agg #[.bool false,.func (.func 208) #[gL id a 3] #[],.string ⟨#[]⟩]) (by simp[results,results193,go_sem,kk.c0,kk.c1,kk.c2]) rfl ⟨rfl,DX,H1.out.fr hV (λi _ e=>by omega) (λk g i hk e e'=>by have:=hvs k g hk ((H2.out k hk).symm.trans e);omega),H2.out,HF.out.aC hV (λb i hb e=>by omega)⟩
  ·have hz3:((z:Int)==3)=false:=by rw[beq_eq_false_iff_ne];omega
   have hzz:(z:Int)<3:=by omega
   have WE:Hid (K3 (wc.setCell ⟨w.heap.size,2,none⟩ (.int .i64 ((z:Int)+1))) (w.heap.size+1) (.bool false) .nilFunc (.string ⟨#[]⟩)):=vr.out.fr (jQ w.heap.size wc 2 _) (λi e=>by have:w.heap.size+1=w.heap.size:=e;omega)
   go_wp2_with (go_at_call 190;refine(nP _ _ _ _).mono ?_;rintro e w2 ⟨rfl,hb2⟩;dsimp only;have h_:Hid (K3 w2 (w.heap.size+1) (.bool false) .nilFunc (.string ⟨#[]⟩)):=WE.out.below hb2 aM;have d0:=h_.out.c0;have d1:=h_.out.c1;have d2:=h_.out.c2;have g0:=h_.out.f0;have g1:=h_.out.f1;have g2:=h_.out.f2)
   have kk:=nC h_.out (.bool false) (.func (.func 193) #[gL id a ((z:Int)+1)] #[]) (.string ⟨#[]⟩)
   have hV:=frV wc w2 w.heap.size (((Fr.refl _ wc).setCell (b:=w.heap.size) (i:=2) (.inl aM) _).trans (Fr.of_below hb2)) (.bool false) (.func (.func 193) #[gL id a ((z:Int)+1)] #[]) (.string ⟨#[]⟩)
   have lH:C1 id a z=.func (.func 193) #[gL id a ((z:Int)+1)] #[]:=by unfold C1;rw[if_neg h3];rfl
   exact bodyPost_ret (v:=.agg #[.bool false,.func (.func 193) #[gL id a ((z:Int)+1)] #[],.string ⟨#[]⟩]) (by simp[results,results193,go_sem,kk.c0,kk.c1,kk.c2]) rfl ⟨by rw[lH],DX,H1.out.fr hV (λi _ e=>by omega) (λk g i hk e e'=>by have:=hvs k g hk ((H2.out k hk).symm.trans e);omega),H2.out,HF.out.aC hV (λb i hb e=>by omega)⟩
variable {w:World} {x:kf} {a:fW}
theorem N8{A:Nat}(h:au w A x a):
  Calls prog 176 #[.pointer (some ⟨A,0,none⟩)] w (eZ A x a (aV a.g .bad) w):=
 (FH _ w).mono λ_ _ ⟨he,hb⟩=>⟨x.I,x.sv,he,.still h hb⟩
theorem Ke{A:Nat}(h:au w A x a)(t:Tl)(m:ByteArray)(ht:t.good):
  Calls prog 174 #[kZ t m 0 none,.pointer (some ⟨A,0,none⟩)] w (eZ A x a (aV a.g (.look t m)) w):=by
 cases e:oP t (a.g.S.ks (az t))with
 |none=>
  rw[fJ e]
  exact(Jy A 0 t (gQ ht) m 0 none x.sv a.g.S w h.sh (zN e)).mono λ_ _ ⟨he,hb⟩=>⟨_,_,x.I,x.sv,he,rfl,.still h hb⟩
 |some r=>
  obtain⟨b,ks⟩:=r
  have hok:=(lD h.ok.g (s:=.look t m) ht).1
  rw[fK e]at hok⊢
  obtain⟨i,k,h1,h2,rfl,rfl⟩:=oG e
  refine(M8 A 0 t (gQ ht) m 0 none x.sv a.g.S i k w h.gl h.sh h1 h2 (h.ok.g.body _ k (nM t) (List.mem_of_getElem? h2)) h.A8.1 (λb hb=>(h.fD (az t+1) b (by have:=nM t;omega) (by rw[fE x A _ (nM t)];exact hb)).2.1)).mono ?_
  rintro e w' ⟨rfl,v',hs,hfr,hf⟩
  exact⟨x.I,_,rfl,h.Rw (nM t) hok hs hfr hf⟩
theorem Kf{A:Nat}(h:au w A x a)(t:Tl)(m:ByteArray)(aG:Int):
  Calls prog 191 #[kZ t m aG none,.pointer (some ⟨A,0,none⟩)] w (eZ A x a (aV a.g (.note t m aG)) w):=by
 cases e:a.g.lk with
 |true=>
  rw[kF e]
  exact(C2 A 0 t m aG none w (by have:=h.lk;rwa[e]at this)).mono λ_ _ ⟨he,hb⟩=>⟨he,hb⟩
 |false=>
  rw[kG e]
  obtain⟨ro,r0,r1⟩:=h.root
  refine(JD A 0 t m aG none ro w (by have:=h.lk;rwa[e]at this) r0).mono ?_
  rintro e' w' ⟨rfl,hb⟩
  exact⟨_,_,x.I,x.sv,rfl,⟨ro,rfl,r1.same (Same.of_below hb (λb hb=>(h.lt b hb).2))⟩,.still h hb⟩
theorem Kc{A:Nat}(h:au w A x a)(id:Int)(p:Option aW)(q:Option Addr)(hq:jt x.I w q p):
  Calls prog 175 #[gL id q 0,.pointer (some ⟨A,0,none⟩)] w (eZ A x a (aV a.g (.lock id p)) w):=by
 have hA:=h.A8
 cases e:a.g.lk with
 |true=>
  rw[kD e]
  exact(CV A 0 id 0 q w (by have:=h.lk;rwa[e]at this)).mono λ_ _ ⟨he,hb⟩=>⟨he,hb⟩
 |false=>
  rw[kE e]
  refine(Jw A 0 id 0 q w (by have:=h.lk;rwa[e]at this) h.lf).mono ?_
  rintro e' w' ⟨rfl,h1,h2,hf⟩
  have hF:Fr (GM A x) w w':=hf.mono λc j e=> .inl ⟨e.1,by have:=e.2;omega⟩
  have t_:∀b i,x.I b->¬(b=A/\i=0+1):=λb i hb e=>(h.fD 0 A (by omega) (eu x A)).1 (by rw[<-e.1];exact hb)
  have hS:Same x.I w w':=Same.fr hf (λb hb=>(h.lt b hb).2) t_
  obtain⟨ro,r0,r1⟩:=h.root
  refine⟨_,_,x.I,x.sv,rfl,⟨q,rfl,hq.same hS⟩,⟨h.ground (g':={a.g with lk:=true}) ⟨h.ok.g.fs,h.ok.g.r0,h.ok.g.r8,h.ok.g.len,h.ok.g.body⟩ hF ⟨ro,(hf.cell A 0 hA.2 (λe=>by omega)).trans r0,r1.same hS⟩ ((hf.frozen A 0 hA.2 (λe=>by omega)).trans h.rf) h1 h2 (h.sh.fr hf (λi _ e=>by omega) (λk g i hk e e'=>?_)) (λ_ h=>h) (λb hb=> .inl hb) (λ_ _ _ h=> .inl h),u_.same w x,hF⟩⟩
  exact h.apart 0 (k+1) A (by omega) (by omega) (by omega) (eu x A) (by rw[fE x A k hk,<-e'.1];exact e)
theorem Dw{A:Nat}(h:au w A x a)(id:Int)(p:Option aW)(q:Option Addr)(z:Nat)(hz:z<=3)(Rq:oX id p)(hq:jt x.I w q p):
  Calls prog 193 #[gL id q (z:Int),.pointer (some ⟨A,0,none⟩)] w (eZ A x a (aV a.g (.forget id p z)) w):=by
 have hA:=h.A8
 obtain⟨ro,vs,r0,hR,hfs,hg,hd⟩:=h.FN
 refine(Cq A 0 x.I id q p z ro vs x.sv a.g.S w hz hA.2 r0 (λb hb=>(h.lt b hb).2) hq hR hg hd h.sh).mono ?_
 rintro e w' ⟨rfl,DX,hsh,hown,hf⟩
 rw[hfs]at hsh
 have hF:Fr (GM A x) w w':=hf.mono λc j e=>by
  rcases e with⟨rfl,e⟩|⟨k,hk,e⟩
  ·exact .inl ⟨rfl,by omega⟩
  ·exact .inr ⟨k,hk,e⟩
 have MC:∀i,G_ A (0+2) x.sv A i->3<=i:=λi e=>by
  rcases e with⟨_,e⟩|⟨k,hk,e⟩
  ·omega
  ·exact absurd (show x.own A (k+1)=some A by rw[fE x A k hk];exact e) (h.apart 0 (k+1) A (by omega) (by omega) (by omega) (eu x A))
 have t_:∀b i,x.I b->¬G_ A (0+2) x.sv b i:=λb i hb e=>by
  rcases e with⟨rfl,_⟩|⟨k,hk,e⟩
  ·exact(h.fD 0 _ (by omega) (eu x _)).1 hb
  ·exact(h.fD (k+1) b (by omega) (by rw[fE x A k hk];exact e)).1 hb
 have hS:Same x.I w w':=Same.fr hf (λb hb=>(h.lt b hb).2) t_
 have hok:=(lD h.ok.g (s:=.forget id p z) ⟨Rq,hz⟩).1
 have gM:u_ w x x.I DX:=⟨λ_ h=>h,λ_ h=> .inl h,λk b hk e=> .inl (by rw[<-hown k hk];exact e)⟩
 have hat:iK A x a {a.g with S:=dD z (bw p a.g.fs id) a.g.S} w w' x.I DX:=by
  obtain⟨ro,r0,r1⟩:=h.root
  exact⟨h.ground hok hF ⟨ro,(hf.cell A 0 hA.2 (λe=>by have:=MC _ e;omega)).trans r0,r1.same hS⟩ ((hf.frozen A 0 hA.2 (λe=>by have:=MC _ e;omega)).trans h.rf) ((hf.cell A 1 hA.2 (λe=>by have:=MC _ e;omega)).trans h.lk) ((hf.frozen A 1 hA.2 (λe=>by have:=MC _ e;omega)).trans h.lf) hsh (λ_ h=>h) (λb hb=> .inl hb) gM.sv,gM,hF⟩
 show eZ A x a (.next (if z=3 then .finish id p else .forget id p (z+1)),_) w _ w'
 by_cases h3:z=3
 ·rw[if_pos h3,show C1 id q z=.func (.func 208) #[gL id q 3] #[] from if_pos h3]
  exact⟨_,_,x.I,DX,rfl,⟨q,rfl,hq.same hS⟩,hat⟩
 ·rw[if_neg h3,show C1 id q z=.func (.func 193) #[gL id q ((z+1:Nat):Int)] #[] from if_neg h3]
  exact⟨_,_,x.I,DX,rfl,⟨q,rfl,hq.same hS⟩,hat⟩
theorem Dv{A:Nat}(h:au w A x a)(id:Int)(p:Option aW)(q:Option Addr)(Rq:oX id p)(hq:jt x.I w q p):
  Calls prog 208 #[gL id q 3,.pointer (some ⟨A,0,none⟩)] w (eZ A x a (aV a.g (.finish id p)) w):=by
 have hA:=h.A8
 obtain⟨ro,vs,r0,hR,hfs,hg,hd⟩:=h.FN
 have Ba:¬x.I A:=(h.fD 0 A (by omega) (eu x A)).1
 refine(Ci A 0 x.I id q p ro vs w hA.2 Ba r0 h.rf ⟨_,h.lk⟩ h.lf (λb hb=>(h.lt b hb).2) hq Rq hR hg).mono ?_
 rintro e w' ⟨rfl,⟨lz,q1,us,q2,q3,q4,q6,q7⟩,q5,hf⟩
 have hF:Fr (GM A x) w w':=hf.mono λc j e=> .inl ⟨e.1,by have:=e.2;omega⟩
 have hS:Same x.I w w':=Same.fr hf (λb hb=>(h.lt b hb).2) (λb i hb e=>Ba (by rw[<-e.1];exact hb))
 have hok:=(lD h.ok.g (s:=.finish id p) Rq).1
 have hsz:=hf.size
 have gM:u_ w x (iM x.I (w.heap.size+2) w'.heap.size) x.sv:=⟨λ_ h=> .inl h,λ_ h=>h.imp _root_.id (λe=>by omega),λ_ _ _ h=> .inl h⟩
 rw[hfs]
 refine⟨iM x.I (w.heap.size+2) w'.heap.size,x.sv,rfl,⟨h.ground hok hF ⟨lz,q1,(vs.filter λv=>!(v.f.id==id))++us,q2,?_,λv hv=>?_⟩ q6 q5 q7 (h.sh.fr hf (λi _ e=>by omega) (λk g i hk e e'=>?_)) gM.i0 (λb hb=>?_) gM.sv,gM,hF⟩⟩
 ·show List.map _ _=(a.g.fs.filter λf=>!(f.id==id))++p.toList
  rw[List.map_append,q3,<-hfs]
  congr 1
  rw[List.filter_map]
  rfl
 ·rcases List.mem_append.1 hv with hv|hv
  ·exact((hg v (List.mem_filter.1 hv).1).same hS).mono (λb hb=> .inl hb)
  ·exact((q4 v hv).same hS).mono (λb hb=> .inl hb)
 ·exact h.apart 0 (k+1) A (by omega) (by omega) (by omega) (eu x A) (by rw[fE x A k hk,<-e'.1];exact e)
 ·rcases hb with hb|hb
  ·exact .inl hb
  ·refine .inr ⟨by omega,hb.2,λk hk e=>?_⟩
   have:=(h.fD (k+1) b (by omega) (by rw[fE x A k hk];exact e)).2.2
   omega
theorem Kb{A:Nat}(h:au w A x a)(t:Tl)(m:ByteArray)(aG:Int)(ro:Option Addr)(fs:List aW)(ht:t.good)(hfs:Bl fs)(hro:kM x.I w ro fs):
  Calls prog 205 #[kZ t m aG ro,.pointer (some ⟨A,0,none⟩)] w (eZ A x a (aV a.g (.draw t m aG fs)) w):=by
 have hA:=h.A8
 have hI:∀b,x.I b->b<w.heap.size:=λb hb=>(h.lt b hb).2
 have hsize:=pN hfs.valid t
 obtain⟨vs,hR,hm,hg⟩:=hro
 have hB:∀W,Below w.heap.size w W->Calls prog 32 #[.agg #[.pointer ro],.agg #[.int .i64 t.z,.int .i64 t.c,.int .i64 t.r]] W λe w'=>e=.returned (.string (aX fs t))/\Below W.heap.size W w':=λW hW=>by
  refine(G7 x.I ro vs t.z t.c t.r W (λb hb=>Nat.lt_of_lt_of_le (hI b hb) hW.size) (aT.same hR (Same.of_below hW hI)) (λv hv=>Good.same (Same.of_below hW hI) (hg v hv)) (PC (by rw[hm];exact hfs.EC)) ht).mono ?_
  rintro e w' ⟨rfl,hb⟩
  refine⟨?_,hb⟩
  rw[B1 hm]
  rfl
 have hT:∀W,Gl W->Calls prog 188 #[kZ t m aG ro,.string (aX fs t)] W λe w'=>e=.returned (.agg #[.bool false,.nilFunc,.string (bQ m (aX fs t))])/\Below W.heap.size W w':=λW g=>Dz t.z t.c t.r aG m (aX fs t) ro hsize W g
 have hok:=(lD h.ok.g (s:=.draw t m aG fs) ⟨ht,hfs⟩).1
 have hq:=nM t
 show Calls _ _ _ _ (eZ A x a (.answer (bQ m (aX fs t)),if a.g.S.aG (az t)=aG then _ else _) w)
 by_cases tX:a.g.S.aG (az t)=aG
 ·have Zk:vg {a.g with S:=a.g.S.fH (az t) (fQ a.g.S.room t (aX fs t) (a.g.S.ks (az t)))}:=by
   have h1:vg (if a.g.S.aG (az t)=aG then{a.g with S:=a.g.S.fH (az t) (fQ a.g.S.room t (aX fs t) (a.g.S.ks (az t)))}else a.g):=hok
   rwa[if_pos tX]at h1
  rw[if_pos tX]
  have hown:∀b i,n9 A (2+1+az t*2) (x.sv (az t)) b i->b<w.heap.size/\8<=b:=λb i e=>by
   rcases e with⟨rfl,_⟩|e
   ·exact⟨hA.2,hA.1⟩
   ·have:=h.fD (az t+1) b (by omega) (by rw[fE x A _ hq];exact e)
    exact⟨this.2.2,this.2.1⟩
  have hlen:=h.ok.g.len (az t) hq
  have hr8:=h.ok.g.r8
  refine(Cc A 0 t m (aX fs t) aG ro (n9 A (2+1+az t*2) (x.sv (az t))) (λW w'=>∃v',gu w' A (2+1+az t*2) v' (fQ a.g.S.room t (aX fs t) (a.g.S.ks (az t)))/\(∀g,v'.ownBlock=some g->(x.sv (az t)).ownBlock=some g\/W.heap.size<=g)) w h.gl hA.2 hown hB (λW hW=>?_) hT).mono ?_
  ·have hs:=h.sh.below hW
   have hk:=Ie A 2 (az t) t (aX fs t) (x.sv (az t)) (a.g.S.ks (az t)) aG a.g.S.room W (hs.sh _ hq) hs.room (by rw[<-tX];exact(hs.aG _ hq).1) (by omega) (λW'=>sB A 2 t (gQ ht) W')
   exact hk.mono λe w' ⟨he,v',h1,h2,h3⟩=>⟨he,⟨v',h1,h2⟩,h3⟩
  ·rintro e w' ⟨rfl,W1,W2,hb1,hsz,⟨v',hs',hv'⟩,hf2,hf3⟩
   have hlt:∀g,v'.ownBlock=some g->(x.sv (az t)).ownBlock=some g\/w.heap.size<=g:=λg e=>(hv' g e).imp _root_.id (λh=>by omega)
   have hF:Fr (n9 A (2+1+az t*2) (x.sv (az t))) w w':=((Fr.of_below hb1).trans hf2).aC hf3 (λb i hb e=>by omega)
   refine⟨x.I,_,rfl,h.Rw hq Zk (hs'.fr hf3 (λe=>by omega) (λg i e e'=>?_)) hlt hF⟩
   rcases hv' g e with k|k
   ·have:=(hown g i (.inr k)).1;omega
   ·omega
 ·rw[if_neg tX]
  refine(Cc A 0 t m (aX fs t) aG ro (λ_ _=>False) (λ_ _=>True) w h.gl hA.2 (λ_ _ e=>e.elim) hB (λW hW=>?_) hT).mono ?_
  ·exact(Ea A 2 t (gQ ht) (aX fs t) aG x.sv a.g.S W (h.sh.below hW) tX).mono λe w' ⟨he,hb⟩=>⟨he,trivial,Fr.of_below hb⟩
  ·rintro e w' ⟨rfl,W1,W2,hb1,hsz,_,hf2,hf3⟩
   have hF:Fr (λb _=>b=w.heap.size+1) w w':=((Fr.of_below hb1).trans (hf2.mono λ_ _ e=>e.elim)).trans hf3
   refine⟨x.I,x.sv,rfl,⟨h.fr hF (λb i e=>⟨by omega,λhb=>by have:=(h.lt b hb).2;omega,λ⟨i,hi,e'⟩=>by have:=(h.fD i b hi e').2.2;omega⟩),u_.same w x,hF.C0 (λb i hb e=>by omega)⟩⟩
theorem Du{A:Nat}(h:au w A x a){st:mz}(hst:jP st){f:Nat}{b:Array Value}(hv:fX x.I w st (.func (.func f) b #[])):
  Calls prog f (b.push (.pointer (some ⟨A,0,none⟩))) w (eZ A x a (aV a.g st) w):=by
 cases st with
 |bad=>cases hv;exact N8 h
 |look t m=>cases hv;exact Ke h t m hst
 |note t m aG=>cases hv;exact Kf h t m aG
 |draw t m aG fs=>obtain⟨ro,e,k⟩:=hv;cases e;exact Kb h t m aG ro fs hst.1 hst.2 k
 |lock id p=>obtain⟨q,e,k⟩:=hv;cases e;exact Kc h id p q k
 |forget id p z=>obtain⟨q,e,k⟩:=hv;cases e;exact Dw h id p q z hst.2 hst.1 k
 |finish id p=>obtain⟨q,e,k⟩:=hv;cases e;exact Dv h id p q hst k
variable {n:Nat}
theorem BW{A:Nat}(h:au w A x a)(hn:n<4)(lH:(a.ss n).nx=none){t:ByteArray}{q:List ByteArray}(hq:(a.ss n).q=t::q):
  Calls prog 119 #[.pointer (some ⟨A,11+n*3,none⟩)] w λe w'=>e=.returned (.bool true)/\∃y,au w' A y (a.set a.g n {a.ss n with q:=q,nx:=some (eK (cm t))})/\Ext A w x y/\Fr (oJ A x) w w'/\y.av n=x.av n:=by
 have hA:=h.A8
 have hs:=h.lB n hn
 have hok:=h.ok.ss n hn
 have Vv:x.nv n=.nilFunc:=by have:=hs.nx;rw[lH]at this;exact this
 have hch:=hs.q.ch
 have h1:=hs.q.c1
 rw[Vv]at h1
 rw[hq]at hch
 have hcb:=h.fD (n+5) (x.cb n) (by omega) (eN x A n hn)
 refine(Eu A (11+n*3) (x.cb n) 6 (x.sn n) (x.rn n) _ t (hok.q t (by rw[hq];simp)) w h.gl hcb.2.1 hs.q.c0 h1 hs.f1 hch (by simp) (by simp)).mono ?_
 rintro e w' ⟨rfl,f,b,c1,f1,SI,U6,hf⟩
 refine⟨rfl,?_⟩
 have hne:x.cb n≠A:=λe=>h.apart 0 (n+5) A (by omega) (by omega) (by omega) (eu x A) (by rw[eN x A n hn,e])
 have hF:Fr (SM A x n) w w':=hf.mono λb i e=>by
  rcases e with⟨rfl,_⟩|⟨rfl,e⟩
  ·exact .inr (.inl rfl)
  ·exact .inl ⟨rfl,by omega,by omega⟩
 have hw:ct {a.ss n with q:=q,nx:=some (eK (cm t))}<=6:=by
  have:=hok.w
  rw[cH]at this⊢
  rw[lH,hq]at this
  show q.length+1<=6
  simp[sZ]at this
  omega
 have gM:Array.extract ((List.map Value.string (t::q)).toArray) 1 ((List.map Value.string (t::q)).toArray).size=(q.map .string).toArray:=by
  simp
  exact List.take_of_length_le (by simp)
 rw[gM]at U6
 refine⟨x.lB n (iM x.I w.heap.size w'.heap.size) (x.av n) (.func f b #[]) (x.sn n) (x.rn n+1),h.rz hn (s':={a.ss n with q:=q,nx:=some (eK (cm t))}) ⟨λy hy=>hok.q y (by rw[hq];exact List.mem_cons_of_mem _ hy),hw,λs e=>(by cases e;exact jJ (jd t)),hok.an⟩ hF ⟨⟨?_,?_,?_,?_,.inr ⟨f,b,?_⟩⟩,f1,?_,?_⟩ (λ_ h=> .inl h) (λb' hb=>?_) (λb' hb=>⟨?_,.inl hb⟩),Ext.lB (λ_ h=>h.imp _root_.id (λe=>e.1)) (λ_ h=> .inl h),hF.mono λb i e=>SM.own hn e,aJ _ _ _⟩
 ·exact(hf.cell A _ hA.2 (λe=>by rcases e with⟨e,_⟩|⟨_,e⟩;exact hne e.symm;omega)).trans hs.q.c0
 ·show _=some (d_ x.nv n _ n)
  rw[aJ]
  exact c1
 ·show _=some (Obj.chan 6 _ false (d_ x.sn n _ n) (d_ x.rn n _ n) false)
  rw[aJ,aJ]
  exact U6
 ·have:=hok.w
  rw[cH,hq]at this
  simp at this⊢
  omega
 ·show d_ x.nv n _ n=_
  rw[aJ]
 ·show rQ (iM x.I w.heap.size w'.heap.size) _ (some (eK (cm t))) (d_ x.nv n _ n)
  rw[aJ]
  exact LU SI (jd t)
 ·show jM _ A _ (d_ x.av n _ n) _
  rw[aJ]
  refine hs.an.fr hf (λe=>?_) (λg i e e'=>?_)
  ·rcases e with⟨e,_⟩|⟨_,e⟩
   ·exact hne e.symm
   ·omega
  ·rcases e' with⟨rfl,_⟩|⟨rfl,_⟩
   ·exact h.apart (n+5) (n+9) _ (by omega) (by omega) (by omega) (eN x A n hn) (by rw[eM];exact e)
   ·exact hs.an.ne e
 ·rcases hb with hb|hb
  ·exact .inl hb
  ·refine .inr ⟨hb.1,hb.2,λe=>?_⟩
   have:=(h.fD (n+9) b' (by omega) (by rw[eM];exact e)).2.2
   omega
 ·have:=(h.fD (n+9) b' (by omega) (by rw[eM];exact hb)).2.2
  exact Nat.lt_of_lt_of_le this hF.size
def vD(A:Nat)(x:kf)(r:Bool×fW)(w:World)(e:Ending)(w':World):Prop:=
 e=.returned (.bool r.1)/\∃y,au w' A y r.2/\Ext A w x y/\Fr (oJ A x) w w'
theorem N5(a:fW)(n:Nat):a.set a.g n (a.ss n)=a:=by
 cases a with
 |mk g ss=>
  show fW.mk g (λk=>if k=n then ss n else ss k)=fW.mk g ss
  congr 1
  funext k
  by_cases h:k=n
  ·rw[if_pos h,h]
  ·rw[if_neg h]
theorem set_set(a:fW)(g g':Gr)(n:Nat)(s s':rJ):({a.set g n s with g:=g'}:fW).set g' n s'=a.set g' n s':=by
 show fW.mk g' _=fW.mk g' _
 congr 1
 funext k
 by_cases h:k=n
 ·rw[if_pos h,if_pos h]
 ·rw[if_neg h,if_neg h]
  show(if k=n then s else a.ss k)=_
  rw[if_neg h]
theorem LM{A:Nat}(h:au w A x a)(hn:n<4){st:mz}(lH:(a.ss n).nx=some st)(oL:(a.ss n).an.length+1<=4000000):
  Calls prog 77 #[.pointer (some ⟨A,11+n*3,none⟩),.pointer (some ⟨A,0,none⟩)] w (vD A x (kW a n (a.ss n) st) w):=by
 have hs:=h.lB n hn
 have hst:jP st:=(h.ok.ss n hn).nx st lH
 have hv:fX x.I w st (x.nv n):=by have:=hs.nx;rw[lH]at this;exact this
 obtain⟨f,b,hfb,hE⟩:=hv.fn
 rw[hfb]at hv
 have hc:w.cell? ⟨A,11+n*3+1,none⟩=some (.func (.func f) b #[]):=by rw[<-hfb];exact hs.q.c1
 have hC:=Du h hst hv
 have MD:=(lD h.ok.g hst).2
 have hsame:{a.ss n with nx:=some st}=a.ss n:=by
  cases e:a.ss n with
  |mk q nx an=>rw[e]at lH;simp only at lH;rw[lH]
 unfold kW
 generalize aV a.g st=r at hC MD
 obtain⟨res,g⟩:=r
 cases res with
 |blocked=>
  refine(AP A (11+n*3) 0 f b w h.A8.2 hc hE (hC.mono λe w' hp=>hp)).mono ?_
  rintro e w' ⟨rfl,hb⟩
  refine⟨rfl,x,?_,Ext.refl A w x,Fr.of_below hb⟩
  show au w' A x (a.set a.g n {a.ss n with nx:=some st})
  rw[hsame,N5]
  exact h.below hb
 |next st'=>
  refine(Fx A (11+n*3) 0 f b (λf' b' w1=>∃I1 kP,fX I1 w1 st' (.func f' b' #[])/\iK A x a g w w1 I1 kP) w hc hE (hC.mono ?_)).mono ?_
  ·rintro e w1 ⟨f',b',I1,kP,rfl,h1,h2⟩
   refine⟨f',b',rfl,⟨I1,kP,h1,h2⟩,?_,(h2.at'.lB n hn).f1⟩
   have:=(h2.at'.lB n hn).q.c1
   rw[<-hfb]
   exact this
  ·rintro e w' ⟨rfl,f',b',w1,⟨I1,kP,h1,h2⟩,rfl⟩
   obtain⟨y,hy,gM,hfr⟩:=h2.at'.G2 hn (MD st' rfl) h1 ⟨st,lH⟩ (.cells #[.bool false,.func f' b' #[],.string ⟨#[]⟩] 231)
   exact⟨rfl,y,hy,h2.ext.ext.trans gM h2.fr.size,(h2.fr.mono λb i e=>GM.own e).own hfr h2.ext.ext⟩
 |answer an=>
  refine(Dd A (11+n*3) 0 f b an (x.av n) ((a.ss n).an.map .string) (λw1=>∃I1 kP,iK A x a g w w1 I1 kP) w hc hE (by rw[List.length_map];omega) (hC.mono ?_) ?_).mono ?_
  ·rintro e w1 ⟨I1,kP,rfl,h2⟩
   exact⟨rfl,I1,kP,h2⟩
  ·rintro w1 ⟨I1,kP,h2⟩
   have hs1:=h2.at'.lB n hn
   refine⟨⟨?_,hs1.f1⟩,hs1.an⟩
   have:=hs1.q.c1
   rw[<-hfb]
   exact this
  ·rintro e w' ⟨rfl,w1,v',⟨I1,kP,h2⟩,k1,k2,k3,k4,k5⟩
   obtain⟨y,hy,gM,hfr⟩:=h2.at'.zz hn ⟨st,lH⟩ oL k1 k2 k3 k4 k5
   exact⟨rfl,y,hy,h2.ext.ext.trans gM h2.fr.size,(h2.fr.mono λb i e=>GM.own e).own hfr h2.ext.ext⟩
theorem N0(a:fW)(g g':Gr)(n:Nat)(s:rJ)(F:rJ->rJ):({a.set g n s with g:=g'}:fW).set g' n (F (({a.set g n s with g:=g'}:fW).ss n))=a.set g' n (F s):=by
 have e:({a.set g n s with g:=g'}:fW).ss n=s:=if_pos rfl
 rw[e,set_set]
theorem yc{A:Nat}(h:au w A x a)(hn:n<4)(lH:(a.ss n).nx=none){t:ByteArray}{q:List ByteArray}(hq:(a.ss n).q=t::q)(oL:(a.ss n).an.length+1<=4000000):
  Calls prog 77 #[.pointer (some ⟨A,11+n*3,none⟩),.pointer (some ⟨A,0,none⟩)] w (vD A x (kW a n {a.ss n with q:=q} (eK (cm t))) w):=by
 have hs:=h.lB n hn
 have Vv:x.nv n=.nilFunc:=by have:=hs.nx;rw[lH]at this;exact this
 have hc:w.cell? ⟨A,11+n*3+1,none⟩=some .nilFunc:=by rw[<-Vv];exact hs.q.c1
 have hst:jP (eK (cm t)):=jJ (jd t)
 generalize ZC:eK (cm t)=st at hst
 have hB:=BW h hn lH hq
 rw[ZC]at hB
 have MD:=(lD h.ok.g hst).2
 have Xf:(a.set a.g n {a.ss n with q:=q,nx:=some st}).ss n={a.ss n with q:=q,nx:=some st}:=if_pos rfl
 have hX:∀(w0:World) (y:kf),au w0 A y (a.set a.g n {a.ss n with q:=q,nx:=some st})->∃f b,w0.cell? ⟨A,11+n*3+1,none⟩=some (.func (.func f) b #[])/\y.nv n=.func (.func f) b #[]/\Enters f/\Calls prog f (b.push (.pointer (some ⟨A,0,none⟩))) w0 (eZ A y (a.set a.g n {a.ss n with q:=q,nx:=some st}) (aV a.g st) w0):=λw0 y hy=>by
  have hs0:=hy.lB n hn
  rw[Xf]at hs0
  have hv:fX y.I w0 st (y.nv n):=hs0.nx
  obtain⟨f,b,hfb,hE⟩:=hv.fn
  rw[hfb]at hv
  exact⟨f,b,by rw[<-hfb];exact hs0.q.c1,hfb,hE,Du hy hst hv⟩
 unfold kW
 generalize aV a.g st=r at hX MD
 obtain⟨res,g⟩:=r
 cases res with
 |blocked=>
  refine(pW A (11+n*3) 0 (λw0=>∃y,au w0 A y (a.set a.g n {a.ss n with q:=q,nx:=some st})/\Ext A w x y/\Fr (oJ A x) w w0/\y.av n=x.av n) w hc hB ?_).mono ?_
  ·rintro w0 ⟨y,hy,_⟩
   obtain⟨f,b,h1,_,h2,h3⟩:=hX w0 y hy
   exact⟨f,b,h1,h2,h3.mono λe w' hp=>hp⟩
  ·rintro e w' ⟨rfl,w0,⟨y,hy,gM,hfr,_⟩,hb⟩
   exact⟨rfl,y,hy.below hb,gM,hfr.trans (Fr.of_below hb)⟩
 |next st'=>
  refine(uj A (11+n*3) 0 (λw0=>∃y,au w0 A y (a.set a.g n {a.ss n with q:=q,nx:=some st})/\Ext A w x y/\Fr (oJ A x) w w0/\y.av n=x.av n) (λw0 f' b' w1=>∃y,(au w0 A y (a.set a.g n {a.ss n with q:=q,nx:=some st})/\Ext A w x y/\Fr (oJ A x) w w0)/\∃I1 kP,fX I1 w1 st' (.func f' b' #[])/\iK A y (a.set a.g n {a.ss n with q:=q,nx:=some st}) g w0 w1 I1 kP) w hc hB ?_).mono ?_
  ·rintro w0 ⟨y,hy,gM,hfr,_⟩
   obtain⟨f,b,h1,hfb,h2,h3⟩:=hX w0 y hy
   refine⟨f,b,h1,h2,h3.mono ?_⟩
   rintro e w1 ⟨f',b',I1,kP,rfl,k1,k2⟩
   refine⟨f',b',rfl,⟨y,⟨hy,gM,hfr⟩,I1,kP,k1,k2⟩,?_,(k2.at'.lB n hn).f1⟩
   have:=(k2.at'.lB n hn).q.c1
   rw[<-hfb]
   exact this
  ·rintro e w' ⟨rfl,w0,_,f',b',w1,⟨y,⟨hy,gM,hfr⟩,I1,kP,k1,k2⟩,rfl⟩
   obtain⟨z,hz,Mn,hfr2⟩:=k2.at'.G2 hn (MD st' rfl) k1 ⟨st,by show((a.set a.g n _).ss n).nx=_;rw[Xf]⟩ (.cells #[.bool false,.func f' b' #[],.string ⟨#[]⟩] 231)
   have pT:=(hfr.own (k2.fr.mono λb i e=>GM.own e) gM)
   have Cz:=gM.trans k2.ext.ext hfr.size
   refine⟨rfl,z,?_,Cz.trans Mn pT.size,pT.own hfr2 Cz⟩
   have:=N0 a a.g g n {a.ss n with q:=q,nx:=some st} (λs=>{s with nx:=some st'})
   exact Eq.mp (congrArg (au _ A z) this) hz
 |answer an=>
  refine(qX A (11+n*3) 0 (x.av n) ((a.ss n).an.map .string) (λw0=>∃y,au w0 A y (a.set a.g n {a.ss n with q:=q,nx:=some st})/\Ext A w x y/\Fr (oJ A x) w w0/\y.av n=x.av n) (λw0 WS w1=>WS=an/\∃y,(au w0 A y (a.set a.g n {a.ss n with q:=q,nx:=some st})/\Ext A w x y/\Fr (oJ A x) w w0/\y.av n=x.av n)/\∃I1 kP,iK A y (a.set a.g n {a.ss n with q:=q,nx:=some st}) g w0 w1 I1 kP) w hc (by rw[List.length_map];omega) hB ?_).mono ?_
  ·rintro w0 ⟨y,hy,gM,hfr,UX⟩
   obtain⟨f,b,h1,hfb,h2,h3⟩:=hX w0 y hy
   refine⟨f,b,h1,h2,h3.mono ?_⟩
   rintro e w1 ⟨I1,kP,rfl,k2⟩
   have hs1:=k2.at'.lB n hn
   refine⟨an,rfl,⟨rfl,y,⟨hy,gM,hfr,UX⟩,I1,kP,k2⟩,⟨?_,hs1.f1⟩,?_⟩
   ·have:=hs1.q.c1
    rw[<-hfb]
    exact this
   ·have h5:jM w1 A (11+n*3) (y.av n) (((a.set a.g n {a.ss n with q:=q,nx:=some st}).ss n).an.map .string):=hs1.an
    rw[UX,Xf]at h5
    exact h5
  ·rintro e w' ⟨rfl,w0,_,WS,w1,v',⟨rfl,y,⟨hy,gM,hfr,UX⟩,I1,kP,k2⟩,k3,k4,k5,k6,k7⟩
   have YN:({a.set a.g n {a.ss n with q:=q,nx:=some st}with g:=g}:fW).ss n={a.ss n with q:=q,nx:=some st}:=Xf
   obtain⟨z,hz,Mn,hfr2⟩:=k2.at'.zz hn (an:=WS) (v':=v') ⟨st,by rw[YN]⟩ (by rw[YN];exact oL) (by rw[YN];exact k3) (by intro k hk;rw[<-UX]at k4;exact k4 k hk) k5 k6 (by rw[<-UX]at k7;exact k7)
   have pT:=(hfr.own (k2.fr.mono λb i e=>GM.own e) gM)
   have Cz:=gM.trans k2.ext.ext hfr.size
   refine⟨rfl,z,?_,Cz.trans Mn pT.size,pT.own hfr2 Cz⟩
   have:=N0 a a.g g n {a.ss n with q:=q,nx:=some st} (λs=>{s with nx:=none,an:=s.an++[WS]})
   exact Eq.mp (congrArg (au _ A z) this) hz
theorem Fw{A:Nat}(h:au w A x a)(hn:n<4)(oL:(a.ss n).an.length+1<=4000000):
  Calls prog 77 #[.pointer (some ⟨A,11+n*3,none⟩),.pointer (some ⟨A,0,none⟩)] w (vD A x (fF a n) w):=by
 unfold fF
 cases lH:(a.ss n).nx with
 |some st=>exact LM h hn lH oL
 |none=>
  cases hq:(a.ss n).q with
  |nil=>
   have hs:=h.lB n hn
   have Vv:x.nv n=.nilFunc:=by have:=hs.nx;rw[lH]at this;exact this
   have hch:=hs.q.ch
   have hc:=hs.q.c1
   rw[Vv]at hc
   rw[hq]at hch
   refine(JL A (11+n*3) 0 (x.cb n) 6 (x.sn n) (x.rn n) w hs.q.c0 hc hch).mono ?_
   rintro e w' ⟨rfl,rfl⟩
   exact⟨rfl,x,h,Ext.refl A _ x,Fr.refl _ _⟩
  |cons t q=>exact yc h hn lH hq oL
theorem Ef{A:Nat}(h:au w A x a){n:Nat}(hn:n<4)(oL:(a.ss n).an.length+1<=4000000):
  Calls prog 43 #[.pointer (some ⟨A,0,none⟩),.int .i64 (n:Int)] w λe w'=>e=.returned (.tuple #[.bool (fF a n).1,.int .i64 0])/\∃y,au w' A y (fF a n).2/\Ext A w x y/\Fr (oJ A x) w w':=by
 have hd:Below w.heap.size w w.drew:=(Below.refl _ w).drew
 refine K_ A n (fF a n).1 _ w hn ((Fw (h.below hd) hn oL).mono ?_)
 rintro e w' ⟨rfl,y,hy,gM,hfr⟩
 exact⟨rfl,y,hy,⟨gM.i,gM.own⟩,(Fr.of_below hd).trans hfr⟩
theorem JY(A n:Nat)(hn:n<4)(g off k cap:Nat)(P:World->Prop)(hP:∀w1 w2,P w1->Below w1.heap.size w1 w2->P w2)(w:World)(_hgA:g<w.heap.size)(c0:w.cell? ⟨A,10+n*5,none⟩=some (.slice (some ⟨g,off,none⟩) (k+1) cap))(hr:∀i u,([.int .i64 0,.int .i64 0,.int .i64 0,.int .i64 0,.string ⟨#[]⟩,.int .i64 0,.int .i64 0,.int .i64 0,.int .i64 0,.slice none 0 0]:List Value)[i]? =some u->w.cell? ⟨g,off+i,none⟩=some u)
  (hc:∀W:World,Below w.heap.size w W->Calls prog 112 #[.pointer (some ⟨A,0,none⟩),.int .i64 (n:Int),.string ⟨#[52,48,48]⟩] W λe w'=>e=.returned (.tuple #[])/\P w'):
  Calls prog 70 #[.pointer (some ⟨A,0,none⟩),.int .i64 (n:Int)] w λe w'=>e=.returned (.tuple #[.bool true,.int .i64 0])/\P w':=by
 have pI:Hid (∀W:World,Calls prog 105 #[.int .i64 (n:Int),.int .i64 0,.int .i64 3] W λe w'=>e=.returned (.bool true)/\w'=W):=oB n hn
 have HG:=af hc
 have HP:=af hP
 have t_:(n:Int)<4:=by omega
 have hn0:¬(n:Int)<0:=by omega
 have hk1:¬((k:Int)+1=0):=by omega
 have W9:(((k:Int)+1)==0)=false:=by simpa using hk1
 have lU:(0:Int)<(k:Int)+1:=by omega
 have hkC:(((k+1:Nat):Int)==0)=false:=by simp;omega
 have hkD:(0:Int)<((k+1:Nat):Int):=by omega
 have p0:w.cell? ⟨g,off,none⟩=some (.int .i64 0):=by simpa using hr 0 _ rfl
 have p1:w.cell? ⟨g,off+1,none⟩=some (.int .i64 0):=by simpa using hr 1 _ rfl
 have p2:w.cell? ⟨g,off+2,none⟩=some (.int .i64 0):=by simpa using hr 2 _ rfl
 have p3:w.cell? ⟨g,off+3,none⟩=some (.int .i64 0):=by simpa using hr 3 _ rfl
 have p4:w.cell? ⟨g,off+4,none⟩=some (.string ⟨#[]⟩):=by simpa using hr 4 _ rfl
 have p5:w.cell? ⟨g,off+5,none⟩=some (.int .i64 0):=by simpa using hr 5 _ rfl
 have p6:w.cell? ⟨g,off+6,none⟩=some (.int .i64 0):=by simpa using hr 6 _ rfl
 have p7:w.cell? ⟨g,off+7,none⟩=some (.int .i64 0):=by simpa using hr 7 _ rfl
 have p8:w.cell? ⟨g,off+8,none⟩=some (.int .i64 0):=by simpa using hr 8 _ rfl
 have p9:w.cell? ⟨g,off+9,none⟩=some (.slice none 0 0):=by simpa using hr 9 _ rfl
 have hB0:∀o:Obj,Below w.heap.size w (w.alloc o):=λo=>aU
 clear hc hr hP
 go_enter func70,ntmps70
 go_wp2_with (first
  |(go_at_call 105;refine aq (pI.out _) ?_;rintro e w1 ⟨rfl,hw⟩;subst w1;dsimp only)
  |(go_at_call 112;refine aq (HG.out _ (by first|with_reducible exact hB0 _|with_reducible exact(hB0 _).drew|with_reducible exact bK|with_reducible exact bK.drew)) ?_;rintro e w2 ⟨rfl,jy⟩;dsimp only;have D7:=af jy;clear jy))
 go_ret2
 exact⟨rfl,D7.out⟩
theorem JZ(A n:Nat)(hn:n<4)(g off k cap:Nat)(tz tc tr:Int)(mk:ByteArray)(b:Bool)(P:World->Prop)(hP:∀w1 w2,P w1->Below w1.heap.size w1 w2->P w2)(w:World)(_hgA:g<w.heap.size)(c0:w.cell? ⟨A,10+n*5,none⟩=some (.slice (some ⟨g,off,none⟩) (k+1) cap))(hr:∀i u,([.int .i64 1,.int .i64 tz,.int .i64 tc,.int .i64 tr,.string mk,.int .i64 0,.int .i64 0,.int .i64 0,.int .i64 0,.slice none 0 0]:List Value)[i]? =some u->w.cell? ⟨g,off+i,none⟩=some u)
  (hc:∀W:World,Below w.heap.size w W->Calls prog 113 #[.pointer (some ⟨A,0,none⟩),.int .i64 (n:Int),.agg #[.int .i64 1,.int .i64 tz,.int .i64 tc,.int .i64 tr,.string mk,.int .i64 0,.int .i64 0,.int .i64 0,.int .i64 0,.slice none 0 0]] W λe w'=>e=.returned (.bool b)/\P w'):
  Calls prog 70 #[.pointer (some ⟨A,0,none⟩),.int .i64 (n:Int)] w λe w'=>e=.returned (.tuple #[.bool b,.int .i64 0])/\P w':=by
 have pI:Hid (∀W:World,Calls prog 105 #[.int .i64 (n:Int),.int .i64 0,.int .i64 3] W λe w'=>e=.returned (.bool true)/\w'=W):=oB n hn
 have HG:=af hc
 have HP:=af hP
 have t_:(n:Int)<4:=by omega
 have hn0:¬(n:Int)<0:=by omega
 have hk1:¬((k:Int)+1=0):=by omega
 have W9:(((k:Int)+1)==0)=false:=by simpa using hk1
 have lU:(0:Int)<(k:Int)+1:=by omega
 have hkC:(((k+1:Nat):Int)==0)=false:=by simp;omega
 have hkD:(0:Int)<((k+1:Nat):Int):=by omega
 have p0:w.cell? ⟨g,off,none⟩=some (.int .i64 1):=by simpa using hr 0 _ rfl
 have p1:w.cell? ⟨g,off+1,none⟩=some (.int .i64 tz):=by simpa using hr 1 _ rfl
 have p2:w.cell? ⟨g,off+2,none⟩=some (.int .i64 tc):=by simpa using hr 2 _ rfl
 have p3:w.cell? ⟨g,off+3,none⟩=some (.int .i64 tr):=by simpa using hr 3 _ rfl
 have p4:w.cell? ⟨g,off+4,none⟩=some (.string mk):=by simpa using hr 4 _ rfl
 have p5:w.cell? ⟨g,off+5,none⟩=some (.int .i64 0):=by simpa using hr 5 _ rfl
 have p6:w.cell? ⟨g,off+6,none⟩=some (.int .i64 0):=by simpa using hr 6 _ rfl
 have p7:w.cell? ⟨g,off+7,none⟩=some (.int .i64 0):=by simpa using hr 7 _ rfl
 have p8:w.cell? ⟨g,off+8,none⟩=some (.int .i64 0):=by simpa using hr 8 _ rfl
 have p9:w.cell? ⟨g,off+9,none⟩=some (.slice none 0 0):=by simpa using hr 9 _ rfl
 have hB0:∀o:Obj,Below w.heap.size w (w.alloc o):=λo=>aU
 clear hc hr hP
 go_enter func70,ntmps70
 go_wp2_with (first
  |(go_at_call 105;refine aq (pI.out _) ?_;rintro e w1 ⟨rfl,hw⟩;subst w1;dsimp only)
  |(go_at_call 113;refine aq (HG.out _ (by first|with_reducible exact hB0 _|with_reducible exact(hB0 _).drew|with_reducible exact bK|with_reducible exact bK.drew)) ?_;rintro e w2 ⟨rfl,jy⟩;dsimp only;have D7:=af jy;clear jy))
 go_ret2
 exact⟨rfl,D7.out⟩
theorem Dj(A n:Nat)(hn:n<4)(g off k cap:Nat)(k0 id kd ht col:Int)(hk0:k0=2\/k0=3)(pa:Option Addr)(pn pc:Nat)(b:Bool)(P:World->Prop)(hP:∀w1 w2,P w1->Below w1.heap.size w1 w2->P w2)(w:World)(_hgA:g<w.heap.size)(c0:w.cell? ⟨A,10+n*5,none⟩=some (.slice (some ⟨g,off,none⟩) (k+1) cap))(hr:∀i u,([.int .i64 k0,.int .i64 0,.int .i64 0,.int .i64 0,.string ⟨#[]⟩,.int .i64 id,.int .i64 kd,.int .i64 ht,.int .i64 col,.slice pa pn pc]:List Value)[i]? =some u->w.cell? ⟨g,off+i,none⟩=some u)
  (hc:∀W:World,Below w.heap.size w W->Calls prog 114 #[.pointer (some ⟨A,0,none⟩),.int .i64 (n:Int),.agg #[.int .i64 k0,.int .i64 0,.int .i64 0,.int .i64 0,.string ⟨#[]⟩,.int .i64 id,.int .i64 kd,.int .i64 ht,.int .i64 col,.slice pa pn pc]] W λe w'=>e=.returned (.bool b)/\P w'):
  Calls prog 70 #[.pointer (some ⟨A,0,none⟩),.int .i64 (n:Int)] w λe w'=>e=.returned (.tuple #[.bool b,.int .i64 0])/\P w':=by
 have pI:Hid (∀W:World,Calls prog 105 #[.int .i64 (n:Int),.int .i64 0,.int .i64 3] W λe w'=>e=.returned (.bool true)/\w'=W):=oB n hn
 have HG:=af hc
 have HP:=af hP
 have t_:(n:Int)<4:=by omega
 have hn0:¬(n:Int)<0:=by omega
 have hk1:¬((k:Int)+1=0):=by omega
 have W9:(((k:Int)+1)==0)=false:=by simpa using hk1
 have lU:(0:Int)<(k:Int)+1:=by omega
 have hkC:(((k+1:Nat):Int)==0)=false:=by simp;omega
 have hkD:(0:Int)<((k+1:Nat):Int):=by omega
 have p0:w.cell? ⟨g,off,none⟩=some (.int .i64 k0):=by simpa using hr 0 _ rfl
 have p1:w.cell? ⟨g,off+1,none⟩=some (.int .i64 0):=by simpa using hr 1 _ rfl
 have p2:w.cell? ⟨g,off+2,none⟩=some (.int .i64 0):=by simpa using hr 2 _ rfl
 have p3:w.cell? ⟨g,off+3,none⟩=some (.int .i64 0):=by simpa using hr 3 _ rfl
 have p4:w.cell? ⟨g,off+4,none⟩=some (.string ⟨#[]⟩):=by simpa using hr 4 _ rfl
 have p5:w.cell? ⟨g,off+5,none⟩=some (.int .i64 id):=by simpa using hr 5 _ rfl
 have p6:w.cell? ⟨g,off+6,none⟩=some (.int .i64 kd):=by simpa using hr 6 _ rfl
 have p7:w.cell? ⟨g,off+7,none⟩=some (.int .i64 ht):=by simpa using hr 7 _ rfl
 have p8:w.cell? ⟨g,off+8,none⟩=some (.int .i64 col):=by simpa using hr 8 _ rfl
 have p9:w.cell? ⟨g,off+9,none⟩=some (.slice pa pn pc):=by simpa using hr 9 _ rfl
 have hB0:∀o:Obj,Below w.heap.size w (w.alloc o):=λo=>aU
 clear hc hr hP
 rcases hk0 with rfl|rfl
 ·go_enter func70,ntmps70
  go_wp2_with (first
   |(go_at_call 105;refine aq (pI.out _) ?_;rintro e w1 ⟨rfl,hw⟩;subst w1;dsimp only)
   |(go_at_call 114;refine aq (HG.out _ (by first|with_reducible exact hB0 _|with_reducible exact(hB0 _).drew|with_reducible exact bK|with_reducible exact bK.drew)) ?_;rintro e w2 ⟨rfl,jy⟩;dsimp only;have D7:=af jy;clear jy))
  go_ret2
  exact⟨rfl,D7.out⟩
 ·go_enter func70,ntmps70
  go_wp2_with (first
   |(go_at_call 105;refine aq (pI.out _) ?_;rintro e w1 ⟨rfl,hw⟩;subst w1;dsimp only)
   |(go_at_call 114;refine aq (HG.out _ (by first|with_reducible exact hB0 _|with_reducible exact(hB0 _).drew|with_reducible exact bK|with_reducible exact bK.drew)) ?_;rintro e w2 ⟨rfl,jy⟩;dsimp only;have D7:=af jy;clear jy))
  go_ret2
  exact⟨rfl,D7.out⟩
end
end Go.Proofs.YtenaepdmlknlcaaGreatDoor
