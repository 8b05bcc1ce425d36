import Derived.Deep.CutBlock
import Derived.Test.YtenaepdmlknlcaaGreatDoorG15
import Derived.Test.YtenaepdmlknlcaaGreatDoorG17
open Go.Proofs.Tryz
set_option maxRecDepth 100000
set_option maxHeartbeats 8000000
namespace Go.Proofs.YtenaepdmlknlcaaGreatDoor
section
open Go.RowKit Go.Shelf
theorem Hh(w:World):
  Calls prog 151 #[.agg dZ.toArray] w λe w'=>e=.returned (.func (.func 176) #[] #[])/\Below w.heap.size w w':=by
 unfold dZ
 go_enter func151,ntmps151
 go_wp2
 go_ret
 exact⟨rfl,aU⟩
theorem Hj(t:Tl)(m:ByteArray)(w:World):
  Calls prog 151 #[.agg #[.int .i64 1,.int .i64 t.z,.int .i64 t.c,.int .i64 t.r,.string m,.int .i64 0,.int .i64 0,.int .i64 0,.int .i64 0,.slice none 0 0,.int .i64 0]] w λe w'=>e=.returned (.func (.func 174) #[kZ t m 0 none] #[])/\Below w.heap.size w w':=by
 go_enter func151,ntmps151
 go_wp2
 go_ret
 exact⟨rfl,aU⟩
theorem Hi(id:Int)(w:World):
  Calls prog 151 #[.agg #[.int .i64 3,.int .i64 0,.int .i64 0,.int .i64 0,.string ⟨#[]⟩,.int .i64 0,.int .i64 0,.int .i64 0,.int .i64 0,.slice none 0 0,.int .i64 id]] w λe w'=>e=.returned (.func (.func 175) #[gL id none 0] #[])/\Below w.heap.size w w':=by
 go_enter func151,ntmps151
 go_wp2
 go_ret
 exact⟨rfl,aU⟩
theorem Ho(id kd ht col:Int)(a:Option Addr)(n cap:Nat)(w:World):
  Calls prog 151 #[.agg #[.int .i64 2,.int .i64 0,.int .i64 0,.int .i64 0,.string ⟨#[]⟩,.int .i64 id,.int .i64 kd,.int .i64 ht,.int .i64 col,.slice a n cap,.int .i64 0]] w λe w'=>e=.returned (.func (.func 175) #[gL id (some ⟨w.heap.size,5,none⟩) 0] #[])/\KA w' w.heap.size [.int .i64 2,.int .i64 0,.int .i64 0,.int .i64 0,.string ⟨#[]⟩,.int .i64 id,.int .i64 kd,.int .i64 ht,.int .i64 col,.slice a n cap,.int .i64 0]/\w'.heap.size=w.heap.size+1/\Below w.heap.size w w':=by
 go_enter func151,ntmps151
 go_wp2
 go_ret
 exact⟨rfl,KA.new _ _ _,by simp,aU⟩
end
section
open Go.Conc Go.RowKit Go.Shelf
def rN(n0:Nat)(w':World):Rd->Value->Prop
 | .bad,v=>v=.func (.func 176) #[] #[]
 | .get t m,v=>v=.func (.func 174) #[kZ t m 0 none] #[]
 | .del id,v=>v=.func (.func 175) #[gL id none 0] #[]
 | .put f,v=>∃(R:Nat) (a:Option Addr) (n cap:Nat),v=.func (.func 175) #[gL f.id (some ⟨R,5,none⟩) 0] #[]/\n0<=R/\KA w' R [.int .i64 2,.int .i64 0,.int .i64 0,.int .i64 0,.string ⟨#[]⟩,.int .i64 f.id,.int .i64 f.kd,.int .i64 f.ht,.int .i64 f.col,.slice a n cap,.int .i64 0]/\n=f.ps.length/\n<=cap/\bV w'.heap.size w' a f.ps/\∀g o,a=some ⟨g,o,none⟩->n0<=g/\o=0
variable {M:Nat->Nat->Prop} {W W':World} {n0:Nat} {rd:Rd}
theorem rN.fr(hf:Fr M W W'){v:Value}(h:rN n0 W rd v)(hM:∀k j,n0<=k->¬M k j):rN n0 W' rd v:=by
 cases rd with
 |bad=>exact h
 |get t m=>exact h
 |del id=>exact h
 |put f=>
  obtain⟨R,a,n,cap,e,h1,h2,h3,h4,h5,h6⟩:=h
  exact⟨R,a,n,cap,e,h1,h2.fr hf (λi=>hM R i h1),h3,h4,h5.fr hf (λg o i ea=>hM g i (h6 g o ea).1),h6⟩
theorem He(n0:Nat)(rd:Rd)(vs:Array Value)(w:World)(hn:n0<=w.heap.size)(h:sR n0 w rd vs):
  Calls prog 151 #[.agg vs] w λe w'=>∃f b,e=.returned (.func f b #[])/\rN n0 w' rd (.func f b #[])/\Below w.heap.size w w':=by
 cases rd with
 |bad=>
  have h':vs=dZ.toArray:=h
  subst h'
  exact(Hh w).mono λ_ _ ⟨he,hb⟩=>⟨_,_,he,rfl,hb⟩
 |get t m=>
  have h':vs=_:=h
  subst h'
  exact(Hj t m w).mono λ_ _ ⟨he,hb⟩=>⟨_,_,he,rfl,hb⟩
 |del id=>
  have h':vs=_:=h
  subst h'
  exact(Hi id w).mono λ_ _ ⟨he,hb⟩=>⟨_,_,he,rfl,hb⟩
 |put f=>
  obtain⟨a,n,cap,rfl,h1,h2,h3,h4⟩:=h
  exact(Ho f.id f.kd f.ht f.col a n cap w).mono λ_ w' ⟨he,hk,_,hb⟩=>⟨_,_,he,⟨w.heap.size,a,n,cap,rfl,hn,hk,h1,h2,h3.fr (M:=λ_ _=>False) (Fr.of_below hb) (λ_ _ _ _ e=>e),h4⟩,hb⟩
theorem VT:(Tryz.f152.name=="runtime.NumGoroutine")=false:=by decide
theorem VS:(Tryz.f151.name=="runtime.NumGoroutine")=false:=by decide
theorem Eu(A o c cap sn r:Nat)(buf:Array Value)(s:ByteArray)(hs:s.size<=200)(w:World)(g:Gl w)(h8:8<=c)(hc:w.cell? ⟨A,o,none⟩=some (.chan (some c)))(hn:w.cell? ⟨A,o+1,none⟩=some .nilFunc)(hf:w.frozen? ⟨A,o+1,none⟩=false)(hch:w.heap[c]? =some (.chan cap buf false sn r false))(hb:0<buf.size)(hb0:buf.getD 0 undef=.string s):
  Calls prog 119 #[.pointer (some ⟨A,o,none⟩)] w λe w'=>e=.returned (.bool true)/\∃f b,w'.cell? ⟨A,o+1,none⟩=some (.func f b #[])/\w'.frozen? ⟨A,o+1,none⟩=false/\rN w.heap.size w' (cm s) (.func f b #[])/\w'.heap[c]? =some (.chan cap (buf.extract 1 buf.size) false sn (r+1) false)/\Fr (λk j=>(k=c/\j=0)\/(k=A/\j=o+1)) w w':=by
 have hA:A<w.heap.size:=dz w _ hc
 have hcl:c<w.heap.size:=(Array.getElem?_eq_some_iff.1 hch).1
 have Kt:A≠c:=λe=>by subst e;simp[World.cell?,hch]at hc
 have hsz:(w.setChan c cap (buf.extract 1 buf.size) false sn (r+1) false).heap.size=w.heap.size:=size_setChan _ _ _ _ _ _ _ _
 have hW1:Fr (λk j=>k=c/\j=0) w (w.setChan c cap (buf.extract 1 buf.size) false sn (r+1) false):=(Fr.refl _ w).setChan (.inl ⟨rfl,rfl⟩) _ _ _ _ _ _ ⟨_,_,_,_,_,_,hch⟩
 have YB:Gl (w.setChan c cap (buf.extract 1 buf.size) false sn (r+1) false):=g.fr hW1 (λk j hk e=>by omega)
 refine calls_of_loneTo λcs=>?_
 have e:Frame.enter prog 119 #[.pointer (some ⟨A,o,none⟩)] .normal=(base 119).at ⟨#[.pointer (some ⟨A,o,none⟩),undef,undef,undef,undef,undef,undef,undef,undef,undef,undef,undef,undef,undef,undef,undef,undef,undef],[]⟩ [.code (Tryz.f119.body.getD .skip)]:=by
  simp[Frame.enter,Frame.at,func119,base,Tryz.f119]
 rw[e]
 refine LoneTo.goes (n:=12) ?_
 simp only[Tryz.f119,Option.getD_some]
 s_c stepG_seq
 s_reg
 s_op
 s_c stepG_region_end
 s_c stepG_seq
 s_reg
 s_op
 s_op
 s_op
 s_op
 s_c stepG_region_end
 s_c stepG_seq
 s_stop
 refine LoneTo.goes (n:=1) ?_
 s_reg
 s_stop
 refine LoneTo.step (step_lone_select_recv_buf (c:=c) (z:=.string ⟨#[]⟩) (cap:=cap) (s:=sn) (r:=r) (tm:=false) (stepG_comm (cases:=#[rcase c (.string ⟨#[]⟩)]) (blocking:=false) (shape:=.select) (w':=w) rfl rfl (by decide) (by simp[go_sem,execOp,rcase,Act.eval])) hch hb) ?_
 rw[Frame.finish_at,hb0]
 walk_nrm
 refine LoneTo.goes (n:=12) ?_
 s_op
 s_op
 s_c stepG_region_end
 s_c stepG_block
 s_cond true
 s_c stepG_seq
 s_reg
 s_op
 s_op
 s_c stepG_region_end
 s_c stepG_seq
 s_stop
 refine LoneTo.goes (n:=4) ?_
 s_reg
 s_op
 s_op
 s_in
 refine goes_call rfl rfl (by decide) rfl func152 VT rfl ⟨trivial,?_⟩
 s_stop
 rw[<-enter_at _ func152 rfl]
 simp only[List.map_toArray,List.map_cons,List.map_nil,Act.eval]
 refine LoneTo.call (Lf s hs _ YB) ?_
 rintro _ w2 ⟨vs,rfl,hrd,hb2⟩
 refine⟨_,rfl,?_⟩
 rw[Frame.finish_at]
 walk_nrm
 refine LoneTo.goes (n:=1) ?_
 s_in
 refine goes_call rfl rfl (by decide) rfl func151 VS rfl ⟨trivial,?_⟩
 s_stop
 rw[<-enter_at _ func151 rfl]
 simp only[List.map_toArray,List.map_cons,List.map_nil,Act.eval]
 refine LoneTo.call (He _ _ vs _ hb2.size hrd) ?_
 rintro _ w3 ⟨f,b,rfl,SI,hb3⟩
 refine⟨_,rfl,?_⟩
 rw[Frame.finish_at]
 walk_nrm
 rw[hsz]at hb2 SI
 have hs2:w.heap.size<=w2.heap.size:=by have:=hb2.size;rw[hsz]at this;exact this
 have aav:Below w2.heap.size w2 w3:=hb3
 have hF2:Fr (λk j=>k=c/\j=0) w w2:=hW1.trans (Fr.of_below (by rw[hsz];exact hb2))
 have ij:Fr (λk j=>k=c/\j=0) w w3:=hF2.trans (Fr.of_below hb3)
 have c3:w3.cell? ⟨A,o+1,none⟩=some .nilFunc:=(ij.cell A _ hA (λe=>Kt e.1)).trans hn
 have f3:w3.frozen? ⟨A,o+1,none⟩=false:=(ij.frozen A _ hA (λe=>Kt e.1)).trans hf
 have q3:w3.heap[c]? =some (.chan cap (buf.extract 1 buf.size) false sn (r+1) false):=(hb3.block c (by omega)).trans ((hb2.block c (by omega)).trans (heap_setChan w c cap _ false sn (r+1) false hcl))
 refine LoneTo.goes (n:=12) ?_
 s_op
 s_op
 s_op
 s_c stepG_region_end
 s_c stepG_seq
 s_reg
 s_op
 s_c stepG_region_end
 s_c stepG_ret'
 s_stop
 refine LoneTo.done ⟨.returned (.bool true),_,rfl,⟨rfl,f,b,cell_eq c3 _,by rw[World.frozen?_setCell];exact f3,SI.fr (jQ A w3 (o+1) _) (λk j hk e=>by have:k=A:=e;omega),?_,?_⟩,rfl,rfl,rfl,rfl,_,func119,by simp[results,Tryz.f119,Frame.at]⟩
 ·rw[Below.heap_setCell _ _ _ _ (λe=>Kt e.symm)];exact q3
 ·exact(ij.mono λk j e=> .inl e).setCell (b:=A) (i:=o+1) (.inl (.inr ⟨rfl,rfl⟩)) _
end
section
open Go.RowKit Go.Shelf
theorem NI(A:Nat)(n:Int)(hn:fP n 0 3=false)(x:ByteArray)(w:World):Calls prog 69 #[.pointer (some ⟨A,0,none⟩),.int .i64 n,.string x] w λe w'=>e=.returned (.int .i64 2)/\w'=w:=by
 have pI:Hid (∀W:World,Calls prog 105 #[.int .i64 n,.int .i64 0,.int .i64 3] W λe w'=>e=.returned (.bool false)/\w'=W):=λW=>by
  have:=dM n 0 3 W
  rw[hn]at this
  exact this
 go_enter func69,ntmps69
 go_wp2_with (go_at_call 105;refine aq (pI.out _) ?_;rintro e w1 ⟨rfl,hw⟩;subst w1;dsimp only)
 go_ret
 exact⟨rfl,rfl⟩
theorem oB(n:Nat)(hn:n<4)(W:World):Calls prog 105 #[.int .i64 (n:Int),.int .i64 0,.int .i64 3] W λe w'=>e=.returned (.bool true)/\w'=W:=by
 have:=dM (n:Int) 0 3 W
 rw[show fP (n:Int) 0 3=true by unfold fP;exact decide_eq_true (by omega)]at this
 exact this
theorem FD(A n:Nat)(hn:n<4)(a:Option Addr)(cap:Nat)(x:ByteArray)(w:World)(c0:w.cell? ⟨A,10+n*5,none⟩=some (.slice a 6 cap)):Calls prog 69 #[.pointer (some ⟨A,0,none⟩),.int .i64 (n:Int),.string x] w λe w'=>e=.returned (.int .i64 3)/\w'=w:=by
 have pI:Hid (∀W:World,Calls prog 105 #[.int .i64 (n:Int),.int .i64 0,.int .i64 3] W λe w'=>e=.returned (.bool true)/\w'=W):=oB n hn
 have t_:(n:Int)<4:=by omega
 have hn0:¬(n:Int)<0:=by omega
 go_enter func69,ntmps69
 go_wp2_with (go_at_call 105;refine aq (pI.out _) ?_;rintro e w1 ⟨rfl,hw⟩;subst w1;dsimp only)
 go_ret
 exact⟨rfl,rfl⟩
theorem FE(A n:Nat)(hn:n<4)(a:Option Addr)(k cap:Nat)(hk:k<6)(x:ByteArray)(hx:200<x.size)(w:World)(c0:w.cell? ⟨A,10+n*5,none⟩=some (.slice a k cap)):Calls prog 69 #[.pointer (some ⟨A,0,none⟩),.int .i64 (n:Int),.string x] w λe w'=>e=.returned (.int .i64 1)/\w'=w:=by
 have pI:Hid (∀W:World,Calls prog 105 #[.int .i64 (n:Int),.int .i64 0,.int .i64 3] W λe w'=>e=.returned (.bool true)/\w'=W):=oB n hn
 have t_:(n:Int)<4:=by omega
 have hn0:¬(n:Int)<0:=by omega
 have Jh:((k:Int)==6)=false:=by simp;omega
 have Zb:¬(k:Int)=6:=by omega
 have hxI:(x.size:Int)>200:=by omega
 go_enter func69,ntmps69
 go_wp2_with (go_at_call 105;refine aq (pI.out _) ?_;rintro e w1 ⟨rfl,hw⟩;subst w1;dsimp only)
 go_ret
 exact⟨rfl,rfl⟩
def yz(ql:Nat->Nat):Nat->Nat
 |0=>0
 |n+1=>yz ql n+ql n
theorem G3(ql:Nat->Nat)(h:∀n,n<4->ql n<=6):∀n,n<=4->yz ql n<=n*6
 |0,_=>by simp[yz]
 |n+1,hn=>by
  have:=G3 ql h n (by omega)
  have:=h n (by omega)
  simp only[yz]
  omega
theorem JV(A:Nat)(aa:Option Addr)(an ac:Nat)(lock:Int)(qa:Nat->Option Addr)(ql qc:Nat->Nat)(Rs:∀n,n<4->ql n<=6)(_hal:an<=1000)(w:World)(hA:w.cell? ⟨A,1,none⟩=some (.slice aa an ac))(hL:w.cell? ⟨A,30,none⟩=some (.int .i64 lock))(hQ:∀n,n<4->w.cell? ⟨A,10+n*5,none⟩=some (.slice (qa n) (ql n) (qc n))):
  Calls prog 72 #[.pointer (some ⟨A,0,none⟩)] w λe w'=>e=.returned (.agg #[.int .i64 (an:Int),.bool (decide (0<=lock)),.int .i64 (yz ql 4:Int)])/\Below w.heap.size w w':=by
 have HQ:=af hQ
 have Hql:=af Rs
 have HSm:Hid (∀n,n<=4->yz ql n<=n*6):=G3 ql Rs
 have mK:=dz w ⟨A,1,none⟩ hA
 clear hQ Rs
 go_enter func72,ntmps72
 go_wp2_with fail
 go_region
 all_goals go_wp2
 all_goals
  go_loopw [4] (λi wr=>∃k:Nat,k<=4/\i=.int .i64 k/\K3 wr w.heap.size (.int .i64 0) (.bool false) (.int .i64 0)/\K3 wr (w.heap.size+1) (.int .i64 (an:Int)) (.bool (decide (0<=lock))) (.int .i64 (yz ql k:Int))/\Below w.heap.size w wr) (λi _=>4-(intOf i).toNat)
  case atStart=>
   refine⟨0,Nat.zero_le _,rfl,?_,?_,?_⟩
   ·exact(K3.new w (.int .i64 0) (.bool false) (.int .i64 0) 77).below (aU.drew) aM
   ·have h:=K3.new (w.alloc (.cells #[.int .i64 0,.bool false,.int .i64 0] 77)) (.int .i64 (an:Int)) (.bool (decide (0<=lock))) (.int .i64 0) 77
    rw[World.size_alloc]at h
    exact h.below (bK.drew) aM
   ·exact((((Below.refl _ w).alloc aM _).alloc (by simp) _).drew)
  case round=>
   obtain⟨k,hk,rfl,h1,h2,hb⟩:=hrel
   have H1:=af h1
   have H2:=af h2
   have HB:=af hb
   obtain⟨a0,a1,a2,af0,af1,af2⟩:=h1
   obtain⟨b0,b1,b2,bf0,bf1,bf2⟩:=h2
   by_cases hlt:k<4
   ·have hq:wr.cell? ⟨A,10+k*5,none⟩=some (.slice (qa k) (ql k) (qc k)):=(hb.cell (p:=⟨A,10+k*5,none⟩) mK).trans (HQ.out k hlt)
    have lU:(k:Int)<4:=by omega
    have hk0:¬(k:Int)<0:=by omega
    have h6:=Hql.out k hlt
    have hs:=HSm.out k hk
    clear hb
    go_wp2_with fail
    go_region
    all_goals go_wp2
    all_goals
     go_roundw
     case rel=>
      refine⟨k+1,by omega,by go_num,?_,?_,?_⟩
      ·exact(H1.out.fr (jQ (w.heap.size+1) wr 2 _) (λi e=>by have e':w.heap.size=w.heap.size+1:=e;omega)).below (bK.drew) aM
      ·exact⟨(aK _ _ (.inr (by decide))).trans b0,(aK _ _ (.inr (by decide))).trans b1,cell_eq b2 _,by show(World.setCell _ _ _).frozen? _=_;rw[World.frozen?_setCell];exact bf0,by show(World.setCell _ _ _).frozen? _=_;rw[World.frozen?_setCell];exact bf1,by show(World.setCell _ _ _).frozen? _=_;rw[World.frozen?_setCell];exact bf2⟩
      ·exact(HB.out.setCell (p:=⟨w.heap.size+1,2,none⟩) (by simp) _).drew
     case measure=>simp[intOf];omega
   ·have lU:¬(k:Int)<4:=by omega
    obtain rfl:k=4:=by omega
    clear hb
    go_wp2
    exact bodyPost_ret (v:=.agg #[.int .i64 (an:Int),.bool (decide (0<=lock)),.int .i64 (yz ql 4:Int)]) (by simp[results,results72,go_sem,a0,a1,a2]) rfl ⟨rfl,(by repeat(first|with_reducible exact HB.out|with_reducible refine Below.setCell ?_ (by simp<;>omega) _|with_reducible refine Below.drew ?_))⟩
end
end Go.Proofs.YtenaepdmlknlcaaGreatDoor
