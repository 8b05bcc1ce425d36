import Derived.Test.YtenaepdmlknlcaaGreatDoorG40
import Derived.Test.YtenaepdmlknlcaaGreatDoorG41
import Derived.Test.YtenaepdmlknlcaaGreatDoorG42
open Go.Proofs.Tryz
set_option maxRecDepth 100000
set_option maxHeartbeats 8000000
namespace Go.Proofs.YtenaepdmlknlcaaGreatDoor
section
open Go.RowKit Go.Shelf
variable {w:World} {vq vn va:Value} {st ag:Int}
theorem SC.QI{A n:Nat}(h:SC w A n vq st ag vn va)(oQ:Value):SC (w.setCell ⟨A,10+n*5,none⟩ oQ) A n oQ st ag vn va:=
 ⟨cell_eq h.cq _,(aP (by omega)).trans h.cs,(aP (by omega)).trans h.cg,(aP (by omega)).trans h.cn,(aP (by omega)).trans h.ca,λi hi=>by rw[World.frozen?_setCell];exact h.f i hi⟩
def rS(A n:Nat)(vq:Value)(st ag:Int)(vn va:Value)(k:Nat)(qs:List Value)(x:ByteArray)(w:World)(e:Ending)(w':World):Prop:=
 e=.returned (.int .i64 0)/\∃(oQ:Value) (cs:List Value),cs.length=10/\Ik w.heap.size w' (cm x) (.agg cs.toArray)/\SC w' A n oQ st ag vn va/\ak w' 0 220 10 oQ (k+1) (qs++cs)/\(∀b,oQ.ownBlock=some b->vq.ownBlock=some b\/w.heap.size<=b)/\(∀b y f,oQ.ownBlock=some b->cm x=.put f->f.ps≠[]->cs[9]? =some y->y.ownBlock≠some b)/\Fr (λc i=>(c=A/\i=10+n*5)\/vq.ownBlock=some c) w w'
theorem P8:(prog.info? 220).map (λi=>(i.zero,i.size,i.bytes))=some (some (.agg #[.int .i64 0,.int .i64 0,.int .i64 0,.int .i64 0,.string ⟨#[]⟩,.int .i64 0,.int .i64 0,.int .i64 0,.int .i64 0,.slice none 0 0]),10,104):=by kernel_rfl
theorem J1(A n:Nat)(hn:n<4)(vq:Value)(st ag:Int)(vn va:Value)(k:Nat)(hk:k<6)(qs:List Value)(x:ByteArray)(hx:x.size<=200)(w:World)(h:SC w A n vq st ag vn va)(hq:ak w 0 220 10 vq k qs)(yu:vq.ownBlock≠some A):Calls prog 69 #[.pointer (some ⟨A,0,none⟩),.int .i64 (n:Int),.string x] w (rS A n vq st ag vn va k qs x w):=by
 have Wx:=af h
 have pI:Hid (∀W:World,Calls prog 105 #[.int .i64 (n:Int),.int .i64 0,.int .i64 3] W λe w'=>e=.returned (.bool true)/\w'=W):=λW=>by
  have:=dM (n:Int) 0 3 W
  rw[show fP (n:Int) 0 3=true by unfold fP;exact decide_eq_true (by omega)]at this
  exact this
 have O3:Hid (Calls prog 111 #[.string x] w (Ad (cm x) w)):=by have:=J0 x hx w;rw[J2]at this;exact this
 have HQ0:=af hq
 have Uv:=af yu
 obtain⟨a,cap,rfl,hcap,_⟩:=hq.form
 have HC:Hid (SC w A n (.slice a k cap) st ag vn va):=Wx.out
 have HQ:Hid (ak w 0 220 10 (.slice a k cap) k qs):=HQ0.out
 have xQ:Hid ((Value.slice a k cap).ownBlock≠some A):=Uv.out
 have c0:=h.cq
 have t_:(n:Int)<4:=by omega
 have hn0:¬(n:Int)<0:=by omega
 have Jh:((k:Int)==6)=false:=by simp;omega
 have Zb:¬(k:Int)=6:=by omega
 have hxI:¬(x.size:Int)>200:=by omega
 obtain⟨i220,eH,hz0,hz1,hz2⟩:=info_parts P8
 obtain⟨Kl,MJ⟩:∃z,z=Value.agg #[.int .i64 0,.int .i64 0,.int .i64 0,.int .i64 0,.string ⟨#[]⟩,.int .i64 0,.int .i64 0,.int .i64 0,.int .i64 0,.slice none 0 0]:=⟨_,rfl⟩
 obtain⟨kU,Mi⟩:∃b:Nat,b=104:=⟨_,rfl⟩
 have HI:Hid (prog.info? 220=some i220/\i220.zero=some Kl/\i220.size=10/\i220.bytes=kU/\Kl.cells.size=10/\kU=104):=⟨eH,by rw[MJ];exact hz0,hz1,by rw[Mi];exact hz2,by rw[MJ];rfl,Mi⟩
 obtain⟨rr,Zu⟩:∃r,cm x=r:=⟨_,rfl⟩
 have Q8:=af Zu
 rw[Zu]at O3
 clear h hq yu eH hz0 hz1 hz2 MJ Mi Zu Wx HQ0 Uv
 cases rr with
 |bad=>
  have RL:Hid (Calls prog 111 #[.string x] w λe w'=>e=.returned (.agg #[.int .i64 0,.int .i64 0,.int .i64 0,.int .i64 0,.string ⟨#[]⟩,.int .i64 0,.int .i64 0,.int .i64 0,.int .i64 0,.slice none 0 0])/\Ik w.heap.size w' (.bad) (.agg #[.int .i64 0,.int .i64 0,.int .i64 0,.int .i64 0,.string ⟨#[]⟩,.int .i64 0,.int .i64 0,.int .i64 0,.int .i64 0,.slice none 0 0])/\Below w.heap.size w w'):=O3.out.mono (λe w' ⟨v,he,hv,hb⟩=>⟨by rw[he];exact congrArg Ending.returned hv,rfl,hb⟩)
  clear O3
  go_enter func69,ntmps69
  go_wp2_with (first
   |(go_at_call 105;refine aq (pI.out _) ?_;rintro e w1 ⟨rfl,hw⟩;subst w1;dsimp only)
   |(go_at_call 111;refine aq RL.out ?_;rintro e w1 ⟨rfl,hv1,hb1⟩;dsimp only;have eO:=af hb1;have Q0:=af hv1;have rI:Hid (SC w1 A n (.slice a k cap) st ag vn va):=HC.out.fr (M:=λ_ _=>False) (Fr.of_below hb1) (λ_ _ e=>e);have d0:=rI.out.cq;have e0:w1.frozen? ⟨A,10+n*5,none⟩=false:=rI.out.f 0 (by omega);have mH:A<w1.heap.size:=rI.out.lt;clear hb1 hv1))
  go_region_law (refine cB rfl (.tmp 35) (.tmp 37) 210 rfl 220 i220 Kl 10 kU underlying210 HI.out.1 HI.out.2.1 HI.out.2.2.1 HI.out.2.2.2.1 HI.out.2.2.2.2.1 (by decide) 0 (Nat.zero_le _) (.slice a k cap) k qs rfl ((HQ.out.below eO.out).below (by repeat(first|with_reducible exact bK|with_reducible refine Below.drew ?_|with_reducible refine Below.alloc ?_ (by simp) _))) ⟨w1.heap.size+1,0,none⟩ 1 1 [.int .i64 0,.int .i64 0,.int .i64 0,.int .i64 0,.string ⟨#[]⟩,.int .i64 0,.int .i64 0,.int .i64 0,.int .i64 0,.slice none 0 0] rfl rfl (λj u hj=>by
     rw[addr_add,Nat.zero_add]
     have e2:∀o1 o2:Array Value,((w1.alloc (.cells o1 220)).alloc (.cells o2 220)).cell? ⟨w1.heap.size+1,j,none⟩=o2[j]? :=λo1 o2=>by
      have h:=bG (w1.alloc (.cells o1 220)) o2 220 j
      rwa[World.size_alloc]at h
     first
      |(refine(e2 _ _).trans ?_;simpa using hj)
      |(show(World.drew _).cell? _=_;refine(e2 _ _).trans ?_;simpa using hj)) (λu hu=>by simp only[List.mem_cons,List.not_mem_nil,or_false]at hu;rcases hu with hu|hu|hu|hu|hu|hu|hu|hu|hu|hu<;>(rw[hu];rfl)) (by unfold maxLen;omega) (by rw[HI.out.2.2.2.2.2];omega) ?_;intro v3 w3 bp hfr3 ij;obtain⟨g3,o3,dV,rfl,_,wu⟩:=bp.more;have vu:=af bp;have eU:Hid (Fr (λc _=>(Value.slice a k cap).ownBlock=some c) w1 w3):=Fr.trans (Fr.of_below (by repeat(first|with_reducible exact bK|with_reducible refine Below.drew ?_|with_reducible refine Below.alloc ?_ (by simp) _))) ij;have xP:Hid ((Value.slice a k cap).ownBlock=some g3\/w1.heap.size<=g3):=(by have:=hfr3 g3 rfl;rcases this with h|h;exact .inl h;exact .inr (by simp at h;omega));have Yb:w3.cell? ⟨A,10+n*5,none⟩=some (.slice a k cap):=(eU.out.cell A _ mH xQ.out).trans d0;have Yk:w3.frozen? ⟨A,10+n*5,none⟩=false:=(eU.out.frozen A _ mH xQ.out).trans e0;clear bp hfr3 ij)
  all_goals
   have nj:g3≠A:=λe=>by
    rcases xP.out with h|h
    ·rw[e]at h;exact xQ.out h
    ·omega
   have oH:Hid (SC w3 A n (.slice a k cap) st ag vn va):=rI.out.fr eU.out (λi _ e=>xQ.out e)
   go_wp2
   go_ret
   have yj:Fr (λc i=>(c=A/\i=10+n*5)\/(Value.slice a k cap).ownBlock=some c) w1 (w3.setCell ⟨A,10+n*5,none⟩ (.slice (some ⟨g3,o3,none⟩) (k+1) dV)):=(eU.out.mono (λb i e=> .inr e)).setCell (b:=A) (i:=10+n*5) (.inl (.inl ⟨rfl,rfl⟩)) _
   have hSz:=eO.out.size
   have ES:rS A n (.slice a k cap) st ag vn va k qs x w (.returned (.int .i64 0)) (w3.setCell ⟨A,10+n*5,none⟩ (.slice (some ⟨g3,o3,none⟩) (k+1) dV)):=by
    refine⟨rfl,.slice (some ⟨g3,o3,none⟩) (k+1) dV,[.int .i64 0,.int .i64 0,.int .i64 0,.int .i64 0,.string ⟨#[]⟩,.int .i64 0,.int .i64 0,.int .i64 0,.int .i64 0,.slice none 0 0],rfl,?_,oH.out.QI _,vu.out.fr (jQ A w3 _ _) (λb i hb e=>by cases hb;exact nj e),λb hb=>?_,λb y f _ hf=>(by rw[Q8.out]at hf;cases hf),?_⟩
    ·rw[Q8.out]
     refine Ik.fr yj Q0.out (λb i hb e=>?_) aM
     rcases e with e|e
     ·have:=HC.out.lt;omega
     ·have:=(HQ.out.lt e).2;omega
    ·cases hb
     rcases xP.out with h|h
     ·exact .inl h
     ·exact .inr (by show w.heap.size<=g3;omega)
    ·exact(Fr.of_below eO.out).trans yj
   exact ES
 |get t mk=>
  obtain⟨tz,tc,tr⟩:=t
  have RL:Hid (Calls prog 111 #[.string x] w λe w'=>e=.returned (.agg #[.int .i64 1,.int .i64 tz,.int .i64 tc,.int .i64 tr,.string mk,.int .i64 0,.int .i64 0,.int .i64 0,.int .i64 0,.slice none 0 0])/\Ik w.heap.size w' (.get ⟨tz,tc,tr⟩ mk) (.agg #[.int .i64 1,.int .i64 tz,.int .i64 tc,.int .i64 tr,.string mk,.int .i64 0,.int .i64 0,.int .i64 0,.int .i64 0,.slice none 0 0])/\Below w.heap.size w w'):=O3.out.mono (λe w' ⟨v,he,hv,hb⟩=>⟨by rw[he];exact congrArg Ending.returned hv,rfl,hb⟩)
  clear O3
  go_enter func69,ntmps69
  go_wp2_with (first
   |(go_at_call 105;refine aq (pI.out _) ?_;rintro e w1 ⟨rfl,hw⟩;subst w1;dsimp only)
   |(go_at_call 111;refine aq RL.out ?_;rintro e w1 ⟨rfl,hv1,hb1⟩;dsimp only;have eO:=af hb1;have Q0:=af hv1;have rI:Hid (SC w1 A n (.slice a k cap) st ag vn va):=HC.out.fr (M:=λ_ _=>False) (Fr.of_below hb1) (λ_ _ e=>e);have d0:=rI.out.cq;have e0:w1.frozen? ⟨A,10+n*5,none⟩=false:=rI.out.f 0 (by omega);have mH:A<w1.heap.size:=rI.out.lt;clear hb1 hv1))
  go_region_law (refine cB rfl (.tmp 35) (.tmp 37) 210 rfl 220 i220 Kl 10 kU underlying210 HI.out.1 HI.out.2.1 HI.out.2.2.1 HI.out.2.2.2.1 HI.out.2.2.2.2.1 (by decide) 0 (Nat.zero_le _) (.slice a k cap) k qs rfl ((HQ.out.below eO.out).below (by repeat(first|with_reducible exact bK|with_reducible refine Below.drew ?_|with_reducible refine Below.alloc ?_ (by simp) _))) ⟨w1.heap.size+1,0,none⟩ 1 1 [.int .i64 1,.int .i64 tz,.int .i64 tc,.int .i64 tr,.string mk,.int .i64 0,.int .i64 0,.int .i64 0,.int .i64 0,.slice none 0 0] rfl rfl (λj u hj=>by
     rw[addr_add,Nat.zero_add]
     have e2:∀o1 o2:Array Value,((w1.alloc (.cells o1 220)).alloc (.cells o2 220)).cell? ⟨w1.heap.size+1,j,none⟩=o2[j]? :=λo1 o2=>by
      have h:=bG (w1.alloc (.cells o1 220)) o2 220 j
      rwa[World.size_alloc]at h
     first
      |(refine(e2 _ _).trans ?_;simpa using hj)
      |(show(World.drew _).cell? _=_;refine(e2 _ _).trans ?_;simpa using hj)) (λu hu=>by simp only[List.mem_cons,List.not_mem_nil,or_false]at hu;rcases hu with hu|hu|hu|hu|hu|hu|hu|hu|hu|hu<;>(rw[hu];rfl)) (by unfold maxLen;omega) (by rw[HI.out.2.2.2.2.2];omega) ?_;intro v3 w3 bp hfr3 ij;obtain⟨g3,o3,dV,rfl,_,wu⟩:=bp.more;have vu:=af bp;have eU:Hid (Fr (λc _=>(Value.slice a k cap).ownBlock=some c) w1 w3):=Fr.trans (Fr.of_below (by repeat(first|with_reducible exact bK|with_reducible refine Below.drew ?_|with_reducible refine Below.alloc ?_ (by simp) _))) ij;have xP:Hid ((Value.slice a k cap).ownBlock=some g3\/w1.heap.size<=g3):=(by have:=hfr3 g3 rfl;rcases this with h|h;exact .inl h;exact .inr (by simp at h;omega));have Yb:w3.cell? ⟨A,10+n*5,none⟩=some (.slice a k cap):=(eU.out.cell A _ mH xQ.out).trans d0;have Yk:w3.frozen? ⟨A,10+n*5,none⟩=false:=(eU.out.frozen A _ mH xQ.out).trans e0;clear bp hfr3 ij)
  all_goals
   have nj:g3≠A:=λe=>by
    rcases xP.out with h|h
    ·rw[e]at h;exact xQ.out h
    ·omega
   have oH:Hid (SC w3 A n (.slice a k cap) st ag vn va):=rI.out.fr eU.out (λi _ e=>xQ.out e)
   go_wp2
   go_ret
   have yj:Fr (λc i=>(c=A/\i=10+n*5)\/(Value.slice a k cap).ownBlock=some c) w1 (w3.setCell ⟨A,10+n*5,none⟩ (.slice (some ⟨g3,o3,none⟩) (k+1) dV)):=(eU.out.mono (λb i e=> .inr e)).setCell (b:=A) (i:=10+n*5) (.inl (.inl ⟨rfl,rfl⟩)) _
   have hSz:=eO.out.size
   have ES:rS A n (.slice a k cap) st ag vn va k qs x w (.returned (.int .i64 0)) (w3.setCell ⟨A,10+n*5,none⟩ (.slice (some ⟨g3,o3,none⟩) (k+1) dV)):=by
    refine⟨rfl,.slice (some ⟨g3,o3,none⟩) (k+1) dV,[.int .i64 1,.int .i64 tz,.int .i64 tc,.int .i64 tr,.string mk,.int .i64 0,.int .i64 0,.int .i64 0,.int .i64 0,.slice none 0 0],rfl,?_,oH.out.QI _,vu.out.fr (jQ A w3 _ _) (λb i hb e=>by cases hb;exact nj e),λb hb=>?_,λb y f _ hf=>(by rw[Q8.out]at hf;cases hf),?_⟩
    ·rw[Q8.out]
     refine Ik.fr yj Q0.out (λb i hb e=>?_) aM
     rcases e with e|e
     ·have:=HC.out.lt;omega
     ·have:=(HQ.out.lt e).2;omega
    ·cases hb
     rcases xP.out with h|h
     ·exact .inl h
     ·exact .inr (by show w.heap.size<=g3;omega)
    ·exact(Fr.of_below eO.out).trans yj
   exact ES
 |put f=>
  obtain⟨fi,fk,fh,fc,fp⟩:=f
  have RL:Hid (Calls prog 111 #[.string x] w λe w'=>∃(fa:Option Addr) (Cf:Nat),e=.returned (.agg #[.int .i64 2,.int .i64 0,.int .i64 0,.int .i64 0,.string ⟨#[]⟩,.int .i64 fi,.int .i64 fk,.int .i64 fh,.int .i64 fc,.slice fa fp.length Cf])/\Ik w.heap.size w' (.put ⟨fi,fk,fh,fc,fp⟩) (.agg #[.int .i64 2,.int .i64 0,.int .i64 0,.int .i64 0,.string ⟨#[]⟩,.int .i64 fi,.int .i64 fk,.int .i64 fh,.int .i64 fc,.slice fa fp.length Cf])/\Below w.heap.size w w'):=O3.out.mono (λe w' ⟨v,he,hv,hb⟩=>by obtain⟨fa,Cf,e1,h2⟩:=hv;exact⟨fa,Cf,by rw[he,e1],⟨fa,Cf,rfl,h2⟩,hb⟩)
  clear O3
  go_enter func69,ntmps69
  go_wp2_with (first
   |(go_at_call 105;refine aq (pI.out _) ?_;rintro e w1 ⟨rfl,hw⟩;subst w1;dsimp only)
   |(go_at_call 111;refine aq RL.out ?_;rintro e w1 ⟨fa,Cf,rfl,hv1,hb1⟩;dsimp only;have eO:=af hb1;have Q0:=af hv1;have rI:Hid (SC w1 A n (.slice a k cap) st ag vn va):=HC.out.fr (M:=λ_ _=>False) (Fr.of_below hb1) (λ_ _ e=>e);have d0:=rI.out.cq;have e0:w1.frozen? ⟨A,10+n*5,none⟩=false:=rI.out.f 0 (by omega);have mH:A<w1.heap.size:=rI.out.lt;clear hb1 hv1))
  go_region_law (refine cB rfl (.tmp 35) (.tmp 37) 210 rfl 220 i220 Kl 10 kU underlying210 HI.out.1 HI.out.2.1 HI.out.2.2.1 HI.out.2.2.2.1 HI.out.2.2.2.2.1 (by decide) 0 (Nat.zero_le _) (.slice a k cap) k qs rfl ((HQ.out.below eO.out).below (by repeat(first|with_reducible exact bK|with_reducible refine Below.drew ?_|with_reducible refine Below.alloc ?_ (by simp) _))) ⟨w1.heap.size+1,0,none⟩ 1 1 [.int .i64 2,.int .i64 0,.int .i64 0,.int .i64 0,.string ⟨#[]⟩,.int .i64 fi,.int .i64 fk,.int .i64 fh,.int .i64 fc,.slice fa fp.length Cf] rfl rfl (λj u hj=>by
     rw[addr_add,Nat.zero_add]
     have e2:∀o1 o2:Array Value,((w1.alloc (.cells o1 220)).alloc (.cells o2 220)).cell? ⟨w1.heap.size+1,j,none⟩=o2[j]? :=λo1 o2=>by
      have h:=bG (w1.alloc (.cells o1 220)) o2 220 j
      rwa[World.size_alloc]at h
     first
      |(refine(e2 _ _).trans ?_;simpa using hj)
      |(show(World.drew _).cell? _=_;refine(e2 _ _).trans ?_;simpa using hj)) (λu hu=>by simp only[List.mem_cons,List.not_mem_nil,or_false]at hu;rcases hu with hu|hu|hu|hu|hu|hu|hu|hu|hu|hu<;>(rw[hu];rfl)) (by unfold maxLen;omega) (by rw[HI.out.2.2.2.2.2];omega) ?_;intro v3 w3 bp hfr3 ij;obtain⟨g3,o3,dV,rfl,_,wu⟩:=bp.more;have vu:=af bp;have eU:Hid (Fr (λc _=>(Value.slice a k cap).ownBlock=some c) w1 w3):=Fr.trans (Fr.of_below (by repeat(first|with_reducible exact bK|with_reducible refine Below.drew ?_|with_reducible refine Below.alloc ?_ (by simp) _))) ij;have xP:Hid ((Value.slice a k cap).ownBlock=some g3\/w1.heap.size<=g3):=(by have:=hfr3 g3 rfl;rcases this with h|h;exact .inl h;exact .inr (by simp at h;omega));have Yb:w3.cell? ⟨A,10+n*5,none⟩=some (.slice a k cap):=(eU.out.cell A _ mH xQ.out).trans d0;have Yk:w3.frozen? ⟨A,10+n*5,none⟩=false:=(eU.out.frozen A _ mH xQ.out).trans e0;clear bp hfr3 ij)
  all_goals
   have nj:g3≠A:=λe=>by
    rcases xP.out with h|h
    ·rw[e]at h;exact xQ.out h
    ·omega
   have oH:Hid (SC w3 A n (.slice a k cap) st ag vn va):=rI.out.fr eU.out (λi _ e=>xQ.out e)
   go_wp2
   go_ret
   have yj:Fr (λc i=>(c=A/\i=10+n*5)\/(Value.slice a k cap).ownBlock=some c) w1 (w3.setCell ⟨A,10+n*5,none⟩ (.slice (some ⟨g3,o3,none⟩) (k+1) dV)):=(eU.out.mono (λb i e=> .inr e)).setCell (b:=A) (i:=10+n*5) (.inl (.inl ⟨rfl,rfl⟩)) _
   have hSz:=eO.out.size
   have ES:rS A n (.slice a k cap) st ag vn va k qs x w (.returned (.int .i64 0)) (w3.setCell ⟨A,10+n*5,none⟩ (.slice (some ⟨g3,o3,none⟩) (k+1) dV)):=by
    refine⟨rfl,.slice (some ⟨g3,o3,none⟩) (k+1) dV,[.int .i64 2,.int .i64 0,.int .i64 0,.int .i64 0,.string ⟨#[]⟩,.int .i64 fi,.int .i64 fk,.int .i64 fh,.int .i64 fc,.slice fa fp.length Cf],rfl,?_,oH.out.QI _,vu.out.fr (jQ A w3 _ _) (λb i hb e=>by cases hb;exact nj e),λb hb=>?_,λb y f hb hf hne hy hyb=>?_,?_⟩
    ·rw[Q8.out]
     refine Ik.fr yj Q0.out (λb i hb e=>?_) aM
     rcases e with e|e
     ·have:=HC.out.lt;omega
     ·have:=(HQ.out.lt e).2;omega
    ·cases hb
     rcases xP.out with h|h
     ·exact .inl h
     ·exact .inr (by show w.heap.size<=g3;omega)
    ·rw[Q8.out]at hf
     cases hf
     cases hy
     cases hb
     obtain⟨fa2,aam,e1,_,hp,hlo⟩:=Q0.out
     have e2:fa=fa2:=by injection e1 with e1;injection e1 with e1;simp only[List.cons.injEq]at e1;have:=e1.2.2.2.2.2.2.2.2.2.1;injection this
     subst e2
     rcases hp with hp|⟨b2,off2,hp,jy⟩
     ·exact hne hp
     ·subst hp
      have h1:w.heap.size<=b2:=hlo _ rfl
      have h2:b2<w1.heap.size:=jy.1
      have h3:b2=g3:=Option.some.inj hyb
      rcases xP.out with h|h
      ·have:=(HQ.out.lt h).2;omega
      ·omega
    ·exact(Fr.of_below eO.out).trans yj
   exact ES
 |del id=>
  have RL:Hid (Calls prog 111 #[.string x] w λe w'=>e=.returned (.agg #[.int .i64 3,.int .i64 0,.int .i64 0,.int .i64 0,.string ⟨#[]⟩,.int .i64 id,.int .i64 0,.int .i64 0,.int .i64 0,.slice none 0 0])/\Ik w.heap.size w' (.del id) (.agg #[.int .i64 3,.int .i64 0,.int .i64 0,.int .i64 0,.string ⟨#[]⟩,.int .i64 id,.int .i64 0,.int .i64 0,.int .i64 0,.slice none 0 0])/\Below w.heap.size w w'):=O3.out.mono (λe w' ⟨v,he,hv,hb⟩=>⟨by rw[he];exact congrArg Ending.returned hv,rfl,hb⟩)
  clear O3
  go_enter func69,ntmps69
  go_wp2_with (first
   |(go_at_call 105;refine aq (pI.out _) ?_;rintro e w1 ⟨rfl,hw⟩;subst w1;dsimp only)
   |(go_at_call 111;refine aq RL.out ?_;rintro e w1 ⟨rfl,hv1,hb1⟩;dsimp only;have eO:=af hb1;have Q0:=af hv1;have rI:Hid (SC w1 A n (.slice a k cap) st ag vn va):=HC.out.fr (M:=λ_ _=>False) (Fr.of_below hb1) (λ_ _ e=>e);have d0:=rI.out.cq;have e0:w1.frozen? ⟨A,10+n*5,none⟩=false:=rI.out.f 0 (by omega);have mH:A<w1.heap.size:=rI.out.lt;clear hb1 hv1))
  go_region_law (refine cB rfl (.tmp 35) (.tmp 37) 210 rfl 220 i220 Kl 10 kU underlying210 HI.out.1 HI.out.2.1 HI.out.2.2.1 HI.out.2.2.2.1 HI.out.2.2.2.2.1 (by decide) 0 (Nat.zero_le _) (.slice a k cap) k qs rfl ((HQ.out.below eO.out).below (by repeat(first|with_reducible exact bK|with_reducible refine Below.drew ?_|with_reducible refine Below.alloc ?_ (by simp) _))) ⟨w1.heap.size+1,0,none⟩ 1 1 [.int .i64 3,.int .i64 0,.int .i64 0,.int .i64 0,.string ⟨#[]⟩,.int .i64 id,.int .i64 0,.int .i64 0,.int .i64 0,.slice none 0 0] rfl rfl (λj u hj=>by
     rw[addr_add,Nat.zero_add]
     have e2:∀o1 o2:Array Value,((w1.alloc (.cells o1 220)).alloc (.cells o2 220)).cell? ⟨w1.heap.size+1,j,none⟩=o2[j]? :=λo1 o2=>by
      have h:=bG (w1.alloc (.cells o1 220)) o2 220 j
      rwa[World.size_alloc]at h
     first
      |(refine(e2 _ _).trans ?_;simpa using hj)
      |(show(World.drew _).cell? _=_;refine(e2 _ _).trans ?_;simpa using hj)) (λu hu=>by simp only[List.mem_cons,List.not_mem_nil,or_false]at hu;rcases hu with hu|hu|hu|hu|hu|hu|hu|hu|hu|hu<;>(rw[hu];rfl)) (by unfold maxLen;omega) (by rw[HI.out.2.2.2.2.2];omega) ?_;intro v3 w3 bp hfr3 ij;obtain⟨g3,o3,dV,rfl,_,wu⟩:=bp.more;have vu:=af bp;have eU:Hid (Fr (λc _=>(Value.slice a k cap).ownBlock=some c) w1 w3):=Fr.trans (Fr.of_below (by repeat(first|with_reducible exact bK|with_reducible refine Below.drew ?_|with_reducible refine Below.alloc ?_ (by simp) _))) ij;have xP:Hid ((Value.slice a k cap).ownBlock=some g3\/w1.heap.size<=g3):=(by have:=hfr3 g3 rfl;rcases this with h|h;exact .inl h;exact .inr (by simp at h;omega));have Yb:w3.cell? ⟨A,10+n*5,none⟩=some (.slice a k cap):=(eU.out.cell A _ mH xQ.out).trans d0;have Yk:w3.frozen? ⟨A,10+n*5,none⟩=false:=(eU.out.frozen A _ mH xQ.out).trans e0;clear bp hfr3 ij)
  all_goals
   have nj:g3≠A:=λe=>by
    rcases xP.out with h|h
    ·rw[e]at h;exact xQ.out h
    ·omega
   have oH:Hid (SC w3 A n (.slice a k cap) st ag vn va):=rI.out.fr eU.out (λi _ e=>xQ.out e)
   go_wp2
   go_ret
   have yj:Fr (λc i=>(c=A/\i=10+n*5)\/(Value.slice a k cap).ownBlock=some c) w1 (w3.setCell ⟨A,10+n*5,none⟩ (.slice (some ⟨g3,o3,none⟩) (k+1) dV)):=(eU.out.mono (λb i e=> .inr e)).setCell (b:=A) (i:=10+n*5) (.inl (.inl ⟨rfl,rfl⟩)) _
   have hSz:=eO.out.size
   have ES:rS A n (.slice a k cap) st ag vn va k qs x w (.returned (.int .i64 0)) (w3.setCell ⟨A,10+n*5,none⟩ (.slice (some ⟨g3,o3,none⟩) (k+1) dV)):=by
    refine⟨rfl,.slice (some ⟨g3,o3,none⟩) (k+1) dV,[.int .i64 3,.int .i64 0,.int .i64 0,.int .i64 0,.string ⟨#[]⟩,.int .i64 id,.int .i64 0,.int .i64 0,.int .i64 0,.slice none 0 0],rfl,?_,oH.out.QI _,vu.out.fr (jQ A w3 _ _) (λb i hb e=>by cases hb;exact nj e),λb hb=>?_,λb y f _ hf=>(by rw[Q8.out]at hf;cases hf),?_⟩
    ·rw[Q8.out]
     refine Ik.fr yj Q0.out (λb i hb e=>?_) aM
     rcases e with e|e
     ·have:=HC.out.lt;omega
     ·have:=(HQ.out.lt e).2;omega
    ·cases hb
     rcases xP.out with h|h
     ·exact .inl h
     ·exact .inr (by show w.heap.size<=g3;omega)
    ·exact(Fr.of_below eO.out).trans yj
   exact ES
variable {w':World} {R:dw}
theorem bH.sent{A n:Nat}{V:RW}{Z:Nat->Prop}(h:bH w A R V)(hZ:∀b,Z b↔V.Z A b)(hn:n<4){t:ByteArray}{e:Ending}(hS:rS A n (V.vq n) ((R.ss n).step:Int) (R.ss n).aG (V.vn n) (V.va n) (V.qc n).length (fZ (V.qc n)) t w e w'):bF A Z (Dk R n t) w w':=by
 obtain⟨_,oQ,cs,hl,hv,hs,ho,bq,hap,hf⟩:=hS
 have hM:∀b i,(b=A/\i=10+n*5)\/(V.vq n).ownBlock=some b->BP A n V b i:=λb i e=>by
  rcases e with⟨rfl,e⟩|e
  ·exact mg (.inr (.inr (by omega)))
  ·exact .inr (.inl e)
 have hs0:=h.s n hn
 have lva:∀b,(V.va n).ownBlock=some b->b<w.heap.size:=λb hb=>(hs0.an.lt hb).2
 obtain⟨X,P',hXr,hXc,TR,bP,hX⟩:∃(X:RQ) (P':Nat->Prop),X.r=cm t/\X.cs=cs/\(∀b,V.P b->P' b)/\(∀b,P' b->V.P b\/(w.heap.size<=b/\b<w'.heap.size/\oQ.ownBlock≠some b/\(V.va n).ownBlock≠some b))/\X.ok P' w':=by
  have hrd:=jd t
  cases hr:cm t with
  |bad=>
   rw[hr]at hv
   exact⟨⟨.bad,none,0⟩,V.P,rfl,(congrArg Array.toList (Value.agg.inj hv)).symm,λ_ h=>h,λ_ h=> .inl h,trivial⟩
  |get tl m=>
   rw[hr]at hv hrd
   exact⟨⟨.get tl m,none,0⟩,V.P,rfl,(congrArg Array.toList (Value.agg.inj hv)).symm,λ_ h=>h,λ_ h=> .inl h,hrd⟩
  |put f=>
   rw[hr]at hv hrd
   have SI:aj f=true:=hrd
   obtain⟨a,cap,ec,hcap,hp,hlo⟩:=hv
   have hcs:cs=[.int .i64 2,.int .i64 0,.int .i64 0,.int .i64 0,.string ⟨#[]⟩,.int .i64 f.id,.int .i64 f.kd,.int .i64 f.ht,.int .i64 f.col,.slice a f.ps.length cap]:=congrArg Array.toList (Value.agg.inj ec)
   have hne:f.ps≠[]:=(nJ SI).2.2.2.2.2.2.2.1
   refine⟨⟨.put f,a,cap⟩,λb=>V.P b\/∃y,a=some y/\y.block=b,rfl,hcs.symm,λ_ h=> .inl h,λb hb=>?_,(⟨SI,hp,λy e=> .inr ⟨y,e,rfl⟩,hcap⟩:zU _ w' ⟨f,a,cap⟩)⟩
   rcases hb with hb|⟨y,rfl,rfl⟩
   ·exact .inl hb
   ·refine .inr ⟨hlo y rfl,?_,λe=>?_,λe=>?_⟩
    ·rcases hp with hp|⟨b2,off2,hp,jy⟩
     ·exact absurd hp hne
     ·rw[Option.some.inj hp];exact jy.1
    ·exact hap y.block (.slice (some y) f.ps.length cap) f e hr hne (by rw[hcs];rfl) rfl
    ·have:=lva _ e
     have:=hlo y rfl
     omega
  |del id=>
   rw[hr]at hv
   exact⟨⟨.del id,none,0⟩,V.P,rfl,(congrArg Array.toList (Value.agg.inj hv)).symm,λ_ h=>h,λ_ h=> .inl h,trivial⟩
 have hg:=h.UG hn hf hM (λi hi e=>by
  rcases e with e|e
  ·omega
  ·exact h.qA n hn e)
 refine h.next hZ hn hf hM (λm hm hne=>jH _ _ _ _ hne) V.vl V.gs V.vs oQ (V.qc n++[X]) (V.vn n) (V.ng n) (V.va n) P' ((hg.mono TR).congr rfl rfl rfl rfl rfl) ?_ TR bP (λb hb=> .inl hb) (λk _ b hb=> .inl hb) bq (λb hb=> .inl hb) (λb hb=> .inl hb)
 have e0:(Dk R n t).ss n={R.ss n with q:=(R.ss n).q++[cm t]}:=jG _ _ _
 rw[e0]
 refine⟨hs,?_,?_,λy hy=>?_,hs0.nt.fr hf (λb i hb e=>h.Z0 hn hb (hM _ _ e)),hs0.Qq,λg hg=>((hs0.Tm g hg).fr hf (λb i hb e=>h.notP hn hb (hM _ _ e))).mono TR,?_,hs0.n0⟩
 ·rw[List.length_append,EM,hXc];exact ho
 ·show(V.qc n++[X]).map (·.r)=(R.ss n).q++[cm t]
  rw[List.map_append,hs0.qe,<-hXr];rfl
 ·rcases List.mem_append.1 hy with hy|hy
  ·exact((hs0.ND y hy).fr hf (λb i hb e=>h.notP hn hb (hM _ _ e))).mono TR
  ·rw[List.mem_singleton.1 hy];exact hX
 ·exact hs0.an.fr hf (λb i hb e=>by
   rcases e with⟨rfl,_⟩|e
   ·exact h.aA n hn hb
   ·exact h.qa hn b e hb)
theorem Le{A n:Nat}{Z:Nat->Prop}(h:cS w A Z R)(hn:n<4)(t:ByteArray)(ht:t.size<=200)(hq:(R.ss n).q.length<6):
  Calls prog 69 #[.pointer (some ⟨A,0,none⟩),.int .i64 (n:Int),.string t] w λe w'=>e=.returned (.int .i64 0)/\bF A Z (Dk R n t) w w':=by
 obtain⟨V,h,hZ⟩:=h
 have hs:=h.s n hn
 have hl:(V.qc n).length<6:=by rw[<-hs.qe,List.length_map]at hq;exact hq
 exact(J1 A n hn (V.vq n) ((R.ss n).step:Int) (R.ss n).aG (V.vn n) (V.va n) (V.qc n).length hl (fZ (V.qc n)) t ht w hs.sc hs.q (h.qA n hn)).mono λe w' hS=>⟨hS.1,h.sent hZ hn hS⟩
theorem Eg{A n:Nat}{Z:Nat->Prop}(h:cS w A Z R)(hn:n<4)(t:ByteArray)(hq:(R.ss n).q.length=6):
  Calls prog 69 #[.pointer (some ⟨A,0,none⟩),.int .i64 (n:Int),.string t] w λe w'=>e=.returned (.int .i64 3)/\w'=w:=by
 obtain⟨V,h,hZ⟩:=h
 have hs:=h.s n hn
 have hl:(V.qc n).length=6:=by rw[<-hs.qe,List.length_map]at hq;exact hq
 have hrow:=hs.q
 rw[hl]at hrow
 obtain⟨a,cap,hv,_,_⟩:=hrow.form
 have hc:=hs.sc.cq
 rw[hv]at hc
 exact FD A n hn a cap t w hc
theorem Eh{A n:Nat}{Z:Nat->Prop}(h:cS w A Z R)(hn:n<4)(t:ByteArray)(ht:200<t.size)(hq:(R.ss n).q.length<6):
  Calls prog 69 #[.pointer (some ⟨A,0,none⟩),.int .i64 (n:Int),.string t] w λe w'=>e=.returned (.int .i64 1)/\w'=w:=by
 obtain⟨V,h,hZ⟩:=h
 have hs:=h.s n hn
 have hl:(V.qc n).length<6:=by rw[<-hs.qe,List.length_map]at hq;exact hq
 obtain⟨a,cap,hv,_,_⟩:=hs.q.form
 have hc:=hs.sc.cq
 rw[hv]at hc
 exact FE A n hn a (V.qc n).length cap hl t ht w hc
theorem BK{A n:Nat}{Z:Nat->Prop}(h:cS w A Z R)(hn:n<4):
  Calls prog 115 #[.pointer (some ⟨A,0,none⟩),.int .i64 (n:Int)] w λe w'=>∃(a:Option Addr) (cap:Nat),e=.returned (.tuple #[.slice a (R.ss n).an.length cap,.int .i64 0])/\ak w' 0 9 1 (.slice a (R.ss n).an.length cap) (R.ss n).an.length ((R.ss n).an.map .string)/\(∀b,(Value.slice a (R.ss n).an.length cap).ownBlock=some b->Z b)/\bF A Z (GX R n) w w':=by
 obtain⟨V,h,hZ⟩:=h
 have hs:=h.s n hn
 obtain⟨a,cap,hv,_,_⟩:=hs.an.form
 have e4:14+5*n=10+n*5+4:=by omega
 have hc:=hs.sc.ca
 rw[hv,<-e4]at hc
 have hfz:=hs.sc.f 4 (by omega)
 rw[<-e4]at hfz
 refine(AU A n hn a (R.ss n).an.length cap w hc hfz).mono ?_
 rintro e w' ⟨he,hw⟩
 subst hw
 have hf:Fr (λb i=>b=A/\i=14+5*n) w (w.setCell ⟨A,14+5*n,none⟩ (.slice none 0 0)):=(Fr.refl _ w).setCell (b:=A) (i:=14+5*n) (.inl ⟨rfl,rfl⟩) _
 have hM:∀b i,(b=A/\i=14+5*n)->BP A n V b i:=λb i e=>by
  obtain⟨rfl,e⟩:=e
  exact mg (.inr (.inr (by omega)))
 have h2:=h.rows hn (M:=λb i=>b=A/\i=14+5*n) (λb i e=>e.1)
 refine⟨a,cap,he,?_,λb hb=>(hZ b).2 (.inr (.inr (.inr (.inr ⟨n,hn,.inr (.inr (by rw[hv];exact hb))⟩)))),?_⟩
 ·have:=hs.an.fr hf (λb i e=>h2 b i (.inr (.inr (.inl e))))
  rw[hv]at this
  exact this
 ·refine h.next hZ hn hf hM (λm hm hne=>jH _ _ _ _ hne) V.vl V.gs V.vs (V.vq n) (V.qc n) (V.vn n) (V.ng n) (.slice none 0 0) V.P ((h.UG hn hf hM (λi hi e=>by omega)).congr rfl rfl rfl rfl rfl) ?_ (λ_ h=>h) (λb hb=> .inl hb) (λb hb=> .inl hb) (λk _ b hb=> .inl hb) (λb hb=> .inl hb) (λb hb=> .inl hb) (λb hb=>by cases hb)
  have e0:(GX R n).ss n={R.ss n with an:=[]}:=jG _ _ _
  rw[e0]
  have hsc:=hs.sc.V6 (.slice none 0 0)
  rw[<-e4]at hsc
  exact⟨hsc,hs.q.fr hf (λb i e=>h2 b i (.inl e)),hs.qe,λx hx=>(hs.ND x hx).fr hf (λb i e=>h2 b i (.inr (.inr (.inr e)))),hs.nt.fr hf (λb i e=>h2 b i (.inr (.inl e))),hs.Qq,λx hx=>(hs.Tm x hx).fr hf (λb i e=>h2 b i (.inr (.inr (.inr e)))),ak.nil _ _ _ _,hs.n0⟩
def Z9:Value->Option Addr
 | .slice a _ _=>a
 |_=>none
def Z_:Value->Nat
 | .slice _ _ c=>c
 |_=>0
variable {b0 size n:Nat} {e:TypeId} {xs:List Value}
theorem ak.eq{v:Value}(h:ak w b0 e size v n xs):v=.slice (Z9 v) n (Z_ v):=by
 obtain⟨a,cap,rfl,_,_⟩:=h.form
 rfl
theorem Lc{A:Nat}{R:dw}{Z:Nat->Prop}(h:cS w A Z R)(ok:yF R):
  Calls prog 72 #[.pointer (some ⟨A,0,none⟩)] w λe w'=>e=.returned (.agg #[.int .i64 (R.all.length:Int),.bool (decide (0<=R.lock)),.int .i64 (yz (λn=>(R.ss n).q.length) 4:Int)])/\Below w.heap.size w w':=by
 obtain⟨V,h,hZ⟩:=h
 have hl:V.gs.length=R.all.length:=by rw[<-h.g.DU,List.length_map]
 have hq:∀n,n<4->(V.qc n).length=(R.ss n).q.length:=λn hn=>by rw[<-(h.s n hn).qe,List.length_map]
 have hA:=h.g.ar.c
 rw[h.g.ar.own.eq,hl]at hA
 refine JV A (Z9 V.vl) R.all.length (Z_ V.vl) R.lock (λn=>Z9 (V.vq n)) (λn=>(R.ss n).q.length) (λn=>Z_ (V.vq n)) ok.q (by have:=ok.all;omega) w hA h.g.lk (λn hn=>?_)
 have:=(h.s n hn).sc.cq
 rw[(h.s n hn).q.eq,hq n hn]at this
 exact this
theorem La{A k:Nat}{Z:Nat->Prop}(h:cS w A Z R)(ok:yF R)(hk:k<4):Calls prog 117 #[.pointer (some ⟨A,0,none⟩),.int .i64 (k:Int)] w (K5 (R.sh k) w):=by
 obtain⟨V,h,hZ⟩:=h
 exact JU A k hk (V.vs k) (R.sh k) (ok.sh k hk) w (h.g.sh.k k hk)
theorem Pe(r:Int)(h0:0<=r)(h8:r<=8)(w:World):Calls prog 110 #[.int .i64 r] w λe w'=>∃(A:Nat) (Z:Nat->Prop),e=.returned (.tuple #[.pointer (some ⟨A,0,none⟩),.int .i64 0])/\cS w' A Z (JX r)/\(∀b,Z b->w.heap.size<=b)/\Below w.heap.size w w':=by
 refine(NG r h0 h8 w).mono ?_
 rintro e w' ⟨he,rfl⟩
 obtain⟨A,hA⟩:∃A,w.heap.size=A:=⟨_,rfl⟩
 have hc:∀i u,(qU r)[i]? =some u->(w.alloc (.cells (qU r).toArray 218)).cell? ⟨A,i,none⟩=some u:=λi u hi=>by
  rw[<-hA]
  refine(bG w (qU r).toArray 218 i).trans ?_
  simpa using hi
 have hf:∀i,(w.alloc (.cells (qU r).toArray 218)).frozen? ⟨A,i,none⟩=false:=λi=>by
  rw[<-hA]
  simp[go_sem]
 have hsz:A<(w.alloc (.cells (qU r).toArray 218)).heap.size:=by rw[World.size_alloc];omega
 have hB:Below w.heap.size w (w.alloc (.cells (qU r).toArray 218)):=aU
 rw[hA]at he
 obtain⟨W,hW⟩:∃W,w.alloc (.cells (qU r).toArray 218)=W:=⟨_,rfl⟩
 rw[hW]at hc hf hsz hB⊢
 clear hW
 have hsc:∀n,n<4->SC W A n (.slice none 0 0) 0 0 (.slice none 0 0) (.slice none 0 0):=λn hn=>by
  match n,hn with
  |0,_=>exact⟨hc 10 _ rfl,hc 11 _ rfl,hc 12 _ rfl,hc 13 _ rfl,hc 14 _ rfl,λi _=>hf _⟩
  |1,_=>exact⟨hc 15 _ rfl,hc 16 _ rfl,hc 17 _ rfl,hc 18 _ rfl,hc 19 _ rfl,λi _=>hf _⟩
  |2,_=>exact⟨hc 20 _ rfl,hc 21 _ rfl,hc 22 _ rfl,hc 23 _ rfl,hc 24 _ rfl,λi _=>hf _⟩
  |3,_=>exact⟨hc 25 _ rfl,hc 26 _ rfl,hc 27 _ rfl,hc 28 _ rfl,hc 29 _ rfl,λi _=>hf _⟩
 have hrs:RS W A (λ_=> .slice none 0 0) (λ_=>[]) (λ_=>0):=⟨λk hk=>by
  match k,hk with
  |0,_=>exact⟨hc 2 _ rfl,hf _,ak.nil _ _ _ _,by simp[Value.ownBlock]⟩
  |1,_=>exact⟨hc 3 _ rfl,hf _,ak.nil _ _ _ _,by simp[Value.ownBlock]⟩
  |2,_=>exact⟨hc 4 _ rfl,hf _,ak.nil _ _ _ _,by simp[Value.ownBlock]⟩
  |3,_=>exact⟨hc 5 _ rfl,hf _,ak.nil _ _ _ _,by simp[Value.ownBlock]⟩,λk hk=>by
  match k,hk with
  |0,_=>exact⟨hc 6 _ rfl,hf _⟩
  |1,_=>exact⟨hc 7 _ rfl,hf _⟩
  |2,_=>exact⟨hc 8 _ rfl,hf _⟩
  |3,_=>exact⟨hc 9 _ rfl,hf _⟩⟩
 have hN:∀b,(Value.slice none 0 0).ownBlock≠some b:=λb=>by simp[Value.ownBlock]
 refine⟨A,λb=>b=A,he,⟨⟨.slice none 0 0,[],λ_=> .slice none 0 0,λ_=> .slice none 0 0,λ_=>[],λ_=> .slice none 0 0,λ_=>[],λ_=> .slice none 0 0,λ_=>False⟩,⟨⟨hc 0 _ rfl,⟨hc 1 _ rfl,ak.nil _ _ _ _⟩,hf _,rfl,λg hg=>(by cases hg),hrs,hc 30 _ rfl,hf _⟩,λn hn=>⟨hsc n hn,ak.nil _ _ _ _,rfl,λx hx=>(by cases hx),ak.nil _ _ _ _,rfl,λx hx=>(by cases hx),ak.nil _ _ _ _,λ_=>rfl⟩,λn _=>hN _,λn _=>hN _,λn _=>hN _,hN _,λ_ _ b _ _ _ e=>(by cases e),λ_ _ b _ _ _ e=>(by cases e),λb hb=>hb.elim⟩,λb=>⟨λhb=> .inl hb,λhb=>?_⟩⟩,λb hb=>?_,hB⟩
 ·rcases hb with hb|hb|hb|⟨k,_,hb⟩|⟨n,_,hb|hb|hb⟩
  ·exact hb
  ·exact hb.elim
  ·cases hb
  ·cases hb
  ·cases hb
  ·cases hb
  ·cases hb
 ·have hb':b=A:=hb
  omega
end
end Go.Proofs.YtenaepdmlknlcaaGreatDoor
