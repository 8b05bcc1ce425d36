import Derived.Test.YtenaepdmlknlcaaGreatDoorG34
import Derived.Test.YtenaepdmlknlcaaGreatDoorG35
import Derived.Test.YtenaepdmlknlcaaGreatDoorG36
import Derived.Test.YtenaepdmlknlcaaGreatDoorG37
open Go.Proofs.Tryz
set_option maxRecDepth 100000
set_option maxHeartbeats 8000000
namespace Go.Proofs.YtenaepdmlknlcaaGreatDoor
section
open Go.RowKit Go.Shelf
def xO:List Value:=[.int .i64 0,.int .i64 0,.int .i64 0,.int .i64 0,.string ⟨#[]⟩,.int .i64 0,.int .i64 0,.int .i64 0,.int .i64 0,.slice none 0 0]
theorem G1(w:World)(b:Nat)(u0 u1 u2 u3 u4 u5 u6 u7 u8 u9:Value):Fr (λc _=>c=b) w ((((((((((w.setCell ⟨b,0,none⟩ u0).setCell ⟨b,1,none⟩ u1).setCell ⟨b,2,none⟩ u2).setCell ⟨b,3,none⟩ u3).setCell ⟨b,4,none⟩ u4).setCell ⟨b,5,none⟩ u5).setCell ⟨b,6,none⟩ u6).setCell ⟨b,7,none⟩ u7).setCell ⟨b,8,none⟩ u8).setCell ⟨b,9,none⟩ u9):=(((((((((((Fr.refl (λc _=>c=b) w).setCell (b:=b) (i:=0) (.inl rfl) u0).setCell (b:=b) (i:=1) (.inl rfl) u1).setCell (b:=b) (i:=2) (.inl rfl) u2).setCell (b:=b) (i:=3) (.inl rfl) u3).setCell (b:=b) (i:=4) (.inl rfl) u4).setCell (b:=b) (i:=5) (.inl rfl) u5).setCell (b:=b) (i:=6) (.inl rfl) u6).setCell (b:=b) (i:=7) (.inl rfl) u7).setCell (b:=b) (i:=8) (.inl rfl) u8).setCell (b:=b) (i:=9) (.inl rfl) u9)
structure fO(w:World)(b:Nat):Prop where
 c:∀i v,xO[i]? =some v->w.cell? ⟨b,i,none⟩=some v/\w.frozen? ⟨b,i,none⟩=false
theorem fO.new(w:World)(t:TypeId):fO (w.alloc (.cells xO.toArray t)) w.heap.size:=⟨λi v e=>by
 rw[World.cell?_alloc_new]
 exact⟨by simpa using e,by simp[go_sem]⟩⟩
variable {n b:Nat}
theorem fO.below{A B:World}(h:Below n A B)(hb:b<n)(q:fO A b):fO B b:=⟨λi v e=>⟨(h.cell (p:=⟨b,i,none⟩) hb).trans (q.c i v e).1,(h.frozen (p:=⟨b,i,none⟩) hb).trans (q.c i v e).2⟩⟩
variable {v0 v1 v2 v3 v4:Value}
theorem Tu(w:World)(a:Array Value)(s t:TypeId):Q5 ((w.alloc (.cells a s)).alloc (.cells #[v0,v1,v2,v3,v4] t)) (w.heap.size+1) v0 v1 v2 v3 v4:=by
 have:=Q5.new (w.alloc (.cells a s)) v0 v1 v2 v3 v4 t
 rwa[World.size_alloc]at this
structure Ii(w:World)(i0 i1 i2 i3:Int)(L:List ByteArray)(k:Nat)(pv:Value)(wr:World):Prop where
 kl:k<=L.length
 all:((L.take k).all λx=>(mL x).isSome)=true
 r:fO wr w.heap.size
 q:Q5 wr (w.heap.size+1) (.int .i64 i0) (.int .i64 i1) (.int .i64 i2) (.int .i64 i3) pv
 own:wr.ownsRow (w.heap.size+2) 29 2 pv k (ju ((L.take k).map λx=>(mL x).getD (0,0)))
 b:Below w.heap.size w wr
variable {w wr w5:World} {i0 i1 i2 i3:Int} {k:Nat}
theorem Ii.step{L:List ByteArray}{pv v:Value}{x:ByteArray}{p:Int×Int}(h:Ii w i0 i1 i2 i3 L k pv wr)(hx:L[k]? =some x)(hp:mL x=some p)(hB:Below (w.heap.size+2) wr w5)(own:w5.ownsRow (w.heap.size+2) 29 2 v (k+1) (ju ((L.take k).map λx=>(mL x).getD (0,0))++[.int .i64 p.1,.int .i64 p.2])):
  Ii w i0 i1 i2 i3 L (k+1) v (w5.setCell ⟨w.heap.size+1,4,none⟩ v):=by
 have hk:k<L.length:=(List.getElem?_eq_some_iff.1 hx).1
 have htk:L.take (k+1)=L.take k++[x]:=by rw[List.take_add_one,hx];rfl
 have hq:=h.q.below hB (Nat.lt_succ_self _)
 have hs:∀i,(w5.setCell ⟨w.heap.size+1,4,none⟩ v).frozen? ⟨w.heap.size,i,none⟩=w5.frozen? ⟨w.heap.size,i,none⟩:=λi=>World.frozen?_setCell _ _ _ _
 refine⟨hk,?_,⟨λi u e=>?_⟩,?_,?_,?_⟩
 ·rw[htk,List.all_append,h.all];simp[hp]
 ·have:=(h.r.below hB (by omega)).c i u e
  rw[hs]
  exact⟨(World.cell?_setCell_other _ _ _ _ (by intro e;injection e with e1 _ _;omega)).trans this.1,this.2⟩
 ·obtain⟨c0,c1,c2,c3,c4,f0,f1,f2,f3,f4⟩:=hq
  exact⟨(aK _ _ (.inr (by decide))).trans c0,(aK _ _ (.inr (by decide))).trans c1,(aK _ _ (.inr (by decide))).trans c2,(aK _ _ (.inr (by decide))).trans c3,cell_eq c4 _,by rw[World.frozen?_setCell];exact f0,by rw[World.frozen?_setCell];exact f1,by rw[World.frozen?_setCell];exact f2,by rw[World.frozen?_setCell];exact f3,by rw[World.frozen?_setCell];exact f4⟩
 ·rw[htk,List.map_append,qF]
  refine l6 (M:=ig (w.heap.size+1)) (jQ (w.heap.size+1) w5 4 v) ?_ (λc _ hc e=>by have:c=w.heap.size+1:=e;omega)
  have e:ju ([x].map λx=>(mL x).getD (0,0))=[.int .i64 p.1,.int .i64 p.2]:=by simp[hp,ju]
  rw[e]
  exact own
 ·exact(h.b.trans (hB.mono (by omega))).setCell (p:=⟨w.heap.size+1,4,none⟩) (by simp) _
variable {pv:Value}
theorem Ii.done{L:List ByteArray}(h:Ii w i0 i1 i2 i3 L L.length pv wr):∃(a:Option Addr) (cap:Nat),pv=.slice a L.length cap/\L.length<=cap/\bV wr.heap.size wr a (L.map λx=>(mL x).getD (0,0))/\∀x,a=some x->w.heap.size+2<=x.block:=by
 have own:=h.own
 rw[List.take_length]at own
 have hown:=own
 rcases own.2 with⟨h1,h2⟩|⟨g,cap,cur,h1,h2,h3,h4,_⟩
 ·refine⟨none,0,by rw[h2];exact h1,by omega,.inl ?_,λx e=>by cases e⟩
  rw[List.length_eq_zero_iff.1 h2];rfl
 ·subst h1
  refine⟨some ⟨g,0,none⟩,cap,rfl,h4,.inr ⟨g,0,rfl,(Array.getElem?_eq_some_iff.1 h3).1,λk x y e=>?_⟩,λx e=>by cases e;exact h2⟩
  have hc:=hown.cells (g:=g) rfl
  obtain⟨e1,e2⟩:=yV _ k x y e
  have r1:=hc _ _ e1
  have r2:=hc _ _ e2
  rw[Lp]at r1 r2
  rw[Nat.zero_add]
  exact⟨r1,r2⟩
theorem Dm(sb cap n:Nat)(l:List ByteArray)(hn:n=l.length)(h6:6<=n)(hn2:n<=1000)(_hc:n<=cap)(hs:∀x∈l,x.size<=1000)(w:World)(hsb:sb<w.heap.size)(hw:∀i x,l[i]? =some x->w.cell? ⟨sb,i,none⟩=some (.string x)):
  Calls prog 144 #[.slice (some ⟨sb,0,none⟩) n cap] w (Ad (oN l) w):=by
 have hat:∀i,i<n->l[i]? =some (jz l i):=λi hi=>by unfold jz;rw[List.getElem?_eq_getElem (by omega)];rfl
 have Hw:Hid (∀(W:World) i x,Below w.heap.size w W->l[i]? =some x->W.cell? ⟨sb,i,none⟩=some (.string x)):=λW i x hW hx=>(hW.cell (p:=⟨sb,i,none⟩) hsb).trans (hw i x hx)
 have hB0:∀o:Obj,Below w.heap.size w (w.alloc o):=λo=>aU
 have eY:Hid (∀(i:Nat) (W:World),i<n->Calls prog 143 #[.string (jz l i)] W λe w'=>e=.returned (.tuple #[.int .i64 (dL l i).1,.bool (dL l i).2])/\w'=W):=λi W hi=>kC _ (hs _ (List.mem_of_getElem? (hat i hi))) W
 have Hs:=af hs
 have HR:Hid (oN l=if(dL l 1).2=true/\(dL l 3).2=true/\(dL l 4).2=true then(if((l.drop 5).all λx=>(mL x).isSome)=true then(if aj ⟨(dL l 1).1,dr (jz l 2),(dL l 3).1,(dL l 4).1,(l.drop 5).map λx=>(mL x).getD (0,0)⟩=true then .put ⟨(dL l 1).1,dr (jz l 2),(dL l 3).1,(dL l 4).1,(l.drop 5).map λx=>(mL x).getD (0,0)⟩else .bad)else .bad)else .bad):=rfl
 have N1:Hid _:=eY.out 1
 have N3:Hid _:=eY.out 3
 have N4:Hid _:=eY.out 4
 have hW1:∀o:Obj,(w.alloc o).cell? ⟨sb,1,none⟩=some (.string (jz l 1)):=λo=>Hw.out _ 1 _ (hB0 o) (hat 1 (by omega))
 have hW3:∀o:Obj,(w.alloc o).cell? ⟨sb,3,none⟩=some (.string (jz l 3)):=λo=>Hw.out _ 3 _ (hB0 o) (hat 3 (by omega))
 have Kv:∀o:Obj,(w.alloc o).cell? ⟨sb,4,none⟩=some (.string (jz l 4)):=λo=>Hw.out _ 4 _ (hB0 o) (hat 4 (by omega))
 obtain⟨⟨i0,b0⟩,e0⟩:∃x,dL l 1=x:=⟨_,rfl⟩
 obtain⟨⟨i2,b2⟩,e2⟩:∃x,dL l 3=x:=⟨_,rfl⟩
 obtain⟨⟨i3,b3⟩,e3⟩:∃x,dL l 4=x:=⟨_,rfl⟩
 rw[e0,e2,e3]at HR
 rw[e0]at N1
 rw[e2]at N3
 rw[e3]at N4
 obtain⟨x1,hx1⟩:∃x,jz l 1=x:=⟨_,rfl⟩
 obtain⟨x3,hx3⟩:∃x,jz l 3=x:=⟨_,rfl⟩
 obtain⟨x4,Ky⟩:∃x,jz l 4=x:=⟨_,rfl⟩
 rw[hx1]at N1 hW1
 rw[hx3]at N3 hW3
 rw[Ky]at N4 Kv
 dsimp only at N1 N3 N4 HR
 have n1I:(1:Int)<(n:Int):=by omega
 have n2I:(2:Int)<(n:Int):=by omega
 have n3I:(3:Int)<(n:Int):=by omega
 have n4I:(4:Int)<(n:Int):=by omega
 by_cases hb:b0=true/\b2=true/\b3=true
 ·obtain⟨rfl,rfl,rfl⟩:=hb
  have dP:Hid (oN l=if((l.drop 5).all λx=>(mL x).isSome)=true then(if aj ⟨i0,dr (jz l 2),i2,i3,(l.drop 5).map λx=>(mL x).getD (0,0)⟩=true then .put ⟨i0,dr (jz l 2),i2,i3,(l.drop 5).map λx=>(mL x).getD (0,0)⟩else .bad)else .bad):=by
   show oN l=_
   rw[HR.out,if_pos ⟨rfl,rfl,rfl⟩]
  have vw:Hid (∀k x,(l.drop 5)[k]? =some x->mL x=none->oN l=.bad):=λk x hk hp=>by
   rw[dP.out,if_neg]
   intro e
   have:=List.all_eq_true.1 e x (List.mem_of_getElem? hk)
   rw[hp]at this
   cases this
  have hW2:∀o p:Obj,((w.alloc o).alloc p).cell? ⟨sb,2,none⟩=some (.string (jz l 2)):=λo p=>Hw.out _ 2 _ ((hB0 o).alloc (by simp) _) (hat 2 (by omega))
  obtain⟨x2,hx2⟩:∃x,jz l 2=x:=⟨_,rfl⟩
  rw[hx2]at hW2 dP
  obtain⟨L,hL⟩:∃L,l.drop 5=L:=⟨_,rfl⟩
  have HL:Hid (∀k x,L[k]? =some x->l[5+k]? =some x):=λk x h=>by rw[<-hL,List.getElem?_drop]at h;exact h
  have hLn:n=5+L.length:=by rw[<-hL,List.length_drop];omega
  have HLs:Hid (∀x∈L,x.size<=1000):=λx hx=>Hs.out x (by rw[<-hL]at hx;exact List.mem_of_mem_drop hx)
  rw[hL]at dP vw
  obtain⟨V,hV⟩:∃V,oN l=V:=⟨_,rfl⟩
  rw[hV]at dP vw
  rw[hV]
  obtain⟨i29,Mu,hz0,hz1,hz2⟩:=info_parts GQ
  have zX:Hid (prog.info? 29=some i29/\i29.zero=some (.agg #[.int .i64 0,.int .i64 0])/\i29.size=2/\i29.bytes=16):=⟨Mu,hz0,hz1,hz2⟩
  clear e0 e2 e3 hx1 hx3 Ky hat hs hw eY HR hL hV hx2 Mu hz0 hz1 hz2 hn
  obtain⟨kd,Mx⟩:∃k,dr x2=k:=⟨_,rfl⟩
  rw[Mx]at dP
  have hcases:((x2.toList==[112,111,105,110,116])=true/\kd=1)\/((x2.toList==[112,111,105,110,116])=false/\(x2.toList==[108,105,110,101])=true/\kd=2)\/((x2.toList==[112,111,105,110,116])=false/\(x2.toList==[108,105,110,101])=false/\(x2.toList==[97,114,101,97])=true/\kd=3)\/((x2.toList==[112,111,105,110,116])=false/\(x2.toList==[108,105,110,101])=false/\(x2.toList==[97,114,101,97])=false/\kd=0):=by
   rw[<-Mx]
   unfold dr
   cases(x2.toList==[112,111,105,110,116])<;>cases(x2.toList==[108,105,110,101])<;>cases(x2.toList==[97,114,101,97])<;>simp
  clear Mx
  go_enter func144,ntmps144
  go_upto_region 7 with(first
   |(go_at_call_of 143 (Value.string x1);refine aq (N1.out _ (by omega)) ?_;rintro e w1 ⟨rfl,hw⟩;subst w1;dsimp only)
   |(go_at_call_of 143 (Value.string x3);refine aq (N3.out _ (by omega)) ?_;rintro e w1 ⟨rfl,hw⟩;subst w1;dsimp only)
   |(go_at_call_of 143 (Value.string x4);refine aq (N4.out _ (by omega)) ?_;rintro e w1 ⟨rfl,hw⟩;subst w1;dsimp only))
  go_upto_block 0 with fail
  go_cut [] (λwc=>wc=((w.alloc (.cells xO.toArray 220)).alloc (.cells #[.int .i64 i0,.int .i64 kd,.int .i64 i2,.int .i64 i3,.slice none 0 0] 32)))
  case first=>
   rcases hcases with⟨t1,Mx⟩|⟨t1,t2,Mx⟩|⟨t1,t2,t3,Mx⟩|⟨t1,t2,t3,Mx⟩
   all_goals
    subst Mx
    go_wp2_with fail
    go_meet
    case rel=>rfl
  case rest=>
   obtain rfl:=hcut
   go_wp2
   go_loopw [10] (λi wr=>∃(k:Nat) (pa:Option Addr) (pc:Nat),i=.int .i64 ((5+k:Nat):Int)/\Ii w i0 kd i2 i3 L k (.slice pa k pc) wr) (λi _=>n-(intOf i).toNat)
   case atStart=>
    exact⟨0,none,0,rfl,⟨Nat.zero_le _,rfl,(fO.new w 220).below aU (by simp),Tu w xO.toArray 220 32,World.ownsRow_nil _ _ _ _,(hB0 _).alloc (by simp) _⟩⟩
   case round=>
    obtain⟨k,pa,pc,rfl,hin⟩:=hrel
    have HP:=af hin
    have q4:=hin.q.c4
    have V3:=hin.q.f4
    have hF:w.heap.size+1<wr.heap.size:=dz wr ⟨w.heap.size+1,4,none⟩ q4
    have hF2:w.heap.size+2<=wr.heap.size:=hF
    have uK:=hin.kl
    clear hin
    by_cases hk:k<L.length
    ·obtain⟨x,hx⟩:∃x,L[k]? =some x:=⟨_,List.getElem?_eq_getElem hk⟩
     have hcx:wr.cell? ⟨sb,5+k,none⟩=some (.string x):=Hw.out wr _ _ HP.out.b (HL.out k x hx)
     have hI:((5+k:Nat):Int)<(n:Int):=by omega
     have hIn:¬((5+k:Nat):Int)<0:=by omega
     have hxs:x.size<=1000:=HLs.out x (List.mem_of_getElem? hx)
     have mO:Hid (Calls prog 142 #[.string x,.int .u8 44] wr (n_ x 44 wr)):=wY x hxs 44 wr
     by_cases h2:∃p q,bU 44 x=[p,q]
     ·obtain⟨p,q,hpq⟩:=h2
      have HWd:=af hpq
      have Kn:Hid (mL x=if(bE p.data.toList).2=true/\(bE q.data.toList).2=true then some ((bE p.data.toList).1,(bE q.data.toList).1)else none):=Qx (by rw[<-hpq];exact tP 44 x)
      have XI:Hid (∀W:World,Calls prog 143 #[.string p] W λe w'=>e=.returned (.tuple #[.int .i64 (bE p.data.toList).1,.bool (bE p.data.toList).2])/\w'=W):=λW=>kC p (Nat.le_trans (nR (c:=44) (by rw[hpq];simp)) hxs) W
      have XJ:Hid (∀W:World,Calls prog 143 #[.string q] W λe w'=>e=.returned (.tuple #[.int .i64 (bE q.data.toList).1,.bool (bE q.data.toList).2])/\w'=W):=λW=>kC q (Nat.le_trans (nR (c:=44) (by rw[hpq];simp)) hxs) W
      obtain⟨pz,hpz⟩:∃z,bE p.data.toList=z:=⟨_,rfl⟩
      obtain⟨qz,hqz⟩:∃z,bE q.data.toList=z:=⟨_,rfl⟩
      rw[hpz]at XI Kn
      rw[hqz]at XJ Kn
      rw[show(n_ x 44 wr)=λe w'=>∃(a:Option Addr) (cap:Nat),e=.returned (.slice a 2 cap)/\2<=cap/\w'.ownsRow wr.heap.size 9 1 (.slice a 2 cap) 2 [.string p,.string q]/\Below wr.heap.size wr w' by funext e w';unfold n_;rw[hpq];rfl]at mO
      clear hpz hqz hpq
      obtain⟨pz1,pz2⟩:=pz
      obtain⟨qz1,qz2⟩:=qz
      have Hx:=af hx
      have HVb:Hid (¬(pz2=true/\qz2=true)->V=.bad):=λe=>vw.out k x hx (by rw[Kn.out,if_neg e])
      clear hx
      cases pz2<;>cases qz2
      rotate_right
      ·go_wp2_with (first
        |(go_at_call 142;refine aq mO.out ?_;rintro e w3 ⟨a2,c2,rfl,hc2,ho2,hb3⟩;dsimp only;obtain⟨a2',Uz,e2,_,hg2⟩:=aF ho2;injection e2 with Yi _ Yj;subst Yi Yj;obtain⟨g2,rfl,Y5⟩:=hg2 (by omega);have p0:w3.cell? ⟨g2,0,none⟩=some (.string p):=(ho2.cellAt 0 (by omega));have p1:w3.cell? ⟨g2,1,none⟩=some (.string q):=(ho2.cellAt 1 (by omega));have g_:=af hb3;have q43:w3.cell? ⟨w.heap.size+1,4,none⟩=some (.slice pa k pc):=(hb3.cell (p:=⟨w.heap.size+1,4,none⟩) hF).trans q4;have Z4:w3.frozen? ⟨w.heap.size+1,4,none⟩=false:=(hb3.frozen (p:=⟨w.heap.size+1,4,none⟩) hF).trans V3;have eo:Hid (fO w3 w.heap.size):=HP.out.r.below hb3 (by omega);obtain⟨z0,ur⟩:=eo.out.c 0 _ rfl;obtain⟨z1,uu⟩:=eo.out.c 1 _ rfl;obtain⟨z2,uw⟩:=eo.out.c 2 _ rfl;obtain⟨z3,ux⟩:=eo.out.c 3 _ rfl;obtain⟨z4,uy⟩:=eo.out.c 4 _ rfl;obtain⟨z5,uz⟩:=eo.out.c 5 _ rfl;obtain⟨z6,uA⟩:=eo.out.c 6 _ rfl;obtain⟨z7,uB⟩:=eo.out.c 7 _ rfl;obtain⟨z8,uC⟩:=eo.out.c 8 _ rfl;obtain⟨z9,uD⟩:=eo.out.c 9 _ rfl;clear hb3 ho2 hg2)
        |(go_at_call_of 143 (Value.string p);refine aq (XI.out _) ?_;rintro e w1 ⟨rfl,hw⟩;subst w1;dsimp only)
        |(go_at_call_of 143 (Value.string q);refine aq (XJ.out _) ?_;rintro e w1 ⟨rfl,hw⟩;subst w1;dsimp only)
        |(at_builtin;refine wpList_append_own _ rfl _ _ 30 rfl (w.heap.size+2) 29 i29 (.agg #[.int .i64 0,.int .i64 0]) 2 16 underlying30 zX.out.1 zX.out.2.1 zX.out.2.2.1 zX.out.2.2.2 rfl (by decide) (.slice pa k pc) k _ rfl ((bD (M:=λ_ _=>False) (Fr.of_below g_.out) HP.out.own (λ_ _ _ e=>e)).alloc _) ⟨w3.heap.size,0,none⟩ 1 1 [.int .i64 pz1,.int .i64 qz1] rfl rfl (λj u hj=>by
             rw[addr_add]
             match j,hj with
             |0,hj=>simp at hj;subst hj;simp[go_sem]
             |1,hj=>simp at hj;subst hj;simp[go_sem]
             |j+2,hj=>simp at hj) (λu hu=>by simp only[List.mem_cons,List.not_mem_nil,or_false]at hu;rcases hu with hu|hu<;>(rw[hu];rfl)) (by unfold maxLen;omega) (by omega) (by have:=g_.out.size;simp;omega) ?_;intro v5 w5 a_ bf _;obtain⟨a5,c5,rfl,_,_⟩:=aF a_;have Oz:Below (w.heap.size+2) wr w5:=(g_.out.mono hF2).trans (((Below.refl _ w3).alloc (by have:=g_.out.size;omega) _).grown bf (by have:=g_.out.size;simp;omega) (λb hb=>(HP.out.own.lt b hb).1));have HI5:Hid _:=HP.out.step Hx.out (p:=(pz1,qz1)) (by rw[Kn.out,if_pos ⟨rfl,rfl⟩]) Oz a_;have q45:w5.cell? ⟨w.heap.size+1,4,none⟩=some (.slice pa k pc):=(Oz.cell (p:=⟨w.heap.size+1,4,none⟩) (by show w.heap.size+1<w.heap.size+2;omega)).trans q4;have aaX:w5.frozen? ⟨w.heap.size+1,4,none⟩=false:=(Oz.frozen (p:=⟨w.heap.size+1,4,none⟩) (by show w.heap.size+1<w.heap.size+2;omega)).trans V3;clear a_ bf Oz))
       go_roundw
       case rel=>exact⟨k+1,by omega,a5,c5,HI5.out⟩
       case measure=>simp[intOf];omega
      all_goals
       obtain rfl:V=.bad:=HVb.out (by simp)
       clear HVb vw
       go_wp2_with (first
        |(go_at_call 142;refine aq mO.out ?_;rintro e w3 ⟨a2,c2,rfl,hc2,ho2,hb3⟩;dsimp only;obtain⟨a2',Uz,e2,_,hg2⟩:=aF ho2;injection e2 with Yi _ Yj;subst Yi Yj;obtain⟨g2,rfl,Y5⟩:=hg2 (by omega);have p0:w3.cell? ⟨g2,0,none⟩=some (.string p):=(ho2.cellAt 0 (by omega));have p1:w3.cell? ⟨g2,1,none⟩=some (.string q):=(ho2.cellAt 1 (by omega));have g_:=af hb3;have q43:w3.cell? ⟨w.heap.size+1,4,none⟩=some (.slice pa k pc):=(hb3.cell (p:=⟨w.heap.size+1,4,none⟩) hF).trans q4;have Z4:w3.frozen? ⟨w.heap.size+1,4,none⟩=false:=(hb3.frozen (p:=⟨w.heap.size+1,4,none⟩) hF).trans V3;have eo:Hid (fO w3 w.heap.size):=HP.out.r.below hb3 (by omega);obtain⟨z0,ur⟩:=eo.out.c 0 _ rfl;obtain⟨z1,uu⟩:=eo.out.c 1 _ rfl;obtain⟨z2,uw⟩:=eo.out.c 2 _ rfl;obtain⟨z3,ux⟩:=eo.out.c 3 _ rfl;obtain⟨z4,uy⟩:=eo.out.c 4 _ rfl;obtain⟨z5,uz⟩:=eo.out.c 5 _ rfl;obtain⟨z6,uA⟩:=eo.out.c 6 _ rfl;obtain⟨z7,uB⟩:=eo.out.c 7 _ rfl;obtain⟨z8,uC⟩:=eo.out.c 8 _ rfl;obtain⟨z9,uD⟩:=eo.out.c 9 _ rfl;clear hb3 ho2 hg2)
        |(go_at_call_of 143 (Value.string p);refine aq (XI.out _) ?_;rintro e w1 ⟨rfl,hw⟩;subst w1;dsimp only)
        |(go_at_call_of 143 (Value.string q);refine aq (XJ.out _) ?_;rintro e w1 ⟨rfl,hw⟩;subst w1;dsimp only))
       have jh:Hid (Below w.heap.size w w3):=HP.out.b.trans (g_.out.mono (by omega))
       have Jk:w.heap.size+2<=w3.heap.size:=by have:=g_.out.size;omega
       exact bodyPost_ret (v:=.agg #[.int .i64 0,.int .i64 0,.int .i64 0,.int .i64 0,.string ⟨#[]⟩,.int .i64 0,.int .i64 0,.int .i64 0,.int .i64 0,.slice none 0 0]) (by simp[results,results144,go_sem,z0,z1,z2,z3,z4,z5,z6,z7,z8,z9]) rfl ⟨_,rfl,rfl,(by repeat(first|with_reducible exact jh.out|with_reducible refine Below.setCell ?_ (by simp<;>omega) _|with_reducible refine Below.alloc ?_ (by simp<;>omega) _))⟩
     ·have hne:(bU 44 x).length≠2:=λe=>h2 (by
       match hw:bU 44 x,e with
       |[p,q],_=>exact⟨p,q,rfl⟩)
      obtain rfl:V=.bad:=vw.out k x hx (Nu (tP 44 x) hne)
      have Um:Hid (Calls prog 142 #[.string x,.int .u8 44] wr (λe w'=>∃(a:Option Addr) (cap:Nat),e=.returned (.slice a (bU 44 x).length cap)/\(bU 44 x).length<=cap/\w'.ownsRow wr.heap.size 9 1 (.slice a (bU 44 x).length cap) (bU 44 x).length ((bU 44 x).map .string)/\Below wr.heap.size wr w')):=mO.out
      obtain⟨m,hm⟩:∃m,(bU 44 x).length=m:=⟨_,rfl⟩
      rw[hm]at Um hne
      have aaR:((m:Int) !=2)=true:=by simp;omega
      have aap:¬(m:Int)=2:=by omega
      clear hx vw h2 hm mO
      go_wp2_with (first
       |(go_at_call 142;refine aq Um.out ?_;rintro e w3 ⟨a2,c2,rfl,hc2,ho2,hb3⟩;dsimp only;have g_:=af hb3;have eo:Hid (fO w3 w.heap.size):=HP.out.r.below hb3 (by omega);obtain⟨z0,ur⟩:=eo.out.c 0 _ rfl;obtain⟨z1,uu⟩:=eo.out.c 1 _ rfl;obtain⟨z2,uw⟩:=eo.out.c 2 _ rfl;obtain⟨z3,ux⟩:=eo.out.c 3 _ rfl;obtain⟨z4,uy⟩:=eo.out.c 4 _ rfl;obtain⟨z5,uz⟩:=eo.out.c 5 _ rfl;obtain⟨z6,uA⟩:=eo.out.c 6 _ rfl;obtain⟨z7,uB⟩:=eo.out.c 7 _ rfl;obtain⟨z8,uC⟩:=eo.out.c 8 _ rfl;obtain⟨z9,uD⟩:=eo.out.c 9 _ rfl;clear hb3 ho2))
      have jh:Hid (Below w.heap.size w w3):=HP.out.b.trans (g_.out.mono (by omega))
      have Jk:w.heap.size+2<=w3.heap.size:=by have:=g_.out.size;omega
      exact bodyPost_ret (v:=.agg #[.int .i64 0,.int .i64 0,.int .i64 0,.int .i64 0,.string ⟨#[]⟩,.int .i64 0,.int .i64 0,.int .i64 0,.int .i64 0,.slice none 0 0]) (by simp[results,results144,go_sem,z0,z1,z2,z3,z4,z5,z6,z7,z8,z9]) rfl ⟨_,rfl,rfl,(by repeat(first|with_reducible exact jh.out|with_reducible refine Below.setCell ?_ (by simp<;>omega) _|with_reducible refine Below.alloc ?_ (by simp<;>omega) _))⟩
    ·obtain rfl:k=L.length:=by omega
     have hI:¬((5+L.length:Nat):Int)<(n:Int):=by omega
     have hall:=HP.out.all
     rw[List.take_length]at hall
     have HV:Hid (V=if aj ⟨i0,kd,i2,i3,L.map λx=>(mL x).getD (0,0)⟩=true then .put ⟨i0,kd,i2,i3,L.map λx=>(mL x).getD (0,0)⟩else .bad):=by
      show V=_
      rw[dP.out,if_pos hall]
     obtain⟨pa',pc',e,GG,yq,hbl⟩:=HP.out.done
     injection e with e1 _ e2
     subst e1 e2
     have q0:=HP.out.q.c0
     have q1:=HP.out.q.c1
     have q2:=HP.out.q.c2
     have q3:=HP.out.q.c3
     have Uk:=af yq
     have QX:Hid (Calls prog 63 #[.agg #[.int .i64 i0,.int .i64 kd,.int .i64 i2,.int .i64 i3,.slice pa L.length pc]] wr λe w'=>e=.returned (.bool (aj ⟨i0,kd,i2,i3,L.map λx=>(mL x).getD (0,0)⟩))/\Below wr.heap.size wr w'):=wW i0 kd i2 i3 pa L.length pc _ wr yq (by rw[List.length_map]) (by omega)
     obtain⟨ps,hps⟩:∃ps,(L.map λx=>(mL x).getD (0,0))=ps:=⟨_,rfl⟩
     have hpl:ps.length=L.length:=by rw[<-hps,List.length_map]
     rw[hps]at HV Uk QX
     have Hbl:=af hbl
     have Q6:=af hpl
     obtain⟨m,hm⟩:∃m,L.length=m:=⟨_,rfl⟩
     rw[hm]at GG QX q4 hI Q6
     rw[hm]
     clear hall yq hps hbl dP vw hpl hLn
     cases hv:aj ⟨i0,kd,i2,i3,ps⟩with
     |true=>
      rw[hv,if_pos rfl]at HV
      obtain rfl:V=_:=HV.out
      rw[hv]at QX
      go_wp2_with (go_at_call 63;refine aq QX.out ?_;rintro e w3 ⟨rfl,hb3⟩;dsimp only;have g_:=af hb3;have s0:w3.cell? ⟨w.heap.size+1,0,none⟩=_:=(hb3.cell (p:=⟨w.heap.size+1,0,none⟩) hF).trans q0;have s1:w3.cell? ⟨w.heap.size+1,1,none⟩=_:=(hb3.cell (p:=⟨w.heap.size+1,1,none⟩) hF).trans q1;have s2:w3.cell? ⟨w.heap.size+1,2,none⟩=_:=(hb3.cell (p:=⟨w.heap.size+1,2,none⟩) hF).trans q2;have s3:w3.cell? ⟨w.heap.size+1,3,none⟩=_:=(hb3.cell (p:=⟨w.heap.size+1,3,none⟩) hF).trans q3;have s4:w3.cell? ⟨w.heap.size+1,4,none⟩=_:=(hb3.cell (p:=⟨w.heap.size+1,4,none⟩) hF).trans q4;have eo:Hid (fO w3 w.heap.size):=HP.out.r.below hb3 (by omega);obtain⟨z0,ur⟩:=eo.out.c 0 _ rfl;obtain⟨z1,uu⟩:=eo.out.c 1 _ rfl;obtain⟨z2,uw⟩:=eo.out.c 2 _ rfl;obtain⟨z3,ux⟩:=eo.out.c 3 _ rfl;obtain⟨z4,uy⟩:=eo.out.c 4 _ rfl;obtain⟨z5,uz⟩:=eo.out.c 5 _ rfl;obtain⟨z6,uA⟩:=eo.out.c 6 _ rfl;obtain⟨z7,uB⟩:=eo.out.c 7 _ rfl;obtain⟨z8,uC⟩:=eo.out.c 8 _ rfl;obtain⟨z9,uD⟩:=eo.out.c 9 _ rfl;clear hb3)
      have jh:Hid (Below w.heap.size w w3):=HP.out.b.trans (g_.out.mono (by omega))
      have Jk:w.heap.size+2<=w3.heap.size:=by have:=g_.out.size;omega
      refine bodyPost_ret (v:=.agg #[.int .i64 2,.int .i64 0,.int .i64 0,.int .i64 0,.string ⟨#[]⟩,.int .i64 i0,.int .i64 kd,.int .i64 i2,.int .i64 i3,.slice pa m pc]) (by simp[results,results144,go_sem,z0,z1,z2,z3,z4,z5,z6,z7,z8,z9]) rfl ⟨_,rfl,⟨pa,pc,by rw[Q6.out],by rw[Q6.out];exact GG,?_,λx e=>by have:=Hbl.out x e;omega⟩,(by repeat(first|with_reducible exact jh.out|with_reducible refine Below.setCell ?_ (by simp<;>omega) _|with_reducible refine Below.alloc ?_ (by simp<;>omega) _))⟩
      refine bV.Ra (M:=λc _=>c=w.heap.size) (A:=w3) ?_ (bV.Ra (M:=λ_ _=>False) (Fr.of_below g_.out) Uk.out (λ_ _ _ e=>e)) (λx i e h=>by have:=Hbl.out x e;omega)
      exact G1 w3 w.heap.size _ _ _ _ _ _ _ _ _ _
     |false=>
      rw[hv,if_neg (by decide)]at HV
      obtain rfl:V=_:=HV.out
      rw[hv]at QX
      go_wp2_with (go_at_call 63;refine aq QX.out ?_;rintro e w3 ⟨rfl,hb3⟩;dsimp only;have g_:=af hb3;have eo:Hid (fO w3 w.heap.size):=HP.out.r.below hb3 (by omega);obtain⟨z0,ur⟩:=eo.out.c 0 _ rfl;obtain⟨z1,uu⟩:=eo.out.c 1 _ rfl;obtain⟨z2,uw⟩:=eo.out.c 2 _ rfl;obtain⟨z3,ux⟩:=eo.out.c 3 _ rfl;obtain⟨z4,uy⟩:=eo.out.c 4 _ rfl;obtain⟨z5,uz⟩:=eo.out.c 5 _ rfl;obtain⟨z6,uA⟩:=eo.out.c 6 _ rfl;obtain⟨z7,uB⟩:=eo.out.c 7 _ rfl;obtain⟨z8,uC⟩:=eo.out.c 8 _ rfl;obtain⟨z9,uD⟩:=eo.out.c 9 _ rfl;clear hb3)
      have jh:Hid (Below w.heap.size w w3):=HP.out.b.trans (g_.out.mono (by omega))
      have Jk:w.heap.size+2<=w3.heap.size:=by have:=g_.out.size;omega
      exact bodyPost_ret (v:=.agg #[.int .i64 0,.int .i64 0,.int .i64 0,.int .i64 0,.string ⟨#[]⟩,.int .i64 0,.int .i64 0,.int .i64 0,.int .i64 0,.slice none 0 0]) (by simp[results,results144,go_sem,z0,z1,z2,z3,z4,z5,z6,z7,z8,z9]) rfl ⟨_,rfl,rfl,(by repeat(first|with_reducible exact jh.out|with_reducible refine Below.setCell ?_ (by simp<;>omega) _|with_reducible refine Below.alloc ?_ (by simp<;>omega) _))⟩
 ·have gR:oN l=.bad:=by rw[HR.out,if_neg hb]
  rw[gR]
  have o9:(!b0||!b2||!b3)=true:=by
   cases b0<;>cases b2<;>cases b3<;>simp at hb⊢
  clear e0 e2 e3 hx1 hx3 Ky hat hs hw eY HR gR hb
  go_enter func144,ntmps144
  cases b0<;>cases b2<;>cases b3<;>first|(cases o9;done)|skip
  all_goals
   clear o9
   go_wp2_with (first
    |(go_at_call_of 143 (Value.string x1);refine aq (N1.out _ (by omega)) ?_;rintro e w1 ⟨rfl,hw⟩;subst w1;dsimp only)
    |(go_at_call_of 143 (Value.string x3);refine aq (N3.out _ (by omega)) ?_;rintro e w1 ⟨rfl,hw⟩;subst w1;dsimp only)
    |(go_at_call_of 143 (Value.string x4);refine aq (N4.out _ (by omega)) ?_;rintro e w1 ⟨rfl,hw⟩;subst w1;dsimp only))
   have jh:Hid (Below w.heap.size w w):=bK
   exact bodyPost_ret (v:=.agg #[.int .i64 0,.int .i64 0,.int .i64 0,.int .i64 0,.string ⟨#[]⟩,.int .i64 0,.int .i64 0,.int .i64 0,.int .i64 0,.slice none 0 0]) (by simp[results,results144,go_sem]) rfl ⟨_,rfl,rfl,(by repeat(first|with_reducible exact bK|with_reducible refine Below.setCell ?_ (by simp<;>omega) _|with_reducible refine Below.alloc ?_ (by simp<;>omega) _))⟩
def Bh(A n:Nat)(vq:Value)(ag:Int)(vn va:Value)(vs:Nat->Value)(sh:Nat->List Kp)(DT:Nat->Int)(bs:List Bx)(z:Nat)(w:World)(e:Ending)(w':World):Prop:=
 e=.returned (.bool true)/\∃vs',RS w' A vs' (λk=>cY bs k (aQ z) (sh k)) (λk=>if aL bs k (aQ z)=true then IntKind.i64.wrap (DT k+1)else DT k)/\(∀k,k<4->∀b,(vs' k).ownBlock=some b->(vs k).ownBlock=some b\/w.heap.size<=b)/\SC w' A n vq ((z:Int)+2) ag vn va/\Fr (λc i=>c=A/\((2<=i/\i<10)\/i=10+n*5+1)) w w'
theorem wX(A n z:Nat)(hn:n<4)(hz:z<=3)(k0 id kd ht col:Int)(pa:Option Addr)(pn pc:Nat)(vq:Value)(ag:Int)(vn va:Value)(vs:Nat->Value)(sh:Nat->List Kp)(DT:Nat->Int)(bs:List Bx)(w:World)(h:SC w A n vq ((z:Int)+1) ag vn va)(_hv:∀k,k<4->(vs k).ownBlock≠some A)
  (hF:∀W:World,Below w.heap.size w W->Calls prog 149 #[.pointer (some ⟨A,0,none⟩),.int .i64 (z:Int),.agg #[.int .i64 k0,.int .i64 0,.int .i64 0,.int .i64 0,.string ⟨#[]⟩,.int .i64 id,.int .i64 kd,.int .i64 ht,.int .i64 col,.slice pa pn pc]] W (uZ A vs sh DT bs z W)):
  Calls prog 114 #[.pointer (some ⟨A,0,none⟩),.int .i64 (n:Int),.agg #[.int .i64 k0,.int .i64 0,.int .i64 0,.int .i64 0,.string ⟨#[]⟩,.int .i64 id,.int .i64 kd,.int .i64 ht,.int .i64 col,.slice pa pn pc]] w (Bh A n vq ag vn va vs sh DT bs z w):=by
 have HC:=af h
 have HF:=af hF
 have mK:=h.lt
 have c1:=h.cs
 have t_:(n:Int)<4:=by omega
 have hn0:¬(n:Int)<0:=by omega
 have hB0:∀o:Obj,Below w.heap.size w (w.alloc o):=λo=>aU
 clear h hF
 have Ru:z=0\/z=1\/z=2\/z=3:=by omega
 rcases Ru with rfl|rfl|rfl|rfl
 all_goals
  go_enter func114,ntmps114
  go_wp2_with fail
  go_region_with (go_at_call 149;refine aq (HF.out _ (by first|exact hB0 _|exact(hB0 _).drew)) ?_;rintro e w1 ⟨rfl,vs1,hs1,hb1,iL⟩;dsimp only;have rI:Hid _:=hs1;have Hb1:Hid _:=hb1;have F9:Hid (Fr (λc i=>c=A/\2<=i/\i<10) w w1):=Fr.trans (Fr.of_below (by first|exact hB0 _|exact(hB0 _).drew)) iL;have d1:=(HC.out.fr F9.out (λi hi e=>by omega)).cs;have df1:=(HC.out.fr F9.out (λi hi e=>by omega)).f 1 (by omega);clear hs1 hb1 iL)
  all_goals go_wp2
  all_goals
   go_ret
   have hFs:∀u:Value,Fr (λc i=>c=A/\i=10+n*5+1) w1 (w1.setCell ⟨A,10+n*5+1,none⟩ u):=λu=>(Fr.refl _ w1).setCell (b:=A) (i:=10+n*5+1) (.inl ⟨rfl,rfl⟩) u
   refine⟨rfl,vs1,rI.out.fr (hFs _) (λi h1 h2 e=>by omega) (λk hk b i hb e=>?_),λk hk b hb=>?_,(HC.out.fr F9.out (λi hi e=>by omega)).gC _,?_⟩
   ·rw[e.1]at hb
    exact(rI.out.k k hk).ne hb
   ·rcases Hb1.out k hk b hb with h|h
    ·exact .inl h
    ·exact .inr (by simp at h;omega)
   ·exact(F9.out.mono (λb i e=>⟨e.1,.inl e.2⟩)).setCell (b:=A) (i:=10+n*5+1) (.inl ⟨rfl,.inr rfl⟩) _
variable {M:Nat->Nat->Prop} {w':World} {R R':dw} {vl vl':Value} {gs gs':List FG} {vs vs':Nat->Value} {P:Nat->Prop}
theorem kK.to(hf:Fr M w w'){A:Nat}(h:kK w A R vl gs vs P)(h0:¬M A 0)(hP:∀b i,P b->¬M b i)(er:R'.room=R.room)(ar:AR w' A vl' gs')(Pr:w'.frozen? ⟨A,1,none⟩=false)(ge:gs'.map (·.f)=R'.all)(PL:∀g∈gs',g∈gs\/zU P w' g)(sh:RS w' A vs' R'.sh R'.aG)(lk:w'.cell? ⟨A,30,none⟩=some (.int .i64 R'.lock))(Qj:w'.frozen? ⟨A,30,none⟩=false):kK w' A R' vl' gs' vs' P:=
 ⟨by rw[er];exact(hf.cell A 0 h.lt h0).trans h.room,ar,Pr,ge,λg hg=>(PL g hg).elim (λe=>(h.PL g e).fr hf hP) _root_.id,sh,lk,Qj⟩
variable {i:Nat}
theorem bH.notP{A n:Nat}{V:RW}(h:bH w A R V)(hn:n<4)(hb:V.P b):¬BP A n V b i:=λe=>by
 rcases e with⟨e,_⟩|e|e
 ·exact(h.P b hb).2.1 e
 ·exact((h.P b hb).2.2 n hn).1 e
 ·exact((h.P b hb).2.2 n hn).2 e
theorem bH.Qo{A n:Nat}{V:RW}(h:bH w A R V)(hn:n<4)(hb:V.vl.ownBlock=some b):¬BP A n V b i:=λe=>by
 rcases e with⟨e,_⟩|e|e
 ·subst e;exact h.lA hb
 ·exact h.g.ar.own.apart (h.s n hn).q (by decide) hb e
 ·exact h.g.ar.own.apart (h.s n hn).an (by decide) hb e
theorem bH.Qp{A n k:Nat}{V:RW}(h:bH w A R V)(hn:n<4)(hk:k<4)(hb:(V.vs k).ownBlock=some b):¬BP A n V b i:=λe=>by
 rcases e with⟨e,_⟩|e|e
 ·subst e;exact(h.g.sh.k k hk).ne hb
 ·exact(h.g.sh.k k hk).own.apart (h.s n hn).q (by decide) hb e
 ·exact(h.g.sh.k k hk).own.apart (h.s n hn).an (by decide) hb e
theorem bH.Z0{A n:Nat}{V:RW}(h:bH w A R V)(hn:n<4)(hb:(V.vn n).ownBlock=some b):¬BP A n V b i:=λe=>by
 rcases e with⟨e,_⟩|e|e
 ·subst e;exact h.nA n hn hb
 ·exact(h.s n hn).nt.apart (h.s n hn).q (by decide) hb e
 ·exact(h.s n hn).nt.apart (h.s n hn).an (by decide) hb e
theorem bH.qa{A n:Nat}{V:RW}(h:bH w A R V)(hn:n<4):∀b,(V.vq n).ownBlock=some b->(V.va n).ownBlock≠some b:=λ_ hb=>(h.s n hn).q.apart (h.s n hn).an (by decide) hb
theorem bH.as{A n k:Nat}{V:RW}(h:bH w A R V)(hn:n<4)(hk:k<4):∀b,(V.va n).ownBlock=some b->(V.vs k).ownBlock≠some b:=λ_ hb=>(h.s n hn).an.apart (h.g.sh.k k hk).own (by decide) hb
theorem bH.UG{A n:Nat}{V:RW}(h:bH w A R V)(hn:n<4)(hf:Fr M w w')(hM:∀b i,M b i->BP A n V b i)(h1:∀i,i<10\/i=30->¬M A i):kK w' A R V.vl V.gs V.vs V.P:=
 h.g.fr hf h1 (λb i hb e=>by
  rcases hb with hb|⟨k,hk,hb⟩|hb
  ·exact h.Qo hn hb (hM _ _ e)
  ·exact h.Qp hn hk hb (hM _ _ e)
  ·exact h.notP hn hb (hM _ _ e))
variable {vq vn va:Value} {qc:List RQ} {ng:List FG} {ag:Int}
theorem pK.step{A n:Nat}{s:kL}(h:pK w A n s vq qc vn ng va P)(hf:Fr M w w')(h2:∀b i,vq.ownBlock=some b\/vn.ownBlock=some b\/va.ownBlock=some b\/P b->¬M b i){st:Nat}(hs:SC w' A n vq (st:Int) ag vn va)(h0:st<=1->vn=.slice none 0 0):pK w' A n {s with step:=st,aG:=ag} vq qc vn ng va P:=
 ⟨hs,h.q.fr hf (λb i e=>h2 b i (.inl e)),h.qe,λx hx=>(h.ND x hx).fr hf (λb i e=>h2 b i (.inr (.inr (.inr e)))),h.nt.fr hf (λb i e=>h2 b i (.inr (.inl e))),h.Qq,λx hx=>(h.Tm x hx).fr hf (λb i e=>h2 b i (.inr (.inr (.inr e)))),h.an.fr hf (λb i e=>h2 b i (.inr (.inr (.inl e)))),h0⟩
theorem bH.rows{A n:Nat}{V:RW}(h:bH w A R V)(hn:n<4)(hM:∀b i,M b i->b=A):∀b i,(V.vq n).ownBlock=some b\/(V.vn n).ownBlock=some b\/(V.va n).ownBlock=some b\/V.P b->¬M b i:=λb i hb e=>by
 have e':=hM b i e
 subst e'
 rcases hb with hb|hb|hb|hb
 ·exact h.qA n hn hb
 ·exact h.nA n hn hb
 ·exact h.aA n hn hb
 ·exact(h.P _ hb).2.1 rfl
theorem jG(R:dw)(n:Nat)(s:kL):(R.gC n s).ss n=s:=if_pos rfl
theorem jH(R:dw)(n:Nat)(s:kL)(m:Nat)(h:m≠n):(R.gC n s).ss m=R.ss m:=if_neg h
theorem mg{A n:Nat}{V:RW}(h:i<10\/i=30\/(10+n*5<=i/\i<15+n*5)):BP A n V A i:=.inl ⟨rfl,λm hm hne j hj=>by omega⟩
theorem bH.answered{A n:Nat}{V:RW}{Z:Nat->Prop}(h:bH w A R V)(hZ:∀b,Z b↔V.Z A b)(hn:n<4){x:RQ}(hq:V.qc n=x::qc){X:ByteArray}{e:Ending}(ha:uU A n (V.vq n) (V.va n) qc.length (fZ (x::qc)) (R.ss n).an.length (R.ss n).an X (R.ss n).aG w e w'):bF A Z (dF R n X) w w':=by
 obtain⟨_,oQ,uq,hs,hq',ha',bq,ba,hf⟩:=ha
 have hM:∀b i,(b=A/\10+n*5<=i/\i<15+n*5)\/(V.va n).ownBlock=some b->BP A n V b i:=λb i e=>by
  rcases e with⟨rfl,e⟩|e
  ·exact mg (.inr (.inr e))
  ·exact .inr (.inr e)
 refine h.next hZ hn hf hM (λm hm hne=>jH _ _ _ _ hne) V.vl V.gs V.vs oQ qc (.slice none 0 0) [] uq V.P ((h.UG hn hf hM (λi hi e=>?_)).congr rfl rfl rfl rfl rfl) ?_ (λ_ h=>h) (λb hb=> .inl hb) (λb hb=> .inl hb) (λk _ b hb=> .inl hb) (λb hb=> .inl (bq b hb)) (λb hb=>by cases hb) ba
 ·rcases e with e|e
  ·omega
  ·exact h.aA n hn e
 ·have e0:(dF R n X).ss n=(R.ss n).answer X:=jG _ _ _
  rw[e0]
  have hs0:=h.s n hn
  have oy:=hs0.qe
  rw[hq]at oy
  refine⟨hs,by rw[pS]at hq';exact hq',?_,λy hy=>(hs0.ND y (by rw[hq];exact List.mem_cons_of_mem _ hy)).fr hf (λb i hb e=>h.notP hn hb (hM _ _ e)),ak.nil _ _ _ _,rfl,λg hg=>(by cases hg),?_,λ_=>rfl⟩
  ·show qc.map (·.r)=(R.ss n).q.drop 1
   rw[<-oy];rfl
  ·show ak w' 0 9 1 uq ((R.ss n).an++[X]).length (((R.ss n).an++[X]).map .string)
   rw[List.length_append];exact ha'
theorem bH.Ti{A n:Nat}{V:RW}{Z:Nat->Prop}(h:bH w A R V)(hZ:∀b,Z b↔V.Z A b)(hn:n<4)(h0:(R.ss n).step=0)(hs:SC w' A n (V.vq n) 1 ag (V.vn n) (V.va n))(hf:Fr (λc i=>c=A/\(i=10+n*5+2\/i=10+n*5+1)) w w'):bF A Z (R.gC n {R.ss n with aG:=ag,step:=1}) w w':=by
 have hM:∀b i,(b=A/\(i=10+n*5+2\/i=10+n*5+1))->BP A n V b i:=λb i e=>by
  obtain⟨rfl,e⟩:=e
  exact mg (.inr (.inr (by omega)))
 refine h.next hZ hn hf hM (λm hm hne=>jH _ _ _ _ hne) V.vl V.gs V.vs (V.vq n) (V.qc n) (V.vn n) (V.ng n) (V.va n) V.P ((h.UG hn hf hM (λi hi e=>by omega)).congr rfl rfl rfl rfl rfl) ?_ (λ_ h=>h) (λb hb=> .inl hb) (λb hb=> .inl hb) (λk _ b hb=> .inl hb) (λb hb=> .inl hb) (λb hb=> .inl hb) (λb hb=> .inl hb)
 rw[jG]
 exact(h.s n hn).step hf (h.rows hn (λb i e=>e.1)) (st:=1) hs (λ_=>(h.s n hn).n0 (by omega))
theorem bH.VU{A n:Nat}{V:RW}{Z:Nat->Prop}(h:bH w A R V)(hZ:∀b,Z b↔V.Z A b)(hn:n<4)(h0:(R.ss n).nt=[]){e:Ending}(hN:pJ A n (V.vq n) (R.ss n).aG (V.va n) V.gs w e w'):bF A Z (R.gC n {R.ss n with nt:=(R.ss n).nt++R.all,step:=2}) w w':=by
 obtain⟨_,v',hs,ho,hb',hf⟩:=hN
 have hM:∀b i,(b=A/\(i=10+n*5+3\/i=10+n*5+1))->BP A n V b i:=λb i e=>by
  obtain⟨rfl,e⟩:=e
  exact mg (.inr (.inr (by omega)))
 have hg:=h.UG hn hf hM (λi hi e=>by omega)
 refine h.next hZ hn hf hM (λm hm hne=>jH _ _ _ _ hne) V.vl V.gs V.vs (V.vq n) (V.qc n) v' V.gs (V.va n) V.P (hg.congr rfl rfl rfl rfl rfl) ?_ (λ_ h=>h) (λb hb=> .inl hb) (λb hb=> .inl hb) (λk _ b hb=> .inl hb) (λb hb=> .inl hb) (λb hb=> .inr (hb' b hb)) (λb hb=> .inl hb)
 rw[jG]
 have hr:=(h.s n hn)
 have h2:=h.rows hn (M:=λc i=>c=A/\(i=10+n*5+3\/i=10+n*5+1)) (λb i e=>e.1)
 exact⟨hs,hr.q.fr hf (λb i e=>h2 b i (.inl e)),hr.qe,λx hx=>(hr.ND x hx).fr hf (λb i e=>h2 b i (.inr (.inr (.inr e)))),ho,by show V.gs.map (·.f)=(R.ss n).nt++R.all;rw[h0,hg.DU];rfl,hg.PL,hr.an.fr hf (λb i e=>h2 b i (.inr (.inr (.inl e)))),λe=>by have e':(2:Nat)<=1:=e;omega⟩
variable {sh:Nat->List Kp} {v':Value} {ks':List Kp}
theorem RS.one{A q:Nat}(hf:Fr M w w'){ag:Nat->Int}(h:RS w A vs sh ag)(hk:KR w' A q v' ks')(h1:∀i,2<=i->i<10->i≠2+q->¬M A i)(hq:q<4)(h2:∀k,k<4->k≠q->∀b i,(vs k).ownBlock=some b->¬M b i):RS w' A (dR vs q v') (dR sh q ks') ag:=by
 refine⟨λk hk4=>?_,λk hk4=>⟨(hf.cell A _ h.lt (h1 _ (by omega) (by omega) (by omega))).trans (h.a k hk4).1,(hf.frozen A _ h.lt (h1 _ (by omega) (by omega) (by omega))).trans (h.a k hk4).2⟩⟩
 by_cases e:k=q
 ·subst e;rw[cF,cF];exact hk
 ·rw[bX _ _ e,bX _ _ e]
  exact(h.k k hk4).fr hf (h1 _ (by omega) (by omega) (by omega)) (h2 k hk4 e)
variable {ks:List Kp}
theorem bH.got{A n q:Nat}{V:RW}{Z:Nat->Prop}(h:bH w A R V)(hZ:∀b,Z b↔V.Z A b)(hn:n<4)(j_:q<4){x:RQ}(hq:V.qc n=x::qc){X:ByteArray}{e:Ending}(ha:Bo A n (V.vq n) (V.va n) (V.vs q) qc.length (fZ (x::qc)) (R.ss n).an.length (R.ss n).an X (R.ss n).aG q ks w e w'):bF A Z (dF (R.fH q ks) n X) w w':=by
 obtain⟨_,vk,oQ,uq,hk,bk,hs,hq',ha',bq,ba,hf⟩:=ha
 have hM:∀b i,(b=A/\(i=2+q\/(10+n*5<=i/\i<15+n*5)))\/(V.va n).ownBlock=some b->BP A n V b i:=λb i e=>by
  rcases e with⟨rfl,e⟩|e
  ·exact mg (by omega)
  ·exact .inr (.inr e)
 have PS:∀i,¬(i=2+q\/(10+n*5<=i/\i<15+n*5))->¬((A=A/\(i=2+q\/(10+n*5<=i/\i<15+n*5)))\/(V.va n).ownBlock=some A):=λi hi e=>by
  rcases e with e|e
  ·exact hi e.2
  ·exact h.aA n hn e
 have hg:kK w' A (R.fH q ks) V.vl V.gs (dR V.vs q vk) V.P:=h.g.to hf (PS 0 (by omega)) (λb i hb e=>h.notP hn hb (hM _ _ e)) rfl ⟨(hf.cell A 1 h.g.lt (PS 1 (by omega))).trans h.g.ar.c,h.g.ar.own.fr hf (λb i hb e=>h.Qo hn hb (hM _ _ e))⟩ ((hf.frozen A 1 h.g.lt (PS 1 (by omega))).trans h.g.Pr) h.g.DU (λg hg=> .inl hg) (RS.one hf h.g.sh hk (λi h1 h2 h3=>PS i (by omega)) j_ (λk hk _ b i hb e=>h.Qp hn hk hb (hM _ _ e))) ((hf.cell A 30 h.g.lt (PS 30 (by omega))).trans h.g.lk) ((hf.frozen A 30 h.g.lt (PS 30 (by omega))).trans h.g.Qj)
 refine h.next hZ hn hf hM (λm hm hne=>jH _ _ _ _ hne) V.vl V.gs (dR V.vs q vk) oQ qc (.slice none 0 0) [] uq V.P (hg.congr rfl rfl rfl rfl rfl) ?_ (λ_ h=>h) (λb hb=> .inl hb) (λb hb=> .inl hb) (λk hk b hb=>?_) (λb hb=> .inl (bq b hb)) (λb hb=>by cases hb) ba
 ·have e0:(dF (R.fH q ks) n X).ss n=(R.ss n).answer X:=jG _ _ _
  rw[e0]
  have hs0:=h.s n hn
  have oy:=hs0.qe
  rw[hq]at oy
  refine⟨hs,by rw[pS]at hq';exact hq',?_,λy hy=>(hs0.ND y (by rw[hq];exact List.mem_cons_of_mem _ hy)).fr hf (λb i hb e=>h.notP hn hb (hM _ _ e)),ak.nil _ _ _ _,rfl,λg hg=>(by cases hg),?_,λ_=>rfl⟩
  ·show qc.map (·.r)=(R.ss n).q.drop 1
   rw[<-oy];rfl
  ·show ak w' 0 9 1 uq ((R.ss n).an++[X]).length (((R.ss n).an++[X]).map .string)
   rw[List.length_append];exact ha'
 ·by_cases ek:k=q
  ·subst ek;rw[cF]at hb;exact bk b hb
  ·rw[bX _ _ ek]at hb;exact .inl hb
theorem J_(R:dw)(q:Nat):R.fH q (R.sh q)=R:=by
 unfold dw.fH
 have:(λj=>if j=q then R.sh q else R.sh j)=R.sh:=by
  funext j
  by_cases e:j=q
  ·rw[if_pos e,e]
  ·rw[if_neg e]
 rw[this]
theorem bH.locked{A n:Nat}{V:RW}{Z:Nat->Prop}(h:bH w A R V)(hZ:∀b,Z b↔V.Z A b)(hn:n<4)(h0:(R.ss n).step=0)(hs:SC w' A n (V.vq n) 1 (R.ss n).aG (V.vn n) (V.va n))(hL:w'.cell? ⟨A,30,none⟩=some (.int .i64 (n:Int)))(SD:w'.frozen? ⟨A,30,none⟩=false)(hf:Fr (λc i=>c=A/\(i=30\/i=10+n*5+1)) w w'):bF A Z ({R with lock:=n}.gC n {R.ss n with step:=1}) w w':=by
 have hM:∀b i,(b=A/\(i=30\/i=10+n*5+1))->BP A n V b i:=λb i e=>by
  obtain⟨rfl,e⟩:=e
  exact mg (by omega)
 have hg:kK w' A {R with lock:=n} V.vl V.gs V.vs V.P:=h.g.to hf (λe=>by omega) (λb i hb e=>h.notP hn hb (hM _ _ e)) rfl ⟨(hf.cell A 1 h.g.lt (λe=>by omega)).trans h.g.ar.c,h.g.ar.own.fr hf (λb i hb e=>h.Qo hn hb (hM _ _ e))⟩ ((hf.frozen A 1 h.g.lt (λe=>by omega)).trans h.g.Pr) h.g.DU (λg hg=> .inl hg) (h.g.sh.fr hf (λi h1 h2 e=>by omega) (λk hk b i hb e=>h.Qp hn hk hb (hM _ _ e))) hL SD
 refine h.next hZ hn hf hM (λm hm hne=>jH _ _ _ _ hne) V.vl V.gs V.vs (V.vq n) (V.qc n) (V.vn n) (V.ng n) (V.va n) V.P (hg.congr rfl rfl rfl rfl rfl) ?_ (λ_ h=>h) (λb hb=> .inl hb) (λb hb=> .inl hb) (λk _ b hb=> .inl hb) (λb hb=> .inl hb) (λb hb=> .inl hb) (λb hb=> .inl hb)
 rw[jG]
 exact(h.s n hn).step hf (h.rows hn (λb i e=>e.1)) (st:=1) hs (λ_=>(h.s n hn).n0 (by omega))
variable {bs:List Bx}
theorem bH.Ss{A n z:Nat}{V:RW}{Z:Nat->Prop}(h:bH w A R V)(hZ:∀b,Z b↔V.Z A b)(hn:n<4)(h0:(R.ss n).step=z+1){e:Ending}(hF:Bh A n (V.vq n) (R.ss n).aG (V.vn n) (V.va n) V.vs R.sh R.aG bs z w e w'):bF A Z ((rq R z bs).gC n {R.ss n with step:=(R.ss n).step+1}) w w':=by
 obtain⟨_,vs',hS,hb',hs,hf⟩:=hF
 have hM:∀b i,(b=A/\((2<=i/\i<10)\/i=10+n*5+1))->BP A n V b i:=λb i e=>by
  obtain⟨rfl,e⟩:=e
  exact mg (by omega)
 have hg:kK w' A (rq R z bs) V.vl V.gs vs' V.P:=h.g.to hf (λe=>by omega) (λb i hb e=>h.notP hn hb (hM _ _ e)) rfl ⟨(hf.cell A 1 h.g.lt (λe=>by omega)).trans h.g.ar.c,h.g.ar.own.fr hf (λb i hb e=>h.Qo hn hb (hM _ _ e))⟩ ((hf.frozen A 1 h.g.lt (λe=>by omega)).trans h.g.Pr) h.g.DU (λg hg=> .inl hg) hS ((hf.cell A 30 h.g.lt (λe=>by omega)).trans h.g.lk) ((hf.frozen A 30 h.g.lt (λe=>by omega)).trans h.g.Qj)
 refine h.next hZ hn hf hM (λm hm hne=>jH _ _ _ _ hne) V.vl V.gs vs' (V.vq n) (V.qc n) (V.vn n) (V.ng n) (V.va n) V.P (hg.congr rfl rfl rfl rfl rfl) ?_ (λ_ h=>h) (λb hb=> .inl hb) (λb hb=> .inl hb) hb' (λb hb=> .inl hb) (λb hb=> .inl hb) (λb hb=> .inl hb)
 rw[jG,h0]
 have hs2:SC w' A n (V.vq n) ((z+1+1:Nat):Int) (R.ss n).aG (V.vn n) (V.va n):=by
  rw[show((z+1+1:Nat):Int)=(z:Int)+2 by omega]
  exact hs
 exact(h.s n hn).step hf (h.rows hn (λb i e=>e.1)) (st:=z+1+1) hs2 (λe=>by omega)
theorem CG{F g:FG}:∀{l:List FG},g∈gh F l->g∈l\/F=g
 |[],h=>by
  rw[gh,List.mem_singleton]at h
  exact .inr h.symm
 |y::l,h=>by
  unfold gh at h
  split at h
  ·rcases List.mem_cons.1 h with e|e
   ·exact .inr e.symm
   ·exact .inl e
  ·rcases List.mem_cons.1 h with e|e
   ·exact .inl (by rw[e];exact List.mem_cons_self)
   ·exact(CG e).imp (λe=>List.mem_cons_of_mem _ e) _root_.id
theorem IW{id:Int}{p:Option FG}{l:List FG}{g:FG}(h:g∈fY id p l):g∈l\/p=some g:=by
 unfold fY at h
 cases p with
 |none=>exact .inl (List.mem_filter.1 h).1
 |some F=>
  rcases CG h with e|e
  ·exact .inl (List.mem_filter.1 e).1
  ·exact .inr (congrArg some e)
theorem bH.done{A n:Nat}{V:RW}{Z:Nat->Prop}(h:bH w A R V)(hZ:∀b,Z b↔V.Z A b)(hn:n<4){x:RQ}(hq:V.qc n=x::qc){id:Int}{p:Option FG}(hp:∀F,p=some F->zU V.P w F){e:Ending}(ha:uV A n (V.vq n) (V.va n) qc.length (fZ (x::qc)) (R.ss n).an.length (R.ss n).an (R.ss n).aG id p V.gs w e w'):bF A Z (dF {R with all:=mF R.all id (p.map (·.f)),lock:= -1} n (pM (eV id R.all) (p.map (·.f)))) w w':=by
 obtain⟨_,a,cap,oQ,uq,hA,bl,hL,hAf,SD,hs,hq',ha',bq,ba,hf⟩:=ha
 rw[h.g.DU]at ha'
 have hM:∀b i,(b=A/\(i=1\/i=30\/(10+n*5<=i/\i<15+n*5)))\/(V.va n).ownBlock=some b->BP A n V b i:=λb i e=>by
  rcases e with⟨rfl,e⟩|e
  ·exact mg (by omega)
  ·exact .inr (.inr e)
 have PS:∀i,¬(i=1\/i=30\/(10+n*5<=i/\i<15+n*5))->¬((A=A/\(i=1\/i=30\/(10+n*5<=i/\i<15+n*5)))\/(V.va n).ownBlock=some A):=λi hi e=>by
  rcases e with e|e
  ·exact hi e.2
  ·exact h.aA n hn e
 have SE:∀b i,V.P b->¬((b=A/\(i=1\/i=30\/(10+n*5<=i/\i<15+n*5)))\/(V.va n).ownBlock=some b):=λb i hb e=>h.notP hn hb (hM _ _ e)
 have hg:kK w' A {R with all:=mF R.all id (p.map (·.f)),lock:= -1} (.slice a (fY id p V.gs).length cap) (fY id p V.gs) V.vs V.P:=h.g.to hf (PS 0 (by omega)) SE rfl hA hAf (by rw[IV,h.g.DU]) (λg hg=>(IW hg).imp _root_.id (λe=>(hp g e).fr hf SE)) (h.g.sh.fr hf (λi h1 h2=>PS i (by omega)) (λk hk b i hb e=>h.Qp hn hk hb (hM _ _ e))) hL SD
 refine h.next hZ hn hf hM (λm hm hne=>jH _ _ _ _ hne) (.slice a (fY id p V.gs).length cap) (fY id p V.gs) V.vs oQ qc (.slice none 0 0) [] uq V.P (hg.congr rfl rfl rfl rfl rfl) ?_ (λ_ h=>h) (λb hb=> .inl hb) (λb hb=> .inr (bl b hb)) (λk _ b hb=> .inl hb) (λb hb=> .inl (bq b hb)) (λb hb=>by cases hb) ba
 have e0:(dF {R with all:=mF R.all id (p.map (·.f)),lock:= -1} n (pM (eV id R.all) (p.map (·.f)))).ss n=(R.ss n).answer (pM (eV id R.all) (p.map (·.f))):=jG _ _ _
 rw[e0]
 have hs0:=h.s n hn
 have oy:=hs0.qe
 rw[hq]at oy
 refine⟨hs,by rw[pS]at hq';exact hq',?_,λy hy=>(hs0.ND y (by rw[hq];exact List.mem_cons_of_mem _ hy)).fr hf SE,ak.nil _ _ _ _,rfl,λg hg=>(by cases hg),?_,λ_=>rfl⟩
 ·show qc.map (·.r)=(R.ss n).q.drop 1
  rw[<-oy];rfl
 ·show ak w' 0 9 1 uq ((R.ss n).an++[pM (eV id R.all) (p.map (·.f))]).length (((R.ss n).an++[pM (eV id R.all) (p.map (·.f))]).map .string)
  rw[List.length_append];exact ha'
end
end Go.Proofs.YtenaepdmlknlcaaGreatDoor
