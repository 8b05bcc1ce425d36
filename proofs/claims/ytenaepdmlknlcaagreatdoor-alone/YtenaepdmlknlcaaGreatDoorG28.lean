import Derived.Test.YtenaepdmlknlcaaGreatDoorG21
import Derived.Test.YtenaepdmlknlcaaGreatDoorG24
open Go.Proofs.Tryz
set_option maxRecDepth 100000
set_option maxHeartbeats 8000000
namespace Go.Proofs.YtenaepdmlknlcaaGreatDoor
section
open Go.RowKit Go.Shelf
attribute [local go_sem] Oper.semAt_some
def oW(b:Nat)(A B:World):Prop:=A.heap.size<=B.heap.size/\∀o v,A.cell? ⟨b,o,none⟩=some v->B.cell? ⟨b,o,none⟩=some v
variable {b:Nat}
theorem oW.trans{A B C:World}(h:oW b A B)(k:oW b B C):oW b A C:=⟨Nat.le_trans h.1 k.1,λo v e=>k.2 o v (h.2 o v e)⟩
theorem Qb:∀{A B C:World},oW b A B->oW b B C->oW b A C:=λh k=>h.trans k
variable {n:Nat}
theorem Qa:∀(W:World) (l:Nat) (o o':Obj),n<=l->W.heap[l]? =some o->o.isCells=false->o.isWalk=false->oW b W (W.putObj l o'):=λW l o o' _ hl ho _=>
 ⟨(grownBy_putObj' W l o').size,λoff v h=>cell_kept h (grownBy_putObj' W l o') (λr e=>by cases e;exact⟨o,hl,ho⟩)⟩
theorem xj(z:Nat):(aR z).length=bh z*bh z:=by simp[aR]
theorem DF(G:Tl->Prop)(z c:Nat)(hG:∀t∈aR z,G t)(hz:(z=0/\c=1)\/(z=1/\c=2)\/(z=2/\c=4)\/(z=3/\c=8))(Bz n:Nat)(w:World)(hB:w.cell? ⟨Bz,0,none⟩=some (.int .i64 (z:Int))):
  SeqStopsK Fence.wide n prog 233 #[.pointer (some ⟨Bz,0,none⟩)] (λt:{t:Tl//G t}=>#[.agg #[.int .i64 t.1.z,.int .i64 t.1.c,.int .i64 t.1.r]]) (oW Bz) (λys=>ys.map Subtype.val=aR z) (λ_=>True) (c*c) w:=by
 intro l J Jx W hW hJ Ma hY h0
 refine callsIn_wide.2 ?_
 have e0:=(hW.cell (p:=⟨Bz,0,none⟩) (aZ hB)).trans hB
 have hc:bh z=c:=by rcases hz with⟨rfl,rfl⟩|⟨rfl,rfl⟩|⟨rfl,rfl⟩|⟨rfl,rfl⟩<;>rfl
 have H0:=af h0
 have HY:Hid (∀pre x W1,J pre W1->pre.length<c*c->YieldAt Fence.wide 0 prog l #[.agg #[.int .i64 x.1.z,.int .i64 x.1.c,.int .i64 x.1.r]] W1 λe W'=>∃b,e=.returned (.bool b)/\(b=true->J (pre++[x]) W'/\oW Bz W1 W')/\(b=false->Jx (pre++[x]) W')):=λpre x W1 hj hl=>by
  obtain⟨fn,tmps,assign,body,hy,hR⟩:=sS rfl 0 (hY pre x W1 hj hl)
  refine⟨fn,tmps,assign,body,hy,hR.mono ?_⟩
  rintro e W' (⟨rfl,h1,h2⟩|⟨rfl,h1⟩)
  ·exact⟨true,rfl,λ_=>⟨h1,h2⟩,λh=>(by cases h)⟩
  ·exact⟨false,rfl,λh=>(by cases h),λ_=>h1⟩
 have HJ:Hid (∀pre A B,J pre A->Below A.heap.size A B->J pre B):=λpre A B hj hb=>hJ pre A B none hj (bC hb) (λr e=>by cases e)
 obtain⟨T,hT⟩:∃T:List {t:Tl//G t},T.map Subtype.val=aR z:=⟨(aR z).pmap Subtype.mk hG,by rw[List.map_pmap];simp⟩
 have Gz:T.length=c*c:=by rw[<-hc,<-xj,<-hT,List.length_map]
 have TH:Hid (∀k,k<c*c->∃h:G ⟨(z:Int),((k%c:Nat):Int),((k/c:Nat):Int)⟩,T.take (k+1)=T.take k++[⟨⟨(z:Int),((k%c:Nat):Int),((k/c:Nat):Int)⟩,h⟩]):=λk hk=>by
  have uK:k<T.length:=by rw[Gz];exact hk
  have hv:(T[k]'uK).1=⟨(z:Int),((k%c:Nat):Int),((k/c:Nat):Int)⟩:=by
   have h1:(T.map Subtype.val)[k]'(by rw[List.length_map];exact uK)=(T[k]'uK).1:=by simp
   rw[<-h1]
   have h2:k<(aR z).length:=by rw[xj,hc];exact hk
   have h3:(T.map Subtype.val)[k]'(by rw[List.length_map];exact uK)=(aR z)[k]'h2:=by simp only[hT]
   rw[h3]
   simp[aR,A5,hc]
  obtain⟨y,hy⟩:∃y,T[k]'uK=y:=⟨_,rfl⟩
  rw[hy]at hv
  obtain⟨yt,yg⟩:=y
  dsimp only at hv
  subst hv
  exact⟨yg,by rw[List.take_add_one,List.getElem?_eq_getElem uK,hy];rfl⟩
 have WL:Hid (∀k,k<=c*c->(T.take k).length=k):=λk hk=>by rw[List.length_take,Gz];omega
 have WJ:Hid (T.take (c*c)=T):=by show T.take (c*c)=_;rw[<-Gz,List.take_length]
 have WM:=af hT
 clear hJ Ma hY h0 hB hc
 show Calls prog 233 #[.func (.yield l) #[] #[],.pointer (some ⟨Bz,0,none⟩)] W _
 clear hT Gz hG
 rcases hz with⟨rfl,rfl⟩|⟨rfl,rfl⟩|⟨rfl,rfl⟩|⟨rfl,rfl⟩
 ·go_enter func233,ntmps233
  go_wp2
  go_loopw [10] (λi wr=>∃k:Nat,k<=1/\i=.int .i64 k/\wr.cell? ⟨Bz,0,none⟩=some (.int .i64 0)/\J (T.take k) wr) (λi _=>1-(intOf i).toNat)
  case atStart=>exact⟨0,by omega,rfl,e0,H0.out⟩
  case round=>
   obtain⟨k,hk,rfl,hcz,Bc⟩:=hrel
   by_cases hlt:k<1
   ·obtain rfl:k=0:=by omega
    have hw0:IntKind.i64.wrap 0=0:=by decide
    obtain⟨ET,wm⟩:=TH.out 0 (by omega)
    have L_:G ⟨0,0,0⟩:=ET
    have OA:T.take 1=T.take 0++[(⟨⟨0,0,0⟩,L_⟩:{t:Tl//G t})]:=wm
    clear wm
    have SN:J (T.take 0) wr.drew:=HJ.out _ _ _ Bc (Below.refl _ wr).drew
    obtain⟨fn,tmps,assign,body,hy,hR⟩:=HY.out (T.take 0) ⟨⟨0,0,0⟩,L_⟩ wr.drew SN (by rw[WL.out 0 (by omega)];exact hlt)
    dsimp only at hy
    go_upto_region 4 with fail
    refine(wpIn_wide (n:=1)).1 ?_
    gi_region_with (refine hR.mono ?_;rintro e W3 ⟨b,rfl,hb1,hb2⟩;dsimp only)
    all_goals
     have eO:=af hb1
     have dm:=af hb2
     clear hb1 hb2 hR hy
     cases b with
     |true=>
      gi_wp2
      go_wp2
      refine⟨⟨1,by omega,by go_num,(eO.out (by first|trivial|rfl)).2.2 _ _ hcz,?_⟩,by simp[intOf]⟩
      rw[OA]
      exact(eO.out (by first|trivial|rfl)).1
     |false=>
      gi_wp2
      go_wp2
      exact bodyPost_ret (v:=.tuple #[]) (by simp[results,results233,go_sem]) rfl ⟨⟨_,rfl⟩,.inr ⟨_,trivial,dm.out (by first|trivial|rfl)⟩⟩
   ·obtain rfl:k=1:=by omega
    go_wp2
    go_end0
    exact⟨⟨_,rfl⟩,.inl ⟨T,WM.out,by rw[WJ.out]at Bc;exact Bc⟩⟩
 ·go_enter func233,ntmps233
  go_wp2
  go_loopw [10] (λi wr=>∃k:Nat,k<=4/\i=.int .i64 k/\wr.cell? ⟨Bz,0,none⟩=some (.int .i64 1)/\J (T.take k) wr) (λi _=>4-(intOf i).toNat)
  case atStart=>exact⟨0,by omega,rfl,e0,H0.out⟩
  case round=>
   obtain⟨k,hk,rfl,hcz,Bc⟩:=hrel
   by_cases hlt:k<4
   ·have lU:(k:Int)<4:=by omega
    have hk0:(0:Int)<=(k:Int):=by omega
    obtain⟨ET,wm⟩:=TH.out k (by omega)
    have L_:G ⟨(1:Int),(k:Int)%2,(k:Int)/2⟩:=ET
    have OA:T.take (k+1)=T.take k++[(⟨⟨(1:Int),(k:Int)%2,(k:Int)/2⟩,L_⟩:{t:Tl//G t})]:=wm
    clear wm
    have hmod:(k:Int).tmod 2=(k:Int)%2:=Int.tmod_eq_emod_of_nonneg hk0
    have hdiv:(k:Int).tdiv 2=(k:Int)/2:=Int.tdiv_eq_ediv_of_nonneg hk0
    have ZM:IntKind.i64.wrap ((k:Int)/2)=(k:Int)/2:=by rw[IntKind.wrap_i64];omega
    have SN:J (T.take k) wr.drew:=HJ.out _ _ _ Bc (Below.refl _ wr).drew
    obtain⟨fn,tmps,assign,body,hy,hR⟩:=HY.out (T.take k) ⟨⟨(1:Int),(k:Int)%2,(k:Int)/2⟩,L_⟩ wr.drew SN (by rw[WL.out k (by omega)];exact hlt)
    dsimp only at hy
    go_upto_region 4 with fail
    refine(wpIn_wide (n:=1)).1 ?_
    gi_region_with (refine hR.mono ?_;rintro e W3 ⟨b,rfl,hb1,hb2⟩;dsimp only)
    all_goals
     have eO:=af hb1
     have dm:=af hb2
     clear hb1 hb2 hR hy
     cases b with
     |true=>
      gi_wp2
      go_wp2
      refine⟨⟨k+1,by omega,by go_num,(eO.out (by first|trivial|rfl)).2.2 _ _ hcz,?_⟩,by simp[intOf];omega⟩
      rw[OA]
      exact(eO.out (by first|trivial|rfl)).1
     |false=>
      gi_wp2
      go_wp2
      exact bodyPost_ret (v:=.tuple #[]) (by simp[results,results233,go_sem]) rfl ⟨⟨_,rfl⟩,.inr ⟨_,trivial,dm.out (by first|trivial|rfl)⟩⟩
   ·obtain rfl:k=4:=by omega
    go_wp2
    go_end0
    exact⟨⟨_,rfl⟩,.inl ⟨T,WM.out,by rw[WJ.out]at Bc;exact Bc⟩⟩
 ·go_enter func233,ntmps233
  go_wp2
  go_loopw [10] (λi wr=>∃k:Nat,k<=16/\i=.int .i64 k/\wr.cell? ⟨Bz,0,none⟩=some (.int .i64 2)/\J (T.take k) wr) (λi _=>16-(intOf i).toNat)
  case atStart=>exact⟨0,by omega,rfl,e0,H0.out⟩
  case round=>
   obtain⟨k,hk,rfl,hcz,Bc⟩:=hrel
   by_cases hlt:k<16
   ·have lU:(k:Int)<16:=by omega
    have hk0:(0:Int)<=(k:Int):=by omega
    obtain⟨ET,wm⟩:=TH.out k (by omega)
    have L_:G ⟨(2:Int),(k:Int)%4,(k:Int)/4⟩:=ET
    have OA:T.take (k+1)=T.take k++[(⟨⟨(2:Int),(k:Int)%4,(k:Int)/4⟩,L_⟩:{t:Tl//G t})]:=wm
    clear wm
    have hmod:(k:Int).tmod 4=(k:Int)%4:=Int.tmod_eq_emod_of_nonneg hk0
    have hdiv:(k:Int).tdiv 4=(k:Int)/4:=Int.tdiv_eq_ediv_of_nonneg hk0
    have ZM:IntKind.i64.wrap ((k:Int)/4)=(k:Int)/4:=by rw[IntKind.wrap_i64];omega
    have SN:J (T.take k) wr.drew:=HJ.out _ _ _ Bc (Below.refl _ wr).drew
    obtain⟨fn,tmps,assign,body,hy,hR⟩:=HY.out (T.take k) ⟨⟨(2:Int),(k:Int)%4,(k:Int)/4⟩,L_⟩ wr.drew SN (by rw[WL.out k (by omega)];exact hlt)
    dsimp only at hy
    go_upto_region 4 with fail
    refine(wpIn_wide (n:=1)).1 ?_
    gi_region_with (refine hR.mono ?_;rintro e W3 ⟨b,rfl,hb1,hb2⟩;dsimp only)
    all_goals
     have eO:=af hb1
     have dm:=af hb2
     clear hb1 hb2 hR hy
     cases b with
     |true=>
      gi_wp2
      go_wp2
      refine⟨⟨k+1,by omega,by go_num,(eO.out (by first|trivial|rfl)).2.2 _ _ hcz,?_⟩,by simp[intOf];omega⟩
      rw[OA]
      exact(eO.out (by first|trivial|rfl)).1
     |false=>
      gi_wp2
      go_wp2
      exact bodyPost_ret (v:=.tuple #[]) (by simp[results,results233,go_sem]) rfl ⟨⟨_,rfl⟩,.inr ⟨_,trivial,dm.out (by first|trivial|rfl)⟩⟩
   ·obtain rfl:k=16:=by omega
    go_wp2
    go_end0
    exact⟨⟨_,rfl⟩,.inl ⟨T,WM.out,by rw[WJ.out]at Bc;exact Bc⟩⟩
 ·go_enter func233,ntmps233
  go_wp2
  go_loopw [10] (λi wr=>∃k:Nat,k<=64/\i=.int .i64 k/\wr.cell? ⟨Bz,0,none⟩=some (.int .i64 3)/\J (T.take k) wr) (λi _=>64-(intOf i).toNat)
  case atStart=>exact⟨0,by omega,rfl,e0,H0.out⟩
  case round=>
   obtain⟨k,hk,rfl,hcz,Bc⟩:=hrel
   by_cases hlt:k<64
   ·have lU:(k:Int)<64:=by omega
    have hk0:(0:Int)<=(k:Int):=by omega
    obtain⟨ET,wm⟩:=TH.out k (by omega)
    have L_:G ⟨(3:Int),(k:Int)%8,(k:Int)/8⟩:=ET
    have OA:T.take (k+1)=T.take k++[(⟨⟨(3:Int),(k:Int)%8,(k:Int)/8⟩,L_⟩:{t:Tl//G t})]:=wm
    clear wm
    have hmod:(k:Int).tmod 8=(k:Int)%8:=Int.tmod_eq_emod_of_nonneg hk0
    have hdiv:(k:Int).tdiv 8=(k:Int)/8:=Int.tdiv_eq_ediv_of_nonneg hk0
    have ZM:IntKind.i64.wrap ((k:Int)/8)=(k:Int)/8:=by rw[IntKind.wrap_i64];omega
    have SN:J (T.take k) wr.drew:=HJ.out _ _ _ Bc (Below.refl _ wr).drew
    obtain⟨fn,tmps,assign,body,hy,hR⟩:=HY.out (T.take k) ⟨⟨(3:Int),(k:Int)%8,(k:Int)/8⟩,L_⟩ wr.drew SN (by rw[WL.out k (by omega)];exact hlt)
    dsimp only at hy
    go_upto_region 4 with fail
    refine(wpIn_wide (n:=1)).1 ?_
    gi_region_with (refine hR.mono ?_;rintro e W3 ⟨b,rfl,hb1,hb2⟩;dsimp only)
    all_goals
     have eO:=af hb1
     have dm:=af hb2
     clear hb1 hb2 hR hy
     cases b with
     |true=>
      gi_wp2
      go_wp2
      refine⟨⟨k+1,by omega,by go_num,(eO.out (by first|trivial|rfl)).2.2 _ _ hcz,?_⟩,by simp[intOf];omega⟩
      rw[OA]
      exact(eO.out (by first|trivial|rfl)).1
     |false=>
      gi_wp2
      go_wp2
      exact bodyPost_ret (v:=.tuple #[]) (by simp[results,results233,go_sem]) rfl ⟨⟨_,rfl⟩,.inr ⟨_,trivial,dm.out (by first|trivial|rfl)⟩⟩
   ·obtain rfl:k=64:=by omega
    go_wp2
    go_end0
    exact⟨⟨_,rfl⟩,.inl ⟨T,WM.out,by rw[WJ.out]at Bc;exact Bc⟩⟩
theorem Et{n:Int}(h0: -1000000<=n)(h1:n<=1000000):Lib.atoiAll (Lib.itoa n)=.ok n:=by
 unfold Lib.itoa
 split
 ·rename_i hn
  rw[Lib.atoiAll_minus,Lib.parseMag,if_neg (EB _),rY 18 n.natAbs (by omega) (by omega)]
  simp only[Lib.signed]
  rw[if_neg (by omega)]
  congr 1
  omega
 ·rename_i hn
  obtain⟨c,r,e⟩:∃c r,Lib.decDigits n.toNat=c::r:=by
   cases hd:Lib.decDigits n.toNat with
   |nil=>exact absurd hd (EB _)
   |cons c r=>exact⟨c,r,rfl⟩
  have hc:=qB _ n.toNat aM c (by rw[e];simp)
  rw[e,Lib.atoiAll_plain c r (by omega) (by omega),<-e,Lib.parseMag,if_neg (EB _),rY 18 n.toNat (by omega) (by omega)]
  simp only[Lib.signless]
  rw[if_neg (by omega)]
  congr 1
  omega
variable {u:Nat}
theorem yO(h1:¬u<100)(h2:u<1000):Lib.decDigits u=[UInt8.ofNat (48+u/100),UInt8.ofNat (48+u/10%10),UInt8.ofNat (48+u%10)]:=by
 rw[Lib.decDigits,dif_neg (by omega),Lib.decDigits_two (by omega) (by omega)]
 have e:u/10/10=u/100:=by omega
 rw[e]
 rfl
theorem rZ{c:UInt8}(h:48<=c.toNat):c=UInt8.ofNat (48+(c.toNat-48)):=by
 rw[show 48+(c.toNat-48)=c.toNat by omega,UInt8.ofNat_toNat]
theorem vR(h:u<10):(UInt8.ofNat (48+u)=48)↔u=0:=by
 constructor
 ·intro e
  have:=congrArg UInt8.toNat e
  rw[gP h]at this
  have e2:(48:UInt8).toNat=48:=rfl
  omega
 ·intro e;subst e;rfl
theorem ot(h:u<10):tU (UInt8.ofNat (48+u))=true:=by
 unfold tU;rw[gP h];simp;omega
theorem oC{u:Nat}(h:u<1000)(neg:Bool)(hn:neg=true->0<u):jg neg (Lib.decDigits u)=((if neg=true then-1 else 1)*(u:Int),true):=by
 unfold jg
 by_cases h10:u<10
 ·rw[Lib.decDigits_one h10,if_neg,if_pos (by simp only[List.all_cons,List.all_nil,ot h10,Bool.and_self])]
  ·simp only[yA,List.foldl_cons,List.foldl_nil,gP h10]
   congr 2
   omega
  ·simp only[gB,List.length_singleton,List.head?_cons,Option.some.injEq,vR h10]
   cases neg
   ·simp
   ·have:=hn rfl;simp;omega
 ·by_cases UI:u<100
  ·have a1:u/10<10:=by omega
   have a2:u%10<10:=by omega
   rw[Lib.decDigits_two h10 UI,if_neg,if_pos (by simp only[List.all_cons,List.all_nil,ot a1,ot a2,Bool.and_self])]
   ·simp only[yA,List.foldl_cons,List.foldl_nil,gP a1,gP a2]
    congr 2
    omega
   ·simp only[gB,List.length_cons,List.length_nil,List.head?_cons,Option.some.injEq,vR a1]
    have:¬u/10=0:=by omega
    simp[this]
  ·have a1:u/100<10:=by omega
   have a2:u/10%10<10:=by omega
   have a3:u%10<10:=by omega
   rw[yO UI h,if_neg,if_pos (by simp only[List.all_cons,List.all_nil,ot a1,ot a2,ot a3,Bool.and_self])]
   ·simp only[yA,List.foldl_cons,List.foldl_nil,gP a1,gP a2,gP a3]
    congr 2
    omega
   ·simp only[gB,List.length_cons,List.length_nil,List.head?_cons,Option.some.injEq,vR a1]
    have:¬u/100=0:=by omega
    simp[this]
variable {neg:Bool}
theorem Dx{t:List UInt8}(h:(jg neg t).2=true):∃u:Nat,u<1000/\t=Lib.decDigits u/\(neg=true->0<u):=by
 unfold jg at h
 split at h
 ·cases h
 ·rename_i hb
  split at h
  ·rename_i hd
   simp only[gB,Bool.or_eq_true,Bool.and_eq_true,decide_eq_true_eq]at hb
   match t,hb,hd with
   |[],hb,_=>exact absurd (.inl (.inl (by simp))) hb
   |[a],hb,hd=>
    simp only[List.all_cons,List.all_nil,Bool.and_true,tU,decide_eq_true_eq]at hd
    refine⟨a.toNat-48,by omega,?_,λhn=>?_⟩
    ·rw[Lib.decDigits_one (by omega),<-rZ hd.1]
    ·have:¬a=48:=λe=>hb (.inr ⟨by rw[e];rfl,.inr hn⟩)
     have h48:¬a.toNat=48:=λe=>this (UInt8.toNat_inj.1 e)
     omega
   |[a,b],hb,hd=>
    simp only[List.all_cons,List.all_nil,Bool.and_true,Bool.and_eq_true,tU,decide_eq_true_eq]at hd
    have:¬a=48:=λe=>hb (.inr ⟨by rw[e];rfl,.inl (by simp)⟩)
    have h48:¬a.toNat=48:=λe=>this (UInt8.toNat_inj.1 e)
    refine⟨(a.toNat-48)*10+(b.toNat-48),by omega,?_,λ_=>by omega⟩
    rw[Lib.decDigits_two (by omega) (by omega)]
    rw[show((a.toNat-48)*10+(b.toNat-48))/10=a.toNat-48 by omega,show((a.toNat-48)*10+(b.toNat-48))%10=b.toNat-48 by omega,<-rZ hd.1.1,<-rZ hd.2.1]
   |[a,b,c],hb,hd=>
    simp only[List.all_cons,List.all_nil,Bool.and_true,Bool.and_eq_true,tU,decide_eq_true_eq]at hd
    have:¬a=48:=λe=>hb (.inr ⟨by rw[e];rfl,.inl (by simp)⟩)
    have h48:¬a.toNat=48:=λe=>this (UInt8.toNat_inj.1 e)
    refine⟨(a.toNat-48)*100+(b.toNat-48)*10+(c.toNat-48),by omega,?_,λ_=>by omega⟩
    rw[yO (by omega) (by omega)]
    rw[show((a.toNat-48)*100+(b.toNat-48)*10+(c.toNat-48))/100=a.toNat-48 by omega,show((a.toNat-48)*100+(b.toNat-48)*10+(c.toNat-48))/10%10=b.toNat-48 by omega,show((a.toNat-48)*100+(b.toNat-48)*10+(c.toNat-48))%10=c.toNat-48 by omega,<-rZ hd.1.1,<-rZ hd.2.1.1,<-rZ hd.2.2.1]
   |a::b::c::d::r,hb,_=>exact absurd (.inl (.inr (by simp))) hb
  ·cases h
theorem JE{v:Int}(h0: -999<=v)(h1:v<=999):bE (Lib.itoa v)=(v,true):=by
 unfold Lib.itoa bE
 split
 ·rename_i hn
  rw[if_pos (show(45::Lib.decDigits v.natAbs).head? =some 45 from rfl),List.tail_cons,oC (by omega) true (λ_=>by omega),if_pos rfl]
  congr 1
  omega
 ·rename_i hn
  have hne:¬(Lib.decDigits v.toNat).head? =some 45:=λe=>by
   have hm:=List.mem_of_head? e
   have:=qB _ v.toNat aM 45 hm
   have e2:(45:UInt8).toNat=45:=rfl
   omega
  rw[if_neg hne,oC (by omega) false (λe=>by cases e),if_neg (by decide)]
  congr 1
  omega
theorem Qr{l:List UInt8}(h:(bE l).2=true): -999<=(bE l).1/\(bE l).1<=999/\l=Lib.itoa (bE l).1:=by
 by_cases hd:l.head? =some 45
 ·have e:bE l=jg true l.tail:=by unfold bE;rw[if_pos hd]
  rw[e]at h⊢
  obtain⟨u,hu,ht,hp⟩:=Dx h
  have hp:=hp rfl
  have hl:l=45::l.tail:=by
   cases l with
   |nil=>cases hd
   |cons x r=>rw[List.head?_cons]at hd;rw[Option.some.inj hd];rfl
  rw[ht,oC hu true (λ_=>hp),if_pos rfl]
  refine⟨by show-999<= -1*(u:Int);omega,by show-1*(u:Int)<=999;omega,?_⟩
  rw[hl,ht]
  show _=Lib.itoa (-1*(u:Int))
  rw[show-1*(u:Int)= -(u:Int)by omega,Lib.itoa_neg u hp]
 ·have e:bE l=jg false l:=by unfold bE;rw[if_neg hd]
  rw[e]at h⊢
  obtain⟨u,hu,ht,_⟩:=Dx h
  have e2:jg false l=((u:Int),true):=by rw[ht,oC hu false (λe=>by cases e),if_neg (by decide)];congr 1;omega
  rw[e2]
  refine⟨by show-999<=(u:Int);omega,by show(u:Int)<=999;omega,?_⟩
  show l=Lib.itoa (u:Int)
  rw[Lib.itoa_nonneg,<-ht]
theorem eC{x:ByteArray}(h:(bE x.data.toList).2=true):aO x=true/\bL x=(bE x.data.toList).1:=by
 obtain⟨h0,h1,e⟩:=Qr h
 have ha:Lib.atoiAll x.data.toList=.ok (bE x.data.toList).1:=by
  conv=>lhs;rw[e]
  exact Et (by omega) (by omega)
 unfold aO bL
 rw[ha]
 refine⟨decide_eq_true ?_,rfl⟩
 apply Ak
 exact e.symm
theorem jD{x:ByteArray}(h:aO x=true)(h0: -999<=bL x)(h1:bL x<=999):bE x.data.toList=(bL x,true):=by
 unfold aO at h
 unfold bL at h0 h1⊢
 split at h
 ·rename_i v hv
  rw[hv]at h0 h1⊢
  have e:=of_decide_eq_true h
  have e2:x.data.toList=Lib.itoa v:=by rw[<-e]
  rw[e2]
  exact JE h0 h1
 ·cases h
def Jd(l:List ByteArray):Rd:=if(dL l 1).2=true/\(dL l 2).2=true/\(dL l 3).2=true/\cC (dL l 1).1 (dL l 2).1 (dL l 3).1=true then .get ⟨(dL l 1).1,(dL l 2).1,(dL l 3).1⟩ (if l.length=5 then jz l 4 else⟨#[]⟩)else .bad
def je(l:List ByteArray):Rd:=
 if iq (jz l 0)=true then(if l.length=4\/(l.length=5/\(jz l 4).size=8)then Jd l else .bad)
 else if jR (jz l 0)=true then(if 6<=l.length then oN l else .bad)
 else if mD (jz l 0)=true then(if l.length=2 then(if(dL l 1).2=true/\1<=(dL l 1).1/\(dL l 1).1<=99 then .del (dL l 1).1 else .bad)else .bad)
 else .bad
end
end Go.Proofs.YtenaepdmlknlcaaGreatDoor
