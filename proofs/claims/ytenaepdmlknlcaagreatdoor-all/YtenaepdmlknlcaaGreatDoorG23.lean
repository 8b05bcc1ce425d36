import Derived.Test.YtenaepdmlknlcaaGreatDoorG19
open Go.Proofs.Tryz
set_option maxRecDepth 100000
set_option maxHeartbeats 8000000
namespace Go.Proofs.YtenaepdmlknlcaaGreatDoor
section
open Go.RowKit Go.Shelf
attribute [local go_sem] Oper.semAt_some
variable {w:World} {ro:Option Addr}
theorem aT.perm{ok:Nat->Prop}{vs us:List FV}(h:aT ok w ro vs)(hp:vs.Perm us):aT ok w ro us:=by
 rcases h with⟨rfl,rfl⟩|⟨d,q,x,ys,rfl,hT,hq⟩
 ·exact .inl ⟨rfl,hp.nil_eq.symm⟩
 ·exact .inr ⟨d,q,x,ys,rfl,hT,hq.trans hp⟩
def rR(ok:Nat->Prop)(n:Nat)(W:World)(us:List FV):Prop:=
 ∃xV,W.cell? ⟨n+1+1+1,0,none⟩=some (.pointer xV)/\W.frozen? ⟨n+1+1+1,0,none⟩=false/\aT (λb=>ok b\/(n+3<b/\b<W.heap.size)) W xV us
variable {n:Nat} {W:World} {us:List FV}
theorem rR.lt{ok:Nat->Prop}(h:rR ok n W us):n+1+1+1<W.heap.size:=by
 obtain⟨xV,h1,_⟩:=h
 exact aZ h1
theorem rR.kept{ok:Nat->Prop}{A B:World}{row:Option Nat}(h:rR ok n A us)(hg:A.grownBy B row)(hr:∀r,row=some r->∃o:Obj,A.heap[r]? =some o/\o.isCells=false):rR ok n B us:=by
 obtain⟨xV,h1,h2,h3⟩:=h
 refine⟨xV,cell_kept h1 hg hr,(frozen_kept h1 hg hr).trans h2,?_⟩
 have hs:A.heap.size<=B.heap.size:=hg.size
 exact aT.mono (aT.same h3 (λb o v _ e=>cell_kept e hg hr)) (λb hb=>hb.imp (λh=>h) (λh=>⟨h.1,Nat.lt_of_lt_of_le h.2 hs⟩))
theorem BO(ok:Nat->Prop)(ro:Option Addr)(vs:List FV)(id:Int)(w:World)(hok:∀b,ok b->b<w.heap.size)(hR:aT ok w ro vs)(hg:∀v∈vs,Good ok w v):
  Calls prog 225 #[.agg #[.pointer ro],.int .i64 id] w λe w'=>∃lz,e=.returned (.agg #[.pointer lz])/\aT (iM ok w.heap.size w'.heap.size) w' lz (vs.filter λv=>!(v.f.id==id))/\Below w.heap.size w w':=by
 refine(callsIn_wide (n:=4)).1 ?_
 refine callsIn_of_wp_marks func225 rfl trivial ?_ rfl
 simp only[ntmps225,List.size_toArray,List.length_cons,List.length_nil,Nat.reduceAdd,Nat.reduceSub,Array.replicate_succ,Array.replicate_zero,List.push_toArray,List.append_toArray,List.nil_append,List.cons_append]
 have HR:=af hR
 clear hR
 have hB0:∀o1 o2 o3 o4:Obj,Below w.heap.size w ((((w.alloc o1).alloc o2).alloc o3).alloc o4):=λo1 o2 o3 o4=>((aU.alloc (by simp) _).alloc (by simp<;>omega) _).alloc (by simp<;>omega) _
 gi_wp2_with (refine⟨trivial,?_⟩;gi_at_call 80;refine(callsIn_wide.2 (uT ok ro vs _ (λb hb=>by have:=hok b hb;simp;omega) (aT.same HR.out (Same.of_below (hB0 _ _ _ _) hok)))).mono ?_;rintro e w1 ⟨Bt,x,rfl,S4,S5,S6,T6,VI,hb1⟩)
 rw[World.size_alloc,World.size_alloc,World.size_alloc,World.size_alloc]at S4 hb1
 have hB1:Below w.heap.size w w1:=(hB0 _ _ _ _).trans (hb1.mono (by omega))
 have hs1:w.heap.size+4<=w1.heap.size:=by omega
 have SB:w1.cell? ⟨w.heap.size+1,0,none⟩=some (.int .i64 id):=(hb1.cell (p:=⟨w.heap.size+1,0,none⟩) (show w.heap.size+1<_ by omega)).trans (by simp[go_sem])
 have Yw:w1.cell? ⟨w.heap.size+1+1,0,none⟩=some (.pointer none):=(hb1.cell (p:=⟨w.heap.size+1+1,0,none⟩) (show w.heap.size+1+1<_ by omega)).trans (by simp[go_sem])
 have Rf:w1.frozen? ⟨w.heap.size+1+1,0,none⟩=false:=(hb1.frozen (p:=⟨w.heap.size+1+1,0,none⟩) (show w.heap.size+1+1<_ by omega)).trans (by simp[go_sem])
 have UT:w1.cell? ⟨w.heap.size+1+1+1,0,none⟩=some (.pointer none):=(hb1.cell (p:=⟨w.heap.size+1+1+1,0,none⟩) (show w.heap.size+1+1+1<_ by omega)).trans (by simp[go_sem])
 have YL:w1.frozen? ⟨w.heap.size+1+1+1,0,none⟩=false:=(hb1.frozen (p:=⟨w.heap.size+1+1+1,0,none⟩) (show w.heap.size+1+1+1<_ by omega)).trans (by simp[go_sem])
 refine wpIn_rangeFunc_ownH (F:=Fence.wide) rfl (by omega) (gf:=125) (lb:=#[.pointer (some ⟨Bt,0,none⟩),.pointer (some ⟨Bt+1,0,none⟩)]) rfl trivial (enters_of func125 (by kernel_rfl) rfl)
  (all_stops ok (Good ok w) (w.heap.size+1+1+1) (w.heap.size+4) _ Bt (Bt+1) ro vs x w1 (λb hb=>by have:=hok b hb;omega) (λb hb=>by have:=hok b hb;omega) (by omega) hs1 S6 T6 (VI.same (Same.of_below hb1 (λb hb=>by have:=hok b hb;omega))) hg)
  qN qM bK (λ_=>rfl)
  (λpre W=>((W.cell? ⟨w.heap.size+1,0,none⟩=some (.int .i64 id)/\W.cell? ⟨w.heap.size+1+1,0,none⟩=some (.pointer none)/\W.frozen? ⟨w.heap.size+1+1,0,none⟩=false/\rR ok w.heap.size W ((pre.map Subtype.val).filter λv=>!(v.f.id==id)))/\Below w.heap.size w W))
  (λ_ _ _=>False)
  (OwnFrom.and (Own.from (λs A B row hs hg hr=>⟨cell_kept hs.1 hg hr,cell_kept hs.2.1 hg hr,(frozen_kept hs.2.1 hg hr).trans hs.2.2.1,hs.2.2.2.kept hg hr⟩) _) (ownFrom_below aM (by omega)))
  (λ_ _ _ _ _ hs _ _=>hs)
  ⟨⟨SB,Yw,Rf,⟨none,UT,YL,.inl ⟨rfl,rfl⟩⟩⟩,hB1⟩
  (λv a' W=>∃Bv,w.heap.size+1+1+1<Bv/\Q5 W Bv (.int .i64 v.1.f.id) (.int .i64 v.1.f.kd) (.int .i64 v.1.f.ht) (.int .i64 v.1.f.col) (.slice (some ⟨v.1.pb,v.1.po,none⟩) v.1.f.ps.length v.1.cap)/\
   a'={tmps:=#[.agg #[.pointer ro],.int .i64 id,.pointer (some ⟨w.heap.size,0,none⟩),.pointer (some ⟨w.heap.size+1,0,none⟩),.pointer (some ⟨w.heap.size+1+1,0,none⟩),.pointer (some ⟨w.heap.size+1+1+1,0,none⟩),.pointer (some ⟨Bv,0,none⟩),.agg #[.pointer ro],.func (.func 125) #[] #[.pointer (some ⟨Bt,0,none⟩),.pointer (some ⟨Bt+1,0,none⟩)],.agg #[.int .i64 v.1.f.id,.int .i64 v.1.f.kd,.int .i64 v.1.f.ht,.int .i64 v.1.f.col,.slice (some ⟨v.1.pb,v.1.po,none⟩) v.1.f.ps.length v.1.cap],undef,undef,undef,undef,undef,undef,undef,undef],defers:=[]})
  (λv a' s A B row hs hg hr=>by obtain⟨Bv,h1,h2,h3⟩:=hs;exact⟨Bv,h1,h2.kept hg (λr e=>(hr r e).2),h3⟩)
  ?assign ?body ?done ?stop
 case assign=>
  rintro l pre v W K ⟨⟨hi,hb,OB,qK⟩,hBW⟩ hK
  simp only[mX]
  gi_wp2
  have hal:Below W.heap.size W (W.alloc (.cells #[.int .i64 v.1.f.id,.int .i64 v.1.f.kd,.int .i64 v.1.f.ht,.int .i64 v.1.f.col,.slice (some ⟨v.1.pb,v.1.po,none⟩) v.1.f.ps.length v.1.cap] 32)):=aU
  refine hK _ _ ((KeepsOthers.alloc _ _).from _) (aS.of_below hal) ⟨⟨(hal.cell (p:=⟨w.heap.size+1,0,none⟩) (aZ hi)).trans hi,(hal.cell (p:=⟨w.heap.size+1+1,0,none⟩) (aZ hb)).trans hb,(hal.frozen (p:=⟨w.heap.size+1+1,0,none⟩) (aZ hb)).trans OB,qK.kept (bC hal) (λr e=>by cases e)⟩,hBW.alloc hBW.size _⟩ ⟨W.heap.size,qK.lt,Q5.new _ _ _ _ _ _ _,rfl⟩
 case body=>
  rintro l pre v a' W hl hr ⟨⟨hi,hb,OB,qK⟩,hBW⟩ ⟨Bv,Yv,GK,rfl⟩ hlen
  have jw:Bv<W.heap.size:=aZ GK.c0
  have Bp:=af hBW
  have EW:Good ok w v.1:=v.2
  have Ul:=af qK
  obtain⟨e0,e1,e2,e3,e4,_,_,_,_,_⟩:=GK
  by_cases hid:v.1.f.id=id
  ·have UZ:(v.1.f.id==id)=true:=by simp[hid]
   gi_wp2
   refine⟨(KeepsOthers.refl _).from _,aS.refl _ _,⟨hi,hb,OB,?_⟩,Bp.out⟩
   have e:(pre++[v]).map Subtype.val=pre.map Subtype.val++[v.1]:=by simp
   rw[e,List.filter_append]
   simpa[hid]using Ul.out
  ·have UZ:(v.1.f.id==id)=false:=by simp[hid]
   obtain⟨xV,ht,htf,hroot⟩:=qK
   have KM:=af hroot
   have HC:Hid (∀W',Below W.heap.size W W'->Calls prog 31 #[.agg #[.pointer xV],.agg #[.int .i64 v.1.f.id,.int .i64 v.1.f.kd,.int .i64 v.1.f.ht,.int .i64 v.1.f.col,.slice (some ⟨v.1.pb,v.1.po,none⟩) v.1.f.ps.length v.1.cap]] W' λe w'=>∃lz:Option Addr,e=.returned (.agg #[.pointer lz])/\aT (iM (λb=>ok b\/(w.heap.size+3<b/\b<W.heap.size)) W'.heap.size w'.heap.size) w' lz ((pre.map Subtype.val).filter (λv=>!(v.f.id==id))++[v.1])/\Below W'.heap.size W' w'):=λW' Bd=>by
    have hb':Below w.heap.size w W':=hBW.trans (Bd.mono hBW.size)
    refine vG _ v.1 xV _ W' (KM.out.same (Same.of_below Bd (λb hb=>?_))) (λu hu=>?_) EW.1 (λb hb=>?_) (.inl EW.2.1) ⟨Nat.lt_of_lt_of_le (hok _ EW.2.1) hb'.size,λk a b e=>?_⟩ EW.2.2.1
    ·rcases hb with hb|hb
     ·exact Nat.lt_of_lt_of_le (hok b hb) hBW.size
     ·exact hb.2
    ·obtain⟨z,hz,rfl⟩:=List.mem_map.1 (List.mem_filter.1 hu).1
     exact z.2.1
    ·have:=Bd.size
     have:=hb'.size
     rcases hb with hb|hb
     ·have:=hok b hb;omega
     ·omega
    ·have:=EW.2.2.2 k a b e
     exact⟨(hb'.cell (p:=⟨v.1.pb,v.1.po+k*2,none⟩) (hok _ EW.2.1)).trans this.1,(hb'.cell (p:=⟨v.1.pb,v.1.po+k*2+1,none⟩) (hok _ EW.2.1)).trans this.2⟩
   clear hroot hBW EW
   have UU:w.heap.size+1+1+1<W.heap.size:=aZ ht
   gi_wp2_with (refine⟨trivial,?_⟩;gi_at_call 31;refine(CallsIn.inRound l (callsIn_wide.2 (HC.out _ bK))).mono ?_;rintro e w2 ⟨GZ,rfl,MF,hb2⟩;have RN:Hid _:=MF;clear MF;have ZF:=(hb2.cell (p:=⟨w.heap.size+1+1+1,0,none⟩) UU).trans ht;have ZG:=(hb2.frozen (p:=⟨w.heap.size+1+1+1,0,none⟩) UU).trans htf)
   have hz2:=hb2.size
   refine⟨((KeepsFrom.of_grownBy (bC hb2) (λj e=>by cases e)).trans ((KeepsOthers.setCell _ _ _).from _)),(aS.of_below hb2).trans (wI _ _ _ _),⟨?_,?_,?_,⟨GZ,cell_eq ZF _,by rw[World.frozen?_setCell];exact ZG,?_⟩⟩,(Bp.out.trans (hb2.mono Bp.out.size)).trans (bJ _ _ _ _ (by omega) _)⟩
   ·exact(aK _ _ (.inl (by omega))).trans ((hb2.cell (p:=⟨w.heap.size+1,0,none⟩) (show w.heap.size+1<W.heap.size by omega)).trans hi)
   ·exact(aK _ _ (.inl (by omega))).trans ((hb2.cell (p:=⟨w.heap.size+1+1,0,none⟩) (show w.heap.size+1+1<W.heap.size by omega)).trans hb)
   ·rw[World.frozen?_setCell]
    exact(hb2.frozen (p:=⟨w.heap.size+1+1,0,none⟩) (show w.heap.size+1+1<W.heap.size by omega)).trans OB
   ·have e:(pre++[v]).map Subtype.val=pre.map Subtype.val++[v.1]:=by simp
    rw[e,List.filter_append]
    have h1:=aT.same RN.out (nL w2 (w.heap.size+1+1+1) 0 (.pointer GZ) (by
     rintro((h|h)|h)
     ·have:=hok _ h;omega
     ·omega
     ·omega))
    simp only[List.filter_cons,UZ,Bool.not_false,if_true,List.filter_nil]
    refine h1.mono λb hb=>?_
    have hsz:(w2.setCell ⟨w.heap.size+1+1+1,0,none⟩ (.pointer GZ)).heap.size=w2.heap.size:=by simp[World.setCell]
    rw[hsz]
    rcases hb with(h|h)|h
    ·exact .inl h
    ·exact .inr ⟨h.1,by omega⟩
    ·exact .inr ⟨by omega,h.2⟩
 case done=>
  rintro D ys W hD hys ⟨⟨hi,hb,OB,qK⟩,hBW⟩ hK
  obtain⟨xV,ht,htf,hroot⟩:=qK
  have KM:Hid (aT (λb=>ok b\/(w.heap.size+3<b/\b<W.heap.size)) W xV (vs.filter λv=>!(v.f.id==id))):=aT.perm hroot (hys.filter _)
  clear hroot hys
  gi_wp2
  refine⟨by simp,.inl ⟨_,_,rfl,run_takeDeferred ((Below.heap_setCell _ _ _ _ (λe=>by simp only at e;omega)).trans hK),?_⟩⟩
  have Sy:(W.setCell ⟨w.heap.size+1+1,0,none⟩ (.pointer xV)).heap[D]? =some (.deferred (some [])):=(Below.heap_setCell _ _ _ _ (λe=>by simp only at e;omega)).trans hK
  have hc2:=ep Sy (cell_eq hb (.pointer xV)) (.deferred none)
  have hsz:W.heap.size<=((W.setCell ⟨w.heap.size+1+1,0,none⟩ (.pointer xV)).putObj D (.deferred none)).heap.size:=by simp[World.setCell,World.putObj]
  refine⟨.agg #[.pointer xV],by simp[results,results225,go_sem,hc2],xV,rfl,?_,?_⟩
  ·refine aT.mono (aT.same KM.out (λb o v hb' e=>ep Sy (nL (ok:=λb=>ok b\/(w.heap.size+3<b/\b<W.heap.size)) W (w.heap.size+1+1) 0 (.pointer xV) (by
     rintro(h|h)
     ·have:=hok _ h;omega
     ·omega) b o v hb' e) _)) (λb hb'=>hb'.imp (λh=>h) (λh=>⟨by omega,by omega⟩))
  ·exact(hBW.trans (bJ _ _ _ _ (by omega) _)).trans (belowK_b (w:=w) aM _ D _ _ (by omega) Sy rfl rfl)
 case stop=>
  rintro D c pre W _ _ h _
  exact h.elim
end
end Go.Proofs.YtenaepdmlknlcaaGreatDoor
