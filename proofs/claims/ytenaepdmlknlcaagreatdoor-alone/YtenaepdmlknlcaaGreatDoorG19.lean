import Derived.Test.YtenaepdmlknlcaaGreatDoorG16
open Go.Proofs.Tryz
set_option maxRecDepth 100000
set_option maxHeartbeats 8000000
namespace Go.Proofs.YtenaepdmlknlcaaGreatDoor
section
open Go.RowKit Go.Shelf
attribute [local go_sem] Oper.semAt_some
theorem Kz(w:World):
  Calls prog 80 #[.agg #[.pointer none]] w λe w'=>∃Bt,e=.returned (.func (.func 125) #[] #[.pointer (some ⟨Bt,0,none⟩),.pointer (some ⟨Bt+1,0,none⟩)])/\w.heap.size<=Bt/\Bt+1<w'.heap.size/\w'.cell? ⟨Bt,0,none⟩=some (.pointer none)/\Below w.heap.size w w':=by
 go_enter func80,ntmps80
 go_wp2_with (go_at_call 90;refine(kq _ ⟨0,0,0,0⟩ _).mono ?_;rintro e w2 ⟨rfl,rfl⟩;dsimp only)
 go_ret
 exact⟨w.heap.size+1,by simp,by omega,by simp,by simp[go_sem],(aU.alloc (by simp) _).alloc (by simp<;>omega) _⟩
theorem KB(q:Nat)(x:Bx)(w:World)(hq:q<w.heap.size)(hc:C4 w q x):
  Calls prog 80 #[.agg #[.pointer (some ⟨q,0,none⟩)]] w λe w'=>∃Bt,e=.returned (.func (.func 125) #[] #[.pointer (some ⟨Bt,0,none⟩),.pointer (some ⟨Bt+1,0,none⟩)])/\w.heap.size<=Bt/\Bt+1<w'.heap.size/\w'.cell? ⟨Bt,0,none⟩=some (.pointer (some ⟨q,0,none⟩))/\C4 w' (Bt+1) x/\Below w.heap.size w w':=by
 obtain⟨c0,c1,c2,c3⟩:=hc
 go_enter func80,ntmps80
 go_wp2_with fail
 go_region_with (go_at_call 90;refine(kq _ x _).mono ?_;rintro e w2 ⟨rfl,rfl⟩;dsimp only)
 all_goals
  go_wp2
  go_ret
  exact⟨w.heap.size+1,rfl,by omega,by simp,by simp[go_sem],⟨by simp[go_sem],by simp[go_sem],by simp[go_sem],by simp[go_sem]⟩,((aU.drew).alloc (by simp) _).alloc (by simp<;>omega) _⟩
def BL(ok:Nat->Prop)(w:World)(ro:Option Addr)(vs:List FV)(x:Bx):Prop:=
 (ro=none/\vs=[])\/∃(d q:Nat) (us:List FV),ro=some ⟨q,0,none⟩/\iw ok w (d+1) q us x/\us.Perm vs
theorem uT(ok:Nat->Prop)(ro:Option Addr)(vs:List FV)(w:World)(hok:∀b,ok b->b<w.heap.size)(hR:aT ok w ro vs):
  Calls prog 80 #[.agg #[.pointer ro]] w λe w'=>∃Bt x,e=.returned (.func (.func 125) #[] #[.pointer (some ⟨Bt,0,none⟩),.pointer (some ⟨Bt+1,0,none⟩)])/\w.heap.size<=Bt/\Bt+1<w'.heap.size/\w'.cell? ⟨Bt,0,none⟩=some (.pointer ro)/\(ro=none\/C4 w' (Bt+1) x)/\BL ok w ro vs x/\Below w.heap.size w w':=by
 rcases hR with⟨rfl,rfl⟩|⟨d,q,x,us,rfl,hT,hp⟩
 ·refine(Kz w).mono ?_
  rintro e w' ⟨Bt,he,h1,h2,h3,h4⟩
  exact⟨Bt,⟨0,0,0,0⟩,he,h1,h2,h3,.inl rfl,.inl ⟨rfl,rfl⟩,h4⟩
 ·refine(KB q x w (hok _ hT.lt) hT.c4).mono ?_
  rintro e w' ⟨Bt,he,h1,h2,h3,h4,h5⟩
  exact⟨Bt,x,he,h1,h2,h3,.inr h4,.inr ⟨d,q,us,rfl,hT,hp⟩,h5⟩
theorem M_(a b:Int):ug a b<=a/\ug a b<=b:=by unfold ug;omega
theorem Na(a b:Int):a<=uh a b/\b<=uh a b:=by unfold uh;omega
theorem join_le{x y:Bx}(h1:x.l<=x.r)(h2:x.t<=x.b):(x.join y).l<=(x.join y).r/\(x.join y).t<=(x.join y).b:=by
 have a:=M_ x.l y.l
 have b:=M_ x.t y.t
 have c:=Na x.r y.r
 have d:=Na x.b y.b
 show ug x.l y.l<=uh x.r y.r/\ug x.t y.t<=uh x.b y.b
 omega
theorem PJ(ps:dS):∀x:Bx,x.l<=x.r->x.t<=x.b->(ps.foldl (λb q=>b.join (eB q)) x).l<=(ps.foldl (λb q=>b.join (eB q)) x).r/\(ps.foldl (λb q=>b.join (eB q)) x).t<=(ps.foldl (λb q=>b.join (eB q)) x).b:=by
 induction ps with
 |nil=>exact λx h1 h2=>⟨h1,h2⟩
 |cons p r ih=>exact λx h1 h2=>ih _ (join_le h1 h2).1 (join_le h1 h2).2
theorem Pu(ps:dS):(aD ps).l<=(aD ps).r/\(aD ps).t<=(aD ps).b:=by
 cases ps with
 |nil=>exact⟨Int.le_refl _,Int.le_refl _⟩
 |cons p r=>exact PJ r _ (Int.le_refl _) (Int.le_refl _)
variable {w:World} {us:List FV}
theorem filter_all{ok:Nat->Prop}{d q:Nat}{x:Bx}(h:iw ok w d q us x):us.filter (eG x)=us:=by
 refine List.filter_eq_self.2 λv hv=>?_
 have h1:=h.Lz v hv
 have h2:=Pu v.f.ps
 obtain⟨a,b,c,e⟩:=h1
 unfold eG cQ
 simp
 omega
theorem all_nil(G:FV->Prop)(T n Bt Bb:Nat)(w:World)(rK:w.cell? ⟨Bt,0,none⟩=some (.pointer none)):
  SeqStopsK Fence.wide n prog 125 #[.pointer (some ⟨Bt,0,none⟩),.pointer (some ⟨Bb,0,none⟩)] (λv:{v:FV//G v}=>#[mX v.1]) (aS T) (λys=>ys=[]) (λ_=>True) 0 w:=by
 intro l J Jx W hW hJ Ma hY h0
 refine callsIn_wide.2 ?_
 have e0:=(hW.cell (p:=⟨Bt,0,none⟩) (aZ rK)).trans rK
 have H0:=af h0
 clear hJ Ma hY h0 rK
 show Calls prog 125 #[.func (.yield l) #[] #[],.pointer (some ⟨Bt,0,none⟩),.pointer (some ⟨Bb,0,none⟩)] W _
 go_enter func125,ntmps125
 go_wp2
 go_end0
 exact⟨⟨_,rfl⟩,.inl ⟨[],rfl,H0.out⟩⟩
theorem all_stops(ok:Nat->Prop)(G:FV->Prop)(T n0 n Bt Bb:Nat)(ro:Option Addr)(vs:List FV)(x:Bx)(w:World)(hT:∀b,ok b->b≠T)(hlt:∀b,ok b->b<n0)(UW:T<n0)(hn0:n0<=w.heap.size)
  (rK:w.cell? ⟨Bt,0,none⟩=some (.pointer ro)) (Sv:ro=none\/C4 w Bb x) (hR:BL ok w ro vs x) (hg:∀v∈vs,G v):
  SeqStopsK Fence.wide n prog 125 #[.pointer (some ⟨Bt,0,none⟩),.pointer (some ⟨Bb,0,none⟩)] (λv:{v:FV//G v}=>#[mX v.1]) (aS T) (λys=>(ys.map Subtype.val).Perm vs) (λ_=>True) vs.length w:=by
 rcases hR with⟨rfl,rfl⟩|⟨d,q,us,rfl,Ku,hp⟩
 ·intro l J Jx W hW hJ Ma hY h0
  refine(all_nil G T n Bt Bb w rK l J Jx W hW hJ Ma hY h0).mono ?_
  rintro e W' ⟨h1,⟨xs,rfl,hj⟩|h2⟩
  ·exact⟨h1,.inl ⟨[],List.Perm.refl _,hj⟩⟩
  ·exact⟨h1,.inr h2⟩
 ·rcases Sv with h|Sv
  ·cases h
  intro l J Jx W hW hJ Ma hY h0
  rw[<-hp.length_eq]at hY
  refine(o_ ok G T n0 n (d+1) q Bt Bb us x x w hT hlt UW hn0 rK Sv Ku (λv hv=>hg v (hp.mem_iff.1 hv)) l J Jx W hW hJ Ma hY h0).mono ?_
  rintro e W' ⟨h1,⟨xs,hs,hj⟩|h2⟩
  ·refine⟨h1,.inl ⟨xs,?_,hj⟩⟩
   show(xs.map Subtype.val).Perm vs
   rw[hs,filter_all Ku]
   exact hp
  ·exact⟨h1,.inr h2⟩
attribute [local go_sem] Oper.semAt_some
variable {ro:Option Addr}
theorem BL.same{ok:Nat->Prop}{A B:World}{vs:List FV}{x:Bx}(h:BL ok A ro vs x)(hs:Same ok A B):BL ok B ro vs x:=by
 rcases h with h|⟨d,q,us,e,hT,hp⟩
 ·exact .inl h
 ·exact .inr ⟨d,q,us,e,hT.same hs,hp⟩
theorem wI(T:Nat)(w:World)(o:Nat)(u:Value):aS T w (w.setCell ⟨T,o,none⟩ u):=
 ⟨(bJ T w T o aM u).size,λb o' v hb e=>by
  rw[World.cell?_setCell_far _ _ _ _ (λh=>hb h.symm)]
  exact e⟩
theorem G9(ok:Nat->Prop)(ro:Option Addr)(vs:List FV)(w:World)(hok:∀b,ok b->b<w.heap.size)(hR:aT ok w ro vs)(hg:∀v∈vs,Good ok w v)(hn:vs.length<=1000000000):
  Calls prog 49 #[.agg #[.pointer ro]] w λe w'=>e=.returned (.int .i64 (vs.length:Int))/\Below w.heap.size w w':=by
 refine(callsIn_wide (n:=4)).1 ?_
 refine callsIn_of_wp_marks func49 rfl trivial ?_ rfl
 simp only[ntmps49,List.size_toArray,List.length_cons,List.length_nil,Nat.reduceAdd,Nat.reduceSub,Array.replicate_succ,Array.replicate_zero,List.push_toArray,List.append_toArray,List.nil_append,List.cons_append]
 have HR:=af hR
 clear hR
 gi_wp2_with (refine⟨trivial,?_⟩;gi_at_call 80;refine(callsIn_wide.2 (uT ok ro vs _ (λb hb=>by have:=hok b hb;simp;omega) (aT.same HR.out (Same.of_below ((aU.alloc (by simp) _)) hok)))).mono ?_;rintro e w1 ⟨Bt,x,rfl,S4,S5,S6,T6,VI,hb1⟩)
 rw[World.size_alloc,World.size_alloc]at S4 hb1
 have hB1:Below w.heap.size w w1:=(aU.alloc (by simp) _).trans (hb1.mono (by omega))
 have hs1:w.heap.size+2<=w1.heap.size:=by omega
 have UT:w1.cell? ⟨w.heap.size+1,0,none⟩=some (.int .i64 0):=(hb1.cell (p:=⟨w.heap.size+1,0,none⟩) (show w.heap.size+1<w.heap.size+1+1 by omega)).trans (by simp[go_sem])
 have YL:w1.frozen? ⟨w.heap.size+1,0,none⟩=false:=(hb1.frozen (p:=⟨w.heap.size+1,0,none⟩) (show w.heap.size+1<w.heap.size+1+1 by omega)).trans (by simp[go_sem])
 refine wpIn_rangeFunc_ownH (F:=Fence.wide) rfl (by omega) (gf:=125) (lb:=#[.pointer (some ⟨Bt,0,none⟩),.pointer (some ⟨Bt+1,0,none⟩)]) rfl trivial (enters_of func125 (by kernel_rfl) rfl)
  (all_stops ok (Good ok w) (w.heap.size+1) (w.heap.size+2) _ Bt (Bt+1) ro vs x w1 (λb hb=>by have:=hok b hb;omega) (λb hb=>by have:=hok b hb;omega) (by omega) hs1 S6 T6 (VI.same (Same.of_below hb1 (λb hb=>by have:=hok b hb;omega))) hg)
  qN qM bK (λ_=>rfl)
  (λpre W=>(W.cell? ⟨w.heap.size+1,0,none⟩=some (.int .i64 (pre.length:Int))/\W.frozen? ⟨w.heap.size+1,0,none⟩=false)/\Below w.heap.size w W)
  (λ_ _ _=>False)
  (OwnFrom.and (Own.from (λs A B row hs hg hr=>⟨cell_kept hs.1 hg hr,(frozen_kept hs.1 hg hr).trans hs.2⟩) _) (ownFrom_below aM (by omega)))
  (λ_ _ _ _ _ hs _ _=>hs)
  ⟨⟨UT,YL⟩,hB1⟩
  (λv a' W=>a'={tmps:=#[.agg #[.pointer ro],.pointer (some ⟨w.heap.size,0,none⟩),.int .i64 0,.pointer (some ⟨w.heap.size+1,0,none⟩),.agg #[.pointer ro],.func (.func 125) #[] #[.pointer (some ⟨Bt,0,none⟩),.pointer (some ⟨Bt+1,0,none⟩)],mX v.1,undef,undef,undef],defers:=[]})
  (λv a' s A B row hs hg hr=>hs)
  ?assign ?body ?done ?stop
 case assign=>
  rintro l pre v W K hI hK
  gi_wp2
  exact hK _ _ ((KeepsOthers.refl _).from _) (aS.refl _ _) hI (by simp)
 case body=>
  rintro l pre v a' W hl hr ⟨⟨hc,hf⟩,hBW⟩ rfl hlen
  have hT:w.heap.size+1<W.heap.size:=aZ hc
  have hpl:(pre.length:Int)<1000000000:=by omega
  gi_wp2
  refine⟨(KeepsOthers.setCell _ _ _).from _,wI _ _ _ _,⟨?_,?_⟩,hBW.trans (bJ _ _ _ _ (by omega) _)⟩
  ·rw[cell_eq hc]
   simp
  ·rw[World.frozen?_setCell];exact hf
 case done=>
  rintro D ys W hD hys ⟨⟨hc,hf⟩,hBW⟩ hK
  have hl:ys.length=vs.length:=by have:=hys.length_eq;simpa using this
  rw[hl]at hc
  gi_wp2
  refine⟨by simp,.inl ⟨_,_,rfl,run_takeDeferred hK,?_⟩⟩
  exact⟨_,results_tmp rfl _ _ _,rfl,hBW.trans (belowK_b (w:=w) aM W D _ _ (by omega) hK rfl rfl)⟩
 case stop=>
  rintro D c pre W _ _ h _
  exact h.elim
attribute [local go_sem] Oper.semAt_some
def ER(id:Int)(vs:List FV)(v:Value):Prop:=
 (∃u∈vs,u.f.id=id/\v=.tuple #[mX u,.bool true])\/((∀u∈vs,u.f.id≠id)/\v=.tuple #[.agg #[.int .i64 0,.int .i64 0,.int .i64 0,.int .i64 0,.slice none 0 0],.bool false])
variable {D b i:Nat}
theorem ep{V:World}(hD:V.heap[D]? =some (.deferred (some []))){v:Value}(h:V.cell? ⟨b,i,none⟩=some v)(o':Obj):(V.putObj D o').cell? ⟨b,i,none⟩=some v:=
 cell_kept h (grownBy_putObj' V D o') (λr e=>by cases e;exact⟨_,hD,rfl⟩)
variable {v0 v1 v2 v3 v4 v5:Value}
theorem zf{V V':World}{a:Array Value}{D T:Nat}(Q:Ending->World->Prop)(hD:V.heap[D]? =some (.deferred (some [])))(hq:Q5 V T v0 v1 v2 v3 v4)(hb:V.cell? ⟨T+1,0,none⟩=some v5)
  (hQ:Q (.returned (.tuple #[.agg #[v0,v1,v2,v3,v4],v5])) (V.putObj D (.deferred none))) (hV:V'=V) (ha4:a[4]? =some (.pointer (some ⟨T,0,none⟩)):=by rfl) (ha5:a[5]? =some (.pointer (some ⟨T+1,0,none⟩)):=by rfl):
  LeavesInM Fence.wide 4 prog Tryz.f224 a Q [] .returning (V'.putObj D (.deferred none)):=by
 subst hV
 have c0:=ep hD hq.c0 (.deferred none)
 have c1:=ep hD hq.c1 (.deferred none)
 have c2:=ep hD hq.c2 (.deferred none)
 have c3:=ep hD hq.c3 (.deferred none)
 have c4:=ep hD hq.c4 (.deferred none)
 have c5:=ep hD hb (.deferred none)
 refine⟨.tuple #[.agg #[v0,v1,v2,v3,v4],v5],?_,hQ⟩
 simp[results,results224,go_sem,ha4,ha5,c0,c1,c2,c3,c4,c5]
theorem Bk(ok:Nat->Prop)(ro:Option Addr)(vs:List FV)(id:Int)(w:World)(hok:∀b,ok b->b<w.heap.size)(hR:aT ok w ro vs)(_hg:∀v∈vs,Good ok w v):
  Calls prog 224 #[.agg #[.pointer ro],.int .i64 id] w λe w'=>∃v,e=.returned v/\ER id vs v/\Below w.heap.size w w':=by
 refine(callsIn_wide (n:=4)).1 ?_
 refine callsIn_of_wp_marks func224 rfl trivial ?_ rfl
 simp only[ntmps224,List.size_toArray,List.length_cons,List.length_nil,Nat.reduceAdd,Nat.reduceSub,Array.replicate_succ,Array.replicate_zero,List.push_toArray,List.append_toArray,List.nil_append,List.cons_append]
 have HR:=af hR
 clear hR
 have hB0:∀o1 o2 o3 o4:Obj,Below w.heap.size w ((((w.alloc o1).alloc o2).alloc o3).alloc o4):=λo1 o2 o3 o4=>((aU.alloc (by simp) _).alloc (by simp<;>omega) _).alloc (by simp<;>omega) _
 gi_wp2_with (refine⟨trivial,?_⟩;gi_at_call 80;refine(callsIn_wide.2 (uT ok ro vs _ (λb hb=>by have:=hok b hb;simp;omega) (aT.same HR.out (Same.of_below (hB0 _ _ _ _) hok)))).mono ?_;rintro e w1 ⟨Bt,x,rfl,S4,S5,S6,T6,VI,hb1⟩)
 rw[World.size_alloc,World.size_alloc,World.size_alloc,World.size_alloc]at S4 hb1
 have hB1:Below w.heap.size w w1:=(hB0 _ _ _ _).trans (hb1.mono (by omega))
 have hs1:w.heap.size+4<=w1.heap.size:=by omega
 have h5:Q5 w1 (w.heap.size+1+1) (.int .i64 0) (.int .i64 0) (.int .i64 0) (.int .i64 0) (.slice none 0 0):=Q5.below hb1 (by omega) (by constructor<;>simp[go_sem])
 have SB:w1.cell? ⟨w.heap.size+1,0,none⟩=some (.int .i64 id):=(hb1.cell (p:=⟨w.heap.size+1,0,none⟩) (show w.heap.size+1<_ by omega)).trans (by simp[go_sem])
 have Yw:w1.cell? ⟨w.heap.size+1+1+1,0,none⟩=some (.bool false):=(hb1.cell (p:=⟨w.heap.size+1+1+1,0,none⟩) (show w.heap.size+1+1+1<_ by omega)).trans (by simp[go_sem])
 have Rf:w1.frozen? ⟨w.heap.size+1+1+1,0,none⟩=false:=(hb1.frozen (p:=⟨w.heap.size+1+1+1,0,none⟩) (show w.heap.size+1+1+1<_ by omega)).trans (by simp[go_sem])
 refine wpIn_rangeFunc_ownH (F:=Fence.wide) rfl (by omega) (gf:=125) (lb:=#[.pointer (some ⟨Bt,0,none⟩),.pointer (some ⟨Bt+1,0,none⟩)]) rfl trivial (enters_of func125 (by kernel_rfl) rfl)
  (all_stops ok (λv=>v∈vs) (w.heap.size+1+1) (w.heap.size+4) _ Bt (Bt+1) ro vs x w1 (λb hb=>by have:=hok b hb;omega) (λb hb=>by have:=hok b hb;omega) (by omega) hs1 S6 T6 (VI.same (Same.of_below hb1 (λb hb=>by have:=hok b hb;omega))) (λv hv=>hv))
  qN qM bK (λ_=>rfl)
  (λpre W=>((Q5 W (w.heap.size+1+1) (.int .i64 0) (.int .i64 0) (.int .i64 0) (.int .i64 0) (.slice none 0 0)/\W.cell? ⟨w.heap.size+1,0,none⟩=some (.int .i64 id)/\W.cell? ⟨w.heap.size+1+1+1,0,none⟩=some (.bool false)/\W.frozen? ⟨w.heap.size+1+1+1,0,none⟩=false)/\Below w.heap.size w W)/\∀u∈pre,u.1.f.id≠id)
  (λc _ W=>((∃u∈vs,u.f.id=id/\Q5 W (w.heap.size+1+1) (.int .i64 u.f.id) (.int .i64 u.f.kd) (.int .i64 u.f.ht) (.int .i64 u.f.col) (.slice (some ⟨u.pb,u.po,none⟩) u.f.ps.length u.cap)/\W.cell? ⟨w.heap.size+1+1+1,0,none⟩=some (.bool true))/\Below w.heap.size w W)/\c=.ret)
  (OwnFrom.and (OwnFrom.and (Own.from (λs A B row hs hg hr=>⟨hs.1.kept hg hr,cell_kept hs.2.1 hg hr,cell_kept hs.2.2.1 hg hr,(frozen_kept hs.2.2.1 hg hr).trans hs.2.2.2⟩) _) (ownFrom_below aM (by omega))) (λ_ _ _ _ hs _ _=>hs))
  (λc=>OwnFrom.and (OwnFrom.and (Own.from (λs A B row hs hg hr=>by obtain⟨u,h1,h2,h3,h4⟩:=hs;exact⟨u,h1,h2,h3.kept hg hr,cell_kept h4 hg hr⟩) _) (ownFrom_below aM (by omega))) (λ_ _ _ _ hs _ _=>hs))
  ⟨⟨⟨h5,SB,Yw,Rf⟩,hB1⟩,λu hu=>by cases hu⟩
  (λv a' W=>∃Bv,w.heap.size+1+1+1<Bv/\Q5 W Bv (.int .i64 v.1.f.id) (.int .i64 v.1.f.kd) (.int .i64 v.1.f.ht) (.int .i64 v.1.f.col) (.slice (some ⟨v.1.pb,v.1.po,none⟩) v.1.f.ps.length v.1.cap)/\
   a'={tmps:=#[.agg #[.pointer ro],.int .i64 id,.pointer (some ⟨w.heap.size,0,none⟩),.pointer (some ⟨w.heap.size+1,0,none⟩),.pointer (some ⟨w.heap.size+1+1,0,none⟩),.pointer (some ⟨w.heap.size+1+1+1,0,none⟩),.pointer (some ⟨Bv,0,none⟩),.agg #[.pointer ro],.func (.func 125) #[] #[.pointer (some ⟨Bt,0,none⟩),.pointer (some ⟨Bt+1,0,none⟩)],.agg #[.int .i64 v.1.f.id,.int .i64 v.1.f.kd,.int .i64 v.1.f.ht,.int .i64 v.1.f.col,.slice (some ⟨v.1.pb,v.1.po,none⟩) v.1.f.ps.length v.1.cap],undef,undef,undef,undef,undef,undef],defers:=[]})
  (λv a' s A B row hs hg hr=>by obtain⟨Bv,h1,h2,h3⟩:=hs;exact⟨Bv,h1,h2.kept hg (λr e=>(hr r e).2),h3⟩)
  ?assign ?body ?done ?stop
 case assign=>
  rintro l pre v W K ⟨⟨⟨mI,hi,hb,OB⟩,hBW⟩,hne⟩ hK
  simp only[mX]
  gi_wp2
  have hal:Below W.heap.size W (W.alloc (.cells #[.int .i64 v.1.f.id,.int .i64 v.1.f.kd,.int .i64 v.1.f.ht,.int .i64 v.1.f.col,.slice (some ⟨v.1.pb,v.1.po,none⟩) v.1.f.ps.length v.1.cap] 32)):=aU
  refine hK _ _ ((KeepsOthers.alloc _ _).from _) (aS.of_below hal) ⟨⟨⟨mI.below hal (aZ mI.c0),(hal.cell (p:=⟨w.heap.size+1,0,none⟩) (aZ hi)).trans hi,(hal.cell (p:=⟨w.heap.size+1+1+1,0,none⟩) (aZ hb)).trans hb,(hal.frozen (p:=⟨w.heap.size+1+1+1,0,none⟩) (aZ hb)).trans OB⟩,hBW.alloc hBW.size _⟩,hne⟩ ⟨W.heap.size,aZ hb,Q5.new _ _ _ _ _ _ _,rfl⟩
 case body=>
  rintro l pre v a' W hl hr ⟨⟨⟨mI,hi,hb,OB⟩,hBW⟩,hne⟩ ⟨Bv,Yv,GK,rfl⟩ hlen
  have hT:w.heap.size+1+1<W.heap.size:=aZ mI.c0
  have jw:Bv<W.heap.size:=aZ GK.c0
  have Bp:=af hBW
  have HQ:Hid _:=mI
  obtain⟨c0,c1,c2,c3,c4,f0,f1,f2,f3,f4⟩:=mI
  obtain⟨e0,e1,e2,e3,e4,_,_,_,_,_⟩:=GK
  by_cases hid:v.1.f.id=id
  ·have UZ:(v.1.f.id==id)=true:=by simp[hid]
   gi_wp2
   refine⟨((jS _ _ _ _ _ _ _ _).trans ((KeepsOthers.setCell _ _ _).from _)),⟨⟨v.1,v.2,hid,?_,?_⟩,?_⟩,rfl⟩
   ·rw[hid]
    exact(HQ.out.set (.int .i64 id) (.int .i64 v.1.f.kd) (.int .i64 v.1.f.ht) (.int .i64 v.1.f.col) (.slice (some ⟨v.1.pb,v.1.po,none⟩) v.1.f.ps.length v.1.cap)).below (bJ (w.heap.size+1+1+1) _ _ _ aM _) (by omega)
   ·refine cell_eq (v:=.bool false) ?_ _
    exact(lW (T:=w.heap.size+1+1) W _ _ _ _ _).2 _ _ _ (by omega) hb
   ·exact(Bp.out.trans (fo w.heap.size _ _ (by omega) _ _ _ _ _)).trans (bJ _ _ _ _ (by omega) _)
  ·have UZ:(v.1.f.id==id)=false:=by simp[hid]
   gi_wp2
   refine⟨(KeepsOthers.refl _).from _,aS.refl _ _,⟨⟨HQ.out,hi,hb,OB⟩,Bp.out⟩,λu hu=>?_⟩
   rcases List.mem_append.1 hu with hu|hu
   ·exact hne u hu
   ·simp at hu;subst hu;exact hid
 case done=>
  rintro D ys W hD hys ⟨⟨⟨mI,hi,hb,OB⟩,hBW⟩,hne⟩ hK
  have Hys:Hid (∀u∈vs,u.f.id≠id):=λu hu=>by
   obtain⟨z,hz,rfl⟩:=List.mem_map.1 (hys.mem_iff.2 hu)
   exact hne z hz
  have Bp:=af hBW
  obtain⟨c0,c1,c2,c3,c4,f0,f1,f2,f3,f4⟩:=mI
  clear hys hne hBW
  have hK':∀u0 u1 u2 u3 u4 u5:Value,((uo W (w.heap.size+1+1) u0 u1 u2 u3 u4).setCell ⟨w.heap.size+1+1+1,0,none⟩ u5).heap[D]? =some (.deferred (some [])):=λu0 u1 u2 u3 u4 u5=>by
   have h1:Below (w.heap.size+1+1) W W:=bK
   simp only[uo]
   iterate 6 rw[Below.heap_setCell _ _ _ _ (λe=>by simp only at e;omega)]
   exact hK
  gi_wp2
  have hne:w.heap.size+1+1+1<D:=by omega
  refine⟨by simp,.inl ⟨_,_,rfl,run_takeDeferred (hK' _ _ _ _ _ _),?_⟩⟩
  have hq':=(Q5.mk c0 c1 c2 c3 c4 f0 f1 f2 f3 f4).set (.int .i64 0) (.int .i64 0) (.int .i64 0) (.int .i64 0) (.slice none 0 0)
  have Jj:=hq'.below (bJ (w.heap.size+1+1+1) _ (w.heap.size+1+1+1) 0 aM (.bool false)) (by omega)
  have hb2:((uo W (w.heap.size+1+1) (.int .i64 0) (.int .i64 0) (.int .i64 0) (.int .i64 0) (.slice none 0 0)).setCell ⟨w.heap.size+1+1+1,0,none⟩ (.bool false)).cell? ⟨w.heap.size+1+1+1,0,none⟩=some (.bool false):=cell_eq (v:=.bool false) ((lW (T:=w.heap.size+1+1) W _ _ _ _ _).2 _ _ _ (by omega) hb) _
  have hBf:=(Bp.out.trans (fo w.heap.size W (w.heap.size+1+1) (by omega) (.int .i64 0) (.int .i64 0) (.int .i64 0) (.int .i64 0) (.slice none 0 0))).trans (bJ _ _ (w.heap.size+1+1+1) 0 (by omega) (.bool false))
  have Sy:=hK' (.int .i64 0) (.int .i64 0) (.int .i64 0) (.int .i64 0) (.slice none 0 0) (.bool false)
  obtain⟨V,hV⟩:∃V,(uo W (w.heap.size+1+1) (.int .i64 0) (.int .i64 0) (.int .i64 0) (.int .i64 0) (.slice none 0 0)).setCell ⟨w.heap.size+1+1+1,0,none⟩ (.bool false)=V:=⟨_,rfl⟩
  rw[hV]at Jj hb2 hBf Sy
  refine zf (V:=V) (λe w'=>∃v,e=Ending.returned v/\ER id vs v/\Below w.heap.size w w') Sy Jj hb2 ?_ hV
  exact⟨_,rfl,.inr ⟨Hys.out,rfl⟩,hBf.trans (belowK_b (w:=w) aM V D _ _ (by omega) Sy rfl rfl)⟩
 case stop=>
  rintro D c pre W hD _ ⟨⟨⟨u,hu,hid,mI,hb⟩,hBW⟩,rfl⟩ hK
  obtain⟨c0,c1,c2,c3,c4,f0,f1,f2,f3,f4⟩:=mI
  gi_wp2
  refine⟨by simp,.inl ⟨_,_,rfl,run_takeDeferred hK,?_⟩⟩
  refine zf (V:=W) (λe w'=>∃v,e=Ending.returned v/\ER id vs v/\Below w.heap.size w w') hK (Q5.mk c0 c1 c2 c3 c4 f0 f1 f2 f3 f4) hb ?_ rfl
  exact⟨_,rfl,.inl ⟨u,hu,hid,rfl⟩,hBW.trans (belowK_b (w:=w) aM W D _ _ (by omega) hK rfl rfl)⟩
end
end Go.Proofs.YtenaepdmlknlcaaGreatDoor
