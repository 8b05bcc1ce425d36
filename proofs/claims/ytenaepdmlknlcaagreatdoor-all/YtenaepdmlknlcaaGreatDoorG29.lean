import Derived.Test.YtenaepdmlknlcaaGreatDoorG23
import Derived.Test.YtenaepdmlknlcaaGreatDoorG27
import Derived.Test.YtenaepdmlknlcaaGreatDoorG28
open Go.Proofs.Tryz
set_option maxRecDepth 100000
set_option maxHeartbeats 8000000
namespace Go.Proofs.YtenaepdmlknlcaaGreatDoor
section
open Go.RowKit Go.Shelf
def oT(w:World)(g:Nat)(bs:List Bx):Prop:=∀(i:Nat) x,bs[i]? =some x->w.cell? ⟨g,i*4,none⟩=some (.int .i64 x.l)/\w.cell? ⟨g,i*4+1,none⟩=some (.int .i64 x.t)/\w.cell? ⟨g,i*4+2,none⟩=some (.int .i64 x.r)/\w.cell? ⟨g,i*4+3,none⟩=some (.int .i64 x.b)
theorem Ja(bs:List Bx):∀(i:Nat) (x:Bx),bs[i]? =some x->(s9 bs)[i*4]? =some (.int .i64 x.l)/\(s9 bs)[i*4+1]? =some (.int .i64 x.t)/\(s9 bs)[i*4+2]? =some (.int .i64 x.r)/\(s9 bs)[i*4+3]? =some (.int .i64 x.b):=by
 induction bs with
 |nil=>intro i x h;simp at h
 |cons b r ih=>
  intro i x h
  cases i with
  |zero=>simp at h;subst h;exact⟨rfl,rfl,rfl,rfl⟩
  |succ i=>
   have h':=ih i x (by simpa using h)
   rw[show(i+1)*4=i*4+4 by omega]
   exact h'
variable {w:World} {bs:List Bx}
theorem oT.own{base g n cap:Nat}(h:w.ownsRow base 141 4 (.slice (some ⟨g,0,none⟩) n cap) n (s9 bs))(hn:n=bs.length):oT w g bs:=λi x hx=>by
 have hi:=(List.getElem?_eq_some_iff.1 hx).1
 obtain⟨h0,h1,h2,h3⟩:=Ja bs i x hx
 have hc:∀j,j<n*4->w.cell? ⟨g,j,none⟩=(s9 bs)[j]? :=λj hj=>by
  have:=h.cellAt j hj
  rw[this]
 exact⟨(hc _ (by omega)).trans h0,(hc _ (by omega)).trans h1,(hc _ (by omega)).trans h2,(hc _ (by omega)).trans h3⟩
variable {n:Nat}
theorem oT.below{A B:World}(h:Below n A B){g:Nat}(hg:g<n)(k:oT A g bs):oT B g bs:=λi x e=>
 ⟨(h.cell (p:=⟨g,_,none⟩) hg).trans (k i x e).1,(h.cell (p:=⟨g,_,none⟩) hg).trans (k i x e).2.1,(h.cell (p:=⟨g,_,none⟩) hg).trans (k i x e).2.2.1,(h.cell (p:=⟨g,_,none⟩) hg).trans (k i x e).2.2.2⟩
abbrev Sc(x:Bx):Value:=.agg #[.int .i64 x.l,.int .i64 x.t,.int .i64 x.r,.int .i64 x.b]
theorem BG(s:Bx)(a:Option Addr)(n cap:Nat)(bs:List Bx)(w:World)(hn:n=bs.length)(hcap:n<=cap)(MB:n<=1000000)(ha:bs=[]\/∃g,a=some ⟨g,0,none⟩/\g<w.heap.size/\oT w g bs):
  Calls prog 234 #[.slice a n cap,.func (.func 158) #[Sc s] #[]] w λe w'=>(∃i:Int,e=.returned (.int .i64 i)/\decide (0<=i)=bs.any (cV s))/\Below w.heap.size w w':=by
 have Hn:=af hn
 have HA:=af ha
 clear hn ha
 go_enter func234,ntmps234
 go_wp2_with fail
 go_loopw [8] (λi wr=>∃k:Nat,k<=n/\i=.int .i64 k/\Hid (∀j x,j<k->bs[j]? =some x->cV s x=false)/\Below w.heap.size w wr) (λi _=>n-(intOf i).toNat)
 case atStart=>exact⟨0,by omega,rfl,λj x hj=>by omega,bK⟩
 case round=>
  obtain⟨k,hk,rfl,HJ,hB⟩:=hrel
  by_cases hlt:k<n
  ·obtain⟨x,hx⟩:∃x,bs[k]? =some x:=⟨bs[k]'(by rw[<-Hn.out];exact hlt),List.getElem?_eq_getElem _⟩
   obtain⟨g,rfl,hg,hK⟩:=HA.out.resolve_left (λe=>by rw[e]at hx;simp at hx)
   obtain⟨x0,x1,x2,x3⟩:=(hK.below hB hg) k x hx
   have HX:=af hx
   have hI:(k:Int)<(n:Int):=by omega
   have SB:(0:Int)<=(k:Int):=by omega
   have HC:Hid (∀W:World,Calls prog 158 #[.agg #[.int .i64 s.l,.int .i64 s.t,.int .i64 s.r,.int .i64 s.b],.agg #[.int .i64 x.l,.int .i64 x.t,.int .i64 x.r,.int .i64 x.b]] W λe w'=>e=.returned (.bool (cV s x))/\Below W.heap.size W w'):=λW=>nY _ _ _ _ _ _ _ _ W
   obtain⟨q,hq⟩:∃q,cV s x=q:=⟨_,rfl⟩
   rw[hq]at HC
   have HQ:=af hq
   clear hx hK hq
   cases q with
   |true=>
    go_wp2_with (go_at_call 158;refine aq (HC.out _) ?_;rintro e w2 ⟨rfl,hb2⟩;dsimp only)
    go_ret
    refine⟨⟨_,rfl,?_⟩,hB.trans (hb2.mono hB.size)⟩
    rw[decide_eq_true (by omega)]
    exact(List.any_eq_true.2 ⟨x,List.mem_of_getElem? HX.out,HQ.out⟩).symm
   |false=>
    go_wp2_with (go_at_call 158;refine aq (HC.out _) ?_;rintro e w2 ⟨rfl,hb2⟩;dsimp only)
    refine⟨⟨k+1,by omega,by go_num,λj y hj ey=>?_,hB.trans (hb2.mono hB.size)⟩,by simp[intOf];omega⟩
    by_cases hjk:j=k
    ·subst hjk
     have:=HX.out
     rw[this]at ey
     cases ey
     exact HQ.out
    ·exact HJ.out j y (by omega) ey
  ·obtain rfl:k=n:=by omega
   go_wp2
   go_ret
   refine⟨⟨_,rfl,?_⟩,hB⟩
   rw[decide_eq_false (by omega)]
   refine(List.any_eq_false.2 λx hx=>?_).symm
   obtain⟨i,hi,rfl⟩:=List.getElem_of_mem hx
   rw[HJ.out i bs[i] (by rw[Hn.out];exact hi) (List.getElem?_eq_getElem hi)]
   simp
theorem zS(s:Bx)(a:Option Addr)(n cap:Nat)(bs:List Bx)(w:World)(hn:n=bs.length)(hcap:n<=cap)(MB:n<=1000000)(ha:bs=[]\/∃g,a=some ⟨g,0,none⟩/\g<w.heap.size/\oT w g bs):
  Calls prog 223 #[.slice a n cap,.func (.func 158) #[Sc s] #[]] w λe w'=>e=.returned (.bool (bs.any (cV s)))/\Below w.heap.size w w':=by
 have HX:Hid _:=BG s a n cap bs w hn hcap MB ha
 clear hn ha
 go_enter func223,ntmps223
 go_wp2_with (go_at_call 234;refine aq HX.out ?_;rintro e w1 ⟨⟨i,rfl,hi⟩,hb1⟩;dsimp only)
 go_ret
 exact⟨ah (by simp[]),hb1⟩
attribute [local go_sem] Oper.semAt_some
variable {M:Nat->Nat->Prop} {W W':World}
theorem KeepsFrom.fr{B n:Nat}(h:Fr M W W')(hM:∀b i,M b i->b<n)(hB:n<=B):KeepsFrom B W W':=
 ⟨h.size,λi o hi he _=>(h.block i (Array.getElem?_eq_some_iff.1 he).1 (λj e=>by have:=hM i j e;omega)).trans he⟩
variable {z:Nat}
theorem DD(hz:z<=3):∀t∈aR z,t.good:=by
 intro t ht
 unfold Tl.good
 match z,hz with
 |0,_=>revert t;decide
 |1,_=>revert t;decide
 |2,_=>revert t;decide
 |3,_=>revert t;decide
variable {t:Tl}
theorem gQ(h:t.good):t.ok:=by
 obtain⟨h1,h2,h3,h4,h5,_,_⟩:=j7 h
 exact⟨by rcases h1 with⟨e,_⟩|⟨e,_⟩|⟨e,_⟩|⟨e,_⟩<;>omega,by rcases h1 with⟨e,_⟩|⟨e,_⟩|⟨e,_⟩|⟨e,_⟩<;>omega,h2,h3,h4,h5⟩
theorem BN(h:t.good)(W:World):Calls prog 93 #[.agg #[.int .i64 t.z,.int .i64 t.c,.int .i64 t.r]] W λe w'=>e=.returned (Sc (eT t))/\Below W.heap.size W w':=by
 obtain⟨h1,h2,h3,h4,h5,h6,h7⟩:=j7 h
 exact jO t.z (pZ t.z) t.c t.r W h1 h2 h3 h4 h5
theorem C6{t:Tl}(h:t.ok)(W:World):Calls prog 217 #[.agg #[.int .i64 t.z,.int .i64 t.c,.int .i64 t.r]] W λe w'=>e=.returned (.int .i64 ((az t:Nat):Int))/\Below W.heap.size W w':=by
 refine(tG t.z t.c t.r W h.1 h.2.1 h.2.2.1 h.2.2.2.1 h.2.2.2.2.1 h.2.2.2.2.2).mono ?_
 rintro e w' ⟨rfl,hb⟩
 refine⟨?_,hb⟩
 have:=Int.emod_nonneg (t.z+t.c+t.r) (show(4:Int)≠0 by decide)
 rw[show((az t:Nat):Int)=(t.z+t.c+t.r)%4 from Int.toNat_of_nonneg this]
def Gk(z:Nat)(bs:List Bx)(S:tT)(k:Nat):tT:={S with ks:=λj=>bW bs j (aR z) (S.ks j),aG:=λj=>if j<k/\aL bs j (aR z)=true then IntKind.i64.wrap (S.aG j+1)else S.aG j}
structure OG(A so n0 z:Nat)(bs:List Bx)(vs vs':Nat->Value)(S:tT)(w:World)(D k:Nat)(W:World):Prop where
 c0:W.cell? ⟨n0,0,none⟩=some (.pointer (some ⟨A,so,none⟩))
 old:∀k,k<4->W.cell? ⟨n0+1+1,k,none⟩=some (.bool (aL bs k (aR z)))/\W.frozen? ⟨n0+1+1,k,none⟩=false
 sh:dI W A so vs' (Gk z bs S k)
 fr:Fr (G_ A so vs) w W
 hK:W.heap[D]? =some (.deferred (some []))
theorem Wv(n:Int):IntKind.i64.wrap n=wrap64 n:=by rw[IntKind.wrap_i64,wrap64]
theorem EP(z:Nat)(bs:List Bx)(S:tT):dD z bs S=Gk z bs S 4:=by
 have:∀j,(j<4/\aL bs j (aR z)=true)↔aL bs j (aR z)=true:=λj=>by
  refine⟨λh=>h.2,λh=>⟨?_,h⟩⟩
  obtain⟨t,_,ht⟩:=List.any_eq_true.1 h
  simp only[Bool.and_eq_true,decide_eq_true_eq]at ht
  rw[<-ht.2]
  exact bg t
 simp only[Gk,dD,this]
variable {vs vs':Nat->Value} {S:tT} {D k:Nat}
theorem OG.skip{A so n0 z:Nat}(h:OG A so n0 z bs vs vs' S w D k W)(hol:aL bs k (aR z)=false):OG A so n0 z bs vs vs' S w D (k+1) W:=by
 have e:Gk z bs S (k+1)=Gk z bs S k:=by
  have:∀j,(j<k+1/\aL bs j (aR z)=true)↔(j<k/\aL bs j (aR z)=true):=λj=>by
   by_cases hj:j=k
   ·subst hj;simp[hol]
   ·constructor<;>(rintro⟨h1,h2⟩;exact⟨by omega,h2⟩)
  simp only[Gk,this]
 exact⟨h.c0,h.old,by rw[e];exact h.sh,h.fr,h.hK⟩
theorem OG.step{A so n0 z:Nat}(h:OG A so n0 z bs vs vs' S w D k W)(hol:aL bs k (aR z)=true)(hk:k<4)(hA:A<n0)(hn:n0+1+1<D)(hv:∀j g,j<4->(vs' j).ownBlock=some g->g≠A):
  OG A so n0 z bs vs vs' S w D (k+1) (W.setCell ⟨A,so+1+k*2+1,none⟩ (.int .i64 (IntKind.i64.wrap (S.aG k+1)))):=by
 obtain⟨q1,q2⟩:=h.sh.aG k hk
 refine⟨(aK _ _ (.inl (by omega))).trans h.c0,λj hj=>⟨(aK _ _ (.inl (by omega))).trans (h.old j hj).1,by rw[World.frozen?_setCell];exact(h.old j hj).2⟩,?_,h.fr.setCell (b:=A) (i:=so+1+k*2+1) (.inl (.inl ⟨rfl,by omega,by omega⟩)) _,(Below.heap_setCell _ _ _ _ (λe=>by simp only at e;omega)).trans h.hK⟩
 have hF:Fr (λb i=>b=A/\i=so+1+k*2+1) W (W.setCell ⟨A,so+1+k*2+1,none⟩ (.int .i64 (IntKind.i64.wrap (S.aG k+1)))):=(Fr.refl _ W).setCell (b:=A) (i:=so+1+k*2+1) (.inl ⟨rfl,rfl⟩) _
 have hlt:A<W.heap.size:=dz W _ q1
 refine⟨(hF.cell A so hlt (λe=>by omega)).trans h.sh.room,λj hj=>(h.sh.sh j hj).fr hF (λe=>by omega) (λg i e m=>hv j g hj e m.1),λj hj=>?_,h.sh.apart⟩
 by_cases hjk:j=k
 ·subst hjk
  refine⟨?_,by rw[World.frozen?_setCell];exact q2⟩
  rw[cell_eq q1]
  have:(Gk z bs S (j+1)).aG j=IntKind.i64.wrap (S.aG j+1):=if_pos ⟨by omega,hol⟩
  rw[this]
 ·refine⟨?_,by rw[World.frozen?_setCell];exact(h.sh.aG j hj).2⟩
  rw[aK _ _ (.inr (by omega)),(h.sh.aG j hj).1]
  have:(Gk z bs S (k+1)).aG j=(Gk z bs S k).aG j:=by
   unfold Gk
   dsimp only
   by_cases hc:j<k/\aL bs j (aR z)=true
   ·rw[if_pos hc,if_pos ⟨by omega,hc.2⟩]
   ·rw[if_neg hc,if_neg (λe=>hc ⟨by omega,e.2⟩)]
  rw[this]
theorem DZ(A so z:Nat)(a:Option Addr)(n cap:Nat)(bs:List Bx)(vs:Nat->Value)(S:tT)(w:World)(hz:z<=3)(h:dI w A so vs S)(hn:n=bs.length)(hcap:n<=cap)(MB:n<=1000)(ha:bs=[]\/∃g,a=some ⟨g,0,none⟩/\g<w.heap.size/\(∀i,¬G_ A so vs g i)/\oT w g bs):
  Calls prog 206 #[.pointer (some ⟨A,so,none⟩),.int .i64 (z:Int),.slice a n cap] w λe w'=>e=.returned (.tuple #[])/\∃vs',dI w' A so vs' (dD z bs S)/\(∀k,k<4->(vs' k).ownBlock=(vs k).ownBlock)/\Fr (G_ A so vs) w w':=by
 have hA:A<w.heap.size:=dz w ⟨A,so,none⟩ h.room
 have hvs:∀k g,k<4->(vs k).ownBlock=some g->g<w.heap.size:=λk g hk e=>(h.sh k hk).tI g e
 have Je:∀b i,G_ A so vs b i->b<w.heap.size:=λb i e=>by
  rcases e with⟨rfl,_⟩|⟨k,hk,e⟩
  ·exact hA
  ·exact hvs k b hk e
 have HS:=af h
 have Hn:=af hn
 have HCt:Hid (∀(t:Tl) (W:World),Fr (G_ A so vs) w W->Calls prog 223 #[.slice a n cap,.func (.func 158) #[Sc (eT t)] #[]] W λe w'=>e=.returned (.bool (dW bs t))/\Below W.heap.size W w'):=λt W hW=>
  zS (eT t) a n cap bs W hn hcap (by omega) (ha.imp _root_.id λ⟨g,e1,e2,e3,e4⟩=>⟨g,e1,Nat.lt_of_lt_of_le e2 hW.size,λi x ex=>⟨(hW.cell g _ e2 (e3 _)).trans (e4 i x ex).1,(hW.cell g _ e2 (e3 _)).trans (e4 i x ex).2.1,(hW.cell g _ e2 (e3 _)).trans (e4 i x ex).2.2.1,(hW.cell g _ e2 (e3 _)).trans (e4 i x ex).2.2.2⟩⟩)
 clear h hn ha hcap MB
 refine(callsIn_wide (n:=4)).1 ?_
 refine callsIn_of_wp_marks func206 rfl trivial ?_ rfl
 simp only[ntmps206,List.size_toArray,List.length_cons,List.length_nil,Nat.reduceAdd,Nat.reduceSub,Array.replicate_succ,Array.replicate_zero,List.push_toArray,List.append_toArray,List.nil_append,List.cons_append]
 gi_wp2_with (refine⟨trivial,?_⟩;gi_at_call 222;refine(callsIn_wide.2 (Ee _ _)).mono ?_;rintro e w1 ⟨rfl,rfl⟩)
 have hb4:∀o1 o2 o3 o4:Obj,Below w.heap.size w ((((w.alloc o1).alloc o2).alloc o3).alloc o4):=λo1 o2 o3 o4=>((aU.alloc (by simp) _).alloc (by simp<;>omega) _).alloc (by simp<;>omega) _
 obtain⟨c,ZT⟩:∃c:Nat,(z=0/\c=1)\/(z=1/\c=2)\/(z=2/\c=4)\/(z=3/\c=8):=by
  match z,hz with
  |0,_=>exact⟨1,by omega⟩
  |1,_=>exact⟨2,by omega⟩
  |2,_=>exact⟨4,by omega⟩
  |3,_=>exact⟨8,by omega⟩
 refine wpIn_rangeFunc_ownH (F:=Fence.wide) rfl (by omega) (gf:=233) (lb:=#[.pointer (some ⟨w.heap.size+1+1+1,0,none⟩)]) rfl trivial (enters_of func233 (by kernel_rfl) rfl)
  (DF (λt=>t.good) z c (DD hz) ZT (w.heap.size+1+1+1) _ _ (by simp[go_sem]))
  Qb Qa bK (λ_=>rfl)
  (λpre W=>DM A so w.heap.size a n cap bs vs S w (pre.map Subtype.val) W)
  (λ_ _ _=>False)
  (λs X Y row hs hg hr=>DM.kept hs hg (λr e=>⟨by have:=(hr r e).1;simp at this;omega,(hr r e).2⟩))
  (λ_ _ _ _ _ hs _ _=>hs)
  ?start
  (λt a' W=>∃Bv,w.heap.size+1+1+1<Bv/\K3 W Bv (.int .i64 t.1.z) (.int .i64 t.1.c) (.int .i64 t.1.r)/\
   a'={tmps:=#[.pointer (some ⟨A,so,none⟩),.int .i64 (z:Int),.slice a n cap,.pointer (some ⟨w.heap.size,0,none⟩),undef,.pointer (some ⟨w.heap.size+1,0,none⟩),.pointer (some ⟨w.heap.size+1+1,0,none⟩),.pointer (some ⟨Bv,0,none⟩),undef,.int .i64 (z:Int),.func (.func 233) #[] #[.pointer (some ⟨w.heap.size+1+1+1,0,none⟩)],.agg #[.int .i64 t.1.z,.int .i64 t.1.c,.int .i64 t.1.r],undef,undef,undef,undef,undef,undef,undef,undef,undef,undef,undef,undef,undef,undef,undef,undef,undef,undef,undef,undef,undef,undef,undef,undef,undef,undef,undef,undef,undef,undef,undef,undef],defers:=[]})
  (λv a' s X Y row hs hg hr=>by obtain⟨Bv,h1,h2,h3⟩:=hs;exact⟨Bv,h1,⟨cell_kept h2.c0 hg (λr e=>(hr r e).2),cell_kept h2.c1 hg (λr e=>(hr r e).2),cell_kept h2.c2 hg (λr e=>(hr r e).2),(frozen_kept h2.c0 hg (λr e=>(hr r e).2)).trans h2.f0,(frozen_kept h2.c1 hg (λr e=>(hr r e).2)).trans h2.f1,(frozen_kept h2.c2 hg (λr e=>(hr r e).2)).trans h2.f2⟩,h3⟩)
  ?assign ?body ?done ?stop
 case start=>
  refine⟨by simp[go_sem],by simp[go_sem],λk hk=>?_,⟨vs,?_,λ_ _=>rfl⟩,Fr.of_below (hb4 _ _ _ _),by simp⟩
  ·match k,hk with
   |0,_=>simp[go_sem,aL]
   |1,_=>simp[go_sem,aL]
   |2,_=>simp[go_sem,aL]
   |3,_=>simp[go_sem,aL]
  ·exact HS.out.below (hb4 _ _ _ _)
 case assign=>
  rintro l pre t W K hI hK
  gi_wp2
  have hal:Below W.heap.size W (W.alloc (.cells #[.int .i64 t.1.z,.int .i64 t.1.c,.int .i64 t.1.r] 24)):=aU
  exact hK _ _ ((KeepsOthers.alloc _ _).from _) ⟨hal.size,λo v e=>(hal.cell (p:=⟨w.heap.size+1+1+1,o,none⟩) hI.big).trans e⟩ (hI.below hal) ⟨W.heap.size,hI.big,K3.new _ _ _ _ _,rfl⟩
 case body=>
  rintro l pre t a' W hl hr hI ⟨Bv,Yv,hk3,rfl⟩ hlen
  obtain⟨t,hg⟩:=t
  dsimp only at hk3⊢
  have HI:=af hI
  have jw:Bv<W.heap.size:=dz W _ hk3.c0
  have Ko:Hid (∀W':World,Calls prog 93 #[.agg #[.int .i64 t.z,.int .i64 t.c,.int .i64 t.r]] W' λe w'=>e=.returned (Sc (eT t))/\Below W'.heap.size W' w'):=λW'=>BN hg W'
  have Wy:Hid (∀W':World,Below W.heap.size W W'->Calls prog 223 #[.slice a n cap,.func (.func 158) #[Sc (eT t)] #[]] W' λe w'=>e=.returned (.bool (dW bs t))/\Below W'.heap.size W' w'):=λW' Bd=>HCt.out t W' (hI.fr.trans (Fr.of_below Bd))
  obtain⟨tz,S7⟩:∃q,t.z=q:=⟨_,rfl⟩
  obtain⟨tc,VJ⟩:∃q,t.c=q:=⟨_,rfl⟩
  obtain⟨tr,VK⟩:∃q,t.r=q:=⟨_,rfl⟩
  obtain⟨sq,hsq⟩:∃q,Sc (eT t)=q:=⟨_,rfl⟩
  have RI:Hid (∀W':World,Calls prog 202 #[.pointer (some ⟨A,so,none⟩),.agg #[.int .i64 tz,.int .i64 tc,.int .i64 tr]] W' λe w'=>e=.returned (.pointer (some ⟨A,so+1+az t*2,none⟩))/\Below W'.heap.size W' w'):=λW'=>by rw[<-S7,<-VJ,<-VK];exact sB A so t (gQ hg) W'
  have HNm:Hid (∀W':World,Calls prog 217 #[.agg #[.int .i64 tz,.int .i64 tc,.int .i64 tr]] W' λe w'=>e=.returned (.int .i64 ((az t:Nat):Int))/\Below W'.heap.size W' w'):=λW'=>by rw[<-S7,<-VJ,<-VK];exact C6 (gQ hg) W'
  have TH:Hid (∀(v:Value) (ks:List Kp) (W':World),gu W' A (so+1+az t*2) v ks->Calls prog 203 #[.pointer (some ⟨A,so+1+az t*2,none⟩),.agg #[.int .i64 tz,.int .i64 tc,.int .i64 tr]] W' λe w'=>∃s q,e=.returned (.tuple #[.string s,.bool q])/\∃v',gu w' A (so+1+az t*2) v' (cP t ks)/\v'.ownBlock=v.ownBlock/\Fr (n9 A (so+1+az t*2) v) W' w'):=λv ks W' h=>by rw[<-S7,<-VJ,<-VK];exact Dy A _ t v ks W' h
  rw[S7,VJ,VK]at Ko hk3
  rw[hsq]at Ko Wy
  obtain⟨k0,k1,k2,_,_,_⟩:=hk3
  have c0:=hI.c0
  have c1:=hI.c1
  have l0:w.heap.size<W.heap.size:=dz W _ c0
  have l1:w.heap.size+1<W.heap.size:=dz W _ c1
  have l2:w.heap.size+1+1<W.heap.size:=by have:=hI.big;omega
  have l3:=hI.big
  obtain⟨o1,o2⟩:=hI.old (az t) (bg t)
  have aaM:(az t:Int)<4:=by have:=bg t;omega
  have aaC:(0:Int)<=(az t:Int):=by omega
  clear hI
  rw[S7,VJ,VK]
  obtain⟨q,hq⟩:∃q,dW bs t=q:=⟨_,rfl⟩
  rw[hq]at Wy
  have HQ:=af hq
  clear hq
  have hdr:Below W.heap.size W W.drew:=(Below.refl _ W).drew
  cases q with
  |false=>
   gi_wp2_with fail
   gi_region_with (first
    |(refine⟨trivial,?_⟩;gi_at_call 93;refine(CallsIn.inRound l (callsIn_wide.2 (Ko.out _))).mono ?_;rintro e w2 ⟨rfl,hb2⟩;dsimp only;have hB2:Below W.heap.size W w2:=hdr.trans hb2;have p1:=(hB2.cell (p:=⟨w.heap.size+1,0,none⟩) l1).trans c1)
    |(refine⟨trivial,?_⟩;gi_at_call 223;refine(CallsIn.inRound l (callsIn_wide.2 (Wy.out _ hB2))).mono ?_;rintro e w3 ⟨rfl,hb3⟩;dsimp only))
   all_goals
    gi_wp2
    have gZ:Below W.heap.size W w3:=hB2.trans (hb3.mono hB2.size)
    refine⟨KeepsFrom.of_grownBy (bC gZ) (λj e=>by cases e),⟨gZ.size,λo v e=>(gZ.cell (p:=⟨w.heap.size+1+1+1,o,none⟩) l3).trans e⟩,?_⟩
    show DM A so w.heap.size a n cap bs vs S w ((pre++[(⟨t,hg⟩:{t:Tl//t.good})]).map Subtype.val) w3
    rw[List.map_append]
    exact HI.out.miss gZ HQ.out
  |true=>
   obtain⟨vs',hsh,ue⟩:=HI.out.sh
   have ke:=af hsh
   have WO:=af ue
   have hnm:∀b i,w.heap.size<=b->¬n9 A (so+1+az t*2) (vs' (az t)) b i:=λb i hb e=>by
    rcases e with⟨rfl,_⟩|e
    ·omega
    ·have:=hvs _ b (bg t) ((WO.out _ (bg t)).symm.trans e);omega
   clear hsh ue
   gi_wp2_with fail
   gi_region_with (first
    |(refine⟨trivial,?_⟩;gi_at_call 93;refine(CallsIn.inRound l (callsIn_wide.2 (Ko.out _))).mono ?_;rintro e w2 ⟨rfl,hb2⟩;dsimp only;have hB2:Below W.heap.size W w2:=hdr.trans hb2;have p1:=(hB2.cell (p:=⟨w.heap.size+1,0,none⟩) l1).trans c1)
    |(refine⟨trivial,?_⟩;gi_at_call 223;refine(CallsIn.inRound l (callsIn_wide.2 (Wy.out _ hB2))).mono ?_;rintro e w3 ⟨rfl,hb3⟩;dsimp only))
   all_goals
    have gZ:Below W.heap.size W w3.drew:=(hB2.trans (hb3.mono hB2.size)).drew
    have d0:=(gZ.cell (p:=⟨w.heap.size,0,none⟩) l0).trans c0
    have e0:=(gZ.cell (p:=⟨Bv,0,none⟩) jw).trans k0
    have e1:=(gZ.cell (p:=⟨Bv,1,none⟩) jw).trans k1
    have e2:=(gZ.cell (p:=⟨Bv,2,none⟩) jw).trans k2
    gi_wp2_with fail
    gi_region_with (first
     |(refine⟨trivial,?_⟩;gi_at_call 202;refine(CallsIn.inRound l (callsIn_wide.2 (RI.out _))).mono ?_;rintro e w4 ⟨rfl,YQ⟩;dsimp only;have Ct:Below W.heap.size W w4:=gZ.trans (YQ.mono gZ.size);have r0:=(Ct.cell (p:=⟨Bv,0,none⟩) jw).trans k0;have r1:=(Ct.cell (p:=⟨Bv,1,none⟩) jw).trans k1;have r2:=(Ct.cell (p:=⟨Bv,2,none⟩) jw).trans k2)
     |(refine⟨trivial,?_⟩;gi_at_call 203;refine(CallsIn.inRound l (callsIn_wide.2 (TH.out _ _ _ ((ke.out.sh (az t) (bg t)).below Ct)))).mono ?_;rintro e w5 ⟨s5,q5,rfl,v5,h5,GK,jx⟩;dsimp only;have zW:Hid _:=jx;have H5:Hid _:=h5;have x0:=(jx.cell Bv 0 (Nat.lt_of_lt_of_le jw Ct.size) (hnm _ _ (by omega))).trans r0;have x1:=(jx.cell Bv 1 (Nat.lt_of_lt_of_le jw Ct.size) (hnm _ _ (by omega))).trans r1;have x2:=(jx.cell Bv 2 (Nat.lt_of_lt_of_le jw Ct.size) (hnm _ _ (by omega))).trans r2;have y1:=((jx.cell (w.heap.size+1+1) (az t) (Nat.lt_of_lt_of_le l2 Ct.size) (hnm _ _ (by omega))).trans (Ct.cell (p:=⟨w.heap.size+1+1,az t,none⟩) l2)).trans o1;have y2:=((jx.frozen (w.heap.size+1+1) (az t) (Nat.lt_of_lt_of_le l2 Ct.size) (hnm _ _ (by omega))).trans (Ct.frozen (p:=⟨w.heap.size+1+1,az t,none⟩) l2)).trans o2;have l5:w.heap.size+1+1<w5.heap.size:=Nat.lt_of_lt_of_le l2 (Nat.le_trans Ct.size jx.size);clear jx h5))
    all_goals
     gi_wp2_with (refine⟨trivial,?_⟩;gi_at_call 217;refine(CallsIn.inRound l (callsIn_wide.2 (HNm.out _))).mono ?_;rintro e w6 ⟨rfl,jC⟩;dsimp only;have z1:=(jC.cell (p:=⟨w.heap.size+1+1,az t,none⟩) l5).trans y1;have z2:=(jC.frozen (p:=⟨w.heap.size+1+1,az t,none⟩) l5).trans y2)
     refine⟨?_,?_,?_⟩
     ·refine((KeepsFrom.of_grownBy (bC Ct) (λj e=>by cases e)).trans ((KeepsFrom.fr zW.out (λb i e=>?_) aM).trans (KeepsFrom.of_grownBy (bC jC) (λj e=>by cases e)))).trans ((KeepsOthers.setCell _ _ _).from _)
      have:¬w.heap.size<=b:=λh=>hnm b i h e
      simp
      omega
     ·have Rg:Fr (n9 A (so+1+az t*2) (vs' (az t))) W w6:=((Fr.of_below Ct).trans zW.out).trans (Fr.of_below jC)
      refine⟨by simp[World.setCell];exact Rg.size,λo v e=>?_⟩
      exact(aK _ _ (.inl (by omega))).trans ((Rg.cell _ o l3 (hnm _ _ (by omega))).trans e)
     ·show DM A so w.heap.size a n cap bs vs S w ((pre++[(⟨t,hg⟩:{t:Tl//t.good})]).map Subtype.val) _
      rw[List.map_append]
      exact HI.out.hit HQ.out hA hvs aM ke.out WO.out Ct H5.out GK zW.out jC
 case done=>
  rintro D ys W hD hys hI hK
  have VO:ys.map Subtype.val=aR z:=hys
  rw[VO]at hI
  clear hys VO
  have HI:=af hI
  obtain⟨vs',hsh,ue⟩:=hI.sh
  have WO:=af ue
  have hD3:w.heap.size+1+1+1<D:=by simp at hD;omega
  have Zx:OG A so w.heap.size z bs vs vs' S w D 0 W:=⟨hI.c0,hI.old,by
   have e:Gk z bs S 0=Ks bs S (aR z):=by simp[Gk,Ks]
   rw[e];exact hsh,hI.fr,hK⟩
  clear hI hsh ue hK
  gi_wp2
  gi_loopw [25] (λi wr=>∃k:Nat,k<=4/\i=.int .i64 k/\OG A so w.heap.size z bs vs vs' S w D k wr) (λi _=>4-(intOf i).toNat)
  case atStart=>exact⟨0,by omega,rfl,Zx⟩
  case round=>
   obtain⟨k,hk,rfl,hag⟩:=hrel
   have TB:=af hag
   by_cases h4:k<4
   ·have hk4:(k:Int)<4:=by omega
    have hk0:(0:Int)<=(k:Int):=by omega
    obtain⟨o1,o2⟩:=hag.old k h4
    have c0:=hag.c0
    obtain⟨q1,q2⟩:=hag.sh.aG k h4
    have e:(Gk z bs S k).aG k=S.aG k:=by unfold Gk;exact if_neg (by omega)
    rw[e]at q1
    clear hag e
    cases hol:aL bs k (aR z)with
    |false=>
     rw[hol]at o1
     gi_wp2
     exact⟨⟨k+1,by omega,by go_num,TB.out.skip hol⟩,by simp[intOf];omega⟩
    |true=>
     rw[hol]at o1
     have aau:A<wr.heap.size:=dz wr _ q1
     gi_wp2_with fail
     gi_region
     all_goals
      gi_wp2
      refine⟨⟨k+1,by omega,by go_num,?_⟩,by simp[intOf];omega⟩
      have h1:OG A so w.heap.size z bs vs vs' S w D (k+1) (wr.setCell ⟨A,so+1+k*2+1,none⟩ (.int .i64 (wrap64 (S.aG k+1)))):=Wv (S.aG k+1)▸TB.out.step hol h4 hA (by omega) (λj g hj e e'=>by
       have h2:=TB.out.sh.sh j hj
       exact h2.ne (by rw[e,e']))
      exact⟨h1.c0,h1.old,h1.sh.below (bK.drew),h1.fr.drew,h1.hK⟩
   ·obtain rfl:k=4:=by omega
    gi_wp2
    have hK4:=TB.out.hK
    have hg4:=grownBy_putObj' wr D (.deferred none)
    refine⟨by simp,.inl ⟨_,_,rfl,run_takeDeferred hK4,?_⟩⟩
    refine⟨.tuple #[],by simp[results,results206,go_sem],rfl,vs',?_,WO.out,TB.out.fr.grown hg4 (λr e=>by cases e;omega)⟩
    rw[EP]
    exact TB.out.sh.grown hg4 (λr e=>by cases e;exact⟨_,hK4,rfl⟩)
 case stop=>
  rintro D c pre W _ _ h _
  exact h.elim
theorem KD(I:Nat->Prop)(ro:Option Addr)(vs:List FV)(id:Int)(w:World)(hI:∀b,I b->b<w.heap.size)(hR:aT I w ro vs)(hg:∀v∈vs,Good I w v):
  Calls prog 224 #[.agg #[.pointer ro],.int .i64 id] w λe w'=>∃(x0 x1 x2 x3:Int) (sa:Option Addr) (sn sc:Nat),e=.returned (.tuple #[.agg #[.int .i64 x0,.int .i64 x1,.int .i64 x2,.int .i64 x3,.slice sa sn sc],.bool (eV id (vs.map (·.f)))])/\Below w.heap.size w w':=by
 refine(Bk I ro vs id w hI hR hg).mono ?_
 rintro e w' ⟨v,rfl,hv,hb⟩
 rcases hv with⟨u,hu,hid,rfl⟩|⟨hn,rfl⟩
 ·refine⟨u.f.id,u.f.kd,u.f.ht,u.f.col,some ⟨u.pb,u.po,none⟩,u.f.ps.length,u.cap,?_,hb⟩
  rw[<-hid,Mf (List.mem_map_of_mem (f:=(·.f)) hu)]
  rfl
 ·refine⟨0,0,0,0,none,0,0,?_,hb⟩
  rw[Mg (λf hf=>by obtain⟨u,hu,rfl⟩:=List.mem_map.1 hf;exact hn u hu)]
theorem EE{vs:List FV}{id:Int}(h:eV id (vs.map (·.f))=false):(vs.filter λv=>!(v.f.id==id))=vs:=by
 refine List.filter_eq_self.2 λv hv=>?_
 have:=List.any_eq_false.1 h v.f (List.mem_map_of_mem (f:=(·.f)) hv)
 simpa using this
theorem Gw(b:Nat)(w:World)(u0 u1 u2 u3 u4:Value):Fr (ig b) w (uo w b u0 u1 u2 u3 u4):=
 (((((Fr.refl (ig b) w).setCell (b:=b) (i:=0) (.inl rfl) u0).setCell (b:=b) (i:=1) (.inl rfl) u1).setCell (b:=b) (i:=2) (.inl rfl) u2).setCell (b:=b) (i:=3) (.inl rfl) u3).setCell (b:=b) (i:=4) (.inl rfl) u4
abbrev OM(A mo:Nat):Nat->Nat->Prop:=λc j=>c=A/\(j=mo\/j=mo+1)
structure tS(A mo:Nat)(I:Nat->Prop)(id:Int)(a:Option Addr)(vs:List FV)(w W:World):Prop where
 root:∃ro,W.cell? ⟨A,mo,none⟩=some (.pointer ro)/\aT (iM I (w.heap.size+2) W.heap.size) W ro vs
 rf:W.frozen? ⟨A,mo,none⟩=false
 Sl:K3 W w.heap.size (.int .i64 id) (.pointer a) (.int .i64 3)
 res:K3 W (w.heap.size+1) (.bool false) .nilFunc (.string ⟨#[]⟩)
 fr:Fr (OM A mo) w W
 lk:∃b,W.cell? ⟨A,mo+1,none⟩=some (.bool b)
 lf:W.frozen? ⟨A,mo+1,none⟩=false
variable {I:Nat->Prop} {wc w2:World} {GZ:Option Addr}
theorem tS.set{A mo:Nat}{id:Int}{a:Option Addr}{vs us:List FV}(h:tS A mo I id a vs w wc)(hA:A<w.heap.size)(Ba:¬I A)(hb:Below wc.heap.size wc w2)(hr:aT (iM I (w.heap.size+2) w2.heap.size) w2 GZ us):tS A mo I id a us w (w2.setCell ⟨A,mo,none⟩ (.pointer GZ)):=by
 obtain⟨ro,r0,_⟩:=h.root
 obtain⟨b,hl⟩:=h.lk
 have Kt:A<wc.heap.size:=dz wc _ r0
 have hF:Fr (OM A mo) wc (w2.setCell ⟨A,mo,none⟩ (.pointer GZ)):=(Fr.of_below hb).setCell (b:=A) (i:=mo) (.inl ⟨rfl,.inl rfl⟩) _
 have hsz:(w2.setCell ⟨A,mo,none⟩ (.pointer GZ)).heap.size=w2.heap.size:=by simp[World.setCell]
 refine⟨⟨GZ,cell_eq ((hb.cell (p:=⟨A,mo,none⟩) Kt).trans r0) _,?_⟩,?_,h.Sl.fr hF (λi e=>by have:=e.1;omega),h.res.fr hF (λi e=>by have:=e.1;omega),h.fr.trans hF,⟨b,(aK _ _ (.inr (by omega))).trans ((hb.cell (p:=⟨A,mo+1,none⟩) Kt).trans hl)⟩,?_⟩
 ·rw[hsz]
  refine aT.same hr (nL w2 A mo (.pointer GZ) ?_)
  rintro(h|h)
  ·exact Ba h
  ·omega
 ·rw[World.frozen?_setCell];exact(hb.frozen (p:=⟨A,mo,none⟩) Kt).trans h.rf
 ·rw[World.frozen?_setCell];exact(hb.frozen (p:=⟨A,mo+1,none⟩) Kt).trans h.lf
variable {us:List FV} {w5:World}
theorem tS.fin{A mo:Nat}{id:Int}{a:Option Addr}(h:tS A mo I id a us w W)(hA:A<w.heap.size)(hI:∀b,I b->b<w.heap.size)(Ba:¬I A)(hb:Below (W.setCell ⟨A,mo+1,none⟩ (.bool false)).heap.size (W.setCell ⟨A,mo+1,none⟩ (.bool false)) w5)(u0 u1 u2:Value):
  (∃lz,(((w5.setCell ⟨w.heap.size+1,0,none⟩ u0).setCell ⟨w.heap.size+1,1,none⟩ u1).setCell ⟨w.heap.size+1,2,none⟩ u2).cell? ⟨A,mo,none⟩=some (.pointer lz)/\aT (iM I (w.heap.size+2) (((w5.setCell ⟨w.heap.size+1,0,none⟩ u0).setCell ⟨w.heap.size+1,1,none⟩ u1).setCell ⟨w.heap.size+1,2,none⟩ u2).heap.size) (((w5.setCell ⟨w.heap.size+1,0,none⟩ u0).setCell ⟨w.heap.size+1,1,none⟩ u1).setCell ⟨w.heap.size+1,2,none⟩ u2) lz us)/\(((w5.setCell ⟨w.heap.size+1,0,none⟩ u0).setCell ⟨w.heap.size+1,1,none⟩ u1).setCell ⟨w.heap.size+1,2,none⟩ u2).cell? ⟨A,mo+1,none⟩=some (.bool false)/\Fr (OM A mo) w (((w5.setCell ⟨w.heap.size+1,0,none⟩ u0).setCell ⟨w.heap.size+1,1,none⟩ u1).setCell ⟨w.heap.size+1,2,none⟩ u2)/\(((w5.setCell ⟨w.heap.size+1,0,none⟩ u0).setCell ⟨w.heap.size+1,1,none⟩ u1).setCell ⟨w.heap.size+1,2,none⟩ u2).frozen? ⟨A,mo,none⟩=false/\(((w5.setCell ⟨w.heap.size+1,0,none⟩ u0).setCell ⟨w.heap.size+1,1,none⟩ u1).setCell ⟨w.heap.size+1,2,none⟩ u2).frozen? ⟨A,mo+1,none⟩=false:=by
 obtain⟨ro,r0,hr⟩:=h.root
 obtain⟨b,hl⟩:=h.lk
 have WV:A<W.heap.size:=dz W _ r0
 have Xe:(W.setCell ⟨A,mo+1,none⟩ (.bool false)).heap.size=W.heap.size:=by simp[World.setCell]
 rw[Xe]at hb
 have yj:Fr (λc j=>c=A/\j=mo+1) W w5:=((Fr.refl _ W).setCell (b:=A) (i:=mo+1) (.inl ⟨rfl,rfl⟩) _).trans (Fr.of_below (by rw[Xe];exact hb))
 have Yz:Fr (λc j=>(c=A/\j=mo+1)\/c=w.heap.size+1) W (((w5.setCell ⟨w.heap.size+1,0,none⟩ u0).setCell ⟨w.heap.size+1,1,none⟩ u1).setCell ⟨w.heap.size+1,2,none⟩ u2):=(((yj.mono λc j e=> .inl e).setCell (b:=w.heap.size+1) (i:=0) (.inl (.inr rfl)) u0).setCell (b:=w.heap.size+1) (i:=1) (.inl (.inr rfl)) u1).setCell (b:=w.heap.size+1) (i:=2) (.inl (.inr rfl)) u2
 have hsV:(((w5.setCell ⟨w.heap.size+1,0,none⟩ u0).setCell ⟨w.heap.size+1,1,none⟩ u1).setCell ⟨w.heap.size+1,2,none⟩ u2).heap.size=w5.heap.size:=by simp[World.setCell]
 have hs5:W.heap.size<=w5.heap.size:=yj.size
 refine⟨⟨ro,(Yz.cell A mo WV (λe=>by omega)).trans r0,?_⟩,?_,h.fr.aC Yz (λc j hc e=>?_),?_,?_⟩
 ·rw[hsV]
  refine aT.mono (aT.same hr (Same.fr Yz (λc hc=>?_) (λc j hc e=>?_))) (λc hc=>hc.imp _root_.id (λe=>⟨e.1,by omega⟩))
  ·rcases hc with hc|hc
   ·exact Nat.lt_of_lt_of_le (hI c hc) h.fr.size
   ·exact hc.2
  ·rcases e with⟨rfl,_⟩|rfl
   ·rcases hc with hc|hc
    ·exact Ba hc
    ·omega
   ·rcases hc with hc|hc
    ·have:=hI _ hc;omega
    ·omega
 ·rw[aK _ _ (.inl (by omega)),aK _ _ (.inl (by omega)),aK _ _ (.inl (by omega))]
  exact(hb.cell (p:=⟨A,mo+1,none⟩) WV).trans (cell_eq hl _)
 ·rcases e with⟨rfl,rfl⟩|rfl
  ·exact⟨rfl,.inr rfl⟩
  ·omega
 ·rw[World.frozen?_setCell,World.frozen?_setCell,World.frozen?_setCell]
  exact(hb.frozen (p:=⟨A,mo,none⟩) WV).trans (by rw[World.frozen?_setCell];exact h.rf)
 ·rw[World.frozen?_setCell,World.frozen?_setCell,World.frozen?_setCell]
  exact(hb.frozen (p:=⟨A,mo+1,none⟩) WV).trans (by rw[World.frozen?_setCell];exact h.lf)
def RA(A mo:Nat)(I:Nat->Prop)(id:Int)(p:Option aW)(vs:List FV)(w w':World):Prop:=
 ∃lz,w'.cell? ⟨A,mo,none⟩=some (.pointer lz)/\∃us,aT (iM I (w.heap.size+2) w'.heap.size) w' lz ((vs.filter λv=>!(v.f.id==id))++us)/\us.map (·.f)=p.toList/\(∀u∈us,Good I w u)/\w'.frozen? ⟨A,mo,none⟩=false/\w'.frozen? ⟨A,mo+1,none⟩=false
theorem Ci(A mo:Nat)(I:Nat->Prop)(id:Int)(a:Option Addr)(p:Option aW)(ro:Option Addr)(vs:List FV)(w:World)(hA:A<w.heap.size)(Ba:¬I A)(hro:w.cell? ⟨A,mo,none⟩=some (.pointer ro))(hrf:w.frozen? ⟨A,mo,none⟩=false)(hlk:∃b,w.cell? ⟨A,mo+1,none⟩=some (.bool b))(hlf:w.frozen? ⟨A,mo+1,none⟩=false)(hI:∀b,I b->b<w.heap.size)(hp:jt I w a p)(Rq:oX id p)(hR:aT I w ro vs)(hg:∀v∈vs,Good I w v):
  Calls prog 208 #[gL id a 3,.pointer (some ⟨A,mo,none⟩)] w λe w'=>e=.returned (.agg #[.bool false,.nilFunc,.string (pM (eV id (vs.map (·.f))) p)])/\RA A mo I id p vs w w'/\w'.cell? ⟨A,mo+1,none⟩=some (.bool false)/\Fr (OM A mo) w w':=by
 have hB0:∀o o':Obj,Below w.heap.size w ((w.alloc o).alloc o').drew:=λo o'=>(aU.alloc (by simp) _).drew
 have hB1:∀o o' o2:Obj,Below w.heap.size w (((w.alloc o).alloc o').drew.alloc o2):=λo o' o2=>(hB0 o o').alloc (by simp;omega) _
 obtain⟨hd,TY⟩:∃hd,eV id (vs.map (·.f))=hd:=⟨_,rfl⟩
 have QV:Hid (∀W:World,Below w.heap.size w W->Calls prog 224 #[.agg #[.pointer ro],.int .i64 id] W λe w'=>∃(x0 x1 x2 x3:Int) (sa:Option Addr) (sn sc:Nat),e=.returned (.tuple #[.agg #[.int .i64 x0,.int .i64 x1,.int .i64 x2,.int .i64 x3,.slice sa sn sc],.bool hd])/\Below W.heap.size W w'):=λW hW=>by
  rw[<-TY]
  exact KD I ro vs id W (λb hb=>Nat.lt_of_lt_of_le (hI b hb) hW.size) (aT.same hR (Same.of_below hW hI)) (λv hv=>Good.same (Same.of_below hW hI) (hg v hv))
 have Xj:∀o':Obj,K3 ((w.alloc (.cells #[.int .i64 id,.pointer a,.int .i64 3] 294)).alloc o').drew w.heap.size (.int .i64 id) (.pointer a) (.int .i64 3):=λo'=>⟨by simp[go_sem],by simp[go_sem],by simp[go_sem],by simp[go_sem],by simp[go_sem],by simp[go_sem]⟩
 have Xk:∀o:Obj,K3 ((w.alloc o).alloc (.cells #[.bool false,.nilFunc,.string ⟨#[]⟩] 231)).drew (w.heap.size+1) (.bool false) .nilFunc (.string ⟨#[]⟩):=λo=>(K3.new2 w o _ _ _ _).drew
 have HR:=af hR
 have HG:=af hg
 have HP:=af hp
 have HI:=af hI
 clear hR hg hp hI
 go_enter func208,ntmps208
 go_wp2_with fail
 go_cut [6] (λv wc=>v=.bool hd/\K3 wc w.heap.size (.int .i64 id) (.pointer a) (.int .i64 3)/\K3 wc (w.heap.size+1) (.bool false) .nilFunc (.string ⟨#[]⟩)/\Below w.heap.size w wc)
 case first=>
  have mH:A<w.heap.size+1:=by omega
  go_region_with (first
   |(go_at_call 224;refine aq (QV.out _ (hB0 _ _)) ?_;rintro e w1 ⟨x0,x1,x2,x3,sa,sn,sc,rfl,hb1⟩;dsimp only;have hb2:Below w.heap.size w w1:=(hB0 _ _).trans (hb1.mono (by simp;omega));have ZY:=(Xj (.cells #[.bool false,.nilFunc,.string ⟨#[]⟩] 231)).below hb1 aM;have ZZ:=(Xk (.cells #[.int .i64 id,.pointer a,.int .i64 3] 294)).below hb1 aM)
   |(go_at_call 224;refine aq (QV.out _ (hB1 _ _ _)) ?_;rintro e w1 ⟨x0,x1,x2,x3,sa,sn,sc,rfl,hb1⟩;dsimp only;have hb2:Below w.heap.size w w1:=(hB1 _ _ _).trans (hb1.mono (by simp;omega));have ZY:=((Xj (.cells #[.bool false,.nilFunc,.string ⟨#[]⟩] 231)).below aU aM).below hb1 aM;have ZZ:=((Xk (.cells #[.int .i64 id,.pointer a,.int .i64 3] 294)).below aU aM).below hb1 aM;have mI:=(Q5.new ((w.alloc (.cells #[.int .i64 id,.pointer a,.int .i64 3] 294)).alloc (.cells #[.bool false,.nilFunc,.string ⟨#[]⟩] 231)).drew (.int .i64 0) (.int .i64 0) (.int .i64 0) (.int .i64 0) (.slice none 0 0) 32).below hb1 (by simp);simp only[World.size_drew,World.size_alloc]at mI;have HQ5:Hid _:=mI;obtain⟨t0,t1,t2,t3,t4,s0,s1,s2,s3,s4⟩:=mI))
  all_goals
   go_wp2_with fail
   go_meet
   first
    |(have hq:=HQ5;exact⟨rfl,ZY.fr (Gw (w.heap.size+1+1) w1 _ _ _ _ _) (λi e=>by have:w.heap.size=w.heap.size+1+1:=e;omega),ZZ.fr (Gw (w.heap.size+1+1) w1 _ _ _ _ _) (λi e=>by have:w.heap.size+1=w.heap.size+1+1:=e;omega),hb2.trans (fo w.heap.size w1 (w.heap.size+1+1) (by omega) _ _ _ _ _)⟩)
    |exact⟨rfl,ZY.below aU aM,ZZ.below aU aM,hb2.alloc hb2.size _⟩
 case rest=>
  obtain⟨rfl,k0,k1,hB⟩:=hcut
  have TD:=af k0
  have vr:=af k1
  have l1:=k1.lt
  have r0:=(hB.cell (p:=⟨A,mo,none⟩) hA).trans hro
  have rf:=(hB.frozen (p:=⟨A,mo,none⟩) hA).trans hrf
  have Kt:A<wc.heap.size:=by omega
  have Mp:hd=false->tS A mo I id a (vs.filter λv=>!(v.f.id==id)) w wc:=λe=>by
   obtain⟨b,hl⟩:=hlk
   refine⟨⟨ro,r0,?_⟩,rf,TD.out,vr.out,Fr.of_below hB,⟨b,(hB.cell (p:=⟨A,mo+1,none⟩) hA).trans hl⟩,(hB.frozen (p:=⟨A,mo+1,none⟩) hA).trans hlf⟩
   rw[EE (TY.trans e)]
   exact(aT.same HR.out (Same.of_below hB HI.out)).mono (λb hb=> .inl hb)
  have Mq:tS A mo I id a vs w wc:=by
   obtain⟨b,hl⟩:=hlk
   exact⟨⟨ro,r0,(aT.same HR.out (Same.of_below hB HI.out)).mono (λb hb=> .inl hb)⟩,rf,TD.out,vr.out,Fr.of_below hB,⟨b,(hB.cell (p:=⟨A,mo+1,none⟩) hA).trans hl⟩,(hB.frozen (p:=⟨A,mo+1,none⟩) hA).trans hlf⟩
  cases hd with
  |false=>
   have iG:=Mp rfl
   clear Mp Mq k0 k1 r0 rf hlk
   go_upto_region 4 with fail
   have HF:=af iG
   obtain⟨xV,r1,hr1⟩:=iG.root
   have Z5:=iG.rf
   have mH:A<wc.heap.size:=dz wc _ r1
   have pT:=iG.fr
   obtain⟨c0,c1,c2,f0,f1,f2⟩:=iG.Sl
   clear iG
   cases p with
   |none=>
    have ha:a=none:=HP.out
    subst ha
    have vo:Hid (tS A mo I id none ((vs.filter λv=>!(v.f.id==id))++[]) w wc):=by rw[List.append_nil];exact HF.out
    clear c0 c1 c2 f0 f1 f2
    obtain⟨lb,hl⟩:=vo.out.lk
    have SS:=vo.out.lf
    have D8:Hid (K3 (wc.setCell ⟨A,mo+1,none⟩ (.bool false)) (w.heap.size+1) (.bool false) .nilFunc (.string ⟨#[]⟩)):=vo.out.res.fr (jQ A wc (mo+1) _) (λi e=>by have:w.heap.size+1=A:=e;omega)
    obtain⟨c0,c1,c2,f0,f1,f2⟩:=vo.out.Sl
    go_wp2_with (first
     |(go_at_call 226;refine(lR id 3 none false _).mono ?_;rintro e w4 ⟨rfl,hb4⟩;dsimp only)
     |(go_at_call 194;refine(eA _ _).mono ?_;rintro e w5 ⟨rfl,hb5⟩;dsimp only;have jC:=hb4.trans (hb5.mono hb4.size);have h_:Hid (K3 w5 (w.heap.size+1) (.bool false) .nilFunc (.string ⟨#[]⟩)):=D8.out.below jC aM;have d0:=h_.out.c0;have d1:=h_.out.c1;have d2:=h_.out.c2;have g0:=h_.out.f0;have g1:=h_.out.f1;have g2:=h_.out.f2))
    have kk:=nC h_.out (.bool false) .nilFunc (.string ⟨#[52,48,52]⟩)
    obtain⟨⟨lz,q1,q2⟩,q3,q4,q5,q6⟩:=vo.out.fin hA HI.out Ba jC (.bool false) .nilFunc (.string ⟨#[52,48,52]⟩)
    exact bodyPost_ret (v:=.agg #[.bool false,.nilFunc,.string ⟨#[52,48,52]⟩]) (by simp[results,results208,go_sem,kk.c0,kk.c1,kk.c2]) rfl ⟨by first|rfl|(rw[TY];rfl),⟨lz,q1,[],q2,rfl,λu hu=>(by cases hu),q5,q6⟩,q3,q4⟩
   |some f=>
    obtain⟨R,b,o,cap,rfl,hR,e5,e6,e7,e8,e9,hgd⟩:=HP.out
    have YH:R≠A:=λe=>Ba (by rw[<-e];exact hR)
    have YI:=HI.out R hR
    have Jg:∀i,wc.cell? ⟨R,i,none⟩=w.cell? ⟨R,i,none⟩:=λi=>pT.cell R i YI (λe=>YH e.1)
    have x5:=(Jg 5).trans e5
    have x6:=(Jg 6).trans e6
    have x7:=(Jg 7).trans e7
    have x8:=(Jg 8).trans e8
    have x9:=(Jg 9).trans e9
    have hne:=uO
    have SH:b≠A:=λe=>Ba (by rw[<-e];exact hgd.2.1)
    have hbl:=HI.out b hgd.2.1
    have PY:=pT.size
    have hRc:R<wc.heap.size:=by omega
    have OT:=af hgd
    have XU:Hid (∀W:World,Below wc.heap.size wc W->Calls prog 31 #[.agg #[.pointer xV],.agg #[.int .i64 f.id,.int .i64 f.kd,.int .i64 f.ht,.int .i64 f.col,.slice (some ⟨b,o,none⟩) f.ps.length cap]] W λe w'=>∃lz:Option Addr,e=.returned (.agg #[.pointer lz])/\aT (iM I (w.heap.size+2) w'.heap.size) w' lz ((vs.filter λv=>!(v.f.id==id))++[⟨f,b,o,cap⟩])/\Below W.heap.size W w'):=λW hW=>by
     have Xe:=hW.size
     refine(vG (iM I (w.heap.size+2) wc.heap.size) ⟨f,b,o,cap⟩ xV _ W (aT.same hr1 (Same.of_below hW (λc hc=>?_))) (λu hu=>(HG.out u (List.mem_filter.1 hu).1).1) hgd.1 (λc hc=>?_) (.inl hgd.2.1) ⟨by show b<_;omega,λk x y e=>?_⟩ hgd.2.2.1).mono ?_
     ·rcases hc with hc|hc
      ·have:=HI.out c hc;omega
      ·exact hc.2
     ·rcases hc with hc|hc
      ·have:=HI.out c hc;omega
      ·omega
     ·have h1:=hgd.2.2.2 k x y e
      exact⟨(hW.cell (p:=⟨b,_,none⟩) (show b<wc.heap.size by omega)).trans ((pT.cell b _ hbl (λe=>SH e.1)).trans h1.1),(hW.cell (p:=⟨b,_,none⟩) (show b<wc.heap.size by omega)).trans ((pT.cell b _ hbl (λe=>SH e.1)).trans h1.2)⟩
     ·rintro e w' ⟨lz,rfl,h1,h2⟩
      refine⟨lz,rfl,aT.mono h1 (λc hc=>?_),h2⟩
      have:=h2.size
      rcases hc with(hc|hc)|hc
      ·exact .inl hc
      ·exact .inr ⟨hc.1,by omega⟩
      ·refine .inr ⟨by have:=HF.out.res.lt;omega,hc.2⟩
    clear e5 e6 e7 e8 e9 hgd hr1 Jg
    go_upto_region 5 with fail
    go_cut [6] (λv wx=>v=.bool false/\tS A mo I id (some ⟨R,5,none⟩) ((vs.filter λv=>!(v.f.id==id))++[⟨f,b,o,cap⟩]) w wx)
    case first=>
     go_region_with (go_at_call 31;refine aq (XU.out _ ((Below.refl _ wc).drew)) ?_;rintro e w2 ⟨GZ,rfl,hr2,hb2⟩;dsimp only;have hB2:Below wc.heap.size wc w2:=(Below.refl _ wc).drew.trans hb2;have dP:Hid _:=hr2;have d0:=(hB2.cell (p:=⟨A,mo,none⟩) mH).trans r1;have df:=(hB2.frozen (p:=⟨A,mo,none⟩) mH).trans Z5;have PM:A<w2.heap.size:=Nat.lt_of_lt_of_le mH hB2.size;clear hr2)
     all_goals
      go_wp2_with fail
      go_meet
      exact⟨rfl,HF.out.set hA Ba hB2 dP.out⟩
    case rest=>
     obtain⟨rfl,Rj⟩:=hcut
     have vo:=af Rj
     clear Rj c0 c1 c2 f0 f1 f2 x5 x6 x7 x8 x9
     obtain⟨lb,hl⟩:=vo.out.lk
     have SS:=vo.out.lf
     have D8:Hid (K3 (wc.setCell ⟨A,mo+1,none⟩ (.bool false)) (w.heap.size+1) (.bool false) .nilFunc (.string ⟨#[]⟩)):=vo.out.res.fr (jQ A wc (mo+1) _) (λi e=>by have:w.heap.size+1=A:=e;omega)
     obtain⟨c0,c1,c2,f0,f1,f2⟩:=vo.out.Sl
     go_wp2_with (first
      |(go_at_call 226;refine(lR id 3 (some ⟨R,5,none⟩) false _).mono ?_;rintro e w4 ⟨rfl,hb4⟩;dsimp only)
      |(go_at_call 194;refine(eA _ _).mono ?_;rintro e w5 ⟨rfl,hb5⟩;dsimp only;have jC:=hb4.trans (hb5.mono hb4.size);have h_:Hid (K3 w5 (w.heap.size+1) (.bool false) .nilFunc (.string ⟨#[]⟩)):=D8.out.below jC aM;have d0:=h_.out.c0;have d1:=h_.out.c1;have d2:=h_.out.c2;have g0:=h_.out.f0;have g1:=h_.out.f1;have g2:=h_.out.f2))
     have kk:=nC h_.out (.bool false) .nilFunc (.string ⟨#[50,48,49]⟩)
     obtain⟨⟨lz,q1,q2⟩,q3,q4,q5,q6⟩:=vo.out.fin hA HI.out Ba jC (.bool false) .nilFunc (.string ⟨#[50,48,49]⟩)
     exact bodyPost_ret (v:=.agg #[.bool false,.nilFunc,.string ⟨#[50,48,49]⟩]) (by simp[results,results208,go_sem,kk.c0,kk.c1,kk.c2]) rfl ⟨by first|rfl|(rw[TY];rfl),⟨lz,q1,[⟨f,b,o,cap⟩],q2,rfl,λu hu=>(by simp at hu;subst hu;exact OT.out),q5,q6⟩,q3,q4⟩
  |true=>
   have Uf:=af Mq
   obtain⟨c0,c1,c2,f0,f1,f2⟩:=k0
   clear Mp Mq k1 hlk
   have HW:Hid (∀W:World,Below wc.heap.size wc W->Calls prog 225 #[.agg #[.pointer ro],.int .i64 id] W λe w'=>∃lz,e=.returned (.agg #[.pointer lz])/\aT (iM I W.heap.size w'.heap.size) w' lz (vs.filter λv=>!(v.f.id==id))/\Below W.heap.size W w'):=λW hW=>by
    have hb:=hB.trans (hW.mono hB.size)
    exact BO I ro vs id W (λb hb'=>Nat.lt_of_lt_of_le (HI.out b hb') hb.size) (aT.same HR.out (Same.of_below hb HI.out)) (λv hv=>Good.same (Same.of_below hb HI.out) (HG.out v hv))
   go_upto_region 3 with fail
   go_cut [6] (λv wx=>v=.bool true/\tS A mo I id a (vs.filter λv=>!(v.f.id==id)) w wx)
   case first=>
    go_region_with (go_at_call 225;refine aq (HW.out _ ((Below.refl _ wc).drew)) ?_;rintro e w2 ⟨GZ,rfl,hr2,hb2⟩;dsimp only;have hB2:Below wc.heap.size wc w2:=(Below.refl _ wc).drew.trans hb2;have dP:Hid (aT (iM I (w.heap.size+2) w2.heap.size) w2 GZ (vs.filter λv=>!(v.f.id==id))):=aT.mono hr2 (λb hb=>hb.imp _root_.id (λh=>⟨by simp at h;omega,h.2⟩));have d0:=(hB2.cell (p:=⟨A,mo,none⟩) Kt).trans r0;have df:=(hB2.frozen (p:=⟨A,mo,none⟩) Kt).trans rf;have PM:A<w2.heap.size:=Nat.lt_of_lt_of_le Kt hB2.size;clear hr2)
    all_goals
     go_wp2_with fail
     go_meet
     exact⟨rfl,Uf.out.set hA Ba hB2 dP.out⟩
   case rest=>
    obtain⟨rfl,iG⟩:=hcut
    clear c0 c1 c2 f0 f1 f2 r0 rf
    go_upto_region 4 with fail
    have HF:=af iG
    obtain⟨xV,r1,hr1⟩:=iG.root
    have Z5:=iG.rf
    have mH:A<wc.heap.size:=dz wc _ r1
    have pT:=iG.fr
    obtain⟨c0,c1,c2,f0,f1,f2⟩:=iG.Sl
    clear iG
    cases p with
    |none=>
     have ha:a=none:=HP.out
     subst ha
     have vo:Hid (tS A mo I id none ((vs.filter λv=>!(v.f.id==id))++[]) w wc):=by rw[List.append_nil];exact HF.out
     clear c0 c1 c2 f0 f1 f2
     obtain⟨lb,hl⟩:=vo.out.lk
     have SS:=vo.out.lf
     have D8:Hid (K3 (wc.setCell ⟨A,mo+1,none⟩ (.bool false)) (w.heap.size+1) (.bool false) .nilFunc (.string ⟨#[]⟩)):=vo.out.res.fr (jQ A wc (mo+1) _) (λi e=>by have:w.heap.size+1=A:=e;omega)
     obtain⟨c0,c1,c2,f0,f1,f2⟩:=vo.out.Sl
     go_wp2_with (first
      |(go_at_call 226;refine(lR id 3 none true _).mono ?_;rintro e w4 ⟨rfl,hb4⟩;dsimp only)
      |(go_at_call 194;refine(eA _ _).mono ?_;rintro e w5 ⟨rfl,hb5⟩;dsimp only;have jC:=hb4.trans (hb5.mono hb4.size);have h_:Hid (K3 w5 (w.heap.size+1) (.bool false) .nilFunc (.string ⟨#[]⟩)):=D8.out.below jC aM;have d0:=h_.out.c0;have d1:=h_.out.c1;have d2:=h_.out.c2;have g0:=h_.out.f0;have g1:=h_.out.f1;have g2:=h_.out.f2))
     have kk:=nC h_.out (.bool false) .nilFunc (.string ⟨#[50,48,48]⟩)
     obtain⟨⟨lz,q1,q2⟩,q3,q4,q5,q6⟩:=vo.out.fin hA HI.out Ba jC (.bool false) .nilFunc (.string ⟨#[50,48,48]⟩)
     exact bodyPost_ret (v:=.agg #[.bool false,.nilFunc,.string ⟨#[50,48,48]⟩]) (by simp[results,results208,go_sem,kk.c0,kk.c1,kk.c2]) rfl ⟨by first|rfl|(rw[TY];rfl),⟨lz,q1,[],q2,rfl,λu hu=>(by cases hu),q5,q6⟩,q3,q4⟩
    |some f=>
     obtain⟨R,b,o,cap,rfl,hR,e5,e6,e7,e8,e9,hgd⟩:=HP.out
     have YH:R≠A:=λe=>Ba (by rw[<-e];exact hR)
     have YI:=HI.out R hR
     have Jg:∀i,wc.cell? ⟨R,i,none⟩=w.cell? ⟨R,i,none⟩:=λi=>pT.cell R i YI (λe=>YH e.1)
     have x5:=(Jg 5).trans e5
     have x6:=(Jg 6).trans e6
     have x7:=(Jg 7).trans e7
     have x8:=(Jg 8).trans e8
     have x9:=(Jg 9).trans e9
     have hne:=uO
     have SH:b≠A:=λe=>Ba (by rw[<-e];exact hgd.2.1)
     have hbl:=HI.out b hgd.2.1
     have PY:=pT.size
     have hRc:R<wc.heap.size:=by omega
     have OT:=af hgd
     have XU:Hid (∀W:World,Below wc.heap.size wc W->Calls prog 31 #[.agg #[.pointer xV],.agg #[.int .i64 f.id,.int .i64 f.kd,.int .i64 f.ht,.int .i64 f.col,.slice (some ⟨b,o,none⟩) f.ps.length cap]] W λe w'=>∃lz:Option Addr,e=.returned (.agg #[.pointer lz])/\aT (iM I (w.heap.size+2) w'.heap.size) w' lz ((vs.filter λv=>!(v.f.id==id))++[⟨f,b,o,cap⟩])/\Below W.heap.size W w'):=λW hW=>by
      have Xe:=hW.size
      refine(vG (iM I (w.heap.size+2) wc.heap.size) ⟨f,b,o,cap⟩ xV _ W (aT.same hr1 (Same.of_below hW (λc hc=>?_))) (λu hu=>(HG.out u (List.mem_filter.1 hu).1).1) hgd.1 (λc hc=>?_) (.inl hgd.2.1) ⟨by show b<_;omega,λk x y e=>?_⟩ hgd.2.2.1).mono ?_
      ·rcases hc with hc|hc
       ·have:=HI.out c hc;omega
       ·exact hc.2
      ·rcases hc with hc|hc
       ·have:=HI.out c hc;omega
       ·omega
      ·have h1:=hgd.2.2.2 k x y e
       exact⟨(hW.cell (p:=⟨b,_,none⟩) (show b<wc.heap.size by omega)).trans ((pT.cell b _ hbl (λe=>SH e.1)).trans h1.1),(hW.cell (p:=⟨b,_,none⟩) (show b<wc.heap.size by omega)).trans ((pT.cell b _ hbl (λe=>SH e.1)).trans h1.2)⟩
      ·rintro e w' ⟨lz,rfl,h1,h2⟩
       refine⟨lz,rfl,aT.mono h1 (λc hc=>?_),h2⟩
       have:=h2.size
       rcases hc with(hc|hc)|hc
       ·exact .inl hc
       ·exact .inr ⟨hc.1,by omega⟩
       ·refine .inr ⟨by have:=HF.out.res.lt;omega,hc.2⟩
     clear e5 e6 e7 e8 e9 hgd hr1 Jg
     go_upto_region 5 with fail
     go_cut [6] (λv wx=>v=.bool true/\tS A mo I id (some ⟨R,5,none⟩) ((vs.filter λv=>!(v.f.id==id))++[⟨f,b,o,cap⟩]) w wx)
     case first=>
      go_region_with (go_at_call 31;refine aq (XU.out _ ((Below.refl _ wc).drew)) ?_;rintro e w2 ⟨GZ,rfl,hr2,hb2⟩;dsimp only;have hB2:Below wc.heap.size wc w2:=(Below.refl _ wc).drew.trans hb2;have dP:Hid _:=hr2;have d0:=(hB2.cell (p:=⟨A,mo,none⟩) mH).trans r1;have df:=(hB2.frozen (p:=⟨A,mo,none⟩) mH).trans Z5;have PM:A<w2.heap.size:=Nat.lt_of_lt_of_le mH hB2.size;clear hr2)
      all_goals
       go_wp2_with fail
       go_meet
       exact⟨rfl,HF.out.set hA Ba hB2 dP.out⟩
     case rest=>
      obtain⟨rfl,Rj⟩:=hcut
      have vo:=af Rj
      clear Rj c0 c1 c2 f0 f1 f2 x5 x6 x7 x8 x9
      obtain⟨lb,hl⟩:=vo.out.lk
      have SS:=vo.out.lf
      have D8:Hid (K3 (wc.setCell ⟨A,mo+1,none⟩ (.bool false)) (w.heap.size+1) (.bool false) .nilFunc (.string ⟨#[]⟩)):=vo.out.res.fr (jQ A wc (mo+1) _) (λi e=>by have:w.heap.size+1=A:=e;omega)
      obtain⟨c0,c1,c2,f0,f1,f2⟩:=vo.out.Sl
      go_wp2_with (first
       |(go_at_call 226;refine(lR id 3 (some ⟨R,5,none⟩) true _).mono ?_;rintro e w4 ⟨rfl,hb4⟩;dsimp only)
       |(go_at_call 194;refine(eA _ _).mono ?_;rintro e w5 ⟨rfl,hb5⟩;dsimp only;have jC:=hb4.trans (hb5.mono hb4.size);have h_:Hid (K3 w5 (w.heap.size+1) (.bool false) .nilFunc (.string ⟨#[]⟩)):=D8.out.below jC aM;have d0:=h_.out.c0;have d1:=h_.out.c1;have d2:=h_.out.c2;have g0:=h_.out.f0;have g1:=h_.out.f1;have g2:=h_.out.f2))
      have kk:=nC h_.out (.bool false) .nilFunc (.string ⟨#[50,48,48]⟩)
      obtain⟨⟨lz,q1,q2⟩,q3,q4,q5,q6⟩:=vo.out.fin hA HI.out Ba jC (.bool false) .nilFunc (.string ⟨#[50,48,48]⟩)
      exact bodyPost_ret (v:=.agg #[.bool false,.nilFunc,.string ⟨#[50,48,48]⟩]) (by simp[results,results208,go_sem,kk.c0,kk.c1,kk.c2]) rfl ⟨by first|rfl|(rw[TY];rfl),⟨lz,q1,[⟨f,b,o,cap⟩],q2,rfl,λu hu=>(by simp at hu;subst hu;exact OT.out),q5,q6⟩,q3,q4⟩
end
end Go.Proofs.YtenaepdmlknlcaaGreatDoor
