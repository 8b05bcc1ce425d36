import Derived.Test.YtenaepdmlknlcaaGreatDoorG24
import Derived.Test.YtenaepdmlknlcaaGreatDoorG25
open Go.Proofs.Tryz
set_option maxRecDepth 100000
set_option maxHeartbeats 8000000
namespace Go.Proofs.YtenaepdmlknlcaaGreatDoor
section
open Go.Conc Go.RowKit Go.Shelf
theorem BV(A o c cap s r:Nat)(w:World)(hc:w.cell? ⟨A,o,none⟩=some (.chan (some c)))(hch:w.heap[c]? =some (.chan cap #[] false s r false)):
  Calls prog 119 #[.pointer (some ⟨A,o,none⟩)] w λe w'=>e=.returned (.bool false)/\w'=w:=by
 refine calls_of_loneTo λcs=>?_
 have e:Frame.enter prog 119 #[.pointer (some ⟨A,o,none⟩)] .normal=(base 119).at ⟨#[.pointer (some ⟨A,o,none⟩),undef,undef,undef,undef,undef,undef,undef,undef,undef,undef,undef,undef,undef,undef,undef,undef,undef],[]⟩ [.code (Tryz.f119.body.getD .skip)]:=by
  simp[Frame.enter,Frame.at,func119,base,Tryz.f119]
 rw[e]
 refine LoneTo.goes (n:=12) ?_
 simp only[Tryz.f119,Option.getD_some]
 s_c stepG_seq
 s_reg
 s_op
 s_c stepG_region_end
 s_c stepG_seq
 s_reg
 s_op
 s_op
 s_op
 s_op
 s_c stepG_region_end
 s_c stepG_seq
 s_stop
 refine LoneTo.goes (n:=1) ?_
 s_reg
 s_stop
 refine LoneTo.step (step_lone_select_default (c:=c) (z:=.string ⟨#[]⟩) (cap:=cap) (s:=s) (r:=r) (tm:=false) (stepG_comm (cases:=#[rcase c (.string ⟨#[]⟩)]) (blocking:=false) (shape:=.select) (w':=w) rfl rfl (by decide) (by simp[go_sem,execOp,rcase,Act.eval])) hch) ?_
 rw[Frame.finish_at]
 walk_nrm
 refine LoneTo.goes (n:=12) ?_
 s_op
 s_op
 s_c stepG_region_end
 s_c stepG_block
 s_cond false
 s_c stepG_seq
 s_reg
 s_op
 s_c stepG_region_end
 s_c stepG_ret'
 s_stop
 exact LoneTo.done ⟨.returned (.bool false),_,rfl,⟨rfl,rfl⟩,rfl,rfl,rfl,rfl,_,func119,by simp[results,Tryz.f119,Frame.at]⟩
end
section
open Go.RowKit Go.Shelf
theorem qX(A o mo:Nat)(v:Value)(xs:List Value)(B:World->Prop)(R:World->ByteArray->World->Prop)(w:World)(hn:w.cell? ⟨A,o+1,none⟩=some .nilFunc)(hl:xs.length+1<=8000000)
  (hB:Calls prog 119 #[.pointer (some ⟨A,o,none⟩)] w λe w'=>e=.returned (.bool true)/\B w')
  (hX:∀w0,B w0->∃f b,w0.cell? ⟨A,o+1,none⟩=some (.func (.func f) b #[])/\Enters f/\Calls prog f (b.push (.pointer (some ⟨A,mo,none⟩))) w0 λe w'=>∃an,e=.returned (.agg #[.bool false,.nilFunc,.string an])/\R w0 an w'/\(w'.cell? ⟨A,o+1,none⟩=some (.func (.func f) b #[])/\w'.frozen? ⟨A,o+1,none⟩=false)/\jM w' A o v xs):
  Calls prog 77 #[.pointer (some ⟨A,o,none⟩),.pointer (some ⟨A,mo,none⟩)] w λe w'=>e=.returned (.bool true)/\∃w0,B w0/\∃an w1 v',R w0 an w1/\jM w' A o v' (xs++[.string an])/\(∀k,v'.ownBlock=some k->v.ownBlock=some k\/w1.heap.size<=k)/\w'.cell? ⟨A,o+1,none⟩=some .nilFunc/\w'.frozen? ⟨A,o+1,none⟩=false/\Fr (λc j=>(c=A/\(j=o+1\/j=o+2))\/v.ownBlock=some c) w1 w':=by
 have HB:Hid _:=hB
 have HX:Hid _:=hX
 have Vd:=mZ
 have HL:=af hl
 obtain⟨i9,eH,hz0,hz1,hz2⟩:=info_parts y6
 have HI:Hid (prog.info? 9=some i9/\i9.zero=some (.string ⟨#[]⟩)/\i9.size=1/\i9.bytes=16):=⟨eH,hz0,hz1,hz2⟩
 clear hB hX hl eH hz0 hz1 hz2
 go_enter func77,ntmps77
 go_wp2_with (first
  |(go_at_call 119;refine aq HB.out ?_;rintro e w0 ⟨rfl,hB0⟩;dsimp only;obtain⟨f,b,p1,hE,hC⟩:=HX.out w0 hB0;have heq:=mY (.func f) b #[];have UK:=hE (b.push (.pointer (some ⟨A,mo,none⟩))) w0;have HC:Hid _:=hC;clear hE hC)
  |(refine aq HC.out ?_;rintro e w1 ⟨an,rfl,hR1,⟨q1,q2⟩,⟨q3,q4,q5,q6,q7⟩⟩;dsimp only;have HN:=af q6;have Uj:Hid ((w1.setCell ⟨A,o+1,none⟩ .nilFunc).ownsRow 0 9 1 v xs.length xs):=bD (jQ A w1 (o+1) _) q5 (λk i hk e=>q6 (hk.trans (congrArg some e)));have mH:A<w1.heap.size:=dz w1 _ q1;clear q5 q6 q7))
 go_region_law (refine jm rfl (.tmp 38) (.tmp 41) 79 rfl 9 i9 (.string ⟨#[]⟩) 1 16 underlying79 HI.out.1 HI.out.2.1 HI.out.2.2.1 HI.out.2.2.2 rfl (by decide) v xs.length xs rfl ((Uj.out.alloc _).alloc _) ⟨w1.heap.size+1,0,none⟩ 1 1 [.string an] rfl rfl (λj u hj=>by
    rw[addr_add]
    match j,hj with
    |0,hj=>simp at hj;subst hj;simp[go_sem]
    |j+1,hj=>simp at hj) (λu hu=>by simp at hu;subst hu;rfl) (by have:=HL.out;unfold maxLen;omega) (by have:=HL.out;omega) ?_;intro v3 w3 bp hfr3 ij;obtain⟨g3,c3,rfl,_,_⟩:=dc bp;have kj:Hid _:=bp;have KS:Hid _:=hfr3;have Q9:w3.cell? ⟨A,o+2,none⟩=some v:=((ij.cell A (o+2) (by simp;omega) (λe=>HN.out e)).trans (by simp[go_sem,mH,q3]));have f3':w3.frozen? ⟨A,o+2,none⟩=false:=((ij.frozen A (o+2) (by simp;omega) (λe=>HN.out e)).trans (by simp[go_sem,mH,q4]));have Yg:w3.cell? ⟨A,o+1,none⟩=some .nilFunc:=((ij.cell A (o+1) (by simp;omega) (λe=>HN.out e)).trans (by simp[go_sem,mH,q1]));have TL:w3.frozen? ⟨A,o+1,none⟩=false:=((ij.frozen A (o+1) (by simp;omega) (λe=>HN.out e)).trans (by simp[go_sem,mH,q2]));clear bp hfr3)
 all_goals
  have hfr:∀k,(some g3:Option Nat)=some k->v.ownBlock=some k\/w1.heap.size+1+1<=k:=λk hk=>by
   have:=KS.out k hk
   simpa using this
  have DV:g3≠A:=λe=>(hfr A (by rw[e])).elim HN.out (λh=>by omega)
  go_wp2
  go_ret
  refine⟨rfl,w0,hB0,an,w1,_,hR1,⟨cell_eq Q9 _,by rw[World.frozen?_setCell];exact f3',?_,λe=>DV (Option.some.inj e),by rw[List.length_append];exact HL.out⟩,λk hk=>(hfr k hk).imp _root_.id (λh=>by omega),?_,?_,?_⟩
  ·rw[List.length_append]
   exact bD (jQ A w3 (o+2) _) kj.out (λc _ hc e=>by have h1:g3=c:=Option.some.inj hc;have h2:c=A:=e;exact DV (h1.trans h2))
  ·exact(aK _ _ (.inr (by omega))).trans Yg
  ·rw[World.frozen?_setCell];exact TL
  ·exact((((((Fr.refl _ w1).setCell (b:=A) (i:=o+1) (.inl (.inl ⟨rfl,.inl rfl⟩)) _).alloc _).alloc _).drew).trans (ij.mono λc i e=> .inr e)).setCell (b:=A) (i:=o+2) (.inl (.inl ⟨rfl,.inr rfl⟩)) _
def eP:List Tl->List Value
 |[]=>[]
 |t::ts=> .int .i64 t.z::.int .i64 t.c::.int .i64 t.r::eP ts
theorem qG(a b:List Tl):eP (a++b)=eP a++eP b:=by
 induction a with
 |nil=>rfl
 |cons t ts ih=>simp[eP,ih]
theorem MN:(prog.info? 24).map (λi=>(i.zero,i.size,i.bytes))=some (some (.agg #[.int .i64 0,.int .i64 0,.int .i64 0]),3,24):=by kernel_rfl
theorem Iq(A so q:Nat)(v:Value)(ks:List Kp)(w:World)(hq:q<4)(h:gu w A (so+1+q*2) v ks):
  Calls prog 51 #[.pointer (some ⟨A,so,none⟩),.int .i64 (q:Int)] w λe w'=>∃v':Value,e=.returned v'/\w'.ownsRow w.heap.size 24 3 v' ks.length (eP (ks.map (·.t)))/\Below w.heap.size w w':=by
 obtain⟨hc,hf,own,hne,hlt⟩:=h
 have j_:(q:Int)<4:=by omega
 have wB:(0:Int)<=(q:Int):=by omega
 obtain⟨a,cap,rfl,ha,hcap⟩:∃(a:Option Addr) (cap:Nat),v=.slice a ks.length cap/\(ks=[]\/∃g,a=some ⟨g,0,none⟩/\g<w.heap.size/\mj w g ks)/\ks.length<=cap:=by
  rcases own.2 with⟨e1,e2⟩|⟨g,cap,cur,e1,_,e3,e4,_⟩
  ·exact⟨none,0,by rw[e2];exact e1,.inl (List.length_eq_zero_iff.1 e2),by omega⟩
  ·subst e1
   exact⟨_,cap,rfl,.inr ⟨g,rfl,(Array.getElem?_eq_some_iff.1 e3).1,mj.own own⟩,e4⟩
 obtain⟨n,hn⟩:∃n,ks.length=n:=⟨_,rfl⟩
 rw[hn]at hc hcap
 have Hn:Hid (n=ks.length):=hn.symm
 have HA:=af ha
 have MB:n<=1000:=by omega
 obtain⟨i24,eH,hz0,hz1,hz2⟩:=info_parts MN
 have HI:Hid (prog.info? 24=some i24/\i24.zero=some (.agg #[.int .i64 0,.int .i64 0,.int .i64 0])/\i24.size=3/\i24.bytes=24):=⟨eH,hz0,hz1,hz2⟩
 rw[hn]
 clear own hne hf hn ha hlt eH hz0 hz1 hz2
 go_enter func51,ntmps51
 go_wp2
 go_loopw [5,16] (λout i wr=>∃k:Nat,k<=n/\i=.int .i64 k/\wr.ownsRow w.heap.size 24 3 out k (eP ((ks.take k).map (·.t)))/\Below w.heap.size w wr) (λ_ i _=>n-(intOf i).toNat)
 case atStart=>exact⟨0,Nat.zero_le _,rfl,World.ownsRow_nil _ _ _ _,bK⟩
 case round=>
  obtain⟨k,hk,rfl,hown,hB⟩:=hrel
  have rP:=af hown
  clear hown
  by_cases hlt:k<n
  ·obtain⟨x,hx⟩:∃x,ks[k]? =some x:=⟨ks[k]'(by have:=Hn.out;omega),List.getElem?_eq_getElem _⟩
   rcases HA.out with h|⟨g,rfl,hg,Vl⟩
   ·rw[h]at hx;cases hx
   obtain⟨p0,p1,p2,p3⟩:=Vl k x hx
   have r0:=(hB.cell (p:=⟨g,k*4,none⟩) hg).trans p0
   have r1:=(hB.cell (p:=⟨g,k*4+1,none⟩) hg).trans p1
   have r2:=(hB.cell (p:=⟨g,k*4+2,none⟩) hg).trans p2
   have r3:=(hB.cell (p:=⟨g,k*4+3,none⟩) hg).trans p3
   have HX:Hid (eP ((ks.take (k+1)).map (·.t))=eP ((ks.take k).map (·.t))++[.int .i64 x.t.z,.int .i64 x.t.c,.int .i64 x.t.r]):=by
    show eP _=_
    rw[List.take_add_one,hx,List.map_append,qG];rfl
   have lU:(k:Int)<(n:Int):=by omega
   have hk0:(0:Int)<=(k:Int):=by omega
   clear p0 p1 p2 p3 Vl hx
   go_wp2_with (at_builtin;refine wpList_append_own _ rfl (.tmp 20) (.tmp 23) 80 rfl w.heap.size 24 i24 (.agg #[.int .i64 0,.int .i64 0,.int .i64 0]) 3 24 underlying80 HI.out.1 HI.out.2.1 HI.out.2.2.1 HI.out.2.2.2 rfl (by decide) u5 k (eP ((ks.take k).map (·.t))) rfl ((rP.out.alloc _).alloc _) ⟨wr.heap.size+1,0,none⟩ 1 1 [.int .i64 x.t.z,.int .i64 x.t.c,.int .i64 x.t.r] rfl rfl (λj u hj=>by
    rw[addr_add]
    match j,hj with
    |0,hj=>simp at hj;subst hj;simp[go_sem]
    |1,hj=>simp at hj;subst hj;simp[go_sem]
    |2,hj=>simp at hj;subst hj;simp[go_sem]
    |j+3,hj=>simp at hj) (λu hu=>by simp at hu;rcases hu with hu|hu|hu<;>(subst hu;rfl)) (by unfold maxLen;omega) (by omega) (by have:=hB.size;simp;omega) ?_;intro v3 w3 bp iH _;have gZ:Below w.heap.size w w3:=(((hB.alloc hB.size _).alloc (by have:=hB.size;simp;omega) _)).grown iH (by have:=hB.size;simp;omega) (λk hk=>(rP.out.lt k hk).1);have kj:Hid _:=bp;clear bp iH)
   go_roundw
   case rel=>exact⟨k+1,by omega,by go_num,by rw[HX.out];exact kj.out,gZ⟩
   case measure=>simp[intOf];omega
  ·obtain rfl:k=n:=by omega
   have hd:decide ((k:Int)<(k:Int))=false:=by simp
   have HT:Hid (ks.take k=ks):=by show ks.take k=ks;rw[Hn.out,List.take_length]
   have hown:=rP.out
   rw[HT.out]at hown
   have BF:Hid _:=hown
   clear rP hown
   obtain⟨u,rfl⟩:∃u,u=u5:=⟨_,rfl⟩
   go_wp2
   go_ret
   exact⟨_,rfl,BF.out,hB⟩
def gh(F:FG):List FG->List FG
 |[]=>[F]
 |g::l=>if F.f.id<g.f.id then F::g::l else g::gh F l
theorem sG(F:FG):∀l:List FG,(gh F l).map (·.f)=AV F.f (l.map (·.f))
 |[]=>rfl
 |g::l=>by
  unfold gh
  rw[List.map_cons,AV]
  split
  ·rfl
  ·rw[List.map_cons,sG F l]
def sw(F:FG)(l:List FG):Bool:=l.any λg=>decide (F.f.id<g.f.id)
theorem GR{F:FG}:∀{l:List FG} (y:FG),sw F l=true->gh F (l++[y])=gh F l++[y]
 |[],y,h=>by cases h
 |g::l,y,h=>by
  show gh F (g::(l++[y]))=_
  rw[gh,gh]
  by_cases e:F.f.id<g.f.id
  ·rw[if_pos e,if_pos e];rfl
  ·rw[if_neg e,if_neg e,GR y (l:=l) (by unfold sw at h⊢;rw[List.any_cons,decide_eq_false e,Bool.false_or]at h;exact h)]
   rfl
theorem wH{F:FG}:∀{l:List FG} (t:List FG),sw F l=false->gh F (l++t)=l++gh F t
 |[],t,_=>rfl
 |g::l,t,h=>by
  unfold sw at h
  rw[List.any_cons,Bool.or_eq_false_iff]at h
  show gh F (g::(l++t))=_
  rw[gh,if_neg (of_decide_eq_false h.1),wH t h.2]
  rfl
variable {k:Nat}
theorem yR{id:Int}{l:List FG}{g:FG}(h:l[k]? =some g):(l.take (k+1)).filter (iW id)=(l.take k).filter (iW id)++(if g.f.id=id then[]else[g]):=by
 rw[List.take_add_one,h,List.filter_append]
 congr 1
 by_cases e:g.f.id=id<;>simp[iW,e]
def fY(id:Int)(p:Option FG)(l:List FG):List FG:=match p with
 |none=>l.filter (iW id)
 |some F=>gh F (l.filter (iW id))
theorem Ch(id:Int)(gs:List FG):(gs.filter (iW id)).map (·.f)=(gs.map (·.f)).filter λf=>!(f.id==id):=by
 rw[List.filter_map];rfl
theorem IV(id:Int)(p:Option FG)(l:List FG):(fY id p l).map (·.f)=mF (l.map (·.f)) id (p.map (·.f)):=by
 unfold fY mF
 cases p with
 |none=>exact Ch id l
 |some F=>show(gh F _).map _=AV F.f _;rw[sG,Ch]
theorem bG(w:World)(cs:Array Value)(t:TypeId)(i:Nat):(w.alloc (.cells cs t)).cell? ⟨w.heap.size,i,none⟩=cs[i]? :=by
 rw[World.cell?_alloc_new]
variable {w:World} {b0 b1 size n:Nat} {e:TypeId} {xs:List Value}
theorem iX{v:Value}(h:w.ownsRow b1 e size v n xs)(hb:b0<=b1):w.ownsRow b0 e size v n xs:=
 ⟨h.1,h.2.imp id λ⟨g,cap,cur,e1,e2,e3⟩=>⟨g,cap,cur,e1,Nat.le_trans hb e2,e3⟩⟩
theorem Cv{id:Int}{l:List FG}{g:FG}(h:l[k]? =some g):eV id ((l.take (k+1)).map (·.f))=(eV id ((l.take k).map (·.f))||g.f.id==id):=by
 unfold eV
 rw[List.take_add_one,h,List.map_append,List.any_append]
 simp
def uX(id:Int)(p:Option FG)(gs:List FG)(w:World)(e:Ending)(w':World):Prop:=
 ∃(a:Option Addr) (cap:Nat),e=.returned (.tuple #[.slice a (fY id p gs).length cap,.string (pM (eV id (gs.map (·.f))) (p.map (·.f)))])/\w'.ownsRow w.heap.size 32 5 (.slice a (fY id p gs).length cap) (fY id p gs).length (cu (fY id p gs))/\Below w.heap.size w w'
theorem JS(id:Int)(v:Value)(gs:List FG)(hl:gs.length<=900)(w:World)(h:ak w 0 32 5 v gs.length (cu gs)):
  Calls prog 150 #[v,.agg #[.int .i64 3,.int .i64 0,.int .i64 0,.int .i64 0,.string ⟨#[]⟩,.int .i64 id,.int .i64 0,.int .i64 0,.int .i64 0,.slice none 0 0]] w (uX id none gs w):=by
 have HK:=af h
 obtain⟨a,cap,rfl,hcap,hg⟩:=h.form
 have Hg:=af hg
 obtain⟨n,hn⟩:∃n,gs.length=n:=⟨_,rfl⟩
 have Hn:=af hn
 rw[hn]at HK hcap hl
 rw[hn]
 obtain⟨i32,eH,hz0,hz1,hz2⟩:=info_parts E9
 have HI:Hid (prog.info? 32=some i32/\i32.zero=some (.agg #[.int .i64 0,.int .i64 0,.int .i64 0,.int .i64 0,.slice none 0 0])/\i32.size=5/\i32.bytes=56):=⟨eH,hz0,hz1,hz2⟩
 clear h hg hn eH hz0 hz1 hz2
 have hB0:∀o:Obj,Below w.heap.size w (w.alloc o):=λo=>aU
 go_enter func150,ntmps150
 go_wp2
 go_loopw [6,7,8,9] (λov pv tv i wr=>∃(k:Nat) (va:Option Addr) (vc:Nat),k<=n/\ov=.slice va ((gs.take k).filter (iW id)).length vc/\pv=.bool true/\tv=.bool (eV id ((gs.take k).map (·.f)))/\i=.int .i64 k/\wr.ownsRow (w.heap.size+1) 32 5 (.slice va ((gs.take k).filter (iW id)).length vc) ((gs.take k).filter (iW id)).length (cu ((gs.take k).filter (iW id)))/\Below (w.heap.size+1) (w.alloc (.cells #[.int .i64 3,.int .i64 0,.int .i64 0,.int .i64 0,.string ⟨#[]⟩,.int .i64 id,.int .i64 0,.int .i64 0,.int .i64 0,.slice none 0 0] 220)) wr) (λ_ _ _ i _=>n-(intOf i).toNat)
 case atStart=>exact⟨0,none,0,Nat.zero_le _,rfl,rfl,rfl,rfl,World.ownsRow_nil _ _ _ _,bK⟩
 case round=>
  obtain⟨k,va,vc,hk,rfl,rfl,rfl,rfl,ho,hb⟩:=hrel
  have Be:Below w.heap.size w wr:=(hB0 _).trans (hb.mono (by omega))
  have r5:wr.cell? ⟨w.heap.size,5,none⟩=some (.int .i64 id):=(hb.cell (p:=⟨w.heap.size,5,none⟩) (by show w.heap.size<w.heap.size+1;omega)).trans (by simp[go_sem])
  have r0:wr.cell? ⟨w.heap.size,0,none⟩=some (.int .i64 3):=(hb.cell (p:=⟨w.heap.size,0,none⟩) (by show w.heap.size<w.heap.size+1;omega)).trans (by simp[go_sem])
  have T4:w.heap.size+1<=wr.heap.size:=by have:=hb.size;simpa using this
  have HO:=af ho
  have HB:=af hb
  have RF:=af Be
  have KL:Hid (ak wr 0 32 5 (.slice a n cap) n (cu gs)):=HK.out.below Be
  have hmk:((gs.take k).filter (iW id)).length<=k:=Nat.le_trans (List.length_filter_le _ _) (by rw[List.length_take];omega)
  clear ho hb Be
  by_cases hlt:k<n
  ·obtain⟨x,hx⟩:∃x,gs[k]? =some x:=⟨_,List.getElem?_eq_getElem (by rw[Hn.out];exact hlt)⟩
   obtain⟨g,off,rfl,_⟩:=Hg.out (by rw[Hn.out];omega)
   have Jm:∀j u,(LP x)[j]? =some u->wr.cell? ⟨g,off+k*5+j,none⟩=some u:=λj u hu=>by
    have hj:j<5:=(List.getElem?_eq_some_iff.1 hu).1
    rw[Nat.add_assoc]
    exact(KL.out.cell (j:=k*5+j) (by omega)).trans ((m_ hx j hj).trans hu)
   have x0:wr.cell? ⟨g,off+k*5,none⟩=some (.int .i64 x.f.id):=Jm 0 _ rfl
   have x1:=Jm 1 _ rfl
   have x2:=Jm 2 _ rfl
   have x3:=Jm 3 _ rfl
   have x4:=Jm 4 _ rfl
   have lU:(k:Int)<(n:Int):=by omega
   have hk0:¬(k:Int)<0:=by omega
   have HH:Hid (eV id ((gs.take (k+1)).map (·.f))=(eV id ((gs.take k).map (·.f))||x.f.id==id)):=Cv hx
   have HS:=yR (id:=id) hx
   clear Jm hx
   by_cases he:x.f.id=id
   ·rw[if_pos he,List.append_nil]at HS
    have HS':=af HS
    have PW:(x.f.id==id)=true:=by simpa using he
    rw[PW,Bool.or_true]at HH
    clear HS
    go_wp2_with fail
    go_quiet (fail)
    go_wp2
    go_roundw
    case rel=>exact⟨k+1,va,vc,by omega,by rw[HS'.out],rfl,by rw[HH.out],by go_num,by rw[HS'.out];exact bD (M:=λ_ _=>False) ((Fr.refl _ _).drewN _) HO.out (λ_ _ _ e=>e),Below.iF HB.out _⟩
    case measure=>simp[intOf];omega
   ·rw[if_neg he]at HS
    have PW:(x.f.id==id)=false:=by simpa using he
    rw[PW,Bool.or_false]at HH
    obtain⟨m,hm⟩:∃m,((gs.take k).filter (iW id)).length=m:=⟨_,rfl⟩
    have xX:Hid (((gs.take (k+1)).filter (iW id)).length=m+1):=by show _=_;rw[HS,List.length_append,hm];rfl
    have rO:Hid (cu ((gs.take (k+1)).filter (iW id))=cu ((gs.take k).filter (iW id))++[.int .i64 x.f.id,.int .i64 x.f.kd,.int .i64 x.f.ht,.int .i64 x.f.col,.slice x.a x.f.ps.length x.cap]):=by show _=_;rw[HS,fM,jK];rfl
    rw[hm]at HO hmk
    rw[hm]
    clear HS hm
    go_wp2_with fail
    go_quiet (fail)
    go_wp2_with fail
    go_quiet (fail)
    go_wp2_with (at_builtin;refine wpList_append_own _ rfl _ _ 22 rfl (w.heap.size+1) 32 i32 (.agg #[.int .i64 0,.int .i64 0,.int .i64 0,.int .i64 0,.slice none 0 0]) 5 56 underlying22 HI.out.1 HI.out.2.1 HI.out.2.2.1 HI.out.2.2.2 rfl (by decide) (.slice va m vc) m _ rfl (HO.out.iE _ _) ⟨wr.heap.size,0,none⟩ 1 1 [.int .i64 x.f.id,.int .i64 x.f.kd,.int .i64 x.f.ht,.int .i64 x.f.col,.slice x.a x.f.ps.length x.cap] rfl rfl (λj u hj=>by rw[addr_add,Nat.zero_add,lY];simpa using hj) (λu hu=>by simp only[List.mem_cons,List.not_mem_nil,or_false]at hu;rcases hu with hu|hu|hu|hu|hu<;>(rw[hu];rfl)) (by unfold maxLen;omega) (by omega) (by simp;omega) ?_;intro v5 w5 a_ bf _;obtain⟨a5,c5,rfl,_,_⟩:=aF a_;have uE:Hid (Below (w.heap.size+1) _ w5):=HB.out.trans ((cJ _ _ _).mono' T4|>.grown bf (by simp;omega) (λb hb=>(HO.out.lt b hb).1));have uG:=af a_;clear a_ bf)
    go_roundw
    case rel=>exact⟨k+1,a5,c5,by omega,by rw[xX.out],rfl,by rw[HH.out,List.map_take],by go_num,by rw[xX.out,rO.out];exact uG.out,uE.out⟩
    case measure=>simp[intOf];omega
  ·have lU:¬(k:Int)<(n:Int):=by omega
   obtain rfl:k=n:=by omega
   have hall:gs.take k=gs:=List.take_of_length_le (by rw[Hn.out];exact aM)
   rw[hall]at HO
   rw[hall]
   obtain⟨hs,SL⟩:∃b,eV id (gs.map (·.f))=b:=⟨_,rfl⟩
   have Us:=af SL
   rw[SL]
   clear hall SL hmk
   cases hs with
   |true=>
    go_wp2
    go_ret2
    exact⟨va,vc,by rw[Us.out];rfl,iX HO.out (by omega),RF.out⟩
   |false=>
    go_wp2
    go_ret2
    exact⟨va,vc,by rw[Us.out];rfl,iX HO.out (by omega),RF.out⟩
theorem Jf(F:FG)(l:List FG)(x:FG):sw F (l++[x])=(sw F l||decide (F.f.id<x.f.id)):=by
 unfold sw
 rw[List.any_append]
 simp
theorem JT(F:FG)(v:Value)(gs:List FG)(hl:gs.length<=900)(w:World)(h:ak w 0 32 5 v gs.length (cu gs)):
  Calls prog 150 #[v,.agg #[.int .i64 2,.int .i64 0,.int .i64 0,.int .i64 0,.string ⟨#[]⟩,.int .i64 F.f.id,.int .i64 F.f.kd,.int .i64 F.f.ht,.int .i64 F.f.col,.slice F.a F.f.ps.length F.cap]] w (uX F.f.id (some F) gs w):=by
 have HK:=af h
 obtain⟨a,cap,rfl,hcap,hg⟩:=h.form
 have Hg:=af hg
 obtain⟨n,hn⟩:∃n,gs.length=n:=⟨_,rfl⟩
 have Hn:=af hn
 rw[hn]at HK hcap hl
 rw[hn]
 obtain⟨i32,eH,hz0,hz1,hz2⟩:=info_parts E9
 have HI:Hid (prog.info? 32=some i32/\i32.zero=some (.agg #[.int .i64 0,.int .i64 0,.int .i64 0,.int .i64 0,.slice none 0 0])/\i32.size=5/\i32.bytes=56):=⟨eH,hz0,hz1,hz2⟩
 clear h hg hn eH hz0 hz1 hz2
 have hB0:∀o:Obj,Below w.heap.size w (w.alloc o):=λo=>aU
 obtain⟨L,hL⟩:∃L:Nat->List FG,∀k,L k=(gs.take k).filter (iW F.f.id):=⟨_,λ_=>rfl⟩
 have HL:=af hL
 obtain⟨U,hU⟩:∃U:Nat->List FG,∀k,U k=if sw F (L k)=true then gh F (L k)else L k:=⟨_,λ_=>rfl⟩
 have HU:=af hU
 have HUl:Hid (∀k,(U k).length<=k+1):=λk=>by
  have h1:(L k).length<=k:=by rw[HL.out];exact Nat.le_trans (List.length_filter_le _ _) (by rw[List.length_take];omega)
  rw[HU.out]
  split
  ·have:=congrArg List.length (sG F (L k))
   have h2:=(qL F.f ((L k).map (·.f))).length_eq
   rw[List.length_map]at this
   rw[this,h2,List.length_append,List.length_map]
   simp;omega
  ·omega
 clear hL hU
 go_enter func150,ntmps150
 go_wp2
 go_loopw [6,7,8,9] (λov pv tv i wr=>∃(k:Nat) (va:Option Addr) (vc:Nat),k<=n/\ov=.slice va (U k).length vc/\pv=.bool (sw F (L k))/\tv=.bool (eV F.f.id ((gs.take k).map (·.f)))/\i=.int .i64 k/\wr.ownsRow (w.heap.size+1) 32 5 (.slice va (U k).length vc) (U k).length (cu (U k))/\Below (w.heap.size+1) (w.alloc (.cells #[.int .i64 2,.int .i64 0,.int .i64 0,.int .i64 0,.string ⟨#[]⟩,.int .i64 F.f.id,.int .i64 F.f.kd,.int .i64 F.f.ht,.int .i64 F.f.col,.slice F.a F.f.ps.length F.cap] 220)) wr) (λ_ _ _ i _=>n-(intOf i).toNat)
 case atStart=>
  have e0:L 0=[]:=by rw[HL.out];rfl
  have u0:U 0=[]:=by rw[HU.out,e0];rfl
  exact⟨0,none,0,Nat.zero_le _,by rw[u0];rfl,by rw[e0];rfl,rfl,rfl,by rw[u0];exact World.ownsRow_nil _ _ _ _,bK⟩
 case round=>
  obtain⟨k,va,vc,hk,rfl,rfl,rfl,rfl,ho,hb⟩:=hrel
  have Be:Below w.heap.size w wr:=(hB0 _).trans (hb.mono (by omega))
  have hcr:∀i u,([.int .i64 2,.int .i64 0,.int .i64 0,.int .i64 0,.string ⟨#[]⟩,.int .i64 F.f.id,.int .i64 F.f.kd,.int .i64 F.f.ht,.int .i64 F.f.col,.slice F.a F.f.ps.length F.cap]:List Value)[i]? =some u->wr.cell? ⟨w.heap.size,i,none⟩=some u:=λi u hi=>(hb.cell (p:=⟨w.heap.size,i,none⟩) (by show w.heap.size<w.heap.size+1;omega)).trans (by rw[World.cell?_alloc_new];simpa using hi)
  have r0:=hcr 0 _ rfl
  have r5:=hcr 5 _ rfl
  have r6:=hcr 6 _ rfl
  have r7:=hcr 7 _ rfl
  have r8:=hcr 8 _ rfl
  have r9:=hcr 9 _ rfl
  have T4:w.heap.size+1<=wr.heap.size:=by have:=hb.size;simpa using this
  have HO:=af ho
  have HB:=af hb
  have RF:=af Be
  have hmk:=HUl.out k
  clear ho hb hcr
  by_cases hlt:k<n
  ·obtain⟨x,hx⟩:∃x,gs[k]? =some x:=⟨_,List.getElem?_eq_getElem (by rw[Hn.out];exact hlt)⟩
   obtain⟨g,off,rfl,_⟩:=Hg.out (by rw[Hn.out];omega)
   have HXc:Hid (∀W:World,Below w.heap.size w W->∀j u,(LP x)[j]? =some u->W.cell? ⟨g,off+k*5+j,none⟩=some u):=λW hW j u hu=>by
    have hj:j<5:=(List.getElem?_eq_some_iff.1 hu).1
    rw[Nat.add_assoc]
    exact((HK.out.below hW).cell (j:=k*5+j) (by omega)).trans ((m_ hx j hj).trans hu)
   have Jm:=HXc.out wr Be
   have x0:wr.cell? ⟨g,off+k*5,none⟩=some (.int .i64 x.f.id):=Jm 0 _ rfl
   have x1:=Jm 1 _ rfl
   have x2:=Jm 2 _ rfl
   have x3:=Jm 3 _ rfl
   have x4:=Jm 4 _ rfl
   have lU:(k:Int)<(n:Int):=by omega
   have hk0:¬(k:Int)<0:=by omega
   have HH:Hid (eV F.f.id ((gs.take (k+1)).map (·.f))=(eV F.f.id ((gs.take k).map (·.f))||x.f.id==F.f.id)):=Cv hx
   have HS:=yR (id:=F.f.id) hx
   rw[<-HL.out,<-HL.out]at HS
   clear Jm hx Be
   by_cases he:x.f.id=F.f.id
   ·rw[if_pos he,List.append_nil]at HS
    have HLe:=af HS
    have HUe:Hid (U (k+1)=U k):=by show U (k+1)=U k;rw[HU.out,HU.out k,HS]
    have PW:(x.f.id==F.f.id)=true:=by simpa using he
    rw[PW,Bool.or_true]at HH
    clear HS
    go_wp2_with fail
    go_quiet (fail)
    go_wp2
    go_roundw
    case rel=>exact⟨k+1,va,vc,by omega,by rw[HUe.out],by rw[HLe.out],by rw[HH.out],by go_num,by rw[HUe.out];exact bD (M:=λ_ _=>False) ((Fr.refl _ _).drewN _) HO.out (λ_ _ _ e=>e),Below.iF HB.out _⟩
    case measure=>simp[intOf];omega
   ·rw[if_neg he]at HS
    have PW:(x.f.id==F.f.id)=false:=by simpa using he
    rw[PW,Bool.or_false]at HH
    have HG:sw F (L (k+1))=(sw F (L k)||decide (F.f.id<x.f.id)):=by rw[HS,Jf]
    obtain⟨m,hm⟩:∃m,(U k).length=m:=⟨_,rfl⟩
    have Hm:=af hm
    rw[hm]at HO hmk
    rw[hm]
    clear hm
    cases hp:sw F (L k)with
    |true=>
     rw[hp,Bool.true_or]at HG
     have Ug:=af HG
     have Mc:U (k+1)=U k++[x]:=by rw[HU.out,HG,if_pos rfl,HS,GR x hp,HU.out k,hp,if_pos rfl]
     have xX:Hid ((U (k+1)).length=m+1):=by show _=_;rw[Mc,List.length_append,Hm.out];rfl
     have rO:Hid (cu (U (k+1))=cu (U k)++[.int .i64 x.f.id,.int .i64 x.f.kd,.int .i64 x.f.ht,.int .i64 x.f.col,.slice x.a x.f.ps.length x.cap]):=by show _=_;rw[Mc,fM,jK];rfl
     clear Mc HS HG hp
     go_wp2_with fail
     go_quiet (fail)
     go_wp2_with fail
     go_quiet (fail)
     go_wp2_with (first|(at_builtin;refine wpList_append_own _ rfl _ _ 22 rfl (w.heap.size+1) 32 i32 (.agg #[.int .i64 0,.int .i64 0,.int .i64 0,.int .i64 0,.slice none 0 0]) 5 56 underlying22 HI.out.1 HI.out.2.1 HI.out.2.2.1 HI.out.2.2.2 rfl (by decide) (.slice va m vc) m _ rfl (HO.out.iE _ _) ⟨wr.heap.size,0,none⟩ 1 1 [.int .i64 x.f.id,.int .i64 x.f.kd,.int .i64 x.f.ht,.int .i64 x.f.col,.slice x.a x.f.ps.length x.cap] rfl rfl (λj u hj=>by rw[addr_add,Nat.zero_add,lY];simpa using hj) (λu hu=>by simp only[List.mem_cons,List.not_mem_nil,or_false]at hu;rcases hu with hu|hu|hu|hu|hu<;>(rw[hu];rfl)) (by unfold maxLen;omega) (by omega) (by simp;omega) ?_;intro v5 w5 a_ bf _;obtain⟨a5,c5,rfl,_,_⟩:=aF a_;have uE:Hid (Below (w.heap.size+1) _ w5):=HB.out.trans ((cJ _ _ _).mono' T4|>.grown bf (by simp;omega) (λb hb=>(HO.out.lt b hb).1));have uG:=af a_;clear a_ bf))
     go_roundw
     case rel=>exact⟨k+1,a5,c5,by omega,by rw[xX.out],by rw[Ug.out],by rw[HH.out,List.map_take],by go_num,by rw[xX.out,rO.out];exact uG.out,uE.out⟩
     case measure=>simp[intOf];omega
    |false=>
     rw[hp,Bool.false_or]at HG
     have Md:U k=L k:=by rw[HU.out,hp,if_neg (by decide)]
     by_cases hlt2:F.f.id<x.f.id
     ·have hgt:x.f.id>F.f.id:=hlt2
      rw[decide_eq_true hlt2]at HG
      have Ug:=af HG
      have Mc:U (k+1)=U k++[F]++[x]:=by
       rw[HU.out,HG,if_pos rfl,HS,wH [x] hp,Md]
       rw[show gh F [x]=[F,x]by unfold gh;rw[if_pos hlt2]]
       simp
      have xX:Hid ((U (k+1)).length=m+1+1):=by show _=_;rw[Mc,List.length_append,List.length_append,Hm.out];rfl
      have rO:Hid (cu (U (k+1))=cu (U k)++[.int .i64 F.f.id,.int .i64 F.f.kd,.int .i64 F.f.ht,.int .i64 F.f.col,.slice F.a F.f.ps.length F.cap]++[.int .i64 x.f.id,.int .i64 x.f.kd,.int .i64 x.f.ht,.int .i64 x.f.col,.slice x.a x.f.ps.length x.cap]):=by show _=_;rw[Mc,fM,fM,jK,jK];rfl
      clear Mc HS HG hp Md
      go_wp2_with fail
      go_quiet (fail)
      go_wp2_with fail
      go_quiet (fail)
      go_wp2_with (first|(at_builtin;refine wpList_append_own _ rfl _ _ 22 rfl (w.heap.size+1) 32 i32 (.agg #[.int .i64 0,.int .i64 0,.int .i64 0,.int .i64 0,.slice none 0 0]) 5 56 underlying22 HI.out.1 HI.out.2.1 HI.out.2.2.1 HI.out.2.2.2 rfl (by decide) (.slice a5 (m+1) c5) (m+1) _ rfl (uG.out.alloc _) ⟨w5.heap.size,0,none⟩ 1 1 [.int .i64 x.f.id,.int .i64 x.f.kd,.int .i64 x.f.ht,.int .i64 x.f.col,.slice x.a x.f.ps.length x.cap] rfl rfl (λj u hj=>by rw[addr_add,Nat.zero_add,bG];simpa using hj) (λu hu=>by simp only[List.mem_cons,List.not_mem_nil,or_false]at hu;rcases hu with hu|hu|hu|hu|hu<;>(rw[hu];rfl)) (by unfold maxLen;omega) (by omega) (by simp;omega) ?_;intro v5 w6 a_ bf _;obtain⟨a6,c6,rfl,_,_⟩:=aF a_;have OP:Hid (Below (w.heap.size+1) _ w6):=uE.out.trans (aU.mono' hs5|>.grown bf (by simp;omega) (λb hb=>(uG.out.lt b hb).1));have XK:=af a_;clear a_ bf)|(at_builtin;refine wpList_append_own _ rfl _ _ 22 rfl (w.heap.size+1) 32 i32 (.agg #[.int .i64 0,.int .i64 0,.int .i64 0,.int .i64 0,.slice none 0 0]) 5 56 underlying22 HI.out.1 HI.out.2.1 HI.out.2.2.1 HI.out.2.2.2 rfl (by decide) (.slice va m vc) m _ rfl (HO.out.iE _ _) ⟨wr.heap.size,0,none⟩ 1 1 [.int .i64 F.f.id,.int .i64 F.f.kd,.int .i64 F.f.ht,.int .i64 F.f.col,.slice F.a F.f.ps.length F.cap] rfl rfl (λj u hj=>by rw[addr_add,Nat.zero_add,lY];simpa using hj) (λu hu=>by simp only[List.mem_cons,List.not_mem_nil,or_false]at hu;rcases hu with hu|hu|hu|hu|hu<;>(rw[hu];rfl)) (by unfold maxLen;omega) (by omega) (by simp;omega) ?_;intro v5 w5 a_ bf _;obtain⟨a5,c5,rfl,_,_⟩:=aF a_;have uE:Hid (Below (w.heap.size+1) _ w5):=HB.out.trans ((cJ _ _ _).mono' T4|>.grown bf (by simp;omega) (λb hb=>(HO.out.lt b hb).1));have uG:=af a_;have U3:Below w.heap.size w w5:=(hB0 _).trans (uE.out.mono (by omega));have hs5:w.heap.size+1<=w5.heap.size:=(by have:=uE.out.size;simpa using this);have TI:=HXc.out w5 U3;have t0:w5.cell? ⟨g,off+k*5,none⟩=some (.int .i64 x.f.id):=TI 0 _ rfl;have t1:=TI 1 _ rfl;have t2:=TI 2 _ rfl;have t3:=TI 3 _ rfl;have t4:=TI 4 _ rfl;clear TI U3;clear a_ bf))
      go_roundw
      case rel=>exact⟨k+1,a6,c6,by omega,by rw[xX.out],by rw[Ug.out],by rw[HH.out,List.map_take],by go_num,by rw[xX.out,rO.out];exact XK.out,OP.out⟩
      case measure=>simp[intOf];omega
     ·have Vf:decide (x.f.id>F.f.id)=false:=by simpa using hlt2
      have hgt:¬x.f.id>F.f.id:=hlt2
      rw[decide_eq_false hlt2]at HG
      have Ug:=af HG
      have Mc:U (k+1)=U k++[x]:=by rw[HU.out,HG,if_neg (by decide),HS,Md]
      have xX:Hid ((U (k+1)).length=m+1):=by show _=_;rw[Mc,List.length_append,Hm.out];rfl
      have rO:Hid (cu (U (k+1))=cu (U k)++[.int .i64 x.f.id,.int .i64 x.f.kd,.int .i64 x.f.ht,.int .i64 x.f.col,.slice x.a x.f.ps.length x.cap]):=by show _=_;rw[Mc,fM,jK];rfl
      clear Mc HS HG hp Md
      go_wp2_with fail
      go_quiet (fail)
      go_wp2_with fail
      go_quiet (fail)
      go_wp2_with (first|(at_builtin;refine wpList_append_own _ rfl _ _ 22 rfl (w.heap.size+1) 32 i32 (.agg #[.int .i64 0,.int .i64 0,.int .i64 0,.int .i64 0,.slice none 0 0]) 5 56 underlying22 HI.out.1 HI.out.2.1 HI.out.2.2.1 HI.out.2.2.2 rfl (by decide) (.slice va m vc) m _ rfl (HO.out.iE _ _) ⟨wr.heap.size,0,none⟩ 1 1 [.int .i64 x.f.id,.int .i64 x.f.kd,.int .i64 x.f.ht,.int .i64 x.f.col,.slice x.a x.f.ps.length x.cap] rfl rfl (λj u hj=>by rw[addr_add,Nat.zero_add,lY];simpa using hj) (λu hu=>by simp only[List.mem_cons,List.not_mem_nil,or_false]at hu;rcases hu with hu|hu|hu|hu|hu<;>(rw[hu];rfl)) (by unfold maxLen;omega) (by omega) (by simp;omega) ?_;intro v5 w5 a_ bf _;obtain⟨a5,c5,rfl,_,_⟩:=aF a_;have uE:Hid (Below (w.heap.size+1) _ w5):=HB.out.trans ((cJ _ _ _).mono' T4|>.grown bf (by simp;omega) (λb hb=>(HO.out.lt b hb).1));have uG:=af a_;clear a_ bf))
      go_roundw
      case rel=>exact⟨k+1,a5,c5,by omega,by rw[xX.out],by rw[Ug.out],by rw[HH.out,List.map_take],by go_num,by rw[xX.out,rO.out];exact uG.out,uE.out⟩
      case measure=>simp[intOf];omega
  ·have lU:¬(k:Int)<(n:Int):=by omega
   obtain rfl:k=n:=by omega
   have hall:gs.take k=gs:=List.take_of_length_le (by rw[Hn.out];exact aM)
   have hLk:L k=gs.filter (iW F.f.id):=by rw[HL.out,hall]
   have HD:Hid (fY F.f.id (some F) gs=gh F (L k)):=by show _=_;rw[hLk];rfl
   have Md:=HU.out k
   rw[hall]
   obtain⟨hs,SL⟩:∃b,eV F.f.id (gs.map (·.f))=b:=⟨_,rfl⟩
   have Us:=af SL
   rw[SL]
   obtain⟨m,hm⟩:∃m,(U k).length=m:=⟨_,rfl⟩
   have Hm:=af hm
   rw[hm]at HO hmk
   rw[hm]
   clear hall SL hm hLk
   cases hp:sw F (L k)with
   |true=>
    rw[hp,if_pos rfl]at Md
    have HDe:Hid (fY F.f.id (some F) gs=U k):=by show _=_;rw[HD.out,Md]
    clear Md HD hp
    cases hs
    all_goals
     go_wp2
     go_ret2
     exact⟨va,vc,by rw[Us.out,HDe.out,Hm.out];rfl,by rw[HDe.out,Hm.out];exact iX HO.out (by omega),RF.out⟩
   |false=>
    rw[hp,if_neg (by decide)]at Md
    have Sz:fY F.f.id (some F) gs=U k++[F]:=by rw[HD.out,Md];have:=wH (F:=F) (l:=L k) [] hp;rw[List.append_nil]at this;rw[this];rfl
    have xX:Hid ((fY F.f.id (some F) gs).length=m+1):=by show _=_;rw[Sz,List.length_append,Hm.out];rfl
    have rO:Hid (cu (fY F.f.id (some F) gs)=cu (U k)++[.int .i64 F.f.id,.int .i64 F.f.kd,.int .i64 F.f.ht,.int .i64 F.f.col,.slice F.a F.f.ps.length F.cap]):=by show _=_;rw[Sz,fM,jK];rfl
    clear Md HD hp Sz
    cases hs
    all_goals
     go_wp2_with (first|(at_builtin;refine wpList_append_own _ rfl _ _ 22 rfl (w.heap.size+1) 32 i32 (.agg #[.int .i64 0,.int .i64 0,.int .i64 0,.int .i64 0,.slice none 0 0]) 5 56 underlying22 HI.out.1 HI.out.2.1 HI.out.2.2.1 HI.out.2.2.2 rfl (by decide) (.slice va m vc) m _ rfl (HO.out.alloc _) ⟨wr.heap.size,0,none⟩ 1 1 [.int .i64 F.f.id,.int .i64 F.f.kd,.int .i64 F.f.ht,.int .i64 F.f.col,.slice F.a F.f.ps.length F.cap] rfl rfl (λj u hj=>by rw[addr_add,Nat.zero_add,bG];simpa using hj) (λu hu=>by simp only[List.mem_cons,List.not_mem_nil,or_false]at hu;rcases hu with hu|hu|hu|hu|hu<;>(rw[hu];rfl)) (by unfold maxLen;omega) (by omega) (by simp;omega) ?_;intro v5 w5 a_ bf _;obtain⟨a5,c5,rfl,_,_⟩:=aF a_;have uE:Hid (Below (w.heap.size+1) _ w5):=HB.out.trans (aU.mono' T4|>.grown bf (by simp;omega) (λb hb=>(HO.out.lt b hb).1));have uG:=af a_;have r05:w5.cell? ⟨w.heap.size,0,none⟩=some (.int .i64 2):=(uE.out.cell (p:=⟨w.heap.size,0,none⟩) (by show w.heap.size<w.heap.size+1;omega)).trans (by simp[go_sem]);clear a_ bf))
     go_ret2
     exact⟨a5,c5,by rw[Us.out,xX.out];rfl,by rw[xX.out,rO.out];exact iX uG.out (by omega),(hB0 _).trans (uE.out.mono (by omega))⟩
end
end Go.Proofs.YtenaepdmlknlcaaGreatDoor
