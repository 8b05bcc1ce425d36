import Derived.Test.YtenaepdmlknlcaaGreatDoorG10
import Derived.Test.YtenaepdmlknlcaaGreatDoorG15
open Go.Proofs.Tryz
set_option maxRecDepth 100000
set_option maxHeartbeats 8000000
namespace Go.Proofs.YtenaepdmlknlcaaGreatDoor
section
open Go.RowKit Go.Shelf
theorem wZ{P:Program}(w:World)(t ty:TypeId)
  (e:TypeId) (i:TypeInfo) (z:Value) (size bytes:Nat) (h1:P.underlying t=some (.slice e)) (h2:P.info? e=some i) (h3:i.zero=some z) (h4:i.size=size) (h5:i.bytes=bytes) (h6:z.cells.size=size) (h7:0<size)
  (v:Value) (n:Nat) (xs:List Value) (hown:w.ownsRow 0 e size v n xs)
  (ad:Addr) (m c:Nat) (news:List Value) (hn:news.length=m*size) (hc:∀j u,news[j]? =some u->w.cell? (ad.add j)=some u) (h1c:∀u∈news,u.oneCell'=true)
  (b1:n+m<=maxLen) (b2:(n+m)*bytes<=140737488355328):
  ∃v' w',(Builtin.append_ #[t,t] ty #[v,.slice (some ad) m c]).run P w=.ok v' w'/\w'.ownsRow 0 e size v' (n+m) (xs++news)/\(∀k,v'.ownBlock=some k->v.ownBlock=some k\/w.heap.size<=k)/\Fr (λc _=>v.ownBlock=some c) w w':=by
 have nk:∀v' w',w'.ownsRow w.heap.size e size v' (n+m) (xs++news)->w.grownBy w' none->w'.ownsRow 0 e size v' (n+m) (xs++news)/\(∀k,v'.ownBlock=some k->v.ownBlock=some k\/w.heap.size<=k)/\Fr (λc _=>v.ownBlock=some c) w w':=λv' w' ho hg=>
  ⟨⟨ho.1,ho.2.imp id λ⟨g,cap,cur,q1,_,q3⟩=>⟨g,cap,cur,q1,Nat.zero_le _,q3⟩⟩,λk hk=> .inr (ho.lt k hk).1,Fr.of_below (bK.grown hg aM (λk e=>by cases e))⟩
 rcases hown.2 with⟨rfl,rfl⟩|⟨g,cap,cur,rfl,_,e3,e4,e5,e6,e7⟩
 ·obtain rfl:xs=[]:=List.eq_nil_of_length_eq_zero (by simpa using hown.1)
  obtain⟨v',w',hrun,r1,r2,_⟩:=run_append_own (P:=P) w w.heap.size t ty e i z size bytes h1 h2 h3 h4 h5 h6 h7 (.slice none 0 0) 0 [] (World.ownsRow_nil w _ e size) ad m c news hn hc h1c b1 b2 aM
  exact⟨v',w',hrun,nk v' w' r1 r2⟩
 ·by_cases hr:n+m<=cap
  ·have hle:n*size+m*size<=cap*size:=by
    have:=Nat.mul_le_mul_right size hr
    rwa[Nat.add_mul]at this
   have hin:∀j,j<news.length->0+n*size+j<cur.size:=λj hj=>by rw[hn]at hj;rw[e6];omega
   obtain⟨cur',k1,k2,k3⟩:=f_ news (0+n*size) w cur e3 (by rw[e6,hn];omega)
   refine⟨_,_,?_,⟨by rw[List.length_append,hown.1,hn,Nat.add_mul],.inr ⟨g,cap,cur',rfl,Nat.zero_le _,k1,hr,e5,k2.trans e6,?_⟩⟩,λk hk=> .inl hk,(iR g news _ w).mono λc i ec=>by have:c=g:=ec;rw[this];rfl⟩
   ·have:=run_append_room_cells (P:=P) w t ty e i h1 h2 g 0 n cap ad m c news (by rw[h4];exact hn) hc h1c hr (λj hj=>by
     rw[h4]
     simp only[World.cell?,e3]
     rw[Array.getElem?_eq_getElem (hin j hj)];rfl) (λj hj=>by simp[World.frozen?,e3])
    rwa[h4]at this
   ·rw[k3,Nat.zero_add,e7]
    exact List.take_left' (by rw[List.length_append,hown.1,hn,Nat.add_mul])
  ·obtain⟨v',w',hrun,r1,r2⟩:=run_append_arg_grows (P:=P) w t ty e i z size bytes h1 h2 h3 h4 h5 h6 h7 ⟨g,0,none⟩ n cap xs hown.1 (hown.cells (g:=g) rfl) ad m c news hn hc (by omega) b1 b2
   exact⟨v',w',hrun,nk v' w' r1 r2⟩
variable {ops:Array Oper} {w:World} {Q:Exit->Act->World->Prop} {E:Prop}
theorem jm{P:Program}{o:Oper}{a:Act}{K:Act->World->Prop} 
  (hg:o.guard=none) (s x:Operand) (t:TypeId) (hop:o.op=Op.call {callee:=Callee.builtin Builtin.append,args:=#[s,x],argTypes:=#[t,t]})
  (e:TypeId) (i:TypeInfo) (z:Value) (size bytes:Nat) (h1:P.underlying t=some (.slice e)) (h2:P.info? e=some i) (h3:i.zero=some z) (h4:i.size=size) (h5:i.bytes=bytes) (h6:z.cells.size=size) (h7:0<size)
  (v:Value) (n:Nat) (xs:List Value) (hs:a.eval s=v) (hown:w.ownsRow 0 e size v n xs)
  (ad:Addr) (m c:Nat) (news:List Value) (hx:a.eval x=.slice (some ad) m c) (hn:news.length=m*size) (hc:∀j u,news[j]? =some u->w.cell? (ad.add j)=some u) (h1c:∀u∈news,u.oneCell'=true)
  (b1:n+m<=maxLen) (b2:(n+m)*bytes<=140737488355328)
  (h:∀v' w',w'.ownsRow 0 e size v' (n+m) (xs++news)->(∀k,v'.ownBlock=some k->v.ownBlock=some k\/w.heap.size<=k)->Fr (λc _=>v.ownBlock=some c) w w'->K (a.put o.dst v') w'):
  if Region.wanted o (yielded ops a.tmps)=true then Oper.wp P o a w K Q else E:=by
 have hw:Region.wanted o (yielded ops a.tmps)=true:=by simp[Region.wanted,hg]
 rw[if_pos hw]
 obtain⟨v',w',hrun,r1,r2,r3⟩:=wZ (P:=P) w t o.type e i z size bytes h1 h2 h3 h4 h5 h6 h7 v n xs hown ad m c news hn hc h1c b1 b2
 unfold Oper.wp
 simp[execOp,hop,resolve,invoke,builtin,hs,hx,hrun,Result.andThen]
 exact h v' w' r1 r2 r3
theorem Gj(A o:Nat)(t:Tl)(body:ByteArray)(v:Value)(ks:List Kp)(w:World)(h:gu w A o v ks)(hl:ks.length+1<=1000):
  Calls prog 204 #[.pointer (some ⟨A,o,none⟩),.agg #[.int .i64 t.z,.int .i64 t.c,.int .i64 t.r],.string body] w λe w'=>e=.returned (.tuple #[])/\∃v',gu w' A o v' (ks++[⟨t,body⟩])/\(∀k,v'.ownBlock=some k->v.ownBlock=some k\/w.heap.size<=k)/\Fr (n9 A o v) w w':=by
 obtain⟨hc,hf,own,hne,hlt⟩:=h
 have hA:A<w.heap.size:=dz w ⟨A,o,none⟩ hc
 obtain⟨i178,eH,hz0,hz1,hz2⟩:=info_parts GN
 have HI:Hid (prog.info? 178=some i178/\i178.zero=some (.agg #[.int .i64 0,.int .i64 0,.int .i64 0,.string ⟨#[]⟩])/\i178.size=4/\i178.bytes=40):=⟨eH,hz0,hz1,hz2⟩
 have HO:Hid (w.ownsRow 0 178 4 v ks.length (bz ks)):=own
 have HN:=af hne
 have HL:=af hl
 clear eH hz0 hz1 hz2 own hne hlt hl
 go_enter func204,ntmps204
 go_wp2_with fail
 go_region_law (refine jm rfl (.tmp 10) (.tmp 14) 121 rfl 178 i178 (.agg #[.int .i64 0,.int .i64 0,.int .i64 0,.string ⟨#[]⟩]) 4 40 underlying121 HI.out.1 HI.out.2.1 HI.out.2.2.1 HI.out.2.2.2 rfl (by decide) v ks.length (bz ks) rfl ((HO.out.alloc _).alloc _) ⟨w.heap.size+1,0,none⟩ 1 1 [.int .i64 t.z,.int .i64 t.c,.int .i64 t.r,.string body] rfl rfl (λj u hj=>by
    rw[addr_add]
    match j,hj with
    |0,hj=>simp at hj;subst hj;simp[go_sem]
    |1,hj=>simp at hj;subst hj;simp[go_sem]
    |2,hj=>simp at hj;subst hj;simp[go_sem]
    |3,hj=>simp at hj;subst hj;simp[go_sem]
    |j+4,hj=>simp at hj) (λu hu=>by simp at hu;rcases hu with hu|hu|hu|hu<;>(subst hu;rfl)) (by have:=HL.out;unfold maxLen;omega) (by have:=HL.out;omega) ?_;intro v3 w3 bp hfr3 ij;obtain⟨g3,c3,rfl,_,_⟩:=dc bp;have kj:Hid _:=bp;have KS:Hid _:=hfr3;have Q9:w3.cell? ⟨A,o,none⟩=some v:=((ij.cell A o (by simp;omega) (λe=>HN.out e)).trans (by simp[go_sem,hA,hc]));have f3':w3.frozen? ⟨A,o,none⟩=false:=((ij.frozen A o (by simp;omega) (λe=>HN.out e)).trans (by simp[go_sem,hA,hf]));clear bp hfr3)
 all_goals
  have hfr:∀k,(some g3:Option Nat)=some k->v.ownBlock=some k\/w.heap.size+1+1<=k:=λk hk=>by
   have:=KS.out k hk
   simpa using this
  have DV:g3≠A:=λe=>(hfr A (by rw[e])).elim HN.out (λh=>by omega)
  go_end0
  refine⟨rfl,_,⟨cell_eq Q9 _,by rw[World.frozen?_setCell];exact f3',?_,λe=>DV (Option.some.inj e),by rw[List.length_append];exact HL.out⟩,λk hk=>(hfr k hk).imp id (λh=>by omega),?_⟩
  ·rw[List.length_append,qE]
   exact bD (jQ A w3 o _) kj.out (λc _ hc e=>by have h1:g3=c:=Option.some.inj hc;have h2:c=A:=e;exact DV (h1.trans h2))
  ·exact(((((Fr.refl (n9 A o v) w).alloc _).alloc _).drew).trans (ij.mono λc i e=> .inr e)).setCell (b:=A) (i:=o) (.inl (.inl ⟨rfl,rfl⟩)) _
def az(t:Tl):Nat:=((t.z+t.c+t.r)%4).toNat
theorem bg(t:Tl):az t<4:=by unfold az;omega
def Tl.ok(t:Tl):Prop:=0<=t.z/\t.z<=3/\0<=t.c/\t.c<=7/\0<=t.r/\t.r<=7
theorem sB(A so:Nat)(t:Tl)(ht:t.ok)(w:World):
  Calls prog 202 #[.pointer (some ⟨A,so,none⟩),.agg #[.int .i64 t.z,.int .i64 t.c,.int .i64 t.r]] w λe w'=>e=.returned (.pointer (some ⟨A,so+1+az t*2,none⟩))/\Below w.heap.size w w':=by
 obtain⟨h1,h2,h3,h4,h5,h6⟩:=ht
 obtain⟨q,hq⟩:∃q:Nat,az t=q:=⟨_,rfl⟩
 have j_:q<4:=by have:=bg t;omega
 have DW:(t.z+t.c+t.r)%4=(q:Int):=by unfold az at hq;omega
 have HN:Hid _:=λW=>tG t.z t.c t.r W h1 h2 h3 h4 h5 h6
 rw[hq,DW]at *
 have hI:(q:Int)<4:=by omega
 have SB:(0:Int)<=(q:Int):=by omega
 clear hq DW h1 h2 h3 h4 h5 h6
 go_enter func202,ntmps202
 go_wp2_with fail
 go_region_with (go_at_call 217;refine aq (HN.out _) ?_;rintro e w1 ⟨rfl,hb1⟩;dsimp only;have hB1:Below w.heap.size w w1:=(aU.drew.trans (hb1.mono (by simp))))
 all_goals
  go_wp2
  go_ret
  exact⟨rfl,hB1⟩
structure tT where
 room:Int
 ks:Nat->List Kp
 aG:Nat->Int
structure dI(w:World)(A so:Nat)(vs:Nat->Value)(S:tT):Prop where
 room:w.cell? ⟨A,so,none⟩=some (.int .i64 S.room)
 sh:∀k,k<4->gu w A (so+1+k*2) (vs k) (S.ks k)
 aG:∀k,k<4->w.cell? ⟨A,so+1+k*2+1,none⟩=some (.int .i64 (S.aG k))/\w.frozen? ⟨A,so+1+k*2+1,none⟩=false
 apart:∀k j g,k<4->j<4->k≠j->(vs k).ownBlock=some g->(vs j).ownBlock≠some g
theorem OH(A so:Nat)(t:Tl)(ht:t.ok)(vs:Nat->Value)(S:tT)(w:World)(h:dI w A so vs S):
  Calls prog 189 #[.pointer (some ⟨A,so,none⟩),.agg #[.int .i64 t.z,.int .i64 t.c,.int .i64 t.r]] w λe w'=>e=.returned (.int .i64 (S.aG (az t)))/\Below w.heap.size w w':=by
 have ha:=(h.aG (az t) (bg t)).1
 have hA:A<w.heap.size:=dz w _ ha
 obtain⟨q,hq⟩:∃q:Nat,az t=q:=⟨_,rfl⟩
 have HO:Hid (∀W,Calls prog 202 #[.pointer (some ⟨A,so,none⟩),.agg #[.int .i64 t.z,.int .i64 t.c,.int .i64 t.r]] W λe w'=>e=.returned (.pointer (some ⟨A,so+1+q*2,none⟩))/\Below W.heap.size W w'):=λW=>hq▸sB A so t ht W
 rw[hq]at ha⊢
 clear hq h
 go_enter func189,ntmps189
 go_wp2_with (go_at_call 202;refine aq (HO.out _) ?_;rintro e w1 ⟨rfl,hb1⟩;dsimp only;have c1:w1.cell? ⟨A,so+1+q*2+1,none⟩=some (.int .i64 (S.aG q)):=(hb1.cell (p:=⟨A,so+1+q*2+1,none⟩) (by first|exact hA|(simp;omega))).trans (by first|exact ha|(simp[go_sem,hA,ha])))
 go_ret
 exact⟨rfl,aU.trans (hb1.mono (by simp))⟩
variable {M:Nat->Nat->Prop} {W W':World} {ks:List Kp}
theorem gu.fr(h:Fr M W W'){A o:Nat}{v:Value}(k:gu W A o v ks)(hA:¬M A o)(hv:∀g i,v.ownBlock=some g->¬M g i):gu W' A o v ks:=
 have hl:A<W.heap.size:=dz W ⟨A,o,none⟩ k.c
 ⟨(h.cell A o hl hA).trans k.c,(h.frozen A o hl hA).trans k.f,bD h k.own hv,k.ne,k.lt⟩
theorem gu.below(h:Below W.heap.size W W'){A o:Nat}{v:Value}(k:gu W A o v ks):gu W' A o v ks:=k.fr (M:=λ_ _=>False) (Fr.of_below h) id (λ_ _ _ e=>e)
theorem gu.tI{A o:Nat}{v:Value}(k:gu W A o v ks):∀g,v.ownBlock=some g->g<W.heap.size:=λg e=>(k.own.lt g e).2
variable {w':World} {vs:Nat->Value} {S:tT} {q:Nat} {v':Value} {ks':List Kp}
theorem dI.upd{A so:Nat}(h:dI w A so vs S)(hq:q<4)(hs:gu w' A (so+1+q*2) v' ks')(hf:Fr (n9 A (so+1+q*2) (vs q)) w w')(hfr:∀g,v'.ownBlock=some g->(vs q).ownBlock=some g\/w.heap.size<=g):
  dI w' A so (λk=>if k=q then v' else vs k) {S with ks:=λk=>if k=q then ks' else S.ks k}:=by
 have hA:A<w.heap.size:=dz w _ h.room
 have SV:(vs q).ownBlock≠some A:=(h.sh q hq).ne
 refine⟨(hf.cell A so hA (λe=>e.elim (λe=>by omega) SV)).trans h.room,λk hk=>?_,λk hk=>?_,λk j g hk hj hkj e1 e2=>?_⟩
 ·by_cases e:k=q
  ·subst e;simp only[if_pos];exact hs
  ·simp only[if_neg e]
   exact(h.sh k hk).fr hf (λe'=>e'.elim (λe'=>by omega) SV) (λg i eg e'=>e'.elim (λe'=>(h.sh k hk).ne (by rw[eg,e'.1])) (h.apart k q g hk hq e eg))
 ·have ha:=h.aG k hk
  have hn:¬n9 A (so+1+q*2) (vs q) A (so+1+k*2+1):=λe=>e.elim (λe=>by omega) SV
  exact⟨(hf.cell A _ hA hn).trans ha.1,(hf.frozen A _ hA hn).trans ha.2⟩
 ·by_cases e:k=q
  ·subst e
   rw[if_pos rfl]at e1
   rw[if_neg (λe=>hkj e.symm)]at e2
   rcases hfr g e1 with h1|h1
   ·exact h.apart k j g hk hj hkj h1 e2
   ·have:=(h.sh j hj).tI g e2;omega
  ·rw[if_neg e]at e1
   by_cases e':j=q
   ·subst e'
    rw[if_pos rfl]at e2
    rcases hfr g e2 with h1|h1
    ·exact h.apart k j g hk hj hkj e1 h1
    ·have:=(h.sh k hk).tI g e1;omega
   ·rw[if_neg e']at e2
    exact h.apart k j g hk hj hkj e1 e2
def oP(t:Tl)(ks:List Kp):Option (ByteArray×List Kp):=match bO t ks with
 |none=>none
 |some i=>(ks[i]?).map λk=>(k.body,ks.eraseIdx i++[⟨t,k.body⟩])
theorem Li(A so:Nat)(t:Tl)(ht:t.ok)(vs:Nat->Value)(S:tT)(w:World)(h:dI w A so vs S)(hx:bO t (S.ks (az t))=none):
  Calls prog 187 #[.pointer (some ⟨A,so,none⟩),.agg #[.int .i64 t.z,.int .i64 t.c,.int .i64 t.r]] w λe w'=>e=.returned (.tuple #[.string ⟨#[]⟩,.bool false])/\Below w.heap.size w w':=by
 have ke:Hid (gu w A (so+1+az t*2) (vs (az t)) (S.ks (az t))):=h.sh _ (bg t)
 have HX:=af hx
 have RI:Hid (∀W,_):=λW=>sB A so t ht W
 clear h hx
 go_enter func187,ntmps187
 go_wp2_with (first
  |(go_at_call 202;refine aq (RI.out _) ?_;rintro e w1 ⟨rfl,hb1⟩;dsimp only;have hB1:Below w.heap.size w w1:=(aU.trans (hb1.mono (by simp)));obtain⟨t10,t11,t12,_,_,_⟩:=(K3.new w (.int .i64 t.z) (.int .i64 t.c) (.int .i64 t.r) 24).below hb1 aM)
  |(go_at_call 203;refine aq (zG A _ t _ _ _ (ke.out.below hB1) HX.out) ?_;rintro e w2 ⟨rfl,hb2⟩;dsimp only))
 go_ret2
 exact⟨rfl,hB1.trans (hb2.mono hB1.size)⟩
theorem Lj(A so:Nat)(t:Tl)(ht:t.ok)(vs:Nat->Value)(S:tT)(i:Nat)(k:Kp)(w:World)(h:dI w A so vs S)(hx:bO t (S.ks (az t))=some i)(hk:(S.ks (az t))[i]? =some k):
  Calls prog 187 #[.pointer (some ⟨A,so,none⟩),.agg #[.int .i64 t.z,.int .i64 t.c,.int .i64 t.r]] w λe w'=>e=.returned (.tuple #[.string k.body,.bool true])/\∃v',gu w' A (so+1+az t*2) v' ((S.ks (az t)).eraseIdx i++[⟨t,k.body⟩])/\(∀g,v'.ownBlock=some g->(vs (az t)).ownBlock=some g\/w.heap.size<=g)/\Fr (n9 A (so+1+az t*2) (vs (az t))) w w':=by
 have ke:Hid (gu w A (so+1+az t*2) (vs (az t)) (S.ks (az t))):=h.sh _ (bg t)
 have HX:Hid (bO t (S.ks (az t))=some i/\(S.ks (az t))[i]? =some k):=⟨hx,hk⟩
 have RI:Hid (∀W,_):=λW=>sB A so t ht W
 have H9:Hid (((S.ks (az t)).eraseIdx i).length+1<=1000):=by
  show _+1<=1000
  have h1:=(h.sh _ (bg t)).lt
  have h2:=(List.getElem?_eq_some_iff.1 hk).1
  rw[List.length_eraseIdx,if_pos h2]
  omega
 have hA:A<w.heap.size:=dz w _ h.room
 have Bq:Hid (∀g,(vs (az t)).ownBlock=some g->g<w.heap.size):=(h.sh _ (bg t)).tI
 clear h hx hk
 go_enter func187,ntmps187
 go_wp2_with (first
  |(go_at_call 202;refine aq (RI.out _) ?_;rintro e w1 ⟨rfl,hb1⟩;dsimp only;have hB1:Below w.heap.size w w1:=(aU.trans (hb1.mono (by simp)));have hz1:w.heap.size<w1.heap.size:=(by have:=hb1.size;simp at this;omega);have Un:Hid _:=(K3.new w (.int .i64 t.z) (.int .i64 t.c) (.int .i64 t.r) 24).below hb1 aM;obtain⟨t10,t11,t12,_,_,_⟩:=Un.out)
  |(go_at_call 203;refine aq (zI A _ t _ _ i k _ (ke.out.below hB1) HX.out.1 HX.out.2) ?_;rintro e w2 ⟨rfl,v2,hs2,ho2,hf2⟩;dsimp only;have zZ:Hid _:=hs2;clear hs2;have SU:∀j,¬n9 A (so+1+az t*2) (vs (az t)) w.heap.size j:=(λj e=>e.elim (λe=>(by omega)) (λe=>(by have:=Bq.out _ e;omega)));obtain⟨t20,t21,t22,_,_,_⟩:=Un.out.fr hf2 SU)
  |(go_at_call 204;refine aq (Gj A _ t k.body v2 _ _ zZ.out H9.out) ?_;rintro e w3 ⟨rfl,v3,hs3,ud,hf3⟩;dsimp only))
 go_ret2
 refine⟨rfl,v3,hs3,λg hg=>(ud g hg).elim (λh=> .inl (ho2▸h)) (λh=> .inr (by have:=hf2.size;have:=hB1.size;omega)),?_⟩
 exact((Fr.of_below hB1).trans hf2).trans (hf3.mono λc j e=>e.imp id (λe=>ho2▸e))
def cP(t:Tl)(ks:List Kp):List Kp:=match bO t ks with|none=>ks|some i=>ks.eraseIdx i
def fQ(room:Int)(t:Tl)(body:ByteArray)(ks:List Kp):List Kp:=if room<((cP t ks).length:Int)+1 then(cP t ks++[(⟨t,body⟩:Kp)]).drop 1 else cP t ks++[(⟨t,body⟩:Kp)]
theorem r_(t:Tl)(ks:List Kp):(cP t ks).length<=ks.length:=by
 unfold cP
 split
 ·exact aM
 ·exact List.length_eraseIdx_le _ _
theorem Dy(A o:Nat)(t:Tl)(v:Value)(ks:List Kp)(w:World)(h:gu w A o v ks):
  Calls prog 203 #[.pointer (some ⟨A,o,none⟩),.agg #[.int .i64 t.z,.int .i64 t.c,.int .i64 t.r]] w λe w'=>∃s q,e=.returned (.tuple #[.string s,.bool q])/\∃v',gu w' A o v' (cP t ks)/\v'.ownBlock=v.ownBlock/\Fr (n9 A o v) w w':=by
 match hx:bO t ks with
 |none=>
  refine(zG A o t v ks w h hx).mono ?_
  rintro e w' ⟨rfl,hb⟩
  exact⟨_,_,rfl,v,by rw[cP,hx];exact h.below hb,rfl,Fr.of_below hb⟩
 |some i=>
  obtain⟨hi,_⟩:=List.findIdx?_eq_some_iff_getElem.1 hx
  refine(zI A o t v ks i ks[i] w h hx (List.getElem?_eq_getElem hi)).mono ?_
  rintro e w' ⟨rfl,v',hs,ho,hf⟩
  exact⟨_,_,rfl,v',by rw[cP,hx];exact hs,ho,hf⟩
theorem Bi(g m cap:Nat)(ks:List Kp)(w:World)(own:w.ownsRow 0 178 4 (.slice (some ⟨g,0,none⟩) (m+1) cap) (m+1) (bz ks))(hn:m+1<=1000000):
  Calls prog 220 #[.slice (some ⟨g,0,none⟩) (m+1) cap,.int .i64 0,.int .i64 1] w λe w'=>e=.returned (.slice (some ⟨g,0,none⟩) m cap)/\w'.ownsRow 0 178 4 (.slice (some ⟨g,0,none⟩) m cap) m (bz (ks.drop 1))/\Fr (ig g) w w':=by
 refine aq (sQ 0 g m cap 0 (bz ks) w own (yU ks) (by omega) hn) ?_
 rintro e w' ⟨rfl,ho,hf⟩
 refine⟨rfl,?_,hf⟩
 rw[vZ]
 simpa using ho
theorem Ea(A so:Nat)(t:Tl)(ht:t.ok)(body:ByteArray)(aG:Int)(vs:Nat->Value)(S:tT)(w:World)(h:dI w A so vs S)(tX:¬S.aG (az t)=aG):
  Calls prog 221 #[.pointer (some ⟨A,so,none⟩),.agg #[.int .i64 t.z,.int .i64 t.c,.int .i64 t.r],.string body,.int .i64 aG] w λe w'=>e=.returned (.tuple #[])/\Below w.heap.size w w':=by
 have ha:=(h.aG (az t) (bg t)).1
 have hA:A<w.heap.size:=dz w _ ha
 obtain⟨q,hq⟩:∃q:Nat,az t=q:=⟨_,rfl⟩
 have HO:Hid (∀W,Calls prog 202 #[.pointer (some ⟨A,so,none⟩),.agg #[.int .i64 t.z,.int .i64 t.c,.int .i64 t.r]] W λe w'=>e=.returned (.pointer (some ⟨A,so+1+q*2,none⟩))/\Below W.heap.size W w'):=λW=>hq▸sB A so t ht W
 rw[hq]at ha tX
 have hb:(S.aG q==aG)=false:=by rw[beq_eq_false_iff_ne];exact tX
 clear hq h
 go_enter func221,ntmps221
 go_wp2_with (go_at_call 202;refine aq (HO.out _) ?_;rintro e w1 ⟨rfl,hb1⟩;dsimp only;have c1:w1.cell? ⟨A,so+1+q*2+1,none⟩=some (.int .i64 (S.aG q)):=(hb1.cell (p:=⟨A,so+1+q*2+1,none⟩) (by simp;omega)).trans (by simp[go_sem,hA,ha]))
 exact bodyPost_ret (v:=.tuple #[]) (by simp[results,results221,go_sem]) rfl ⟨rfl,aU.trans (hb1.mono (by simp))⟩
theorem Ie(A so q:Nat)(t:Tl)(body:ByteArray)(v:Value)(ks:List Kp)(ag rm:Int)(w:World)(h:gu w A (so+1+q*2) v ks)(hr:w.cell? ⟨A,so,none⟩=some (.int .i64 rm))(ha:w.cell? ⟨A,so+1+q*2+1,none⟩=some (.int .i64 ag))(hl:ks.length+1<=1000)
  (hof:∀W:World,Calls prog 202 #[.pointer (some ⟨A,so,none⟩),.agg #[.int .i64 t.z,.int .i64 t.c,.int .i64 t.r]] W λe w'=>e=.returned (.pointer (some ⟨A,so+1+q*2,none⟩))/\Below W.heap.size W w'):
  Calls prog 221 #[.pointer (some ⟨A,so,none⟩),.agg #[.int .i64 t.z,.int .i64 t.c,.int .i64 t.r],.string body,.int .i64 ag] w λe w'=>e=.returned (.tuple #[])/\∃v',gu w' A (so+1+q*2) v' (fQ rm t body ks)/\(∀g,v'.ownBlock=some g->v.ownBlock=some g\/w.heap.size<=g)/\Fr (n9 A (so+1+q*2) v) w w':=by
 have ke:=af h
 have RI:=af hof
 have hA:A<w.heap.size:=dz w _ hr
 have Bq:Hid (∀g,v.ownBlock=some g->g<w.heap.size):=h.tI
 have HNe:Hid (v.ownBlock≠some A):=h.ne
 have HL:Hid ((cP t ks).length+1<=1000):=Nat.le_trans (Nat.succ_le_succ (r_ _ _)) hl
 clear h hl hof
 go_enter func221,ntmps221
 go_wp2_with (first
  |(go_at_call 202;refine aq (RI.out _) ?_;rintro e w1 ⟨rfl,hb1⟩;dsimp only;have hB1:Below w.heap.size w w1:=(aU.trans (hb1.mono (by simp)));have hz1:w.heap.size<w1.heap.size:=(by have:=hb1.size;simp at this;omega);have Un:Hid _:=(K3.new w (.int .i64 t.z) (.int .i64 t.c) (.int .i64 t.r) 24).below hb1 aM;obtain⟨t10,t11,t12,_,_,_⟩:=Un.out;have c1:w1.cell? ⟨A,so+1+q*2+1,none⟩=some (.int .i64 ag):=(hB1.cell (p:=⟨A,so+1+q*2+1,none⟩) hA).trans ha)
  |(go_at_call 203;refine aq (Dy A _ t _ _ _ (ke.out.below hB1)) ?_;rintro e w2 ⟨s2,q2,rfl,v2,hs2,ho2,hf2⟩;dsimp only;have zZ:Hid _:=hs2;clear hs2;have SU:∀j,¬n9 A (so+1+q*2) v w.heap.size j:=(λj e=>e.elim (λe=>(by omega)) (λe=>(by have:=Bq.out _ e;omega)));obtain⟨t20,t21,t22,_,_,_⟩:=Un.out.fr hf2 SU)
  |(go_at_call 204;refine aq (Gj A _ t body v2 _ _ zZ.out HL.out) ?_;rintro e w3 ⟨rfl,v3,hs3,ud,hf3⟩;dsimp only;have oH:Hid _:=hs3;have ij:Fr (n9 A (so+1+q*2) v) w w3:=((Fr.of_below hB1).trans hf2).trans (hf3.mono λc j e=>e.imp id (λe=>ho2▸e));have r3:w3.cell? ⟨A,so,none⟩=some (.int .i64 rm):=(ij.cell A so hA (λe=>e.elim (λe=>(by omega)) HNe.out)).trans hr;obtain⟨g3,dV,rfl,_,wu⟩:=dc (show w3.ownsRow 0 178 4 v3 ((cP t ks).length+1) (bz (cP t ks++[⟨t,body⟩])) from(by have:=hs3.own;rw[List.length_append]at this;exact this));have c3:=hs3.c;have f3:=hs3.f;clear hs3))
 obtain⟨m,hm⟩:∃m,(cP t ks).length=m:=⟨_,rfl⟩
 have Hm:=af hm
 rw[hm]at c3 wu
 have hm3:m+1<=1000:=by have:=HL.out;omega
 have vu:Hid (w3.ownsRow 0 178 4 (.slice (some ⟨g3,0,none⟩) (m+1) dV) (m+1) (bz (cP t ks++[⟨t,body⟩]))):=by
  have:=oH.out.own
  rw[List.length_append,hm]at this
  exact this
 have O0:Hid (g3≠A):=λe=>oH.out.ne (by rw[e];rfl)
 have vp:Hid (∀g,g3=g->v.ownBlock=some g\/w.heap.size<=g):=λg hg=>(ud g (by rw[<-hg];rfl)).elim (λh=> .inl (ho2▸h)) (λh=> .inr (by have:=hf2.size;have:=hB1.size;omega))
 have hz3:A<w3.heap.size:=Nat.lt_of_lt_of_le hA ij.size
 clear hm ho2 ud hf2 hf3
 by_cases hgt:rm<(m:Int)+1
 ·have HK:Hid (fQ rm t body ks=(cP t ks++[(⟨t,body⟩:Kp)]).drop 1):=by show fQ rm t body ks=_;rw[fQ,if_pos (by rw[Hm.out];exact hgt)]
  have hd:decide (rm<(m:Int)+1)=true:=decide_eq_true hgt
  go_quiet (fail)
  go_wp2_with (go_at_call 220;refine aq (Bi g3 m dV _ _ (by first|exact vu.out|exact bD (M:=λ_ _=>False) ((Fr.refl _ w3).drewN _) vu.out (λ_ _ _ e=>e)) (by omega)) ?_;rintro e w4 ⟨rfl,Rp,yY⟩;have DR:Hid _:=Rp;clear Rp;have Ve:A≠g3:=(λe=>O0.out e.symm);have c4:w4.cell? ⟨A,so+1+q*2,none⟩=some (.slice (some ⟨g3,0,none⟩) (m+1) dV):=(yY.cell A _ hz3 Ve).trans c3;have f4:w4.frozen? ⟨A,so+1+q*2,none⟩=false:=(yY.frozen A _ hz3 Ve).trans f3;have Yx:Fr (n9 A (so+1+q*2) v) w w4:=(ij.aC ((Fr.refl _ w3).drewN _) (λ_ _ _ e=>e)).aC yY (λc i hc e=>(by have h1:c=g3:=e;exact(vp.out c h1.symm).elim .inr (λh=>(by omega))));dsimp only)
  go_end0
  rw[HK.out]
  refine⟨rfl,.slice (some ⟨g3,0,none⟩) m dV,⟨cell_eq c4 _,by rw[World.frozen?_setCell];exact f4,?_,λe=>O0.out (Option.some.inj e),?_⟩,λg hg=>vp.out g (Option.some.inj hg),Yx.setCell (b:=A) (i:=so+1+q*2) (.inl (.inl ⟨rfl,rfl⟩)) _⟩
  ·have hl:((cP t ks++[(⟨t,body⟩:Kp)]).drop 1).length=m:=by rw[List.length_drop,List.length_append,Hm.out];rfl
   rw[hl]
   exact bD (jQ A w4 _ _) DR.out (λc _ hc e=>by have h1:g3=c:=Option.some.inj hc;have h2:c=A:=e;exact O0.out (h1.trans h2))
  ·rw[List.length_drop,List.length_append,Hm.out]
   simp
   omega
 ·have HK:Hid (fQ rm t body ks=cP t ks++[⟨t,body⟩]):=by show fQ rm t body ks=_;rw[fQ,if_neg (by rw[Hm.out];exact hgt)]
  have hd:decide (rm<(m:Int)+1)=false:=decide_eq_false hgt
  go_quiet (fail)
  go_wp2
  go_end0
  rw[HK.out]
  exact⟨rfl,_,oH.out.fr (M:=λ_ _=>False) ((Fr.refl _ w3).drewN _) id (λ_ _ _ e=>e),λg hg=>vp.out g (Option.some.inj hg),ij.aC ((Fr.refl (λ_ _=>False) w3).drewN _) (λ_ _ _ e=>e.elim)⟩
theorem aaa(w:World)(h:w.cell? ⟨3,15,none⟩=some (.int .u8 4)):
  Calls prog 166 #[.int .u64 16] w λe w'=>e=.returned (.int .i64 4)/\w'=w:=by
 have h2:w.cell? ⟨3,(IntKind.u64.wrap (bits BinOp.and IntKind.u64 16 (IntKind.u64.wrap (-16))*285870213051353865)/288230376151711744).toNat,none⟩=some (.int .u8 4):=by
  rw[show(IntKind.u64.wrap (bits BinOp.and IntKind.u64 16 (IntKind.u64.wrap (-16))*285870213051353865)/288230376151711744).toNat=15 from by decide+kernel];exact h
 clear h
 go_enter func166,ntmps166
 go_wp2
 go_ret
 exact⟨rfl,rfl⟩
theorem VY(w:World):
  Calls prog 165 #[.int .i64 16] w λe w'=>e=.returned (.bool true)/\w'=w:=by
 go_enter func165,ntmps165
 go_wp2
 go_ret
 exact⟨rfl,rfl⟩
theorem Ca{v:Nat}(h:16<=v):cD 16 v=cD 16 (v/16)++[vQ (v%16)]:=by
 rw[cD,dif_neg (by omega)]
theorem pR{v:Nat}(h:v<16):cD 16 v=[vQ v]:=by rw[cD,dif_pos (.inl h)]
abbrev Lr:ByteArray:=⟨#[48,49,50,51,52,53,54,55,56,57,97,98,99,100,101,102,103,104,105,106,107,108,109,110,111,112,113,114,115,116,117,118,119,120,121,122]⟩
theorem vH(d:Nat)(hd:d<16)(h:d<Lr.size):Lr[d]'h=vQ d:=by
 match d,hd with
 |0,_=>rfl
 |1,_=>rfl
 |2,_=>rfl
 |3,_=>rfl
 |4,_=>rfl
 |5,_=>rfl
 |6,_=>rfl
 |7,_=>rfl
 |8,_=>rfl
 |9,_=>rfl
 |10,_=>rfl
 |11,_=>rfl
 |12,_=>rfl
 |13,_=>rfl
 |14,_=>rfl
 |15,_=>rfl
 |_+16,h=>omega
theorem Oa(L:List UInt8):strOfNums (L.map λb=>(b.toNat:Int))=⟨L.toArray⟩:=by
 rw[strOfNums,List.map_map]
 congr 2
 have:((λn:Int=>UInt8.ofNat n.toNat) ∘ λb:UInt8=>(b.toNat:Int))=id:=by
  funext b
  simp
 rw[this,List.map_id]
def nV(W:World)(A i:Nat)(l:List UInt8):Prop:=∀t ch,l[t]? =some ch->W.cell? ⟨A,i+t,none⟩=some (.int .u8 (ch.toNat:Int))
variable {c0:Value}
theorem nV.cons{A i:Nat}{l:List UInt8}(h:nV W A (i+1) l)(hc:W.cell? ⟨A,i,none⟩=some c0)(x:UInt8):nV (W.setCell ⟨A,i,none⟩ (.int .u8 (x.toNat:Int))) A i (x::l):=by
 intro t ch ht
 cases t with
 |zero=>
  simp at ht
  subst ht
  exact World.cell?_setCell_same _ _ _ hc
 |succ t=>
  simp at ht
  have:=h t ch ht
  rw[World.cell?_setCell_other _ _ _ _ (by intro e;injection e with _ e2 _;omega)]
  rw[show i+(t+1)=i+1+t by omega]
  exact this
theorem PE(n:Nat)(w:World)(h1:n<4294967296)(ht:w.cell? ⟨3,15,none⟩=some (.int .u8 4))(h3:3<w.heap.size):
  Calls prog 135 #[.slice none 0 0,.int .u64 (n:Int),.int .i64 16,.bool false,.bool false] w λe w'=>e=.returned (.tuple #[.slice none 0 0,.string ⟨(cD 16 n).toArray⟩])/\(cD 16 n).length<=8/\Below w.heap.size w w':=by
 go_enter func135,ntmps135
 go_wp2_with (first
  |(go_at_call 165;refine(VY _).mono ?_;rintro e w' ⟨rfl,rfl⟩)
  |(go_at_call 166;refine(aaa _ (by simp[go_sem, *])).mono ?_;rintro e w' ⟨rfl,rfl⟩))
 have hcell:∀j,j<65->(w.alloc (.cells Tryz.zeroCells280 280)).cell? ⟨w.heap.size,j,none⟩=some (.int .u8 0):=λj hj=>by
  rw[World.cell?_alloc_new]
  rw[QS]
  simp[hj]
 have HC:Hid _:=hcell
 clear hcell
 go_loopw [1,13] (λuv iv wr=>∃(m i v:Nat) (l:List UInt8),i+1+m=65/\m<=7/\uv=.int .u64 (v:Int)/\iv=.int .i64 ((i:Int)+1)/\Hid ((v:Int)<TM m)/\v<4294967296/\Hid (l.length=m/\nV wr w.heap.size (i+1) l/\cD 16 n=cD 16 v++l)/\Hid (∀j,j<65->∃c:Int,wr.cell? ⟨w.heap.size,j,none⟩=some (.int .u8 c)/\0<=c/\c<256)/\Hid (∀j,wr.frozen? ⟨w.heap.size,j,none⟩=false)/\Below w.heap.size w wr/\w.heap.size<wr.heap.size) (λuv _ _=>(intOf uv).toNat)
 case atStart=>exact⟨0,64,n,[],rfl,by omega,rfl,rfl,by show(n:Int)<TM 0;simp[TM];omega,h1,⟨rfl,λt ch h=>by simp at h,by simp⟩,λj hj=>⟨0,HC.out j hj,by omega,by omega⟩,λj=>by simp[go_sem],aU,by simp⟩
 case round=>
  clear h1
  obtain⟨m,i,v,l,Mv,hm,rfl,rfl,HvB,hv1,HL,KP,TJ,hB,hs⟩:=hrel
  have Y9:i<65:=by omega
  have xU:(i:Int)<65:=by omega
  have eH:(0:Int)<=(i:Int):=by omega
  obtain⟨ci,hci,aaz,aaA⟩:=KP.out i Y9
  have EU:=TJ.out i
  by_cases hge:16<=v
  ·have hst:=PG hm (by omega) HvB.out (by omega)
   have HST:=af hst
   clear hst
   obtain⟨dd,hdd⟩:∃dd:Nat,dd=v%16:=⟨_,rfl⟩
   have hand:bits BinOp.and IntKind.u64 (v:Int) 15=(dd:Int):=by rw[Uy _ (by omega) (by omega),hdd];rfl
   have Cx:dd<16:=by omega
   have YZ:(dd:Int)<36:=by omega
   have HD:Hid (cD 16 n=cD 16 (v/16)++(vQ dd::l)):=by
    show cD 16 n=_
    rw[HL.out.2.2,Ca hge,hdd,List.append_assoc];rfl
   clear hdd
   have aaD:(16:Int)<=(v:Int):=by omega
   go_wp2
   have hal:=vH dd Cx (by show dd<36;omega)
   have hi1:i-1+1=i:=by have:=HST.out.1;omega
   refine⟨⟨m+1,i-1,v/16,vQ dd::l,by have:=HST.out.1;omega,by have:=HST.out.1;omega,rfl,?_,?_,by omega,⟨by simp[HL.out.1],?_,HD.out⟩,II KP.out i _,λj=>?_,hB.trans (bJ w.heap.size wr w.heap.size i aM _),Nat.lt_of_lt_of_le hs (bJ w.heap.size wr w.heap.size i aM _).size⟩,?_⟩
   ·have h:(i:Int)=((i-1:Nat):Int)+1:=by omega
    rw[<-h]
   ·have:=HST.out.2
    show((v/16:Nat):Int)<_
    omega
   ·have:=nV.cons HL.out.2.1 hci (vQ dd)
    rw[hi1]
    rw[<-hal]at this⊢
    exact this
   ·rw[World.frozen?_setCell];exact TJ.out j
   ·show((v:Int)/16).toNat<(v:Int).toNat
    omega
  ·have Cx:v<16:=by omega
   have YZ:(v:Int)<36:=by omega
   have aaN:(v:Int)<16:=by omega
   have hal:=vH v Cx (by show v<36;omega)
   have HD:Hid (cD 16 n=vQ v::l):=by
    show cD 16 n=_
    rw[HL.out.2.2,pR Cx];rfl
   have hlen:l.length=64-i:=by rw[HL.out.1];omega
   have Ri:∀x:UInt8,Sem.run prog (convert 197 9 (.slice (some ⟨w.heap.size,i,none⟩) (65-i) (65-i))) (wr.setCell ⟨w.heap.size,i,none⟩ (.int .u8 (x.toNat:Int)))=.ok (.string (strOfNums ((x::l).map λb=>(b.toNat:Int)))) (wr.setCell ⟨w.heap.size,i,none⟩ (.int .u8 (x.toNat:Int))):=λx=>
    run_convert_bytes_arg _ 197 5 underlying197 underlying5 w.heap.size i (65-i) (65-i) _ (by simp;omega) (λj hj=>by
     have hjl:j<(x::l).length:=by rw[List.length_cons,hlen];omega
     have:=nV.cons HL.out.2.1 hci x j _ (List.getElem?_eq_getElem hjl)
     rw[this,List.getD_eq_getElem?_getD,List.getElem?_map,List.getElem?_eq_getElem hjl]
     rfl) 9 underlying9
   have XG:Hid (l.length+1<=8):=by show _<=_;rw[HL.out.1];omega
   have hi1:(i:Int)<=65:=by omega
   clear HL KP TJ hal hlen
   go_wp2
   go_ret2
   have key:∀x:UInt8,x=vQ v->Ending.returned (.tuple #[.slice none 0 0,.string (strOfNums ((x.toNat:Int)::l.map λb=>(b.toNat:Int)))])=.returned (.tuple #[.slice none 0 0,.string ⟨(cD 16 n).toArray⟩]):=by
    rintro _ rfl
    rw[HD.out,<-Oa]
    rfl
   exact⟨key _ (vH v Cx (by show v<36;omega)),by rw[HD.out];exact XG.out,hB.trans (bJ w.heap.size wr w.heap.size i aM _)⟩
theorem xW(n:Nat)(w:World)(h1:n<4294967296)(ht:w.cell? ⟨3,15,none⟩=some (.int .u8 4))(h3:3<w.heap.size):
  Calls prog 59 #[.int .u64 (n:Int),.int .i64 16] w λe w'=>e=.returned (.string ⟨(cD 16 n).toArray⟩)/\(cD 16 n).length<=8/\Below w.heap.size w w':=by
 have h35:Calls prog 98 #[.int .u64 (n:Int),.int .i64 16] w λe w'=>e=.returned (.string ⟨(cD 16 n).toArray⟩)/\(cD 16 n).length<=8/\Below w.heap.size w w':=by
  go_enter func98,ntmps98
  go_wp2_with (go_at_call 135;refine(PE n _ h1 ht h3).mono ?_;rintro e w1 ⟨rfl,hs2,hb1⟩)
  go_ret
  exact⟨rfl,hs2,hb1⟩
 have H35:Hid _:=h35
 clear h35
 go_enter func59,ntmps59
 go_wp2_with (go_at_call 98;refine aq H35.out ?_;rintro e w1 ⟨rfl,hs2,hb1⟩)
 go_ret
 exact⟨rfl,hs2,hb1⟩
theorem AY(c:Nat):Lib.repeatL [48] c=List.replicate c 48:=by
 induction c with
 |zero=>rfl
 |succ c ih=>simpa[Lib.repeatL,List.replicate_succ]using ih
theorem Pa(b:ByteArray)(w:World)(hb:b.size<=1000000)(ht:w.cell? ⟨3,15,none⟩=some (.int .u8 4))(h3:3<w.heap.size):
  Calls prog 33 #[.string b] w λe w'=>e=.returned (.string ⟨(qT b.data.toList).toArray⟩)/\Below w.heap.size w w':=by
 have hlt:=A3 b.data.toList
 have HM:Hid (qT b.data.toList=Fp (cD 16 (rD b.data.toList))):=rfl
 have HS:Hid (∀W:World,Calls prog 60 #[.string b] W λe w'=>e=.returned (.int .u32 ((rD b.data.toList:Nat):Int))/\w'=W):=λW=>Tx b W hb
 obtain⟨n,hn⟩:∃n,rD b.data.toList=n:=⟨_,rfl⟩
 rw[hn]at hlt HM HS
 clear hn
 have HF:Hid (∀W:World,W.cell? ⟨3,15,none⟩=some (.int .u8 4)->3<W.heap.size->Calls prog 59 #[.int .u64 (n:Int),.int .i64 16] W λe w'=>e=.returned (.string ⟨(cD 16 n).toArray⟩)/\(cD 16 n).length<=8/\Below W.heap.size W w'):=λW=>xW n W hlt
 obtain⟨d,hd⟩:∃d,cD 16 n=d:=⟨_,rfl⟩
 rw[hd]at HM HF
 clear hd
 obtain⟨zl,hzl⟩:∃zl:List UInt8,zl=List.replicate (8-d.length) 48:=⟨_,rfl⟩
 have HR:Hid (∀W:World,Calls prog 61 #[.string ⟨#[48]⟩,.int .i64 ((8-d.length:Nat):Int)] W λe w'=>e=.returned (.string ⟨zl.toArray⟩)/\Below W.heap.size W w'):=λW=>by
  have:=QC (8-d.length) W (by omega)
  rwa[AY,<-hzl]at this
 have hzn:zl.length<=8:=by rw[hzl,List.length_replicate];omega
 obtain⟨pl,hpl⟩:∃pl:List UInt8,zl++d=pl:=⟨_,rfl⟩
 have HP:Hid (pl=qT b.data.toList):=by show pl=_;rw[HM.out,Fp,<-hpl,hzl]
 have HA:Hid (d.length<=8->∀W:World,Sem.run prog (Op.stringOp .add ⟨zl.toArray⟩ ⟨d.toArray⟩) W=.ok (.string ⟨pl.toArray⟩) W):=λhd W=>by rw[<-hpl];exact run_string_add_lists W _ _ (by omega) (by omega)
 clear hzl hpl HM
 go_enter func33,ntmps33
 go_wp2_with (first
  |(go_at_call 60;refine aq (HS.out _) ?_;rintro e w1 ⟨rfl,rfl⟩)
  |(go_at_call 59;refine aq (HF.out _ ht h3) ?_;rintro e w2 ⟨rfl,hs2,hb2⟩;have hadd:=HA.out hs2)
  |(go_at_call 61;rw[show(8:Int)-(d.length:Int)=((8-d.length:Nat):Int) from by omega];refine aq (HR.out _) ?_;rintro e w3 ⟨rfl,hb3⟩))
 go_ret
 exact⟨AZ HP.out,hb2.trans (hb3.mono hb2.size)⟩
end
section
open Go.RowKit
theorem Ir(d:Nat)(ok:Nat->Prop)(f:aW)(bl off n cap:Nat)(q:Nat)(fs:List FV)(x:Bx)(w:World)(hT:iw ok w (d+1) q fs x)(hval:∀u∈fs,aj u.f=true)(T8:aj f=true)(hok:∀b,ok b->b<w.heap.size)(CD:ok bl)(hp:cZ w.heap.size w bl off f.ps)(hn:n=f.ps.length)(hn1:1<=n)(hn2:n<=6)(hcap:n<=cap):
  Calls prog 31 #[.agg #[.pointer (some ⟨q,0,none⟩)],.agg #[.int .i64 f.id,.int .i64 f.kd,.int .i64 f.ht,.int .i64 f.col,.slice (some ⟨bl,off,none⟩) n cap]] w λe w'=>∃(q' d':Nat) (x':Bx) (fs':List FV),e=.returned (.agg #[.pointer (some ⟨q',0,none⟩)])/\iw (iM ok w.heap.size w'.heap.size) w' (d'+1) q' fs' x'/\fs'.Perm (fs++[⟨f,bl,off,cap⟩])/\Below w.heap.size w w':=by
 have Hp:=af hp
 have Hn:=af hn
 have hbl:=hp.1
 have Ia:=af hok
 have RP:=af CD
 have HT:=af hT
 have z_:Hid ((∀u∈fs,aj u.f=true)/\aj f=true):=⟨hval,T8⟩
 clear hp hn hok CD hT hval T8
 obtain⟨id,kd,ht,col,ps⟩:=f
 dsimp only at Hp Hn z_⊢
 have hB:∀o1 o2 o3:Obj,Below w.heap.size w (((w.alloc o1).alloc o2).alloc o3):=λo1 o2 o3=>(aU.alloc (by simp) _).alloc (by simp;omega) _
 go_enter func31,ntmps31
 go_upto_region 1 with fail
 go_cut [5] (λv wc=>∃ql,v=.pointer (some ⟨ql,0,none⟩)/\ql<wc.heap.size/\iy (iM ok (w.heap.size+3) wc.heap.size) wc ql ⟨⟨id,kd,ht,col,ps⟩,bl,off,cap⟩/\wc.cell? ⟨w.heap.size,0,none⟩=some (.pointer (some ⟨q,0,none⟩))/\wc.cell? ⟨w.heap.size+1+1,0,none⟩=some (.pointer none)/\wc.frozen? ⟨w.heap.size+1+1,0,none⟩=false/\Below w.heap.size w wc/\w.heap.size+3<=wc.heap.size)
 case first=>
  go_region_held3 (λw'=>w'.cell? ⟨w.heap.size+1,0,none⟩=some (.int .i64 id)/\w'.cell? ⟨w.heap.size+1,1,none⟩=some (.int .i64 kd)/\w'.cell? ⟨w.heap.size+1,2,none⟩=some (.int .i64 ht)/\w'.cell? ⟨w.heap.size+1,3,none⟩=some (.int .i64 col)/\w'.cell? ⟨w.heap.size+1,4,none⟩=some (.slice (some ⟨bl,off,none⟩) n cap)) (first|(simp[go_sem, *];done)|exact s2)
   (first
   |(go_at_call 53;refine(nU bl off n cap ps _ ((Hp.out.below (hB _ _ _).drew).mono (by simp;omega)) Hn.out hn1 (by omega) hcap).mono ?_;rintro e w2 ⟨rfl,hb2⟩;obtain⟨hc2,hf2⟩:=eF hb2;have s2:=And.intro ((hc2 (w.heap.size+1) 0 (by simp<;>omega)).trans (show _=some (Value.int .i64 id) from(by simp[go_sem]))) (And.intro ((hc2 (w.heap.size+1) 1 (by simp<;>omega)).trans (show _=some (Value.int .i64 kd) from(by simp[go_sem]))) (And.intro ((hc2 (w.heap.size+1) 2 (by simp<;>omega)).trans (show _=some (Value.int .i64 ht) from(by simp[go_sem]))) (And.intro ((hc2 (w.heap.size+1) 3 (by simp<;>omega)).trans (show _=some (Value.int .i64 col) from(by simp[go_sem]))) ((hc2 (w.heap.size+1) 4 (by simp<;>omega)).trans (show _=some (Value.slice (some ⟨bl,off,none⟩) n cap) from(by simp[go_sem]))))));have r0:w2.cell? ⟨w.heap.size,0,none⟩=some (Value.pointer (some ⟨q,0,none⟩)):=(hc2 w.heap.size 0 (by simp<;>omega)).trans (by simp[go_sem]);have r1:w2.cell? ⟨w.heap.size+1+1,0,none⟩=some (Value.pointer none):=(hc2 (w.heap.size+1+1) 0 (by simp<;>omega)).trans (by simp[go_sem]);have r2:w2.frozen? ⟨w.heap.size+1+1,0,none⟩=false:=(hf2 (w.heap.size+1+1) 0 (by simp<;>omega)).trans (by simp[go_sem]);have hz2:w.heap.size+3<=w2.heap.size:=(by have:=hb2.size;simp at this;omega);have hz3:w.heap.size+1<w2.heap.size:=(by omega);have hB2:Below w.heap.size w w2:=(hB _ _ _).drew.trans (hb2.mono (by simp<;>omega));clear hc2 hf2 hb2))
  all_goals
   go_wp2_with fail
   go_meet
   have hA:∀o:Obj,Below w2.heap.size w2 (w2.alloc o):=λo=>bK.alloc aM o
   refine⟨w2.heap.size,rfl,by simp,?_,((hA _).cell (p:=⟨w.heap.size,0,none⟩) (show w.heap.size<w2.heap.size by omega)).trans r0,((hA _).cell (p:=⟨w.heap.size+1+1,0,none⟩) (show w.heap.size+1+1<w2.heap.size by omega)).trans r1,((hA _).frozen (p:=⟨w.heap.size+1+1,0,none⟩) (show w.heap.size+1+1<w2.heap.size by omega)).trans r2,hB2.alloc (by omega) _,by simp;omega⟩
   have h:=CU w2 ⟨id,kd,ht,col,ps⟩ (iM ok (w.heap.size+3) (w2.heap.size+1)) bl off cap (.inl RP.out) (.inr ⟨by omega,by omega⟩) ((Hp.out.below hB2).mono (by omega)) (by rw[<-Hn.out];exact hcap)
   rw[World.size_alloc,Hn.out]
   exact h
 case rest=>
  obtain⟨ql,rfl,Rs,CB,r0,r1,r2,hB1,hz1⟩:=hcut
  have BD:=af CB
  clear CB
  have Ru:w.heap.size+1+1<wc.heap.size:=by omega
  have SZ:∀b,iM ok (w.heap.size+3) wc.heap.size b->b<wc.heap.size:=λb hb=>hb.elim (λh=>Nat.lt_of_lt_of_le (Ia.out b h) (by omega)) (λh=>h.2)
  have HW:Hid (Calls prog 55 #[.pointer (some ⟨q,0,none⟩),.pointer (some ⟨ql,0,none⟩)] wc (dA (iM ok (w.heap.size+3) wc.heap.size) (d+1) (fs++[⟨⟨id,kd,ht,col,ps⟩,bl,off,cap⟩]) wc)):=
   DJ d (iM ok (w.heap.size+3) wc.heap.size) q ql fs x ⟨⟨id,kd,ht,col,ps⟩,bl,off,cap⟩ wc ((HT.out.same (Same.of_below hB1 Ia.out)).mono (λb hb=> .inl hb)) SZ ⟨_,rfl,rfl,BD.out⟩ z_.out.1 z_.out.2
  have aaq:=af SZ
  clear SZ
  have iG:∀(w4:World) (p d':Nat) (y:Bx) (fs':List FV),iw (iM ok (w.heap.size+3) w4.heap.size) w4 (d'+1) p fs' y->fs'.Perm (fs++[⟨⟨id,kd,ht,col,ps⟩,bl,off,cap⟩])->Below wc.heap.size wc w4->
    ∃(q' d':Nat) (x':Bx) (fs':List FV),Ending.returned (.agg #[.pointer (some ⟨p,0,none⟩)])=.returned (.agg #[.pointer (some ⟨q',0,none⟩)])/\iw (iM ok w.heap.size (w4.setCell ⟨w.heap.size+1+1,0,none⟩ (.pointer (some ⟨p,0,none⟩))).heap.size) (w4.setCell ⟨w.heap.size+1+1,0,none⟩ (.pointer (some ⟨p,0,none⟩))) (d'+1) q' fs' x'/\fs'.Perm (fs++[⟨⟨id,kd,ht,col,ps⟩,bl,off,cap⟩])/\Below w.heap.size w (w4.setCell ⟨w.heap.size+1+1,0,none⟩ (.pointer (some ⟨p,0,none⟩))):=λw4 p d' y fs' YM hperm hb4=>by
   have hS:Below w.heap.size w4 (w4.setCell ⟨w.heap.size+1+1,0,none⟩ (.pointer (some ⟨p,0,none⟩))):=bK.setCell (p:=⟨w.heap.size+1+1,0,none⟩) (show w.heap.size<=w.heap.size+1+1 by omega) _
   exact⟨p,d',y,fs',rfl,(YM.same (nL w4 (w.heap.size+1+1) 0 _ (λh=>h.elim (λh=>by have:=Ia.out _ h;omega) (λh=>by omega)))).mono (λb hb=>hb.elim .inl λh=> .inr ⟨by omega,Nat.lt_of_lt_of_le h.2 (by simp)⟩),hperm,hB1.trans ((hb4.mono (by omega)).trans hS)⟩
  have OS:Hid _:=iG
  clear iG
  go_upto_region 5 with(go_at_call 55;refine aq HW.out ?_;intro e w3 hpost;obtain⟨s,m,rfl,XT,hs3,hb3⟩:=hpost.split;clear hpost;dsimp only)
  have t1:w3.cell? ⟨w.heap.size+1+1,0,none⟩=some (.pointer none):=(hb3.cell (p:=⟨w.heap.size+1+1,0,none⟩) Ru).trans r1
  have t2:w3.frozen? ⟨w.heap.size+1+1,0,none⟩=false:=(hb3.frozen (p:=⟨w.heap.size+1+1,0,none⟩) Ru).trans r2
  have hsz:=hb3.size
  obtain⟨pk,qd,hm,hps,P5,hs1,hrow,SG,hperm⟩:=XT.out
  have T7:∀b,iM (iM ok (w.heap.size+3) wc.heap.size) wc.heap.size w3.heap.size b->iM ok (w.heap.size+3) w3.heap.size b:=λb hb=>hb.elim (λh=>h.elim .inl (λh=> .inr ⟨h.1,by omega⟩)) (λh=> .inr ⟨by omega,h.2⟩)
  rcases hm with rfl|rfl
  ·obtain⟨⟨p,y⟩,rfl⟩:∃p,pk=[p]:=List.length_eq_one_iff.1 hps
   obtain⟨tt,rfl⟩:∃c,qd=[c]:=List.length_eq_one_iff.1 P5
   have OE:=hrow 0 (p,y) rfl
   have HT3:Hid (iw (iM ok (w.heap.size+3) w3.heap.size) w3 (d+1) p tt y):=(SG 0 p y tt rfl rfl).mono T7
   have XO:Hid (tt.Perm (fs++[⟨⟨id,kd,ht,col,ps⟩,bl,off,cap⟩])):=by
    have:=hperm
    simp only[List.flatten_cons,List.flatten_nil,List.append_nil]at this
    exact this
   clear hrow SG hperm XT HW
   dsimp only at OE
   go_wp2
   exact bodyPost_ret (v:=.agg #[.pointer (some ⟨p,0,none⟩)]) (by simp[results,results31,go_sem,t1]) rfl (OS.out w3 p d y tt HT3.out XO.out hb3)
  ·have HKA:Hid (ew w3.heap.size w3 s 0 pk):=⟨hs3,λi p y e=>by
    obtain⟨t,ht⟩:∃t,qd[i]? =some t:=⟨qd[i]'(by have:=(List.getElem?_eq_some_iff.1 e).1;omega),List.getElem?_eq_getElem _⟩
    have hT:=SG i p y t e ht
    exact⟨by rw[Nat.zero_add];exact hrow i (p,y) e,(T7 _ hT.lt).elim (λh=>Nat.lt_of_lt_of_le (Ia.out _ h) (by omega)) (λh=>h.2),hT.c4⟩⟩
   have eo:Hid ((∀(i:Nat) p,pk[i]? =some p->w3.cell? ⟨s,i,none⟩=some (.pointer (some ⟨p.1,0,none⟩)))/\(∀(i:Nat) p y t,pk[i]? =some (p,y)->qd[i]? =some t->iw (iM ok (w.heap.size+3) w3.heap.size) w3 (d+1) p t y)/\qd.flatten.Perm (fs++[⟨⟨id,kd,ht,col,ps⟩,bl,off,cap⟩])):=⟨hrow,λi p y t e e'=>(SG i p y t e e').mono T7,hperm⟩
   have Q7:Hid (2=pk.length/\qd.length=2):=⟨hps.symm,P5⟩
   clear hrow SG hperm XT HW hps P5
   go_wp2_with (go_at_call 54;refine(nI s 0 2 2 pk _ HKA.out Q7.out.1 (by decide) (by decide) (by decide)).mono ?_;rintro e w4 ⟨p,rfl,hp1,jy,WY,Zm,hb4⟩;have u1:w4.cell? ⟨w.heap.size+1+1,0,none⟩=some (.pointer none):=(hb4.cell (p:=⟨w.heap.size+1+1,0,none⟩) (show w.heap.size+1+1<w3.heap.size by omega)).trans t1;have u2:w4.frozen? ⟨w.heap.size+1+1,0,none⟩=false:=(hb4.frozen (p:=⟨w.heap.size+1+1,0,none⟩) (show w.heap.size+1+1<w3.heap.size by omega)).trans t2)
   have aaW:=hb4.size
   have hlt3:∀b,iM ok (w.heap.size+3) w3.heap.size b->b<w3.heap.size:=λb hb=>hb.elim (λh=>Nat.lt_of_lt_of_le (Ia.out b h) (by omega)) (λh=>h.2)
   have ZJ:∀b,iM ok (w.heap.size+3) w3.heap.size b->iM ok (w.heap.size+3) w4.heap.size b:=λb hb=>hb.elim .inl (λh=> .inr ⟨h.1,by omega⟩)
   have YM:iw (iM ok (w.heap.size+3) w4.heap.size) w4 (d+1+1) p qd.flatten (bZ pk):=by
    have hin:∀(i:Nat) p y t,pk[i]? =some (p,y)->qd[i]? =some t->iw (iM ok (w.heap.size+3) w4.heap.size) w4 (d+1) p t y:=λi p y t e e'=>((eo.out.2.1 i p y t e e').same (Same.of_below hb4 hlt3)).mono ZJ
    refine⟨.inr ⟨by omega,jy⟩,WY,s,0,2,pk,qd,by rw[<-Q7.out.1];exact Zm,by intro e;have:=Q7.out.1;rw[e]at this;simp at this,by have:=Q7.out.1;omega,by have:=Q7.out.1;omega,⟨.inr ⟨by omega,by omega⟩,λi q y e=>?_⟩,by rw[Q7.out.2,<-Q7.out.1],hin,rfl,rfl⟩
    obtain⟨t,ht⟩:∃t,qd[i]? =some t:=⟨qd[i]'(by have:=(List.getElem?_eq_some_iff.1 e).1;have:=Q7.out;omega),List.getElem?_eq_getElem _⟩
    have hT:=hin i q y t e ht
    exact⟨by rw[Nat.zero_add];exact(hb4.cell (p:=⟨s,i,none⟩) hs3).trans (eo.out.1 i (q,y) e),hT.lt,hT.c4⟩
   exact bodyPost_ret (v:=.agg #[.pointer (some ⟨p,0,none⟩)]) (by simp[results,results31,go_sem,u1]) rfl (OS.out w4 p (d+1) (bZ pk) qd.flatten YM eo.out.2.2 (hb3.trans (hb4.mono hsz)))
end
section
open Go.RowKit Go.Shelf
def aT(ok:Nat->Prop)(w:World)(ro:Option Addr)(vs:List FV):Prop:=
 (ro=none/\vs=[])\/∃(d q:Nat) (x:Bx) (us:List FV),ro=some ⟨q,0,none⟩/\iw ok w (d+1) q us x/\us.Perm vs
variable {ro:Option Addr}
theorem aT.same{ok:Nat->Prop}{A B:World}{vs:List FV}(h:aT ok A ro vs)(hs:Same ok A B):aT ok B ro vs:=
 h.elim .inl λ⟨d,q,x,us,e,hT,hp⟩=> .inr ⟨d,q,x,us,e,hT.same hs,hp⟩
variable {w:World}
theorem aT.mono{ok ok':Nat->Prop}{vs:List FV}(h:aT ok w ro vs)(hs:∀b,ok b->ok' b):aT ok' w ro vs:=
 h.elim .inl λ⟨d,q,x,us,e,hT,hp⟩=> .inr ⟨d,q,x,us,e,hT.mono hs,hp⟩
theorem vG(ok:Nat->Prop)(v:FV)(ro:Option Addr)(vs:List FV)(w:World)(hR:aT ok w ro vs)(hval:∀u∈vs,aj u.f=true)(T8:aj v.f=true)(hok:∀b,ok b->b<w.heap.size)(CD:ok v.pb)(hp:cZ w.heap.size w v.pb v.po v.f.ps)(hcap:v.f.ps.length<=v.cap):
  Calls prog 31 #[.agg #[.pointer ro],.agg #[.int .i64 v.f.id,.int .i64 v.f.kd,.int .i64 v.f.ht,.int .i64 v.f.col,.slice (some ⟨v.pb,v.po,none⟩) v.f.ps.length v.cap]] w λe w'=>∃lz:Option Addr,e=.returned (.agg #[.pointer lz])/\aT (iM ok w.heap.size w'.heap.size) w' lz (vs++[v])/\Below w.heap.size w w':=by
 have hlen:1<=v.f.ps.length/\v.f.ps.length<=6:=by
  simp only[aj,Bool.and_eq_true]at T8
  have:=T8.1.2
  simp[fS]at this;omega
 rcases hR with⟨rfl,rfl⟩|⟨d,q,x,us,rfl,hT,hperm⟩
 ·refine(Ll ok v.f v.pb v.po v.f.ps.length v.cap w hok CD hp rfl hlen.1 hlen.2 hcap).mono ?_
  rintro e w' ⟨q,x,rfl,hT,hb⟩
  exact⟨_,rfl,.inr ⟨0,q,x,[v],rfl,hT,by simp⟩,hb⟩
 ·refine(Ir d ok v.f v.pb v.po v.f.ps.length v.cap q us x w hT (λu hu=>hval u (hperm.mem_iff.1 hu)) T8 hok CD hp rfl hlen.1 hlen.2 hcap).mono ?_
  rintro e w' ⟨q',d',x',fs',rfl,UR,hp',hb⟩
  exact⟨_,rfl,.inr ⟨d',q',x',fs',rfl,UR,hp'.trans (hperm.append_right [v])⟩,hb⟩
theorem Oh{z c r:Int}(_h:cC z c r=true):0<=pZ z:=by unfold pZ;split<;>(try split)<;>(try split)<;>omega
theorem G7(ok:Nat->Prop)(ro:Option Addr)(vs:List FV)(z c r:Int)(w:World)(hok:∀b,ok b->b<w.heap.size)(hR:aT ok w ro vs)(hg:∀v∈vs,Good ok w v)(hd:KC vs)(ht:cC z c r=true):
  Calls prog 32 #[.agg #[.pointer ro],.agg #[.int .i64 z,.int .i64 c,.int .i64 r]] w λe w'=>e=.returned (.string ⟨(iO vs (pZ z) c r).toArray⟩)/\Below w.heap.size w w':=by
 obtain⟨hz,h1,h2,h3,h4,hc,hr⟩:=j7 ht
 have hv:∀v∈vs,aj v.f=true:=λv h=>(hg v h).1
 rcases hR with⟨rfl,rfl⟩|⟨d,q,x,us,rfl,hT,hperm⟩
 ·have:=Bg none (λn=>IL [] (pZ z) c r n) z (pZ z) c r w (λk W _ hW=>Ez _ W) (λn=>by simp[IL,aN,j6]) hz h1 h2 h3 h4 hc hr
  rwa[body_eq (List.Perm.refl []) hd hv (Oh ht)]at this
 ·have hgu:∀v∈us,Good ok w v:=λv h=>hg v (hperm.mem_iff.1 h)
  have:=Bg (some ⟨q,0,none⟩) (λn=>IL us (pZ z) c r n) z (pZ z) c r w (λk W hk hW=>by
   obtain⟨p1,p2,p3,p4,p5,p6,p7,p8⟩:=Nr hz h1 h3 hc hr k hk
   exact Ey ok (d+1) q us (dX (pZ z) c r k) x W (λb hb=>Nat.lt_of_lt_of_le (hok b hb) hW.size) (hT.same (Same.of_below hW hok)) (λv h=>Good.below hW hok (hgu v h)) p1 p2 p3 p4 p5 p6 p7 p8) (λn=>uS _ _ (λu hu=>(hgu u (List.mem_filter.1 hu).1).1)) hz h1 h2 h3 h4 hc hr
  rwa[body_eq hperm hd hv (Oh ht)]at this
end
end Go.Proofs.YtenaepdmlknlcaaGreatDoor
