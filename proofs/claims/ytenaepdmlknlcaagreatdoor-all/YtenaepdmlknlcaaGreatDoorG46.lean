import Derived.Test.YtenaepdmlknlcaaGreatDoorG44
import Derived.Test.YtenaepdmlknlcaaGreatDoorG45
open Go.Proofs.Tryz
set_option maxRecDepth 100000
set_option maxHeartbeats 8000000
namespace Go.Proofs.YtenaepdmlknlcaaGreatDoor
section
open Go.RowKit Go.Shelf
variable {w:World} {b0 size n c:Nat} {e:TypeId} {xs:List Value}
theorem ak.pos{a:Option Addr}(h:ak w b0 e size (.slice a n c) n xs)(hn:0<n):∃g off,a=some ⟨g,off,none⟩:=by
 rcases h.2 with⟨_,e2⟩|⟨g,off,cap,cur,e1,_⟩
 ·omega
 ·exact⟨g,off,by injection e1⟩
theorem nD(e:Int)(w:World):Calls prog 37 #[.int .i64 e] w λr w'=>r=.returned (.int .i64 e)/\w'=w:=by
 go_enter func37,ntmps37
 go_wp2
 go_ret
 exact⟨rfl,rfl⟩
def Fk(c n:Int):Int:=(if c<0 then-(c+1)else c)%n
theorem AK(c n:Int)(hn:0<n):0<=Fk c n/\Fk c n<n:=⟨Int.emod_nonneg _ (by omega),Int.emod_lt_of_pos _ hn⟩
theorem Jz(c n:Int)(h0: -9223372036854775808<=c)(h1:c<=9223372036854775807)(hn:0<n)(hn2:n<=1000000000000)(w:World):
  Calls prog 68 #[.int .i64 c,.int .i64 n] w λe w'=>e=.returned (.int .i64 (Fk c n))/\w'=w:=by
 have hn0:¬n=0:=by omega
 by_cases h:c<0
 ·have hm:(-(c+1)).tmod n=Fk c n:=by rw[Int.tmod_eq_emod_of_nonneg (by omega),Fk,if_pos h]
  have hb:=AK c n hn
  go_enter func68,ntmps68
  go_wp2
  go_ret
  exact⟨rfl,rfl⟩
 ·have hm:c.tmod n=Fk c n:=by rw[Int.tmod_eq_emod_of_nonneg (by omega),Fk,if_neg h]
  have hb:=AK c n hn
  go_enter func68,ntmps68
  go_wp2
  go_ret
  exact⟨rfl,rfl⟩
theorem sV(L A B:Nat)(n c:Int)(m:Nat)(hm:m<=4000000)(xs:List ByteArray)(VN:xs.length=m)(w:World)(N:Nat->Nat->Prop)(hN:∀b i,N b i->b<w.heap.size)(P1 P2:Option Addr->Nat->World->Prop)(P3:World->Prop)
  (UO:∀la lc w1 w2,P2 la lc w1->Below w1.heap.size w1 w2->P2 la lc w2)
  (h1:∀W:World,Below w.heap.size w W->Calls prog 44 #[.pointer (some ⟨A,0,none⟩),.int .i64 n] W λe w1=>∃la lc,e=.returned (.tuple #[.slice la m lc,.int .i64 c])/\P1 la lc w1/\Fr N W w1)
  (h2:∀la lc w1,P1 la lc w1->Calls prog 115 #[.pointer (some ⟨B,0,none⟩),.int .i64 n] w1 λe w2=>∃ra rc,e=.returned (.tuple #[.slice ra m rc,.int .i64 c])/\ak w2 0 9 1 (.slice la m lc) m (xs.map .string)/\ak w2 0 9 1 (.slice ra m rc) m (xs.map .string)/\P2 la lc w2)
  (h3:∀la lc w1,P2 la lc w1->Calls prog 116 #[.pointer (some ⟨L,0,none⟩),.slice la m lc] w1 λe w2=>e=.returned (.tuple #[])/\P3 w2):
  Calls prog 71 #[.pointer (some ⟨L,0,none⟩),.agg #[.pointer (some ⟨A,0,none⟩),.pointer (some ⟨B,0,none⟩)],.int .i64 n] w λe w'=>e=.returned (.bool true)/\P3 w':=by
 have H1:=af h1
 have H2:=af h2
 have H3:=af h3
 have D7:=af UO
 have HN:=af hN
 have eY:Hid (∀(e:Int) (W:World),Calls prog 37 #[.int .i64 e] W λr w'=>r=.returned (.int .i64 e)/\w'=W):=nD
 have X_:=af VN
 clear h1 h2 h3 UO hN VN
 go_enter func71,ntmps71
 go_wp2_with (first
  |(go_at_call 44;refine aq (H1.out _ aU) ?_;rintro e w1 ⟨la,lc,rfl,hp1,iL⟩;dsimp only;have QY:=af hp1;have q1:w1.cell? ⟨w.heap.size,1,none⟩=some (.pointer (some ⟨B,0,none⟩)):=(iL.cell w.heap.size 1 (by simp) (λe=>by have:=HN.out _ _ e;omega)).trans (by simp[go_sem]);clear hp1 iL)
  |(go_at_call 115;refine aq (H2.out la lc _ QY.out) ?_;rintro e w2 ⟨ra,rc,rfl,ho1,ho2,jy⟩;dsimp only;have Ga:=af ho1;have DN:=af ho2;have RJ:=af jy;clear ho1 ho2 jy)
  |(go_at_call 37;refine aq (eY.out _ _) ?_;rintro e w3 ⟨rfl,hw⟩;subst w3;dsimp only))
 go_loopw [11,12] (λNj iv wr=>∃k:Nat,k<=m/\Nj=.bool true/\iv=.int .i64 (k:Int)/\Below w2.heap.size w2 wr) (λ_ iv _=>m-(intOf iv).toNat)
 case atStart=>exact⟨0,by omega,rfl,rfl,bK⟩
 case round=>
  obtain⟨k,hk,rfl,rfl,hB⟩:=hrel
  have HB:=af hB
  by_cases hlt:k<m
  ·obtain⟨x,hx⟩:∃x,xs[k]? =some x:=⟨xs[k]'(by rw[X_.out];exact hlt),List.getElem?_eq_getElem _⟩
   obtain⟨g1,o1,rfl⟩:=Ga.out.pos (by omega)
   obtain⟨g2,o2,rfl⟩:=DN.out.pos (by omega)
   have z1:wr.cell? ⟨g1,o1+k,none⟩=some (.string x):=(Ga.out.below hB).Pt (by rw[List.getElem?_map,hx];rfl)
   have z2:wr.cell? ⟨g2,o2+k,none⟩=some (.string x):=(DN.out.below hB).Pt (by rw[List.getElem?_map,hx];rfl)
   have lU:(k:Int)<(m:Int):=by omega
   have hk0:¬(k:Int)<0:=by omega
   clear hx hB
   go_wp2_with fail
   go_quiet (fail)
   go_wp2
   go_roundw
   case rel=>exact⟨k+1,by omega,rfl,by go_num,Below.iF HB.out _⟩
   case measure=>simp[intOf];omega
  ·have lU:¬(k:Int)<(m:Int):=by omega
   clear hB
   go_wp2_with (go_at_call 116;refine aq (H3.out la lc _ (D7.out _ _ _ _ RJ.out HB.out)) ?_;rintro e w5 ⟨rfl,Vy⟩;dsimp only;have XN:=af Vy;clear Vy)
   go_ret
   exact⟨rfl,XN.out⟩
theorem wh:∀{l:List Tl} {i:Nat} {t:Tl},l[i]? =some t->∀j,j<3->(eP l)[i*3+j]? =([.int .i64 t.z,.int .i64 t.c,.int .i64 t.r]:List Value)[j]?
 |[],i,t,h,_,_=>by simp at h
 |y::l,0,t,h,j,hj=>by
  simp at h;subst h
  match j,hj with
  |0,_=>rfl
  |1,_=>rfl
  |2,_=>rfl
 |y::l,i+1,t,h,j,hj=>by
  have:=wh (l:=l) (i:=i) (t:=t) (by simpa using h) j hj
  rw[<-this,show(i+1)*3+j=(i*3+j)+3 by omega]
  rfl
theorem CO(L A B:Nat)(n c:Int)(m:Nat)(hm:m<=4000000)(xs:List Tl)(VN:xs.length=m)(w:World)(N:Nat->Nat->Prop)(hN:∀b i,N b i->b<w.heap.size)(P1 P2:Option Addr->Nat->World->Prop)(P3:World->Prop)
  (UO:∀la lc w1 w2,P2 la lc w1->Below w1.heap.size w1 w2->P2 la lc w2)
  (h1:∀W:World,Below w.heap.size w W->Calls prog 27 #[.pointer (some ⟨A,0,none⟩),.int .i64 n] W λe w1=>∃la lc,e=.returned (.tuple #[.slice la m lc,.int .i64 c])/\P1 la lc w1/\Fr N W w1)
  (h2:∀la lc w1,P1 la lc w1->Calls prog 117 #[.pointer (some ⟨B,0,none⟩),.int .i64 n] w1 λe w2=>∃ra rc,e=.returned (.tuple #[.slice ra m rc,.int .i64 c])/\ak w2 0 24 3 (.slice la m lc) m (eP xs)/\ak w2 0 24 3 (.slice ra m rc) m (eP xs)/\P2 la lc w2)
  (h3:∀la lc w1,P2 la lc w1->Calls prog 118 #[.pointer (some ⟨L,0,none⟩),.slice la m lc] w1 λe w2=>e=.returned (.tuple #[])/\P3 w2):
  Calls prog 73 #[.pointer (some ⟨L,0,none⟩),.agg #[.pointer (some ⟨A,0,none⟩),.pointer (some ⟨B,0,none⟩)],.int .i64 n] w λe w'=>e=.returned (.bool true)/\P3 w':=by
 have H1:=af h1
 have H2:=af h2
 have H3:=af h3
 have D7:=af UO
 have HN:=af hN
 have eY:Hid (∀(e:Int) (W:World),Calls prog 37 #[.int .i64 e] W λr w'=>r=.returned (.int .i64 e)/\w'=W):=nD
 have X_:=af VN
 clear h1 h2 h3 UO hN VN
 go_enter func73,ntmps73
 go_wp2_with (first
  |(go_at_call 27;refine aq (H1.out _ aU) ?_;rintro e w1 ⟨la,lc,rfl,hp1,iL⟩;dsimp only;have QY:=af hp1;have q1:w1.cell? ⟨w.heap.size,1,none⟩=some (.pointer (some ⟨B,0,none⟩)):=(iL.cell w.heap.size 1 (by simp) (λe=>by have:=HN.out _ _ e;omega)).trans (by simp[go_sem]);clear hp1 iL)
  |(go_at_call 117;refine aq (H2.out la lc _ QY.out) ?_;rintro e w2 ⟨ra,rc,rfl,ho1,ho2,jy⟩;dsimp only;have Ga:=af ho1;have DN:=af ho2;have RJ:=af jy;clear ho1 ho2 jy)
  |(go_at_call 37;refine aq (eY.out _ _) ?_;rintro e w3 ⟨rfl,hw⟩;subst w3;dsimp only))
 go_loopw [11,12] (λNj iv wr=>∃k:Nat,k<=m/\Nj=.bool true/\iv=.int .i64 (k:Int)/\Below w2.heap.size w2 wr) (λ_ iv _=>m-(intOf iv).toNat)
 case atStart=>exact⟨0,by omega,rfl,rfl,bK⟩
 case round=>
  obtain⟨k,hk,rfl,rfl,hB⟩:=hrel
  have HB:=af hB
  by_cases hlt:k<m
  ·obtain⟨x,hx⟩:∃x,xs[k]? =some x:=⟨xs[k]'(by rw[X_.out];exact hlt),List.getElem?_eq_getElem _⟩
   obtain⟨g1,o1,rfl⟩:=Ga.out.pos (by omega)
   obtain⟨g2,o2,rfl⟩:=DN.out.pos (by omega)
   have z1:=λj hj=>((Ga.out.below hB).cell (j:=k*3+j) (by omega)).trans (wh hx j hj)
   have z2:=λj hj=>((DN.out.below hB).cell (j:=k*3+j) (by omega)).trans (wh hx j hj)
   have y0:wr.cell? ⟨g1,o1+k*3,none⟩=some (.int .i64 x.z):=z1 0 (by omega)
   have y1:wr.cell? ⟨g1,o1+k*3+1,none⟩=some (.int .i64 x.c):=z1 1 (by omega)
   have y2:wr.cell? ⟨g1,o1+k*3+2,none⟩=some (.int .i64 x.r):=z1 2 (by omega)
   have u0:wr.cell? ⟨g2,o2+k*3,none⟩=some (.int .i64 x.z):=z2 0 (by omega)
   have u1:wr.cell? ⟨g2,o2+k*3+1,none⟩=some (.int .i64 x.c):=z2 1 (by omega)
   have u2:wr.cell? ⟨g2,o2+k*3+2,none⟩=some (.int .i64 x.r):=z2 2 (by omega)
   have lU:(k:Int)<(m:Int):=by omega
   have hk0:¬(k:Int)<0:=by omega
   clear hx hB z1 z2
   go_wp2_with fail
   go_quiet (fail)
   go_wp2
   go_roundw
   case rel=>exact⟨k+1,by omega,rfl,by go_num,Below.iF HB.out _⟩
   case measure=>simp[intOf];omega
  ·have lU:¬(k:Int)<(m:Int):=by omega
   clear hB
   go_wp2_with (go_at_call 118;refine aq (H3.out la lc _ (D7.out _ _ _ _ RJ.out HB.out)) ?_;rintro e w5 ⟨rfl,Vy⟩;dsimp only;have XN:=af Vy;clear Vy)
   go_ret
   exact⟨rfl,XN.out⟩
theorem P7:(prog.info? 161).map (λi=>(i.zero,i.size,i.bytes))=some (some (.agg #[.pointer none,.pointer none]),2,16):=by kernel_rfl
structure Gg(L:Nat)(lab:Nat->Lb)(ps:List (Nat×Nat))(n:Int)(X W Y M:List Value)(A B:Nat)(w2 w':World)(aB:Nat->Lb)(V':jA):Prop where
 rows:aI w' L aB V' (ps++[(A,B)]) n X W Y M
 old:∀b,lab b≠.no->aB b=lab b
 new:∀b,lab b=.no->aB b≠.no->aB b=.law/\w2.heap.size<=b/\b<w'.heap.size
 f:Fr (λb _=>lab b=.law) w2 w'
variable {L:Nat} {lab:Nat->Lb} {V:jA} {ps:List (Nat×Nat)} {w2 Wi w3:World}
theorem Tk{n:Int}{X W Y M:List Value}{A B:Nat}(h:aI Wi L lab V ps n X W Y M)(hlt:∀b,lab b≠.no->b<Wi.heap.size){v:Value}(ho:ak w3 0 161 2 v (ps.length+1) (td ps++[.pointer (some ⟨A,0,none⟩),.pointer (some ⟨B,0,none⟩)]))(hb:∀k,v.ownBlock=some k->V.vA.ownBlock=some k\/Wi.heap.size<=k)(hf:Fr (λc _=>V.vA.ownBlock=some c) Wi w3)(hB:Below w2.heap.size w2 Wi):Gg L lab ps n X W Y M A B w2 (w3.setCell ⟨L,0,none⟩ v) (bS lab v) {V with vA:=v}:=by
 obtain⟨h1,h2⟩:=h.VZ hlt (A,B) ho hb hf
 have hv:∀b,V.vA.ownBlock=some b->lab b=.law:=λb e=>(h.lw b (.inl e)).1
 refine⟨h1,jU hb hv hlt,λb e e2=>?_,(Fr.of_below hB).trans h2⟩
 obtain⟨f1,f2,f3⟩:=jT hb hv b e e2
 have:=hB.size
 exact⟨f1,by omega,by have:=(ho.lt f3).2;simpa[World.setCell]using this⟩
theorem Lx(L:Nat)(lab:Nat->Lb)(V:jA)(ps:List (Nat×Nat))(hps:ps.length<=4000000000000)(n:Int)(X W Y M:List Value)(room:Int)(w:World)(h:aI w L lab V ps n X W Y M)(hlt:∀b,lab b≠.no->b<w.heap.size)(P1:Nat->World->Prop)(P2:Nat->Nat->World->Prop)
  (h1:Calls prog 41 #[.int .i64 room] w λe w1=>∃A,e=.returned (.tuple #[.pointer (some ⟨A,0,none⟩),.int .i64 0])/\P1 A w1/\Below w.heap.size w w1)
  (h2:∀A w1,P1 A w1->Calls prog 110 #[.int .i64 room] w1 λe w2=>∃B,e=.returned (.tuple #[.pointer (some ⟨B,0,none⟩),.int .i64 0])/\P2 A B w2/\Below w1.heap.size w1 w2):
  Calls prog 67 #[.pointer (some ⟨L,0,none⟩),.int .i64 room] w λe w'=>e=.returned (.bool true)/\∃A B w2 aB V',P2 A B w2/\Below w.heap.size w w2/\Gg L lab ps n X W Y M A B w2 w' aB V':=by
 have HR:=af h
 have H_:=af hlt
 have H1:=af h1
 have H2:=af h2
 have eY:Hid (∀(e:Int) (W:World),Calls prog 37 #[.int .i64 e] W λr w'=>r=.returned (.int .i64 e)/\w'=W):=nD
 obtain⟨i161,eH,hz0,hz1,hz2⟩:=info_parts P7
 have HI:Hid (prog.info? 161=some i161/\i161.zero=some (.agg #[.pointer none,.pointer none])/\i161.size=2/\i161.bytes=16):=⟨eH,hz0,hz1,hz2⟩
 clear h hlt h1 h2 eH hz0 hz1 hz2
 go_enter func67,ntmps67
 go_wp2_with (first
  |(go_at_call 41;refine aq H1.out ?_;rintro e w1 ⟨A,rfl,hp1,hb1⟩;dsimp only;have QY:=af hp1;have eO:=af hb1;clear hp1 hb1)
  |(go_at_call 110;refine aq (H2.out A _ QY.out) ?_;rintro e w2 ⟨B,rfl,jy,hb2⟩;dsimp only;have D7:=af jy;have dm:Hid (Below w.heap.size w w2):=eO.out.trans (hb2.mono eO.out.size);have dP:Hid (aI w2 L lab V ps n X W Y M):=HR.out.fr (N:=λ_ _=>False) (Fr.of_below dm.out) (λ_ _ e=>e.elim) (λ_ e=>e);have c0:=dP.out.cA;have f0:=dP.out.f 0 (by decide);have xS:L<w2.heap.size:=dP.out.lt;clear jy hb2)
  |(go_at_call 37;refine aq (eY.out _ _) ?_;rintro e w3 ⟨rfl,hw⟩;subst w3;dsimp only)
  |(at_builtin;refine bR rfl (.tmp 36) (.tmp 40) 100 rfl 161 i161 (.agg #[.pointer none,.pointer none]) 2 16 underlying100 HI.out.1 HI.out.2.1 HI.out.2.2.1 HI.out.2.2.2 rfl (by decide) 0 (Nat.zero_le _) V.vA ps.length (td ps) rfl (dP.out.rA.below aU) ⟨w2.heap.size,0,none⟩ 1 1 [.pointer (some ⟨A,0,none⟩),.pointer (some ⟨B,0,none⟩)] rfl rfl (λj u hj=>by rw[addr_add,Nat.zero_add,bG];simpa using hj) (λu hu=>by simp only[List.mem_cons,List.not_mem_nil,or_false]at hu;rcases hu with hu|hu<;>(rw[hu];rfl)) (by unfold maxLen;omega) (by omega) ?_;intro v3 w3 ud hb3 hf3;obtain⟨a3,c3,rfl,_,_⟩:=ud.form;have TS:=dP.out.fr (N:=λ_ _=>False) (aB:=lab) (Fr.of_below (bK.alloc aM (.cells #[.pointer (some ⟨A,0,none⟩),.pointer (some ⟨B,0,none⟩)] 161))) (λ_ _ e=>e.elim) (λ_ e=>e);have d0:w3.cell? ⟨L,0,none⟩=some V.vA:=(TS.keep (λb e=> .inl e) hf3 0).1.trans TS.cA;have g0:w3.frozen? ⟨L,0,none⟩=false:=(TS.keep (λb e=> .inl e) hf3 0).2.trans (TS.f 0 (by decide));have O0:Hid (Gg L lab ps n X W Y M A B w2 (w3.setCell ⟨L,0,none⟩ (.slice a3 (ps.length+1) c3)) (bS lab (.slice a3 (ps.length+1) c3)) {V with vA:=.slice a3 (ps.length+1) c3}):=Tk TS (λb hb=>by have:=H_.out b hb;have:=dm.out.size;simp;omega) ud hb3 hf3 aU;clear TS ud hb3 hf3 c0 f0))
 go_ret
 exact⟨rfl,A,B,w2,_,_,D7.out,dm.out,O0.out⟩
theorem Lv(L:Nat)(room:Int)(w:World)
  (h1:Calls prog 41 #[.int .i64 room] w λe w1=>e=.returned (.tuple #[.pointer none,.int .i64 1])/\Below w.heap.size w w1)
  (h2:∀w1,Calls prog 110 #[.int .i64 room] w1 λe w2=>e=.returned (.tuple #[.pointer none,.int .i64 1])/\w2=w1):
  Calls prog 67 #[.pointer (some ⟨L,0,none⟩),.int .i64 room] w λe w'=>e=.returned (.bool true)/\Below w.heap.size w w':=by
 have H1:=af h1
 have H2:=af h2
 have eY:Hid (∀(e:Int) (W:World),Calls prog 37 #[.int .i64 e] W λr w'=>r=.returned (.int .i64 e)/\w'=W):=nD
 clear h1 h2
 go_enter func67,ntmps67
 go_wp2_with (first
  |(go_at_call 41;refine aq H1.out ?_;rintro e w1 ⟨rfl,hb1⟩;dsimp only;have eO:=af hb1;clear hb1)
  |(go_at_call 110;refine aq (H2.out _) ?_;rintro e w2 ⟨rfl,hw⟩;subst w2;dsimp only)
  |(go_at_call 37;refine aq (eY.out _ _) ?_;rintro e w3 ⟨rfl,hw⟩;subst w3;dsimp only))
 go_ret
 exact⟨rfl,eO.out⟩
theorem JQ(L:Nat)(on a:Int)(s:ByteArray)(w:World)(P:World->Prop)(h:∀W:World,Below w.heap.size w W->Calls prog 67 #[.pointer (some ⟨L,0,none⟩),.int .i64 a] W λe w'=>e=.returned (.bool true)/\P w'):
  Calls prog 39 #[.pointer (some ⟨L,0,none⟩),.agg #[.int .i64 1,.int .i64 on,.int .i64 a,.string s]] w λe w'=>e=.returned (.bool true)/\P w':=by
 have H:=af h
 clear h
 go_enter func39,ntmps39
 go_wp2_with (go_at_call 67;refine aq (H.out _ aU) ?_;rintro e w1 ⟨rfl,hp⟩;dsimp only;have HP:=af hp;clear hp)
 go_ret
 exact⟨rfl,HP.out⟩
theorem FA(L:Nat)(kd on a:Int)(hk:¬kd=1)(s:ByteArray)(va:Option Addr)(vc:Nat)(w:World)(c0:w.cell? ⟨L,0,none⟩=some (.slice va 0 vc)):
  Calls prog 39 #[.pointer (some ⟨L,0,none⟩),.agg #[.int .i64 kd,.int .i64 on,.int .i64 a,.string s]] w λe w'=>e=.returned (.bool true)/\Below w.heap.size w w':=by
 have W9:(kd==1)=false:=by simpa using hk
 have hL:=dz w ⟨L,0,none⟩ c0
 have hB0:∀o:Obj,Below w.heap.size w (w.alloc o):=λo=>aU
 go_enter func39,ntmps39
 go_wp2
 go_ret
 exact⟨rfl,hB0 _⟩
theorem FB(L g off len cap i A B:Nat)(kd on a:Int)(hk1:¬kd=1)(s:ByteArray)(hlen:0<len)(hi:i<len)(w:World)(c0:w.cell? ⟨L,0,none⟩=some (.slice (some ⟨g,off,none⟩) len cap))(cx:w.cell? ⟨g,off+i*2,none⟩=some (.pointer (some ⟨A,0,none⟩)))(cr:w.cell? ⟨g,off+i*2+1,none⟩=some (.pointer (some ⟨B,0,none⟩)))
  (hpk:∀W:World,Calls prog 68 #[.int .i64 on,.int .i64 (len:Int)] W λe w'=>e=.returned (.int .i64 (i:Int))/\w'=W)
  (N:Nat->Nat->Prop) (hN:∀b i,N b i->b<w.heap.size) (P:World->Prop) (hP:∀w1 w2,P w1->Below w1.heap.size w1 w2->P w2)
  (h2:kd=2->∃(c:Int) (P1:World->Prop),(∀w1 w2,P1 w1->Below w1.heap.size w1 w2->P1 w2)/\(∀W:World,Below w.heap.size w W->Calls prog 42 #[.pointer (some ⟨A,0,none⟩),.int .i64 a,.string s] W λe w1=>e=.returned (.int .i64 c)/\P1 w1/\Fr N W w1)/\∀w1,P1 w1->Calls prog 69 #[.pointer (some ⟨B,0,none⟩),.int .i64 a,.string s] w1 λe w2=>e=.returned (.int .i64 c)/\P w2/\Fr N w1 w2)
  (h3:kd=3->∃(b:Bool) (c:Int) (P1:World->Prop),(∀W:World,Below w.heap.size w W->Calls prog 43 #[.pointer (some ⟨A,0,none⟩),.int .i64 a] W λe w1=>e=.returned (.tuple #[.bool b,.int .i64 c])/\P1 w1/\Fr N W w1)/\∀w1,P1 w1->Calls prog 70 #[.pointer (some ⟨B,0,none⟩),.int .i64 a] w1 λe w2=>e=.returned (.tuple #[.bool b,.int .i64 c])/\P w2)
  (h4:kd=4->∀W:World,Below w.heap.size w W->Calls prog 71 #[.pointer (some ⟨L,0,none⟩),.agg #[.pointer (some ⟨A,0,none⟩),.pointer (some ⟨B,0,none⟩)],.int .i64 a] W λe w'=>e=.returned (.bool true)/\P w')
  (h5:kd=5->∃(v1:Int) (v2:Bool) (v3:Int),(∀W:World,Below w.heap.size w W->Calls prog 26 #[.pointer (some ⟨A,0,none⟩)] W λe w1=>e=.returned (.agg #[.int .i64 v1,.bool v2,.int .i64 v3])/\Below W.heap.size W w1)/\∀W:World,Below w.heap.size w W->Calls prog 72 #[.pointer (some ⟨B,0,none⟩)] W λe w1=>e=.returned (.agg #[.int .i64 v1,.bool v2,.int .i64 v3])/\Below W.heap.size W w1)
  (h6:kd=6->∀W:World,Below w.heap.size w W->Calls prog 73 #[.pointer (some ⟨L,0,none⟩),.agg #[.pointer (some ⟨A,0,none⟩),.pointer (some ⟨B,0,none⟩)],.int .i64 a] W λe w'=>e=.returned (.bool true)/\P w')
  (h0:¬(2<=kd/\kd<=6)\/kd=5->P w):
  Calls prog 39 #[.pointer (some ⟨L,0,none⟩),.agg #[.int .i64 kd,.int .i64 on,.int .i64 a,.string s]] w λe w'=>e=.returned (.bool true)/\P w':=by
 have H2:=af h2
 have H3:=af h3
 have H4:=af h4
 have H5:=af h5
 have H6:=af h6
 have H0:=af h0
 have HP:=af hP
 have HN:=af hN
 have WH:=af hpk
 have eY:Hid (∀(e:Int) (W:World),Calls prog 37 #[.int .i64 e] W λr w'=>r=.returned (.int .i64 e)/\w'=W):=nD
 have hL:=dz w ⟨L,0,none⟩ c0
 have hg:=dz w ⟨g,off+i*2,none⟩ cx
 have W9:(kd==1)=false:=by simpa using hk1
 have hlB:((len:Int)==0)=false:=by simp;omega
 have hlN:¬(len:Int)=0:=by omega
 have xU:(i:Int)<(len:Int):=by omega
 have eH:¬(i:Int)<0:=by omega
 clear h2 h3 h4 h5 h6 h0 hP hN hpk
 go_enter func39,ntmps39
 go_upto_region 5 with fail
 go_cut [5] from 25 to 38 (λv wx=>v=.pointer (some ⟨w.heap.size+1,0,none⟩)/\wx=((w.alloc (.cells #[.int .i64 kd,.int .i64 on,.int .i64 a,.string s] 98)).alloc (.cells #[.pointer (some ⟨A,0,none⟩),.pointer (some ⟨B,0,none⟩)] 161)).drew)
 case first=>
  refine wp_region_held_drew (S:=λw'=>w'.cell? ⟨L,0,none⟩=some (.slice (some ⟨g,off,none⟩) len cap)/\w'.cell? ⟨g,off+i*2,none⟩=some (.pointer (some ⟨A,0,none⟩))/\w'.cell? ⟨g,off+i*2+1,none⟩=some (.pointer (some ⟨B,0,none⟩))/\w'.cell? ⟨w.heap.size,1,none⟩=some (.int .i64 on)) (by kernel_rfl) (by first|(simp[go_sem];done)|(simp[go_sem, *];done)) (λhHeld=>?_)
  refine wpAnyH_take (i:=0) (oi:=⟨some 25,_,_,_,_,_⟩) (v:=?_) rfl (by kernel_rfl) (by kernel_rfl) (by kernel_rfl) (λ_ _ _ h=>h) (Or.inl ⟨by rfl,?_⟩) (by assumption) ?_
  rotate_left
  ·intro w hSw;(try dsimp only at hSw);go_simp;(try with_reducible rfl)
  (try simp only[Act.put,List.setIfInBounds_toArray,List.set_cons_zero,List.set_cons_succ])
  refine wpAnyH_take (i:=1) (oi:=⟨some 26,_,_,_,_,_⟩) (v:=?_) rfl (by kernel_rfl) (by kernel_rfl) (by kernel_rfl) (λ_ _ _ h=>h) (Or.inl ⟨by rfl,?_⟩) (by assumption) ?_
  rotate_left
  ·intro w hSw;(try dsimp only at hSw);go_simp;(try with_reducible rfl)
  (try simp only[Act.put,List.setIfInBounds_toArray,List.set_cons_zero,List.set_cons_succ])
  refine wpAnyH_take (i:=2) (oi:=⟨some 27,_,_,_,_,_⟩) (v:=?_) rfl (by kernel_rfl) (by kernel_rfl) (by kernel_rfl) (λ_ _ _ h=>h) (Or.inl ⟨by rfl,?_⟩) (by assumption) ?_
  rotate_left
  ·intro w hSw;(try dsimp only at hSw);go_simp;(try with_reducible rfl)
  (try simp only[Act.put,List.setIfInBounds_toArray,List.set_cons_zero,List.set_cons_succ])
  refine wpAnyH_take (i:=3) (oi:=⟨some 28,_,_,_,_,_⟩) (v:=?_) rfl (by kernel_rfl) (by kernel_rfl) (by kernel_rfl) (λ_ _ _ h=>h) (Or.inl ⟨by rfl,?_⟩) (by assumption) ?_
  rotate_left
  ·intro w hSw;(try dsimp only at hSw);go_simp;(try with_reducible rfl)
  (try simp only[Act.put,List.setIfInBounds_toArray,List.set_cons_zero,List.set_cons_succ])
  refine wpAnyH_take (i:=4) (oi:=⟨some 29,_,_,_,_,_⟩) (v:=?_) rfl (by kernel_rfl) (by kernel_rfl) (by kernel_rfl) (λ_ _ _ h=>h) (Or.inl ⟨by rfl,?_⟩) (by assumption) ?_
  rotate_left
  ·intro w hSw;(try dsimp only at hSw);go_simp;(try with_reducible rfl)
  (try simp only[Act.put,List.setIfInBounds_toArray,List.set_cons_zero,List.set_cons_succ])
  refine wpAnyH_take (i:=5) (oi:=⟨some 30,_,_,_,_,_⟩) (v:=?_) rfl (by kernel_rfl) (by kernel_rfl) (by kernel_rfl) (λ_ _ _ h=>h) (Or.inl ⟨by rfl,?_⟩) (by assumption) ?_
  rotate_left
  ·intro w hSw;(try dsimp only at hSw);go_simp;(try with_reducible rfl)
  (try simp only[Act.put,List.setIfInBounds_toArray,List.set_cons_zero,List.set_cons_succ])
  refine wpAnyH_take (i:=6) (oi:=⟨some 31,_,_,_,_,_⟩) (v:=?_) rfl (by kernel_rfl) (by kernel_rfl) (by kernel_rfl) (λ_ _ _ h=>h) (Or.inl ⟨by rfl,?_⟩) (by assumption) ?_
  rotate_left
  ·intro w hSw;(try dsimp only at hSw);go_simp;(try with_reducible rfl)
  (try simp only[Act.put,List.setIfInBounds_toArray,List.set_cons_zero,List.set_cons_succ])
  refine wpAnyH_take (i:=7) (oi:=⟨some 32,_,_,_,_,_⟩) (v:=?_) rfl (by kernel_rfl) (by kernel_rfl) (by kernel_rfl) (λ_ _ _ h=>h) (Or.inl ⟨by rfl,?_⟩) (by assumption) ?_
  rotate_left
  ·intro w hSw;(try dsimp only at hSw);go_simp;(try with_reducible rfl)
  (try simp only[Act.put,List.setIfInBounds_toArray,List.set_cons_zero,List.set_cons_succ])
  refine wpAnyH_take (i:=8) (oi:=⟨some 33,_,_,_,_,_⟩) (v:=?_) rfl (by kernel_rfl) (by kernel_rfl) (by kernel_rfl) (λ_ _ _ h=>h) (Or.inl ⟨by rfl,?_⟩) (by assumption) ?_
  rotate_left
  ·intro w hSw;(try dsimp only at hSw);go_simp;(try with_reducible rfl)
  (try simp only[Act.put,List.setIfInBounds_toArray,List.set_cons_zero,List.set_cons_succ])
  refine wpAnyH_take (i:=9) (oi:=⟨some 34,_,_,_,_,_⟩) (v:=?_) rfl (by kernel_rfl) (by kernel_rfl) (by kernel_rfl) (λ_ _ _ h=>h) (Or.inl ⟨by rfl,?_⟩) (by assumption) ?_
  rotate_left
  ·intro w hSw;(try dsimp only at hSw);go_simp;(try with_reducible rfl)
  (try simp only[Act.put,List.setIfInBounds_toArray,List.set_cons_zero,List.set_cons_succ])
  refine wpAnyH_take (i:=10) (oi:=⟨some 35,_,_,_,_,_⟩) (v:=?_) rfl (by kernel_rfl) (by kernel_rfl) (by kernel_rfl) (λ_ _ _ h=>h) (Or.inl ⟨by rfl,?_⟩) (by assumption) ?_
  rotate_left
  ·intro w hSw;(try dsimp only at hSw);go_simp;(try with_reducible rfl)
  (try simp only[Act.put,List.setIfInBounds_toArray,List.set_cons_zero,List.set_cons_succ])
  refine wpAnyH_ready (rs:=[11,14]) (by kernel_rfl) (by simp) ?_
  refine AllReadyH.cons (o:=⟨some 36,_,_,_,_,_⟩) rfl (λK hK=>?_) (AllReadyH.cons (o:=⟨some 5,_,_,_,_,_⟩) rfl (λK hK=>?_) (AllReadyH.nil))
  ·first|(go_at_call 68;refine aq (WH.out _) ?_;rintro e w3 ⟨rfl,rfl⟩;dsimp only)|(go_simp;go_at_call 68;refine aq (WH.out _) ?_;rintro e w3 ⟨rfl,rfl⟩;dsimp only)
   refine hK.out _ _ (by first|(simp[go_sem];done)|(simp[go_sem, *];done)) (λhHeld=>?_)
   clear hK K
   (try simp only[Act.put,List.setIfInBounds_toArray,List.set_cons_zero,List.set_cons_succ])
   refine wpAnyH_take (i:=12) (oi:=⟨some 37,_,_,_,_,_⟩) (v:=?_) rfl (by kernel_rfl) (by kernel_rfl) (by kernel_rfl) (λ_ _ _ h=>h) (Or.inl ⟨by rfl,?_⟩) (by assumption) ?_
   rotate_left
   ·intro w hSw;(try dsimp only at hSw);go_simp;(try with_reducible rfl)
   (try simp only[Act.put,List.setIfInBounds_toArray,List.set_cons_zero,List.set_cons_succ])
   refine wpAnyH_take (i:=13) (oi:=⟨some 38,_,_,_,_,_⟩) (v:=?_) rfl (by kernel_rfl) (by kernel_rfl) (by kernel_rfl) (λ_ _ _ h=>h) (Or.inl ⟨by rfl,?_⟩) (by assumption) ?_
   rotate_left
   ·intro w hSw;(try dsimp only at hSw);go_simp;(try with_reducible rfl)
   (try simp only[Act.put,List.setIfInBounds_toArray,List.set_cons_zero,List.set_cons_succ])
   refine wpAnyH_ready (rs:=[14]) (by kernel_rfl) (by simp) ?_
   refine AllReadyH.cons (o:=⟨some 5,_,_,_,_,_⟩) rfl (λK hK=>?_) (AllReadyH.nil)
   go_simp
   refine hK.out _ _ (by first|(simp[go_sem];done)|(simp[go_sem, *];done)) (λhHeld=>?_)
   clear hK K
   (try simp only[Act.put,List.setIfInBounds_toArray,List.set_cons_zero,List.set_cons_succ])
   refine wpAnyH_ready (rs:=[15]) (by kernel_rfl) (by simp) ?_
   refine AllReadyH.cons (o:=⟨none,_,_,_,_,_⟩) rfl (λK hK=>?_) (AllReadyH.nil)
   go_simp
   refine hK.out _ _ (by first|(simp[go_sem];done)|(simp[go_sem, *];done)) (λhHeld=>?_)
   clear hK K
   (try simp only[Act.put,List.setIfInBounds_toArray,List.set_cons_zero,List.set_cons_succ])
   refine wpAnyH_done (by kernel_rfl) ?_ _
   go_wp2_with fail
   go_meet
   exact⟨rfl,rfl⟩
  ·go_simp
   refine hK.out _ _ (by first|(simp[go_sem];done)|(simp[go_sem, *];done)) (λhHeld=>?_)
   clear hK K
   (try simp only[Act.put,List.setIfInBounds_toArray,List.set_cons_zero,List.set_cons_succ])
   refine wpAnyH_ready (rs:=[11]) (by kernel_rfl) (by simp) ?_
   refine AllReadyH.cons (o:=⟨some 36,_,_,_,_,_⟩) rfl (λK hK=>?_) (AllReadyH.nil)
   first|(go_at_call 68;refine aq (WH.out _) ?_;rintro e w3 ⟨rfl,rfl⟩;dsimp only)|(go_simp;go_at_call 68;refine aq (WH.out _) ?_;rintro e w3 ⟨rfl,rfl⟩;dsimp only)
   refine hK.out _ _ (by first|(simp[go_sem];done)|(simp[go_sem, *];done)) (λhHeld=>?_)
   clear hK K
   (try simp only[Act.put,List.setIfInBounds_toArray,List.set_cons_zero,List.set_cons_succ])
   refine wpAnyH_take (i:=12) (oi:=⟨some 37,_,_,_,_,_⟩) (v:=?_) rfl (by kernel_rfl) (by kernel_rfl) (by kernel_rfl) (λ_ _ _ h=>h) (Or.inl ⟨by rfl,?_⟩) (by assumption) ?_
   rotate_left
   ·intro w hSw;(try dsimp only at hSw);go_simp;(try with_reducible rfl)
   (try simp only[Act.put,List.setIfInBounds_toArray,List.set_cons_zero,List.set_cons_succ])
   refine wpAnyH_take (i:=13) (oi:=⟨some 38,_,_,_,_,_⟩) (v:=?_) rfl (by kernel_rfl) (by kernel_rfl) (by kernel_rfl) (λ_ _ _ h=>h) (Or.inl ⟨by rfl,?_⟩) (by assumption) ?_
   rotate_left
   ·intro w hSw;(try dsimp only at hSw);go_simp;(try with_reducible rfl)
   (try simp only[Act.put,List.setIfInBounds_toArray,List.set_cons_zero,List.set_cons_succ])
   refine wpAnyH_ready (rs:=[15]) (by kernel_rfl) (by simp) ?_
   refine AllReadyH.cons (o:=⟨none,_,_,_,_,_⟩) rfl (λK hK=>?_) (AllReadyH.nil)
   go_simp
   refine hK.out _ _ (by first|(simp[go_sem];done)|(simp[go_sem, *];done)) (λhHeld=>?_)
   clear hK K
   (try simp only[Act.put,List.setIfInBounds_toArray,List.set_cons_zero,List.set_cons_succ])
   refine wpAnyH_done (by kernel_rfl) ?_ _
   go_wp2_with fail
   go_meet
   exact⟨rfl,rfl⟩
 case rest=>
  obtain⟨rfl,rfl⟩:=hcut
  obtain⟨W0,hW0⟩:∃x,((w.alloc (.cells #[.int .i64 kd,.int .i64 on,.int .i64 a,.string s] 98)).alloc (.cells #[.pointer (some ⟨A,0,none⟩),.pointer (some ⟨B,0,none⟩)] 161)).drew=x:=⟨_,rfl⟩
  have k0:W0.cell? ⟨w.heap.size,0,none⟩=some (.int .i64 kd):=by rw[<-hW0];simp[go_sem]
  have k2:W0.cell? ⟨w.heap.size,2,none⟩=some (.int .i64 a):=by rw[<-hW0];simp[go_sem]
  have k3:W0.cell? ⟨w.heap.size,3,none⟩=some (.string s):=by rw[<-hW0];simp[go_sem]
  have t0:W0.cell? ⟨w.heap.size+1,0,none⟩=some (.pointer (some ⟨A,0,none⟩)):=by rw[<-hW0];simp[go_sem]
  have t1:W0.cell? ⟨w.heap.size+1,1,none⟩=some (.pointer (some ⟨B,0,none⟩)):=by rw[<-hW0];simp[go_sem]
  have RB:Hid (Below w.heap.size w W0):=by rw[<-hW0];exact(aU.alloc (by simp) _).drew
  have hs1:w.heap.size+1<W0.heap.size:=dz W0 ⟨w.heap.size+1,0,none⟩ t0
  rw[hW0]
  clear hW0 c0 cx cr
  by_cases e2:kd=2
  ·subst e2
   obtain⟨c,P1,hP1,hA,hB⟩:=H2.out rfl
   have QY:=af hP1
   have HA:=af hA
   have RD:=af hB
   clear hP1 hA hB H2 H3 H4 H5 H6 H0
   go_upto_region 9 with(go_at_call 42;refine aq (HA.out _ RB.out) ?_;rintro e w1 ⟨rfl,hp1,iL⟩;dsimp only;have O2:=af hp1;have q2:w1.cell? ⟨w.heap.size,2,none⟩=some (.int .i64 a):=(iL.cell _ _ (by omega) (λe=>by have:=HN.out _ _ e;omega)).trans k2;have q3:w1.cell? ⟨w.heap.size,3,none⟩=some (.string s):=(iL.cell _ _ (by omega) (λe=>by have:=HN.out _ _ e;omega)).trans k3;have u1:w1.cell? ⟨w.heap.size+1,1,none⟩=some (.pointer (some ⟨B,0,none⟩)):=(iL.cell _ _ (by omega) (λe=>by have:=HN.out _ _ e;omega)).trans t1;have hs2:w.heap.size+1<w1.heap.size:=dz w1 ⟨w.heap.size+1,1,none⟩ u1;clear hp1 iL)
   refine wp_region_held_drew (S:=λw'=>w'.cell? ⟨w.heap.size,2,none⟩=some (.int .i64 a)/\w'.cell? ⟨w.heap.size,3,none⟩=some (.string s)/\w'.cell? ⟨w.heap.size+1,1,none⟩=some (.pointer (some ⟨B,0,none⟩))) (by kernel_rfl) (by first|(simp[go_sem];done)|(simp[go_sem, *];done)) (λhHeld=>?_)
   refine wpAnyH_take (i:=0) (oi:=⟨some 50,_,_,_,_,_⟩) (v:=?_) rfl (by kernel_rfl) (by kernel_rfl) (by kernel_rfl) (λ_ _ _ h=>h) (Or.inl ⟨by rfl,?_⟩) (by assumption) ?_
   rotate_left
   ·intro w hSw;(try dsimp only at hSw);go_simp;(try with_reducible rfl)
   (try simp only[Act.put,List.setIfInBounds_toArray,List.set_cons_zero,List.set_cons_succ])
   refine wpAnyH_take (i:=2) (oi:=⟨some 52,_,_,_,_,_⟩) (v:=?_) rfl (by kernel_rfl) (by kernel_rfl) (by kernel_rfl) (λ_ _ _ h=>h) (Or.inl ⟨by rfl,?_⟩) (by assumption) ?_
   rotate_left
   ·intro w hSw;(try dsimp only at hSw);go_simp;(try with_reducible rfl)
   (try simp only[Act.put,List.setIfInBounds_toArray,List.set_cons_zero,List.set_cons_succ])
   refine wpAnyH_take (i:=3) (oi:=⟨some 53,_,_,_,_,_⟩) (v:=?_) rfl (by kernel_rfl) (by kernel_rfl) (by kernel_rfl) (λ_ _ _ h=>h) (Or.inl ⟨by rfl,?_⟩) (by assumption) ?_
   rotate_left
   ·intro w hSw;(try dsimp only at hSw);go_simp;(try with_reducible rfl)
   (try simp only[Act.put,List.setIfInBounds_toArray,List.set_cons_zero,List.set_cons_succ])
   refine wpAnyH_take (i:=4) (oi:=⟨some 54,_,_,_,_,_⟩) (v:=?_) rfl (by kernel_rfl) (by kernel_rfl) (by kernel_rfl) (λ_ _ _ h=>h) (Or.inl ⟨by rfl,?_⟩) (by assumption) ?_
   rotate_left
   ·intro w hSw;(try dsimp only at hSw);go_simp;(try with_reducible rfl)
   (try simp only[Act.put,List.setIfInBounds_toArray,List.set_cons_zero,List.set_cons_succ])
   refine wpAnyH_take (i:=5) (oi:=⟨some 55,_,_,_,_,_⟩) (v:=?_) rfl (by kernel_rfl) (by kernel_rfl) (by kernel_rfl) (λ_ _ _ h=>h) (Or.inl ⟨by rfl,?_⟩) (by assumption) ?_
   rotate_left
   ·intro w hSw;(try dsimp only at hSw);go_simp;(try with_reducible rfl)
   (try simp only[Act.put,List.setIfInBounds_toArray,List.set_cons_zero,List.set_cons_succ])
   refine wpAnyH_take (i:=6) (oi:=⟨some 56,_,_,_,_,_⟩) (v:=?_) rfl (by kernel_rfl) (by kernel_rfl) (by kernel_rfl) (λ_ _ _ h=>h) (Or.inl ⟨by rfl,?_⟩) (by assumption) ?_
   rotate_left
   ·intro w hSw;(try dsimp only at hSw);go_simp;(try with_reducible rfl)
   (try simp only[Act.put,List.setIfInBounds_toArray,List.set_cons_zero,List.set_cons_succ])
   refine wpAnyH_take (i:=7) (oi:=⟨some 57,_,_,_,_,_⟩) (v:=?_) rfl (by kernel_rfl) (by kernel_rfl) (by kernel_rfl) (λ_ _ _ h=>h) (Or.inl ⟨by rfl,?_⟩) (by assumption) ?_
   rotate_left
   ·intro w hSw;(try dsimp only at hSw);go_simp;(try with_reducible rfl)
   (try simp only[Act.put,List.setIfInBounds_toArray,List.set_cons_zero,List.set_cons_succ])
   refine wpAnyH_ready (rs:=[1]) (by kernel_rfl) (by simp) ?_
   refine AllReadyH.cons (o:=⟨some 51,_,_,_,_,_⟩) rfl (λK hK=>?_) (AllReadyH.nil)
   first|(go_at_call 37;refine aq (eY.out _ _) ?_;rintro e w3 ⟨rfl,rfl⟩;dsimp only)|(go_simp;go_at_call 37;refine aq (eY.out _ _) ?_;rintro e w3 ⟨rfl,rfl⟩;dsimp only)
   refine hK.out _ _ (by first|(simp[go_sem];done)|(simp[go_sem, *];done)) (λhHeld=>?_)
   clear hK K
   (try simp only[Act.put,List.setIfInBounds_toArray,List.set_cons_zero,List.set_cons_succ])
   refine wpAnyH_ready (rs:=[8]) (by kernel_rfl) (by simp) ?_
   refine AllReadyH.cons (o:=⟨some 58,_,_,_,_,_⟩) rfl (λK hK=>?_) (AllReadyH.nil)
   first|(go_at_call 69;refine aq (RD.out _ (QY.out _ _ O2.out (by first|exact bK|exact bK.drew))) ?_;rintro e w2 ⟨rfl,jy,hf2⟩;dsimp only;have Bu:=af jy;have v2:w2.cell? ⟨w.heap.size,2,none⟩=some (.int .i64 a):=(hf2.cell _ _ (by first|omega|(simp;omega)) (λe=>by have:=HN.out _ _ e;omega)).trans q2;have v3:w2.cell? ⟨w.heap.size,3,none⟩=some (.string s):=(hf2.cell _ _ (by first|omega|(simp;omega)) (λe=>by have:=HN.out _ _ e;omega)).trans q3;have v1:w2.cell? ⟨w.heap.size+1,1,none⟩=some (.pointer (some ⟨B,0,none⟩)):=(hf2.cell _ _ (by first|omega|(simp;omega)) (λe=>by have:=HN.out _ _ e;omega)).trans u1;clear jy hf2)|(go_simp;go_at_call 69;refine aq (RD.out _ (QY.out _ _ O2.out (by first|exact bK|exact bK.drew))) ?_;rintro e w2 ⟨rfl,jy,hf2⟩;dsimp only;have Bu:=af jy;have v2:w2.cell? ⟨w.heap.size,2,none⟩=some (.int .i64 a):=(hf2.cell _ _ (by first|omega|(simp;omega)) (λe=>by have:=HN.out _ _ e;omega)).trans q2;have v3:w2.cell? ⟨w.heap.size,3,none⟩=some (.string s):=(hf2.cell _ _ (by first|omega|(simp;omega)) (λe=>by have:=HN.out _ _ e;omega)).trans q3;have v1:w2.cell? ⟨w.heap.size+1,1,none⟩=some (.pointer (some ⟨B,0,none⟩)):=(hf2.cell _ _ (by first|omega|(simp;omega)) (λe=>by have:=HN.out _ _ e;omega)).trans u1;clear jy hf2)
   refine hK.out _ _ ⟨v2,v3,v1⟩ (λhHeld=>?_)
   clear hK K
   (try simp only[Act.put,List.setIfInBounds_toArray,List.set_cons_zero,List.set_cons_succ])
   refine wpAnyH_take (i:=9) (oi:=⟨some 59,_,_,_,_,_⟩) (v:=?_) rfl (by kernel_rfl) (by kernel_rfl) (by kernel_rfl) (λ_ _ _ h=>h) (Or.inl ⟨by rfl,?_⟩) (by assumption) ?_
   rotate_left
   ·intro w hSw;(try dsimp only at hSw);go_simp;(try with_reducible rfl)
   (try simp only[Act.put,List.setIfInBounds_toArray,List.set_cons_zero,List.set_cons_succ])
   refine wpAnyH_take (i:=10) (oi:=⟨some 4,_,_,_,_,_⟩) (v:=?_) rfl (by kernel_rfl) (by kernel_rfl) (by kernel_rfl) (λ_ _ _ h=>h) (Or.inl ⟨by rfl,?_⟩) (by assumption) ?_
   rotate_left
   ·intro w hSw;(try dsimp only at hSw);go_simp;(try with_reducible rfl)
   (try simp only[Act.put,List.setIfInBounds_toArray,List.set_cons_zero,List.set_cons_succ])
   refine wpAnyH_done (by kernel_rfl) ?_ _
   go_wp2
   go_ret
   exact⟨rfl,Bu.out⟩
  ·by_cases e3:kd=3
   ·subst e3
    obtain⟨b,c,P1,hA,hB⟩:=H3.out rfl
    have HA:=af hA
    have RD:=af hB
    clear hA hB H2 H3 H4 H5 H6 H0
    go_wp2_with (first
     |(go_at_call 43;refine aq (HA.out _ RB.out) ?_;rintro e w1 ⟨rfl,hp1,iL⟩;dsimp only;have O2:=af hp1;have q2:w1.cell? ⟨w.heap.size,2,none⟩=some (.int .i64 a):=(iL.cell _ _ (by omega) (λe=>by have:=HN.out _ _ e;omega)).trans k2;have u1:w1.cell? ⟨w.heap.size+1,1,none⟩=some (.pointer (some ⟨B,0,none⟩)):=(iL.cell _ _ (by omega) (λe=>by have:=HN.out _ _ e;omega)).trans t1;clear hp1 iL)
     |(go_at_call 70;refine aq (RD.out _ O2.out) ?_;rintro e w2 ⟨rfl,jy⟩;dsimp only;have Bu:=af jy;clear jy)
     |(go_at_call 37;refine aq (eY.out _ _) ?_;rintro e w3 ⟨rfl,hw⟩;subst w3;dsimp only))
    go_ret
    exact⟨by first|rfl|(cases b<;>rfl)|simp,Bu.out⟩
   ·by_cases e4:kd=4
    ·subst e4
     have HA:Hid (∀W:World,Below w.heap.size w W->Calls prog 71 #[.pointer (some ⟨L,0,none⟩),.agg #[.pointer (some ⟨A,0,none⟩),.pointer (some ⟨B,0,none⟩)],.int .i64 a] W λe w'=>e=.returned (.bool true)/\P w'):=H4.out rfl
     clear H2 H3 H4 H5 H6 H0
     go_wp2_with (go_at_call 71;refine aq (HA.out _ RB.out) ?_;rintro e w2 ⟨rfl,jy⟩;dsimp only;have Bu:=af jy;clear jy)
     go_ret
     exact⟨rfl,Bu.out⟩
    ·by_cases e5:kd=5
     ·subst e5
      obtain⟨v1,v2,v3,hA,hB⟩:=H5.out rfl
      have HA:=af hA
      have RD:=af hB
      have zY:Hid (P w):=H0.out (.inr rfl)
      clear hA hB H2 H3 H4 H5 H6 H0
      go_upto_region 18 with(go_at_call 26;refine aq (HA.out _ RB.out) ?_;rintro e w1 ⟨rfl,hb1⟩;dsimp only;have eO:Hid (Below w.heap.size w w1):=RB.out.trans (hb1.mono (by omega));have u1:w1.cell? ⟨w.heap.size+1,1,none⟩=some (.pointer (some ⟨B,0,none⟩)):=(hb1.cell (p:=⟨w.heap.size+1,1,none⟩) (by omega)).trans t1;have hs2:w.heap.size+1<w1.heap.size:=dz w1 ⟨w.heap.size+1,1,none⟩ u1;clear hb1)
      have Km:Hid (Below w.heap.size w (w1.alloc (.cells #[.int .i64 v1,.bool v2,.int .i64 v3] 77)).drew):=(eO.out.alloc eO.out.size _).drew
      refine wp_region_held_drew (S:=λw'=>w'.cell? ⟨w1.heap.size,0,none⟩=some (.int .i64 v1)/\w'.cell? ⟨w1.heap.size,1,none⟩=some (.bool v2)/\w'.cell? ⟨w1.heap.size,2,none⟩=some (.int .i64 v3)/\w'.cell? ⟨w.heap.size+1,1,none⟩=some (.pointer (some ⟨B,0,none⟩))) (by kernel_rfl) (by first|(simp[go_sem];done)|(simp[go_sem, *];done)) (λhHeld=>?_)
      refine wpAnyH_take (i:=0) (oi:=⟨some 99,_,_,_,_,_⟩) (v:=?_) rfl (by kernel_rfl) (by kernel_rfl) (by kernel_rfl) (λ_ _ _ h=>h) (Or.inl ⟨by rfl,?_⟩) (by assumption) ?_
      rotate_left
      ·intro w hSw;(try dsimp only at hSw);go_simp;(try with_reducible rfl)
      (try simp only[Act.put,List.setIfInBounds_toArray,List.set_cons_zero,List.set_cons_succ])
      refine wpAnyH_take (i:=1) (oi:=⟨some 100,_,_,_,_,_⟩) (v:=?_) rfl (by kernel_rfl) (by kernel_rfl) (by kernel_rfl) (λ_ _ _ h=>h) (Or.inl ⟨by rfl,?_⟩) (by assumption) ?_
      rotate_left
      ·intro w hSw;(try dsimp only at hSw);go_simp;(try with_reducible rfl)
      (try simp only[Act.put,List.setIfInBounds_toArray,List.set_cons_zero,List.set_cons_succ])
      refine wpAnyH_take (i:=2) (oi:=⟨some 101,_,_,_,_,_⟩) (v:=?_) rfl (by kernel_rfl) (by kernel_rfl) (by kernel_rfl) (λ_ _ _ h=>h) (Or.inl ⟨by rfl,?_⟩) (by assumption) ?_
      rotate_left
      ·intro w hSw;(try dsimp only at hSw);go_simp;(try with_reducible rfl)
      (try simp only[Act.put,List.setIfInBounds_toArray,List.set_cons_zero,List.set_cons_succ])
      refine wpAnyH_ready (rs:=[3]) (by kernel_rfl) (by simp) ?_
      refine AllReadyH.cons (o:=⟨some 102,_,_,_,_,_⟩) rfl (λK hK=>?_) AllReadyH.nil
      first|(go_at_call 72;refine aq (RD.out _ Km.out) ?_;rintro e w2 ⟨rfl,hb2⟩;dsimp only;have HBf:Hid (Below w.heap.size w w2):=Km.out.trans (hb2.mono Km.out.size);have z0:w2.cell? ⟨w1.heap.size,0,none⟩=some (.int .i64 v1):=(hb2.cell (p:=⟨w1.heap.size,0,none⟩) (by simp)).trans (by simp[go_sem]);have z1:w2.cell? ⟨w1.heap.size,1,none⟩=some (.bool v2):=(hb2.cell (p:=⟨w1.heap.size,1,none⟩) (by simp)).trans (by simp[go_sem]);have z2:w2.cell? ⟨w1.heap.size,2,none⟩=some (.int .i64 v3):=(hb2.cell (p:=⟨w1.heap.size,2,none⟩) (by simp)).trans (by simp[go_sem]);have z3:w2.cell? ⟨w.heap.size+1,1,none⟩=some (.pointer (some ⟨B,0,none⟩)):=(hb2.cell (p:=⟨w.heap.size+1,1,none⟩) (by simp;omega)).trans (by simp[go_sem,hs2,u1]);clear hb2)|(go_simp;go_at_call 72;refine aq (RD.out _ Km.out) ?_;rintro e w2 ⟨rfl,hb2⟩;dsimp only;have HBf:Hid (Below w.heap.size w w2):=Km.out.trans (hb2.mono Km.out.size);have z0:w2.cell? ⟨w1.heap.size,0,none⟩=some (.int .i64 v1):=(hb2.cell (p:=⟨w1.heap.size,0,none⟩) (by simp)).trans (by simp[go_sem]);have z1:w2.cell? ⟨w1.heap.size,1,none⟩=some (.bool v2):=(hb2.cell (p:=⟨w1.heap.size,1,none⟩) (by simp)).trans (by simp[go_sem]);have z2:w2.cell? ⟨w1.heap.size,2,none⟩=some (.int .i64 v3):=(hb2.cell (p:=⟨w1.heap.size,2,none⟩) (by simp)).trans (by simp[go_sem]);have z3:w2.cell? ⟨w.heap.size+1,1,none⟩=some (.pointer (some ⟨B,0,none⟩)):=(hb2.cell (p:=⟨w.heap.size+1,1,none⟩) (by simp;omega)).trans (by simp[go_sem,hs2,u1]);clear hb2)
      refine hK.out _ _ ⟨z0,z1,z2,z3⟩ (λhHeld=>?_)
      clear hK K
      (try simp only[Act.put,List.setIfInBounds_toArray,List.set_cons_zero,List.set_cons_succ])
      refine wpAnyH_take (i:=4) (oi:=⟨some 103,_,_,_,_,_⟩) (v:=?_) rfl (by kernel_rfl) (by kernel_rfl) (by kernel_rfl) (λ_ _ _ h=>h) (Or.inl ⟨by rfl,?_⟩) (by assumption) ?_
      rotate_left
      ·intro w hSw;(try dsimp only at hSw);go_simp;(try with_reducible rfl)
      (try simp only[Act.put,List.setIfInBounds_toArray,List.set_cons_zero,List.set_cons_succ])
      refine wpAnyH_take (i:=5) (oi:=⟨some 4,_,_,_,_,_⟩) (v:=?_) rfl (by kernel_rfl) (by kernel_rfl) (by kernel_rfl) (λ_ _ _ h=>h) (Or.inl ⟨by rfl,?_⟩) (by assumption) ?_
      rotate_left
      ·intro w hSw;(try dsimp only at hSw);go_simp;(try with_reducible rfl)
      (try simp only[Act.put,List.setIfInBounds_toArray,List.set_cons_zero,List.set_cons_succ])
      refine wpAnyH_done (by kernel_rfl) ?_ _
      go_wp2
      go_ret
      exact⟨rfl,HP.out _ _ zY.out HBf.out⟩
     ·by_cases e6:kd=6
      ·subst e6
       have HA:Hid (∀W:World,Below w.heap.size w W->Calls prog 73 #[.pointer (some ⟨L,0,none⟩),.agg #[.pointer (some ⟨A,0,none⟩),.pointer (some ⟨B,0,none⟩)],.int .i64 a] W λe w'=>e=.returned (.bool true)/\P w'):=H6.out rfl
       clear H2 H3 H4 H5 H6 H0
       go_wp2_with (go_at_call 73;refine aq (HA.out _ RB.out) ?_;rintro e w2 ⟨rfl,jy⟩;dsimp only;have Bu:=af jy;clear jy)
       go_ret
       exact⟨rfl,Bu.out⟩
      ·have f2:(kd==2)=false:=by simpa using e2
       have f3:(kd==3)=false:=by simpa using e3
       have f4:(kd==4)=false:=by simpa using e4
       have f5:(kd==5)=false:=by simpa using e5
       have f6:(kd==6)=false:=by simpa using e6
       have zY:Hid (P w):=H0.out (.inl (by omega))
       clear H2 H3 H4 H5 H6 H0
       go_wp2
       go_ret
       exact⟨rfl,HP.out _ _ zY.out RB.out⟩
open Classical in
noncomputable def gz (lab:Nat->Lb) (k:Nat) (ZA ZB:Nat->Prop) (b:Nat):Lb:=if ZA b then .x k else if ZB b then .r k else lab b
variable {tw:List Tw} {T:Int} {K H:Nat} {w':World} {aB:Nat->Lb} {ZA ZB:Nat->Prop}
theorem iN.VR{Z:Nat->Prop}{n:Int}{tx:List j9}{ti:List j8}(h:iN w L Z lab V tw n tx ti T K H){a:Int}{A B:Nat}{V':jA}(hb:Below w.heap.size w w2)(hA:bu w2 A ZA (oM a))(hR:cS w2 B ZB (JX a))(zA:∀b,ZA b->w.heap.size<=b)(zB:∀b,ZB b->w.heap.size<=b/\¬ZA b)
  (hN:Gg L lab (tw.map QK) n (tx.map j9.v) (tx.map λx=> .string x.m) (ti.map j8.v) (ti.map λx=> .int .i64 x.k) A B w2 w' aB V') (hT:0<=T):aH L Z (tw.length+1) T K (H+1) w w':=by
 have hs:=hb.size
 have hs2:=hN.f.size
 have Y6:=h.at_.gl.sz
 have hlo:∀b,lab b≠.no->b<w.heap.size:=λb hb=>(h.at_.lt b hb).2
 have mK:∀b,ZA b->b<w2.heap.size:=λb e=>(hA.lt e).2
 have hBl:∀b,ZB b->b<w2.heap.size:=λb e=>hR.lt e
 have hno:∀b,aB b≠.no->¬ZA b/\¬ZB b:=λb e=>by
  by_cases e1:lab b=.no
  ·have:=(hN.new b e1 e).2.1
   exact⟨λe2=>by have:=mK b e2;omega,λe2=>by have:=hBl b e2;omega⟩
  ·have:=hlo b e1
   exact⟨λe2=>by have:=zA b e2;omega,λe2=>by have:=(zB b e2).1;omega⟩
 have hkeep:∀b,aB b≠.no->gz aB tw.length ZA ZB b=aB b:=λb e=>by
  unfold gz
  rw[if_neg (hno b e).1,if_neg (hno b e).2]
 have aaK:∀b,lab b=.law->aB b=.law:=λb e=>(hN.old b (gT e)).trans e
 have hold:∀b,lab b≠.no->gz aB tw.length ZA ZB b=lab b:=λb e=>by
  have e1:=hN.old b e
  rw[hkeep b (by rw[e1];exact e),e1]
 have hnew:∀b,gz aB tw.length ZA ZB b≠.no->lab b≠.no\/w.heap.size<=b:=λb e=>by
  by_cases e1:lab b=.no
  ·refine .inr ?_
   unfold gz at e
   by_cases e2:ZA b
   ·exact zA b e2
   ·rw[if_neg e2]at e
    by_cases e3:ZB b
    ·exact(zB b e3).1
    ·rw[if_neg e3]at e
     have:=(hN.new b e1 e).2.1
     omega
  ·exact .inl e1
 have hj:∀l,l≠.no->l≠.law->l≠.x tw.length->l≠.r tw.length->∀b,gz aB tw.length ZA ZB b=l↔lab b=l:=λl h1 h2 h3 h4 b=>by
  by_cases e:lab b=.no
  ·refine⟨λe2=>?_,λe2=>absurd (e2.symm.trans e) h1⟩
   unfold gz at e2
   by_cases e3:ZA b
   ·rw[if_pos e3]at e2;exact absurd e2.symm h3
   ·rw[if_neg e3]at e2
    by_cases e4:ZB b
    ·rw[if_pos e4]at e2;exact absurd e2.symm h4
    ·rw[if_neg e4]at e2
     have e5:aB b≠.no:=by rw[e2];exact h1
     exact absurd (e2.symm.trans (hN.new b e e5).1) h2
  ·rw[hold b e]
 have hf:Fr (λb _=>lab b=.law) w w':=(Fr.of_below hb).trans hN.f
 have h8:∀b,lab b=.law->8<=b:=λb e=>(h.at_.lt b (gT e)).1
 have hxk:∀b,gz aB tw.length ZA ZB b=.x tw.length->ZA b\/aB b=.x tw.length:=λb e=>by
  unfold gz at e
  by_cases e2:ZA b
  ·exact .inl e2
  ·rw[if_neg e2]at e
   by_cases e3:ZB b
   ·rw[if_pos e3]at e;cases e
   ·rw[if_neg e3]at e;exact .inr e
 have hrk:∀b,gz aB tw.length ZA ZB b=.r tw.length->ZB b\/aB b=.r tw.length:=λb e=>by
  unfold gz at e
  by_cases e2:ZA b
  ·rw[if_pos e2]at e;cases e
  ·rw[if_neg e2]at e
   by_cases e3:ZB b
   ·exact .inl e3
   ·rw[if_neg e3]at e;exact .inr e
 have hfree:∀b,aB b≠.x tw.length/\aB b≠.r tw.length:=λb=>by
  by_cases e:lab b=.no
  ·by_cases e2:aB b=.no
   ·exact⟨λx=>(by rw[e2]at x;cases x),λx=>(by rw[e2]at x;cases x)⟩
   ·have:=(hN.new b e e2).1
    exact⟨λx=>(by rw[this]at x;cases x),λx=>(by rw[this]at x;cases x)⟩
  ·rw[hN.old b e]
   exact⟨λx=>by have:=h.at_.few b _ (.inl x);omega,λx=>by have:=h.at_.few b _ (.inr x);omega⟩
 refine⟨tw++[⟨A,B,oM a,JX a⟩],⟨λb=>gz aB tw.length ZA ZB b≠.no,⟨_,V',n,tx,ti,⟨Gx hf h.at_.gl (λb _ e=>h8 b e),?_,λb hb'=>?_,λj t' hj'=>?_,λj t' hj'=>?_,λt' ht'=>?_,λy hy=>(h.at_.tx y hy).fr hf (λb _ e e2=>by rw[e]at e2;cases e2) (λb e=>(hold b (dK e)).trans e),λy hy=>(h.at_.ti y hy).fr hf (λb _ e e2=>by rw[e]at e2;cases e2) (λb e=>(hold b (dK e)).trans e),λb j e=>?few⟩,λb=>Iff.rfl,h.n0,by have:=h.n1;omega,by have:=h.x;omega,by have:=h.t;omega⟩,λb e=>(hnew b e).imp (λe=>(h.z b).2 e) _root_.id,hf.mono λb _ e=>(h.z b).2 (gT e)⟩,by rw[List.length_append];rfl⟩
 case few=>
  rw[List.length_append,List.length_singleton]
  by_cases ej:j=tw.length
  ·omega
  ·have h1:=e.imp (hj (.x j) (λx=>by cases x) (λx=>by cases x) (λx=>by injection x with x;exact ej x) (λx=>by cases x) b).1 (hj (.r j) (λx=>by cases x) (λx=>by cases x) (λx=>by cases x) (λx=>by injection x with x;exact ej x) b).1
   have:=h.at_.few b j h1
   omega
 ·rw[List.map_append]
  exact hN.rows.fr (N:=λ_ _=>False) (Fr.refl _ _) (λ_ _ e=>e.elim) (λb e=>(hkeep b (gT e)).trans e)
 ·rcases hnew b hb' with e|e
  ·have:=h.at_.lt b e
   exact⟨this.1,by omega⟩
  ·refine⟨by omega,?_⟩
   unfold gz at hb'
   by_cases e2:ZA b
   ·have:=mK b e2;omega
   ·rw[if_neg e2]at hb'
    by_cases e3:ZB b
    ·have:=hBl b e3;omega
    ·rw[if_neg e3]at hb'
     by_cases e4:lab b=.no
     ·exact(hN.new b e4 hb').2.2
     ·have:=hlo b e4;omega
 ·by_cases e:j<tw.length
  ·rw[List.getElem?_append_left e]at hj'
   exact((h.at_.at_ j t' hj').fr hf (λb _ e2=>⟨h8 b e2,λe3=>by rw[e2]at e3;cases e3⟩)).congr (hj _ (λx=>by cases x) (λx=>by cases x) (λx=>by injection x with x;omega) (λx=>by cases x))
  ·rw[List.getElem?_append_right (by omega)]at hj'
   have e1:j=tw.length:=by
    have:=(List.getElem?_eq_some_iff.1 hj').1
    simp at this
    omega
   subst e1
   rw[Nat.sub_self]at hj'
   cases hj'
   refine(hA.fr hN.f (λb _ e2=>⟨h8 b e2,λe3=>?_⟩)).congr (λb=>⟨λe2=>(hxk b e2).resolve_right (hfree b).1,λe2=>by unfold gz;exact if_pos e2⟩)
   have:=zA b e3;have:=hlo b (gT e2);omega
 ·by_cases e:j<tw.length
  ·rw[List.getElem?_append_left e]at hj'
   exact((h.at_.rf j t' hj').fr hf (λb _ e2 e3=>by rw[e2]at e3;cases e3)).congr (hj _ (λx=>by cases x) (λx=>by cases x) (λx=>by cases x) (λx=>by injection x with x;omega))
  ·rw[List.getElem?_append_right (by omega)]at hj'
   have e1:j=tw.length:=by
    have:=(List.getElem?_eq_some_iff.1 hj').1
    simp at this
    omega
   subst e1
   rw[Nat.sub_self]at hj'
   cases hj'
   refine(hR.fr hN.f (λb _ e2 e3=>?_)).congr (λb=>⟨λe2=>(hrk b e2).resolve_right (hfree b).2,λe2=>by unfold gz;rw[if_neg (zB b e2).2];exact if_pos e2⟩)
   have:=(zB b e3).1;have:=hlo b (gT e2);omega
 ·rcases List.mem_append.1 ht' with e|e
  ·exact h.at_.ok t' e
  ·rw[List.mem_singleton.1 e]
   exact(mG.new a A B).mono hT (Nat.zero_le _)
theorem Lu{Z:Nat->Prop}{n:Int}{tx:List j9}{ti:List j8}(h:iN w L Z lab V tw n tx ti T K H)(hT:0<=T)(hl:tw.length<=1000000000000)(a:Int)(h0:0<=a)(h8:a<=8):
  Calls prog 67 #[.pointer (some ⟨L,0,none⟩),.int .i64 a] w λe w'=>e=.returned (.bool true)/\aH L Z (tw.length+1) T K (H+1) w w':=by
 refine(Lx L lab V (tw.map QK) (by rw[List.length_map];omega) n _ _ _ _ a w h.at_.rows (λb hb=>(h.at_.lt b hb).2)
  (λA w1=>∃ZA,bu w1 A ZA (oM a)/\(∀b,ZA b->w.heap.size<=b)/\w.heap.size<=w1.heap.size)
  (λA B w2=>∃ZA ZB,bu w2 A ZA (oM a)/\cS w2 B ZB (JX a)/\(∀b,ZA b->w.heap.size<=b)/\∀b,ZB b->w.heap.size<=b/\¬ZA b) ?_ ?_).mono ?_
 ·refine(R1 a w h.at_.gl h0 h8).mono ?_
  rintro e w1 ⟨A,ZA,he,hA,hz,hb⟩
  exact⟨A,he,⟨ZA,hA,hz,hb.size⟩,hb⟩
 ·rintro A w1 ⟨ZA,hA,hz,hs⟩
  refine(Pe a h0 h8 w1).mono ?_
  rintro e w2 ⟨B,ZB,he,hR,hz2,hb⟩
  exact⟨B,he,⟨ZA,ZB,hA.below hb,hR,hz,λb e=>⟨Nat.le_trans hs (hz2 b e),λe2=>by have:=(hA.lt e2).2;have:=hz2 b e;omega⟩⟩,hb⟩
 ·rintro e w' ⟨he,A,B,w2,aB,V',⟨ZA,ZB,g1,g2,g3,g4⟩,hb,hN⟩
  exact⟨he,h.VR hb g1 g2 g3 g4 hN hT⟩
end
end Go.Proofs.YtenaepdmlknlcaaGreatDoor
