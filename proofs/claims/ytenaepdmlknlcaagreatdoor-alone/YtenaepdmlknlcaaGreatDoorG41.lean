import Derived.Test.YtenaepdmlknlcaaGreatDoorG38
open Go.Proofs.Tryz
set_option maxRecDepth 100000
set_option maxHeartbeats 8000000
namespace Go.Proofs.YtenaepdmlknlcaaGreatDoor
section
open Go.RowKit Go.Shelf
variable {w:World} {b:Nat}
theorem fO.all(q:fO w b):w.cell? ⟨b,0,none⟩=some (.int .i64 0)/\w.cell? ⟨b,1,none⟩=some (.int .i64 0)/\w.cell? ⟨b,2,none⟩=some (.int .i64 0)/\w.cell? ⟨b,3,none⟩=some (.int .i64 0)/\w.cell? ⟨b,4,none⟩=some (.string ⟨#[]⟩)/\w.cell? ⟨b,5,none⟩=some (.int .i64 0)/\w.cell? ⟨b,6,none⟩=some (.int .i64 0)/\w.cell? ⟨b,7,none⟩=some (.int .i64 0)/\w.cell? ⟨b,8,none⟩=some (.int .i64 0)/\w.cell? ⟨b,9,none⟩=some (.slice none 0 0)/\w.frozen? ⟨b,0,none⟩=false/\w.frozen? ⟨b,1,none⟩=false/\w.frozen? ⟨b,2,none⟩=false/\w.frozen? ⟨b,3,none⟩=false/\w.frozen? ⟨b,4,none⟩=false/\w.frozen? ⟨b,5,none⟩=false/\w.frozen? ⟨b,6,none⟩=false/\w.frozen? ⟨b,7,none⟩=false/\w.frozen? ⟨b,8,none⟩=false/\w.frozen? ⟨b,9,none⟩=false:=⟨(q.c 0 _ rfl).1,(q.c 1 _ rfl).1,(q.c 2 _ rfl).1,(q.c 3 _ rfl).1,(q.c 4 _ rfl).1,(q.c 5 _ rfl).1,(q.c 6 _ rfl).1,(q.c 7 _ rfl).1,(q.c 8 _ rfl).1,(q.c 9 _ rfl).1,(q.c 0 _ rfl).2,(q.c 1 _ rfl).2,(q.c 2 _ rfl).2,(q.c 3 _ rfl).2,(q.c 4 _ rfl).2,(q.c 5 _ rfl).2,(q.c 6 _ rfl).2,(q.c 7 _ rfl).2,(q.c 8 _ rfl).2,(q.c 9 _ rfl).2⟩
theorem NA(l:List ByteArray):oN l=.bad\/∃f,oN l=.put f:=by
 unfold oN
 split
 ·split
  ·split
   ·exact .inr ⟨_,rfl⟩
   ·exact .inl rfl
  ·exact .inl rfl
 ·exact .inl rfl
variable {M:Nat->Nat->Prop} {n0 n1:Nat}
theorem Ik.fr{A B:World}(hf:Fr M A B){r:Rd}{v:Value}(h:Ik n0 A r v)(hM:∀b i,n0<=b->¬M b i)(hn:n1<=n0):Ik n1 B r v:=by
 cases r with
 |bad=>exact h
 |get t m=>exact h
 |del id=>exact h
 |put f=>
  obtain⟨a,cap,e,hc,hp,hb⟩:=h
  exact⟨a,cap,e,hc,hp.Ra hf (λx i e=>hM _ _ (hb x e)),λx e=>Nat.le_trans hn (hb x e)⟩
theorem F5(c:UInt8)(s:ByteArray):0<(bU c s).length:=by
 unfold bU
 rw[List.length_map]
 exact List.length_pos_iff.2 (sM c _)
theorem F4(c:UInt8)(s:ByteArray):(bU c s).length<=s.size+1:=by
 have key:∀t:List UInt8,(cE c t).length<=t.length+1:=λt=>by
  induction t with
  |nil=>simp[cE]
  |cons z r ih=>
   unfold cE
   split
   ·simp;omega
   ·split
    ·simp
    ·rename_i e1;rw[e1]at ih;simp at ih⊢;omega
 unfold bU
 rw[List.length_map]
 have:=key s.data.toList
 rwa[Array.length_toList]at this
theorem J0(s:ByteArray)(hs:s.size<=200)(w:World):Calls prog 111 #[.string s] w (Ad (je (bU 32 s)) w):=by
 have hB0:∀o:Obj,Below w.heap.size w (w.alloc o):=λo=>aU
 have mO:Hid (Calls prog 142 #[.string s,.int .u8 32] (w.alloc (.cells xO.toArray 220)) (n_ s 32 (w.alloc (.cells xO.toArray 220)))):=wY s (by omega) 32 _
 unfold n_ xO at mO
 have hpos:=F5 32 s
 have hlen:=F4 32 s
 have hsz:∀x∈bU 32 s,x.size<=1000:=λx hx=>Nat.le_trans (nR hx) (by omega)
 obtain⟨l,hl⟩:∃l,bU 32 s=l:=⟨_,rfl⟩
 rw[hl]at mO hpos hlen hsz
 rw[hl]
 obtain⟨n,hn⟩:∃n,l.length=n:=⟨_,rfl⟩
 have Hn:=af hn
 have Hsz:=af hsz
 have hat:∀i,i<n->l[i]? =some (jz l i):=λi hi=>by unfold jz;rw[List.getElem?_eq_getElem (by omega)];rfl
 have eY:Hid (∀(i:Nat) (W:World),i<n->Calls prog 143 #[.string (jz l i)] W λe w'=>e=.returned (.tuple #[.int .i64 (dL l i).1,.bool (dL l i).2])/\w'=W):=λi W hi=>kC _ (Hsz.out _ (List.mem_of_getElem? (hat i hi))) W
 have hmp:∀i,i<n->(l.map Value.string)[i]? =some (.string (jz l i)):=λi hi=>by rw[List.getElem?_map,hat i hi];rfl
 rw[hn]at mO hpos hlen
 have hn2:n<=1000:=by omega
 have t_:(0:Int)<(n:Int):=by omega
 obtain⟨x0,hx0⟩:∃x,jz l 0=x:=⟨_,rfl⟩
 have xY:Hid ((l.map Value.string)[0]? =some (.string x0)):=by rw[<-hx0];exact hmp 0 hpos
 have HR:Hid (je l=if iq x0=true then(if n=4\/(n=5/\(jz l 4).size=8)then Jd l else .bad)else if jR x0=true then(if 6<=n then oN l else .bad)else if mD x0=true then(if n=2 then(if(dL l 1).2=true/\1<=(dL l 1).1/\(dL l 1).1<=99 then .del (dL l 1).1 else .bad)else .bad)else .bad):=by
  show je l=_
  unfold je
  rw[hx0,hn]
 have XM:Hid (∀m,m=n->True):=λ_ _=>trivial
 clear hn hsz hl hx0 hlen
 cases h1:iq x0 with
 |true=>
  have t1:(x0.toList==[103,101,116])=true:=h1
  rw[h1,if_pos rfl]at HR
  by_cases h4:n=4
  ·subst h4
   rw[if_pos (by omega)]at HR
   obtain⟨x1,hx1⟩:∃x,jz l 1=x:=⟨_,rfl⟩
   have Aa:Hid ((l.map Value.string)[1]? =some (.string x1)):=by rw[<-hx1];exact hmp 1 (by omega)
   have N1:Hid (∀W:World,Calls prog 143 #[.string x1] W λe w'=>e=.returned (.tuple #[.int .i64 (dL l 1).1,.bool (dL l 1).2])/\w'=W):=λW=>by rw[<-hx1];exact eY.out 1 W (by omega)
   obtain⟨x2,hx2⟩:∃x,jz l 2=x:=⟨_,rfl⟩
   have Ge:Hid ((l.map Value.string)[2]? =some (.string x2)):=by rw[<-hx2];exact hmp 2 (by omega)
   have N2:Hid (∀W:World,Calls prog 143 #[.string x2] W λe w'=>e=.returned (.tuple #[.int .i64 (dL l 2).1,.bool (dL l 2).2])/\w'=W):=λW=>by rw[<-hx2];exact eY.out 2 W (by omega)
   obtain⟨x3,hx3⟩:∃x,jz l 3=x:=⟨_,rfl⟩
   have Gf:Hid ((l.map Value.string)[3]? =some (.string x3)):=by rw[<-hx3];exact hmp 3 (by omega)
   have N3:Hid (∀W:World,Calls prog 143 #[.string x3] W λe w'=>e=.returned (.tuple #[.int .i64 (dL l 3).1,.bool (dL l 3).2])/\w'=W):=λW=>by rw[<-hx3];exact eY.out 3 W (by omega)
   have HG:Hid (je l=if(dL l 1).2=true/\(dL l 2).2=true/\(dL l 3).2=true/\cC (dL l 1).1 (dL l 2).1 (dL l 3).1=true then .get ⟨(dL l 1).1,(dL l 2).1,(dL l 3).1⟩ ⟨#[]⟩else .bad):=by
    show je l=_
    rw[HR.out]
    unfold Jd
    rw[Hn.out]
    rfl
   obtain⟨⟨i1,b1⟩,e1⟩:∃x,dL l 1=x:=⟨_,rfl⟩
   rw[e1]at N1 HG
   obtain⟨⟨i2,b2⟩,e2⟩:∃x,dL l 2=x:=⟨_,rfl⟩
   rw[e2]at N2 HG
   obtain⟨⟨i3,b3⟩,e3⟩:∃x,dL l 3=x:=⟨_,rfl⟩
   rw[e3]at N3 HG
   dsimp only at N1 N2 N3 HG
   have HT:Hid (∀W:World,Calls prog 62 #[.agg #[.int .i64 i1,.int .i64 i2,.int .i64 i3]] W λe w'=>e=.returned (.bool (cC i1 i2 i3))/\Below W.heap.size W w'):=λW=>tK i1 i2 i3 W
   obtain⟨tb,htb⟩:∃b,cC i1 i2 i3=b:=⟨_,rfl⟩
   rw[htb]at HT HG
   clear HR eY hat hmp e1 e2 e3 hx1 hx2 hx3 htb
   cases b1 with
   |false=>
    rw[show je l=.bad by rw[HG.out,if_neg (by simp)]]
    clear HG
    go_enter func111,ntmps111
    go_wp2_with (first
     |(go_at_call 142;refine aq mO.out ?_;rintro e w1 ⟨a1,c1,rfl,hc1,ho1,hb1⟩;dsimp only;obtain⟨yG,c1',e1,_,hg1⟩:=aF ho1;injection e1 with e11 _ kX;subst e11 kX;obtain⟨g1,rfl,k9⟩:=hg1 (by omega);have d0:w1.cell? ⟨g1,0,none⟩=some (.string x0):=(ho1.cellAt 0 (by omega)).trans xY.out;have d1:w1.cell? ⟨g1,1,none⟩=some (.string x1):=(ho1.cellAt 1 (by omega)).trans Aa.out;have d2:w1.cell? ⟨g1,2,none⟩=some (.string x2):=(ho1.cellAt 2 (by omega)).trans Ge.out;have d3:w1.cell? ⟨g1,3,none⟩=some (.string x3):=(ho1.cellAt 3 (by omega)).trans Gf.out;have jh:Hid (Below w.heap.size w w1):=(hB0 _).trans (hb1.mono (by simp));have eE:Hid (fO w1 w.heap.size):=(fO.new w 220).below hb1 (by simp);have hs1:w.heap.size+1<=w1.heap.size:=(by have:=hb1.size;simpa using this);obtain⟨z0,z1,z2,z3,z4,z5,z6,z7,z8,z9,ur,uu,uw,ux,uy,uz,uA,uB,uC,uD⟩:=eE.out.all;clear hb1 hg1)
     |(go_at_call_of 143 (Value.string x1);refine aq (N1.out _) ?_;rintro e w2 ⟨rfl,hw⟩;subst w2;dsimp only)
     |(go_at_call_of 143 (Value.string x2);refine aq (N2.out _) ?_;rintro e w2 ⟨rfl,hw⟩;subst w2;dsimp only)
     |(go_at_call_of 143 (Value.string x3);refine aq (N3.out _) ?_;rintro e w2 ⟨rfl,hw⟩;subst w2;dsimp only)
     |(go_at_call 62;refine aq (HT.out _) ?_;rintro e w2 ⟨rfl,hb2⟩;dsimp only;have dm:Hid (Below w1.heap.size w1 w2):=(aU.trans (hb2.mono (by simp)));have v0:w2.cell? ⟨w1.heap.size,0,none⟩=some (.int .i64 i1):=(hb2.cell (p:=⟨w1.heap.size,0,none⟩) (by simp)).trans (by simp[go_sem]);have v1:w2.cell? ⟨w1.heap.size,1,none⟩=some (.int .i64 i2):=(hb2.cell (p:=⟨w1.heap.size,1,none⟩) (by simp)).trans (by simp[go_sem]);have v2:w2.cell? ⟨w1.heap.size,2,none⟩=some (.int .i64 i3):=(hb2.cell (p:=⟨w1.heap.size,2,none⟩) (by simp)).trans (by simp[go_sem]);have dP:Hid (fO w2 w.heap.size):=eE.out.below dm.out (by omega);have vh:Hid (Below w.heap.size w w2):=jh.out.trans (dm.out.mono (by omega));have hs2:w1.heap.size+1<=w2.heap.size:=(by have:=hb2.size;simpa using this);obtain⟨xp,xu,xx,xA,xC,xE,xG,xI,xK,xM,xq,xw,xy,xB,xD,xF,xH,xJ,xL,xN⟩:=dP.out.all;clear hb2))
    exact bodyPost_ret (v:=.agg #[.int .i64 0,.int .i64 0,.int .i64 0,.int .i64 0,.string ⟨#[]⟩,.int .i64 0,.int .i64 0,.int .i64 0,.int .i64 0,.slice none 0 0]) (by simp[results,results111,go_sem,xp,xu,xx,xA,xC,xE,xG,xI,xK,xM]) rfl ⟨_,rfl,rfl,(by repeat(first|with_reducible exact vh.out|with_reducible refine Below.setCell ?_ (by simp<;>omega) _|with_reducible refine Below.alloc ?_ (by simp<;>omega) _))⟩
   |true=>
    cases b2 with
    |false=>
     rw[show je l=.bad by rw[HG.out,if_neg (by simp)]]
     clear HG
     go_enter func111,ntmps111
     go_wp2_with (first
      |(go_at_call 142;refine aq mO.out ?_;rintro e w1 ⟨a1,c1,rfl,hc1,ho1,hb1⟩;dsimp only;obtain⟨yG,c1',e1,_,hg1⟩:=aF ho1;injection e1 with e11 _ kX;subst e11 kX;obtain⟨g1,rfl,k9⟩:=hg1 (by omega);have d0:w1.cell? ⟨g1,0,none⟩=some (.string x0):=(ho1.cellAt 0 (by omega)).trans xY.out;have d1:w1.cell? ⟨g1,1,none⟩=some (.string x1):=(ho1.cellAt 1 (by omega)).trans Aa.out;have d2:w1.cell? ⟨g1,2,none⟩=some (.string x2):=(ho1.cellAt 2 (by omega)).trans Ge.out;have d3:w1.cell? ⟨g1,3,none⟩=some (.string x3):=(ho1.cellAt 3 (by omega)).trans Gf.out;have jh:Hid (Below w.heap.size w w1):=(hB0 _).trans (hb1.mono (by simp));have eE:Hid (fO w1 w.heap.size):=(fO.new w 220).below hb1 (by simp);have hs1:w.heap.size+1<=w1.heap.size:=(by have:=hb1.size;simpa using this);obtain⟨z0,z1,z2,z3,z4,z5,z6,z7,z8,z9,ur,uu,uw,ux,uy,uz,uA,uB,uC,uD⟩:=eE.out.all;clear hb1 hg1)
      |(go_at_call_of 143 (Value.string x1);refine aq (N1.out _) ?_;rintro e w2 ⟨rfl,hw⟩;subst w2;dsimp only)
      |(go_at_call_of 143 (Value.string x2);refine aq (N2.out _) ?_;rintro e w2 ⟨rfl,hw⟩;subst w2;dsimp only)
      |(go_at_call_of 143 (Value.string x3);refine aq (N3.out _) ?_;rintro e w2 ⟨rfl,hw⟩;subst w2;dsimp only)
      |(go_at_call 62;refine aq (HT.out _) ?_;rintro e w2 ⟨rfl,hb2⟩;dsimp only;have dm:Hid (Below w1.heap.size w1 w2):=(aU.trans (hb2.mono (by simp)));have v0:w2.cell? ⟨w1.heap.size,0,none⟩=some (.int .i64 i1):=(hb2.cell (p:=⟨w1.heap.size,0,none⟩) (by simp)).trans (by simp[go_sem]);have v1:w2.cell? ⟨w1.heap.size,1,none⟩=some (.int .i64 i2):=(hb2.cell (p:=⟨w1.heap.size,1,none⟩) (by simp)).trans (by simp[go_sem]);have v2:w2.cell? ⟨w1.heap.size,2,none⟩=some (.int .i64 i3):=(hb2.cell (p:=⟨w1.heap.size,2,none⟩) (by simp)).trans (by simp[go_sem]);have dP:Hid (fO w2 w.heap.size):=eE.out.below dm.out (by omega);have vh:Hid (Below w.heap.size w w2):=jh.out.trans (dm.out.mono (by omega));have hs2:w1.heap.size+1<=w2.heap.size:=(by have:=hb2.size;simpa using this);obtain⟨xp,xu,xx,xA,xC,xE,xG,xI,xK,xM,xq,xw,xy,xB,xD,xF,xH,xJ,xL,xN⟩:=dP.out.all;clear hb2))
     exact bodyPost_ret (v:=.agg #[.int .i64 0,.int .i64 0,.int .i64 0,.int .i64 0,.string ⟨#[]⟩,.int .i64 0,.int .i64 0,.int .i64 0,.int .i64 0,.slice none 0 0]) (by simp[results,results111,go_sem,xp,xu,xx,xA,xC,xE,xG,xI,xK,xM]) rfl ⟨_,rfl,rfl,(by repeat(first|with_reducible exact vh.out|with_reducible refine Below.setCell ?_ (by simp<;>omega) _|with_reducible refine Below.alloc ?_ (by simp<;>omega) _))⟩
    |true=>
     cases b3 with
     |false=>
      rw[show je l=.bad by rw[HG.out,if_neg (by simp)]]
      clear HG
      go_enter func111,ntmps111
      go_wp2_with (first
       |(go_at_call 142;refine aq mO.out ?_;rintro e w1 ⟨a1,c1,rfl,hc1,ho1,hb1⟩;dsimp only;obtain⟨yG,c1',e1,_,hg1⟩:=aF ho1;injection e1 with e11 _ kX;subst e11 kX;obtain⟨g1,rfl,k9⟩:=hg1 (by omega);have d0:w1.cell? ⟨g1,0,none⟩=some (.string x0):=(ho1.cellAt 0 (by omega)).trans xY.out;have d1:w1.cell? ⟨g1,1,none⟩=some (.string x1):=(ho1.cellAt 1 (by omega)).trans Aa.out;have d2:w1.cell? ⟨g1,2,none⟩=some (.string x2):=(ho1.cellAt 2 (by omega)).trans Ge.out;have d3:w1.cell? ⟨g1,3,none⟩=some (.string x3):=(ho1.cellAt 3 (by omega)).trans Gf.out;have jh:Hid (Below w.heap.size w w1):=(hB0 _).trans (hb1.mono (by simp));have eE:Hid (fO w1 w.heap.size):=(fO.new w 220).below hb1 (by simp);have hs1:w.heap.size+1<=w1.heap.size:=(by have:=hb1.size;simpa using this);obtain⟨z0,z1,z2,z3,z4,z5,z6,z7,z8,z9,ur,uu,uw,ux,uy,uz,uA,uB,uC,uD⟩:=eE.out.all;clear hb1 hg1)
       |(go_at_call_of 143 (Value.string x1);refine aq (N1.out _) ?_;rintro e w2 ⟨rfl,hw⟩;subst w2;dsimp only)
       |(go_at_call_of 143 (Value.string x2);refine aq (N2.out _) ?_;rintro e w2 ⟨rfl,hw⟩;subst w2;dsimp only)
       |(go_at_call_of 143 (Value.string x3);refine aq (N3.out _) ?_;rintro e w2 ⟨rfl,hw⟩;subst w2;dsimp only)
       |(go_at_call 62;refine aq (HT.out _) ?_;rintro e w2 ⟨rfl,hb2⟩;dsimp only;have dm:Hid (Below w1.heap.size w1 w2):=(aU.trans (hb2.mono (by simp)));have v0:w2.cell? ⟨w1.heap.size,0,none⟩=some (.int .i64 i1):=(hb2.cell (p:=⟨w1.heap.size,0,none⟩) (by simp)).trans (by simp[go_sem]);have v1:w2.cell? ⟨w1.heap.size,1,none⟩=some (.int .i64 i2):=(hb2.cell (p:=⟨w1.heap.size,1,none⟩) (by simp)).trans (by simp[go_sem]);have v2:w2.cell? ⟨w1.heap.size,2,none⟩=some (.int .i64 i3):=(hb2.cell (p:=⟨w1.heap.size,2,none⟩) (by simp)).trans (by simp[go_sem]);have dP:Hid (fO w2 w.heap.size):=eE.out.below dm.out (by omega);have vh:Hid (Below w.heap.size w w2):=jh.out.trans (dm.out.mono (by omega));have hs2:w1.heap.size+1<=w2.heap.size:=(by have:=hb2.size;simpa using this);obtain⟨xp,xu,xx,xA,xC,xE,xG,xI,xK,xM,xq,xw,xy,xB,xD,xF,xH,xJ,xL,xN⟩:=dP.out.all;clear hb2))
      exact bodyPost_ret (v:=.agg #[.int .i64 0,.int .i64 0,.int .i64 0,.int .i64 0,.string ⟨#[]⟩,.int .i64 0,.int .i64 0,.int .i64 0,.int .i64 0,.slice none 0 0]) (by simp[results,results111,go_sem,xp,xu,xx,xA,xC,xE,xG,xI,xK,xM]) rfl ⟨_,rfl,rfl,(by repeat(first|with_reducible exact vh.out|with_reducible refine Below.setCell ?_ (by simp<;>omega) _|with_reducible refine Below.alloc ?_ (by simp<;>omega) _))⟩
     |true=>
      cases tb with
      |false=>
       rw[show je l=.bad by rw[HG.out,if_neg (by simp)]]
       clear HG
       go_enter func111,ntmps111
       go_wp2_with (first
        |(go_at_call 142;refine aq mO.out ?_;rintro e w1 ⟨a1,c1,rfl,hc1,ho1,hb1⟩;dsimp only;obtain⟨yG,c1',e1,_,hg1⟩:=aF ho1;injection e1 with e11 _ kX;subst e11 kX;obtain⟨g1,rfl,k9⟩:=hg1 (by omega);have d0:w1.cell? ⟨g1,0,none⟩=some (.string x0):=(ho1.cellAt 0 (by omega)).trans xY.out;have d1:w1.cell? ⟨g1,1,none⟩=some (.string x1):=(ho1.cellAt 1 (by omega)).trans Aa.out;have d2:w1.cell? ⟨g1,2,none⟩=some (.string x2):=(ho1.cellAt 2 (by omega)).trans Ge.out;have d3:w1.cell? ⟨g1,3,none⟩=some (.string x3):=(ho1.cellAt 3 (by omega)).trans Gf.out;have jh:Hid (Below w.heap.size w w1):=(hB0 _).trans (hb1.mono (by simp));have eE:Hid (fO w1 w.heap.size):=(fO.new w 220).below hb1 (by simp);have hs1:w.heap.size+1<=w1.heap.size:=(by have:=hb1.size;simpa using this);obtain⟨z0,z1,z2,z3,z4,z5,z6,z7,z8,z9,ur,uu,uw,ux,uy,uz,uA,uB,uC,uD⟩:=eE.out.all;clear hb1 hg1)
        |(go_at_call_of 143 (Value.string x1);refine aq (N1.out _) ?_;rintro e w2 ⟨rfl,hw⟩;subst w2;dsimp only)
        |(go_at_call_of 143 (Value.string x2);refine aq (N2.out _) ?_;rintro e w2 ⟨rfl,hw⟩;subst w2;dsimp only)
        |(go_at_call_of 143 (Value.string x3);refine aq (N3.out _) ?_;rintro e w2 ⟨rfl,hw⟩;subst w2;dsimp only)
        |(go_at_call 62;refine aq (HT.out _) ?_;rintro e w2 ⟨rfl,hb2⟩;dsimp only;have dm:Hid (Below w1.heap.size w1 w2):=(aU.trans (hb2.mono (by simp)));have v0:w2.cell? ⟨w1.heap.size,0,none⟩=some (.int .i64 i1):=(hb2.cell (p:=⟨w1.heap.size,0,none⟩) (by simp)).trans (by simp[go_sem]);have v1:w2.cell? ⟨w1.heap.size,1,none⟩=some (.int .i64 i2):=(hb2.cell (p:=⟨w1.heap.size,1,none⟩) (by simp)).trans (by simp[go_sem]);have v2:w2.cell? ⟨w1.heap.size,2,none⟩=some (.int .i64 i3):=(hb2.cell (p:=⟨w1.heap.size,2,none⟩) (by simp)).trans (by simp[go_sem]);have dP:Hid (fO w2 w.heap.size):=eE.out.below dm.out (by omega);have vh:Hid (Below w.heap.size w w2):=jh.out.trans (dm.out.mono (by omega));have hs2:w1.heap.size+1<=w2.heap.size:=(by have:=hb2.size;simpa using this);obtain⟨xp,xu,xx,xA,xC,xE,xG,xI,xK,xM,xq,xw,xy,xB,xD,xF,xH,xJ,xL,xN⟩:=dP.out.all;clear hb2))
       exact bodyPost_ret (v:=.agg #[.int .i64 0,.int .i64 0,.int .i64 0,.int .i64 0,.string ⟨#[]⟩,.int .i64 0,.int .i64 0,.int .i64 0,.int .i64 0,.slice none 0 0]) (by simp[results,results111,go_sem,xp,xu,xx,xA,xC,xE,xG,xI,xK,xM]) rfl ⟨_,rfl,rfl,(by repeat(first|with_reducible exact vh.out|with_reducible refine Below.setCell ?_ (by simp<;>omega) _|with_reducible refine Below.alloc ?_ (by simp<;>omega) _))⟩
      |true=>
       rw[show je l=_ by rw[HG.out,if_pos ⟨rfl,rfl,rfl,rfl⟩]]
       clear HG
       go_enter func111,ntmps111
       go_wp2_with (first
        |(go_at_call 142;refine aq mO.out ?_;rintro e w1 ⟨a1,c1,rfl,hc1,ho1,hb1⟩;dsimp only;obtain⟨yG,c1',e1,_,hg1⟩:=aF ho1;injection e1 with e11 _ kX;subst e11 kX;obtain⟨g1,rfl,k9⟩:=hg1 (by omega);have d0:w1.cell? ⟨g1,0,none⟩=some (.string x0):=(ho1.cellAt 0 (by omega)).trans xY.out;have d1:w1.cell? ⟨g1,1,none⟩=some (.string x1):=(ho1.cellAt 1 (by omega)).trans Aa.out;have d2:w1.cell? ⟨g1,2,none⟩=some (.string x2):=(ho1.cellAt 2 (by omega)).trans Ge.out;have d3:w1.cell? ⟨g1,3,none⟩=some (.string x3):=(ho1.cellAt 3 (by omega)).trans Gf.out;have jh:Hid (Below w.heap.size w w1):=(hB0 _).trans (hb1.mono (by simp));have eE:Hid (fO w1 w.heap.size):=(fO.new w 220).below hb1 (by simp);have hs1:w.heap.size+1<=w1.heap.size:=(by have:=hb1.size;simpa using this);obtain⟨z0,z1,z2,z3,z4,z5,z6,z7,z8,z9,ur,uu,uw,ux,uy,uz,uA,uB,uC,uD⟩:=eE.out.all;clear hb1 hg1)
        |(go_at_call_of 143 (Value.string x1);refine aq (N1.out _) ?_;rintro e w2 ⟨rfl,hw⟩;subst w2;dsimp only)
        |(go_at_call_of 143 (Value.string x2);refine aq (N2.out _) ?_;rintro e w2 ⟨rfl,hw⟩;subst w2;dsimp only)
        |(go_at_call_of 143 (Value.string x3);refine aq (N3.out _) ?_;rintro e w2 ⟨rfl,hw⟩;subst w2;dsimp only)
        |(go_at_call 62;refine aq (HT.out _) ?_;rintro e w2 ⟨rfl,hb2⟩;dsimp only;have dm:Hid (Below w1.heap.size w1 w2):=(aU.trans (hb2.mono (by simp)));have v0:w2.cell? ⟨w1.heap.size,0,none⟩=some (.int .i64 i1):=(hb2.cell (p:=⟨w1.heap.size,0,none⟩) (by simp)).trans (by simp[go_sem]);have v1:w2.cell? ⟨w1.heap.size,1,none⟩=some (.int .i64 i2):=(hb2.cell (p:=⟨w1.heap.size,1,none⟩) (by simp)).trans (by simp[go_sem]);have v2:w2.cell? ⟨w1.heap.size,2,none⟩=some (.int .i64 i3):=(hb2.cell (p:=⟨w1.heap.size,2,none⟩) (by simp)).trans (by simp[go_sem]);have dP:Hid (fO w2 w.heap.size):=eE.out.below dm.out (by omega);have vh:Hid (Below w.heap.size w w2):=jh.out.trans (dm.out.mono (by omega));have hs2:w1.heap.size+1<=w2.heap.size:=(by have:=hb2.size;simpa using this);obtain⟨xp,xu,xx,xA,xC,xE,xG,xI,xK,xM,xq,xw,xy,xB,xD,xF,xH,xJ,xL,xN⟩:=dP.out.all;clear hb2))
       exact bodyPost_ret (v:=.agg #[.int .i64 1,.int .i64 i1,.int .i64 i2,.int .i64 i3,.string ⟨#[]⟩,.int .i64 0,.int .i64 0,.int .i64 0,.int .i64 0,.slice none 0 0]) (by simp[results,results111,go_sem,xp,xu,xx,xA,xC,xE,xG,xI,xK,xM]) rfl ⟨_,rfl,rfl,(by repeat(first|with_reducible exact vh.out|with_reducible refine Below.setCell ?_ (by simp<;>omega) _|with_reducible refine Below.alloc ?_ (by simp<;>omega) _))⟩
  ·have h4I:((n:Int)==4)=false:=by simp;omega
   have h4J:¬(n:Int)=4:=by omega
   by_cases h5:n=5
   ·subst h5
    by_cases h8:(jz l 4).size=8
    ·rw[if_pos (.inr ⟨rfl,h8⟩)]at HR
     obtain⟨x4,Ky⟩:∃x,jz l 4=x:=⟨_,rfl⟩
     have RV:Hid ((l.map Value.string)[4]? =some (.string x4)):=by rw[<-Ky];exact hmp 4 (by omega)
     rw[Ky]at h8
     have h8I:(x4.size:Int)=8:=by omega
     obtain⟨x1,hx1⟩:∃x,jz l 1=x:=⟨_,rfl⟩
     have Aa:Hid ((l.map Value.string)[1]? =some (.string x1)):=by rw[<-hx1];exact hmp 1 (by omega)
     have N1:Hid (∀W:World,Calls prog 143 #[.string x1] W λe w'=>e=.returned (.tuple #[.int .i64 (dL l 1).1,.bool (dL l 1).2])/\w'=W):=λW=>by rw[<-hx1];exact eY.out 1 W (by omega)
     obtain⟨x2,hx2⟩:∃x,jz l 2=x:=⟨_,rfl⟩
     have Ge:Hid ((l.map Value.string)[2]? =some (.string x2)):=by rw[<-hx2];exact hmp 2 (by omega)
     have N2:Hid (∀W:World,Calls prog 143 #[.string x2] W λe w'=>e=.returned (.tuple #[.int .i64 (dL l 2).1,.bool (dL l 2).2])/\w'=W):=λW=>by rw[<-hx2];exact eY.out 2 W (by omega)
     obtain⟨x3,hx3⟩:∃x,jz l 3=x:=⟨_,rfl⟩
     have Gf:Hid ((l.map Value.string)[3]? =some (.string x3)):=by rw[<-hx3];exact hmp 3 (by omega)
     have N3:Hid (∀W:World,Calls prog 143 #[.string x3] W λe w'=>e=.returned (.tuple #[.int .i64 (dL l 3).1,.bool (dL l 3).2])/\w'=W):=λW=>by rw[<-hx3];exact eY.out 3 W (by omega)
     have HG:Hid (je l=if(dL l 1).2=true/\(dL l 2).2=true/\(dL l 3).2=true/\cC (dL l 1).1 (dL l 2).1 (dL l 3).1=true then .get ⟨(dL l 1).1,(dL l 2).1,(dL l 3).1⟩ x4 else .bad):=by
      show je l=_
      rw[HR.out]
      unfold Jd
      rw[Hn.out,Ky]
      rfl
     obtain⟨⟨i1,b1⟩,e1⟩:∃x,dL l 1=x:=⟨_,rfl⟩
     rw[e1]at N1 HG
     obtain⟨⟨i2,b2⟩,e2⟩:∃x,dL l 2=x:=⟨_,rfl⟩
     rw[e2]at N2 HG
     obtain⟨⟨i3,b3⟩,e3⟩:∃x,dL l 3=x:=⟨_,rfl⟩
     rw[e3]at N3 HG
     dsimp only at N1 N2 N3 HG
     have HT:Hid (∀W:World,Calls prog 62 #[.agg #[.int .i64 i1,.int .i64 i2,.int .i64 i3]] W λe w'=>e=.returned (.bool (cC i1 i2 i3))/\Below W.heap.size W w'):=λW=>tK i1 i2 i3 W
     obtain⟨tb,htb⟩:∃b,cC i1 i2 i3=b:=⟨_,rfl⟩
     rw[htb]at HT HG
     clear HR eY hat hmp e1 e2 e3 hx1 hx2 hx3 htb Ky
     cases b1 with
     |false=>
      rw[show je l=.bad by rw[HG.out,if_neg (by simp)]]
      clear HG
      go_enter func111,ntmps111
      go_wp2_with (first
       |(go_at_call 142;refine aq mO.out ?_;rintro e w1 ⟨a1,c1,rfl,hc1,ho1,hb1⟩;dsimp only;obtain⟨yG,c1',e1,_,hg1⟩:=aF ho1;injection e1 with e11 _ kX;subst e11 kX;obtain⟨g1,rfl,k9⟩:=hg1 (by omega);have d0:w1.cell? ⟨g1,0,none⟩=some (.string x0):=(ho1.cellAt 0 (by omega)).trans xY.out;have d1:w1.cell? ⟨g1,1,none⟩=some (.string x1):=(ho1.cellAt 1 (by omega)).trans Aa.out;have d2:w1.cell? ⟨g1,2,none⟩=some (.string x2):=(ho1.cellAt 2 (by omega)).trans Ge.out;have d3:w1.cell? ⟨g1,3,none⟩=some (.string x3):=(ho1.cellAt 3 (by omega)).trans Gf.out;have d4:w1.cell? ⟨g1,4,none⟩=some (.string x4):=(ho1.cellAt 4 (by omega)).trans RV.out;have jh:Hid (Below w.heap.size w w1):=(hB0 _).trans (hb1.mono (by simp));have eE:Hid (fO w1 w.heap.size):=(fO.new w 220).below hb1 (by simp);have hs1:w.heap.size+1<=w1.heap.size:=(by have:=hb1.size;simpa using this);obtain⟨z0,z1,z2,z3,z4,z5,z6,z7,z8,z9,ur,uu,uw,ux,uy,uz,uA,uB,uC,uD⟩:=eE.out.all;clear hb1 hg1)
       |(go_at_call_of 143 (Value.string x1);refine aq (N1.out _) ?_;rintro e w2 ⟨rfl,hw⟩;subst w2;dsimp only)
       |(go_at_call_of 143 (Value.string x2);refine aq (N2.out _) ?_;rintro e w2 ⟨rfl,hw⟩;subst w2;dsimp only)
       |(go_at_call_of 143 (Value.string x3);refine aq (N3.out _) ?_;rintro e w2 ⟨rfl,hw⟩;subst w2;dsimp only)
       |(go_at_call 62;refine aq (HT.out _) ?_;rintro e w2 ⟨rfl,hb2⟩;dsimp only;have dm:Hid (Below w1.heap.size w1 w2):=(aU.trans (hb2.mono (by simp)));have v0:w2.cell? ⟨w1.heap.size,0,none⟩=some (.int .i64 i1):=(hb2.cell (p:=⟨w1.heap.size,0,none⟩) (by simp)).trans (by simp[go_sem]);have v1:w2.cell? ⟨w1.heap.size,1,none⟩=some (.int .i64 i2):=(hb2.cell (p:=⟨w1.heap.size,1,none⟩) (by simp)).trans (by simp[go_sem]);have v2:w2.cell? ⟨w1.heap.size,2,none⟩=some (.int .i64 i3):=(hb2.cell (p:=⟨w1.heap.size,2,none⟩) (by simp)).trans (by simp[go_sem]);have dP:Hid (fO w2 w.heap.size):=eE.out.below dm.out (by omega);have vh:Hid (Below w.heap.size w w2):=jh.out.trans (dm.out.mono (by omega));have hs2:w1.heap.size+1<=w2.heap.size:=(by have:=hb2.size;simpa using this);obtain⟨xp,xu,xx,xA,xC,xE,xG,xI,xK,xM,xq,xw,xy,xB,xD,xF,xH,xJ,xL,xN⟩:=dP.out.all;clear hb2))
      exact bodyPost_ret (v:=.agg #[.int .i64 0,.int .i64 0,.int .i64 0,.int .i64 0,.string ⟨#[]⟩,.int .i64 0,.int .i64 0,.int .i64 0,.int .i64 0,.slice none 0 0]) (by simp[results,results111,go_sem,xp,xu,xx,xA,xC,xE,xG,xI,xK,xM]) rfl ⟨_,rfl,rfl,(by repeat(first|with_reducible exact vh.out|with_reducible refine Below.setCell ?_ (by simp<;>omega) _|with_reducible refine Below.alloc ?_ (by simp<;>omega) _))⟩
     |true=>
      cases b2 with
      |false=>
       rw[show je l=.bad by rw[HG.out,if_neg (by simp)]]
       clear HG
       go_enter func111,ntmps111
       go_wp2_with (first
        |(go_at_call 142;refine aq mO.out ?_;rintro e w1 ⟨a1,c1,rfl,hc1,ho1,hb1⟩;dsimp only;obtain⟨yG,c1',e1,_,hg1⟩:=aF ho1;injection e1 with e11 _ kX;subst e11 kX;obtain⟨g1,rfl,k9⟩:=hg1 (by omega);have d0:w1.cell? ⟨g1,0,none⟩=some (.string x0):=(ho1.cellAt 0 (by omega)).trans xY.out;have d1:w1.cell? ⟨g1,1,none⟩=some (.string x1):=(ho1.cellAt 1 (by omega)).trans Aa.out;have d2:w1.cell? ⟨g1,2,none⟩=some (.string x2):=(ho1.cellAt 2 (by omega)).trans Ge.out;have d3:w1.cell? ⟨g1,3,none⟩=some (.string x3):=(ho1.cellAt 3 (by omega)).trans Gf.out;have d4:w1.cell? ⟨g1,4,none⟩=some (.string x4):=(ho1.cellAt 4 (by omega)).trans RV.out;have jh:Hid (Below w.heap.size w w1):=(hB0 _).trans (hb1.mono (by simp));have eE:Hid (fO w1 w.heap.size):=(fO.new w 220).below hb1 (by simp);have hs1:w.heap.size+1<=w1.heap.size:=(by have:=hb1.size;simpa using this);obtain⟨z0,z1,z2,z3,z4,z5,z6,z7,z8,z9,ur,uu,uw,ux,uy,uz,uA,uB,uC,uD⟩:=eE.out.all;clear hb1 hg1)
        |(go_at_call_of 143 (Value.string x1);refine aq (N1.out _) ?_;rintro e w2 ⟨rfl,hw⟩;subst w2;dsimp only)
        |(go_at_call_of 143 (Value.string x2);refine aq (N2.out _) ?_;rintro e w2 ⟨rfl,hw⟩;subst w2;dsimp only)
        |(go_at_call_of 143 (Value.string x3);refine aq (N3.out _) ?_;rintro e w2 ⟨rfl,hw⟩;subst w2;dsimp only)
        |(go_at_call 62;refine aq (HT.out _) ?_;rintro e w2 ⟨rfl,hb2⟩;dsimp only;have dm:Hid (Below w1.heap.size w1 w2):=(aU.trans (hb2.mono (by simp)));have v0:w2.cell? ⟨w1.heap.size,0,none⟩=some (.int .i64 i1):=(hb2.cell (p:=⟨w1.heap.size,0,none⟩) (by simp)).trans (by simp[go_sem]);have v1:w2.cell? ⟨w1.heap.size,1,none⟩=some (.int .i64 i2):=(hb2.cell (p:=⟨w1.heap.size,1,none⟩) (by simp)).trans (by simp[go_sem]);have v2:w2.cell? ⟨w1.heap.size,2,none⟩=some (.int .i64 i3):=(hb2.cell (p:=⟨w1.heap.size,2,none⟩) (by simp)).trans (by simp[go_sem]);have dP:Hid (fO w2 w.heap.size):=eE.out.below dm.out (by omega);have vh:Hid (Below w.heap.size w w2):=jh.out.trans (dm.out.mono (by omega));have hs2:w1.heap.size+1<=w2.heap.size:=(by have:=hb2.size;simpa using this);obtain⟨xp,xu,xx,xA,xC,xE,xG,xI,xK,xM,xq,xw,xy,xB,xD,xF,xH,xJ,xL,xN⟩:=dP.out.all;clear hb2))
       exact bodyPost_ret (v:=.agg #[.int .i64 0,.int .i64 0,.int .i64 0,.int .i64 0,.string ⟨#[]⟩,.int .i64 0,.int .i64 0,.int .i64 0,.int .i64 0,.slice none 0 0]) (by simp[results,results111,go_sem,xp,xu,xx,xA,xC,xE,xG,xI,xK,xM]) rfl ⟨_,rfl,rfl,(by repeat(first|with_reducible exact vh.out|with_reducible refine Below.setCell ?_ (by simp<;>omega) _|with_reducible refine Below.alloc ?_ (by simp<;>omega) _))⟩
      |true=>
       cases b3 with
       |false=>
        rw[show je l=.bad by rw[HG.out,if_neg (by simp)]]
        clear HG
        go_enter func111,ntmps111
        go_wp2_with (first
         |(go_at_call 142;refine aq mO.out ?_;rintro e w1 ⟨a1,c1,rfl,hc1,ho1,hb1⟩;dsimp only;obtain⟨yG,c1',e1,_,hg1⟩:=aF ho1;injection e1 with e11 _ kX;subst e11 kX;obtain⟨g1,rfl,k9⟩:=hg1 (by omega);have d0:w1.cell? ⟨g1,0,none⟩=some (.string x0):=(ho1.cellAt 0 (by omega)).trans xY.out;have d1:w1.cell? ⟨g1,1,none⟩=some (.string x1):=(ho1.cellAt 1 (by omega)).trans Aa.out;have d2:w1.cell? ⟨g1,2,none⟩=some (.string x2):=(ho1.cellAt 2 (by omega)).trans Ge.out;have d3:w1.cell? ⟨g1,3,none⟩=some (.string x3):=(ho1.cellAt 3 (by omega)).trans Gf.out;have d4:w1.cell? ⟨g1,4,none⟩=some (.string x4):=(ho1.cellAt 4 (by omega)).trans RV.out;have jh:Hid (Below w.heap.size w w1):=(hB0 _).trans (hb1.mono (by simp));have eE:Hid (fO w1 w.heap.size):=(fO.new w 220).below hb1 (by simp);have hs1:w.heap.size+1<=w1.heap.size:=(by have:=hb1.size;simpa using this);obtain⟨z0,z1,z2,z3,z4,z5,z6,z7,z8,z9,ur,uu,uw,ux,uy,uz,uA,uB,uC,uD⟩:=eE.out.all;clear hb1 hg1)
         |(go_at_call_of 143 (Value.string x1);refine aq (N1.out _) ?_;rintro e w2 ⟨rfl,hw⟩;subst w2;dsimp only)
         |(go_at_call_of 143 (Value.string x2);refine aq (N2.out _) ?_;rintro e w2 ⟨rfl,hw⟩;subst w2;dsimp only)
         |(go_at_call_of 143 (Value.string x3);refine aq (N3.out _) ?_;rintro e w2 ⟨rfl,hw⟩;subst w2;dsimp only)
         |(go_at_call 62;refine aq (HT.out _) ?_;rintro e w2 ⟨rfl,hb2⟩;dsimp only;have dm:Hid (Below w1.heap.size w1 w2):=(aU.trans (hb2.mono (by simp)));have v0:w2.cell? ⟨w1.heap.size,0,none⟩=some (.int .i64 i1):=(hb2.cell (p:=⟨w1.heap.size,0,none⟩) (by simp)).trans (by simp[go_sem]);have v1:w2.cell? ⟨w1.heap.size,1,none⟩=some (.int .i64 i2):=(hb2.cell (p:=⟨w1.heap.size,1,none⟩) (by simp)).trans (by simp[go_sem]);have v2:w2.cell? ⟨w1.heap.size,2,none⟩=some (.int .i64 i3):=(hb2.cell (p:=⟨w1.heap.size,2,none⟩) (by simp)).trans (by simp[go_sem]);have dP:Hid (fO w2 w.heap.size):=eE.out.below dm.out (by omega);have vh:Hid (Below w.heap.size w w2):=jh.out.trans (dm.out.mono (by omega));have hs2:w1.heap.size+1<=w2.heap.size:=(by have:=hb2.size;simpa using this);obtain⟨xp,xu,xx,xA,xC,xE,xG,xI,xK,xM,xq,xw,xy,xB,xD,xF,xH,xJ,xL,xN⟩:=dP.out.all;clear hb2))
        exact bodyPost_ret (v:=.agg #[.int .i64 0,.int .i64 0,.int .i64 0,.int .i64 0,.string ⟨#[]⟩,.int .i64 0,.int .i64 0,.int .i64 0,.int .i64 0,.slice none 0 0]) (by simp[results,results111,go_sem,xp,xu,xx,xA,xC,xE,xG,xI,xK,xM]) rfl ⟨_,rfl,rfl,(by repeat(first|with_reducible exact vh.out|with_reducible refine Below.setCell ?_ (by simp<;>omega) _|with_reducible refine Below.alloc ?_ (by simp<;>omega) _))⟩
       |true=>
        cases tb with
        |false=>
         rw[show je l=.bad by rw[HG.out,if_neg (by simp)]]
         clear HG
         go_enter func111,ntmps111
         go_wp2_with (first
          |(go_at_call 142;refine aq mO.out ?_;rintro e w1 ⟨a1,c1,rfl,hc1,ho1,hb1⟩;dsimp only;obtain⟨yG,c1',e1,_,hg1⟩:=aF ho1;injection e1 with e11 _ kX;subst e11 kX;obtain⟨g1,rfl,k9⟩:=hg1 (by omega);have d0:w1.cell? ⟨g1,0,none⟩=some (.string x0):=(ho1.cellAt 0 (by omega)).trans xY.out;have d1:w1.cell? ⟨g1,1,none⟩=some (.string x1):=(ho1.cellAt 1 (by omega)).trans Aa.out;have d2:w1.cell? ⟨g1,2,none⟩=some (.string x2):=(ho1.cellAt 2 (by omega)).trans Ge.out;have d3:w1.cell? ⟨g1,3,none⟩=some (.string x3):=(ho1.cellAt 3 (by omega)).trans Gf.out;have d4:w1.cell? ⟨g1,4,none⟩=some (.string x4):=(ho1.cellAt 4 (by omega)).trans RV.out;have jh:Hid (Below w.heap.size w w1):=(hB0 _).trans (hb1.mono (by simp));have eE:Hid (fO w1 w.heap.size):=(fO.new w 220).below hb1 (by simp);have hs1:w.heap.size+1<=w1.heap.size:=(by have:=hb1.size;simpa using this);obtain⟨z0,z1,z2,z3,z4,z5,z6,z7,z8,z9,ur,uu,uw,ux,uy,uz,uA,uB,uC,uD⟩:=eE.out.all;clear hb1 hg1)
          |(go_at_call_of 143 (Value.string x1);refine aq (N1.out _) ?_;rintro e w2 ⟨rfl,hw⟩;subst w2;dsimp only)
          |(go_at_call_of 143 (Value.string x2);refine aq (N2.out _) ?_;rintro e w2 ⟨rfl,hw⟩;subst w2;dsimp only)
          |(go_at_call_of 143 (Value.string x3);refine aq (N3.out _) ?_;rintro e w2 ⟨rfl,hw⟩;subst w2;dsimp only)
          |(go_at_call 62;refine aq (HT.out _) ?_;rintro e w2 ⟨rfl,hb2⟩;dsimp only;have dm:Hid (Below w1.heap.size w1 w2):=(aU.trans (hb2.mono (by simp)));have v0:w2.cell? ⟨w1.heap.size,0,none⟩=some (.int .i64 i1):=(hb2.cell (p:=⟨w1.heap.size,0,none⟩) (by simp)).trans (by simp[go_sem]);have v1:w2.cell? ⟨w1.heap.size,1,none⟩=some (.int .i64 i2):=(hb2.cell (p:=⟨w1.heap.size,1,none⟩) (by simp)).trans (by simp[go_sem]);have v2:w2.cell? ⟨w1.heap.size,2,none⟩=some (.int .i64 i3):=(hb2.cell (p:=⟨w1.heap.size,2,none⟩) (by simp)).trans (by simp[go_sem]);have dP:Hid (fO w2 w.heap.size):=eE.out.below dm.out (by omega);have vh:Hid (Below w.heap.size w w2):=jh.out.trans (dm.out.mono (by omega));have hs2:w1.heap.size+1<=w2.heap.size:=(by have:=hb2.size;simpa using this);obtain⟨xp,xu,xx,xA,xC,xE,xG,xI,xK,xM,xq,xw,xy,xB,xD,xF,xH,xJ,xL,xN⟩:=dP.out.all;clear hb2))
         exact bodyPost_ret (v:=.agg #[.int .i64 0,.int .i64 0,.int .i64 0,.int .i64 0,.string ⟨#[]⟩,.int .i64 0,.int .i64 0,.int .i64 0,.int .i64 0,.slice none 0 0]) (by simp[results,results111,go_sem,xp,xu,xx,xA,xC,xE,xG,xI,xK,xM]) rfl ⟨_,rfl,rfl,(by repeat(first|with_reducible exact vh.out|with_reducible refine Below.setCell ?_ (by simp<;>omega) _|with_reducible refine Below.alloc ?_ (by simp<;>omega) _))⟩
        |true=>
         rw[show je l=_ by rw[HG.out,if_pos ⟨rfl,rfl,rfl,rfl⟩]]
         clear HG
         go_enter func111,ntmps111
         go_wp2_with (first
          |(go_at_call 142;refine aq mO.out ?_;rintro e w1 ⟨a1,c1,rfl,hc1,ho1,hb1⟩;dsimp only;obtain⟨yG,c1',e1,_,hg1⟩:=aF ho1;injection e1 with e11 _ kX;subst e11 kX;obtain⟨g1,rfl,k9⟩:=hg1 (by omega);have d0:w1.cell? ⟨g1,0,none⟩=some (.string x0):=(ho1.cellAt 0 (by omega)).trans xY.out;have d1:w1.cell? ⟨g1,1,none⟩=some (.string x1):=(ho1.cellAt 1 (by omega)).trans Aa.out;have d2:w1.cell? ⟨g1,2,none⟩=some (.string x2):=(ho1.cellAt 2 (by omega)).trans Ge.out;have d3:w1.cell? ⟨g1,3,none⟩=some (.string x3):=(ho1.cellAt 3 (by omega)).trans Gf.out;have d4:w1.cell? ⟨g1,4,none⟩=some (.string x4):=(ho1.cellAt 4 (by omega)).trans RV.out;have jh:Hid (Below w.heap.size w w1):=(hB0 _).trans (hb1.mono (by simp));have eE:Hid (fO w1 w.heap.size):=(fO.new w 220).below hb1 (by simp);have hs1:w.heap.size+1<=w1.heap.size:=(by have:=hb1.size;simpa using this);obtain⟨z0,z1,z2,z3,z4,z5,z6,z7,z8,z9,ur,uu,uw,ux,uy,uz,uA,uB,uC,uD⟩:=eE.out.all;clear hb1 hg1)
          |(go_at_call_of 143 (Value.string x1);refine aq (N1.out _) ?_;rintro e w2 ⟨rfl,hw⟩;subst w2;dsimp only)
          |(go_at_call_of 143 (Value.string x2);refine aq (N2.out _) ?_;rintro e w2 ⟨rfl,hw⟩;subst w2;dsimp only)
          |(go_at_call_of 143 (Value.string x3);refine aq (N3.out _) ?_;rintro e w2 ⟨rfl,hw⟩;subst w2;dsimp only)
          |(go_at_call 62;refine aq (HT.out _) ?_;rintro e w2 ⟨rfl,hb2⟩;dsimp only;have dm:Hid (Below w1.heap.size w1 w2):=(aU.trans (hb2.mono (by simp)));have v0:w2.cell? ⟨w1.heap.size,0,none⟩=some (.int .i64 i1):=(hb2.cell (p:=⟨w1.heap.size,0,none⟩) (by simp)).trans (by simp[go_sem]);have v1:w2.cell? ⟨w1.heap.size,1,none⟩=some (.int .i64 i2):=(hb2.cell (p:=⟨w1.heap.size,1,none⟩) (by simp)).trans (by simp[go_sem]);have v2:w2.cell? ⟨w1.heap.size,2,none⟩=some (.int .i64 i3):=(hb2.cell (p:=⟨w1.heap.size,2,none⟩) (by simp)).trans (by simp[go_sem]);have dP:Hid (fO w2 w.heap.size):=eE.out.below dm.out (by omega);have vh:Hid (Below w.heap.size w w2):=jh.out.trans (dm.out.mono (by omega));have hs2:w1.heap.size+1<=w2.heap.size:=(by have:=hb2.size;simpa using this);have d4y:w2.cell? ⟨g1,4,none⟩=some (.string x4):=(dm.out.cell (p:=⟨g1,4,none⟩) (ho1.lt g1 rfl).2).trans d4;obtain⟨xp,xu,xx,xA,xC,xE,xG,xI,xK,xM,xq,xw,xy,xB,xD,xF,xH,xJ,xL,xN⟩:=dP.out.all;clear hb2))
         exact bodyPost_ret (v:=.agg #[.int .i64 1,.int .i64 i1,.int .i64 i2,.int .i64 i3,.string x4,.int .i64 0,.int .i64 0,.int .i64 0,.int .i64 0,.slice none 0 0]) (by simp[results,results111,go_sem,xp,xu,xx,xA,xC,xE,xG,xI,xK,xM]) rfl ⟨_,rfl,rfl,(by repeat(first|with_reducible exact vh.out|with_reducible refine Below.setCell ?_ (by simp<;>omega) _|with_reducible refine Below.alloc ?_ (by simp<;>omega) _))⟩
    ·rw[if_neg (by omega)]at HR
     obtain⟨x4,Ky⟩:∃x,jz l 4=x:=⟨_,rfl⟩
     have Aa:Hid ((l.map Value.string)[1]? =some (.string (jz l 1))):=hmp 1 (by omega)
     have Ge:Hid ((l.map Value.string)[2]? =some (.string (jz l 2))):=hmp 2 (by omega)
     have Gf:Hid ((l.map Value.string)[3]? =some (.string (jz l 3))):=hmp 3 (by omega)
     have RV:Hid ((l.map Value.string)[4]? =some (.string x4)):=by rw[<-Ky];exact hmp 4 (by omega)
     rw[Ky]at h8
     have h8I:((x4.size:Int)==8)=false:=by simp;omega
     have h8J:¬(x4.size:Int)=8:=by omega
     obtain⟨x1,hx1⟩:∃x,jz l 1=x:=⟨_,rfl⟩
     obtain⟨x2,hx2⟩:∃x,jz l 2=x:=⟨_,rfl⟩
     obtain⟨x3,hx3⟩:∃x,jz l 3=x:=⟨_,rfl⟩
     rw[hx1]at Aa
     rw[hx2]at Ge
     rw[hx3]at Gf
     rw[HR.out]
     clear HR eY hat hmp hx1 hx2 hx3 Ky
     go_enter func111,ntmps111
     go_wp2_with (first
      |(go_at_call 142;refine aq mO.out ?_;rintro e w1 ⟨a1,c1,rfl,hc1,ho1,hb1⟩;dsimp only;obtain⟨yG,c1',e1,_,hg1⟩:=aF ho1;injection e1 with e11 _ kX;subst e11 kX;obtain⟨g1,rfl,k9⟩:=hg1 (by omega);have d0:w1.cell? ⟨g1,0,none⟩=some (.string x0):=(ho1.cellAt 0 (by omega)).trans xY.out;have d1:w1.cell? ⟨g1,1,none⟩=some (.string x1):=(ho1.cellAt 1 (by omega)).trans Aa.out;have d2:w1.cell? ⟨g1,2,none⟩=some (.string x2):=(ho1.cellAt 2 (by omega)).trans Ge.out;have d3:w1.cell? ⟨g1,3,none⟩=some (.string x3):=(ho1.cellAt 3 (by omega)).trans Gf.out;have d4:w1.cell? ⟨g1,4,none⟩=some (.string x4):=(ho1.cellAt 4 (by omega)).trans RV.out;have jh:Hid (Below w.heap.size w w1):=(hB0 _).trans (hb1.mono (by simp));have eE:Hid (fO w1 w.heap.size):=(fO.new w 220).below hb1 (by simp);have hs1:w.heap.size+1<=w1.heap.size:=(by have:=hb1.size;simpa using this);obtain⟨z0,z1,z2,z3,z4,z5,z6,z7,z8,z9,ur,uu,uw,ux,uy,uz,uA,uB,uC,uD⟩:=eE.out.all;clear hb1 hg1))
     exact bodyPost_ret (v:=.agg #[.int .i64 0,.int .i64 0,.int .i64 0,.int .i64 0,.string ⟨#[]⟩,.int .i64 0,.int .i64 0,.int .i64 0,.int .i64 0,.slice none 0 0]) (by simp[results,results111,go_sem,z0,z1,z2,z3,z4,z5,z6,z7,z8,z9]) rfl ⟨_,rfl,rfl,(by repeat(first|with_reducible exact jh.out|with_reducible refine Below.setCell ?_ (by simp<;>omega) _|with_reducible refine Below.alloc ?_ (by simp<;>omega) _))⟩
   ·have h5I:((n:Int)==5)=false:=by simp;omega
    have h5J:¬(n:Int)=5:=by omega
    rw[if_neg (by omega)]at HR
    rw[HR.out]
    clear HR eY hat hmp
    go_enter func111,ntmps111
    go_wp2_with (first
     |(go_at_call 142;refine aq mO.out ?_;rintro e w1 ⟨a1,c1,rfl,hc1,ho1,hb1⟩;dsimp only;obtain⟨yG,c1',e1,_,hg1⟩:=aF ho1;injection e1 with e11 _ kX;subst e11 kX;obtain⟨g1,rfl,k9⟩:=hg1 (by omega);have d0:w1.cell? ⟨g1,0,none⟩=some (.string x0):=(ho1.cellAt 0 (by omega)).trans xY.out;have jh:Hid (Below w.heap.size w w1):=(hB0 _).trans (hb1.mono (by simp));have eE:Hid (fO w1 w.heap.size):=(fO.new w 220).below hb1 (by simp);have hs1:w.heap.size+1<=w1.heap.size:=(by have:=hb1.size;simpa using this);obtain⟨z0,z1,z2,z3,z4,z5,z6,z7,z8,z9,ur,uu,uw,ux,uy,uz,uA,uB,uC,uD⟩:=eE.out.all;clear hb1 hg1))
    exact bodyPost_ret (v:=.agg #[.int .i64 0,.int .i64 0,.int .i64 0,.int .i64 0,.string ⟨#[]⟩,.int .i64 0,.int .i64 0,.int .i64 0,.int .i64 0,.slice none 0 0]) (by simp[results,results111,go_sem,z0,z1,z2,z3,z4,z5,z6,z7,z8,z9]) rfl ⟨_,rfl,rfl,(by repeat(first|with_reducible exact jh.out|with_reducible refine Below.setCell ?_ (by simp<;>omega) _|with_reducible refine Below.alloc ?_ (by simp<;>omega) _))⟩
 |false=>
  have t1:(x0.toList==[103,101,116])=false:=h1
  rw[h1,if_neg (by decide)]at HR
  cases h2:jR x0 with
  |true=>
   have t2:(x0.toList==[112,117,116])=true:=h2
   rw[h2,if_pos rfl]at HR
   by_cases h6:6<=n
   ·have h6I:(n:Int)>=6:=by omega
    rw[if_pos h6]at HR
    rw[HR.out]
    have yB:Hid (∀(B g1 c1:Nat) (W:World),W.ownsRow B 9 1 (.slice (some ⟨g1,0,none⟩) n c1) n (l.map .string)->n<=c1->Calls prog 144 #[.slice (some ⟨g1,0,none⟩) n c1] W (Ad (oN l) W)):=λB g1 c1 W ho hc=>Dm g1 c1 n l Hn.out.symm h6 hn2 hc Hsz.out W (ho.lt g1 rfl).2 (λi x hx=>(ho.cellAt i (by have:=(List.getElem?_eq_some_iff.1 hx).1;have:=Hn.out;omega)).trans (by rw[List.getElem?_map,hx];rfl))
    clear HR eY hat hmp
    rcases NA l with hV|⟨f,hV⟩
    ·rw[hV]at yB
     rw[hV]
     have O1:Hid (∀(B g1 c1:Nat) (W:World),W.ownsRow B 9 1 (.slice (some ⟨g1,0,none⟩) n c1) n (l.map .string)->n<=c1->Calls prog 144 #[.slice (some ⟨g1,0,none⟩) n c1] W λe w'=>e=.returned (.agg #[.int .i64 0,.int .i64 0,.int .i64 0,.int .i64 0,.string ⟨#[]⟩,.int .i64 0,.int .i64 0,.int .i64 0,.int .i64 0,.slice none 0 0])/\Below W.heap.size W w'):=λB g1 c1 W ho hc=>(yB.out B g1 c1 W ho hc).mono λe w' ⟨v,he,hv,hb⟩=>⟨by rw[he];exact congrArg Ending.returned hv,hb⟩
     clear yB hV
     go_enter func111,ntmps111
     go_wp2_with (first
      |(go_at_call 142;refine aq mO.out ?_;rintro e w1 ⟨a1,c1,rfl,hc1,ho1,hb1⟩;dsimp only;obtain⟨yG,c1',e1,_,hg1⟩:=aF ho1;injection e1 with e11 _ kX;subst e11 kX;obtain⟨g1,rfl,k9⟩:=hg1 (by omega);have d0:w1.cell? ⟨g1,0,none⟩=some (.string x0):=(ho1.cellAt 0 (by omega)).trans xY.out;have jh:Hid (Below w.heap.size w w1):=(hB0 _).trans (hb1.mono (by simp));have eE:Hid (fO w1 w.heap.size):=(fO.new w 220).below hb1 (by simp);have hs1:w.heap.size+1<=w1.heap.size:=(by have:=hb1.size;simpa using this);obtain⟨z0,z1,z2,z3,z4,z5,z6,z7,z8,z9,ur,uu,uw,ux,uy,uz,uA,uB,uC,uD⟩:=eE.out.all;have Ga:Hid _:=ho1;clear hb1 hg1)
      |(go_at_call 144;refine aq (O1.out _ _ _ _ Ga.out hc1) ?_;rintro e w2 ⟨rfl,hb2⟩;dsimp only;have dm:=af hb2;have dP:Hid (fO w2 w.heap.size):=eE.out.below hb2 (by omega);obtain⟨xp,xu,xx,xA,xC,xE,xG,xI,xK,xM,xq,xw,xy,xB,xD,xF,xH,xJ,xL,xN⟩:=dP.out.all;clear hb2))
     have vh:Hid (Below w.heap.size w w2):=jh.out.trans (dm.out.mono (by omega))
     have hs2:w.heap.size+1<=w2.heap.size:=by have:=dm.out.size;omega
     exact bodyPost_ret (v:=.agg #[.int .i64 0,.int .i64 0,.int .i64 0,.int .i64 0,.string ⟨#[]⟩,.int .i64 0,.int .i64 0,.int .i64 0,.int .i64 0,.slice none 0 0]) (by simp[results,results111,go_sem,xp,xu,xx,xA,xC,xE,xG,xI,xK,xM]) rfl ⟨_,rfl,rfl,(by repeat(first|with_reducible exact vh.out|with_reducible refine Below.setCell ?_ (by simp<;>omega) _|with_reducible refine Below.alloc ?_ (by simp<;>omega) _))⟩
    ·rw[hV]at yB
     rw[hV]
     have O1:Hid (∀(B g1 c1:Nat) (W:World),W.ownsRow B 9 1 (.slice (some ⟨g1,0,none⟩) n c1) n (l.map .string)->n<=c1->Calls prog 144 #[.slice (some ⟨g1,0,none⟩) n c1] W λe w'=>∃(a:Option Addr) (cap:Nat),e=.returned (.agg #[.int .i64 2,.int .i64 0,.int .i64 0,.int .i64 0,.string ⟨#[]⟩,.int .i64 f.id,.int .i64 f.kd,.int .i64 f.ht,.int .i64 f.col,.slice a f.ps.length cap])/\f.ps.length<=cap/\bV w'.heap.size w' a f.ps/\(∀x,a=some x->W.heap.size<=x.block)/\Below W.heap.size W w'):=λB g1 c1 W ho hc=>(yB.out B g1 c1 W ho hc).mono λe w' ⟨v,he,⟨a,cap,hv,h1,h2,h3⟩,hb⟩=>⟨a,cap,by rw[he,hv],h1,h2,h3,hb⟩
     clear yB hV
     obtain⟨fi,fk,fh,fc,fp⟩:=f
     dsimp only at O1
     go_enter func111,ntmps111
     go_wp2_with (first
      |(go_at_call 142;refine aq mO.out ?_;rintro e w1 ⟨a1,c1,rfl,hc1,ho1,hb1⟩;dsimp only;obtain⟨yG,c1',e1,_,hg1⟩:=aF ho1;injection e1 with e11 _ kX;subst e11 kX;obtain⟨g1,rfl,k9⟩:=hg1 (by omega);have d0:w1.cell? ⟨g1,0,none⟩=some (.string x0):=(ho1.cellAt 0 (by omega)).trans xY.out;have jh:Hid (Below w.heap.size w w1):=(hB0 _).trans (hb1.mono (by simp));have eE:Hid (fO w1 w.heap.size):=(fO.new w 220).below hb1 (by simp);have hs1:w.heap.size+1<=w1.heap.size:=(by have:=hb1.size;simpa using this);obtain⟨z0,z1,z2,z3,z4,z5,z6,z7,z8,z9,ur,uu,uw,ux,uy,uz,uA,uB,uC,uD⟩:=eE.out.all;have Ga:Hid _:=ho1;clear hb1 hg1)
      |(go_at_call 144;refine aq (O1.out _ _ _ _ Ga.out hc1) ?_;rintro e w2 ⟨pa,Np,rfl,GG,S0,Kw,hb2⟩;dsimp only;have Kn:Hid _:=S0;have HPb:Hid _:=Kw;have dm:=af hb2;have dP:Hid (fO w2 w.heap.size):=eE.out.below hb2 (by omega);obtain⟨xp,xu,xx,xA,xC,xE,xG,xI,xK,xM,xq,xw,xy,xB,xD,xF,xH,xJ,xL,xN⟩:=dP.out.all;clear hb2 S0 Kw))
     have vh:Hid (Below w.heap.size w w2):=jh.out.trans (dm.out.mono (by omega))
     have hs2:w.heap.size+1<=w2.heap.size:=by have:=dm.out.size;omega
     refine bodyPost_ret (v:=.agg #[.int .i64 2,.int .i64 0,.int .i64 0,.int .i64 0,.string ⟨#[]⟩,.int .i64 fi,.int .i64 fk,.int .i64 fh,.int .i64 fc,.slice pa fp.length Np]) (by simp[results,results111,go_sem,xp,xu,xx,xA,xC,xE,xG,xI,xK,xM]) rfl ⟨_,rfl,⟨pa,Np,rfl,GG,?_,λx e=>by have:=HPb.out x e;omega⟩,(by repeat(first|with_reducible exact vh.out|with_reducible refine Below.setCell ?_ (by simp<;>omega) _|with_reducible refine Below.alloc ?_ (by simp<;>omega) _))⟩
     exact bV.Ra (G1 w2 w.heap.size _ _ _ _ _ _ _ _ _ _) Kn.out (λx i e h=>by have:=HPb.out x e;omega)
   ·have h6I:¬(n:Int)>=6:=by omega
    rw[if_neg h6]at HR
    rw[HR.out]
    clear HR eY hat hmp
    go_enter func111,ntmps111
    go_wp2_with (first
     |(go_at_call 142;refine aq mO.out ?_;rintro e w1 ⟨a1,c1,rfl,hc1,ho1,hb1⟩;dsimp only;obtain⟨yG,c1',e1,_,hg1⟩:=aF ho1;injection e1 with e11 _ kX;subst e11 kX;obtain⟨g1,rfl,k9⟩:=hg1 (by omega);have d0:w1.cell? ⟨g1,0,none⟩=some (.string x0):=(ho1.cellAt 0 (by omega)).trans xY.out;have jh:Hid (Below w.heap.size w w1):=(hB0 _).trans (hb1.mono (by simp));have eE:Hid (fO w1 w.heap.size):=(fO.new w 220).below hb1 (by simp);have hs1:w.heap.size+1<=w1.heap.size:=(by have:=hb1.size;simpa using this);obtain⟨z0,z1,z2,z3,z4,z5,z6,z7,z8,z9,ur,uu,uw,ux,uy,uz,uA,uB,uC,uD⟩:=eE.out.all;clear hb1 hg1))
    exact bodyPost_ret (v:=.agg #[.int .i64 0,.int .i64 0,.int .i64 0,.int .i64 0,.string ⟨#[]⟩,.int .i64 0,.int .i64 0,.int .i64 0,.int .i64 0,.slice none 0 0]) (by simp[results,results111,go_sem,z0,z1,z2,z3,z4,z5,z6,z7,z8,z9]) rfl ⟨_,rfl,rfl,(by repeat(first|with_reducible exact jh.out|with_reducible refine Below.setCell ?_ (by simp<;>omega) _|with_reducible refine Below.alloc ?_ (by simp<;>omega) _))⟩
  |false=>
   have t2:(x0.toList==[112,117,116])=false:=h2
   rw[h2,if_neg (by decide)]at HR
   cases h3:mD x0 with
   |true=>
    have t3:(x0.toList==[100,101,108])=true:=h3
    rw[h3,if_pos rfl]at HR
    by_cases Vt:n=2
    ·subst Vt
     rw[if_pos rfl]at HR
     obtain⟨x1,hx1⟩:∃x,jz l 1=x:=⟨_,rfl⟩
     have Aa:Hid ((l.map Value.string)[1]? =some (.string x1)):=by rw[<-hx1];exact hmp 1 (by omega)
     have N1:Hid (∀W:World,Calls prog 143 #[.string x1] W λe w'=>e=.returned (.tuple #[.int .i64 (dL l 1).1,.bool (dL l 1).2])/\w'=W):=λW=>by rw[<-hx1];exact eY.out 1 W (by omega)
     obtain⟨⟨i1,b1⟩,e1⟩:∃x,dL l 1=x:=⟨_,rfl⟩
     rw[e1]at N1 HR
     dsimp only at N1 HR
     by_cases hok:b1=true/\1<=i1/\i1<=99
     ·rw[if_pos hok]at HR
      rw[HR.out]
      obtain⟨rfl,ha,hb⟩:=hok
      have ha':i1>=1:=ha
      clear HR eY hat hmp hx1 e1
      go_enter func111,ntmps111
      go_wp2_with (first
       |(go_at_call 142;refine aq mO.out ?_;rintro e w1 ⟨a1,c1,rfl,hc1,ho1,hb1⟩;dsimp only;obtain⟨yG,c1',e1,_,hg1⟩:=aF ho1;injection e1 with e11 _ kX;subst e11 kX;obtain⟨g1,rfl,k9⟩:=hg1 (by omega);have d0:w1.cell? ⟨g1,0,none⟩=some (.string x0):=(ho1.cellAt 0 (by omega)).trans xY.out;have d1:w1.cell? ⟨g1,1,none⟩=some (.string x1):=(ho1.cellAt 1 (by omega)).trans Aa.out;have jh:Hid (Below w.heap.size w w1):=(hB0 _).trans (hb1.mono (by simp));have eE:Hid (fO w1 w.heap.size):=(fO.new w 220).below hb1 (by simp);have hs1:w.heap.size+1<=w1.heap.size:=(by have:=hb1.size;simpa using this);obtain⟨z0,z1,z2,z3,z4,z5,z6,z7,z8,z9,ur,uu,uw,ux,uy,uz,uA,uB,uC,uD⟩:=eE.out.all;clear hb1 hg1)
       |(go_at_call 143;refine aq (N1.out _) ?_;rintro e w2 ⟨rfl,hw⟩;subst w2;dsimp only))
      exact bodyPost_ret (v:=.agg #[.int .i64 3,.int .i64 0,.int .i64 0,.int .i64 0,.string ⟨#[]⟩,.int .i64 i1,.int .i64 0,.int .i64 0,.int .i64 0,.slice none 0 0]) (by simp[results,results111,go_sem,z0,z1,z2,z3,z4,z5,z6,z7,z8,z9]) rfl ⟨_,rfl,rfl,(by repeat(first|with_reducible exact jh.out|with_reducible refine Below.setCell ?_ (by simp<;>omega) _|with_reducible refine Below.alloc ?_ (by simp<;>omega) _))⟩
     ·rw[if_neg hok]at HR
      rw[HR.out]
      clear HR eY hat hmp hx1 e1
      cases b1 with
      |false=>
       go_enter func111,ntmps111
       go_wp2_with (first
        |(go_at_call 142;refine aq mO.out ?_;rintro e w1 ⟨a1,c1,rfl,hc1,ho1,hb1⟩;dsimp only;obtain⟨yG,c1',e1,_,hg1⟩:=aF ho1;injection e1 with e11 _ kX;subst e11 kX;obtain⟨g1,rfl,k9⟩:=hg1 (by omega);have d0:w1.cell? ⟨g1,0,none⟩=some (.string x0):=(ho1.cellAt 0 (by omega)).trans xY.out;have d1:w1.cell? ⟨g1,1,none⟩=some (.string x1):=(ho1.cellAt 1 (by omega)).trans Aa.out;have jh:Hid (Below w.heap.size w w1):=(hB0 _).trans (hb1.mono (by simp));have eE:Hid (fO w1 w.heap.size):=(fO.new w 220).below hb1 (by simp);have hs1:w.heap.size+1<=w1.heap.size:=(by have:=hb1.size;simpa using this);obtain⟨z0,z1,z2,z3,z4,z5,z6,z7,z8,z9,ur,uu,uw,ux,uy,uz,uA,uB,uC,uD⟩:=eE.out.all;clear hb1 hg1)
        |(go_at_call 143;refine aq (N1.out _) ?_;rintro e w2 ⟨rfl,hw⟩;subst w2;dsimp only))
       exact bodyPost_ret (v:=.agg #[.int .i64 0,.int .i64 0,.int .i64 0,.int .i64 0,.string ⟨#[]⟩,.int .i64 0,.int .i64 0,.int .i64 0,.int .i64 0,.slice none 0 0]) (by simp[results,results111,go_sem,z0,z1,z2,z3,z4,z5,z6,z7,z8,z9]) rfl ⟨_,rfl,rfl,(by repeat(first|with_reducible exact jh.out|with_reducible refine Below.setCell ?_ (by simp<;>omega) _|with_reducible refine Below.alloc ?_ (by simp<;>omega) _))⟩
      |true=>
       by_cases ha:1<=i1
       ·have ha':i1>=1:=ha
        have hb:¬i1<=99:=λe=>hok ⟨rfl,ha,e⟩
        go_enter func111,ntmps111
        go_wp2_with (first
         |(go_at_call 142;refine aq mO.out ?_;rintro e w1 ⟨a1,c1,rfl,hc1,ho1,hb1⟩;dsimp only;obtain⟨yG,c1',e1,_,hg1⟩:=aF ho1;injection e1 with e11 _ kX;subst e11 kX;obtain⟨g1,rfl,k9⟩:=hg1 (by omega);have d0:w1.cell? ⟨g1,0,none⟩=some (.string x0):=(ho1.cellAt 0 (by omega)).trans xY.out;have d1:w1.cell? ⟨g1,1,none⟩=some (.string x1):=(ho1.cellAt 1 (by omega)).trans Aa.out;have jh:Hid (Below w.heap.size w w1):=(hB0 _).trans (hb1.mono (by simp));have eE:Hid (fO w1 w.heap.size):=(fO.new w 220).below hb1 (by simp);have hs1:w.heap.size+1<=w1.heap.size:=(by have:=hb1.size;simpa using this);obtain⟨z0,z1,z2,z3,z4,z5,z6,z7,z8,z9,ur,uu,uw,ux,uy,uz,uA,uB,uC,uD⟩:=eE.out.all;clear hb1 hg1)
         |(go_at_call 143;refine aq (N1.out _) ?_;rintro e w2 ⟨rfl,hw⟩;subst w2;dsimp only))
        exact bodyPost_ret (v:=.agg #[.int .i64 0,.int .i64 0,.int .i64 0,.int .i64 0,.string ⟨#[]⟩,.int .i64 0,.int .i64 0,.int .i64 0,.int .i64 0,.slice none 0 0]) (by simp[results,results111,go_sem,z0,z1,z2,z3,z4,z5,z6,z7,z8,z9]) rfl ⟨_,rfl,rfl,(by repeat(first|with_reducible exact jh.out|with_reducible refine Below.setCell ?_ (by simp<;>omega) _|with_reducible refine Below.alloc ?_ (by simp<;>omega) _))⟩
       ·have ha':¬i1>=1:=ha
        go_enter func111,ntmps111
        go_wp2_with (first
         |(go_at_call 142;refine aq mO.out ?_;rintro e w1 ⟨a1,c1,rfl,hc1,ho1,hb1⟩;dsimp only;obtain⟨yG,c1',e1,_,hg1⟩:=aF ho1;injection e1 with e11 _ kX;subst e11 kX;obtain⟨g1,rfl,k9⟩:=hg1 (by omega);have d0:w1.cell? ⟨g1,0,none⟩=some (.string x0):=(ho1.cellAt 0 (by omega)).trans xY.out;have d1:w1.cell? ⟨g1,1,none⟩=some (.string x1):=(ho1.cellAt 1 (by omega)).trans Aa.out;have jh:Hid (Below w.heap.size w w1):=(hB0 _).trans (hb1.mono (by simp));have eE:Hid (fO w1 w.heap.size):=(fO.new w 220).below hb1 (by simp);have hs1:w.heap.size+1<=w1.heap.size:=(by have:=hb1.size;simpa using this);obtain⟨z0,z1,z2,z3,z4,z5,z6,z7,z8,z9,ur,uu,uw,ux,uy,uz,uA,uB,uC,uD⟩:=eE.out.all;clear hb1 hg1)
         |(go_at_call 143;refine aq (N1.out _) ?_;rintro e w2 ⟨rfl,hw⟩;subst w2;dsimp only))
        exact bodyPost_ret (v:=.agg #[.int .i64 0,.int .i64 0,.int .i64 0,.int .i64 0,.string ⟨#[]⟩,.int .i64 0,.int .i64 0,.int .i64 0,.int .i64 0,.slice none 0 0]) (by simp[results,results111,go_sem,z0,z1,z2,z3,z4,z5,z6,z7,z8,z9]) rfl ⟨_,rfl,rfl,(by repeat(first|with_reducible exact jh.out|with_reducible refine Below.setCell ?_ (by simp<;>omega) _|with_reducible refine Below.alloc ?_ (by simp<;>omega) _))⟩
    ·have aaP:((n:Int)==2)=false:=by simp;omega
     have aaQ:¬(n:Int)=2:=by omega
     rw[if_neg Vt]at HR
     rw[HR.out]
     clear HR eY hat hmp
     go_enter func111,ntmps111
     go_wp2_with (first
      |(go_at_call 142;refine aq mO.out ?_;rintro e w1 ⟨a1,c1,rfl,hc1,ho1,hb1⟩;dsimp only;obtain⟨yG,c1',e1,_,hg1⟩:=aF ho1;injection e1 with e11 _ kX;subst e11 kX;obtain⟨g1,rfl,k9⟩:=hg1 (by omega);have d0:w1.cell? ⟨g1,0,none⟩=some (.string x0):=(ho1.cellAt 0 (by omega)).trans xY.out;have jh:Hid (Below w.heap.size w w1):=(hB0 _).trans (hb1.mono (by simp));have eE:Hid (fO w1 w.heap.size):=(fO.new w 220).below hb1 (by simp);have hs1:w.heap.size+1<=w1.heap.size:=(by have:=hb1.size;simpa using this);obtain⟨z0,z1,z2,z3,z4,z5,z6,z7,z8,z9,ur,uu,uw,ux,uy,uz,uA,uB,uC,uD⟩:=eE.out.all;clear hb1 hg1))
     exact bodyPost_ret (v:=.agg #[.int .i64 0,.int .i64 0,.int .i64 0,.int .i64 0,.string ⟨#[]⟩,.int .i64 0,.int .i64 0,.int .i64 0,.int .i64 0,.slice none 0 0]) (by simp[results,results111,go_sem,z0,z1,z2,z3,z4,z5,z6,z7,z8,z9]) rfl ⟨_,rfl,rfl,(by repeat(first|with_reducible exact jh.out|with_reducible refine Below.setCell ?_ (by simp<;>omega) _|with_reducible refine Below.alloc ?_ (by simp<;>omega) _))⟩
   |false=>
    have t3:(x0.toList==[100,101,108])=false:=h3
    rw[h3,if_neg (by decide)]at HR
    rw[HR.out]
    clear HR eY hat hmp
    go_enter func111,ntmps111
    go_wp2_with (first
     |(go_at_call 142;refine aq mO.out ?_;rintro e w1 ⟨a1,c1,rfl,hc1,ho1,hb1⟩;dsimp only;obtain⟨yG,c1',e1,_,hg1⟩:=aF ho1;injection e1 with e11 _ kX;subst e11 kX;obtain⟨g1,rfl,k9⟩:=hg1 (by omega);have d0:w1.cell? ⟨g1,0,none⟩=some (.string x0):=(ho1.cellAt 0 (by omega)).trans xY.out;have jh:Hid (Below w.heap.size w w1):=(hB0 _).trans (hb1.mono (by simp));have eE:Hid (fO w1 w.heap.size):=(fO.new w 220).below hb1 (by simp);have hs1:w.heap.size+1<=w1.heap.size:=(by have:=hb1.size;simpa using this);obtain⟨z0,z1,z2,z3,z4,z5,z6,z7,z8,z9,ur,uu,uw,ux,uy,uz,uA,uB,uC,uD⟩:=eE.out.all;clear hb1 hg1))
    exact bodyPost_ret (v:=.agg #[.int .i64 0,.int .i64 0,.int .i64 0,.int .i64 0,.string ⟨#[]⟩,.int .i64 0,.int .i64 0,.int .i64 0,.int .i64 0,.slice none 0 0]) (by simp[results,results111,go_sem,z0,z1,z2,z3,z4,z5,z6,z7,z8,z9]) rfl ⟨_,rfl,rfl,(by repeat(first|with_reducible exact jh.out|with_reducible refine Below.setCell ?_ (by simp<;>omega) _|with_reducible refine Below.alloc ?_ (by simp<;>omega) _))⟩
end
end Go.Proofs.YtenaepdmlknlcaaGreatDoor
