import Derived.Test.YtenaepdmlknlcaaGreatDoorG16
import Derived.Test.YtenaepdmlknlcaaGreatDoorG17
open Go.Proofs.Tryz
set_option maxRecDepth 100000
set_option maxHeartbeats 8000000
namespace Go.Proofs.YtenaepdmlknlcaaGreatDoor
section
open Go.RowKit Go.Shelf
variable {w w':World} {vs:Nat->Value} {S:tT}
theorem dI.below{A so:Nat}(h:dI w A so vs S)(hb:Below w.heap.size w w'):dI w' A so vs S:=
 have hA:A<w.heap.size:=dz w _ h.room
 ⟨(hb.cell (p:=⟨A,so,none⟩) hA).trans h.room,λk hk=>(h.sh k hk).below hb,λk hk=>⟨(hb.cell (p:=⟨A,so+1+k*2+1,none⟩) hA).trans (h.aG k hk).1,(hb.frozen (p:=⟨A,so+1+k*2+1,none⟩) hA).trans (h.aG k hk).2⟩,h.apart⟩
variable {b:Nat} {v0 v1 v2 v3 v4 v5:Value}
theorem KA.Iw(k:KA w b [v0,v1,v2,v3,v4,v5]):(w.cell? ⟨b,0,none⟩=some v0/\w.cell? ⟨b,1,none⟩=some v1/\w.cell? ⟨b,2,none⟩=some v2/\w.cell? ⟨b,3,none⟩=some v3/\w.cell? ⟨b,4,none⟩=some v4/\w.cell? ⟨b,5,none⟩=some v5)/\w.frozen? ⟨b,0,none⟩=false/\w.frozen? ⟨b,1,none⟩=false/\w.frozen? ⟨b,2,none⟩=false/\w.frozen? ⟨b,3,none⟩=false/\w.frozen? ⟨b,4,none⟩=false/\w.frozen? ⟨b,5,none⟩=false:=
 ⟨⟨(k 0 _ rfl).1,(k 1 _ rfl).1,(k 2 _ rfl).1,(k 3 _ rfl).1,(k 4 _ rfl).1,(k 5 _ rfl).1⟩,(k 0 _ rfl).2,(k 1 _ rfl).2,(k 2 _ rfl).2,(k 3 _ rfl).2,(k 4 _ rfl).2,(k 5 _ rfl).2⟩
theorem KA.below{A B:World}(h:Below A.heap.size A B){vs:List Value}(k:KA A b vs):KA B b vs:=k.fr (M:=λ_ _=>False) (Fr.of_below h) (λ_ e=>e)
theorem KA.alloc{vs:List Value}(k:KA w b vs)(o:Obj):KA (w.alloc o) b vs:=k.below aU
theorem KA.drew{vs:List Value}(k:KA w b vs):KA w.drew b vs:=k.below (Below.refl w.heap.size w).drew
theorem K3.drew(k:K3 w b v0 v1 v2):K3 w.drew b v0 v1 v2:=k.below (Below.refl w.heap.size w).drew aM
theorem Jy(A mo:Nat)(t:Tl)(ht:t.ok)(m:ByteArray)(aG:Int)(ro:Option Addr)(vs:Nat->Value)(S:tT)(w:World)(h:dI w A (mo+2) vs S)(hx:bO t (S.ks (az t))=none):
  Calls prog 174 #[kZ t m aG ro,.pointer (some ⟨A,mo,none⟩)] w λe w'=>e=.returned (.agg #[.bool false,.func (.func 191) #[kZ t m (S.aG (az t)) ro] #[],.string ⟨#[]⟩])/\Below w.heap.size w w':=by
 have HU:Hid (∀W,Below w.heap.size w W->Calls prog 187 #[.pointer (some ⟨A,mo+2,none⟩),.agg #[.int .i64 t.z,.int .i64 t.c,.int .i64 t.r]] W λe w'=>e=.returned (.tuple #[.string ⟨#[]⟩,.bool false])/\Below W.heap.size W w'):=λW hW=>Li A (mo+2) t ht vs S W (h.below hW) hx
 have HA:Hid (∀W,Below w.heap.size w W->Calls prog 189 #[.pointer (some ⟨A,mo+2,none⟩),.agg #[.int .i64 t.z,.int .i64 t.c,.int .i64 t.r]] W λe w'=>e=.returned (.int .i64 (S.aG (az t)))/\Below W.heap.size W w'):=λW hW=>OH A (mo+2) t ht vs S W (h.below hW)
 obtain⟨ag,hag⟩:∃ag,S.aG (az t)=ag:=⟨_,rfl⟩
 rw[hag]at HA⊢
 clear h hx hag
 go_enter func174,ntmps174
 go_wp2_with fail
 go_region_with (go_at_call 187;refine aq (HU.out _ (jl w _ _).drew) ?_;rintro e w1 ⟨rfl,hb1⟩;dsimp only;have hB1:Below w.heap.size w w1:=((jl w _ _).drew.trans (hb1.mono (by simp;omega)));have vr:Hid (KA w1 w.heap.size [.int .i64 t.z,.int .i64 t.c,.int .i64 t.r,.string m,.int .i64 aG,.pointer ro]):=KA.below hb1 ((KA.new w [.int .i64 t.z,.int .i64 t.c,.int .i64 t.r,.string m,.int .i64 aG,.pointer ro] 291).alloc _).drew;have eE:Hid (K3 w1 (w.heap.size+1) (.bool false) .nilFunc (.string ⟨#[]⟩)):=(K3.new2 w _ _ _ _ _).drew.below hb1 aM;obtain⟨⟨k0,k1,k2,k3,k4,k5⟩,z0,z1,z2,z3,z4,z5⟩:=vr.out.Iw)
 all_goals
  go_wp2_with fail
  clear k0 k1 k2 k3 k4 k5 z0 z1 z2 z3 z4 z5
  obtain⟨⟨k0,k1,k2,k3,k4,k5⟩,z0,z1,z2,z3,z4,z5⟩:=vr.out.Iw
  go_region_with (go_at_call 189;refine aq (HA.out _ (by first|exact hB1.drew|exact hB1)) ?_;rintro e w2 ⟨rfl,hb2⟩;dsimp only;have hB2:Below w.heap.size w w2:=(by first|exact hB1.drew.trans (hb2.mono hB1.size)|exact hB1.trans (hb2.mono hB1.size));have h_:Hid (KA w2 w.heap.size [.int .i64 t.z,.int .i64 t.c,.int .i64 t.r,.string m,.int .i64 aG,.pointer ro]):=KA.below hb2 vr.out.drew;have dP:Hid (K3 w2 (w.heap.size+1) (.bool false) .nilFunc (.string ⟨#[]⟩)):=eE.out.drew.below hb2 aM;obtain⟨⟨q0,q1,q2,q3,q4,q5⟩,y0,y1,y2,y3,y4,y5⟩:=h_.out.Iw)
  all_goals
   go_wp2_with (go_at_call 190;refine(nP _ _ _ _).mono ?_;rintro e w3 ⟨rfl,hb3⟩;dsimp only;obtain⟨r0,r1,r2,f0,f1,f2⟩:=((dP.out.fr (jQ w.heap.size w2 4 _) (λi e=>(by have:w.heap.size+1=w.heap.size:=e;omega))).below hb3 aM);have gZ:Below w.heap.size w w3:=(hB2.setCell (p:=⟨w.heap.size,4,none⟩) aM _).trans (hb3.mono (hB2.setCell (p:=⟨w.heap.size,4,none⟩) aM _).size))
   exact bodyPost_ret (v:=.agg #[.bool false,.func (.func 191) #[kZ t m ag ro] #[],.string ⟨#[]⟩]) (by simp[results,results174,go_sem,r0,r1,r2]) rfl ⟨rfl,rB gZ (Nat.le_succ _) _ _ _⟩
def sumW(ws:Nat->Nat):Nat->Nat
 |0=>0
 |k+1=>sumW ws k+ws k
theorem rV(w:World)(o:Obj)(vs:Array Value)(i:Nat)(t:TypeId:=77):((w.alloc o).drew.alloc (.cells vs t)).cell? ⟨w.heap.size+1,i,none⟩=vs[i]? :=by simp[go_sem]
theorem ni(w:World)(o:Obj)(vs:Array Value)(i:Nat)(t:TypeId:=77):((w.alloc o).drew.alloc (.cells vs t)).frozen? ⟨w.heap.size+1,i,none⟩=false:=by simp[go_sem]
theorem o7(w:World)(o:Obj)(p:Addr)(h:p.block<w.heap.size):(w.alloc o).cell? p=w.cell? p:=((Below.refl w.heap.size w).alloc aM o).cell h
theorem mC(w:World)(o:Obj)(p:Addr)(h:p.block<w.heap.size):(w.alloc o).frozen? p=w.frozen? p:=((Below.refl w.heap.size w).alloc aM o).frozen h
theorem nC(k:K3 w b v0 v1 v2)(u0 u1 u2:Value):K3 (((w.setCell ⟨b,0,none⟩ u0).setCell ⟨b,1,none⟩ u1).setCell ⟨b,2,none⟩ u2) b u0 u1 u2:=by
 obtain⟨c0,c1,c2,f0,f1,f2⟩:=k
 constructor<;>simp[go_sem,c0,c1,c2,f0,f1,f2]
variable {c:Nat}
theorem P_{vs:List Value}(k:KA w c vs)(h:c≠b)(u0 u1 u2:Value):KA (((w.setCell ⟨b,0,none⟩ u0).setCell ⟨b,1,none⟩ u1).setCell ⟨b,2,none⟩ u2) c vs:=λi v hi=>by
 refine⟨?_,?_⟩
 ·rw[aK _ _ (.inl (λe=>h e.symm)),aK _ _ (.inl (λe=>h e.symm)),aK _ _ (.inl (λe=>h e.symm))]
  exact(k i v hi).1
 ·rw[World.frozen?_setCell,World.frozen?_setCell,World.frozen?_setCell]
  exact(k i v hi).2
theorem K7(A:Nat)(ro:Option Addr)(TN:Nat)(lk:Bool)(ws:Nat->Nat)(w:World)(hA:A<w.heap.size)(hroot:w.cell? ⟨A,0,none⟩=some (.pointer ro))(hlk:w.cell? ⟨A,1,none⟩=some (.bool lk))(hws:∀k,k<4->ws k<=1000)
  (hC:∀W,Below w.heap.size w W->Calls prog 49 #[.agg #[.pointer ro]] W λe w'=>e=.returned (.int .i64 (TN:Int))/\Below W.heap.size W w')
  (hW:∀k W,k<4->Below w.heap.size w W->Calls prog 50 #[.pointer (some ⟨A,11+k*3,none⟩)] W λe w'=>e=.returned (.int .i64 (ws k:Int))/\w'=W):
  Calls prog 26 #[.pointer (some ⟨A,0,none⟩)] w λe w'=>e=.returned (.agg #[.int .i64 (TN:Int),.bool lk,.int .i64 (sumW ws 4:Int)])/\Below w.heap.size w w':=by
 have HC:Hid _:=hC
 have HW:Hid _:=hW
 have HS:=af hws
 clear hC hW hws
 go_enter func26,ntmps26
 go_wp2_with fail
 go_cut [3] (λv wc=>∃b,v=.pointer (some ⟨b,0,none⟩)/\K3 wc b (.int .i64 (TN:Int)) (.bool lk) (.int .i64 0)/\KA wc w.heap.size [.int .i64 0,.bool false,.int .i64 0]/\w.heap.size<b/\Below w.heap.size w wc)
 case first=>
  have hB0:∀o:Obj,Below w.heap.size w (w.alloc o).drew:=λo=>aU.drew
  have hB1:∀o o':Obj,Below w.heap.size w ((w.alloc o).drew.alloc o'):=λo o'=>(aU.drew).alloc (by simp) _
  have mH:A<w.heap.size+1:=by omega
  go_region_with (first
   |(go_at_call 49;refine aq (HC.out _ (hB0 _)) ?_;rintro e w1 ⟨rfl,hb1⟩;dsimp only;have hb2:Below w.heap.size w w1:=(hB0 _).trans (hb1.mono (by simp));have PM:A<w1.heap.size:=(by have:=hb2.size;omega);have r0:=(hb2.cell (p:=⟨A,0,none⟩) hA).trans hroot;have r1:=(hb2.cell (p:=⟨A,1,none⟩) hA).trans hlk;have hz1:w.heap.size<w1.heap.size:=(by have:=hb1.size;simp at this;omega);have HZ:Hid (KA w1 w.heap.size [.int .i64 0,.bool false,.int .i64 0]):=(λi v hi=>⟨(hb1.cell (p:=⟨w.heap.size,i,none⟩) (by simp)).trans (KA.new w [.int .i64 0,.bool false,.int .i64 0] 77 i v hi).1,(hb1.frozen (p:=⟨w.heap.size,i,none⟩) (by simp)).trans (KA.new w [.int .i64 0,.bool false,.int .i64 0] 77 i v hi).2⟩))
   |(go_at_call 49;refine aq (HC.out _ (hB1 _ _)) ?_;rintro e w1 ⟨rfl,hb1⟩;dsimp only;have hb2:Below w.heap.size w w1:=(hB1 _ _).trans (hb1.mono (by simp<;>omega));have PM:A<w1.heap.size:=(by have:=hb2.size;omega);have r0:=(hb2.cell (p:=⟨A,0,none⟩) hA).trans hroot;have r1:=(hb2.cell (p:=⟨A,1,none⟩) hA).trans hlk;have t0:=(hb1.cell (p:=⟨w.heap.size+1,0,none⟩) (by simp)).trans (rV w _ _ 0);have t1:=(hb1.cell (p:=⟨w.heap.size+1,1,none⟩) (by simp)).trans (rV w _ _ 1);have t2:=(hb1.cell (p:=⟨w.heap.size+1,2,none⟩) (by simp)).trans (rV w _ _ 2);have s0:=(hb1.frozen (p:=⟨w.heap.size+1,0,none⟩) (by simp)).trans (ni w _ _ 0);have s1:=(hb1.frozen (p:=⟨w.heap.size+1,1,none⟩) (by simp)).trans (ni w _ _ 1);have s2:=(hb1.frozen (p:=⟨w.heap.size+1,2,none⟩) (by simp)).trans (ni w _ _ 2);simp only[List.getElem?_toArray,List.getElem?_cons_succ,List.getElem?_cons_zero]at t0 t1 t2;have hz1:w.heap.size+1<w1.heap.size:=(by have:=hb1.size;simp at this;omega);have HZ:Hid (KA w1 w.heap.size [.int .i64 0,.bool false,.int .i64 0]):=(λi v hi=>⟨(hb1.cell (p:=⟨w.heap.size,i,none⟩) (by simp<;>omega)).trans ((o7 _ _ _ (by simp)).trans (KA.new w [.int .i64 0,.bool false,.int .i64 0] 77 i v hi).1),(hb1.frozen (p:=⟨w.heap.size,i,none⟩) (by simp<;>omega)).trans ((mC _ _ _ (by simp)).trans (KA.new w [.int .i64 0,.bool false,.int .i64 0] 77 i v hi).2)⟩)))
  all_goals
   go_wp2_with fail
   go_meet
   first
    |exact⟨w1.heap.size,rfl,K3.new w1 _ _ _ 77,HZ.out.alloc _,hz1,hb2.alloc hb2.size _⟩
    |exact⟨w.heap.size+1,rfl,nC ⟨t0,t1,t2,s0,s1,s2⟩ _ _ _,P_ HZ.out (by omega) _ _ _,by omega,rB hb2 (by omega) _ _ _⟩
 case rest=>
  obtain⟨b,rfl,hk3,hz,hb,hB⟩:=hcut
  have HK:=af hk3
  have HZ:=af hz
  clear hk3 hz
  have hbl:b<wc.heap.size:=dz wc ⟨b,0,none⟩ HK.out.c0
  go_wp2_with fail
  go_loopw [17] (λi wr=>∃k:Nat,k<=4/\i=.int .i64 k/\K3 wr b (.int .i64 (TN:Int)) (.bool lk) (.int .i64 (sumW ws k:Int))/\KA wr w.heap.size [.int .i64 0,.bool false,.int .i64 0]/\Below w.heap.size w wr) (λi _=>4-(intOf i).toNat)
  case atStart=>exact⟨0,by omega,rfl,HK.out,HZ.out,hB⟩
  case round=>
   obtain⟨k,hk,rfl,hk3,hz,Yu⟩:=hrel
   have KL:=af hk3
   have Uo:=af hz
   have YT:b<wr.heap.size:=dz wr ⟨b,0,none⟩ hk3.c0
   clear hz
   by_cases h4:k<4
   ·have hk4:(k:Int)<4:=by omega
    have hk0:(0:Int)<=(k:Int):=by omega
    obtain⟨c0,c1,c2,f0,f1,f2⟩:=hk3
    have hsum:sumW ws k<=4000:=by
     have h0:=HS.out 0 (by omega);have h1:=HS.out 1 (by omega);have h2:=HS.out 2 (by omega);have h3:=HS.out 3 (by omega)
     match k,h4 with
     |0,_=>simp[sumW]
     |1,_=>simp[sumW];omega
     |2,_=>simp[sumW];omega
     |3,_=>simp[sumW];omega
    have hwk:=HS.out k h4
    go_upto_region 5 with fail
    go_region_with (go_at_call 50;refine aq (HW.out k _ h4 (Yu.drew)) ?_;rintro e w1 ⟨rfl,rfl⟩;dsimp only)
    all_goals
     go_wp2
     refine⟨⟨k+1,by omega,by go_num,K3.drew ⟨?_,?_,?_,?_,?_,?_⟩,KA.drew (λi v hi=>⟨(aK _ _ (.inl (by omega))).trans (Uo.out i v hi).1,by rw[World.frozen?_setCell];exact(Uo.out i v hi).2⟩),(Yu.trans (bJ _ _ _ _ (by omega) _)).drew⟩,by simp[intOf];omega⟩
     ·exact(aK _ _ (.inr (by decide))).trans c0
     ·exact(aK _ _ (.inr (by decide))).trans c1
     ·rw[cell_eq c2];simp[sumW]
     ·rw[World.frozen?_setCell];exact f0
     ·rw[World.frozen?_setCell];exact f1
     ·rw[World.frozen?_setCell];exact f2
   ·obtain rfl:k=4:=by omega
    obtain⟨c0,c1,c2,f0,f1,f2⟩:=hk3
    have z0:=Uo.out 0 _ rfl
    have z1:=Uo.out 1 _ rfl
    have z2:=Uo.out 2 _ rfl
    obtain⟨z0,y0⟩:=z0
    obtain⟨z1,y1⟩:=z1
    obtain⟨z2,y2⟩:=z2
    go_wp2
    have k3:=nC (⟨z0,z1,z2,y0,y1,y2⟩:K3 wr w.heap.size _ _ _) (.int .i64 (TN:Int)) (.bool lk) (.int .i64 (sumW ws 4:Int))
    exact bodyPost_ret (v:=.agg #[.int .i64 (TN:Int),.bool lk,.int .i64 (sumW ws 4:Int)]) (by simp[results,results26,go_sem,k3.c0,k3.c1,k3.c2]) rfl ⟨rfl,rB Yu aM _ _ _⟩
def LP(g:FG):List Value:=[.int .i64 g.f.id,.int .i64 g.f.kd,.int .i64 g.f.ht,.int .i64 g.f.col,.slice g.a g.f.ps.length g.cap]
def cu(l:List FG):List Value:=l.flatMap LP
theorem fM(a b:List FG):cu (a++b)=cu a++cu b:=List.flatMap_append
theorem jK(g:FG):cu [g]=LP g:=by simp[cu]
theorem yS:∀l:List FG,(cu l).length=l.length*5
 |[]=>rfl
 |d::l=>by
  have:=yS l
  show(LP d++cu l).length=_
  rw[List.length_append,this,List.length_cons]
  show 5+l.length*5=_
  omega
theorem E9:(prog.info? 32).map (λi=>(i.zero,i.size,i.bytes))=some (some (.agg #[.int .i64 0,.int .i64 0,.int .i64 0,.int .i64 0,.slice none 0 0]),5,56):=by kernel_rfl
def iW(id:Int)(g:FG):Bool:=!(g.f.id==id)
end
end Go.Proofs.YtenaepdmlknlcaaGreatDoor
