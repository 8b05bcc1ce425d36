import Derived.Test.YtenaepdmlknlcaaGreatDoorG43
open Go.Proofs.Tryz
set_option maxRecDepth 100000
set_option maxHeartbeats 8000000
namespace Go.Proofs.YtenaepdmlknlcaaGreatDoor
section
open Go.RowKit Go.Shelf
theorem Ji(L:Nat)(lab:Nat->Lb)(V:jA)(ps:List (Nat×Nat))(n:Int)(tx:List j9)(ti:List j8)(hxl:tx.length<=4000000000000)(PZ:ti.length<=4000000000000)(w:World)(h:aI w L lab V ps n (tx.map j9.v) (tx.map λx=> .string x.m) (ti.map j8.v) (ti.map λx=> .int .i64 x.k))(hx:∀x∈tx,Ai w lab x)(ht:∀x∈ti,Ah w lab x):
  Calls prog 40 #[.pointer (some ⟨L,0,none⟩)] w λe w'=>e=.returned (.bool true)/\Below w.heap.size w w':=by
 have HX:=af hx
 have HT:=af ht
 have hL:=h.lt
 have c2:=h.cX
 have c3:=h.cW
 have c4:=h.cT
 have c5:=h.cM
 obtain⟨vA,vX,vW,vT,vM⟩:=V
 dsimp only at c2 c3 c4 c5
 have rX:ak w 0 79 1 vX tx.length (tx.map j9.v):=by have:=h.rX;rw[List.length_map]at this;exact this
 have rW:ak w 0 9 1 vW tx.length (tx.map λx=> .string x.m):=by have:=h.rW;rw[List.length_map]at this;exact this
 have rT:ak w 0 80 1 vT ti.length (ti.map j8.v):=by have:=h.rT;rw[List.length_map]at this;exact this
 have rM:ak w 0 3 1 vM ti.length (ti.map λx=> .int .i64 x.k):=by have:=h.rM;rw[List.length_map]at this;exact this
 obtain⟨xa,xc,rfl,_,hxg⟩:=rX.form
 obtain⟨wa,wc,rfl,_,VM⟩:=rW.form
 obtain⟨ta,tc,rfl,_,Xg⟩:=rT.form
 obtain⟨ma,mc,rfl,_,hmg⟩:=rM.form
 have RX:=af rX
 have RW':=af rW
 have RT:=af rT
 have RM:=af rM
 have HXG:=af hxg
 have HWG:=af VM
 have HTG:=af Xg
 have HMG:=af hmg
 obtain⟨nx,lH⟩:∃k,tx.length=k:=⟨_,rfl⟩
 obtain⟨nt,hnt⟩:∃k,ti.length=k:=⟨_,rfl⟩
 have Hnx:=af lH
 have Hnt:=af hnt
 rw[lH]at c2 c3 hxl RX RW' HXG HWG
 rw[hnt]at c4 c5 PZ RT RM HTG HMG
 clear h hx ht rX rW rT rM hxg VM Xg hmg lH hnt
 go_enter func40,ntmps40
 go_wp2
 go_loopw [3] (λiv wr=>∃i:Nat,i<=nx/\iv=.int .i64 (i:Int)/\Below w.heap.size w wr) (λiv _=>nx-(intOf iv).toNat)
 case atStart=>exact⟨0,by omega,rfl,bK⟩
 case round=>
  obtain⟨i,hi,rfl,hB⟩:=hrel
  have HB:=af hB
  have r2:wr.cell? ⟨L,2,none⟩=_:=(hB.cell (p:=⟨L,2,none⟩) hL).trans c2
  have r4:wr.cell? ⟨L,4,none⟩=_:=(hB.cell (p:=⟨L,4,none⟩) hL).trans c4
  clear hB
  by_cases hlt:i<nx
  ·obtain⟨x,hx⟩:∃x,tx[i]? =some x:=⟨tx[i]'(by rw[Hnx.out];exact hlt),List.getElem?_eq_getElem _⟩
   obtain⟨gx,ox,rfl,_⟩:=HXG.out (by omega)
   obtain⟨gw,ow,rfl,_⟩:=HWG.out (by omega)
   have x1:w.cell? ⟨gx,ox+i,none⟩=some (.slice x.a x.n x.c):=RX.out.Pt (by rw[List.getElem?_map,hx];rfl)
   have w1:w.cell? ⟨gw,ow+i,none⟩=some (.string x.m):=RW'.out.Pt (by rw[List.getElem?_map,hx];rfl)
   have hgx:=dz w ⟨gx,ox+i,none⟩ x1
   have SK:=dz w ⟨gw,ow+i,none⟩ w1
   have Ux:Hid (Ai w lab x):=HX.out x (List.mem_of_getElem? hx)
   obtain⟨a,m,c,mk⟩:=x
   dsimp only at x1 w1
   have hm5:m<=5000000:=Ux.out.1
   clear hx
   have y1:wr.cell? ⟨gx,ox+i,none⟩=_:=(HB.out.cell (p:=⟨gx,ox+i,none⟩) hgx).trans x1
   have xU:(i:Int)<(nx:Int):=by omega
   have eH:¬(i:Int)<0:=by omega
   go_wp2
   go_loopw [4] (λjv wQ=>∃j:Nat,j<=m/\jv=.int .i64 (j:Int)/\Below w.heap.size w wQ) (λjv _=>m-(intOf jv).toNat)
   case atStart=>exact⟨0,by omega,rfl,HB.out⟩
   case round=>
    obtain⟨j,hj,rfl,hB2⟩:=hrel
    clear r2 r4 y1
    have dm:=af hB2
    have r2:wr.cell? ⟨L,2,none⟩=_:=(hB2.cell (p:=⟨L,2,none⟩) hL).trans c2
    have r3:wr.cell? ⟨L,3,none⟩=_:=(hB2.cell (p:=⟨L,3,none⟩) hL).trans c3
    have y1:wr.cell? ⟨gx,ox+i,none⟩=_:=(hB2.cell (p:=⟨gx,ox+i,none⟩) hgx).trans x1
    have y2:wr.cell? ⟨gw,ow+i,none⟩=_:=(hB2.cell (p:=⟨gw,ow+i,none⟩) SK).trans w1
    clear hB2
    by_cases Vk:j<m
    ·obtain⟨g,off,rfl,_,hg,hc⟩:=Ux.out.2.resolve_left (λe=>by have e':m=0:=e;omega)
     have z1:wr.cell? ⟨g,off+j,none⟩=some (.string mk):=(dm.out.cell (p:=⟨g,off+j,none⟩) hg).trans (hc j Vk)
     have Rm:(j:Int)<(m:Int):=by omega
     have hj0:¬(j:Int)<0:=by omega
     clear hc
     go_wp2_with fail
     go_quiet (fail)
     go_wp2
     go_roundw
     case rel=>exact⟨j+1,by omega,by go_num,Below.iF dm.out _⟩
     case measure=>simp[intOf];omega
    ·have Rm:¬(j:Int)<(m:Int):=by omega
     go_wp2
     go_roundw
     case rel=>exact⟨i+1,by omega,by go_num,dm.out⟩
     case measure=>simp[intOf];omega
  ·have xU:¬(i:Int)<(nx:Int):=by omega
   go_wp2
   go_loopw [5] (λiv wr=>∃i:Nat,i<=nt/\iv=.int .i64 (i:Int)/\Below w.heap.size w wr) (λiv _=>nt-(intOf iv).toNat)
   case atStart=>exact⟨0,by omega,rfl,HB.out⟩
   case round=>
    clear r2 r4
    obtain⟨i,hi,rfl,hB⟩:=hrel
    have g_:=af hB
    have r4:wr.cell? ⟨L,4,none⟩=_:=(hB.cell (p:=⟨L,4,none⟩) hL).trans c4
    clear hB
    by_cases hlt2:i<nt
    ·obtain⟨x,hx⟩:∃x,ti[i]? =some x:=⟨ti[i]'(by rw[Hnt.out];exact hlt2),List.getElem?_eq_getElem _⟩
     obtain⟨gx,ox,rfl,_⟩:=HTG.out (by omega)
     obtain⟨gw,ow,rfl,_⟩:=HMG.out (by omega)
     have x1:w.cell? ⟨gx,ox+i,none⟩=some (.slice x.a x.n x.c):=RT.out.Pt (by rw[List.getElem?_map,hx];rfl)
     have w1:w.cell? ⟨gw,ow+i,none⟩=some (.int .i64 x.k):=RM.out.Pt (by rw[List.getElem?_map,hx];rfl)
     have hgx:=dz w ⟨gx,ox+i,none⟩ x1
     have SK:=dz w ⟨gw,ow+i,none⟩ w1
     have Ux:Hid (Ah w lab x):=HT.out x (List.mem_of_getElem? hx)
     obtain⟨a,m,c,mk⟩:=x
     dsimp only at x1 w1
     have hm5:m<=5000000:=Ux.out.1
     clear hx
     have y1:wr.cell? ⟨gx,ox+i,none⟩=_:=(g_.out.cell (p:=⟨gx,ox+i,none⟩) hgx).trans x1
     have xU:(i:Int)<(nt:Int):=by omega
     have eH:¬(i:Int)<0:=by omega
     go_wp2
     go_loopw [6] (λjv wQ=>∃j:Nat,j<=m/\jv=.int .i64 (j:Int)/\Below w.heap.size w wQ) (λjv _=>m-(intOf jv).toNat)
     case atStart=>exact⟨0,by omega,rfl,g_.out⟩
     case round=>
      obtain⟨j,hj,rfl,hB2⟩:=hrel
      clear r4 y1
      have dm:=af hB2
      have r4:wr.cell? ⟨L,4,none⟩=_:=(hB2.cell (p:=⟨L,4,none⟩) hL).trans c4
      have r5:wr.cell? ⟨L,5,none⟩=_:=(hB2.cell (p:=⟨L,5,none⟩) hL).trans c5
      have y1:wr.cell? ⟨gx,ox+i,none⟩=_:=(hB2.cell (p:=⟨gx,ox+i,none⟩) hgx).trans x1
      have y2:wr.cell? ⟨gw,ow+i,none⟩=_:=(hB2.cell (p:=⟨gw,ow+i,none⟩) SK).trans w1
      clear hB2
      by_cases Vk:j<m
      ·obtain⟨g,off,rfl,_,hg,hc⟩:=Ux.out.2.resolve_left (λe=>by have e':m=0:=e;omega)
       have z1:wr.cell? ⟨g,off+j*3,none⟩=_:=(dm.out.cell (p:=⟨g,off+j*3,none⟩) hg).trans (hc j Vk).1
       have z2:wr.cell? ⟨g,off+j*3+1,none⟩=_:=(dm.out.cell (p:=⟨g,off+j*3+1,none⟩) hg).trans (hc j Vk).2.1
       have z3:wr.cell? ⟨g,off+j*3+2,none⟩=some (.int .i64 mk):=(dm.out.cell (p:=⟨g,off+j*3+2,none⟩) hg).trans (hc j Vk).2.2
       have Rm:(j:Int)<(m:Int):=by omega
       have hj0:¬(j:Int)<0:=by omega
       clear hc
       go_wp2_with fail
       go_quiet (fail)
       go_wp2
       go_roundw
       case rel=>exact⟨j+1,by omega,by go_num,Below.iF dm.out _⟩
       case measure=>simp[intOf];omega
      ·have Rm:¬(j:Int)<(m:Int):=by omega
       go_wp2
       go_roundw
       case rel=>exact⟨i+1,by omega,by go_num,dm.out⟩
       case measure=>simp[intOf];omega
    ·have Vg:¬(i:Int)<(nt:Int):=by omega
     go_wp2
     go_ret
     exact⟨rfl,g_.out⟩
end
end Go.Proofs.YtenaepdmlknlcaaGreatDoor
