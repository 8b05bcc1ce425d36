import Derived.Test.YtenaepdmlknlcaaGreatDoorG48
open Go.Proofs.Tryz
set_option maxRecDepth 100000
set_option maxHeartbeats 8000000
namespace Go.Proofs.YtenaepdmlknlcaaGreatDoor
section
open Go.ChangeShapes Go.WideShapes Go.ChangeAt Go.RowKit Go.Deep
section
variable {H:Type} {enc:TypeId×Value->H} {W:World}
theorem Sj:prog.cellsOf 9=1:=by kernel_rfl
theorem Pv:prog.cellsOf 98=4:=by kernel_rfl
instance:Inhabited eW:=⟨⟨0,0,0,⟨#[]⟩⟩⟩
theorem C_{v:Value}{d:DataW H}{p:List MemPlace}{r:Reach}{b0:Nat}(hv:Value.okWide prog W r b0 41 v)(h:DataW.Trod enc prog W 0 (λ_=>true) true 41 v d p):
  ∃(a:Option Addr) (cap:Nat) (l:List eW),v=.slice a l.length cap/\yD W a l/\(∀o∈l,o.ok)/\l.length<=Rows.uptoBulk d/\l.length<=cap:=by
 obtain⟨a,len,cap,rfl⟩:=okWide_slice underlying41 hv
 obtain⟨fuel,h⟩:=h
 rcases open_slice underlying41 h with⟨hcs,hx⟩|⟨a',len',cap',m,n,D,Pl,hcs,_,hl,_,hmm,hx,hall⟩
 ·simp only[Value.cells,List.cons.injEq,and_true,Value.slice.injEq]at hcs
  obtain⟨rfl,rfl,rfl⟩:=hcs
  exact⟨none,0,[],rfl,.inl rfl,λo ho=>(by cases ho),by simp,by simp⟩
 ·simp only[Value.cells,List.cons.injEq,and_true,Value.slice.injEq]at hcs
  obtain⟨rfl,rfl,rfl⟩:=hcs
  simp only[if_true]at hmm
  simp only[Prod.mk.injEq]at hx
  obtain⟨rfl,_⟩:=hx
  have TX:=B2 ((List.range len).map D)
  simp only[List.length_map,List.length_range]at TX
  obtain⟨q,hq⟩:=choose_lt (α:=eW) (n:=len) (p:=λi s=>W.cells? 0 (a'.add (i*4)) 4=some [.int .i64 s.k,.int .i64 s.on,.int .i64 s.a,.string s.s]/\s.ok) (λi hi=>by
   obtain⟨cs',h1,h2⟩:=hall i (by omega)
   rw[Pv]at h1
   obtain⟨_,hlen,_⟩:=World.cells?_some h1
   obtain⟨xs,k,_,_,_,hxl,hf⟩:=DataW.trod_struct underlying98 h2
   match xs,hxl,cs',hlen with
   |[y0,y1,y2,y3],_,[v0,v1,v2,v3],_=>
    have g0:=hf 0 _ rfl
    have g1:=hf 1 _ rfl
    have g2:=hf 2 _ rfl
    have g3:=hf 3 _ rfl
    simp[Sh,Sj]at g0 g1 g2 g3
    obtain⟨z0,e0,_,w0⟩:=DataW.trod_int underlying3 g0
    obtain⟨z1,e1,_,w1⟩:=DataW.trod_int underlying3 g1
    obtain⟨z2,e2,_,w2⟩:=DataW.trod_int underlying3 g2
    obtain⟨z3,e3,_,_⟩:=DataW.trod_string underlying9 g3
    simp only[List.cons.injEq,and_true]at e0 e1 e2 e3
    subst e0 e1 e2 e3
    exact⟨⟨z0,z1,z2,z3⟩,h1,Tf w1⟩)
  have hlen:((List.range len).map q).length=len:=by simp
  refine⟨some a',cap,(List.range len).map q,by rw[hlen],?_,λo ho=>?_,?_,by rw[hlen];exact hl⟩
  ·by_cases h0:len=0
   ·subst h0;exact .inl rfl
   ·obtain⟨c0,_⟩:=hq 0 (by omega)
    have hz:=(World.cells?_some c0).2.2 0 (by omega)
    simp only[Nat.zero_mul,List.getElem?_cons_zero]at hz
    have ea:a'=⟨a'.block,a'.off,none⟩:=Iu (by simpa[Addr.add]using hz)
    generalize a'.block=b at ea
    generalize a'.off=o at ea
    subst ea
    rw[qj,qj]at hz
    refine .inr ⟨b,o,rfl,dz W _ hz,λi s e=>?_⟩
    rw[List.getElem?_map,Option.map_eq_some_iff]at e
    obtain⟨j,hj,e⟩:=e
    have hk:i<len:=by
     have:=List.getElem?_eq_some_iff.1 hj
     simpa using this.1
    obtain rfl:i=j:=by rw[List.getElem?_range hk]at hj;exact Option.some.inj hj
    obtain⟨hc,h1⟩:=hq i hk
    rw[e]at hc h1
    rw[qj]at hc
    obtain⟨_,_,hc⟩:=World.cells?_some hc
    have k0:=hc 0 (by omega)
    have k1:=hc 1 (by omega)
    have k2:=hc 2 (by omega)
    have k3:=hc 3 (by omega)
    rw[qj]at k0 k1 k2 k3
    exact⟨by simpa using k0,by simpa using k1,by simpa using k2,by simpa using k3⟩
  ·obtain⟨i,hi,rfl⟩:=List.mem_map.1 ho
   exact(hq i (by simpa using hi)).2
  ·rw[hlen]
   simp only[Rows.uptoBulk]
   omega
end
end
end Go.Proofs.YtenaepdmlknlcaaGreatDoor
