import Derived.Test.YtenaepdmlknlcaaGreatDoorG32
open Go.Proofs.Tryz
set_option maxRecDepth 100000
set_option maxHeartbeats 8000000
namespace Go.Proofs.YtenaepdmlknlcaaGreatDoor
section
open Go.RowKit Go.Shelf
def K5(ks:List Kp)(w:World)(e:Ending)(w':World):Prop:=
 ∃(va:Option Addr) (vc:Nat),e=.returned (.tuple #[.slice va ks.length vc,.int .i64 0])/\w'.ownsRow w.heap.size 24 3 (.slice va ks.length vc) ks.length (eP (ks.map (·.t)))/\Below w.heap.size w w'
theorem JU(A q:Nat)(hq:q<4)(v:Value)(ks:List Kp)(hl:ks.length<=1000)(w:World)(h:KR w A q v ks):Calls prog 117 #[.pointer (some ⟨A,0,none⟩),.int .i64 (q:Int)] w (K5 ks w):=by
 have pI:Hid (∀W:World,Calls prog 105 #[.int .i64 (q:Int),.int .i64 0,.int .i64 3] W λe w'=>e=.returned (.bool true)/\w'=W):=λW=>by
  have:=dM (q:Int) 0 3 W
  rw[show fP (q:Int) 0 3=true by unfold fP;exact decide_eq_true (by omega)]at this
  exact this
 have HK:=af h
 obtain⟨a,cap,rfl,hcap,hg⟩:=h.own.form
 have Hg:=af hg
 obtain⟨n,hn⟩:∃n,ks.length=n:=⟨_,rfl⟩
 have Hn:=af hn
 rw[hn]at HK hcap hl
 have DW:(q:Int)<4:=by omega
 have wB:¬(q:Int)<0:=by omega
 obtain⟨i24,eH,hz0,hz1,hz2⟩:=info_parts MN
 have HI:Hid (prog.info? 24=some i24/\i24.zero=some (.agg #[.int .i64 0,.int .i64 0,.int .i64 0])/\i24.size=3/\i24.bytes=24):=⟨eH,hz0,hz1,hz2⟩
 clear h hg hn eH hz0 hz1 hz2
 go_enter func117,ntmps117
 go_wp2_with (go_at_call 105;refine aq (pI.out _) ?_;rintro e w1 ⟨rfl,hw⟩;subst w1;dsimp only)
 go_loopw [7,8] (λov i wr=>∃(k:Nat) (va:Option Addr) (vc:Nat),k<=n/\ov=.slice va k vc/\i=.int .i64 k/\wr.ownsRow w.heap.size 24 3 (.slice va k vc) k (eP ((ks.take k).map (·.t)))/\Below w.heap.size w wr) (λ_ i _=>n-(intOf i).toNat)
 case atStart=>exact⟨0,none,0,Nat.zero_le _,rfl,rfl,World.ownsRow_nil _ _ _ _,bK⟩
 case round=>
  obtain⟨k,va,vc,hk,rfl,rfl,ho,hb⟩:=hrel
  have HO:=af ho
  have HB:=af hb
  have KL:Hid (KR wr A q (.slice a n cap) ks):=HK.out.below hb
  have cA:=KL.out.c
  clear ho hb
  by_cases hlt:k<n
  ·obtain⟨x,hx⟩:∃x,ks[k]? =some x:=⟨_,List.getElem?_eq_getElem (by rw[Hn.out];exact hlt)⟩
   obtain⟨g,off,rfl,_⟩:=Hg.out (by rw[Hn.out];omega)
   obtain⟨x0,x1,x2,x3⟩:=KL.out.at Hn.out.symm hx
   have lU:(k:Int)<(n:Int):=by omega
   have hk0:¬(k:Int)<0:=by omega
   have HF:Hid (eP ((ks.take (k+1)).map (·.t))=eP ((ks.take k).map (·.t))++[.int .i64 x.t.z,.int .i64 x.t.c,.int .i64 x.t.r]):=by
    show _=_
    rw[List.take_add_one,hx,Option.toList,List.map_append,qG]
    rfl
   obtain⟨⟨xz,xc,xr⟩,xb⟩:=x
   dsimp only at x0 x1 x2 x3 HF
   clear hx
   go_wp2_with (at_builtin;refine wpList_append_own _ rfl _ _ 80 rfl w.heap.size 24 i24 (.agg #[.int .i64 0,.int .i64 0,.int .i64 0]) 3 24 underlying80 HI.out.1 HI.out.2.1 HI.out.2.2.1 HI.out.2.2.2 rfl (by decide) (.slice va k vc) k _ rfl (HO.out.alloc _) ⟨wr.heap.size,0,none⟩ 1 1 [.int .i64 xz,.int .i64 xc,.int .i64 xr] rfl rfl (λj u hj=>by
     rw[addr_add]
     match j,hj with
     |0,hj=>simp at hj;subst hj;simp[go_sem]
     |1,hj=>simp at hj;subst hj;simp[go_sem]
     |2,hj=>simp at hj;subst hj;simp[go_sem]
     |j+3,hj=>simp at hj) (λu hu=>by simp only[List.mem_cons,List.not_mem_nil,or_false]at hu;rcases hu with hu|hu|hu<;>(rw[hu];rfl)) (by unfold maxLen;omega) (by omega) (by have:=HB.out.size;simp;omega) ?_;intro v5 w5 a_ bf _;obtain⟨a5,c5,rfl,_,_⟩:=aF a_;have uE:Hid (Below w.heap.size w w5):=HB.out.trans (((Below.refl _ wr).alloc HB.out.size _).grown bf (by have:=HB.out.size;simp;omega) (λk hk=>(HO.out.lt k hk).1));have uG:Hid _:=a_;clear a_ bf)
   go_roundw
   case rel=>exact⟨k+1,a5,c5,by omega,rfl,by go_num,by rw[HF.out];exact uG.out,uE.out⟩
   case measure=>simp[intOf];omega
  ·have lU:¬(k:Int)<(n:Int):=by omega
   obtain rfl:k=n:=by omega
   have hall:ks.take k=ks:=List.take_of_length_le (by rw[Hn.out];exact aM)
   rw[hall]at HO
   go_wp2
   go_ret2
   exact⟨va,vc,by rw[Hn.out];rfl,by rw[Hn.out];exact HO.out,HB.out⟩
theorem NF(A:Nat)(n:Int)(hn:fP n 0 3=false)(w:World):Calls prog 117 #[.pointer (some ⟨A,0,none⟩),.int .i64 n] w λe w'=>e=.returned (.tuple #[.slice none 0 0,.int .i64 1])/\w'=w:=by
 have pI:Hid (∀W:World,Calls prog 105 #[.int .i64 n,.int .i64 0,.int .i64 3] W λe w'=>e=.returned (.bool false)/\w'=W):=λW=>by
  have:=dM n 0 3 W
  rw[hn]at this
  exact this
 go_enter func117,ntmps117
 go_wp2_with (go_at_call 105;refine aq (pI.out _) ?_;rintro e w1 ⟨rfl,hw⟩;subst w1;dsimp only)
 go_ret2
 exact⟨rfl,rfl⟩
theorem Dh(A:Nat)(n:Int)(hn:fP n 0 3=false)(w:World):Calls prog 115 #[.pointer (some ⟨A,0,none⟩),.int .i64 n] w λe w'=>e=.returned (.tuple #[.slice none 0 0,.int .i64 2])/\w'=w:=by
 have pI:Hid (∀W:World,Calls prog 105 #[.int .i64 n,.int .i64 0,.int .i64 3] W λe w'=>e=.returned (.bool false)/\w'=W):=λW=>by
  have:=dM n 0 3 W
  rw[hn]at this
  exact this
 go_enter func115,ntmps115
 go_wp2_with (go_at_call 105;refine aq (pI.out _) ?_;rintro e w1 ⟨rfl,hw⟩;subst w1;dsimp only)
 go_ret2
 exact⟨rfl,rfl⟩
theorem AU(A n:Nat)(hn:n<4)(a:Option Addr)(m cap:Nat)(w:World)(hc:w.cell? ⟨A,14+5*n,none⟩=some (.slice a m cap))(hf:w.frozen? ⟨A,14+5*n,none⟩=false):Calls prog 115 #[.pointer (some ⟨A,0,none⟩),.int .i64 (n:Int)] w λe w'=>e=.returned (.tuple #[.slice a m cap,.int .i64 0])/\w'=w.setCell ⟨A,14+5*n,none⟩ (.slice none 0 0):=by
 have pI:Hid (∀W:World,Calls prog 105 #[.int .i64 (n:Int),.int .i64 0,.int .i64 3] W λe w'=>e=.returned (.bool true)/\w'=W):=λW=>by
  have:=dM (n:Int) 0 3 W
  rw[show fP (n:Int) 0 3=true by unfold fP;exact decide_eq_true (by omega)]at this
  exact this
 have e:∀i,10+n*5+i=10+i+5*n:=λi=>by omega
 have hI:(n:Int)<4:=by omega
 have SB:¬(n:Int)<0:=by omega
 have hc':w.cell? ⟨A,10+n*5+4,none⟩=some (.slice a m cap):=by rw[e 4];exact hc
 have hf':w.frozen? ⟨A,10+n*5+4,none⟩=false:=by rw[e 4];exact hf
 have hw:w.setCell ⟨A,14+5*n,none⟩ (.slice none 0 0)=w.setCell ⟨A,10+n*5+4,none⟩ (.slice none 0 0):=by rw[e 4]
 rw[hw]
 clear hw hc hf e
 go_enter func115,ntmps115
 go_wp2_with (go_at_call 105;refine aq (pI.out _) ?_;rintro e w1 ⟨rfl,hw⟩;subst w1;dsimp only)
 go_ret2
 exact⟨rfl,rfl⟩
end
end Go.Proofs.YtenaepdmlknlcaaGreatDoor
