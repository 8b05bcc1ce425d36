import Derived.Test.YtenaepdmlknlcaaGreatDoorG48
open Go.Proofs.Tryz
set_option maxRecDepth 100000
set_option maxHeartbeats 8000000
namespace Go.Proofs.YtenaepdmlknlcaaGreatDoor
section
open Go.RowKit Go.Shelf
theorem Td:(prog.info? 98).map (λi=>(i.zero,i.size,i.bytes))=some (some (.agg #[.int .i64 0,.int .i64 0,.int .i64 0,.string ⟨#[]⟩]),4,40):=by kernel_rfl
def jk(o:eW):List eW:=if o.k=3 then[]else if o.k=2 then⟨2,o.on,0,o.s⟩::(List.replicate 6 ⟨3,o.on,0,⟨#[]⟩⟩++[⟨4,o.on,0,⟨#[]⟩⟩])else[o]
def b9(l:List eW):List eW:=l.flatMap jk
variable {l:List eW} {i:Nat}
theorem sU{o:eW}(h:l[i]? =some o):b9 (l.take (i+1))=b9 (l.take i)++jk o:=by
 unfold b9
 rw[List.take_add_one,h,List.flatMap_append]
 simp
theorem El(o:eW):(jk o).length<=8:=by
 unfold jk
 split
 ·simp
 ·split<;>simp
theorem pL(l:List eW):∀i,(b9 (l.take i)).length<=8*i
 |0=>by simp[b9]
 |i+1=>by
  have:=pL l i
  cases h:l[i]? with
  |none=>
   have e:l.take (i+1)=l.take i:=by rw[List.take_add_one,h];simp
   rw[e];omega
  |some o=>
   rw[sU h,List.length_append]
   have:=El o
   omega
theorem v_:∀a b:List eW,fR (a++b)=fR a++fR b
 |[],b=>rfl
 |x::a,b=>by rw[List.cons_append,fR,fR,v_ a b];rfl
theorem Aj(o:eW):((jk o).map eW.sends).sum<=1:=by
 unfold jk
 split
 ·simp
 ·split
  ·simp[eW.sends]
  ·simp[eW.sends];split<;>omega
theorem qo:∀l:List eW,((b9 l).map eW.sends).sum<=l.length
 |[]=>by simp[b9]
 |o::l=>by
  have h1:=Aj o
  have h2:=qo l
  show(((jk o)++b9 l).map eW.sends).sum<=_
  rw[List.map_append,List.sum_append,List.length_cons]
  omega
theorem Iy(h:∀o∈l,o.ok):∀o∈b9 l,o.ok:=λo ho=>by
 unfold b9 at ho
 obtain⟨x,hx,ho⟩:=List.mem_flatMap.1 ho
 have Xi:=h x hx
 unfold jk at ho
 split at ho
 ·cases ho
 ·split at ho
  ·simp only[List.mem_cons,List.mem_append,List.mem_replicate,List.not_mem_nil,or_false]at ho
   rcases ho with rfl|⟨_,rfl⟩|rfl<;>exact Xi
  ·rw[List.mem_singleton.1 ho];exact Xi
structure AO(w:World)(wr:World)(a:Option Addr)(c:Nat)(l:List eW):Prop where
 own:ak wr w.heap.size 98 4 (.slice a l.length c) l.length (fR l)
 b:Below w.heap.size w wr
variable {w wr w':World} {c:Nat}
theorem AO.below{a:Option Addr}(h:AO w wr a c l)(hb:Below wr.heap.size wr w'):AO w w' a c l:=⟨h.own.below hb,h.b.trans (hb.mono h.b.size)⟩
variable {v':Value}
theorem AO.push{a:Option Addr}(h:AO w wr a c l)(o:eW)(ho:ak w' w.heap.size 98 4 v' (l.length+1) (fR l++[.int .i64 o.k,.int .i64 o.on,.int .i64 o.a,.string o.s]))(hf:Fr (λb _=>(Value.slice a l.length c).ownBlock=some b) wr w'):∃a' c',v'=.slice a' (l++[o]).length c'/\AO w w' a' c' (l++[o]):=by
 obtain⟨a',c',rfl,_,_⟩:=ho.form
 have e1:(l++[o]).length=l.length+1:=by rw[List.length_append];rfl
 refine⟨a',c',by rw[e1],⟨?_,h.b.trans (hf.below h.b.size (λb i hb e=>?_))⟩⟩
 ·rw[e1,v_];exact ho
 ·have:=(h.own.lt e).1;omega
theorem Iz(sa:Option Addr)(sc:Nat)(ops:List eW)(hn:ops.length<=10000000)(w:World)(hsc:ops.length<=sc)(hA:yD w sa ops):
  Calls prog 14 #[.slice sa ops.length sc] w λe w'=>∃a c,e=.returned (.slice a (b9 ops).length c)/\AO w w' a c (b9 ops):=by
 have HA:=af hA
 have H9:Hid (∀i,(b9 (ops.take i)).length<=8*i):=pL ops
 obtain⟨i98,eH,hz0,hz1,hz2⟩:=info_parts Td
 have HI:Hid (prog.info? 98=some i98/\i98.zero=some (.agg #[.int .i64 0,.int .i64 0,.int .i64 0,.string ⟨#[]⟩])/\i98.size=4/\i98.bytes=40):=⟨eH,hz0,hz1,hz2⟩
 obtain⟨n,hnn⟩:∃n,ops.length=n:=⟨_,rfl⟩
 have Hn:=af hnn
 have HT:Hid (b9 (ops.take n)=b9 ops):=by show _=_;rw[<-hnn,List.take_length]
 rw[hnn]at hn hsc⊢
 clear hA hnn eH hz0 hz1 hz2
 go_enter func14,ntmps14
 go_wp2
 go_loopw [3,4] (λov iv wr=>∃(i:Nat) (a:Option Addr) (c:Nat),i<=n/\ov=.slice a (b9 (ops.take i)).length c/\iv=.int .i64 (i:Int)/\AO w wr a c (b9 (ops.take i))) (λ_ iv _=>n-(intOf iv).toNat)
 case atStart=>exact⟨0,none,0,by omega,rfl,rfl,⟨ak.nil _ _ _ _,bK⟩⟩
 case round=>
  obtain⟨i,a,c,hi,rfl,rfl,hO⟩:=hrel
  have HO:=af hO
  have Vq:=H9.out i
  by_cases hlt:i<n
  ·obtain⟨o,ho⟩:∃o,ops[i]? =some o:=⟨ops[i]'(by rw[Hn.out];exact hlt),List.getElem?_eq_getElem _⟩
   obtain⟨gb,off,rfl,hg,hc⟩:=HA.out.resolve_left (λe=>by rw[e]at ho;simp at ho)
   obtain⟨y0,y1,y2,y3⟩:=hc i o ho
   have hcc:∀j,wr.cell? ⟨gb,j,none⟩=w.cell? ⟨gb,j,none⟩:=λj=>hO.b.cell (p:=⟨gb,j,none⟩) hg
   have z0:=(hcc _).trans y0
   have z1:=(hcc _).trans y1
   have z2:=(hcc _).trans y2
   have z3:=(hcc _).trans y3
   have HE:Hid (b9 (ops.take (i+1))=b9 (ops.take i)++jk o):=sU ho
   have hgr:gb<wr.heap.size:=Nat.lt_of_lt_of_le hg hO.b.size
   obtain⟨L,YF⟩:∃L,b9 (ops.take i)=L:=⟨_,rfl⟩
   rw[YF]at HO HE Vq
   rw[YF]
   have xU:(i:Int)<(n:Int):=by omega
   have eH:¬(i:Int)<0:=by omega
   obtain⟨k,on,oa,s⟩:=o
   dsimp only at z0 z1 z2 z3
   clear hO hcc ho y0 y1 y2 y3 hc YF
   by_cases hk3:k=3
   ·subst hk3
    have Ox:Hid (b9 (ops.take (i+1))=L):=by show _=_;rw[HE.out];simp[jk]
    go_wp2
    go_roundw
    case rel=>exact⟨i+1,a,c,by omega,by rw[Ox.out],by go_num,by rw[Ox.out];exact HO.out.below aU⟩
    case measure=>simp[intOf];omega
   ·have aaJ:(k==3)=false:=by simpa using hk3
    by_cases hk2:k=2
    ·subst hk2
     obtain⟨lb,hlb⟩:∃x,wr.heap.size=x:=⟨_,rfl⟩
     have Kq:=af hlb
     have Ox:Hid (b9 (ops.take (i+1))=(L++[⟨2,on,0,s⟩]++List.replicate 6 ⟨3,on,0,⟨#[]⟩⟩)++[⟨4,on,0,⟨#[]⟩⟩]):=by show _=_;rw[HE.out];simp[jk]
     have Km:Hid (Below wr.heap.size wr ((wr.alloc (.cells #[.int .i64 2,.int .i64 on,.int .i64 0,.string s] 98)).alloc (.cells #[.int .i64 2,.int .i64 on,.int .i64 0,.string s] 98))):=aU.alloc (by simp) _
     clear hlb
     go_wp2_with (at_builtin;refine bR rfl (.tmp 28) (.tmp 30) 41 rfl 98 i98 (.agg #[.int .i64 0,.int .i64 0,.int .i64 0,.string ⟨#[]⟩]) 4 40 underlying41 HI.out.1 HI.out.2.1 HI.out.2.2.1 HI.out.2.2.2 rfl (by decide) w.heap.size (by have h1:=HO.out.b.size;simp;omega) (.slice a L.length c) L.length (fR L) rfl (HO.out.below Km.out).own ⟨wr.heap.size+1,0,none⟩ 1 1 [.int .i64 2,.int .i64 on,.int .i64 0,.string s] rfl rfl (λj u hj=>by rw[addr_add,Nat.zero_add];have e:=bG (wr.alloc (.cells #[.int .i64 2,.int .i64 on,.int .i64 0,.string s] 98)) #[.int .i64 2,.int .i64 on,.int .i64 0,.string s] 98 j;rw[World.size_alloc]at e;rw[e];simpa using hj) (λu hu=>by simp only[List.mem_cons,List.not_mem_nil,or_false]at hu;rcases hu with hu|hu|hu|hu<;>(rw[hu];rfl)) (by unfold maxLen;omega) (by omega) ?_;intro v3 w3 ud hb3 hf3;have qq:w3.cell? ⟨lb,1,none⟩=some (.int .i64 on):=(hf3.cell lb 1 (by rw[<-Kq.out];simp;omega) (λe=>by have:=(HO.out.own.lt e).2;have:=Kq.out;omega)).trans (by rw[<-Kq.out];simp[go_sem]);have Jl:v3.ownBlock≠some lb:=λe=>(hb3 lb e).elim (λe2=>by have:=(HO.out.own.lt e2).2;have:=Kq.out;omega) (λe2=>by have:=Kq.out;simp at e2;omega);obtain⟨a3,c3,rfl,UM⟩:=(HO.out.below Km.out).push ⟨2,on,0,s⟩ ud hf3;have vu:=af UM;have Hqq:=af qq;have Hvb:=af Jl;have Hl3:Hid (lb<w3.heap.size):=dz w3 ⟨lb,1,none⟩ qq;clear UM ud hb3 hf3 qq Jl)
     rw[Kq.out]
     go_loopw [3,6] (λov jv wr=>∃(j:Nat) (a:Option Addr) (c:Nat),j<=6/\jv=.int .i64 (j:Int)/\ov=.slice a (L++[(⟨2,on,0,s⟩:eW)]++List.replicate j (⟨3,on,0,⟨#[]⟩⟩:eW)).length c/\AO w wr a c (L++[⟨2,on,0,s⟩]++List.replicate j ⟨3,on,0,⟨#[]⟩⟩)/\wr.cell? ⟨lb,1,none⟩=some (.int .i64 on)/\(Value.slice a (L++[(⟨2,on,0,s⟩:eW)]++List.replicate j (⟨3,on,0,⟨#[]⟩⟩:eW)).length c).ownBlock≠some lb) (λ_ jv _=>6-(intOf jv).toNat)
     case atStart=>exact⟨0,a3,c3,by omega,rfl,by simp,by simpa using vu.out,Hqq.out,by simpa using Hvb.out⟩
     case round=>
      obtain⟨j,a4,c4,hj,rfl,rfl,YG,q4,hv4⟩:=hrel
      obtain⟨M,hM⟩:∃M,L++[(⟨2,on,0,s⟩:eW)]++List.replicate j (⟨3,on,0,⟨#[]⟩⟩:eW)=M:=⟨_,rfl⟩
      have hMl:M.length<=L.length+7:=by rw[<-hM,List.length_append,List.length_append,List.length_replicate];simp;omega
      have HM:Hid (L++[⟨2,on,0,s⟩]++List.replicate (j+1) (⟨3,on,0,⟨#[]⟩⟩:eW)=M++[⟨3,on,0,⟨#[]⟩⟩]):=by show _=_;rw[<-hM,List.replicate_succ',<-List.append_assoc]
      have HM0:=af hM
      rw[hM]at YG hv4
      rw[hM]
      have DR:=af YG
      have hl4:lb<wr.heap.size:=dz wr ⟨lb,1,none⟩ q4
      clear YG hM
      by_cases hj6:j<6
      ·have Rm:(j:Int)<6:=by omega
       go_wp2_with (at_builtin;refine bR rfl (.tmp 36) (.tmp 40) 41 rfl 98 i98 (.agg #[.int .i64 0,.int .i64 0,.int .i64 0,.string ⟨#[]⟩]) 4 40 underlying41 HI.out.1 HI.out.2.1 HI.out.2.2.1 HI.out.2.2.2 rfl (by decide) w.heap.size (by have h1:=DR.out.b.size;simp;omega) (.slice a4 M.length c4) M.length (fR M) rfl (DR.out.below aU).own ⟨wr.heap.size,0,none⟩ 1 1 [.int .i64 3,.int .i64 on,.int .i64 0,.string ⟨#[]⟩] rfl rfl (λj u hj=>by rw[addr_add,Nat.zero_add];have e:=bG wr #[.int .i64 3,.int .i64 on,.int .i64 0,.string ⟨#[]⟩] 98 j;rw[e];simpa using hj) (λu hu=>by simp only[List.mem_cons,List.not_mem_nil,or_false]at hu;rcases hu with hu|hu|hu|hu<;>(rw[hu];rfl)) (by unfold maxLen;omega) (by omega) ?_;intro v5 w5 Ro hb5 jx;have qq:w5.cell? ⟨lb,1,none⟩=some (.int .i64 on):=(jx.cell lb 1 (by simp;omega) hv4).trans ((((Below.refl wr.heap.size wr).alloc aM _).cell (p:=⟨lb,1,none⟩) hl4).trans q4);have Jl:v5.ownBlock≠some lb:=λe=>(hb5 lb e).elim hv4 (λe2=>by simp at e2;omega);obtain⟨a5,c5,rfl,UN⟩:=(DR.out.below (bK.alloc aM (.cells #[.int .i64 3,.int .i64 on,.int .i64 0,.string ⟨#[]⟩] 98))).push ⟨3,on,0,⟨#[]⟩⟩ Ro jx;have uG:=af UN;have X8:=af qq;have X9:=af Jl;have Hl5:Hid (lb<w5.heap.size):=dz w5 ⟨lb,1,none⟩ qq;clear UN Ro hb5 jx qq Jl)
       go_roundw
       case rel=>exact⟨j+1,a5,c5,by omega,by go_num,by rw[HM.out];first|rfl|(rw[List.length_append];rfl),by rw[HM.out];exact uG.out,X8.out,by rw[HM.out];exact X9.out⟩
       case measure=>simp[intOf];omega
      ·have Rm:¬(j:Int)<6:=by omega
       obtain rfl:j=6:=by omega
       have HE3:Hid (b9 (ops.take (i+1))=M++[⟨4,on,0,⟨#[]⟩⟩]):=by show _=_;rw[Ox.out,HM0.out]
       go_wp2_with (at_builtin;refine bR rfl (.tmp 42) (.tmp 46) 41 rfl 98 i98 (.agg #[.int .i64 0,.int .i64 0,.int .i64 0,.string ⟨#[]⟩]) 4 40 underlying41 HI.out.1 HI.out.2.1 HI.out.2.2.1 HI.out.2.2.2 rfl (by decide) w.heap.size (by have h1:=DR.out.b.size;simp;omega) (.slice a4 M.length c4) M.length (fR M) rfl (DR.out.below aU).own ⟨wr.heap.size,0,none⟩ 1 1 [.int .i64 4,.int .i64 on,.int .i64 0,.string ⟨#[]⟩] rfl rfl (λj u hj=>by rw[addr_add,Nat.zero_add];have e:=bG wr #[.int .i64 4,.int .i64 on,.int .i64 0,.string ⟨#[]⟩] 98 j;rw[e];simpa using hj) (λu hu=>by simp only[List.mem_cons,List.not_mem_nil,or_false]at hu;rcases hu with hu|hu|hu|hu<;>(rw[hu];rfl)) (by unfold maxLen;omega) (by omega) ?_;intro v6 w6 Vx jC W5;obtain⟨a6,c6,rfl,hO6⟩:=(DR.out.below (bK.alloc aM (.cells #[.int .i64 4,.int .i64 on,.int .i64 0,.string ⟨#[]⟩] 98))).push ⟨4,on,0,⟨#[]⟩⟩ Vx W5;have XK:=af hO6;clear hO6 Vx jC W5)
       go_roundw
       case rel=>exact⟨i+1,a6,c6,by omega,by rw[HE3.out];first|rfl|(rw[List.length_append];rfl),by go_num,by rw[HE3.out];exact XK.out⟩
       case measure=>simp[intOf];omega
    ·have aaI:(k==2)=false:=by simpa using hk2
     have Ox:Hid (b9 (ops.take (i+1))=L++[⟨k,on,oa,s⟩]):=by show _=_;rw[HE.out];simp[jk,hk3,hk2]
     have Km:Hid (Below wr.heap.size wr ((wr.alloc (.cells #[.int .i64 k,.int .i64 on,.int .i64 oa,.string s] 98)).alloc (.cells #[.int .i64 k,.int .i64 on,.int .i64 oa,.string s] 98))):=aU.alloc (by simp) _
     go_wp2_with (at_builtin;refine bR rfl (.tmp 19) (.tmp 21) 41 rfl 98 i98 (.agg #[.int .i64 0,.int .i64 0,.int .i64 0,.string ⟨#[]⟩]) 4 40 underlying41 HI.out.1 HI.out.2.1 HI.out.2.2.1 HI.out.2.2.2 rfl (by decide) w.heap.size (by have h1:=HO.out.b.size;simp;omega) (.slice a L.length c) L.length (fR L) rfl (HO.out.below Km.out).own ⟨wr.heap.size+1,0,none⟩ 1 1 [.int .i64 k,.int .i64 on,.int .i64 oa,.string s] rfl rfl (λj u hj=>by rw[addr_add,Nat.zero_add];have e:=bG (wr.alloc (.cells #[.int .i64 k,.int .i64 on,.int .i64 oa,.string s] 98)) #[.int .i64 k,.int .i64 on,.int .i64 oa,.string s] 98 j;rw[World.size_alloc]at e;rw[e];simpa using hj) (λu hu=>by simp only[List.mem_cons,List.not_mem_nil,or_false]at hu;rcases hu with hu|hu|hu|hu<;>(rw[hu];rfl)) (by unfold maxLen;omega) (by omega) ?_;intro v3 w3 ud hb3 hf3;obtain⟨a3,c3,rfl,UM⟩:=(HO.out.below Km.out).push ⟨k,on,oa,s⟩ ud hf3;have vu:Hid _:=UM;clear UM ud hb3 hf3)
     go_roundw
     case rel=>exact⟨i+1,a3,c3,by omega,by rw[Ox.out,List.length_append];rfl,by go_num,by rw[Ox.out];exact vu.out⟩
     case measure=>simp[intOf];omega
  ·have xU:¬(i:Int)<(n:Int):=by omega
   obtain rfl:i=n:=by omega
   rw[HT.out]at HO
   rw[HT.out]
   clear hO
   go_wp2
   go_ret
   exact⟨a,c,rfl,HO.out⟩
theorem zy:∀l:List eW,(l.map eW.sends).sum<=l.length
 |[]=>by simp
 |o::l=>by
  have:=zy l
  rw[List.map_cons,List.sum_cons,List.length_cons]
  have:o.sends<=1:=by unfold eW.sends;split<;>omega
  omega
theorem w9(l:List eW):dY l l.length=(l.map eW.sends).sum:=by unfold dY;rw[List.take_length]
variable {b0:Nat}
theorem Nl{a:Option Addr}(h:ak w b0 98 4 (.slice a l.length c) l.length (fR l)):yD w a l:=by
 by_cases e:l=[]
 ·exact .inl e
 ·obtain⟨g,off,rfl⟩:=h.pos (List.length_pos_iff.2 e)
  refine .inr ⟨g,off,rfl,(h.lt rfl).2,λi o ho=>?_⟩
  have hi:i<l.length:=(List.getElem?_eq_some_iff.1 ho).1
  have hc:∀j,j<4->w.cell? ⟨g,off+i*4+j,none⟩=([.int .i64 o.k,.int .i64 o.on,.int .i64 o.a,.string o.s]:List Value)[j]? :=λj hj=>by
   rw[<-su ho j hj,Nat.add_assoc]
   exact h.cell (j:=i*4+j) (by omega)
  exact⟨hc 0 (by omega),hc 1 (by omega),hc 2 (by omega),hc 3 (by omega)⟩
variable {e:TypeId} {size n:Nat} {xs:List Value}
theorem ak.cap{a:Option Addr}(h:ak w b0 e size (.slice a n c) n xs):n<=c:=by
 obtain⟨a',c',e1,h2,_⟩:=h.form
 injection e1 with _ _ e1
 omega
theorem OI(sa:Option Addr)(sc:Nat)(ops:List eW)(hn:ops.length<=1048576)(hok:∀o∈ops,o.ok)(w:World)(g:Gl w)(hsc:ops.length<=sc)(hA:yD w sa ops):
  Calls prog 7 #[.slice sa ops.length sc] w λe w'=>e=.returned (.bool true)/\Below w.heap.size w w':=by
 have HR:Hid (Calls prog 15 #[.slice sa ops.length sc,.int .i64 6] w λe w'=>e=.returned (.bool true)/\Below w.heap.size w w'):=G0 sa sc ops (by omega) (by rw[w9];have:=zy ops;omega) hok w g hsc hA
 clear hA hok g
 go_enter func7,ntmps7
 go_wp2_with (go_at_call 15;refine aq HR.out ?_;rintro e w1 ⟨rfl,hb⟩;dsimp only;have HB:=af hb;clear hb)
 go_ret
 exact⟨rfl,HB.out⟩
theorem G6(sa:Option Addr)(sc:Nat)(ops:List eW)(hn:ops.length<=1048576)(hok:∀o∈ops,o.ok)(w:World)(g:Gl w)(hsc:ops.length<=sc)(hA:yD w sa ops):
  Calls prog 4 #[.slice sa ops.length sc] w λe w'=>e=.returned (.bool true)/\Below w.heap.size w w':=by
 have Vq:=pL ops ops.length
 rw[List.take_length]at Vq
 have HA:Hid (Calls prog 14 #[.slice sa ops.length sc] w λe w'=>∃a c,e=.returned (.slice a (b9 ops).length c)/\AO w w' a c (b9 ops)):=Iz sa sc ops (by omega) w hsc hA
 have HR:Hid (∀(W:World) (a:Option Addr) (c:Nat),AO w W a c (b9 ops)->Calls prog 15 #[.slice a (b9 ops).length c,.int .i64 6] W λe w'=>e=.returned (.bool true)/\Below w.heap.size w w'):=λW a c hO=>
  (G0 a c (b9 ops) (by omega) (by rw[w9];have:=qo ops;omega) (Iy hok) W (g.below hO.b g.sz) hO.own.cap (Nl hO.own)).mono λe w' ⟨he,hb⟩=>⟨he,hO.b.trans (hb.mono hO.b.size)⟩
 clear hA hok g Vq
 go_enter func4,ntmps4
 go_wp2_with (first
  |(go_at_call 14;refine aq HA.out ?_;rintro e w1 ⟨a,c,rfl,hO⟩;dsimp only;have HO:=af hO;clear hO)
  |(go_at_call 15;refine aq (HR.out _ _ _ HO.out) ?_;rintro e w2 ⟨rfl,hb⟩;dsimp only;have HB:=af hb;clear hb))
 go_ret
 exact⟨rfl,HB.out⟩
end
end Go.Proofs.YtenaepdmlknlcaaGreatDoor
