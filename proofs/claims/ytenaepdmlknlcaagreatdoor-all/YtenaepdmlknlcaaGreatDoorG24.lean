import Derived.Test.YtenaepdmlknlcaaGreatDoorG18
import Derived.Test.YtenaepdmlknlcaaGreatDoorG22
open Go.Proofs.Tryz
set_option maxRecDepth 100000
set_option maxHeartbeats 8000000
namespace Go.Proofs.YtenaepdmlknlcaaGreatDoor
section
open Go.RowKit Go.Shelf
def UB(n:Int):ByteArray:=⟨(Lib.itoa n).toArray⟩
theorem wF{c:UInt8}:∀{l:List UInt8},c∉l->Lib.index l [c]= -1
 |[],_=>by simp[Lib.index]
 |b::l,h=>by
  have hb:b≠c:=λe=>h (by simp[e])
  have hp:([c]:List UInt8).isPrefixOf (b::l)=false:=by simp[List.isPrefixOf,Ne.symm hb]
  rw[Lib.index,hp,wF (l:=l) (λe=>h (by simp[e]))]
  simp
theorem E8{c:UInt8}:∀{a:List UInt8} (r:List UInt8),c∉a->Lib.index (a++c::r) [c]=(a.length:Int)
 |[],r,_=>by rw[List.nil_append,Lib.index];simp[List.isPrefixOf]
 |b::a,r,h=>by
  have hb:b≠c:=λe=>h (by simp[e])
  have hp:([c]:List UInt8).isPrefixOf (b::(a++c::r))=false:=by simp[List.isPrefixOf,Ne.symm hb]
  have hi:=E8 (c:=c) (a:=a) r (λe=>h (by simp[e]))
  rw[List.cons_append,Lib.index,hp,hi]
  have:((a.length:Int)== -1)=false:=by simp
  rw[this]
  simp
theorem Ak{a b:ByteArray}(h:a.data.toList=b.data.toList):a=b:=by
 obtain⟨⟨a⟩⟩:=a;obtain⟨⟨b⟩⟩:=b;simp at h;rw[h]
theorem uR(a r:ByteArray)(c:UInt8):(a++⟨#[c]⟩++r).data.toList=a.data.toList++c::r.data.toList:=by
 simp
theorem zQ{a:ByteArray}(h:(32:UInt8)∉a.data.toList):dN a=[a]:=by
 unfold dN;exact Lib.splitB_miss _ _ _ _ (wF h)
theorem F6{a r:ByteArray}(h:(32:UInt8)∉a.data.toList):dN (a++⟨#[32]⟩++r)=a::dN r:=by
 have hs:a.size=a.data.toList.length:=by simp
 have hi:Lib.indexB (a++⟨#[32]⟩++r) ⟨#[32]⟩=((a.size:Nat):Int):=by
  show Lib.index (a++⟨#[32]⟩++r).data.toList [32]=_
  rw[uR,E8 _ h,hs]
 unfold dN
 have e1:(a++⟨#[32]⟩++r).extract 0 (a.size+0)=a:=by
  apply Ak
  rw[Lib.extract_from_zero,uR,hs,Nat.add_zero,List.take_left']
  rfl
 have e2:(a++⟨#[32]⟩++r).extract (a.size+1) (a++⟨#[32]⟩++r).size=r:=by
  apply Ak
  rw[Lib.extract_to_end,uR,hs,show a.data.toList++32::r.data.toList=(a.data.toList++[32])++r.data.toList by simp,List.drop_left']
  simp
 rw[Lib.countB_hit _ _ a.size (by decide) hi,Nat.add_comm 1,Lib.splitB_hit _ _ _ _ a.size hi,e1,show(⟨#[32]⟩:ByteArray).size=1 from rfl,e2]
variable {u:Nat}
theorem gP(h:u<10):(UInt8.ofNat (48+u)).toNat=48+u:=by
 rw[UInt8.toNat_ofNat'];omega
theorem uP:∀{l:List UInt8} {acc v:Nat} {d:Nat},Lib.parseUint10 acc l=.ok v->d<10->v*10+d<9223372036854775808->Lib.parseUint10 acc (l++[UInt8.ofNat (48+d)])=.ok (v*10+d)
 |[],acc,v,d,h,hd,hv=>by
  simp only[Lib.parseUint10]at h
  injection h with h
  subst h
  have e:=gP hd
  rw[List.nil_append,Lib.parseUint10,e,if_pos (by omega),if_neg (by omega),if_neg (by omega),Lib.parseUint10]
  congr 1
  omega
 |c::r,acc,v,d,h,hd,hv=>by
  rw[List.cons_append]
  rw[Lib.parseUint10]at h⊢
  split at h
  ·rename_i h1
   rw[if_pos h1]
   split at h
   ·cases h
   ·rename_i h2
    rw[if_neg h2]
    split at h
    ·cases h
    ·rename_i h3
     rw[if_neg h3]
     exact uP h hd hv
  ·cases h
theorem rY:∀(k u:Nat),u<10^k->u<900000000000000000->Lib.parseUint10 0 (Lib.decDigits u)=.ok u
 |0,u,h,_=>by
  have:u=0:=by simpa using h
  subst this
  rw[Lib.decDigits_one (by omega)]
  have:=uP (l:=[]) (acc:=0) (v:=0) (d:=0) rfl (by omega) (by omega)
  simpa using this
 |k+1,u,h,hu=>by
  by_cases h10:u<10
  ·rw[Lib.decDigits_one h10]
   have:=uP (l:=[]) (acc:=0) (v:=0) (d:=u) rfl h10 (by omega)
   simpa using this
  ·have ih:=rY k (u/10) (by rw[Nat.pow_succ]at h;omega) (by omega)
   rw[Lib.decDigits,dif_neg h10]
   have:=uP ih (d:=u%10) (by omega) (by omega)
   rw[this]
   congr 1
   omega
theorem EB(u:Nat):Lib.decDigits u≠[]:=by
 rw[Lib.decDigits];split<;>simp
theorem qB:∀(k u:Nat),u<=k->∀c∈Lib.decDigits u,48<=c.toNat/\c.toNat<=57
 |k,u,hk,c,hc=>by
  by_cases h10:u<10
  ·rw[Lib.decDigits_one h10]at hc
   rw[List.mem_singleton.1 hc,gP h10];omega
  ·rw[Lib.decDigits,dif_neg h10]at hc
   match k,hk with
   |0,hk=>omega
   |k+1,hk=>
    rcases List.mem_append.1 hc with hc|hc
    ·exact qB k (u/10) (by omega) c hc
    ·rw[List.mem_singleton.1 hc,gP (by omega)];omega
theorem IP(n:Int):(UB n).data.toList=Lib.itoa n:=rfl
theorem LK{n:Int}{c:UInt8}(hc:c=32\/c=44):c∉(UB n).data.toList:=by
 intro h
 rw[IP]at h
 have hd:c.toNat=32\/c.toNat=44:=by rcases hc with rfl|rfl<;>simp
 unfold Lib.itoa at h
 split at h
 ·rcases List.mem_cons.1 h with rfl|h
  ·revert hd;decide
  ·have:=qB _ _ aM c h;omega
 ·have:=qB _ _ aM c h;omega
theorem m_:∀{gs:List FG} {i:Nat} {g:FG},gs[i]? =some g->∀j,j<5->(cu gs)[i*5+j]? =(LP g)[j]?
 |[],i,g,h,_,_=>by simp at h
 |y::gs,0,g,h,j,hj=>by
  simp at h;subst h
  show(LP y++cu gs)[0*5+j]? =_
  rw[List.getElem?_append_left (by show 0*5+j<5;omega)]
  congr 1;omega
 |y::gs,i+1,g,h,j,hj=>by
  have:=m_ (gs:=gs) (i:=i) (g:=g) (by simpa using h) j hj
  rw[<-this]
  show(LP y++cu gs)[(i+1)*5+j]? =_
  rw[List.getElem?_append_right (by show 5<=(i+1)*5+j;omega)]
  congr 1
  show(i+1)*5+j-5=_
  omega
structure AR(w:World)(A:Nat)(v:Value)(gs:List FG):Prop where
 c:w.cell? ⟨A,1,none⟩=some v
 own:ak w 0 32 5 v gs.length (cu gs)
variable {w w':World} {gs:List FG}
theorem AR.below{A:Nat}{v:Value}(h:AR w A v gs)(hb:Below w.heap.size w w'):AR w' A v gs:=
 ⟨(hb.cell (p:=⟨A,1,none⟩) (dz w ⟨A,1,none⟩ h.c)).trans h.c,h.own.below hb⟩
variable {i:Nat}
theorem AR.at{A g off n cap:Nat}(h:AR w A (.slice (some ⟨g,off,none⟩) n cap) gs)(hn:n=gs.length){x:FG}(hx:gs[i]? =some x):∀j u,(LP x)[j]? =some u->w.cell? ⟨g,off+i*5+j,none⟩=some u:=λj u hu=>by
 have hi:i<gs.length:=(List.getElem?_eq_some_iff.1 hx).1
 have hj:j<5:=(List.getElem?_eq_some_iff.1 hu).1
 subst hn
 rw[Nat.add_assoc]
 exact(h.own.cell (j:=i*5+j) (by omega)).trans ((m_ hx j hj).trans hu)
def iP(id:Int)(fs:List aW):Int:=match fs.findIdx? λf=>f.id==id with|some i=>(i:Int)|none=> -1
variable {fs:List aW} {f:aW}
theorem I8{id:Int}{k:Nat}(h:∀j y,j<k->fs[j]? =some y->¬y.id=id)(hx:fs[k]? =some f)(e:f.id=id):iP id fs=(k:Int):=by
 unfold iP
 have:fs.findIdx? (λf=>f.id==id)=some k:=by
  rw[List.findIdx?_eq_some_iff_getElem]
  obtain⟨hk,hx'⟩:=List.getElem?_eq_some_iff.1 hx
  refine⟨hk,by rw[hx'];simpa using e,λj hj=>?_⟩
  have:=h j _ hj (List.getElem?_eq_getElem (by omega))
  simpa using this
 rw[this]
theorem EF{id:Int}(h:∀j y,j<fs.length->fs[j]? =some y->¬y.id=id):iP id fs= -1:=by
 unfold iP
 have:fs.findIdx? (λf=>f.id==id)=none:=by
  rw[List.findIdx?_eq_none_iff]
  intro x hx
  obtain⟨j,hj,e⟩:=List.mem_iff_getElem.1 hx
  have:=h j x hj (by rw[List.getElem?_eq_getElem hj,e])
  simpa using this
 rw[this]
theorem J4(A:Nat)(id:Int)(v:Value)(gs:List FG)(hl:gs.length<=1000)(w:World)(h:AR w A v gs):Calls prog 172 #[.pointer (some ⟨A,0,none⟩),.int .i64 id] w λe w'=>e=.returned (.int .i64 (iP id (gs.map (·.f))))/\w'=w:=by
 have HK:=af h
 obtain⟨a,cap,rfl,hcap,hg⟩:=h.own.form
 have Hg:=af hg
 obtain⟨n,hn⟩:∃n,gs.length=n:=⟨_,rfl⟩
 have Hn:=af hn
 rw[hn]at HK hcap hl
 have cA:=HK.out.c
 clear h hg hn
 go_enter func172,ntmps172
 go_wp2
 go_loop [5] (λi=>∃k:Nat,k<=n/\i=.int .i64 k/\(∀j y,j<k->(gs.map (·.f))[j]? =some y->¬y.id=id)) (λi=>n-(intOf i).toNat)
 case atStart=>exact⟨0,Nat.zero_le _,rfl,λj y hj=>by omega⟩
 case round=>
  obtain⟨k,hk,rfl,hno⟩:=hrel
  have uF:=af hno
  clear hno
  by_cases hlt:k<n
  ·obtain⟨x,hx⟩:∃x,gs[k]? =some x:=⟨_,List.getElem?_eq_getElem (by rw[Hn.out];exact hlt)⟩
   obtain⟨g,off,rfl,_⟩:=Hg.out (by rw[Hn.out];omega)
   have x0:w.cell? ⟨g,off+k*5,none⟩=some (.int .i64 x.f.id):=HK.out.at Hn.out.symm hx 0 _ rfl
   have hxf:(gs.map (·.f))[k]? =some x.f:=by rw[List.getElem?_map,hx];rfl
   have Hxf:=af hxf
   have lU:(k:Int)<(n:Int):=by omega
   have hk0:¬(k:Int)<0:=by omega
   clear hx hxf
   by_cases he:x.f.id=id
   ·have HV:Hid (iP id (gs.map (·.f))=(k:Int)):=I8 uF.out Hxf.out he
    go_wp2
    go_ret
    exact⟨by rw[HV.out];rfl,rfl⟩
   ·have PW:(x.f.id==id)=false:=by simpa using he
    go_wp2
    go_round
    case rel=>exact⟨k+1,by omega,by go_num,λj y hj hy=>by
     by_cases e:j=k
     ·subst e;rw[Hxf.out]at hy;rw[<-Option.some.inj hy];exact he
     ·exact uF.out j y (by omega) hy⟩
    case measure=>simp[intOf];omega
  ·have lU:¬(k:Int)<(n:Int):=by omega
   obtain rfl:k=n:=by omega
   have HV:Hid (iP id (gs.map (·.f))= -1):=EF λj y hj hy=>uF.out j y (by rw[List.length_map,Hn.out]at hj;exact hj) hy
   go_wp2
   go_ret
   exact⟨by rw[HV.out];rfl,rfl⟩
def qU(room:Int):List Value:=[.int .i64 room,.slice none 0 0,.slice none 0 0,.slice none 0 0,.slice none 0 0,.slice none 0 0,.int .i64 0,.int .i64 0,.int .i64 0,.int .i64 0,
 .slice none 0 0,.int .i64 0,.int .i64 0,.slice none 0 0,.slice none 0 0,.slice none 0 0,.int .i64 0,.int .i64 0,.slice none 0 0,.slice none 0 0,
 .slice none 0 0,.int .i64 0,.int .i64 0,.slice none 0 0,.slice none 0 0,.slice none 0 0,.int .i64 0,.int .i64 0,.slice none 0 0,.slice none 0 0,.int .i64 (-1)]
theorem NG(room:Int)(h0:0<=room)(h8:room<=8)(w:World):Calls prog 110 #[.int .i64 room] w λe w'=>e=.returned (.tuple #[.pointer (some ⟨w.heap.size,0,none⟩),.int .i64 0])/\w'=w.alloc (.cells (qU room).toArray 218):=by
 have a1:¬room<0:=by omega
 have a2:¬room>8:=by omega
 unfold qU
 go_enter func110,ntmps110
 go_wp2
 go_ret2
 exact⟨rfl,rfl⟩
theorem Qz(room:Int)(h:room<0\/8<room)(w:World):Calls prog 110 #[.int .i64 room] w λe w'=>e=.returned (.tuple #[.pointer none,.int .i64 1])/\w'=w:=by
 by_cases a1:room<0
 ·go_enter func110,ntmps110
  go_wp2
  go_ret2
  exact⟨rfl,rfl⟩
 ·have a2:room>8:=by omega
  go_enter func110,ntmps110
  go_wp2
  go_ret2
  exact⟨rfl,rfl⟩
end
end Go.Proofs.YtenaepdmlknlcaaGreatDoor
