import Derived.Test.YtenaepdmlknlcaaGreatDoorG21
open Go.Proofs.Tryz
set_option maxRecDepth 100000
set_option maxHeartbeats 8000000
namespace Go.Proofs.YtenaepdmlknlcaaGreatDoor
section
open Go.RowKit Go.Shelf
theorem vK{us vs:List FV}{p c r:Int}(h:∀k,k<64->jB us p c r k=jB vs p c r k):iO us p c r=iO vs p c r:=by
 unfold iO
 rw[Av,Av]
 congr 3
 exact List.map_congr_left λk hk=>h k (by simpa using hk)
def N7(t:Tl)(f:aW):Bool:=cV (eT t) (aD f.ps)
variable {t:Tl} {k:Nat}
theorem Fz(_h:t.good)(hk:k<64){v:FV}(hm:eG (dX (pZ t.z) t.c t.r k) v=true):N7 t v.f=true:=by
 have hp:0<pZ t.z:=by unfold pZ;split<;>(try split)<;>(try split)<;>omega
 unfold eG cQ dX at hm
 unfold N7 cV cQ eT
 rw[decide_eq_true_eq]at hm⊢
 dsimp only at hm⊢
 obtain⟨h1,h2,h3,h4⟩:=hm
 have b1:0<=(k:Int)%8*pZ t.z:=Int.mul_nonneg (by omega) (by omega)
 have b2:0<=(k:Int)/8*pZ t.z:=Int.mul_nonneg (by omega) (by omega)
 have b3:(k:Int)%8*pZ t.z<=7*pZ t.z:=Int.mul_le_mul_of_nonneg_right (by omega) (by omega)
 have b4:(k:Int)/8*pZ t.z<=7*pZ t.z:=Int.mul_le_mul_of_nonneg_right (by omega) (by omega)
 refine⟨by omega,by omega,by omega,by omega⟩
theorem JM{p c r:Int}(hp:0<=p)(k:Nat):(dX p c r k).l<=(dX p c r k).r/\(dX p c r k).t<=(dX p c r k).b:=by
 simp only[dX];omega
variable {fs:List aW}
theorem sY(hv:∀f∈fs,aj f=true)(h:t.good):aX fs t=aX (fs.filter (N7 t)) t:=by
 have hp:0<=pZ t.z:=by unfold pZ;split<;>(try split)<;>(try split)<;>omega
 unfold aX BZ
 congr 2
 apply vK
 intro k hk
 obtain⟨o1,o2⟩:=JM (c:=t.c) (r:=t.r) hp k
 unfold jB
 rw[<-p_ _ (fs.map mkV) (λv hv'=>by obtain⟨f,hf,rfl⟩:=List.mem_map.1 hv';exact hv f hf) o1 o2,
  <-p_ _ ((fs.filter (N7 t)).map mkV) (λv hv'=>by obtain⟨f,hf,rfl⟩:=List.mem_map.1 hv';exact hv f (List.mem_filter.1 hf).1) o1 o2]
 congr 3
 rw[List.filter_map,List.filter_map,List.filter_filter]
 congr 1
 apply List.filter_congr
 intro f _
 show eG _ (mkV f)=(eG _ (mkV f)&&N7 t f)
 cases hm:eG (dX (pZ t.z) t.c t.r k) (mkV f)with
 |false=>rfl
 |true=>rw[show N7 t f=true from Fz h hk hm];rfl
theorem IC{fs gs:List aW}(hf:∀f∈fs,aj f=true)(hg:∀f∈gs,aj f=true){t:Tl}(h:t.good)(e:fs.filter (N7 t)=gs.filter (N7 t)):aX fs t=aX gs t:=by
 rw[sY hf h,sY hg h,e]
theorem IB{fs gs:List aW}(hd:kg fs)(hp:gs.Perm fs)(t:Tl):aX gs t=aX fs t:=by
 unfold aX BZ
 congr 2
 apply vK
 intro k _
 unfold jB
 rw[DG _ (hp.map mkV)]
 intro a ha b hb
 obtain⟨f,hf,rfl⟩:=List.mem_map.1 ha
 obtain⟨g,hg,rfl⟩:=List.mem_map.1 hb
 by_cases e:f.id=g.id
 ·left
  have h1:=qC hd hf
  have h2:=qC hd hg
  rw[e,h2]at h1
  rw[Option.some.inj h1]
 ·exact .inr e
def Ng(fs:List aW)(id:Int)(p:Option aW):List aW:=(fs.filter λf=>!(f.id==id))++p.toList
theorem sX{fs:List aW}(hf:Bl fs){id:Int}{p:Option aW}(hp:oX id p){t:Tl}(h:t.good)(hh:dW (bw p fs id) t=false):aX (Ng fs id p) t=aX fs t:=by
 have ha:∀f∈p.toList++(findF id fs).toList,N7 t f=false:=by
  intro f hm
  unfold dW bw at hh
  rw[List.any_eq_false]at hh
  have:=hh (aD f.ps) (List.mem_map_of_mem hm)
  unfold N7
  simpa using this
 have e1:p.toList.filter (N7 t)=[]:=by
  rw[List.filter_eq_nil_iff]
  intro f hm
  rw[ha f (List.mem_append_left _ hm)];simp
 refine IC (hf.finish hp).valid hf.valid h ?_
 rw[List.filter_append,e1,List.append_nil,List.filter_filter]
 apply List.filter_congr
 intro f hm
 by_cases e:f.id=id
 ·have:=ha f (List.mem_append_right _ (by rw[<-e,qC hf.EC hm];simp))
  rw[this];rfl
 ·simp[e]
theorem DC(h:t.good){z:Nat}(hz:t.z=(z:Int))(h3:z<=3):t∈aR z:=by
 unfold Tl.good cC at h
 rw[decide_eq_true_eq]at h
 obtain⟨_,_,c0,c1,r0,r1⟩:=h
 have hm:cL t.z=(bh z:Int):=by
  rw[hz]
  match z,h3 with
  |0,_=>rfl
  |1,_=>rfl
  |2,_=>rfl
  |3,_=>rfl
 rw[hm]at c1 r1
 obtain⟨tz,c,r⟩:=t
 dsimp only at *
 obtain⟨cn,rfl⟩:∃n:Nat,c=n:=⟨c.toNat,by omega⟩
 obtain⟨rn,rfl⟩:∃n:Nat,r=n:=⟨r.toNat,by omega⟩
 have hc:cn<bh z:=by omega
 have hr:rn<bh z:=by omega
 unfold aR
 refine List.mem_map.2 ⟨rn*bh z+cn,?_,?_⟩
 ·rw[List.mem_range]
  have:(rn+1)*bh z<=bh z*bh z:=Nat.mul_le_mul_right _ hr
  rw[Nat.add_mul]at this
  omega
 ·unfold A5
  rw[hz,Nat.mul_comm,Nat.mul_add_mod,Nat.mod_eq_of_lt hc,Nat.mul_add_div (by omega),Nat.div_eq_of_lt hc,Nat.add_zero]
def iA(ks:List Kp):Prop:=(ks.map (·.t)).Nodup
variable {ks:List Kp} {i:Nat}
theorem nQ(h:iA ks)(e:bO t ks=some i):∀x∈ks.eraseIdx i,x.t≠t:=by
 obtain⟨k,hk,hkt⟩:=lF e
 obtain⟨hi,hk'⟩:=List.getElem?_eq_some_iff.1 hk
 intro x hx hxt
 obtain⟨j,hj,hne⟩:=List.mem_eraseIdx_iff_getElem?.1 hx
 have hd:=h
 unfold iA at hd
 have h1:(ks.map (·.t))[i]? =some t:=by rw[List.getElem?_map,hk];simp[hkt]
 have h2:(ks.map (·.t))[j]? =some t:=by rw[List.getElem?_map,hne];simp[hxt]
 obtain⟨l2,_⟩:=List.getElem?_eq_some_iff.1 h2
 exact hj ((List.getElem?_inj l2 hd).1 (h2.trans h1.symm))
theorem xk(h:iA ks)(i:Nat):iA (ks.eraseIdx i):=by
 unfold iA at h⊢
 exact h.sublist ((List.eraseIdx_sublist ks i).map _)
theorem sj(h:iA ks):iA (cP t ks)/\∀x∈cP t ks,x∈ks/\x.t≠t:=by
 unfold cP
 cases e:bO t ks with
 |none=>
  refine⟨h,λx hx=>⟨hx,λht=>?_⟩⟩
  unfold bO at e
  rw[List.findIdx?_eq_none_iff]at e
  have:=e x hx
  simp[ht]at this
 |some i=>exact⟨xk h i,λx hx=>⟨List.mem_of_mem_eraseIdx hx,nQ h e x hx⟩⟩
theorem zM(h:iA ks){b:ByteArray}(hn:∀x∈ks,x.t≠t):iA (ks++[⟨t,b⟩]):=by
 unfold iA at *
 rw[List.map_append,List.nodup_append]
 refine⟨h,by simp,?_⟩
 intro a ha b' hb e
 obtain⟨x,hx,rfl⟩:=List.mem_map.1 ha
 simp at hb
 exact hn x hx (e.trans hb)
variable {room:Int}
theorem Js{b:ByteArray}(h:iA ks):iA (fQ room t b ks):=by
 obtain⟨h1,h2⟩:=sj (t:=t) h
 have h3:=zM (b:=b) h1 (λx hx=>(h2 x hx).2)
 unfold fQ
 split
 ·unfold iA at h3⊢
  exact h3.sublist ((List.drop_sublist 1 _).map _)
 ·exact h3
variable {ks':List Kp}
theorem Ol{b:ByteArray}(h:iA ks)(e:oP t ks=some (b,ks')):iA ks'/\(∀x∈ks',x∈ks)/\⟨t,b⟩∈ks:=by
 obtain⟨i,k,h1,h2,rfl,rfl⟩:=oG e
 obtain⟨k',h3,h4⟩:=lF h1
 rw[h2]at h3
 obtain rfl:=Option.some.inj h3
 have hk:(⟨t,k.body⟩:Kp)=k:=by rw[<-h4]
 have hm:k∈ks:=List.mem_of_getElem? h2
 refine⟨zM (xk h i) (nQ h h1),λx hx=>?_,by rw[hk];exact hm⟩
 rcases List.mem_append.1 hx with hx|hx
 ·exact List.mem_of_mem_eraseIdx hx
 ·rw[List.mem_singleton.1 hx,hk];exact hm
theorem nh(bs:List Bx)(k:Nat):∀(ts:List Tl) (ks:List Kp),iA ks->iA (bW bs k ts ks)/\∀x∈bW bs k ts ks,x∈ks/\∀t∈ts,dW bs t=true->az t=k->x.t≠t
 |[],ks,h=>⟨h,λx hx=>⟨hx,λt ht=>by cases ht⟩⟩
 |t::ts,ks,h=>by
  show iA (bW bs k ts (if dW bs t=true/\az t=k then cP t ks else ks))/\∀x∈bW bs k ts (if dW bs t=true/\az t=k then cP t ks else ks),_
  by_cases hc:dW bs t=true/\az t=k
  ·rw[if_pos hc]
   obtain⟨d1,d2⟩:=sj (t:=t) h
   obtain⟨h1,h2⟩:=nh bs k ts _ d1
   refine⟨h1,λx hx=>?_⟩
   obtain⟨a1,a2⟩:=h2 x hx
   obtain⟨b1,b2⟩:=d2 x a1
   refine⟨b1,λu hu hh hs=>?_⟩
   rcases List.mem_cons.1 hu with rfl|hu
   ·exact b2
   ·exact a2 u hu hh hs
  ·rw[if_neg hc]
   obtain⟨h1,h2⟩:=nh bs k ts ks h
   refine⟨h1,λx hx=>?_⟩
   obtain⟨a1,a2⟩:=h2 x hx
   refine⟨a1,λu hu hh hs=>?_⟩
   rcases List.mem_cons.1 hu with rfl|hu
   ·exact absurd ⟨hh,hs⟩ hc
   ·exact a2 u hu hh hs
def s6:Option mz->Option (Int×Option aW×Nat)
 |some (.forget id p z)=>some (id,p,z)
 |some (.finish id p)=>some (id,p,4)
 |_=>none
theorem qw{s:Option mz}{x:Int×Option aW×Nat}(h:s6 s=some x):cz s=true:=by
 unfold s6 at h
 split at h
 ·rfl
 ·rfl
 ·cases h
structure Eb(g:Gr):Prop where
 u:∀k,k<4->iA (g.S.ks k)
 t:∀k x,k<4->x∈g.S.ks k->x.t.good/\az x.t=k
 b:∀k x,k<4->x∈g.S.ks k->x.body=aX g.fs x.t
def ve(g:Gr)(s:Option mz):Prop:=∀id p z,s6 s=some (id,p,z)->∀k x,k<4->x∈g.S.ks k->x.t.z<(z:Int)->dW (bw p g.fs id) x.t=false
def eJ(g:Gr)(ss:Nat->Option mz):Option mz->Prop
 |some (.note t _ ag)=>ag<=g.S.aG (az t)
 |some (.draw t _ ag fs)=>ag<=g.S.aG (az t)/\(g.S.aG (az t)=ag->aX fs t=aX g.fs t/\∀m,m<4->∀id p z,s6 (ss m)=some (id,p,z)->t.z<(z:Int)->dW (bw p g.fs id) t=false)
 |_=>True
structure Inv(a:fW)(T:Int):Prop where
 aG:∀k,k<4->0<=a.g.S.aG k/\a.g.S.aG k<=T
 kept:Eb a.g
 gone:∀n,n<4->ve a.g (a.ss n).nx
 note:∀n,n<4->eJ a.g (λm=>(a.ss m).nx) (a.ss n).nx
variable {ss ss':Nat->Option mz}
theorem eJ.other{g:Gr}{s:Option mz}(h:eJ g ss s)(hc:∀m,m<4->∀id p z,s6 (ss' m)=some (id,p,z)->0<z->s6 (ss m)=some (id,p,z))(hs:∀st,s=some st->jP st):eJ g ss' s:=by
 unfold eJ at *
 split
 ·exact h
 ·rename_i t m ag fs
  refine⟨h.1,λe=>⟨(h.2 e).1,λm hm id p z hz hl=>?_⟩⟩
  have hg:=(hs _ rfl).1
  unfold Tl.good cC at hg
  rw[decide_eq_true_eq]at hg
  exact(h.2 e).2 m hm id p z (hc m hm id p z hz (by omega)) hl
 ·trivial
theorem Nh(r:Int):Inv (oM r) 0:=
 ⟨λk _=>⟨Int.le_refl 0,Int.le_refl 0⟩,⟨λk _=>List.nodup_nil,λk x _ h=>(by cases h),λk x _ h=>(by cases h)⟩,λn _ id p z h=>(by cases h),λn _=>trivial⟩
structure kL where
 q:List Rd
 step:Nat
 aG:Int
 nt:List aW
 an:List ByteArray
structure dw where
 room:Int
 all:List aW
 sh:Nat->List Kp
 aG:Nat->Int
 ss:Nat->kL
 lock:Int
def cj(t:Tl)(ks:List Kp):List Kp:=ks.filter λk=>!decide (k.t=t)
def iZ(room:Int)(t:Tl)(b:ByteArray)(ks:List Kp):List Kp:=if room<((cj t ks).length:Int)+1 then(cj t ks++[(⟨t,b⟩:Kp)]).drop 1 else cj t ks++[(⟨t,b⟩:Kp)]
def dw.fH(R:dw)(k:Nat)(ks:List Kp):dw:={R with sh:=λj=>if j=k then ks else R.sh j}
def dw.gC(R:dw)(n:Nat)(s:kL):dw:={R with ss:=λj=>if j=n then s else R.ss j}
def kL.answer(s:kL)(x:ByteArray):kL:={s with q:=s.q.drop 1,step:=0,nt:=[],an:=s.an++[x]}
def dF(R:dw)(n:Nat)(x:ByteArray):dw:=R.gC n ((R.ss n).answer x)
def rU(ks:List Kp)(i:Nat):ByteArray:=((ks[i]?).map (·.body)).getD ⟨#[]⟩
def jF(R:dw)(n:Nat)(t:Tl)(m:ByteArray):Bool×dw:=match(R.ss n).step with
 |0=>(match bO t (R.sh (az t))with
  |some i=>(true,dF (R.fH (az t) (iZ R.room t (rU (R.sh (az t)) i) (R.sh (az t)))) n (bQ m (rU (R.sh (az t)) i)))
  |none=>(true,R.gC n {R.ss n with aG:=R.aG (az t),step:=1}))
 |1=>if 0<=R.lock then(false,R)else(true,R.gC n {R.ss n with nt:=(R.ss n).nt++R.all,step:=2})
 |_=>(true,dF (if R.aG (az t)=(R.ss n).aG then R.fH (az t) (iZ R.room t (aX (R.ss n).nt t) (R.sh (az t)))else R) n (bQ m (aX (R.ss n).nt t)))
def aQ(z:Nat):List Tl:=(List.range (bh z*bh z)).map λn=>⟨(z:Int),((n/bh z:Nat):Int),((n%bh z:Nat):Int)⟩
def cY(bs:List Bx)(k:Nat)(ts:List Tl)(ks:List Kp):List Kp:=ts.foldl (λks t=>if dW bs t=true/\az t=k then cj t ks else ks) ks
def rq(R:dw)(z:Nat)(bs:List Bx):dw:={R with sh:=λk=>cY bs k (aQ z) (R.sh k),aG:=λk=>if aL bs k (aQ z)=true then IntKind.i64.wrap (R.aG k+1)else R.aG k}
def AV(f:aW):List aW->List aW
 |[]=>[f]
 |g::l=>if f.id<g.id then f::g::l else g::AV f l
def mF(l:List aW)(id:Int)(p:Option aW):List aW:=match p with
 |none=>l.filter λf=>!(f.id==id)
 |some f=>AV f (l.filter λf=>!(f.id==id))
def b_(R:dw)(n:Nat)(id:Int)(p:Option aW):Bool×dw:=
 if(R.ss n).step=0 then(if 0<=R.lock then(false,R)else(true,{R with lock:=n}.gC n {R.ss n with step:=1}))
 else if(R.ss n).step<=4 then(true,(rq R ((R.ss n).step-1) (bw p R.all id)).gC n {R.ss n with step:=(R.ss n).step+1})
 else(true,dF {R with all:=mF R.all id p,lock:= -1} n (pM (eV id R.all) p))
def dJ(R:dw)(n:Nat):Bool×dw:=match(R.ss n).q with
 |[]=>(false,R)
 | .bad::_=>(true,dF R n FR)
 | .get t m::_=>jF R n t m
 | .put f::_=>b_ R n f.id (some f)
 | .del id::_=>b_ R n id none
def Dk(R:dw)(n:Nat)(x:ByteArray):dw:=R.gC n {R.ss n with q:=(R.ss n).q++[cm x]}
def GX(R:dw)(n:Nat):dw:=R.gC n {R.ss n with an:=[]}
def JX(room:Int):dw:=⟨room,[],λ_=>[],λ_=>0,λ_=>⟨[],0,0,[],[]⟩,-1⟩
def sO(l:List aW):Prop:=l.Pairwise λf g=>f.id<g.id
def UA(id:Int):Option aW->Rd
 |none=> .del id
 |some f=> .put f
def C5(s:kL)(q:List ByteArray):Option mz->Prop
 |none=>s.q=q.map cm/\s.step=0/\s.nt=[]
 |some .bad=>False
 |some (.look _ _)=>False
 |some (.note t m aG)=>s.q=.get t m::q.map cm/\s.step=1/\s.nt=[]/\s.aG=aG
 |some (.draw t m aG fs)=>s.q=.get t m::q.map cm/\s.step=2/\s.aG=aG/\s.nt.Perm fs
 |some (.lock id p)=>s.q=UA id p::q.map cm/\s.step=0/\s.nt=[]
 |some (.forget id p z)=>s.q=UA id p::q.map cm/\s.step=z+1/\s.nt=[]
 |some (.finish id p)=>s.q=UA id p::q.map cm/\s.step=5/\s.nt=[]
structure Rel(a:fW)(R:dw):Prop where
 room:R.room=a.g.S.room
 ids:sO R.all
 all:R.all.Perm a.g.fs
 sh:∀k,k<4->R.sh k=a.g.S.ks k
 aG:∀k,k<4->R.aG k=a.g.S.aG k
 an:∀n,n<4->(R.ss n).an=(a.ss n).an
 now:∀n,n<4->C5 (R.ss n) (a.ss n).q (a.ss n).nx
 lock:0<=R.lock↔a.g.lk=true
theorem yQ(h:iA ks):cj t ks=cP t ks:=by
 unfold cj cP
 cases hi:bO t ks with
 |none=>
  dsimp only
  rw[List.filter_eq_self]
  intro x hx
  unfold bO at hi
  rw[List.findIdx?_eq_none_iff]at hi
  have:=hi x hx
  simpa using this
 |some i=>
  dsimp only
  have hu:=nQ h hi
  obtain⟨k,hk,hkt⟩:=lF hi
  have e1:ks=ks.take i++k::ks.drop (i+1):=by
   obtain⟨hlt,he⟩:=List.getElem?_eq_some_iff.1 hk
   rw[<-he,List.getElem_cons_drop,List.take_append_drop]
  have e2:ks.eraseIdx i=ks.take i++ks.drop (i+1):=List.eraseIdx_eq_take_drop_succ ks i
  rw[e2]at hu⊢
  conv=>lhs;rw[e1]
  rw[List.filter_append,List.filter_cons,if_neg (by simp[hkt])]
  rw[List.filter_eq_self.2 (λx hx=>by simpa using hu x (by simp[hx])),List.filter_eq_self.2 (λx hx=>by simpa using hu x (by simp[hx]))]
theorem y_{b:ByteArray}(h:iA ks):iZ room t b ks=fQ room t b ks:=by
 unfold iZ fQ
 rw[yQ h]
theorem Ok{ks ks':List Kp}{b:ByteArray}(h:iA ks)(hl:(ks.length:Int)<=room)(e:oP t ks=some (b,ks')):∃i,bO t ks=some i/\rU ks i=b/\iZ room t b ks=ks':=by
 obtain⟨i,k,hi,hk,hb,hks⟩:=oG e
 have hlt:i<ks.length:=(List.getElem?_eq_some_iff.1 hk).1
 have hd:cP t ks=ks.eraseIdx i:=by unfold cP;rw[hi]
 have hlen:(ks.eraseIdx i).length=ks.length-1:=by rw[List.length_eraseIdx,if_pos hlt]
 refine⟨i,hi,by unfold rU;rw[hk,hb];rfl,?_⟩
 rw[y_ h]
 unfold fQ
 rw[hd,if_neg (by rw[hlen];omega),hks,hb]
theorem gi(bs:List Bx)(k:Nat):∀(ts:List Tl) (ks:List Kp),cY bs k ts ks=ks.filter λx=>!(ts.any λt=>dW bs t&&decide (az t=k)&&decide (x.t=t))
 |[],ks=>by
  show ks=_
  rw[List.filter_eq_self.2 (λx _=>by simp)]
 |t::ts,ks=>by
  show cY bs k ts (if dW bs t=true/\az t=k then cj t ks else ks)=_
  rw[gi bs k ts]
  by_cases h:dW bs t=true/\az t=k
  ·rw[if_pos h]
   unfold cj
   rw[List.filter_filter]
   refine List.filter_congr λx _=>?_
   rw[List.any_cons,h.1,decide_eq_true h.2]
   simp[Bool.and_comm]
  ·rw[if_neg h]
   refine List.filter_congr λx _=>?_
   have h2:(dW bs t&&decide (az t=k))=false:=by
    rw[Bool.eq_false_iff]
    intro e
    rw[Bool.and_eq_true,decide_eq_true_eq]at e
    exact h e
   rw[List.any_cons,h2]
   simp
theorem wk(bs:List Bx)(k:Nat):∀(ts:List Tl) (ks:List Kp),iA ks->bW bs k ts ks=ks.filter λx=>!(ts.any λt=>dW bs t&&decide (az t=k)&&decide (x.t=t)):=λts ks h=>by
 rw[<-gi]
 unfold bW cY
 induction ts generalizing ks with
 |nil=>rfl
 |cons t ts ih=>
  simp only[List.foldl_cons]
  by_cases hh:dW bs t=true/\az t=k
  ·rw[if_pos hh,if_pos hh,yQ h]
   exact ih _ (sj h).1
  ·rw[if_neg hh,if_neg hh]
   exact ih _ h
variable {z:Nat}
theorem xh(hz:z<=3)(t:Tl):t∈aQ z↔t∈aR z:=by
 have hc:bh z=1\/bh z=2\/bh z=4\/bh z=8:=by
  unfold bh
  match z,hz with
  |0,_=>exact .inl rfl
  |1,_=>exact .inr (.inl rfl)
  |2,_=>exact .inr (.inr (.inl rfl))
  |3,_=>exact .inr (.inr (.inr rfl))
 unfold aQ aR A5
 simp only[List.mem_map,List.mem_range]
 constructor
 ·rintro⟨n,hn,rfl⟩
  rcases hc with e|e|e|e<;>rw[e]at hn⊢
  ·exact⟨n,hn,by simp;omega⟩
  ·exact⟨n%2*2+n/2,by omega,by congr 2<;>omega⟩
  ·exact⟨n%4*4+n/4,by omega,by congr 2<;>omega⟩
  ·exact⟨n%8*8+n/8,by omega,by congr 2<;>omega⟩
 ·rintro⟨n,hn,rfl⟩
  rcases hc with e|e|e|e<;>rw[e]at hn⊢
  ·exact⟨n,hn,by simp;omega⟩
  ·exact⟨n%2*2+n/2,by omega,by congr 2<;>omega⟩
  ·exact⟨n%4*4+n/4,by omega,by congr 2<;>omega⟩
  ·exact⟨n%8*8+n/8,by omega,by congr 2<;>omega⟩
variable {α:Type}
theorem vI{l m:List α}(h:∀x,x∈l↔x∈m)(p:α->Bool):l.any p=m.any p:=by
 rw[Bool.eq_iff_iff,List.any_eq_true,List.any_eq_true]
 exact⟨λ⟨x,hx,hp⟩=>⟨x,(h x).1 hx,hp⟩,λ⟨x,hx,hp⟩=>⟨x,(h x).2 hx,hp⟩⟩
variable {bs:List Bx}
theorem Cp(hz:z<=3)(h:iA ks):cY bs k (aQ z) ks=bW bs k (aR z) ks:=by
 rw[gi,wk _ _ _ _ h]
 refine List.filter_congr λx _=>?_
 rw[vI (xh hz)]
theorem Fo(hz:z<=3):aL bs k (aQ z)=aL bs k (aR z):=by
 unfold aL
 rw[vI (xh hz)]
theorem Mh{id:Int}{l m:List aW}(h:l.Perm m):eV id l=eV id m:=by
 unfold eV
 exact vI (λx=>h.mem_iff) _
theorem Gu:∀{m:List aW},kg m->∀{f g:aW},f∈m->g∈m->f.id=g.id->f=g
 |[],_,f,g,hf,_,_=>by cases hf
 |x::m,h,f,g,hf,hg,e=>by
  unfold kg at h
  rw[List.map_cons,List.nodup_cons]at h
  rcases List.mem_cons.1 hf with e1|iL<;>rcases List.mem_cons.1 hg with e2|hg1
  ·rw[e1,e2]
  ·rw[e1]at e;exact absurd (List.mem_map.2 ⟨g,hg1,e.symm⟩) h.1
  ·rw[e2]at e;exact absurd (List.mem_map.2 ⟨f,iL,e⟩) h.1
  ·exact Gu h.2 iL hg1 e
theorem I9{id:Int}{l m:List aW}(h:l.Perm m)(hd:kg m):findF id l=findF id m:=by
 have TX:kg l:=by unfold kg at *;exact(h.map _).nodup_iff.2 hd
 unfold findF
 cases e:l.find? (λf=>f.id==id)with
 |none=>
  symm
  rw[List.find?_eq_none]at e⊢
  exact λx hx=>e x (h.mem_iff.2 hx)
 |some f=>
  have hf:=List.find?_some e
  have hm:=h.mem_iff.1 (List.mem_of_find?_eq_some e)
  cases e':m.find? (λf=>f.id==id)with
  |none=>
   rw[List.find?_eq_none]at e'
   exact absurd hf (e' f hm)
  |some g=>
   have hg:=List.find?_some e'
   have hm':=List.mem_of_find?_eq_some e'
   have:f.id=g.id:=by simp at hf hg;omega
   rw[Gu hd hm hm' this]
variable {p:Option aW}
theorem Ex{id:Int}{l m:List aW}(h:l.Perm m)(hd:kg m):bw p l id=bw p m id:=by
 unfold bw
 rw[I9 h hd]
theorem qL(f:aW):∀l:List aW,(AV f l).Perm (l++[f])
 |[]=>List.Perm.refl _
 |g::l=>by
  unfold AV
  split
  ·exact(List.perm_append_singleton f (g::l)).symm
  ·exact(qL f l).cons g
variable {f:aW}
theorem MP:∀{l:List aW},sO l->(∀g∈l,g.id≠f.id)->sO (AV f l)
 |[],_,_=>List.pairwise_singleton _ _
 |g::l,h,hn=>by
  unfold AV
  unfold sO at h
  rw[List.pairwise_cons]at h
  split
  ·rename_i hlt
   refine List.pairwise_cons.2 ⟨λx hx=>?_,List.pairwise_cons.2 h⟩
   rcases List.mem_cons.1 hx with rfl|hx
   ·exact hlt
   ·have:=h.1 x hx;omega
  ·rename_i hlt
   have hne:=hn g (by simp)
   refine List.pairwise_cons.2 ⟨λx hx=>?_,MP h.2 (λy hy=>hn y (by simp[hy]))⟩
   have:=(qL f l).mem_iff.1 hx
   rw[List.mem_append,List.mem_singleton]at this
   rcases this with hx|rfl
   ·exact h.1 x hx
   ·omega
theorem IX{l m:List aW}(h:l.Perm m)(id:Int)(p:Option aW):(mF l id p).Perm ((m.filter λf=>!(f.id==id))++p.toList):=by
 unfold mF
 cases p with
 |none=>simpa using h.filter _
 |some f=>exact(qL f _).trans ((h.filter _).append_right _)
theorem PD{l:List aW}(h:sO l){id:Int}(hp:∀f,p=some f->f.id=id):sO (mF l id p):=by
 unfold mF
 have h1:sO (l.filter λf=>!(f.id==id)):=List.Pairwise.filter _ h
 cases p with
 |none=>exact h1
 |some f=>
  refine MP h1 λg hg=>?_
  have:=(List.mem_filter.1 hg).2
  rw[hp f rfl]
  simpa using this
variable {w w':World}
theorem Below.iF{B:Nat}(h:Below B w w')(n:Nat):Below B w (w'.drewN n):=⟨h.os,h.tape,h.output,h.size,h.block⟩
theorem eD(t:Tl)(ht:t.ok)(w:World):Calls prog 146 #[.agg #[.int .i64 t.z,.int .i64 t.c,.int .i64 t.r]] w λe w'=>e=.returned (.int .i64 (az t:Int))/\Below w.heap.size w w':=by
 obtain⟨h1,h2,h3,h4,h5,h6⟩:=ht
 obtain⟨q,hq⟩:∃q:Nat,az t=q:=⟨_,rfl⟩
 have DW:(t.z+t.c+t.r)%4=(q:Int):=by unfold az at hq;omega
 have Zs:(t.z+t.c+t.r).tmod 4=(q:Int):=by rw[Int.tmod_eq_emod_of_nonneg (by omega)];exact DW
 have hw1:IntKind.i64.wrap (t.z+t.c)=t.z+t.c:=by rw[IntKind.wrap_i64];omega
 have hw2:IntKind.i64.wrap (t.z+t.c+t.r)=t.z+t.c+t.r:=by rw[IntKind.wrap_i64];omega
 rw[hq]
 obtain⟨z,c,r⟩:=t
 dsimp only at *
 clear hq
 go_enter func146,ntmps146
 go_wp2
 go_ret
 exact⟨by first|rfl|(congr 2;omega),aU⟩
theorem sJ(m body:ByteArray)(hb:body.size<=1000)(z c r:Int)(w:World):Calls prog 148 #[.agg #[.int .i64 1,.int .i64 z,.int .i64 c,.int .i64 r,.string m,.int .i64 0,.int .i64 0,.int .i64 0,.int .i64 0,.slice none 0 0],.string body] w λe w'=>e=.returned (.string (bQ m body))/\Below w.heap.size w w':=by
 have HM:Hid (∀W:World,Calls prog 65 #[.string body] W λe w'=>e=.returned (.string (ld body))/\Below W.heap.size W w'):=λW=>(JW body W (by omega)).mono λe w' ⟨he,q,hq⟩=>⟨he,by rw[hq];exact below_drewN bK q⟩
 have HT:Hid (bQ m body=if(m.toList==(ld body).toList)=true then⟨#[51,48,52,32]⟩++ld body else⟨#[50,48,48,32]⟩++ld body++⟨#[32]⟩++body):=rfl
 obtain⟨ms,Zh⟩:∃x,ld body=x:=⟨_,rfl⟩
 have Zi:ms.size=8:=by rw[<-Zh];exact wN body
 have hs1:¬9223372036854775807<4+ms.size:=by omega
 have hs2:¬9223372036854775807<4+ms.size+1:=by omega
 have hs3:¬9223372036854775807<4+ms.size+1+body.size:=by omega
 rw[Zh]at HM HT
 clear Zh Zi
 have hB0:∀o:Obj,Below w.heap.size w (w.alloc o):=λo=>aU
 cases he:(m.toList==ms.toList)with
 |true=>
  rw[he,if_pos rfl]at HT
  rw[HT.out]
  clear HT
  go_enter func148,ntmps148
  go_wp2_with (go_at_call 65;refine aq (HM.out _) ?_;rintro e w1 ⟨rfl,hb1⟩;dsimp only;have c4:w1.cell? ⟨w.heap.size,4,none⟩=some (.string m):=(hb1.cell (p:=⟨w.heap.size,4,none⟩) (by simp)).trans (by simp[go_sem]);have eO:Hid (Below w.heap.size w w1):=(hB0 _).trans (hb1.mono (by simp));clear hb1)
  go_ret
  exact⟨rfl,eO.out⟩
 |false=>
  rw[he,if_neg (by decide)]at HT
  rw[HT.out]
  clear HT
  go_enter func148,ntmps148
  go_wp2_with (go_at_call 65;refine aq (HM.out _) ?_;rintro e w1 ⟨rfl,hb1⟩;dsimp only;have c4:w1.cell? ⟨w.heap.size,4,none⟩=some (.string m):=(hb1.cell (p:=⟨w.heap.size,4,none⟩) (by simp)).trans (by simp[go_sem]);have eO:Hid (Below w.heap.size w w1):=(hB0 _).trans (hb1.mono (by simp));clear hb1)
  go_ret
  exact⟨rfl,eO.out⟩
structure KR(w:World)(A k:Nat)(v:Value)(ks:List Kp):Prop where
 c:w.cell? ⟨A,2+k,none⟩=some v
 f:w.frozen? ⟨A,2+k,none⟩=false
 own:ak w 0 261 4 v ks.length (bz ks)
 ne:v.ownBlock≠some A
theorem Cl:∀{ks:List Kp} {i:Nat} {x:Kp},ks[i]? =some x->∀j,j<4->(bz ks)[i*4+j]? =([.int .i64 x.t.z,.int .i64 x.t.c,.int .i64 x.t.r,.string x.body]:List Value)[j]?
 |[],i,x,h,_,_=>by simp at h
 |y::ks,0,x,h,j,hj=>by
  simp at h;subst h
  match j,hj with
  |0,_=>rfl
  |1,_=>rfl
  |2,_=>rfl
  |3,_=>rfl
 |y::ks,i+1,x,h,j,hj=>by
  have:=Cl (ks:=ks) (i:=i) (x:=x) (by simpa using h) j hj
  rw[<-this,show(i+1)*4+j=(i*4+j)+4 by omega]
  rfl
theorem KR.below{A k:Nat}{v:Value}(h:KR w A k v ks)(hb:Below w.heap.size w w'):KR w' A k v ks:=
 have hA:=dz w ⟨A,2+k,none⟩ h.c
 ⟨(hb.cell (p:=⟨A,2+k,none⟩) hA).trans h.c,(hb.frozen (p:=⟨A,2+k,none⟩) hA).trans h.f,h.own.below hb,h.ne⟩
theorem KR.at{A k g off n cap:Nat}(h:KR w A k (.slice (some ⟨g,off,none⟩) n cap) ks)(hn:n=ks.length){x:Kp}(hx:ks[i]? =some x):w.cell? ⟨g,off+i*4,none⟩=some (.int .i64 x.t.z)/\w.cell? ⟨g,off+i*4+1,none⟩=some (.int .i64 x.t.c)/\w.cell? ⟨g,off+i*4+2,none⟩=some (.int .i64 x.t.r)/\w.cell? ⟨g,off+i*4+3,none⟩=some (.string x.body):=by
 have hi:i<ks.length:=(List.getElem?_eq_some_iff.1 hx).1
 subst hn
 have hc:∀j,j<4->w.cell? ⟨g,off+i*4+j,none⟩=([.int .i64 x.t.z,.int .i64 x.t.c,.int .i64 x.t.r,.string x.body]:List Value)[j]? :=λj hj=>by
  rw[<-Cl hx j hj,Nat.add_assoc]
  exact h.own.cell (j:=i*4+j) (by omega)
 exact⟨hc 0 (by omega),hc 1 (by omega),hc 2 (by omega),hc 3 (by omega)⟩
theorem zq(A:Nat)(t:Tl)(ht:t.ok)(v:Value)(ks:List Kp)(hl:ks.length<=1000)(w:World)(h:KR w A (az t) v ks):
  Calls prog 145 #[.pointer (some ⟨A,0,none⟩),.agg #[.int .i64 t.z,.int .i64 t.c,.int .i64 t.r]] w λe w'=>e=.returned (.int .i64 (y7 t ks))/\Below w.heap.size w w':=by
 have ke:Hid (∀W:World,Calls prog 146 #[.agg #[.int .i64 t.z,.int .i64 t.c,.int .i64 t.r]] W λe w'=>e=.returned (.int .i64 (az t:Int))/\Below W.heap.size W w'):=λW=>eD t ht W
 have HK:=af h
 have hA:=dz w ⟨A,2+az t,none⟩ h.c
 have j_:=bg t
 obtain⟨a,cap,rfl,hcap,hg⟩:=h.own.form
 have Hg:=af hg
 obtain⟨n,hn⟩:∃n,ks.length=n:=⟨_,rfl⟩
 have Hn:=af hn
 obtain⟨q,hq⟩:∃q,az t=q:=⟨_,rfl⟩
 rw[hn]at HK hcap hl
 rw[hq]at ke HK hA j_
 have Ht:Hid (t=t):=rfl
 obtain⟨z,c,r⟩:=t
 dsimp only at ke⊢
 have DW:(q:Int)<4:=by omega
 have wB:¬(q:Int)<0:=by omega
 clear h hg hn hq ht
 have hB0:∀o:Obj,Below w.heap.size w (w.alloc o):=λo=>aU
 go_enter func145,ntmps145
 go_wp2_with fail
 go_region_with (go_at_call 146;refine aq (ke.out _) ?_;rintro e w1 ⟨rfl,hb1⟩;dsimp only;have hB1:Below w.heap.size w w1:=(aU.drew.trans (hb1.mono (by simp)));have eO:=af hB1;have c1:=(HK.out.below hB1).c;have p0:w1.cell? ⟨w.heap.size,0,none⟩=some (.int .i64 z):=(hb1.cell (p:=⟨w.heap.size,0,none⟩) (by simp)).trans (by simp[go_sem]);have p1:w1.cell? ⟨w.heap.size,1,none⟩=some (.int .i64 c):=(hb1.cell (p:=⟨w.heap.size,1,none⟩) (by simp)).trans (by simp[go_sem]);have p2:w1.cell? ⟨w.heap.size,2,none⟩=some (.int .i64 r):=(hb1.cell (p:=⟨w.heap.size,2,none⟩) (by simp)).trans (by simp[go_sem]);clear hb1 hB1)
 all_goals
  go_wp2
  go_loopw [6] (λi wr=>∃k:Nat,k<=n/\i=.int .i64 k/\(∀j y,j<k->ks[j]? =some y->¬y.t=⟨z,c,r⟩)/\Below w1.heap.size w1 wr) (λi _=>n-(intOf i).toNat)
  case atStart=>exact⟨0,Nat.zero_le _,rfl,λj y hj=>by omega,by first|exact bK|exact bK.drew⟩
  case round=>
   obtain⟨k,hk,rfl,hno,hb⟩:=hrel
   have uF:=af hno
   have HB:=af hb
   have KL:Hid (KR wr A q (.slice a n cap) ks):=(HK.out.below eO.out).below hb
   have hsz:w.heap.size<w1.heap.size:=dz w1 ⟨w.heap.size,0,none⟩ p0
   have r0:wr.cell? ⟨w.heap.size,0,none⟩=_:=(hb.cell (p:=⟨w.heap.size,0,none⟩) hsz).trans p0
   have r1:wr.cell? ⟨w.heap.size,1,none⟩=_:=(hb.cell (p:=⟨w.heap.size,1,none⟩) hsz).trans p1
   have r2:wr.cell? ⟨w.heap.size,2,none⟩=_:=(hb.cell (p:=⟨w.heap.size,2,none⟩) hsz).trans p2
   clear hno hb
   by_cases hlt:k<n
   ·obtain⟨x,hx⟩:∃x,ks[k]? =some x:=⟨_,List.getElem?_eq_getElem (by rw[Hn.out];exact hlt)⟩
    obtain⟨g,off,rfl,_⟩:=Hg.out (by rw[Hn.out];omega)
    obtain⟨x0,x1,x2,x3⟩:=KL.out.at Hn.out.symm hx
    have lU:(k:Int)<(n:Int):=by omega
    have hk0:¬(k:Int)<0:=by omega
    by_cases he:x.t=⟨z,c,r⟩
    ·rw[he]at x0 x1 x2
     dsimp only at x0 x1 x2
     have HV:Hid (y7 ⟨z,c,r⟩ ks=(k:Int)):=by
      show y7 ⟨z,c,r⟩ ks=_
      unfold y7
      rw[xg uF.out hx he]
     clear hx he
     go_wp2_with fail
     go_quiet (fail)
     go_wp2
     go_ret
     exact⟨by rw[HV.out];rfl,Below.iF (eO.out.trans (HB.out.mono (by omega))) _⟩
    ·have XH:Hid (∀j y,j<k+1->ks[j]? =some y->¬y.t=⟨z,c,r⟩):=λj y hj hy=>by
      by_cases e:j=k
      ·subst e;rw[hx]at hy;rw[<-Option.some.inj hy];exact he
      ·exact uF.out j y (by omega) hy
     obtain⟨⟨xz,xc,xr⟩,xb⟩:=x
     dsimp only at x0 x1 x2 he
     clear hx
     by_cases h1:xz=z
     ·by_cases h2:xc=c
      ·have h3:¬xr=r:=λe=>he (by rw[h1,h2,e])
       have h3B:(xr==r)=false:=by simpa using h3
       subst h1 h2
       clear he
       go_wp2_with fail
       go_quiet (fail)
       go_wp2
       go_roundw
       case rel=>exact⟨k+1,by omega,by go_num,XH.out,Below.iF HB.out _⟩
       case measure=>simp[intOf];omega
      ·have h2B:(xc==c)=false:=by simpa using h2
       subst h1
       clear he
       go_wp2_with fail
       go_quiet (fail)
       go_wp2
       go_roundw
       case rel=>exact⟨k+1,by omega,by go_num,XH.out,Below.iF HB.out _⟩
       case measure=>simp[intOf];omega
     ·have h1B:(xz==z)=false:=by simpa using h1
      clear he
      go_wp2_with fail
      go_quiet (fail)
      go_wp2
      go_roundw
      case rel=>exact⟨k+1,by omega,by go_num,XH.out,Below.iF HB.out _⟩
      case measure=>simp[intOf];omega
   ·have lU:¬(k:Int)<(n:Int):=by omega
    obtain rfl:k=n:=by omega
    have HV:Hid (y7 ⟨z,c,r⟩ ks= -1):=by
     show y7 ⟨z,c,r⟩ ks=_
     unfold y7
     rw[tO λj y hj hy=>uF.out j y (by rw[<-Hn.out];exact hj) hy]
    go_wp2
    go_ret
    exact⟨by rw[HV.out];rfl,eO.out.trans (HB.out.mono (by omega))⟩
theorem GP:(prog.info? 261).map (λi=>(i.zero,i.size,i.bytes))=some (some (.agg #[.int .i64 0,.int .i64 0,.int .i64 0,.string ⟨#[]⟩]),4,40):=by kernel_rfl
theorem yT(a b:List Kp):bz (a++b)=bz a++bz b:=by
 induction a with
 |nil=>rfl
 |cons x a ih=>simp only[List.cons_append,bz,ih]
theorem wV(t:Tl){x:Kp}(h:ks[k]? =some x):cj t (ks.take (k+1))=cj t (ks.take k)++(if x.t=t then[]else[x]):=by
 unfold cj
 rw[List.take_add_one,h,List.filter_append]
 congr 1
 by_cases e:x.t=t<;>simp[e]
def eX(A:Nat)(t:Tl)(ks:List Kp)(w:World)(e:Ending)(w':World):Prop:=
 e=.returned (.tuple #[])/\∃v',KR w' A (az t) v' (cj t ks)/\(∀b,v'.ownBlock=some b->w.heap.size<=b)/\Fr (λc i=>c=A/\i=2+az t) w w'
variable {base size n:Nat} {e:TypeId} {xs:List Value}
theorem _root_.Go.World.ownsRow.iE{v:Value}(h:w.ownsRow base e size v n xs)(q:Nat)(o:Obj):((w.drewN q).alloc o).ownsRow base e size v n xs:=World.ownsRow.alloc (w:=w.drewN q) h o
theorem cJ(w:World)(q:Nat)(o:Obj):Below w.heap.size w ((w.drewN q).alloc o):=by
 have h1:Below (w.drewN q).heap.size (w.drewN q) ((w.drewN q).alloc o):=bK.alloc aM o
 exact(Below.iF (Below.refl _ w) q).trans h1
theorem lY(w:World)(q:Nat)(cs:Array Value)(t:TypeId)(i:Nat):((w.drewN q).alloc (.cells cs t)).cell? ⟨w.heap.size,i,none⟩=cs[i]? :=by
 show((w.drewN q).alloc (.cells cs t)).cell? ⟨(w.drewN q).heap.size,i,none⟩=_
 rw[World.cell?_alloc_new]
theorem _root_.Go.RowKit.Below.mono'{B B':Nat}(h:Below B w w')(hB:B'<=B):Below B' w w':=h.mono hB
theorem sH(A:Nat)(t:Tl)(ht:t.ok)(v:Value)(ks:List Kp)(hl:ks.length<=1000)(w:World)(h:KR w A (az t) v ks):
  Calls prog 171 #[.pointer (some ⟨A,0,none⟩),.agg #[.int .i64 t.z,.int .i64 t.c,.int .i64 t.r]] w (eX A t ks w):=by
 have ke:Hid (∀W:World,Calls prog 146 #[.agg #[.int .i64 t.z,.int .i64 t.c,.int .i64 t.r]] W λe w'=>e=.returned (.int .i64 (az t:Int))/\Below W.heap.size W w'):=λW=>eD t ht W
 have HK:=af h
 have hA:=dz w ⟨A,2+az t,none⟩ h.c
 have j_:=bg t
 obtain⟨a,cap,rfl,hcap,hg⟩:=h.own.form
 have Hg:=af hg
 obtain⟨n,hn⟩:∃n,ks.length=n:=⟨_,rfl⟩
 have Hn:=af hn
 obtain⟨q,hq⟩:∃q,az t=q:=⟨_,rfl⟩
 have Gc:Hid (eX A t ks w=λe w'=>e=.returned (.tuple #[])/\∃v',KR w' A q v' (cj t ks)/\(∀b,v'.ownBlock=some b->w.heap.size<=b)/\Fr (λc i=>c=A/\i=2+q) w w'):=by
  show eX A t ks w=_
  funext e w'
  unfold eX
  rw[hq]
 rw[hn]at HK hcap hl
 rw[hq]at ke HK hA j_
 obtain⟨z,c,r⟩:=t
 dsimp only at ke⊢
 have DW:(q:Int)<4:=by omega
 have wB:¬(q:Int)<0:=by omega
 obtain⟨i261,eH,hz0,hz1,hz2⟩:=info_parts GP
 have HI:Hid (prog.info? 261=some i261/\i261.zero=some (.agg #[.int .i64 0,.int .i64 0,.int .i64 0,.string ⟨#[]⟩])/\i261.size=4/\i261.bytes=40):=⟨eH,hz0,hz1,hz2⟩
 clear h hg hn hq ht eH hz0 hz1 hz2
 obtain⟨Post,Mb⟩:∃P,eX A ⟨z,c,r⟩ ks w=P:=⟨_,rfl⟩
 rw[Mb]at Gc
 rw[Mb]
 clear Mb
 go_enter func171,ntmps171
 go_wp2_with fail
 go_region_with (go_at_call 146;refine aq (ke.out _) ?_;rintro e w1 ⟨rfl,hb1⟩;dsimp only;have hB1:Below w.heap.size w w1:=(aU.drew.trans (hb1.mono (by simp)));have eO:=af hB1;have c1:=(HK.out.below hB1).c;have p0:w1.cell? ⟨w.heap.size,0,none⟩=some (.int .i64 z):=(hb1.cell (p:=⟨w.heap.size,0,none⟩) (by simp)).trans (by simp[go_sem]);have p1:w1.cell? ⟨w.heap.size,1,none⟩=some (.int .i64 c):=(hb1.cell (p:=⟨w.heap.size,1,none⟩) (by simp)).trans (by simp[go_sem]);have p2:w1.cell? ⟨w.heap.size,2,none⟩=some (.int .i64 r):=(hb1.cell (p:=⟨w.heap.size,2,none⟩) (by simp)).trans (by simp[go_sem]);clear hb1 hB1)
 all_goals
  go_wp2
  have hsz:w.heap.size<w1.heap.size:=dz w1 ⟨w.heap.size,0,none⟩ p0
  go_loopw [4,6] (λov i wr=>∃(k:Nat) (va:Option Addr) (vc:Nat),k<=n/\ov=.slice va (cj ⟨z,c,r⟩ (ks.take k)).length vc/\i=.int .i64 k/\wr.ownsRow w1.heap.size 261 4 (.slice va (cj ⟨z,c,r⟩ (ks.take k)).length vc) (cj ⟨z,c,r⟩ (ks.take k)).length (bz (cj ⟨z,c,r⟩ (ks.take k)))/\Below w1.heap.size w1 wr) (λ_ i _=>n-(intOf i).toNat)
  case atStart=>exact⟨0,none,0,Nat.zero_le _,rfl,rfl,World.ownsRow_nil _ _ _ _,by first|exact bK|exact bK.drew⟩
  case round=>
   obtain⟨k,va,vc,hk,rfl,rfl,ho,hb⟩:=hrel
   have HO:=af ho
   have HB:=af hb
   have KL:Hid (KR wr A q (.slice a n cap) ks):=(HK.out.below eO.out).below hb
   have r0:wr.cell? ⟨w.heap.size,0,none⟩=_:=(hb.cell (p:=⟨w.heap.size,0,none⟩) hsz).trans p0
   have r1:wr.cell? ⟨w.heap.size,1,none⟩=_:=(hb.cell (p:=⟨w.heap.size,1,none⟩) hsz).trans p1
   have r2:wr.cell? ⟨w.heap.size,2,none⟩=_:=(hb.cell (p:=⟨w.heap.size,2,none⟩) hsz).trans p2
   have hmk:(cj ⟨z,c,r⟩ (ks.take k)).length<=k:=by
    unfold cj
    exact Nat.le_trans (List.length_filter_le _ _) (by rw[List.length_take];omega)
   clear ho hb
   by_cases hlt:k<n
   ·obtain⟨x,hx⟩:∃x,ks[k]? =some x:=⟨_,List.getElem?_eq_getElem (by rw[Hn.out];exact hlt)⟩
    obtain⟨g,off,rfl,_⟩:=Hg.out (by rw[Hn.out];omega)
    obtain⟨x0,x1,x2,x3⟩:=KL.out.at Hn.out.symm hx
    have lU:(k:Int)<(n:Int):=by omega
    have hk0:¬(k:Int)<0:=by omega
    by_cases he:x.t=⟨z,c,r⟩
    ·have HS:Hid (cj ⟨z,c,r⟩ (ks.take (k+1))=cj ⟨z,c,r⟩ (ks.take k)):=by
      show cj _ _=_
      rw[wV _ hx,if_pos he,List.append_nil]
     rw[he]at x0 x1 x2
     dsimp only at x0 x1 x2
     clear hx he
     go_wp2_with fail
     go_quiet (fail)
     go_wp2
     go_roundw
     case rel=>exact⟨k+1,va,vc,by omega,by rw[HS.out],by go_num,by rw[HS.out];exact bD (M:=λ_ _=>False) ((Fr.refl _ _).drewN _) HO.out (λ_ _ _ e=>e),Below.iF HB.out _⟩
     case measure=>simp[intOf];omega
    ·have HS:cj ⟨z,c,r⟩ (ks.take (k+1))=cj ⟨z,c,r⟩ (ks.take k)++[x]:=by
      rw[wV _ hx,if_neg he]
     obtain⟨⟨xz,xc,xr⟩,xb⟩:=x
     dsimp only at x0 x1 x2 x3 he
     obtain⟨m,hm⟩:∃m,(cj ⟨z,c,r⟩ (ks.take k)).length=m:=⟨_,rfl⟩
     have xX:Hid ((cj ⟨z,c,r⟩ (ks.take (k+1))).length=m+1):=by show _=_;rw[HS,List.length_append,hm];rfl
     have rO:Hid (bz (cj ⟨z,c,r⟩ (ks.take (k+1)))=bz (cj ⟨z,c,r⟩ (ks.take k))++[.int .i64 xz,.int .i64 xc,.int .i64 xr,.string xb]):=by show _=_;rw[HS,yT];rfl
     rw[hm]at HO hmk
     rw[hm]
     clear hx hm HS
     by_cases h1:xz=z
     ·by_cases h2:xc=c
      ·have h3:¬xr=r:=λe=>he (by rw[h1,h2,e])
       have h3B:(xr==r)=false:=by simpa using h3
       have h3C:(xr !=r)=true:=by simpa using h3
       subst h1 h2
       clear he
       go_wp2_with fail
       go_quiet (fail)
       go_wp2_with (first
        |(at_builtin;refine wpList_append_own _ rfl _ _ 213 rfl w1.heap.size 261 i261 (.agg #[.int .i64 0,.int .i64 0,.int .i64 0,.string ⟨#[]⟩]) 4 40 underlying213 HI.out.1 HI.out.2.1 HI.out.2.2.1 HI.out.2.2.2 rfl (by decide) (.slice va m vc) m _ rfl (HO.out.iE _ _) ⟨wr.heap.size,0,none⟩ 1 1 [.int .i64 xz,.int .i64 xc,.int .i64 xr,.string xb] rfl rfl (λj u hj=>by rw[addr_add,Nat.zero_add,lY];simpa using hj) (λu hu=>by simp only[List.mem_cons,List.not_mem_nil,or_false]at hu;rcases hu with hu|hu|hu|hu<;>(rw[hu];rfl)) (by unfold maxLen;omega) (by omega) (by have:=HB.out.size;simp;omega) ?_;intro v5 w5 a_ bf _;obtain⟨a5,c5,rfl,_,_⟩:=aF a_;have uE:Hid (Below w1.heap.size w1 w5):=HB.out.trans ((cJ _ _ _).mono' HB.out.size|>.grown bf (by have:=HB.out.size;simp;omega) (λb hb=>(HO.out.lt b hb).1));have uG:=af a_;clear a_ bf))
       go_roundw
       case rel=>exact⟨k+1,a5,c5,by omega,by rw[xX.out],by go_num,by rw[xX.out,rO.out];exact uG.out,uE.out⟩
       case measure=>simp[intOf];omega
      ·have h2B:(xc==c)=false:=by simpa using h2
       subst h1
       clear he
       go_wp2_with fail
       go_quiet (fail)
       go_wp2_with (first
        |(at_builtin;refine wpList_append_own _ rfl _ _ 213 rfl w1.heap.size 261 i261 (.agg #[.int .i64 0,.int .i64 0,.int .i64 0,.string ⟨#[]⟩]) 4 40 underlying213 HI.out.1 HI.out.2.1 HI.out.2.2.1 HI.out.2.2.2 rfl (by decide) (.slice va m vc) m _ rfl (HO.out.iE _ _) ⟨wr.heap.size,0,none⟩ 1 1 [.int .i64 xz,.int .i64 xc,.int .i64 xr,.string xb] rfl rfl (λj u hj=>by rw[addr_add,Nat.zero_add,lY];simpa using hj) (λu hu=>by simp only[List.mem_cons,List.not_mem_nil,or_false]at hu;rcases hu with hu|hu|hu|hu<;>(rw[hu];rfl)) (by unfold maxLen;omega) (by omega) (by have:=HB.out.size;simp;omega) ?_;intro v5 w5 a_ bf _;obtain⟨a5,c5,rfl,_,_⟩:=aF a_;have uE:Hid (Below w1.heap.size w1 w5):=HB.out.trans ((cJ _ _ _).mono' HB.out.size|>.grown bf (by have:=HB.out.size;simp;omega) (λb hb=>(HO.out.lt b hb).1));have uG:=af a_;clear a_ bf))
       go_roundw
       case rel=>exact⟨k+1,a5,c5,by omega,by rw[xX.out],by go_num,by rw[xX.out,rO.out];exact uG.out,uE.out⟩
       case measure=>simp[intOf];omega
     ·have h1B:(xz==z)=false:=by simpa using h1
      clear he
      go_wp2_with fail
      go_quiet (fail)
      go_wp2_with (first
       |(at_builtin;refine wpList_append_own _ rfl _ _ 213 rfl w1.heap.size 261 i261 (.agg #[.int .i64 0,.int .i64 0,.int .i64 0,.string ⟨#[]⟩]) 4 40 underlying213 HI.out.1 HI.out.2.1 HI.out.2.2.1 HI.out.2.2.2 rfl (by decide) (.slice va m vc) m _ rfl (HO.out.iE _ _) ⟨wr.heap.size,0,none⟩ 1 1 [.int .i64 xz,.int .i64 xc,.int .i64 xr,.string xb] rfl rfl (λj u hj=>by rw[addr_add,Nat.zero_add,lY];simpa using hj) (λu hu=>by simp only[List.mem_cons,List.not_mem_nil,or_false]at hu;rcases hu with hu|hu|hu|hu<;>(rw[hu];rfl)) (by unfold maxLen;omega) (by omega) (by have:=HB.out.size;simp;omega) ?_;intro v5 w5 a_ bf _;obtain⟨a5,c5,rfl,_,_⟩:=aF a_;have uE:Hid (Below w1.heap.size w1 w5):=HB.out.trans ((cJ _ _ _).mono' HB.out.size|>.grown bf (by have:=HB.out.size;simp;omega) (λb hb=>(HO.out.lt b hb).1));have uG:=af a_;clear a_ bf))
      go_roundw
      case rel=>exact⟨k+1,a5,c5,by omega,by rw[xX.out],by go_num,by rw[xX.out,rO.out];exact uG.out,uE.out⟩
      case measure=>simp[intOf];omega
   ·have lU:¬(k:Int)<(n:Int):=by omega
    obtain rfl:k=n:=by omega
    have hall:ks.take k=ks:=List.take_of_length_le (by rw[Hn.out];exact aM)
    rw[hall]at HO
    rw[hall]
    have cA:=KL.out.c
    have fA:=KL.out.f
    have TQ:A<wr.heap.size:=dz wr ⟨A,2+q,none⟩ cA
    obtain⟨R,hR⟩:∃R,cj ⟨z,c,r⟩ ks=R:=⟨_,rfl⟩
    rw[hR]at HO Gc
    rw[hR]
    clear hall hR hmk
    go_wp2_with fail
    go_region_with (go_at_call 146;refine aq (ke.out _) ?_;rintro e w3 ⟨rfl,hb3⟩;dsimp only;have g_:Hid (Below wr.heap.size wr w3):=(Below.trans (by first|exact bK|exact bK.drew) (hb3.mono (by simp)));have cA3:w3.cell? ⟨A,2+q,none⟩=_:=(g_.out.cell (p:=⟨A,2+q,none⟩) TQ).trans cA;have fA3:w3.frozen? ⟨A,2+q,none⟩=_:=(g_.out.frozen (p:=⟨A,2+q,none⟩) TQ).trans fA;clear hb3)
    all_goals
     go_wp2
     go_end0
     rw[Gc.out]
     have hBw:Below w.heap.size w w3:=(eO.out.trans (HB.out.mono (by omega))).trans (g_.out.mono (by have:=HB.out.size;omega))
     have hne:∀b,(Value.slice va R.length vc).ownBlock=some b->w1.heap.size<=b:=λb hb=>(HO.out.lt b hb).1
     have hFA:Fr (ig A) w3 (w3.setCell ⟨A,2+q,none⟩ (.slice va R.length vc)):=jQ A w3 (2+q) _
     refine⟨rfl,_,⟨cell_eq cA3 _,by rw[World.frozen?_setCell];exact fA3,?_,λe=>by have:=hne A e;omega⟩,λb hb=>by have:=hne b hb;omega,?_⟩
     ·exact(((ak.pV HO.out).below g_.out).fr hFA (λb i hb e=>by have:=hne b hb;have e':b=A:=e;omega)).le (λ_ _=>Nat.zero_le _)
     ·exact(Fr.of_below hBw).setCell (b:=A) (i:=2+q) (.inl ⟨rfl,rfl⟩) _
structure RS(w:World)(A:Nat)(vs:Nat->Value)(sh:Nat->List Kp)(ag:Nat->Int):Prop where
 k:∀k,k<4->KR w A k (vs k) (sh k)
 a:∀k,k<4->w.cell? ⟨A,6+k,none⟩=some (.int .i64 (ag k))/\w.frozen? ⟨A,6+k,none⟩=false
variable {vs:Nat->Value} {sh:Nat->List Kp}
theorem RS.lt{A:Nat}{ag:Nat->Int}(h:RS w A vs sh ag):A<w.heap.size:=dz w ⟨A,2+0,none⟩ (h.k 0 (by omega)).c
variable {M:Nat->Nat->Prop}
theorem KR.fr(hf:Fr M w w'){A k:Nat}{v:Value}(h:KR w A k v ks)(h1:¬M A (2+k))(h2:∀b i,v.ownBlock=some b->¬M b i):KR w' A k v ks:=
 have hA:=dz w ⟨A,2+k,none⟩ h.c
 ⟨(hf.cell A _ hA h1).trans h.c,(hf.frozen A _ hA h1).trans h.f,h.own.fr hf h2,h.ne⟩
theorem RS.fr(hf:Fr M w w'){A:Nat}{ag:Nat->Int}(h:RS w A vs sh ag)(h1:∀i,2<=i->i<10->¬M A i)(h2:∀k,k<4->∀b i,(vs k).ownBlock=some b->¬M b i):RS w' A vs sh ag:=
 ⟨λk hk=>(h.k k hk).fr hf (h1 _ (by omega) (by omega)) (h2 k hk),λk hk=>⟨(hf.cell A _ h.lt (h1 _ (by omega) (by omega))).trans (h.a k hk).1,(hf.frozen A _ h.lt (h1 _ (by omega) (by omega))).trans (h.a k hk).2⟩⟩
def dR{α:Type}(f:Nat->α)(q:Nat)(x:α):Nat->α:=λk=>if k=q then x else f k
variable {v':Value}
theorem RS.drop{A q:Nat}(hq:q<4){ag:Nat->Int}(h:RS w A vs sh ag)(hk:KR w' A q v' ks')(hf:Fr (λc i=>c=A/\i=2+q) w w'):RS w' A (dR vs q v') (dR sh q ks') ag:=by
 refine⟨λk hk4=>?_,λk hk4=>⟨(hf.cell A _ h.lt (λe=>by omega)).trans (h.a k hk4).1,(hf.frozen A _ h.lt (λe=>by omega)).trans (h.a k hk4).2⟩⟩
 unfold dR
 by_cases e:k=q
 ·subst e;rw[if_pos rfl,if_pos rfl];exact hk
 ·rw[if_neg e,if_neg e]
  refine(h.k k hk4).fr hf (λe'=>by omega) (λb i hb e'=>?_)
  rw[e'.1]at hb
  exact(h.k k hk4).ne hb
def iQ(bs:List Bx)(z:Nat)(sh:Nat->List Kp)(i:Nat):Nat->List Kp:=λk=>cY bs k ((aQ z).take i) (sh k)
theorem Jc(h:(aQ z)[i]? =some t)(hh:dW bs t=true):iQ bs z sh (i+1)=dR (iQ bs z sh i) (az t) (cj t (iQ bs z sh i (az t))):=by
 funext k
 unfold iQ dR cY
 rw[List.take_add_one,h,Option.toList,List.foldl_append,List.foldl_cons,List.foldl_nil]
 by_cases e:k=az t
 ·subst e;rw[if_pos ⟨hh,rfl⟩,if_pos rfl]
 ·rw[if_neg (λe'=>e e'.2.symm),if_neg e]
theorem EO(h:(aQ z)[i]? =some t)(hh:dW bs t=false):iQ bs z sh (i+1)=iQ bs z sh i:=by
 funext k
 unfold iQ cY
 rw[List.take_add_one,h,Option.toList,List.foldl_append,List.foldl_cons,List.foldl_nil,if_neg (λe'=>by rw[hh]at e';cases e'.1)]
def C8(bs:List Bx)(z:Nat)(i k:Nat):Bool:=aL bs k ((aQ z).take i)
theorem zi(h:(aQ z)[i]? =some t)(k:Nat):C8 bs z (i+1) k=(C8 bs z i k||(dW bs t&&decide (az t=k))):=by
 unfold C8 aL
 rw[List.take_add_one,h,Option.toList,List.any_append]
 simp
theorem zK{z c r:Nat}(_hz:z<=3)(hc:c<bh z)(hr:r<bh z):(aQ z)[c*bh z+r]? =some ⟨(z:Int),(c:Int),(r:Int)⟩:=by
 have hp:0<bh z:=by omega
 have hlt:c*bh z+r<bh z*bh z:=by
  have:(c+1)*bh z<=bh z*bh z:=Nat.mul_le_mul_right _ hc
  rw[Nat.succ_mul]at this
  omega
 unfold aQ
 rw[List.getElem?_map,List.getElem?_range hlt]
 have e1:(c*bh z+r)/bh z=c:=by rw[Nat.mul_comm,Nat.mul_add_div hp,Nat.div_eq_of_lt hr,Nat.add_zero]
 have e2:(c*bh z+r)%bh z=r:=by rw[Nat.mul_comm,Nat.mul_add_mod,Nat.mod_eq_of_lt hr]
 rw[Option.map_some,e1,e2]
theorem yX(bs:List Bx)(z:Nat)(sh:Nat->List Kp):iQ bs z sh (bh z*bh z)=λk=>cY bs k (aQ z) (sh k):=by
 funext k
 unfold iQ
 rw[List.take_of_length_le (by unfold aQ;rw[List.length_map,List.length_range];exact aM)]
theorem C9(bs:List Bx)(z k:Nat):C8 bs z (bh z*bh z) k=aL bs k (aQ z):=by
 unfold C8
 rw[List.take_of_length_le (by unfold aQ;rw[List.length_map,List.length_range];exact aM)]
theorem ru(bs:List Bx)(k:Nat)(ts:List Tl)(ks:List Kp):(cY bs k ts ks).length<=ks.length:=by
 rw[gi];exact List.length_filter_le _ _
theorem CY{z:Nat}(h:z<=3):cL (z:Int)=(bh z:Int):=by
 match z,h with
 |0,_=>rfl
 |1,_=>rfl
 |2,_=>rfl
 |3,_=>rfl
theorem zJ{z c r:Nat}(h:z<=3)(hc:c<bh z)(hr:r<bh z):(⟨(z:Int),(c:Int),(r:Int)⟩:Tl).good:=by
 unfold Tl.good cC
 rw[decide_eq_true_eq]
 dsimp only
 rw[CY h]
 omega
structure FI(w:World)(A:Nat)(vs:Nat->Value)(sh:Nat->List Kp)(ag:Nat->Int)(bs:List Bx)(z:Nat)(w2:World)(G idx:Nat)(vs':Nat->Value)(wr:World):Prop where
 s:RS wr A vs' (iQ bs z sh idx) ag
 b:∀k,k<4->∀b,(vs' k).ownBlock=some b->(vs k).ownBlock=some b\/w2.heap.size<=b
 g:∀k,k<4->wr.cell? ⟨G,k,none⟩=some (.bool (C8 bs z idx k))/\wr.frozen? ⟨G,k,none⟩=false
 f:Fr (λc i=>(c=A/\2<=i/\i<6)\/c=G) w2 wr
variable {w2 wr:World} {G idx:Nat} {vs':Nat->Value}
theorem FI.grow{A:Nat}{ag:Nat->Int}(h:FI w A vs sh ag bs z w2 G idx vs' wr)(hb:Below wr.heap.size wr w'):FI w A vs sh ag bs z w2 G idx vs' w':=
 have hG:=λk hk=>dz wr ⟨G,k,none⟩ (h.g k hk).1
 ⟨h.s.fr (M:=λ_ _=>False) (Fr.of_below hb) (λ_ _ _ e=>e) (λ_ _ _ _ _ e=>e),h.b,λk hk=>⟨(hb.cell (p:=⟨G,k,none⟩) (hG k hk)).trans (h.g k hk).1,(hb.frozen (p:=⟨G,k,none⟩) (hG k hk)).trans (h.g k hk).2⟩,h.f.aC (Fr.of_below (M:=λ_ _=>False) hb) (λ_ _ _ e=>e.elim)⟩
theorem FI.miss{A:Nat}{ag:Nat->Int}(h:FI w A vs sh ag bs z w2 G idx vs' wr)(ht:(aQ z)[idx]? =some t)(hh:dW bs t=false)(hb:Below wr.heap.size wr w'):FI w A vs sh ag bs z w2 G (idx+1) vs' w':=by
 have h':=h.grow hb
 refine⟨by rw[EO ht hh];exact h'.s,h'.b,λk hk=>?_,h'.f⟩
 rw[zi ht,hh,Bool.false_and,Bool.or_false]
 exact h'.g k hk
variable {w4 w5 w6:World}
theorem FI.hit{A:Nat}{ag:Nat->Int}(h:FI w A vs sh ag bs z w2 G idx vs' wr)(Yt:A≠G)(Xh:∀k,k<4->(vs k).ownBlock≠some G)(hG2:G<w2.heap.size)(ht:(aQ z)[idx]? =some t)(hh:dW bs t=true)(hb:Below wr.heap.size wr w4)(hk:KR w5 A (az t) v' (cj t (iQ bs z sh idx (az t))))(hn:∀b,v'.ownBlock=some b->w4.heap.size<=b)(hf:Fr (λc i=>c=A/\i=2+az t) w4 w5)(jC:Below w5.heap.size w5 w6):
  FI w A vs sh ag bs z w2 G (idx+1) (dR vs' (az t) v') (w6.setCell ⟨G,az t,none⟩ (.bool true)):=by
 have h4:=h.grow hb
 have hq:=bg t
 have mJ:w2.heap.size<=w4.heap.size:=h4.f.size
 have hG4:=λk hk=>dz w4 ⟨G,k,none⟩ (h4.g k hk).1
 have hS5:=h4.s.drop hq hk hf
 have hS6:RS w6 A (dR vs' (az t) v') (dR (iQ bs z sh idx) (az t) (cj t (iQ bs z sh idx (az t)))) ag:=hS5.fr (M:=λ_ _=>False) (Fr.of_below jC) (λ_ _ _ e=>e) (λ_ _ _ _ _ e=>e)
 have Rg:Fr (λc i=>c=A/\i=2+az t) w4 w6:=hf.aC (Fr.of_below (M:=λ_ _=>False) jC) (λ_ _ _ e=>e.elim)
 have Jl:∀k,k<4->∀b,(dR vs' (az t) v' k).ownBlock=some b->(vs k).ownBlock=some b\/w2.heap.size<=b:=λk hk4 b hb'=>by
  unfold dR at hb'
  by_cases e:k=az t
  ·rw[if_pos e]at hb';exact .inr (Nat.le_trans mJ (hn b hb'))
  ·rw[if_neg e]at hb';exact h4.b k hk4 b hb'
 refine⟨?_,Jl,λk hk4=>?_,?_⟩
 ·rw[Jc ht hh]
  refine hS6.fr (M:=ig G) (jQ G w6 (az t) _) (λi _ _ e=>Yt e) (λk hk4 b i hb' e=>?_)
  have e':b=G:=e
  rcases Jl k hk4 b hb' with h1|h1
  ·rw[e']at h1;exact Xh k hk4 h1
  ·omega
 ·rw[zi ht,hh,Bool.true_and]
  have hg6:w6.cell? ⟨G,k,none⟩=some (.bool (C8 bs z idx k)):=(Rg.cell G k (hG4 k hk4) (λe=>Yt e.1.symm)).trans (h4.g k hk4).1
  have W5:w6.frozen? ⟨G,k,none⟩=false:=(Rg.frozen G k (hG4 k hk4) (λe=>Yt e.1.symm)).trans (h4.g k hk4).2
  rw[World.frozen?_setCell]
  refine⟨?_,W5⟩
  by_cases e:az t=k
  ·subst e
   rw[decide_eq_true rfl,Bool.or_true]
   exact cell_eq hg6 _
  ·rw[decide_eq_false e,Bool.or_false]
   exact(World.cell?_setCell_other _ _ _ _ (by intro e';injection e' with _ e2 _;exact e e2)).trans hg6
 ·exact(h4.f.aC Rg (λb i _ e=> .inl ⟨e.1,by omega,by omega⟩)).setCell (b:=G) (i:=az t) (.inl (.inr rfl)) _
end
end Go.Proofs.YtenaepdmlknlcaaGreatDoor
