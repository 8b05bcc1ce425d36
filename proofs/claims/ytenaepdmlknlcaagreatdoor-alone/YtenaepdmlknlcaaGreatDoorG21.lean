import Derived.Test.YtenaepdmlknlcaaGreatDoorG19
import Derived.Test.YtenaepdmlknlcaaGreatDoorG20
open Go.Proofs.Tryz
set_option maxRecDepth 100000
set_option maxHeartbeats 8000000
namespace Go.Proofs.YtenaepdmlknlcaaGreatDoor
section
open Go.RowKit Go.Shelf
def ld(b:ByteArray):ByteArray:=⟨(qT b.data.toList).toArray⟩
def bQ(m body:ByteArray):ByteArray:=if(m.toList==(ld body).toList)=true then⟨#[51,48,52,32]⟩++ld body else⟨#[50,48,48,32]⟩++ld body++⟨#[32]⟩++body
theorem Ig(b:ByteArray)(hb:b.size<=1000)(w:World)(g:Gl w):
  Calls prog 33 #[.string b] w λe w'=>e=.returned (.string (ld b))/\Below w.heap.size w w':=by
 have h:=Pa b w (by omega) g.t3 (by have:=g.sz;omega)
 exact h
theorem vU:∀(k v:Nat),v<16^(k+1)->(cD 16 v).length<=k+1
 |0,v,h=>by rw[pR (by simpa using h)];exact aM
 |k+1,v,h=>by
  by_cases hv:v<16
  ·rw[pR hv];exact Nat.succ_le_succ (Nat.zero_le _)
  ·rw[Ca (by omega),List.length_append]
   have:=vU k (v/16) (by rw[Nat.pow_succ]at h;omega)
   simp only[List.length_cons,List.length_nil]
   omega
theorem wN(b:ByteArray):(ld b).size=8:=by
 have h:=vU 7 (rD b.data.toList) (Nat.lt_of_lt_of_le (A3 _) (by decide))
 simp only[ld,ByteArray.size,List.size_toArray,qT,Fp,List.length_append,List.length_replicate]
 omega
theorem Dz(z c r aG:Int)(m body:ByteArray)(ro:Option Addr)(hb:body.size<=1000)(w:World)(g:Gl w):
  Calls prog 188 #[.agg #[.int .i64 z,.int .i64 c,.int .i64 r,.string m,.int .i64 aG,.pointer ro],.string body] w λe w'=>e=.returned (.agg #[.bool false,.nilFunc,.string (bQ m body)])/\Below w.heap.size w w':=by
 have HM:Hid (∀W,Below w.heap.size w W->Calls prog 33 #[.string body] W λe w'=>e=.returned (.string (ld body))/\Below W.heap.size W w'):=λW hW=>Ig body hb W (g.below hW g.sz)
 obtain⟨mk,hmk⟩:∃mk,ld body=mk:=⟨_,rfl⟩
 have HT:Hid (bQ m body=if(m.toList==mk.toList)=true then⟨#[51,48,52,32]⟩++mk else⟨#[50,48,48,32]⟩++mk++⟨#[32]⟩++body):=by show bQ m body=_;rw[bQ,hmk]
 have Hs:Hid (mk.size<=8/\body.size<=1000):=⟨by rw[<-hmk,wN];exact aM,hb⟩
 rw[hmk]at HM
 clear hmk g hb
 have hcA:(9223372036854775807<4+mk.size)=False:=eq_false (by have:=Hs.out.1;omega)
 have hcB:(9223372036854775807<4+mk.size+1)=False:=eq_false (by have:=Hs.out.1;omega)
 have hcC:(9223372036854775807<4+mk.size+1+body.size)=False:=eq_false (by have:=Hs.out;omega)
 by_cases he:(m.toList==mk.toList)=true
 ·go_enter func188,ntmps188
  go_wp2_with (first
   |(go_at_call 33;refine aq (HM.out _ (aU.alloc (by simp) _)) ?_;rintro e w1 ⟨rfl,hb1⟩;dsimp only;have hB1:Below w.heap.size w w1:=((aU.alloc (by simp) _).trans (hb1.mono (by simp<;>omega)));have c1:w1.cell? ⟨w.heap.size,3,none⟩=some (.string m):=(hb1.cell (p:=⟨w.heap.size,3,none⟩) (by simp<;>omega)).trans (by simp[go_sem]);have vr:Hid (K3 w1 (w.heap.size+1) (.bool false) .nilFunc (.string ⟨#[]⟩)):=K3.below hb1 aM (by have:=K3.new (w.alloc (.cells #[.int .i64 z,.int .i64 c,.int .i64 r,.string m,.int .i64 aG,.pointer ro] 291)) (.bool false) .nilFunc (.string ⟨#[]⟩) 231;rw[World.size_alloc]at this;exact this))
   |(go_at_call 194;refine(eA _ _).mono ?_;rintro e w2 ⟨rfl,hb2⟩;dsimp only;obtain⟨r0,r1,r2,f0,f1,f2⟩:=vr.out.below hb2 aM))
  exact bodyPost_ret (v:=.agg #[.bool false,.nilFunc,.string (⟨#[51,48,52,32]⟩++mk)]) (by simp[results,results188,go_sem,r0,r1,r2]) rfl ⟨by rw[HT.out,if_pos he],rB (hB1.trans (hb2.mono hB1.size)) (Nat.le_succ _) _ _ _⟩
 ·have he':(m.toList==mk.toList)=false:=by simpa using he
  have HE:=af he
  clear he
  go_enter func188,ntmps188
  go_wp2_with (first
   |(go_at_call 33;refine aq (HM.out _ (aU.alloc (by simp) _)) ?_;rintro e w1 ⟨rfl,hb1⟩;dsimp only;have hB1:Below w.heap.size w w1:=((aU.alloc (by simp) _).trans (hb1.mono (by simp<;>omega)));have c1:w1.cell? ⟨w.heap.size,3,none⟩=some (.string m):=(hb1.cell (p:=⟨w.heap.size,3,none⟩) (by simp<;>omega)).trans (by simp[go_sem]);have vr:Hid (K3 w1 (w.heap.size+1) (.bool false) .nilFunc (.string ⟨#[]⟩)):=K3.below hb1 aM (by have:=K3.new (w.alloc (.cells #[.int .i64 z,.int .i64 c,.int .i64 r,.string m,.int .i64 aG,.pointer ro] 291)) (.bool false) .nilFunc (.string ⟨#[]⟩) 231;rw[World.size_alloc]at this;exact this))
   |(go_at_call 194;refine(eA _ _).mono ?_;rintro e w2 ⟨rfl,hb2⟩;dsimp only;obtain⟨r0,r1,r2,f0,f1,f2⟩:=vr.out.below hb2 aM))
  exact bodyPost_ret (v:=.agg #[.bool false,.nilFunc,.string (⟨#[50,48,48,32]⟩++mk++⟨#[32]⟩++body)]) (by simp[results,results188,go_sem,r0,r1,r2]) rfl ⟨by rw[HT.out,if_neg HE.out],rB (hB1.trans (hb2.mono hB1.size)) (Nat.le_succ _) _ _ _⟩
def mkV(f:aW):FV:=⟨f,0,0,0⟩
def BZ(fs:List aW)(t:Tl):List UInt8:=iO (fs.map mkV) (pZ t.z) t.c t.r
def aX(fs:List aW)(t:Tl):ByteArray:=⟨(BZ fs t).toArray⟩
inductive mz where
 |bad
 |look (t:Tl) (m:ByteArray)
 |note (t:Tl) (m:ByteArray) (aG:Int)
 |draw (t:Tl) (m:ByteArray) (aG:Int) (fs:List aW)
 |lock (id:Int) (p:Option aW)
 |forget (id:Int) (p:Option aW) (z:Nat)
 |finish (id:Int) (p:Option aW)
def eK:Rd->mz
 | .bad=> .bad
 | .get t m=> .look t m
 | .put f=> .lock f.id (some f)
 | .del id=> .lock id none
structure Gr where
 fs:List aW
 lk:Bool
 S:tT
structure rJ where
 q:List ByteArray
 nx:Option mz
 an:List ByteArray
structure fW where
 g:Gr
 ss:Nat->rJ
def tT.fH(S:tT)(q:Nat)(ks:List Kp):tT:={S with ks:=λk=>if k=q then ks else S.ks k}
def A5(c n:Nat)(z:Nat):Tl:=⟨(z:Int),((n%c:Nat):Int),((n/c:Nat):Int)⟩
def bh(z:Nat):Nat:=2^z
def aR(z:Nat):List Tl:=(List.range (bh z*bh z)).map λn=>A5 (bh z) n z
def eT(t:Tl):Bx:=⟨8*pZ t.z*t.c,8*pZ t.z*t.r,8*pZ t.z*t.c+8*pZ t.z,8*pZ t.z*t.r+8*pZ t.z⟩
def dW(bs:List Bx)(t:Tl):Bool:=bs.any λb=>cV (eT t) b
def bW(bs:List Bx)(k:Nat)(ts:List Tl)(ks:List Kp):List Kp:=ts.foldl (λks t=>if dW bs t=true/\az t=k then cP t ks else ks) ks
def aL(bs:List Bx)(k:Nat)(ts:List Tl):Bool:=ts.any λt=>dW bs t&&decide (az t=k)
def dD(z:Nat)(bs:List Bx)(S:tT):tT:=
 {S with ks:=λk=>bW bs k (aR z) (S.ks k),aG:=λk=>if aL bs k (aR z)=true then IntKind.i64.wrap (S.aG k+1)else S.aG k}
def findF(id:Int)(fs:List aW):Option aW:=fs.find? λf=>f.id==id
def bw(p:Option aW)(fs:List aW)(id:Int):List Bx:=(p.toList++(findF id fs).toList).map λf=>aD f.ps
def pM(had:Bool)(p:Option aW):ByteArray:=if had=true then⟨#[50,48,48]⟩else if p.isSome=true then⟨#[50,48,49]⟩else⟨#[52,48,52]⟩
def eV(id:Int)(fs:List aW):Bool:=fs.any λf=>f.id==id
inductive Res where
 |blocked
 |next (s:mz)
 |answer (an:ByteArray)
def FR:ByteArray:=⟨#[52,48,48]⟩
def aV(g:Gr):mz->Res×Gr
 | .bad=>(.answer FR,g)
 | .look t m=>match oP t (g.S.ks (az t))with
  |none=>(.next (.note t m (g.S.aG (az t))),g)
  |some (b,ks)=>(.answer (bQ m b),{g with S:=g.S.fH (az t) ks})
 | .note t m aG=>if g.lk=true then(.blocked,g)else(.next (.draw t m aG g.fs),g)
 | .draw t m aG fs=>(.answer (bQ m (aX fs t)),if g.S.aG (az t)=aG then{g with S:=g.S.fH (az t) (fQ g.S.room t (aX fs t) (g.S.ks (az t)))}else g)
 | .lock id p=>if g.lk=true then(.blocked,g)else(.next (.forget id p 0),{g with lk:=true})
 | .forget id p z=>(.next (if z=3 then .finish id p else .forget id p (z+1)),{g with S:=dD z (bw p g.fs id) g.S})
 | .finish id p=>(.answer (pM (eV id g.fs) p),{g with lk:=false,fs:=(g.fs.filter λf=>!(f.id==id))++p.toList})
def fW.set(a:fW)(g:Gr)(n:Nat)(s:rJ):fW:=⟨g,λk=>if k=n then s else a.ss k⟩
def kW(a:fW)(n:Nat)(s:rJ)(st:mz):Bool×fW:=match aV a.g st with
 |(.blocked,_)=>(false,a.set a.g n {s with nx:=some st})
 |(.next st',g)=>(true,a.set g n {s with nx:=some st'})
 |(.answer an,g)=>(true,a.set g n {s with nx:=none,an:=s.an++[an]})
def fF(a:fW)(n:Nat):Bool×fW:=match(a.ss n).nx with
 |some st=>kW a n (a.ss n) st
 |none=>match(a.ss n).q with
  |[]=>(false,a)
  |x::q=>kW a n {a.ss n with q:=q} (eK (cm x))
def ct(s:rJ):Nat:=s.q.length+(match s.nx with|some _=>1|none=>0)
def jf(a:fW)(n:Nat)(x:ByteArray):fW:=a.set a.g n {a.ss n with q:=(a.ss n).q++[x]}
def kH(a:fW)(n:Nat):fW:=a.set a.g n {a.ss n with an:=[]}
def oM(room:Int):fW:=⟨⟨[],false,⟨room,λ_=>[],λ_=>0⟩⟩,λ_=>⟨[],none,[]⟩⟩
def kg(fs:List aW):Prop:=(fs.map (·.id)).Nodup
structure Bl(fs:List aW):Prop where
 valid:∀f∈fs,aj f=true
 EC:kg fs
def Tl.good(t:Tl):Prop:=cC t.z t.c t.r=true
def oX(id:Int):Option aW->Prop
 |none=>True
 |some f=>aj f=true/\f.id=id
def jP:mz->Prop
 | .bad=>True
 | .look t _=>t.good
 | .note t _ _=>t.good
 | .draw t _ _ fs=>t.good/\Bl fs
 | .lock id p=>oX id p
 | .forget id p z=>oX id p/\z<=3
 | .finish id p=>oX id p
structure vg(g:Gr):Prop where
 fs:Bl g.fs
 r0:0<=g.S.room
 r8:g.S.room<=8
 len:∀k,k<4->((g.S.ks k).length:Int)<=g.S.room
 body:∀k x,k<4->x∈g.S.ks k->x.body.size<=1000
structure Lh(s:rJ):Prop where
 q:∀x∈s.q,x.size<=200
 w:ct s<=6
 nx:∀st,s.nx=some st->jP st
 an:s.an.length<=4000000
structure jq(a:fW):Prop where
 g:vg a.g
 ss:∀n,n<4->Lh (a.ss n)
theorem FZ(s:Wd)(h:s.l_.2.wrong=false):s.l_.1.good:=by
 unfold Wd.l_ Wd.check at h
 simp only[Bool.or_eq_false_iff,Bool.not_eq_false']at h
 exact h.2
theorem Fl(s:Wd)(h:s.mark.2.wrong=false):s.wrong=false:=by
 unfold Wd.mark at h
 cases hl:s.left with
 |nil=>simp[hl]at h;exact h
 |cons x r=>
  simp[hl,Wd.check]at h
  exact h.1
def Pg:Rd->Prop
 | .bad=>True
 | .get t _=>t.good
 | .put f=>aj f=true
 | .del _=>True
theorem NJ(t:Wd):Pg (gX t):=by
 unfold gX
 split
 ·split
  ·trivial
  ·rename_i h
   refine FZ _ (Fl _ ?_)
   cases e:t.next.2.l_.2.mark.2.wrong with
   |false=>rfl
   |true=>exact absurd (.inl e) h
 ·split
  ·split
   ·trivial
   ·rename_i h
    unfold iY at h
    simp only[Bool.or_eq_true,not_or,Bool.not_eq_true',Bool.not_eq_true,Bool.not_eq_false]at h
    exact h.2
  ·split
   ·split<;>trivial
   ·trivial
theorem jd(s:ByteArray):Pg (cm s):=NJ _
theorem jJ{r:Rd}(h:Pg r):jP (eK r):=by
 cases r with
 |bad=>trivial
 |get t m=>exact h
 |put f=>exact⟨h,rfl⟩
 |del id=>trivial
variable {t:Tl} {ks:List Kp}
theorem yP{x:Kp}(h:x∈cP t ks):x∈ks:=by
 unfold cP at h
 cases e:bO t ks with
 |none=>rw[e]at h;exact h
 |some i=>rw[e]at h;exact List.mem_of_mem_eraseIdx h
theorem tj(bs:List Bx)(k:Nat):∀(ts:List Tl) (ks:List Kp),(bW bs k ts ks).length<=ks.length
 |[],_=>aM
 |t::ts,ks=>by
  show(bW bs k ts (if dW bs t=true/\az t=k then cP t ks else ks)).length<=_
  refine Nat.le_trans (tj bs k ts _) ?_
  split
  ·exact r_ t ks
  ·exact aM
theorem tq(bs:List Bx)(k:Nat){x:Kp}:∀(ts:List Tl) (ks:List Kp),x∈bW bs k ts ks->x∈ks
 |[],_,h=>h
 |t::ts,ks,h=>by
  have h':=tq bs k ts (if dW bs t=true/\az t=k then cP t ks else ks) h
  split at h'
  ·exact yP h'
  ·exact h'
variable {room:Int}
theorem Jr{b:ByteArray}{ks:List Kp}(_h0:0<=room)(h:(ks.length:Int)<=room):((fQ room t b ks).length:Int)<=room:=by
 have hd:=r_ t ks
 unfold fQ
 split
 ·rw[List.length_drop,List.length_append]
  simp
  omega
 ·rw[List.length_append]
  simp
  omega
theorem y9{b:ByteArray}{x:Kp}(h:x∈fQ room t b ks):x∈ks\/x=⟨t,b⟩:=by
 have hm:x∈cP t ks++[(⟨t,b⟩:Kp)]:=by
  unfold fQ at h
  split at h
  ·exact List.mem_of_mem_drop h
  ·exact h
 rcases List.mem_append.1 hm with h|h
 ·exact .inl (yP h)
 ·exact .inr (by simpa using h)
theorem fJ{g:Gr}{m:ByteArray}(e:oP t (g.S.ks (az t))=none):aV g (.look t m)=(.next (.note t m (g.S.aG (az t))),g):=by simp only[aV,e]
theorem fK{g:Gr}{m b:ByteArray}(e:oP t (g.S.ks (az t))=some (b,ks)):aV g (.look t m)=(.answer (bQ m b),{g with S:=g.S.fH (az t) ks}):=by simp only[aV,e]
theorem kF{g:Gr}{m:ByteArray}{aG:Int}(e:g.lk=true):aV g (.note t m aG)=(.blocked,g):=by simp only[aV,e,if_true]
theorem kG{g:Gr}{m:ByteArray}{aG:Int}(e:g.lk=false):aV g (.note t m aG)=(.next (.draw t m aG g.fs),g):=by simp[aV,e]
variable {p:Option aW}
theorem kD{g:Gr}{id:Int}(e:g.lk=true):aV g (.lock id p)=(.blocked,g):=by simp only[aV,e,if_true]
theorem kE{g:Gr}{id:Int}(e:g.lk=false):aV g (.lock id p)=(.next (.forget id p 0),{g with lk:=true}):=by simp[aV,e]
variable {ks':List Kp}
theorem oG{b:ByteArray}(h:oP t ks=some (b,ks')):∃i k,bO t ks=some i/\ks[i]? =some k/\b=k.body/\ks'=ks.eraseIdx i++[⟨t,k.body⟩]:=by
 unfold oP at h
 cases e:bO t ks with
 |none=>rw[e]at h;cases h
 |some i=>
  rw[e]at h
  dsimp only at h
  cases e':ks[i]? with
  |none=>rw[e']at h;cases h
  |some k=>
   rw[e']at h
   simp at h
   exact⟨i,k,rfl,e',h.1.symm,h.2.symm⟩
variable {i:Nat}
theorem lF(h:bO t ks=some i):∃k,ks[i]? =some k/\k.t=t:=by
 unfold bO at h
 rw[List.findIdx?_eq_some_iff_getElem]at h
 obtain⟨hi,h1,_⟩:=h
 exact⟨ks[i],List.getElem?_eq_getElem hi,of_decide_eq_true h1⟩
theorem zN(h:oP t ks=none):bO t ks=none:=by
 unfold oP at h
 cases e:bO t ks with
 |none=>rfl
 |some i=>
  obtain⟨k,hk,_⟩:=lF e
  rw[e]at h
  simp[hk]at h
variable {fs:List aW}
theorem pN(h:∀f∈fs,aj f=true)(t:Tl):(aX fs t).size<=1000:=by
 have:=Am (fs.map mkV) (pZ t.z) t.c t.r (λv hv=>by
  obtain⟨f,hf,rfl⟩:=List.mem_map.1 hv
  exact h f hf)
 simpa[aX,BZ,ByteArray.size]using this
variable {q:Nat}
theorem vg.fH{g:Gr}(h:vg g){ks:List Kp}(h1:(ks.length:Int)<=g.S.room)(h2:∀x∈ks,x.body.size<=1000):vg {g with S:=g.S.fH q ks}:=by
 refine⟨h.fs,h.r0,h.r8,λk hk=>?_,λk x hk hx=>?_⟩
 ·show(((if k=q then ks else g.S.ks k):List Kp).length:Int)<=g.S.room
  split
  ·exact h1
  ·exact h.len k hk
 ·have hx':x∈(if k=q then ks else g.S.ks k):=hx
  split at hx'
  ·exact h2 x hx'
  ·exact h.body k x hk hx'
theorem Bl.finish(h:Bl fs){id:Int}(hp:oX id p):Bl ((fs.filter λf=>!(f.id==id))++p.toList):=by
 constructor
 ·intro f hf
  rcases List.mem_append.1 hf with hf|hf
  ·exact h.valid f (List.mem_filter.1 hf).1
  ·cases p with
   |none=>simp at hf
   |some g=>simp at hf;subst hf;exact hp.1
 ·show(List.map _ _).Nodup
  rw[List.map_append]
  refine List.nodup_append.2 ⟨?_,?_,?_⟩
  ·exact List.Nodup.sublist (List.Sublist.map _ List.filter_sublist) h.EC
  ·cases p<;>simp
  ·intro a ha b hb
   cases p with
   |none=>simp at hb
   |some g=>
    simp at hb
    obtain⟨f,hf,rfl⟩:=List.mem_map.1 ha
    have:=(List.mem_filter.1 hf).2
    simp at this
    rw[hb,hp.2]
    exact this
theorem nM(t:Tl):az t<4:=bg t
theorem lD{g:Gr}(h:vg g){s:mz}(hs:jP s):vg (aV g s).2/\∀s',(aV g s).1=.next s'->jP s':=by
 cases s with
 |bad=>exact⟨h,λs' e=>by cases e⟩
 |look t m=>
  cases e:oP t (g.S.ks (az t))with
  |none=>rw[fJ e];exact⟨h,λs' e'=>by injection e' with e';subst e';exact hs⟩
  |some r=>
   obtain⟨b,ks⟩:=r
   rw[fK e]
   obtain⟨i,k,h1,h2,rfl,rfl⟩:=oG e
   have hk:k∈g.S.ks (az t):=List.mem_of_getElem? h2
   refine⟨h.fH ?_ ?_,λs' e'=>by cases e'⟩
   ·have hl:=h.len (az t) (nM t)
    have hi:=(List.getElem?_eq_some_iff.1 h2).1
    rw[List.length_append,List.length_eraseIdx_of_lt hi]
    simp
    omega
   ·intro x hx
    rcases List.mem_append.1 hx with hx|hx
    ·exact h.body _ x (nM t) (List.mem_of_mem_eraseIdx hx)
    ·simp at hx;subst hx;exact h.body _ k (nM t) hk
 |note t m aG=>
  cases e:g.lk with
  |true=>rw[kF e];exact⟨h,λs' e'=>by cases e'⟩
  |false=>rw[kG e];exact⟨h,λs' e'=>by injection e' with e';subst e';exact⟨hs,h.fs⟩⟩
 |draw t m aG fs=>
  unfold aV
  refine⟨?_,λs' e'=>by cases e'⟩
  show vg (if _ then _ else _)
  split
  ·refine h.fH (Jr h.r0 (h.len _ (nM t))) λx hx=>?_
   rcases y9 hx with hx|rfl
   ·exact h.body _ x (nM t) hx
   ·exact pN hs.2.valid t
  ·exact h
 |lock id p=>
  cases e:g.lk with
  |true=>rw[kD e];exact⟨h,λs' e'=>by cases e'⟩
  |false=>rw[kE e];exact⟨⟨h.fs,h.r0,h.r8,h.len,h.body⟩,λs' e'=>by injection e' with e';subst e';exact⟨hs,by omega⟩⟩
 |forget id p z=>
  refine⟨⟨h.fs,h.r0,h.r8,λk hk=>?_,λk x hk hx=>h.body k x hk (tq _ _ _ _ hx)⟩,λs' e'=>?_⟩
  ·have h1:=tj (bw p g.fs id) k (aR z) (g.S.ks k)
   have h2:=h.len k hk
   show((bW (bw p g.fs id) k (aR z) (g.S.ks k)).length:Int)<=g.S.room
   omega
  ·unfold aV at e'
   injection e' with e'
   subst e'
   split
   ·exact hs.1
   ·exact⟨hs.1,by have:=hs.2;omega⟩
 |finish id p=>exact⟨⟨h.fs.finish hs,h.r0,h.r8,h.len,h.body⟩,λs' e'=>by cases e'⟩
theorem gD(a:fW)(g:Gr)(n:Nat)(s:rJ)(k:Nat):(a.set g n s).ss k=if k=n then s else a.ss k:=rfl
theorem j4(a:fW)(g:Gr)(n:Nat)(s:rJ):(a.set g n s).g=g:=rfl
def cz:Option mz->Bool
 |some (.forget _ _ _)=>true
 |some (.finish _ _)=>true
 |_=>false
def lu:Option mz->Nat
 |none=>0
 |some .bad=>1
 |some (.look _ _)=>3
 |some (.note _ _ _)=>2
 |some (.draw _ _ _ _)=>1
 |some (.lock _ _)=>6
 |some (.forget _ _ z)=>5-z
 |some (.finish _ _)=>1
def sZ:Option mz->Nat
 |some _=>1
 |none=>0
theorem cH(s:rJ):ct s=s.q.length+sZ s.nx:=by
 unfold ct sZ
 cases s.nx<;>rfl
structure iz(a:fW):Prop where
 free:a.g.lk=false->∀n,n<4->cz (a.ss n).nx=false
 held:a.g.lk=true->∃n,n<4/\cz (a.ss n).nx=true
 one:∀n m,n<4->m<4->cz (a.ss n).nx=true->cz (a.ss m).nx=true->n=m
def IM(s:rJ):Option (mz×rJ):=match s.nx with
 |some st=>some (st,s)
 |none=>match s.q with
  |[]=>none
  |x::q=>some (eK (cm x),{s with q:=q})
theorem zm(a:fW)(n:Nat):fF a n=match IM (a.ss n)with|none=>(false,a)|some (st,s)=>kW a n s st:=by
 unfold fF IM
 cases(a.ss n).nx with
 |some st=>rfl
 |none=>cases(a.ss n).q<;>rfl
theorem s8(r:Rd):cz (some (eK r))=false:=by cases r<;>rfl
theorem EG(r:Rd):lu (some (eK r))<=6:=by cases r<;>simp[eK,lu]
theorem yN{s s':rJ}{st:mz}(h:IM s=some (st,s')):ct s=s'.q.length+1/\cz (some st)=cz s.nx/\6*s'.q.length+lu (some st)<=6*s.q.length+lu s.nx/\s'.an=s.an/\(s.nx=some st\/(s.nx=none/\∃x,s.q=x::s'.q/\st=eK (cm x)))/\(∀x∈s'.q,x∈s.q):=by
 unfold IM at h
 rw[cH]
 cases e:s.nx with
 |some t=>
  rw[e]at h
  simp at h
  obtain⟨rfl,rfl⟩:=h
  exact⟨by simp[sZ],rfl,aM,rfl,.inl rfl,λx hx=>hx⟩
 |none=>
  rw[e]at h
  cases e':s.q with
  |nil=>rw[e']at h;cases h
  |cons x q=>
   rw[e']at h
   simp at h
   obtain⟨rfl,rfl⟩:=h
   have:=EG (cm x)
   refine⟨by simp[sZ],s8 _,?_,rfl,.inr ⟨rfl,x,rfl,rfl⟩,λy hy=>List.mem_cons_of_mem _ hy⟩
   show 6*q.length+lu (some (eK (cm x)))<=6*(x::q).length+0
   rw[List.length_cons]
   omega
theorem pF{g:Gr}{s:mz}(h:(aV g s).1=.blocked):g.lk=true/\cz (some s)=false/\(aV g s).2=g:=by
 cases s with
 |bad=>cases h
 |look t m=>
  cases e:oP t (g.S.ks (az t))with
  |none=>rw[fJ e]at h;cases h
  |some r=>rw[fK e]at h;cases h
 |note t m aG=>
  cases e:g.lk with
  |true=>exact⟨rfl,rfl,by simp[aV,e]⟩
  |false=>simp[aV,e]at h
 |draw t m aG fs=>cases h
 |lock id p=>
  cases e:g.lk with
  |true=>exact⟨rfl,rfl,by simp[aV,e]⟩
  |false=>simp[aV,e]at h
 |forget id p z=>cases h
 |finish id p=>cases h
theorem xe{g:Gr}{s s':mz}(hs:jP s)(h:(aV g s).1=.next s'):lu (some s')+1<=lu (some s)/\((cz (some s)=true/\cz (some s')=true/\(aV g s).2.lk=g.lk)\/(cz (some s)=false/\cz (some s')=false/\(aV g s).2.lk=g.lk)\/(cz (some s)=false/\g.lk=false/\cz (some s')=true/\(aV g s).2.lk=true)):=by
 cases s with
 |bad=>cases h
 |look t m=>
  cases e:oP t (g.S.ks (az t))with
  |none=>rw[fJ e]at h⊢;injection h with h;subst h;exact⟨by simp[lu],.inr (.inl ⟨rfl,rfl,rfl⟩)⟩
  |some r=>rw[fK e]at h;cases h
 |note t m aG=>
  cases e:g.lk with
  |true=>simp[aV,e]at h
  |false=>simp[aV,e]at h;subst h;exact⟨by simp[lu],.inr (.inl ⟨rfl,rfl,by simp[aV,e]⟩)⟩
 |draw t m aG fs=>cases h
 |lock id p=>
  cases e:g.lk with
  |true=>simp[aV,e]at h
  |false=>simp[aV,e]at h;subst h;exact⟨by simp[lu],.inr (.inr ⟨rfl,rfl,rfl,by simp[aV,e]⟩)⟩
 |forget id p z=>
  have hz:=hs.2
  unfold aV at h
  injection h with h
  subst h
  by_cases h3:z=3
  ·rw[if_pos h3]
   exact⟨by simp[lu];omega,.inl ⟨rfl,rfl,rfl⟩⟩
  ·rw[if_neg h3]
   exact⟨by simp[lu];omega,.inl ⟨rfl,rfl,rfl⟩⟩
 |finish id p=>cases h
theorem rC{g:Gr}{s:mz}{an:ByteArray}(hs:jP s)(h:(aV g s).1=.answer an):1<=lu (some s)/\((cz (some s)=true/\(aV g s).2.lk=false)\/(cz (some s)=false/\(aV g s).2.lk=g.lk)):=by
 cases s with
 |bad=>exact⟨by simp[lu],.inr ⟨rfl,rfl⟩⟩
 |look t m=>
  cases e:oP t (g.S.ks (az t))with
  |none=>rw[fJ e]at h;cases h
  |some r=>rw[fK e];exact⟨by simp[lu],.inr ⟨rfl,rfl⟩⟩
 |note t m aG=>
  cases e:g.lk with
  |true=>simp[aV,e]at h
  |false=>simp[aV,e]at h
 |draw t m aG fs=>
  refine⟨by simp[lu],.inr ⟨rfl,?_⟩⟩
  show(if _ then _ else _:Gr).lk=_
  split<;>rfl
 |lock id p=>
  cases e:g.lk with
  |true=>simp[aV,e]at h
  |false=>simp[aV,e]at h
 |forget id p z=>cases h
 |finish id p=>exact⟨by simp[lu],.inl ⟨rfl,rfl⟩⟩
def V9(f:Nat->Nat):Nat:=f 0+f 1+f 2+f 3
def qQ(s:rJ):Nat:=6*s.q.length+lu s.nx
def zP(a:fW):Nat:=V9 λn=>ct (a.ss n)
structure Gh(a:fW)(n:Nat)(r:Bool×fW):Prop where
 other:∀k,k≠n->r.2.ss k=a.ss k
 still:r.1=false->r.2.g=a.g/\ct (r.2.ss n)=ct (a.ss n)/\cz (r.2.ss n).nx=cz (a.ss n).nx/\(r.2.ss n).an=(a.ss n).an
 le:qQ (r.2.ss n)<=qQ (a.ss n)
 moved:r.1=true->qQ (r.2.ss n)<qQ (a.ss n)/\((ct (r.2.ss n)=ct (a.ss n)/\(r.2.ss n).an=(a.ss n).an)\/(ct (r.2.ss n)+1=ct (a.ss n)/\∃x,(r.2.ss n).an=(a.ss n).an++[x]))
variable {a:fW} {n:Nat}
theorem JJ(h:jq a)(hn:n<4):Gh a n (fF a n):=by
 rw[zm]
 cases e:IM (a.ss n)with
 |none=>exact⟨λk _=>rfl,λ_=>⟨rfl,rfl,rfl,rfl⟩,aM,λh=>by cases h⟩
 |some r=>
  obtain⟨st,s⟩:=r
  obtain⟨c1,c2,c3,c4,c5,c6⟩:=yN e
  have hst:jP st:=by
   rcases c5 with k|⟨_,x,_,rfl⟩
   ·exact(h.ss n hn).nx st k
   ·exact jJ (jd x)
  show Gh a n (kW a n s st)
  unfold kW
  have hb:=@pF a.g st
  have hx:=@xe a.g st
  have ha:=@rC a.g st
  generalize aV a.g st=q at hb hx ha
  obtain⟨res,g⟩:=q
  cases res with
  |blocked=>
   refine⟨λk hk=>(by rw[gD,if_neg hk]),λ_=>?_,?_,λh=>(by cases h)⟩
   ·show _/\ct ((a.set a.g n {s with nx:=some st}).ss n)=_/\_
    rw[gD,if_pos rfl]
    exact⟨rfl,by rw[cH,c1];rfl,c2,c4⟩
   ·show qQ ((a.set a.g n {s with nx:=some st}).ss n)<=_
    rw[gD,if_pos rfl]
    exact c3
  |next st'=>
   obtain⟨r1,_⟩:=hx hst rfl
   refine⟨λk hk=>(by rw[gD,if_neg hk]),λh=>(by cases h),?_,λ_=>?_⟩
   ·show qQ ((a.set g n {s with nx:=some st'}).ss n)<=_
    rw[gD,if_pos rfl]
    show 6*s.q.length+lu (some st')<=6*_+_
    omega
   ·show qQ ((a.set g n {s with nx:=some st'}).ss n)<_/\_
    rw[gD,if_pos rfl]
    refine⟨?_,.inl ⟨by rw[cH,c1];rfl,c4⟩⟩
    show 6*s.q.length+lu (some st')<6*_+_
    omega
  |answer an=>
   obtain⟨r1,_⟩:=ha hst rfl
   refine⟨λk hk=>(by rw[gD,if_neg hk]),λh=>(by cases h),?_,λ_=>?_⟩
   ·show qQ ((a.set g n {s with nx:=none,an:=s.an++[an]}).ss n)<=_
    rw[gD,if_pos rfl]
    show 6*s.q.length+0<=6*_+_
    omega
   ·show qQ ((a.set g n {s with nx:=none,an:=s.an++[an]}).ss n)<_/\_
    rw[gD,if_pos rfl]
    refine⟨?_,.inr ⟨by rw[cH,c1];rfl,an,by rw[c4]⟩⟩
    show 6*s.q.length+0<6*_+_
    omega
theorem Fv(h:jq a)(hl:iz a)(hn:n<4):iz (fF a n).2:=by
 rw[zm]
 cases e:IM (a.ss n)with
 |none=>exact hl
 |some r=>
  obtain⟨st,s⟩:=r
  obtain⟨c1,c2,c3,c4,c5,c6⟩:=yN e
  have hst:jP st:=by
   rcases c5 with k|⟨_,x,_,rfl⟩
   ·exact(h.ss n hn).nx st k
   ·exact jJ (jd x)
  show iz (kW a n s st).2
  unfold kW
  have hb:=@pF a.g st
  have hx:=@xe a.g st
  have ha:=@rC a.g st
  generalize aV a.g st=q at hb hx ha
  obtain⟨res,g⟩:=q
  have gen:∀(g':Gr) (s':rJ),((cz s'.nx=cz (a.ss n).nx/\g'.lk=a.g.lk)\/(cz (a.ss n).nx=false/\a.g.lk=false/\cz s'.nx=true/\g'.lk=true)\/(cz (a.ss n).nx=true/\cz s'.nx=false/\g'.lk=false))->iz (a.set g' n s'):=by
   intro g' s' hc
   have hss:∀k,cz ((a.set g' n s').ss k).nx=if k=n then cz s'.nx else cz (a.ss k).nx:=λk=>by
    rw[gD]
    split<;>rfl
   rcases hc with⟨k1,k2⟩|⟨k1,k2,k3,k4⟩|⟨k1,k2,k3⟩
   ·have S1:∀k,cz ((a.set g' n s').ss k).nx=cz (a.ss k).nx:=λk=>by
     rw[hss]
     split
     ·rename_i e;rw[e];exact k1
     ·rfl
    refine⟨λe k hk=>?_,λe=>?_,λi j hi hj hI hJ=>?_⟩
    ·rw[S1];exact hl.free (by rw[<-k2];exact e) k hk
    ·obtain⟨m,hm,e'⟩:=hl.held (by rw[<-k2];exact e)
     exact⟨m,hm,by rw[S1];exact e'⟩
    ·rw[S1]at hI hJ;exact hl.one i j hi hj hI hJ
   ·refine⟨λe=>?_,λ_=>⟨n,hn,by rw[hss,if_pos rfl];exact k3⟩,λi j hi hj hI hJ=>?_⟩
    ·rw[j4,k4]at e;cases e
    ·have hf:=hl.free k2
     rw[hss]at hI hJ
     by_cases hin:i=n
     ·by_cases hjn:j=n
      ·rw[hin,hjn]
      ·rw[if_neg hjn,hf j hj]at hJ;cases hJ
     ·rw[if_neg hin,hf i hi]at hI;cases hI
   ·have hf:∀k,k<4->cz ((a.set g' n s').ss k).nx=false:=λk hk=>by
     rw[hss]
     by_cases hkn:k=n
     ·rw[if_pos hkn];exact k2
     ·rw[if_neg hkn]
      cases e':cz (a.ss k).nx with
      |false=>rfl
      |true=>exact absurd (hl.one k n hk hn e' k1) hkn
    refine⟨λ_=>hf,λe=>?_,λi j hi hj hI hJ=>?_⟩
    ·rw[j4,k3]at e;cases e
    ·rw[hf i hi]at hI;cases hI
  have hh:cz (a.ss n).nx=cz (some st):=c2.symm
  cases res with
  |blocked=>
   obtain⟨b1,b2,b3⟩:=hb rfl
   exact gen _ _ (.inl ⟨c2,rfl⟩)
  |next st'=>
   obtain⟨_,k⟩:=hx hst rfl
   rcases k with⟨k1,k2,k3⟩|⟨k1,k2,k3⟩|⟨k1,k2,k3,k4⟩
   ·exact gen _ _ (.inl ⟨by show cz (some st')=_;rw[hh,k1,k2],k3⟩)
   ·exact gen _ _ (.inl ⟨by show cz (some st')=_;rw[hh,k1,k2],k3⟩)
   ·exact gen _ _ (.inr (.inl ⟨by rw[hh];exact k1,k2,k3,k4⟩))
  |answer an=>
   obtain⟨_,k⟩:=ha hst rfl
   rcases k with⟨k1,k2⟩|⟨k1,k2⟩
   ·exact gen _ _ (.inr (.inr ⟨by rw[hh];exact k1,rfl,k2⟩))
   ·exact gen _ _ (.inl ⟨by show cz none=_;rw[hh,k1];rfl,k2⟩)
def kM(I:Nat->Prop)(w:World)(ro:Option Addr)(fs:List aW):Prop:=
 ∃vs:List FV,aT I w ro vs/\vs.map (·.f)=fs/\∀v∈vs,Good I w v
def jt(I:Nat->Prop)(w:World)(p:Option Addr):Option aW->Prop
 |none=>p=none
 |some f=>∃R b o cap:Nat,p=some ⟨R,5,none⟩/\I R/\w.cell? ⟨R,5,none⟩=some (.int .i64 f.id)/\w.cell? ⟨R,6,none⟩=some (.int .i64 f.kd)/\w.cell? ⟨R,7,none⟩=some (.int .i64 f.ht)/\w.cell? ⟨R,8,none⟩=some (.int .i64 f.col)/\w.cell? ⟨R,9,none⟩=some (.slice (some ⟨b,o,none⟩) f.ps.length cap)/\Good I w ⟨f,b,o,cap⟩
def fX(I:Nat->Prop)(w:World):mz->Value->Prop
 | .bad,v=>v=.func (.func 176) #[] #[]
 | .look t m,v=>v=.func (.func 174) #[kZ t m 0 none] #[]
 | .note t m aG,v=>v=.func (.func 191) #[kZ t m aG none] #[]
 | .draw t m aG fs,v=>∃ro,v=.func (.func 205) #[kZ t m aG ro] #[]/\kM I w ro fs
 | .lock id p,v=>∃a,v=.func (.func 175) #[gL id a 0] #[]/\jt I w a p
 | .forget id p z,v=>∃a,v=.func (.func 193) #[gL id a (z:Int)] #[]/\jt I w a p
 | .finish id p,v=>∃a,v=.func (.func 208) #[gL id a 3] #[]/\jt I w a p
def rQ(I:Nat->Prop)(w:World):Option mz->Value->Prop
 |none,v=>v=.nilFunc
 |some s,v=>fX I w s v
variable {I:Nat->Prop}
theorem Good.same{A B:World}(h:Same I A B){v:FV}(g:Good I A v):Good I B v:=
 ⟨g.1,g.2.1,g.2.2.1,λk x y e=>⟨h _ _ _ g.2.1 (g.2.2.2 k x y e).1,h _ _ _ g.2.1 (g.2.2.2 k x y e).2⟩⟩
variable {J:Nat->Prop}
theorem Good.mono{A:World}(h:∀b,I b->J b){v:FV}(g:Good I A v):Good J A v:=⟨g.1,h _ g.2.1,g.2.2⟩
variable {ro:Option Addr}
theorem kM.same{A B:World}(h:Same I A B)(t:kM I A ro fs):kM I B ro fs:=by
 obtain⟨vs,h1,h2,h3⟩:=t
 exact⟨vs,h1.same h,h2,λv hv=>(h3 v hv).same h⟩
theorem kM.mono{A:World}(h:∀b,I b->J b)(t:kM I A ro fs):kM J A ro fs:=by
 obtain⟨vs,h1,h2,h3⟩:=t
 exact⟨vs,h1.mono h,h2,λv hv=>(h3 v hv).mono h⟩
theorem jt.same{A B:World}(h:Same I A B){a:Option Addr}(t:jt I A a p):jt I B a p:=by
 cases p with
 |none=>exact t
 |some f=>
  obtain⟨R,b,o,cap,e,hR,c5,c6,c7,c8,c9,g⟩:=t
  exact⟨R,b,o,cap,e,hR,h _ _ _ hR c5,h _ _ _ hR c6,h _ _ _ hR c7,h _ _ _ hR c8,h _ _ _ hR c9,g.same h⟩
theorem jt.mono{A:World}(h:∀b,I b->J b){a:Option Addr}(t:jt I A a p):jt J A a p:=by
 cases p with
 |none=>exact t
 |some f=>
  obtain⟨R,b,o,cap,e,hR,c5,c6,c7,c8,c9,g⟩:=t
  exact⟨R,b,o,cap,e,h _ hR,c5,c6,c7,c8,c9,g.mono h⟩
theorem fX.same{A B:World}(h:Same I A B){s:mz}{v:Value}(t:fX I A s v):fX I B s v:=by
 cases s with
 |bad=>exact t
 |look t' m=>exact t
 |note t' m aG=>exact t
 |draw t' m aG fs=>obtain⟨ro,e,k⟩:=t;exact⟨ro,e,k.same h⟩
 |lock id p=>obtain⟨a,e,k⟩:=t;exact⟨a,e,k.same h⟩
 |forget id p z=>obtain⟨a,e,k⟩:=t;exact⟨a,e,k.same h⟩
 |finish id p=>obtain⟨a,e,k⟩:=t;exact⟨a,e,k.same h⟩
theorem fX.mono{A:World}(h:∀b,I b->J b){s:mz}{v:Value}(t:fX I A s v):fX J A s v:=by
 cases s with
 |bad=>exact t
 |look t' m=>exact t
 |note t' m aG=>exact t
 |draw t' m aG fs=>obtain⟨ro,e,k⟩:=t;exact⟨ro,e,k.mono h⟩
 |lock id p=>obtain⟨a,e,k⟩:=t;exact⟨a,e,k.mono h⟩
 |forget id p z=>obtain⟨a,e,k⟩:=t;exact⟨a,e,k.mono h⟩
 |finish id p=>obtain⟨a,e,k⟩:=t;exact⟨a,e,k.mono h⟩
theorem rQ.same{A B:World}(h:Same I A B){s:Option mz}{v:Value}(t:rQ I A s v):rQ I B s v:=by
 cases s with
 |none=>exact t
 |some s=>exact fX.same h t
theorem rQ.mono{A:World}(h:∀b,I b->J b){s:Option mz}{v:Value}(t:rQ I A s v):rQ J A s v:=by
 cases s with
 |none=>exact t
 |some s=>exact fX.mono h t
variable {w:World}
theorem fX.fn{s:mz}{v:Value}(t:fX I w s v):∃f b,v=.func (.func f) b #[]/\Enters f:=by
 cases s with
 |bad=>exact⟨_,_,t,I2⟩
 |look t' m=>exact⟨_,_,t,IZ⟩
 |note t' m aG=>exact⟨_,_,t,I3⟩
 |draw t' m aG fs=>obtain⟨ro,e,k⟩:=t;exact⟨_,_,e,I5⟩
 |lock id p=>obtain⟨a,e,k⟩:=t;exact⟨_,_,e,I0⟩
 |forget id p z=>obtain⟨a,e,k⟩:=t;exact⟨_,_,e,I4⟩
 |finish id p=>obtain⟨a,e,k⟩:=t;exact⟨_,_,e,I6⟩
variable {M:Nat->Nat->Prop}
theorem Same.fr{A B:World}(h:Fr M A B)(hI:∀b,I b->b<A.heap.size)(hM:∀b i,I b->¬M b i):Same I A B:=λb o _ hb e=>(h.cell b o (hI b hb) (hM b o hb)).trans e
structure kf where
 I:Nat->Prop
 sv:Nat->Value
 cb:Nat->Nat
 av:Nat->Value
 nv:Nat->Value
 sn:Nat->Nat
 rn:Nat->Nat
def kf.own(x:kf)(A i:Nat):Option Nat:=if i=0 then some A else if i<5 then(x.sv (i-1)).ownBlock else if i<9 then some (x.cb (i-5))else(x.av (i-9)).ownBlock
def kf.Own(x:kf)(A b:Nat):Prop:=∃i,i<13/\x.own A i=some b
structure mU(w:World)(A:Nat)(x:kf)(n:Nat)(s:rJ):Prop where
 q:BJ w A (11+n*3) (x.cb n) 6 (s.q.map .string).toArray (x.sn n) (x.rn n) (x.nv n)
 f1:w.frozen? ⟨A,11+n*3+1,none⟩=false
 nx:rQ x.I w s.nx (x.nv n)
 an:jM w A (11+n*3) (x.av n) (s.an.map .string)
structure au(w:World)(A:Nat)(x:kf)(a:fW):Prop where
 gl:Gl w
 ok:jq a
 root:∃ro,w.cell? ⟨A,0,none⟩=some (.pointer ro)/\kM x.I w ro a.g.fs
 rf:w.frozen? ⟨A,0,none⟩=false
 lk:w.cell? ⟨A,1,none⟩=some (.bool a.g.lk)
 lf:w.frozen? ⟨A,1,none⟩=false
 sh:dI w A 2 x.sv a.g.S
 lB:∀n,n<4->mU w A x n (a.ss n)
 fD:∀i b,i<13->x.own A i=some b->¬x.I b/\8<=b/\b<w.heap.size
 apart:∀i j b,i<13->j<13->i≠j->x.own A i=some b->x.own A j≠some b
 lt:∀b,x.I b->8<=b/\b<w.heap.size
theorem eu(x:kf)(A:Nat):x.own A 0=some A:=rfl
theorem fE(x:kf)(A k:Nat)(hk:k<4):x.own A (k+1)=(x.sv k).ownBlock:=by
 unfold kf.own
 rw[if_neg (by omega),if_pos (by omega),Nat.add_sub_cancel]
theorem eN(x:kf)(A k:Nat)(hk:k<4):x.own A (k+5)=some (x.cb k):=by
 unfold kf.own
 rw[if_neg (by omega),if_neg (by omega),if_pos (by omega),Nat.add_sub_cancel]
theorem eM(x:kf)(A k:Nat):x.own A (k+9)=(x.av k).ownBlock:=by
 unfold kf.own
 rw[if_neg (by omega),if_neg (by omega),if_neg (by omega),Nat.add_sub_cancel]
variable {x:kf}
theorem au.A8{A:Nat}(h:au w A x a):8<=A/\A<w.heap.size:=(h.fD 0 A (by omega) (eu x A)).2
def s9:List Bx->List Value
 |[]=>[]
 |b::bs=> .int .i64 b.l::.int .i64 b.t::.int .i64 b.r::.int .i64 b.b::s9 bs
theorem P6:(prog.info? 141).map (λi=>(i.zero,i.size,i.bytes))=some (some (.agg #[.int .i64 0,.int .i64 0,.int .i64 0,.int .i64 0]),4,32):=by kernel_rfl
variable {f:aW}
theorem qC(hd:kg fs)(hf:f∈fs):findF f.id fs=some f:=by
 unfold findF
 induction fs with
 |nil=>cases hf
 |cons g r ih=>
  have hd':=List.nodup_cons.1 (show(g.id::r.map (·.id)).Nodup from hd)
  rw[List.find?_cons]
  rcases List.mem_cons.1 hf with rfl|hf
  ·simp
  ·have:¬g.id=f.id:=λe=>hd'.1 (by rw[e];exact List.mem_map_of_mem hf)
   rw[show(g.id==f.id)=false by simp[this]]
   exact ih hd'.2 hf
theorem LS{id:Int}(h:∀f∈fs,f.id≠id):findF id fs=none:=by
 unfold findF
 rw[List.find?_eq_none]
 intro f hf
 simp[h f hf]
theorem Mf(hf:f∈fs):eV f.id fs=true:=by
 unfold eV
 rw[List.any_eq_true]
 exact⟨f,hf,by simp⟩
theorem Mg{id:Int}(h:∀f∈fs,f.id≠id):eV id fs=false:=by
 unfold eV
 rw[List.any_eq_false]
 intro f hf
 simp[h f hf]
theorem uO(w:World)(a:Addr):Sem.run prog (binOp BinOp.neq 292 (.pointer (some a)) (.pointer none)) w=.ok (.bool true) w:=by kernel_rfl
theorem lG(h:aj f=true):1<=f.ps.length/\f.ps.length<=6:=by
 simp only[aj,Bool.and_eq_true,fS,decide_eq_true_eq]at h
 omega
variable {base size:Nat} {e:TypeId} {xs:List Value}
theorem jY{A B:World}(h:Below A.heap.size A B){v:Value}(o:A.ownsRow base e size v n xs)(ob:Obj):(B.alloc ob).ownsRow base e size v n xs:=
 (bD (M:=λ_ _=>False) (Fr.of_below h) o (λ_ _ _ e=>e)).alloc ob
theorem IE(I:Nat->Prop)(id z:Int)(a:Option Addr)(p:Option aW)(ro:Option Addr)(vs:List FV)(w:World)(hI:∀b,I b->b<w.heap.size)(hp:jt I w a p)(hR:aT I w ro vs)(hg:∀v∈vs,Good I w v)(hd:kg (vs.map (·.f))):
  Calls prog 207 #[gL id a z,.agg #[.pointer ro]] w λe w'=>∃v,e=.returned v/\w'.ownsRow w.heap.size 141 4 v (bw p (vs.map (·.f)) id).length (s9 (bw p (vs.map (·.f)) id))/\Below w.heap.size w w':=by
 have HR:=af hR
 have HG:=af hg
 have hF:∀W:World,Below w.heap.size w W->Calls prog 224 #[.agg #[.pointer ro],.int .i64 id] W λe w'=>((∃u∈vs,findF id (vs.map (·.f))=some u.f/\e=.returned (.tuple #[mX u,.bool true]))\/(findF id (vs.map (·.f))=none/\e=.returned (.tuple #[.agg #[.int .i64 0,.int .i64 0,.int .i64 0,.int .i64 0,.slice none 0 0],.bool false])))/\Below W.heap.size W w':=λW hW=>by
  refine(Bk I ro vs id W (λb hb=>Nat.lt_of_lt_of_le (hI b hb) hW.size) (aT.same hR (Same.of_below hW hI)) (λv hv=>Good.below hW hI (hg v hv))).mono ?_
  rintro e w' ⟨v,rfl,hv,hb⟩
  refine⟨?_,hb⟩
  rcases hv with⟨u,hu,hid,rfl⟩|⟨hn,rfl⟩
  ·left
   refine⟨u,hu,?_,rfl⟩
   rw[<-hid]
   exact qC hd (List.mem_map_of_mem (f:=(·.f)) hu)
  ·right
   refine⟨LS λf hf=>?_,rfl⟩
   obtain⟨u,hu,rfl⟩:=List.mem_map.1 hf
   exact hn u hu
 have HF:Hid _:=hF
 have HB:Hid (∀(u:FV) (W:World),Good I w u->Below w.heap.size w W->Calls prog 53 #[.slice (some ⟨u.pb,u.po,none⟩) u.f.ps.length u.cap] W λe w'=>e=.returned (.agg #[.int .i64 (aD u.f.ps).l,.int .i64 (aD u.f.ps).t,.int .i64 (aD u.f.ps).r,.int .i64 (aD u.f.ps).b])/\Below W.heap.size W w'):=λu W hu hW=>by
  have hl:=lG hu.1
  refine nU u.pb u.po u.f.ps.length u.cap u.f.ps W ⟨Nat.lt_of_lt_of_le (hI _ hu.2.1) hW.size,λk x y e=>?_⟩ rfl hl.1 (by omega) hu.2.2.1
  have:=hu.2.2.2 k x y e
  exact⟨(hW.cell (p:=⟨u.pb,_,none⟩) (hI _ hu.2.1)).trans this.1,(hW.cell (p:=⟨u.pb,_,none⟩) (hI _ hu.2.1)).trans this.2⟩
 obtain⟨i141,eH,hz0,hz1,hz2⟩:=info_parts P6
 have HI:Hid (prog.info? 141=some i141/\i141.zero=some (.agg #[.int .i64 0,.int .i64 0,.int .i64 0,.int .i64 0])/\i141.size=4/\i141.bytes=32):=⟨eH,hz0,hz1,hz2⟩
 have PN:∀o o':Obj,Below w.heap.size w ((w.alloc o).alloc o'):=λo o'=>aU.alloc (by simp) _
 have HD:=af hd
 clear eH hz0 hz1 hz2 hF hR hg hd
 obtain⟨ff,Y4⟩:∃ff,findF id (vs.map (·.f))=ff:=⟨_,rfl⟩
 have HFF:Hid (bw p (vs.map (·.f)) id=(p.toList++ff.toList).map λf=>aD f.ps):=by show bw p _ id=_;unfold bw;rw[Y4]
 rw[HFF.out]
 have WA:Hid (∀W:World,Below w.heap.size w W->Calls prog 224 #[.agg #[.pointer ro],.int .i64 id] W λe w'=>((∃u∈vs,ff=some u.f/\e=.returned (.tuple #[mX u,.bool true]))\/(ff=none/\e=.returned (.tuple #[.agg #[.int .i64 0,.int .i64 0,.int .i64 0,.int .i64 0,.slice none 0 0],.bool false])))/\Below W.heap.size W w'):=by
  show∀W:World,_->_
  rw[<-Y4]
  exact HF.out
 have hfx:ff=none\/∃u∈vs,ff=some u.f:=by
  cases ff with
  |none=>exact .inl rfl
  |some g=>
   right
   have:=List.mem_of_find?_eq_some (show(vs.map (·.f)).find? (λf=>f.id==id)=some g from Y4)
   obtain⟨u,hu,rfl⟩:=List.mem_map.1 this
   exact⟨u,hu,rfl⟩
 clear HF HFF
 rcases hfx with rfl|⟨u,hu,rfl⟩
 ·have HF:Hid (∀W:World,Below w.heap.size w W->Calls prog 224 #[.agg #[.pointer ro],.int .i64 id] W λe w'=>e=.returned (.tuple #[.agg #[.int .i64 0,.int .i64 0,.int .i64 0,.int .i64 0,.slice none 0 0],.bool false])/\Below W.heap.size W w'):=λW hW=>(WA.out W hW).mono λe w' h=>⟨h.1.elim (λ⟨_,_,e,_⟩=>by cases e) (λh=>h.2),h.2⟩
  clear WA
  cases p with
  |none=>
   have ha:a=none:=hp
   subst ha
   clear hp
   go_enter func207,ntmps207
   go_wp2_with (go_at_call 224;refine aq (HF.out _ (PN _ _)) ?_;rintro e w3 ⟨rfl,hb3⟩;dsimp only)
   go_ret
   exact⟨_,rfl,World.ownsRow_nil _ _ _ _,((PN _ _).trans (hb3.mono (by simp;omega))).alloc (by have:=hb3.size;simp at this;omega) _⟩
  |some f=>
   obtain⟨R,b,o,cap,rfl,hR,c5,c6,c7,c8,c9,hgd⟩:=hp
   have OT:=af hgd
   have hne:=uO
   have YJ:=hI R hR
   clear hgd
   go_enter func207,ntmps207
   go_wp2_with (first
    |(go_at_call 53;refine aq (HB.out ⟨f,b,o,cap⟩ _ OT.out (PN _ _)) ?_;rintro e w1 ⟨rfl,hb1⟩;dsimp only;have hs1:=hb1.size;have hB1:Below w.heap.size w w1:=(PN _ _).trans (hb1.mono (by simp;omega)))
    |(at_builtin;refine wpList_append_own _ rfl (.tmp 11) (.tmp 18) 319 rfl w.heap.size 141 i141 (.agg #[.int .i64 0,.int .i64 0,.int .i64 0,.int .i64 0]) 4 32 underlying319 HI.out.1 HI.out.2.1 HI.out.2.2.1 HI.out.2.2.2 rfl (by decide) (.slice none 0 0) 0 [] rfl (World.ownsRow_nil _ _ _ _) ⟨w1.heap.size,0,none⟩ 1 1 [.int .i64 (aD f.ps).l,.int .i64 (aD f.ps).t,.int .i64 (aD f.ps).r,.int .i64 (aD f.ps).b] rfl rfl (λj u hj=>by
    rw[addr_add]
    match j,hj with
    |0,hj=>simp at hj;subst hj;simp[go_sem]
    |1,hj=>simp at hj;subst hj;simp[go_sem]
    |2,hj=>simp at hj;subst hj;simp[go_sem]
    |3,hj=>simp at hj;subst hj;simp[go_sem]
    |j+4,hj=>simp at hj) (λu hu=>by simp at hu;rcases hu with hu|hu|hu|hu<;>(subst hu;rfl)) (by unfold maxLen;omega) (by omega) (by have:=hB1.size;simp;omega) ?_;intro v2 w2 hown2 hgrow2 _;have hB2:Below w.heap.size w w2:=((hB1.alloc hB1.size _)).grown hgrow2 (by have:=hB1.size;simp;omega) (λk hk=>by cases hk);have hl2:Below w1.heap.size w1 w2:=(aU).grown hgrow2 (by simp) (λk hk=>by cases hk);obtain⟨g2,c2,rfl,_,_⟩:=dc hown2;have DN:=af hown2;have hc0:=(hl2.cell (p:=⟨w.heap.size,0,none⟩) (show w.heap.size<w1.heap.size by simp at hs1;omega)).trans ((hb1.cell (p:=⟨w.heap.size,0,none⟩) (by simp;omega)).trans (show _=some (Value.int .i64 id)by simp[go_sem]));have hc1:=(hl2.cell (p:=⟨w.heap.size+1,0,none⟩) (show w.heap.size+1<w1.heap.size by simp at hs1;omega)).trans ((hb1.cell (p:=⟨w.heap.size+1,0,none⟩) (by simp)).trans (show _=some (Value.pointer ro)by simp[go_sem]));clear hown2 hgrow2)
    |(go_at_call 224;refine aq (HF.out _ hB2) ?_;rintro e w3 ⟨rfl,hb3⟩;dsimp only))
   go_ret
   exact⟨_,rfl,jY hb3 DN.out _,(hB2.trans (hb3.mono hB2.size)).alloc (Nat.le_trans hB2.size hb3.size) _⟩
 ·have HF:Hid (∀W:World,Below w.heap.size w W->Calls prog 224 #[.agg #[.pointer ro],.int .i64 id] W λe w'=>∃u2∈vs,u.f=u2.f/\e=.returned (.tuple #[mX u2,.bool true])/\Below W.heap.size W w'):=λW hW=>(WA.out W hW).mono λe w' h=>h.1.elim (λ⟨u2,h1,h2,h3⟩=>⟨u2,h1,Option.some.inj h2,h3,h.2⟩) (λh=>by cases h.1)
  clear WA
  cases p with
  |none=>
   have ha:a=none:=hp
   subst ha
   clear hp
   go_enter func207,ntmps207
   go_wp2_with (first
    |(go_at_call 224;refine aq (HF.out _ (PN _ _)) ?_;rintro e w3 ⟨u2,hu2,OD,rfl,hb3⟩;simp only[mX];have hs3:=hb3.size;have HU:=af hu2;have XC:=af OD;clear hu2 OD)
    |(go_at_call 53;refine aq (HB.out u2 _ (HG.out u2 HU.out) (((PN _ _).trans (hb3.mono (by simp;omega))).alloc (by simp at hs3;omega) _)) ?_;rintro e w4 ⟨rfl,hb4⟩;dsimp only;have mJ:=hb4.size)
    |(at_builtin;refine wpList_append_own _ rfl (.tmp 28) (.tmp 32) 319 rfl w.heap.size 141 i141 (.agg #[.int .i64 0,.int .i64 0,.int .i64 0,.int .i64 0]) 4 32 underlying319 HI.out.1 HI.out.2.1 HI.out.2.2.1 HI.out.2.2.2 rfl (by decide) (.slice none 0 0) 0 [] rfl (World.ownsRow_nil _ _ _ _) ⟨w4.heap.size,0,none⟩ 1 1 [.int .i64 (aD u2.f.ps).l,.int .i64 (aD u2.f.ps).t,.int .i64 (aD u2.f.ps).r,.int .i64 (aD u2.f.ps).b] rfl rfl (λj u hj=>by
    rw[addr_add]
    match j,hj with
    |0,hj=>simp at hj;subst hj;simp[go_sem]
    |1,hj=>simp at hj;subst hj;simp[go_sem]
    |2,hj=>simp at hj;subst hj;simp[go_sem]
    |3,hj=>simp at hj;subst hj;simp[go_sem]
    |j+4,hj=>simp at hj) (λu hu=>by simp at hu;rcases hu with hu|hu|hu|hu<;>(subst hu;rfl)) (by unfold maxLen;omega) (by omega) (by simp at hs3 mJ;simp;omega) ?_;intro v5 w5 a_ bf _;have Oz:Below w.heap.size w w5:=((((((PN _ _).trans (hb3.mono (by simp;omega))).alloc (by simp at hs3;omega) _).trans (hb4.mono (by simp at hs3;simp;omega))).alloc (by simp at hs3 mJ;omega) _)).grown bf (by simp at hs3 mJ;simp;omega) (λk hk=>by cases hk);obtain⟨g5,c5,rfl,_,_⟩:=dc a_;have uG:Hid _:=a_;clear a_ bf))
   go_ret
   refine⟨_,rfl,?_,Oz⟩
   rw[XC.out]
   exact uG.out
  |some f=>
   obtain⟨R,b,o,cap,rfl,hR,c5,c6,c7,c8,c9,hgd⟩:=hp
   have OT:=af hgd
   have hne:=uO
   have YJ:=hI R hR
   clear hgd
   go_enter func207,ntmps207
   go_wp2_with (first
    |(at_builtin;refine wpList_append_own _ rfl (.tmp 28) (.tmp 32) 319 rfl w.heap.size 141 i141 (.agg #[.int .i64 0,.int .i64 0,.int .i64 0,.int .i64 0]) 4 32 underlying319 HI.out.1 HI.out.2.1 HI.out.2.2.1 HI.out.2.2.2 rfl (by decide) (.slice (some ⟨g2,0,none⟩) 1 c2) 1 [.int .i64 (aD f.ps).l,.int .i64 (aD f.ps).t,.int .i64 (aD f.ps).r,.int .i64 (aD f.ps).b] rfl (jY hb4 (jY hb3 DN.out _) _) ⟨w4.heap.size,0,none⟩ 1 1 [.int .i64 (aD u2.f.ps).l,.int .i64 (aD u2.f.ps).t,.int .i64 (aD u2.f.ps).r,.int .i64 (aD u2.f.ps).b] rfl rfl (λj u hj=>by
    rw[addr_add]
    match j,hj with
    |0,hj=>simp at hj;subst hj;simp[go_sem]
    |1,hj=>simp at hj;subst hj;simp[go_sem]
    |2,hj=>simp at hj;subst hj;simp[go_sem]
    |3,hj=>simp at hj;subst hj;simp[go_sem]
    |j+4,hj=>simp at hj) (λu hu=>by simp at hu;rcases hu with hu|hu|hu|hu<;>(subst hu;rfl)) (by unfold maxLen;omega) (by omega) (by have:=hB2.size;simp at hs3 mJ;simp;omega) ?_;intro v5 w5 a_ bf _;have Oz:Below w.heap.size w w5:=((((hB2.trans (hb3.mono hB2.size)).alloc (Nat.le_trans hB2.size hb3.size) _).trans (hb4.mono (by have:=hB2.size;simp;omega))).alloc (by have:=hB2.size;simp at mJ;omega) _).grown bf (by have:=hB2.size;simp at mJ;simp;omega) (λk hk=>(DN.out.lt k hk).1);obtain⟨g5,c5,rfl,_,_⟩:=dc a_;have uG:Hid _:=a_;clear a_ bf)
    |(go_at_call_of 53 (Value.slice (some ⟨u2.pb,u2.po,none⟩) u2.f.ps.length u2.cap);refine aq (HB.out u2 _ (HG.out u2 HU.out) ((hB2.trans (hb3.mono hB2.size)).alloc (Nat.le_trans hB2.size hb3.size) _)) ?_;rintro e w4 ⟨rfl,hb4⟩;dsimp only;have mJ:=hb4.size)
    |(go_at_call 224;refine aq (HF.out _ hB2) ?_;rintro e w3 ⟨u2,hu2,OD,rfl,hb3⟩;simp only[mX];have hs3:=hb3.size;have HU:=af hu2;have XC:=af OD;clear hu2 OD)
    |(at_builtin;refine wpList_append_own _ rfl (.tmp 11) (.tmp 18) 319 rfl w.heap.size 141 i141 (.agg #[.int .i64 0,.int .i64 0,.int .i64 0,.int .i64 0]) 4 32 underlying319 HI.out.1 HI.out.2.1 HI.out.2.2.1 HI.out.2.2.2 rfl (by decide) (.slice none 0 0) 0 [] rfl (World.ownsRow_nil _ _ _ _) ⟨w1.heap.size,0,none⟩ 1 1 [.int .i64 (aD f.ps).l,.int .i64 (aD f.ps).t,.int .i64 (aD f.ps).r,.int .i64 (aD f.ps).b] rfl rfl (λj u hj=>by
    rw[addr_add]
    match j,hj with
    |0,hj=>simp at hj;subst hj;simp[go_sem]
    |1,hj=>simp at hj;subst hj;simp[go_sem]
    |2,hj=>simp at hj;subst hj;simp[go_sem]
    |3,hj=>simp at hj;subst hj;simp[go_sem]
    |j+4,hj=>simp at hj) (λu hu=>by simp at hu;rcases hu with hu|hu|hu|hu<;>(subst hu;rfl)) (by unfold maxLen;omega) (by omega) (by have:=hB1.size;simp;omega) ?_;intro v2 w2 hown2 hgrow2 _;have hB2:Below w.heap.size w w2:=((hB1.alloc hB1.size _)).grown hgrow2 (by have:=hB1.size;simp;omega) (λk hk=>by cases hk);have hl2:Below w1.heap.size w1 w2:=(aU).grown hgrow2 (by simp) (λk hk=>by cases hk);obtain⟨g2,c2,rfl,_,_⟩:=dc hown2;have DN:=af hown2;have hc0:=(hl2.cell (p:=⟨w.heap.size,0,none⟩) (show w.heap.size<w1.heap.size by simp at hs1;omega)).trans ((hb1.cell (p:=⟨w.heap.size,0,none⟩) (by simp;omega)).trans (show _=some (Value.int .i64 id)by simp[go_sem]));have hc1:=(hl2.cell (p:=⟨w.heap.size+1,0,none⟩) (show w.heap.size+1<w1.heap.size by simp at hs1;omega)).trans ((hb1.cell (p:=⟨w.heap.size+1,0,none⟩) (by simp)).trans (show _=some (Value.pointer ro)by simp[go_sem]));clear hown2 hgrow2)
    |(go_at_call_of 53 (Value.slice (some ⟨b,o,none⟩) f.ps.length cap);refine aq (HB.out ⟨f,b,o,cap⟩ _ OT.out (PN _ _)) ?_;rintro e w1 ⟨rfl,hb1⟩;dsimp only;have hs1:=hb1.size;have hB1:Below w.heap.size w w1:=(PN _ _).trans (hb1.mono (by simp;omega))))
   go_ret
   refine⟨_,rfl,?_,Oz⟩
   rw[XC.out]
   exact uG.out
end
end Go.Proofs.YtenaepdmlknlcaaGreatDoor
