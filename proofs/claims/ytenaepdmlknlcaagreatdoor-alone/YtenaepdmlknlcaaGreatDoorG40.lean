import Derived.Test.YtenaepdmlknlcaaGreatDoorG31
import Derived.Test.YtenaepdmlknlcaaGreatDoorG38
import Derived.Test.YtenaepdmlknlcaaGreatDoorG39
open Go.Proofs.Tryz
set_option maxRecDepth 100000
set_option maxHeartbeats 8000000
namespace Go.Proofs.YtenaepdmlknlcaaGreatDoor
section
open Go.RowKit Go.Shelf
structure yF(R:dw):Prop where
 all:R.all.length<=900
 sh:∀k,k<4->(R.sh k).length<=1000
 body:∀k x,k<4->x∈R.sh k->x.body.size<=1000
 q:∀n,n<4->(R.ss n).q.length<=6
 an:∀n,n<4->(R.ss n).an.length<=8000000
 nt:∀n,n<4->(R.ss n).nt.length<=900
def lQ(s:kL):Prop:=match s.q with
 |[]=>True
 | .bad::_=>True
 | .get _ _::_=>s.step<=2
 | .put _::_=>s.step<=5
 | .del _::_=>s.step<=5
variable {w:World} {vq vn va:Value} {qc:List RQ} {ng:List FG} {P:Nat->Prop}
theorem pK.first{A n:Nat}{s:kL}{x:RQ}(h:pK w A n s vq (x::qc) vn ng va P):∃g off cap,vq=.slice (some ⟨g,off,none⟩) (qc.length+1) cap/\g<w.heap.size/\∀i u,x.cs[i]? =some u->w.cell? ⟨g,off+i,none⟩=some u:=by
 have hq:ak w 0 220 10 vq (qc.length+1) (x.cs++fZ qc):=h.q
 obtain⟨g,off,cap,rfl,_,_⟩:=hq.more
 refine⟨g,off,cap,rfl,(hq.lt rfl).2,λi u hi=>?_⟩
 have hl:i<10:=by
  have:=(List.getElem?_eq_some_iff.1 hi).1
  rwa[x.len]at this
 have:=hq.cells i u (by rw[List.getElem?_append_left (by rw[x.len];exact hl)];exact hi)
 rwa[addr_add]at this
theorem ED{a:Option Addr}{cap:Nat}(h:ak w 0 32 5 (.slice a ng.length cap) ng.length (cu ng))(hok:∀g∈ng,zU P w g):nW w a ng:=by
 by_cases e:ng=[]
 ·exact .inl e
 ·obtain⟨a',cap',e1,_,hg⟩:=h.form
  obtain⟨g,off,ha,_⟩:=hg (List.length_pos_iff.2 e)
  injection e1 with e1
  rw[<-e1]at ha
  subst ha
  refine .inr ⟨g,off,rfl,(h.lt rfl).2,λi x hx=>?_⟩
  have hi:i<ng.length:=(List.getElem?_eq_some_iff.1 hx).1
  have hc:∀j,j<5->w.cell? ⟨g,off+i*5+j,none⟩=(LP x)[j]? :=λj hj=>by
   rw[<-m_ hx j hj,Nat.add_assoc]
   exact h.cell (j:=i*5+j) (by omega)
  have hx':=hok x (List.mem_of_getElem? hx)
  exact⟨hc 0 (by omega),hc 1 (by omega),hc 2 (by omega),hc 3 (by omega),hc 4 (by omega),hx'.p,hx'.c,by have:=lG hx'.v;omega⟩
variable {t:Tl}
theorem Sb(hnt:ak w 0 32 5 vn ng.length (cu ng))(hok:∀g∈ng,zU P w g)(hlen:ng.length<=900)(ht:t.good)(W:World)(hb:Below w.heap.size w W):
  Calls prog 64 #[vn,.agg #[.int .i64 t.z,.int .i64 t.c,.int .i64 t.r]] W λe w'=>e=.returned (.string (aX (ng.map (·.f)) t))/\Below W.heap.size W w':=by
 obtain⟨a,cap,rfl,_,_⟩:=hnt.form
 obtain⟨hz,hc0,hc1,Xd,hr1,hcb,hrb⟩:=j7 ht
 have hv:∀g∈ng,aj g.f=true:=λg hg=>(hok g hg).v
 have h1:=JR a ng.length cap (ng.map FG.fv) t.z (pZ t.z) t.c t.r W (((ED hnt hok).below hb).LN hv) (by rw[List.length_map]) (by omega) (λv hv'=>by
  obtain⟨g,hg,rfl⟩:=List.mem_map.1 hv'
  rw[FG.UE];exact hv g hg) hz hc0 hc1 Xd hr1 hcb hrb
 have e:aX (ng.map (·.f)) t=⟨(iO (ng.map FG.fv) (pZ t.z) t.c t.r).toArray⟩:=by
  unfold aX
  rw[B1 (fs:=ng.map (·.f)) (by rw[List.map_map];exact List.map_congr_left λg _=>FG.UE g) t]
 rw[e]
 exact h1
variable {ks:List Kp} {i:Nat}
theorem BX{k:Kp}(h:ks[i]? =some k):rU ks i=k.body:=by unfold rU;rw[h];rfl
variable {R:dw}
theorem Pd{A n:Nat}{V:RW}{Z:Nat->Prop}(h:bH w A R V)(hZ:∀b,Z b↔V.Z A b)(ok:yF R)(hn:n<4){m:ByteArray}{x:RQ}(hq:V.qc n=x::qc)(hx:x.r=.get t m)(hst:(R.ss n).step<=2):
  Calls prog 113 #[.pointer (some ⟨A,0,none⟩),.int .i64 (n:Int),.agg #[.int .i64 1,.int .i64 t.z,.int .i64 t.c,.int .i64 t.r,.string m,.int .i64 0,.int .i64 0,.int .i64 0,.int .i64 0,.slice none 0 0]] w λe w'=>e=.returned (.bool (jF R n t m).1)/\bF A Z (jF R n t m).2 w w':=by
 have hs:=h.s n hn
 have dQ:t.good:=by
  have:=hs.ND x (by rw[hq];exact List.mem_cons_self)
  unfold RQ.ok at this
  rw[hx]at this
  exact this
 have ht:=gQ dQ
 have j_:=bg t
 have hK:=h.g.sh.k (az t) j_
 have hrow:ak w 0 220 10 (V.vq n) (qc.length+1) (fZ (x::qc)):=by have:=hs.q;rw[hq]at this;exact this
 have uK:qc.length<=1000:=by
  have h1:=ok.q n hn
  rw[<-hs.qe,hq,List.length_map,List.length_cons]at h1
  omega
 have hsc:=hs.sc
 have UQ:cS w A Z R:=⟨V,h,hZ⟩
 rcases(show(R.ss n).step=0\/(R.ss n).step=1\/(R.ss n).step=2 by omega)with e|e|e
 ·rw[e]at hsc
  cases hi:bO t (R.sh (az t))with
  |none=>
   have e1:jF R n t m=(true,R.gC n {R.ss n with aG:=R.aG (az t),step:=1}):=by unfold jF;rw[e];dsimp only;rw[hi];rfl
   rw[e1]
   exact(J6 A n hn t ht m (V.vq n) (R.ss n).aG (V.vn n) (V.va n) (V.vs (az t)) (R.sh (az t)) (ok.sh _ j_) (R.aG (az t)) w hsc hK hi (h.g.sh.a _ j_).1).mono λe' w' ⟨he,h1,h2⟩=>⟨he,h.Ti hZ hn e h1 h2⟩
  |some i=>
   obtain⟨k,hk,_⟩:=lF hi
   have e1:jF R n t m=(true,dF (R.fH (az t) (iZ R.room t k.body (R.sh (az t)))) n (bQ m k.body)):=by unfold jF;rw[e];dsimp only;rw[hi];dsimp only;rw[BX hk];rfl
   rw[e1]
   exact(NR A n hn t ht m (V.vq n) (R.ss n).aG (V.vn n) (V.va n) qc.length (fZ (x::qc)) (R.ss n).an.length (R.ss n).an rfl (ok.an n hn) uK (V.vs (az t)) (R.sh (az t)) (ok.sh _ j_) R.room i hi k hk (ok.body _ k j_ (List.mem_of_getElem? hk)) w hsc hK h.g.room hrow hs.an (h.qA n hn) (h.aA n hn) (h.qa hn) (h.as hn j_)).mono λe' w' hg=>⟨hg.1,h.got hZ hn j_ hq hg⟩
 ·rw[e]at hsc
  by_cases hl:0<=R.lock
  ·have e1:jF R n t m=(false,R):=by unfold jF;rw[e];dsimp only;rw[if_pos hl];rfl
   rw[e1]
   exact(A2 A n hn t m (V.vq n) (R.ss n).aG (V.vn n) (V.va n) R.lock hl w hsc h.g.lk).mono λe' w' ⟨he,hb⟩=>⟨he,.same UQ hb⟩
  ·have e1:jF R n t m=(true,R.gC n {R.ss n with nt:=(R.ss n).nt++R.all,step:=2}):=by unfold jF;rw[e];dsimp only;rw[if_neg hl];rfl
   rw[e1]
   have hv:=hs.n0 (by omega)
   rw[hv]at hsc
   have h0:(R.ss n).nt=[]:=by
    have h1:=hs.nt
    rw[hv]at h1
    have h2:(V.ng n).length=0:=by
     rcases h1.2 with h1|⟨_,_,_,_,h1,_⟩
     ·exact h1.2
     ·cases h1
    rw[<-hs.Qq,List.eq_nil_of_length_eq_zero h2]
    rfl
   exact(J7 A n hn t m (V.vq n) (R.ss n).aG (V.va n) R.lock (by omega) V.vl V.gs (by have:=ok.all;rw[<-h.g.DU,List.length_map]at this;exact this) w hsc h.g.ar h.g.lk).mono λe' w' hN=>⟨hN.1,h.VU hZ hn h0 hN⟩
 ·rw[e]at hsc
  have hbd:∀W:World,Below w.heap.size w W->Calls prog 64 #[V.vn n,.agg #[.int .i64 t.z,.int .i64 t.c,.int .i64 t.r]] W λe w'=>e=.returned (.string (aX (R.ss n).nt t))/\Below W.heap.size W w':=λW hW=>by
   rw[<-hs.Qq]
   exact Sb hs.nt hs.Tm (by have:=ok.nt n hn;rw[<-hs.Qq,List.length_map]at this;exact this) dQ W hW
  have PV:(aX (R.ss n).nt t).size<=1000:=pN (λf hf=>by
   rw[<-hs.Qq]at hf
   obtain⟨g,hg,rfl⟩:=List.mem_map.1 hf
   exact(hs.Tm g hg).v) t
  by_cases hag:R.aG (az t)=(R.ss n).aG
  ·have e1:jF R n t m=(true,dF (R.fH (az t) (iZ R.room t (aX (R.ss n).nt t) (R.sh (az t)))) n (bQ m (aX (R.ss n).nt t))):=by unfold jF;rw[e];dsimp only;rw[if_pos hag];rfl
   rw[e1]
   exact(J5 A n hn t ht m (V.vq n) (R.ss n).aG (V.vn n) (V.va n) qc.length (fZ (x::qc)) (R.ss n).an.length (R.ss n).an rfl (ok.an n hn) uK (V.vs (az t)) (R.sh (az t)) (ok.sh _ j_) R.room (R.aG (az t)) (aX (R.ss n).nt t) PV w hsc hK h.g.room (h.g.sh.a _ j_).1 hrow hs.an (h.qA n hn) (h.aA n hn) (h.qa hn) (h.as hn j_) hbd hag).mono λe' w' hg=>⟨hg.1,h.got hZ hn j_ hq hg⟩
  ·have e1:jF R n t m=(true,dF R n (bQ m (aX (R.ss n).nt t))):=by unfold jF;rw[e];dsimp only;rw[if_neg hag];rfl
   rw[e1]
   exact(NS A n hn t ht m (V.vq n) (R.ss n).aG (V.vn n) (V.va n) qc.length (fZ (x::qc)) (R.ss n).an.length (R.ss n).an rfl (ok.an n hn) uK (V.vs (az t)) (R.sh (az t)) (ok.sh _ j_) R.room (R.aG (az t)) (aX (R.ss n).nt t) PV w hsc hK h.g.room (h.g.sh.a _ j_).1 hrow hs.an (h.qA n hn) (h.aA n hn) (h.qa hn) (h.as hn j_) hbd hag).mono λe' w' hg=>⟨hg.1,by have:=h.got hZ hn j_ hq hg;rwa[J_]at this⟩
def Qw(o:Option aW):dS:=match o with|some f=>f.ps|none=>[]
theorem GW{o:Option aW}(h:∀f,o=some f->f.ps≠[])(t:Tl):gU (Qw o) t=o.toList.any λf=>cV (eT t) (aD f.ps):=by
 cases o with
 |none=>rfl
 |some f=>
  show(decide (f.ps≠[])&&cV (eT t) (aD f.ps))=(cV (eT t) (aD f.ps)||false)
  rw[decide_eq_true (h f rfl),Bool.true_and,Bool.or_false]
variable {p:Option aW} {fs:List aW}
theorem Vi{id:Int}(hp:∀f,p=some f->f.ps≠[])(hf:∀f∈fs,f.ps≠[])(t:Tl):(gU (Qw (findF id fs)) t||gU (Qw p) t)=dW (bw p fs id) t:=by
 have e1:=GW (o:=p) hp t
 have e2:=GW (o:=findF id fs) (λf e=>hf f (List.mem_of_find?_eq_some e)) t
 rw[e1,e2]
 unfold dW bw
 rw[List.any_map,List.any_append,Bool.or_comm]
 rfl
theorem Tn{A:Nat}{V:RW}(h:bH w A R V)(id:Int):∃oa on oc,K9 w A id V.gs oa on oc (Qw (findF id R.all))/\on<=1000:=by
 have hg:=h.g.DU
 cases hi:(V.gs.map (·.f)).findIdx? (λf=>f.id==id)with
 |none=>
  have e1:iP id (V.gs.map (·.f))= -1:=by unfold iP;rw[hi]
  have e2:findF id R.all=none:=by
   unfold findF
   rw[<-hg,List.find?_eq_none]
   rw[List.findIdx?_eq_none_iff]at hi
   exact λx hx=>by rw[hi x hx];decide
  exact⟨none,0,0,.inl ⟨e1,rfl,rfl,rfl,by rw[e2];rfl⟩,by omega⟩
 |some i=>
  have e1:iP id (V.gs.map (·.f))=(i:Int):=by unfold iP;rw[hi]
  rw[List.findIdx?_eq_some_iff_getElem]at hi
  obtain⟨hlt,hp,hno⟩:=hi
  rw[List.length_map]at hlt
  have hgi:V.gs[i]? =some V.gs[i]:=List.getElem?_eq_getElem hlt
  have hmem:V.gs[i]∈V.gs:=List.getElem_mem hlt
  have hok:=h.g.PL _ hmem
  have e2:findF id R.all=some V.gs[i].f:=by
   unfold findF
   rw[<-hg,List.find?_eq_some_iff_getElem]
   refine⟨by simpa using hp,i,by rw[List.length_map];exact hlt,by simp,λj hj=>?_⟩
   have:=hno j hj
   simpa using this
  refine⟨V.gs[i].a,V.gs[i].f.ps.length,V.gs[i].cap,.inr ⟨i,V.gs[i],e1,hgi,rfl,rfl,rfl,by rw[e2];rfl,hok.p,λx hx=>(h.P _ (hok.b x hx)).2.1⟩,by have:=lG hok.v;omega⟩
theorem vE{A n:Nat}{V:RW}{Z:Nat->Prop}(h:bH w A R V)(hZ:∀b,Z b↔V.Z A b)(ok:yF R)(hn:n<4){x:RQ}(hq:V.qc n=x::qc)(hst:(R.ss n).step<=5)
  (k0 id kd ht col:Int) (pa:Option Addr) (pn pc:Nat) (p:Option FG) (hp:∀F,p=some F->zU V.P w F) (Xc:pn=(Qw (p.map (·.f))).length) (Xa:pn<=1000) (S0:bV w.heap.size w pa (Qw (p.map (·.f)))) (Xb:∀y,pa=some y->y.block≠A)
  (hD:∀W:World,Below w.heap.size w W->Calls prog 150 #[V.vl,.agg #[.int .i64 k0,.int .i64 0,.int .i64 0,.int .i64 0,.string ⟨#[]⟩,.int .i64 id,.int .i64 kd,.int .i64 ht,.int .i64 col,.slice pa pn pc]] W (uX id p V.gs W)):
  Calls prog 114 #[.pointer (some ⟨A,0,none⟩),.int .i64 (n:Int),.agg #[.int .i64 k0,.int .i64 0,.int .i64 0,.int .i64 0,.string ⟨#[]⟩,.int .i64 id,.int .i64 kd,.int .i64 ht,.int .i64 col,.slice pa pn pc]] w λe w'=>e=.returned (.bool (b_ R n id (p.map (·.f))).1)/\bF A Z (b_ R n id (p.map (·.f))).2 w w':=by
 have hs:=h.s n hn
 have hrow:ak w 0 220 10 (V.vq n) (qc.length+1) (fZ (x::qc)):=by have:=hs.q;rw[hq]at this;exact this
 have uK:qc.length<=1000:=by
  have h1:=ok.q n hn
  rw[<-hs.qe,hq,List.length_map,List.length_cons]at h1
  omega
 have hsc:=hs.sc
 have UQ:cS w A Z R:=⟨V,h,hZ⟩
 have qJ:V.gs.length<=900:=by have:=ok.all;rw[<-h.g.DU,List.length_map]at this;exact this
 by_cases e0:(R.ss n).step=0
 ·rw[e0]at hsc
  by_cases hl:0<=R.lock
  ·have e1:b_ R n id (p.map (·.f))=(false,R):=by unfold b_;rw[if_pos e0,if_pos hl]
   rw[e1]
   exact(um A n hn k0 id kd ht col pa pn pc (V.vq n) (R.ss n).aG (V.vn n) (V.va n) R.lock hl w hsc h.g.lk).mono λe' w' ⟨he,hb⟩=>⟨he,.same UQ hb⟩
  ·have e1:b_ R n id (p.map (·.f))=(true,{R with lock:=n}.gC n {R.ss n with step:=1}):=by unfold b_;rw[if_pos e0,if_neg hl]
   rw[e1]
   exact(AX A n hn k0 id kd ht col pa pn pc (V.vq n) (R.ss n).aG (V.vn n) (V.va n) R.lock (by omega) w hsc h.g.lk h.g.Qj).mono λe' w' ⟨he,h1,h2,h3,h4⟩=>⟨he,h.locked hZ hn e0 h1 h2 h3 h4⟩
 ·by_cases e4:(R.ss n).step<=4
  ·have e1:b_ R n id (p.map (·.f))=(true,(rq R ((R.ss n).step-1) (bw (p.map (·.f)) R.all id)).gC n {R.ss n with step:=(R.ss n).step+1}):=by unfold b_;rw[if_neg e0,if_pos e4]
   rw[e1]
   obtain⟨z,hz⟩:∃z,(R.ss n).step=z+1:=⟨(R.ss n).step-1,by omega⟩
   have hz1:(R.ss n).step-1=z:=by omega
   rw[hz1]
   obtain⟨oa,on,oc,hO,Vx⟩:=Tn h id
   have Zv:SC w A n (V.vq n) ((z:Int)+1) (R.ss n).aG (V.vn n) (V.va n):=by
    rw[hz]at hsc
    have e2:((z+1:Nat):Int)=(z:Int)+1:=by omega
    rw[e2]at hsc
    exact hsc
   refine(wX A n z hn (by omega) k0 id kd ht col pa pn pc (V.vq n) (R.ss n).aG (V.vn n) (V.va n) V.vs R.sh R.aG (bw (p.map (·.f)) R.all id) w Zv (λk hk=>(h.g.sh.k k hk).ne) (λW hW=>?_)).mono λe' w' hF=>⟨hF.1,h.Ss hZ hn hz hF⟩
   have Bd:bH W A R V:=h.fr (M:=λ_ _=>False) (Fr.of_below hW) (λ_ _ e=>e.elim)
   have hO':K9 W A id V.gs oa on oc (Qw (findF id R.all)):=by
    rcases hO with hO|⟨i,g,a1,a2,a3,a4,a5,a6,a7,a8⟩
    ·exact .inl hO
    ·exact .inr ⟨i,g,a1,a2,a3,a4,a5,a6,bV.Ra (M:=λ_ _=>False) (Fr.of_below hW) a7 (λ_ _ _ e=>e),a8⟩
   exact Dp A z (by omega) k0 id kd ht col pa pn pc (Qw (p.map (·.f))) Xc Xa V.vl V.gs qJ oa on oc (Qw (findF id R.all)) Vx V.vs R.sh ok.sh R.aG (bw (p.map (·.f)) R.all id) W (bV.Ra (M:=λ_ _=>False) (Fr.of_below hW) S0 (λ_ _ _ e=>e)) Xb Bd.g.ar hO' Bd.g.sh (λt _=>Vi (λf hf=>by
    obtain⟨F,hF,rfl⟩:=Option.map_eq_some_iff.1 hf
    exact(nJ (hp F hF).v).2.2.2.2.2.2.2.1) (λf hf=>by
    rw[<-h.g.DU]at hf
    obtain⟨g,hg,rfl⟩:=List.mem_map.1 hf
    exact(nJ (h.g.PL g hg).v).2.2.2.2.2.2.2.1) t)
  ·have e5:(R.ss n).step=5:=by omega
   have e1:b_ R n id (p.map (·.f))=(true,dF {R with all:=mF R.all id (p.map (·.f)),lock:= -1} n (pM (eV id R.all) (p.map (·.f)))):=by unfold b_;rw[if_neg e0,if_neg e4]
   rw[e1]
   rw[e5]at hsc
   exact(AW A n hn k0 id kd ht col pa pn pc (V.vq n) (R.ss n).aG (V.vn n) (V.va n) qc.length (fZ (x::qc)) (R.ss n).an.length (R.ss n).an rfl (ok.an n hn) uK V.vl p V.gs R.lock w hsc hrow hs.an (h.qA n hn) (h.aA n hn) (h.qa hn) h.g.ar.c h.g.Pr h.g.lk h.g.Qj hD).mono λe' w' hd=>⟨hd.1,h.done hZ hn hq hp hd⟩
theorem Ld{A n:Nat}{Z:Nat->Prop}(h:cS w A Z R)(ok:yF R)(hn:n<4)(hst:lQ (R.ss n)):
  Calls prog 70 #[.pointer (some ⟨A,0,none⟩),.int .i64 (n:Int)] w λe w'=>e=.returned (.tuple #[.bool (dJ R n).1,.int .i64 0])/\bF A Z (dJ R n).2 w w':=by
 obtain⟨V,h,hZ⟩:=h
 have hs:=h.s n hn
 have UQ:cS w A Z R:=⟨V,h,hZ⟩
 cases hq:V.qc n with
 |nil=>
  have e0:(R.ss n).q=[]:=by rw[<-hs.qe,hq];rfl
  have e1:dJ R n=(false,R):=by unfold dJ;rw[e0]
  rw[e1]
  have hrow:=hs.q
  rw[hq]at hrow
  obtain⟨a,cap,hv,_,_⟩:=hrow.form
  have hc:=hs.sc.cq
  rw[hv]at hc
  refine(FC A n hn a cap w hc).mono ?_
  rintro e w' ⟨he,hw⟩
  subst hw
  exact⟨he,.same UQ bK⟩
 |cons x qc=>
  have hs':=hs
  rw[hq]at hs'
  obtain⟨g,off,cap,hv,hg,hr⟩:=hs'.first
  have hc:=hs.sc.cq
  rw[hv]at hc
  have oy:(R.ss n).q=x.r::qc.map (·.r):=by rw[<-hs.qe,hq];rfl
  have hW:∀W:World,Below w.heap.size w W->bH W A R V:=λW hb=>h.fr (M:=λ_ _=>False) (Fr.of_below hb) (λ_ _ e=>e.elim)
  have Az:=hs.ND x (by rw[hq];exact List.mem_cons_self)
  unfold RQ.ok at Az
  unfold RQ.cs at hr
  unfold lQ at hst
  rw[oy]at hst
  have hP:∀R':dw,∀w1 w2,bF A Z R' w w1->Below w1.heap.size w1 w2->bF A Z R' w w2:=λR' w1 w2 h1 h2=>h1.below h2
  have uK:qc.length<=1000:=by
   have h1:=ok.q n hn
   rw[oy,List.length_cons,List.length_map]at h1
   omega
  cases hx:x.r with
  |bad=>
   rw[hx]at hr oy hst Az
   have e1:dJ R n=(true,dF R n FR):=by unfold dJ;rw[oy]
   rw[e1]
   exact JY A n hn g off qc.length cap (bF A Z (dF R n FR) w) (hP _) w hg hc hr (λW hb=>(jc A n hn (V.vq n) ((R.ss n).step:Int) (R.ss n).aG (V.vn n) (V.va n) qc.length (fZ (x::qc)) (R.ss n).an.length (R.ss n).an rfl (ok.an n hn) uK FR W ((hW W hb).s n hn).sc (by have:=((hW W hb).s n hn).q;rw[hq]at this;exact this) ((hW W hb).s n hn).an (h.qA n hn) (h.aA n hn) (h.qa hn)).mono λe w' ha=>⟨ha.1,((hW W hb).answered hZ hn hq ha).ahead hb⟩)
  |get t m=>
   rw[hx]at hr oy hst Az
   have e1:dJ R n=jF R n t m:=by unfold dJ;rw[oy]
   rw[e1]
   exact JZ A n hn g off qc.length cap t.z t.c t.r m (jF R n t m).1 (bF A Z (jF R n t m).2 w) (hP _) w hg hc hr (λW hb=>(Pd (hW W hb) hZ ok hn hq hx hst).mono λe w' ha=>⟨ha.1,ha.2.ahead hb⟩)
  |put f=>
   rw[hx]at hr oy hst Az
   have e1:dJ R n=b_ R n f.id (some f):=by unfold dJ;rw[oy]
   rw[e1]
   exact Dj A n hn g off qc.length cap 2 f.id f.kd f.ht f.col (.inl rfl) x.a f.ps.length x.c (b_ R n f.id (some f)).1 (bF A Z (b_ R n f.id (some f)).2 w) (hP _) w hg hc hr (λW hb=>(vE (hW W hb) hZ ok hn hq hst 2 f.id f.kd f.ht f.col x.a f.ps.length x.c (some ⟨f,x.a,x.c⟩) (λF e=>by
    have Xi:zU V.P W ⟨f,x.a,x.c⟩:=zU.fr (M:=λ_ _=>False) (Fr.of_below hb) Az (λ_ _ _ e=>e)
    rw[<-Option.some.inj e];exact Xi) rfl (by have:=lG Az.v;exact Nat.le_trans this.2 (by omega)) (bV.Ra (M:=λ_ _=>False) (Fr.of_below hb) Az.p (λ_ _ _ e=>e)) (λy hy=>(h.P _ (Az.b y hy)).2.1) (λW' hb'=>JT ⟨f,x.a,x.c⟩ V.vl V.gs (by have:=ok.all;rw[<-h.g.DU,List.length_map]at this;exact this) W' ((hW W hb).g.ar.own.below hb'))).mono λe w' ha=>⟨ha.1,ha.2.ahead hb⟩)
  |del id=>
   rw[hx]at hr oy hst Az
   have e1:dJ R n=b_ R n id none:=by unfold dJ;rw[oy]
   rw[e1]
   exact Dj A n hn g off qc.length cap 3 id 0 0 0 (.inr rfl) none 0 0 (b_ R n id none).1 (bF A Z (b_ R n id none).2 w) (hP _) w hg hc hr (λW hb=>(vE (hW W hb) hZ ok hn hq hst 3 id 0 0 0 none 0 0 none (λF e=>by cases e) rfl (by omega) (.inl rfl) (λy hy=>by cases hy) (λW' hb'=>JS id V.vl V.gs (by have:=ok.all;rw[<-h.g.DU,List.length_map]at this;exact this) W' ((hW W hb).g.ar.own.below hb'))).mono λe w' ha=>⟨ha.1,ha.2.ahead hb⟩)
theorem Su(h:Bl fs):fs.length<=99:=by
 have hs:fs.map (·.id) ⊆ (List.range 99).map λi:Nat=>((i:Int)+1):=by
  intro x hx
  obtain⟨f,hf,rfl⟩:=List.mem_map.1 hx
  have hv:=h.valid f hf
  unfold aj at hv
  simp only[Bool.and_eq_true,fP,decide_eq_true_eq]at hv
  have:=hv.1.1.1.1
  exact List.mem_map.2 ⟨(f.id-1).toNat,by simp;omega,by omega⟩
 have:=List.Nodup.length_le_of_subset h.EC hs
 simpa using this
variable {a:fW}
theorem FK(h:Rel a R)(ho:jq a):yF R:=by
 refine⟨?_,λk hk=>?_,λk x hk hx=>?_,λn hn=>?_,λn hn=>?_,λn hn=>?_⟩
 ·rw[h.all.length_eq];have:=Su ho.g.fs;omega
 ·rw[h.sh k hk];have:=ho.g.len k hk;have:=ho.g.r8;omega
 ·rw[h.sh k hk]at hx;exact ho.g.body k x hk hx
 ·rw[lp h hn];exact(ho.ss n hn).w
 ·rw[h.an n hn];have:=(ho.ss n hn).an;omega
 ·have hw:=h.now n hn
  have hx:=(ho.ss n hn).nx
  cases e:(a.ss n).nx with
  |none=>rw[e]at hw;rw[hw.2.2];exact Nat.zero_le _
  |some st=>
   rw[e]at hw
   have hst:=hx st e
   cases st with
   |bad=>exact hw.elim
   |look t m=>exact hw.elim
   |note t m ag=>rw[hw.2.2.1];exact Nat.zero_le _
   |draw t m ag fs=>rw[hw.2.2.2.length_eq];have:=Su hst.2;omega
   |lock id p=>rw[hw.2.2];exact Nat.zero_le _
   |forget id p z=>rw[hw.2.2];exact Nat.zero_le _
   |finish id p=>rw[hw.2.2];exact Nat.zero_le _
theorem zE{s:kL}{id:Int}{r:List Rd}(h:s.q=UA id p::r)(hs:s.step<=5):lQ s:=by
 unfold lQ
 rw[h]
 cases p<;>exact hs
theorem tN{s:kL}(h:s.step=0):lQ s:=by
 unfold lQ
 split
 ·trivial
 ·trivial
 ·omega
 ·omega
 ·omega
variable {n:Nat}
theorem NN(h:Rel a R)(ho:jq a)(hn:n<4):lQ (R.ss n):=by
 have hw:=h.now n hn
 have hx:=(ho.ss n hn).nx
 cases e:(a.ss n).nx with
 |none=>rw[e]at hw;exact tN hw.2.1
 |some st=>
  rw[e]at hw
  have hst:=hx st e
  cases st with
  |bad=>exact hw.elim
  |look t m=>exact hw.elim
  |note t m ag=>unfold lQ;rw[hw.1];have:=hw.2.1;dsimp only;omega
  |draw t m ag fs=>unfold lQ;rw[hw.1];have:=hw.2.1;dsimp only;omega
  |lock id p=>exact tN hw.2.1
  |forget id p z=>exact zE hw.1 (by have:=hw.2.1;have:=hst.2;omega)
  |finish id p=>exact zE hw.1 (by have:=hw.2.1;omega)
theorem QB(h:Rel a R):yz (λn=>(R.ss n).q.length) 4=zP a:=by
 show 0+(R.ss 0).q.length+(R.ss 1).q.length+(R.ss 2).q.length+(R.ss 3).q.length=ct (a.ss 0)+ct (a.ss 1)+ct (a.ss 2)+ct (a.ss 3)
 rw[lp h (by omega),lp h (by omega),lp h (by omega),lp h (by omega)]
 omega
structure Tw where
 A:Nat
 B:Nat
 a:fW
 R:dw
structure mG(T:Int)(S:Nat)(t:Tw):Prop where
 rel:Rel t.a t.R
 inv:Inv t.a T
 lock:iz t.a
 few:∀n,n<4->(t.a.ss n).an.length+ct (t.a.ss n)<=S
variable {T T':Int}
theorem mG.mono{S S':Nat}{t:Tw}(h:mG T S t)(hT:T<=T')(hS:S<=S'):mG T' S' t:=⟨h.rel,h.inv.mono hT,h.lock,λn hn=>Nat.le_trans (h.few n hn) hS⟩
theorem mG.pick{S:Nat}{t:Tw}(h:mG T S t)(ho:jq t.a)(hT:T<4611686018427387904)(hn:n<4):(dJ t.R n).1=(fF t.a n).1/\mG (T+1) S {t with a:=(fF t.a n).2,R:=(dJ t.R n).2}:=by
 have h1:=NL h.rel ho h.inv.kept hn
 have h2:=JJ ho hn
 refine⟨h1.1,h1.2,MS h.inv ho h.lock hT hn,Fv ho h.lock hn,λk hk=>?_⟩
 show((fF t.a n).2.ss k).an.length+ct ((fF t.a n).2.ss k)<=S
 have hf:=h.few k hk
 by_cases e:k=n
 ·subst e
  cases hb:(fF t.a k).1 with
  |false=>rw[(h2.still hb).2.1,(h2.still hb).2.2.2];exact hf
  |true=>
   rcases(h2.moved hb).2 with⟨e1,e2⟩|⟨e1,x,e2⟩
   ·rw[e1,e2];exact hf
   ·rw[e2,List.length_append,List.length_singleton];omega
 ·rw[h2.other k e];exact hf
theorem J8(h:iz a)(n:Nat)(x:ByteArray):iz (jf a n x):=
 ⟨λe k hk=>by rw[uQ];exact h.free e k hk,λe=>by obtain⟨k,hk,hh⟩:=h.held e;exact⟨k,hk,by rw[uQ];exact hh⟩,λk m hk hm h1 h2=>by rw[uQ]at h1 h2;exact h.one k m hk hm h1 h2⟩
theorem mG.send{S:Nat}{t:Tw}(h:mG T S t)(hn:n<4)(x:ByteArray):mG T (S+1) {t with a:=jf t.a n x,R:=Dk t.R n x}:=by
 refine⟨NM h.rel hn x,MT h.inv n x,J8 h.lock n x,λk hk=>?_⟩
 show((jf t.a n x).ss k).an.length+ct ((jf t.a n x).ss k)<=S+1
 rw[QG,J9]
 have:=h.few k hk
 split<;>omega
theorem mG.tell{S:Nat}{t:Tw}(h:mG T S t)(hn:n<4):mG T S {t with a:=kH t.a n,R:=GX t.R n}:=by
 refine⟨NP h.rel hn,MV h.inv n,Kh h.lock n,λk hk=>?_⟩
 show((kH t.a n).ss k).an.length+ct ((kH t.a n).ss k)<=S
 rw[Ki]
 have:=h.few k hk
 rw[A4]
 split
 ·show 0+_<=S;omega
 ·exact this
theorem mG.new(r:Int)(A B:Nat):mG 0 0 ⟨A,B,oM r,JX r⟩:=
 ⟨QA r,Nh r,⟨λ_ _ _=>rfl,λe=>(by cases e),λ_ _ _ _ e=>by cases e⟩,λn hn=>aM⟩
variable {w1:World} {ZA ZB:Nat->Prop} {a':fW}
theorem cS.beside{A B:Nat}(h:cS w B ZB R)(hd:∀b,ZA b->¬ZB b)(hn:cI A ZA a' w w1):cS w1 B ZB R:=by
 obtain⟨Z',_,_,hf⟩:=hn
 exact h.fr hf (λb i e=>hd b e)
inductive Lb where
 |no
 |law
 |out
 |x (i:Nat)
 |r (i:Nat)
structure j9 where
 a:Option Addr
 n:Nat
 c:Nat
 m:ByteArray
structure j8 where
 a:Option Addr
 n:Nat
 c:Nat
 k:Int
def j9.v(x:j9):Value:=.slice x.a x.n x.c
def j8.v(x:j8):Value:=.slice x.a x.n x.c
def td(l:List (Nat×Nat)):List Value:=l.flatMap λp=>[.pointer (some ⟨p.1,0,none⟩),.pointer (some ⟨p.2,0,none⟩)]
structure jA where
 vA:Value
 vX:Value
 vW:Value
 vT:Value
 vM:Value
def jA.Own(V:jA)(b:Nat):Prop:=V.vA.ownBlock=some b\/V.vX.ownBlock=some b\/V.vW.ownBlock=some b\/V.vT.ownBlock=some b\/V.vM.ownBlock=some b
def Ai(w:World)(lab:Nat->Lb)(x:j9):Prop:=x.n<=5000000/\(x.n=0\/∃g off,x.a=some ⟨g,off,none⟩/\lab g=.out/\g<w.heap.size/\∀j,j<x.n->w.cell? ⟨g,off+j,none⟩=some (.string x.m))
def Ah(w:World)(lab:Nat->Lb)(x:j8):Prop:=x.n<=5000000/\(x.n=0\/∃g off,x.a=some ⟨g,off,none⟩/\lab g=.out/\g<w.heap.size/\∀j,j<x.n->w.cell? ⟨g,off+j*3,none⟩=some (.int .i64 (-77000000))/\w.cell? ⟨g,off+j*3+1,none⟩=some (.int .i64 0)/\w.cell? ⟨g,off+j*3+2,none⟩=some (.int .i64 x.k))
variable {M:Nat->Nat->Prop} {w':World} {lab aB:Nat->Lb}
theorem Ai.fr(hf:Fr M w w'){x:j9}(h:Ai w lab x)(hM:∀b i,M b i->lab b≠.out)(ho:∀b,lab b=.out->aB b=.out):Ai w' aB x:=by
 obtain⟨hb,h⟩:=h
 refine⟨hb,?_⟩
 rcases h with h|⟨g,off,h1,h2,h3,h4⟩
 ·exact .inl h
 ·exact .inr ⟨g,off,h1,ho g h2,Nat.lt_of_lt_of_le h3 hf.size,λj hj=>(hf.cell g _ h3 (λe=>hM _ _ e h2)).trans (h4 j hj)⟩
theorem Ah.fr(hf:Fr M w w'){x:j8}(h:Ah w lab x)(hM:∀b i,M b i->lab b≠.out)(ho:∀b,lab b=.out->aB b=.out):Ah w' aB x:=by
 obtain⟨hb,h⟩:=h
 refine⟨hb,?_⟩
 rcases h with h|⟨g,off,h1,h2,h3,h4⟩
 ·exact .inl h
 ·exact .inr ⟨g,off,h1,ho g h2,Nat.lt_of_lt_of_le h3 hf.size,λj hj=>⟨(hf.cell g _ h3 (λe=>hM _ _ e h2)).trans (h4 j hj).1,(hf.cell g _ h3 (λe=>hM _ _ e h2)).trans (h4 j hj).2.1,(hf.cell g _ h3 (λe=>hM _ _ e h2)).trans (h4 j hj).2.2⟩⟩
structure aI(w:World)(L:Nat)(lab:Nat->Lb)(V:jA)(ps:List (Nat×Nat))(n:Int)(X W Y M:List Value):Prop where
 cA:w.cell? ⟨L,0,none⟩=some V.vA
 cN:w.cell? ⟨L,1,none⟩=some (.int .i64 n)
 cX:w.cell? ⟨L,2,none⟩=some V.vX
 cW:w.cell? ⟨L,3,none⟩=some V.vW
 cT:w.cell? ⟨L,4,none⟩=some V.vT
 cM:w.cell? ⟨L,5,none⟩=some V.vM
 f:∀i,i<6->w.frozen? ⟨L,i,none⟩=false
 rA:ak w 0 161 2 V.vA ps.length (td ps)
 rX:ak w 0 79 1 V.vX X.length X
 rW:ak w 0 9 1 V.vW W.length W
 rT:ak w 0 80 1 V.vT Y.length Y
 rM:ak w 0 3 1 V.vM M.length M
 lL:lab L=.law
 lw:∀b,V.Own b->lab b=.law/\b≠L
variable {L:Nat} {V:jA} {ps:List (Nat×Nat)}
theorem aI.lt{n:Int}{X W Y M:List Value}(h:aI w L lab V ps n X W Y M):L<w.heap.size:=dz w ⟨L,0,none⟩ h.cA
theorem aI.fr{N:Nat->Nat->Prop}(hf:Fr N w w'){n:Int}{X W Y M:List Value}(h:aI w L lab V ps n X W Y M)(hM:∀b i,N b i->lab b≠.law)(hl:∀b,lab b=.law->aB b=.law):aI w' L aB V ps n X W Y M:=by
 have hL:∀i,¬N L i:=λi e=>hM _ _ e h.lL
 have hr:∀b i,V.Own b->¬N b i:=λb i hb e=>hM _ _ e (h.lw b hb).1
 exact⟨(hf.cell L 0 h.lt (hL 0)).trans h.cA,(hf.cell L 1 h.lt (hL 1)).trans h.cN,(hf.cell L 2 h.lt (hL 2)).trans h.cX,(hf.cell L 3 h.lt (hL 3)).trans h.cW,(hf.cell L 4 h.lt (hL 4)).trans h.cT,(hf.cell L 5 h.lt (hL 5)).trans h.cM,λi hi=>(hf.frozen L i h.lt (hL i)).trans (h.f i hi),h.rA.fr hf (λb i e=>hr b i (.inl e)),h.rX.fr hf (λb i e=>hr b i (.inr (.inl e))),h.rW.fr hf (λb i e=>hr b i (.inr (.inr (.inl e)))),h.rT.fr hf (λb i e=>hr b i (.inr (.inr (.inr (.inl e))))),h.rM.fr hf (λb i e=>hr b i (.inr (.inr (.inr (.inr e))))),hl _ h.lL,λb hb=>⟨hl _ (h.lw b hb).1,(h.lw b hb).2⟩⟩
def QK(t:Tw):Nat×Nat:=(t.A,t.B)
structure mq(w:World)(L:Nat)(lab:Nat->Lb)(V:jA)(tw:List Tw)(n:Int)(tx:List j9)(ti:List j8)(T:Int)(K:Nat):Prop where
 gl:Gl w
 rows:aI w L lab V (tw.map QK) n (tx.map j9.v) (tx.map λx=> .string x.m) (ti.map j8.v) (ti.map λx=> .int .i64 x.k)
 lt:∀b,lab b≠.no->8<=b/\b<w.heap.size
 at_:∀i t,tw[i]? =some t->bu w t.A (λb=>lab b=.x i) t.a
 rf:∀i t,tw[i]? =some t->cS w t.B (λb=>lab b=.r i) t.R
 ok:∀t∈tw,mG T K t
 tx:∀x∈tx,Ai w lab x
 ti:∀x∈ti,Ah w lab x
 few:∀b j,lab b=.x j\/lab b=.r j->j<tw.length
theorem bu.congr{A:Nat}{Z Z':Nat->Prop}(h:bu w A Z a)(e:∀b,Z' b↔Z b):bu w A Z' a:=by
 obtain⟨x,hx,hz⟩:=h
 exact⟨x,hx,λb=>(e b).trans (hz b)⟩
theorem cS.congr{A:Nat}{Z Z':Nat->Prop}(h:cS w A Z R)(e:∀b,Z' b↔Z b):cS w A Z' R:=by
 obtain⟨x,hx,hz⟩:=h
 exact⟨x,hx,λb=>(e b).trans (hz b)⟩
theorem Gx(hf:Fr M w w')(h:Gl w)(hM:∀b i,M b i->8<=b):Gl w':=h.below (hf.below h.sz (λb i hb e=>by have:=hM b i e;omega)) aM
variable {tw:List Tw} {K:Nat}
theorem mq.fr(hf:Fr M w w'){n:Int}{tx:List j9}{ti:List j8}(h:mq w L lab V tw n tx ti T K)(hM:∀b i,M b i->8<=b/\lab b=.no):mq w' L lab V tw n tx ti T K:=
 ⟨Gx hf h.gl (λb i e=>(hM b i e).1),h.rows.fr hf (λb i e=>by rw[(hM b i e).2];intro e;cases e) (λ_ e=>e),λb hb=>⟨(h.lt b hb).1,Nat.lt_of_lt_of_le (h.lt b hb).2 hf.size⟩,λi t ht=>(h.at_ i t ht).fr hf (λb j e=>⟨(hM b j e).1,λe2=>by rw[(hM b j e).2]at e2;cases e2⟩),λi t ht=>(h.rf i t ht).fr hf (λb j e e2=>by rw[(hM b j e).2]at e2;cases e2),h.ok,λx hx=>(h.tx x hx).fr hf (λb i e=>by rw[(hM b i e).2];intro e;cases e) (λ_ e=>e),λx hx=>(h.ti x hx).fr hf (λb i e=>by rw[(hM b i e).2];intro e;cases e) (λ_ e=>e),h.few⟩
theorem mq.below(hb:Below w.heap.size w w'){n:Int}{tx:List j9}{ti:List j8}(h:mq w L lab V tw n tx ti T K):mq w' L lab V tw n tx ti T K:=h.fr (M:=λ_ _=>False) (Fr.of_below hb) (λ_ _ e=>e.elim)
def jr(w:World)(L:Nat)(Z:Nat->Prop)(tw:List Tw)(T:Int)(K H:Nat):Prop:=∃lab V n tx ti,mq w L lab V tw n tx ti T K/\(∀b,Z b↔lab b≠.no)/\0<=n/\n<=(H:Int)/\tx.length<=4*H/\ti.length<=4*H
variable {H:Nat}
theorem jr.fr(hf:Fr M w w'){Z:Nat->Prop}(h:jr w L Z tw T K H)(hM:∀b i,M b i->8<=b/\¬Z b):jr w' L Z tw T K H:=by
 obtain⟨lab,V,n,tx,ti,h1,hz,h2⟩:=h
 refine⟨lab,V,n,tx,ti,h1.fr hf (λb i e=>⟨(hM b i e).1,?_⟩),hz,h2⟩
 refine Classical.byContradiction λe2=>(hM b i e).2 ((hz b).2 e2)
theorem jr.below(hb:Below w.heap.size w w'){Z:Nat->Prop}(h:jr w L Z tw T K H):jr w' L Z tw T K H:=h.fr (M:=λ_ _=>False) (Fr.of_below hb) (λ_ _ e=>e.elim)
variable {b:Nat}
theorem jr.lt{Z:Nat->Prop}(h:jr w L Z tw T K H)(hb:Z b):8<=b/\b<w.heap.size:=by
 obtain⟨lab,V,n,tx,ti,h1,hz,h2⟩:=h
 exact h1.lt b ((hz b).1 hb)
def fL(L:Nat)(Z:Nat->Prop)(tw:List Tw)(T:Int)(K H:Nat)(w w':World):Prop:=∃Z',jr w' L Z' tw T K H/\(∀b,Z' b->Z b\/w.heap.size<=b)/\Fr (λb _=>Z b) w w'
theorem fL.same{Z:Nat->Prop}(h:jr w L Z tw T K H)(hb:Below w.heap.size w w'):fL L Z tw T K H w w':=⟨Z,h.below hb,λ_ h=> .inl h,Fr.of_below hb⟩
variable {w2:World}
theorem fL.below{Z:Nat->Prop}(h:fL L Z tw T K H w w1)(hb:Below w1.heap.size w1 w2):fL L Z tw T K H w w2:=by
 obtain⟨Z',h1,h2,h3⟩:=h
 exact⟨Z',h1.below hb,h2,h3.trans (Fr.of_below hb)⟩
theorem fL.ahead{Z:Nat->Prop}(hb:Below w.heap.size w w1)(h:fL L Z tw T K H w1 w2):fL L Z tw T K H w w2:=by
 obtain⟨Z',h1,h2,h3⟩:=h
 exact⟨Z',h1,λb hz=>(h2 b hz).imp _root_.id (λh=>Nat.le_trans hb.size h),(Fr.of_below hb).trans h3⟩
variable {K' H':Nat}
theorem jr.mono{Z:Nat->Prop}(h:jr w L Z tw T K H)(hT:T<=T')(hK:K<=K')(hH:H<=H'):jr w L Z tw T' K' H':=by
 obtain⟨lab,V,n,tx,ti,h1,hz,h2,h3,h4,h5⟩:=h
 exact⟨lab,V,n,tx,ti,⟨h1.gl,h1.rows,h1.lt,h1.at_,h1.rf,λt ht=>(h1.ok t ht).mono hT hK,h1.tx,h1.ti,h1.few⟩,hz,h2,by omega,by omega,by omega⟩
theorem fL.mono{Z:Nat->Prop}(h:fL L Z tw T K H w w')(hT:T<=T')(hK:K<=K')(hH:H<=H'):fL L Z tw T' K' H' w w':=by
 obtain⟨Z',h1,h2⟩:=h
 exact⟨Z',h1.mono hT hK hH,h2⟩
open Classical in
noncomputable def ir (lab:Nat->Lb) (i:Nat) (ZA ZB:Nat->Prop) (b:Nat):Lb:=if ZA b then .x i else if ZB b then .r i else if lab b=.x i\/lab b=.r i then .no else lab b
variable {R':dw}
theorem mq.twin{n:Int}{tx:List j9}{ti:List j8}(h:mq w L lab V tw n tx ti T K){t:Tw}(ht:tw[i]? =some t) 
  (hA:bu w1 t.A ZA a') (bA:∀b,ZA b->lab b=.x i\/w.heap.size<=b) (fA:Fr (λb _=>lab b=.x i) w w1) (hB:cS w2 t.B ZB R') (bB:∀b,ZB b->lab b=.r i\/w1.heap.size<=b) (fB:Fr (λb _=>lab b=.r i) w1 w2) (ok:mG T' K' {t with a:=a',R:=R'}) (hT:T<=T') (hK:K<=K'):
  mq w2 L (ir lab i ZA ZB) V (tw.set i {t with a:=a',R:=R'}) n tx ti T' K'/\(∀b,ir lab i ZA ZB b≠.no->lab b≠.no\/w.heap.size<=b)/\Fr (λb _=>lab b=.x i\/lab b=.r i) w w2:=by
 have hf:Fr (λb _=>lab b=.x i\/lab b=.r i) w w2:=(fA.mono (λ_ _ e=> .inl e)).trans (fB.mono (λ_ _ e=> .inr e))
 have hlo:∀b,lab b≠.no->¬w.heap.size<=b:=λb hb e=>by have:=(h.lt b hb).2;omega
 have Y0:∀b,ZA b->¬ZB b:=λb h1 h2=>by
  rcases bB b h2 with e|e
  ·rcases bA b h1 with e'|e'
   ·rw[e]at e';cases e'
   ·exact hlo b (by rw[e];intro x;cases x) e'
  ·have:=(hA.lt h1).2;omega
 have hZA:∀b,lab b≠.no->lab b≠.x i->¬ZA b:=λb h1 h2 h3=>(bA b h3).elim h2 (hlo b h1)
 have hs1:=fA.size
 have hZB:∀b,lab b≠.no->lab b≠.r i->¬ZB b:=λb h1 h2 h3=>(bB b h3).elim h2 (λe=>hlo b h1 (by omega))
 have hkeep:∀b,lab b≠.no->lab b≠.x i->lab b≠.r i->ir lab i ZA ZB b=lab b:=λb h1 h2 h3=>by
  unfold ir
  rw[if_neg (hZA b h1 h2),if_neg (hZB b h1 h3),if_neg (λe=>e.elim h2 h3)]
 have hxi:∀b,ir lab i ZA ZB b=.x i↔ZA b:=λb=>by
  unfold ir
  by_cases e1:ZA b
  ·rw[if_pos e1];exact⟨λ_=>e1,λ_=>rfl⟩
  ·rw[if_neg e1]
   refine⟨λe=>?_,λe=>absurd e e1⟩
   by_cases e2:ZB b
   ·rw[if_pos e2]at e;cases e
   ·rw[if_neg e2]at e
    by_cases e3:lab b=.x i\/lab b=.r i
    ·rw[if_pos e3]at e;cases e
    ·rw[if_neg e3]at e;exact absurd (.inl e) e3
 have hri:∀b,ir lab i ZA ZB b=.r i↔ZB b:=λb=>by
  unfold ir
  by_cases e1:ZA b
  ·rw[if_pos e1];exact⟨λe=>(by cases e),λe=>absurd e (Y0 b e1)⟩
  ·rw[if_neg e1]
   by_cases e2:ZB b
   ·rw[if_pos e2];exact⟨λ_=>e2,λ_=>rfl⟩
   ·rw[if_neg e2]
    refine⟨λe=>?_,λe=>absurd e e2⟩
    by_cases e3:lab b=.x i\/lab b=.r i
    ·rw[if_pos e3]at e;cases e
    ·rw[if_neg e3]at e;exact absurd (.inr e) e3
 have T9:∀j,j≠i->∀b,ir lab i ZA ZB b=.x j↔lab b=.x j:=λj hj b=>by
  refine⟨λe=>?_,λe=>?_⟩
  ·unfold ir at e
   split at e
   ·injection e with e;exact absurd e.symm hj
   ·split at e
    ·cases e
    ·split at e
     ·cases e
     ·exact e
  ·rw[hkeep b (by rw[e];intro x;cases x) (by rw[e];intro x;injection x with x;exact hj x) (by rw[e];intro x;cases x)];exact e
 have hrj:∀j,j≠i->∀b,ir lab i ZA ZB b=.r j↔lab b=.r j:=λj hj b=>by
  refine⟨λe=>?_,λe=>?_⟩
  ·unfold ir at e
   split at e
   ·cases e
   ·split at e
    ·injection e with e;exact absurd e.symm hj
    ·split at e
     ·cases e
     ·exact e
  ·rw[hkeep b (by rw[e];intro x;cases x) (by rw[e];intro x;cases x) (by rw[e];intro x;injection x with x;exact hj x)];exact e
 have h8:∀b,lab b=.x i\/lab b=.r i->8<=b:=λb e=>(h.lt b (by rcases e with e|e<;>rw[e]<;>intro x<;>cases x)).1
 have Y6:=h.gl.sz
 have hlt:i<tw.length:=(List.getElem?_eq_some_iff.1 ht).1
 have hno:∀b (_:Nat),lab b=.x i\/lab b=.r i->lab b≠.out:=λb _ e e2=>by rw[e2]at e;rcases e with e|e<;>cases e
 have hout:∀b,lab b=.out->ir lab i ZA ZB b=.out:=λb e=>by rw[hkeep b (by rw[e];intro x;cases x) (by rw[e];intro x;cases x) (by rw[e];intro x;cases x)];exact e
 have hat:bu w2 t.A (λb=>ir lab i ZA ZB b=.x i) a':=(hA.fr fB (λb j e=>⟨h8 b (.inr e),λe2=>by
  rcases bA b e2 with e'|e'
  ·rw[e]at e';cases e'
  ·exact hlo b (by rw[e];intro x;cases x) e'⟩)).congr hxi
 refine⟨⟨Gx hf h.gl (λb _ e=>h8 b e),?_,λb hb=>?_,λj t' hj=>?_,λj t' hj=>?_,λt' ht'=>?_,λy hy=>(h.tx y hy).fr hf hno hout,λy hy=>(h.ti y hy).fr hf hno hout,λb j e=>?few⟩,λb hb=>?_,hf⟩
 case few=>
  rw[List.length_set]
  by_cases ej:j=i
  ·rw[ej];exact hlt
  ·exact h.few b j (e.imp (T9 j ej b).1 (hrj j ej b).1)
 ·have e1:(tw.set i {t with a:=a',R:=R'}).map QK=tw.map QK:=by
   rw[List.map_set]
   show(tw.map QK).set i (QK t)=_
   refine List.ext_getElem? λj=>?_
   rw[List.getElem?_set]
   split
   ·rename_i e;subst e
    rw[List.length_map,if_pos hlt,List.getElem?_map,ht];rfl
   ·rfl
  rw[e1]
  refine h.rows.fr hf (λb _ e e2=>?_) (λb e=>?_)
  ·rw[e2]at e;rcases e with e|e<;>cases e
  ·rw[hkeep b (by rw[e];intro x;cases x) (by rw[e];intro x;cases x) (by rw[e];intro x;cases x)];exact e
 ·by_cases e1:ZA b
  ·have:=hat.lt (b:=b) ((hxi b).2 e1);exact this
  ·by_cases e2:ZB b
   ·refine⟨?_,hB.lt e2⟩
    rcases bB b e2 with e|e
    ·exact h8 b (.inr e)
    ·omega
   ·have e3:lab b≠.no:=λe=>hb (by
     unfold ir
     rw[if_neg e1,if_neg e2,e]
     split<;>rfl)
    exact⟨(h.lt b e3).1,Nat.lt_of_lt_of_le (h.lt b e3).2 hf.size⟩
 ·rw[List.getElem?_set]at hj
  by_cases e:i=j
  ·subst e
   rw[if_pos rfl,if_pos hlt]at hj
   rw[<-Option.some.inj hj]
   exact hat
  ·rw[if_neg e]at hj
   exact((h.at_ j t' hj).fr hf (λb k e2=>⟨h8 b e2,λe3=>by rcases e2 with e2|e2<;>rw[e2]at e3<;>injection e3;rename_i e4;exact e e4⟩)).congr (T9 j (λx=>e x.symm))
 ·rw[List.getElem?_set]at hj
  by_cases e:i=j
  ·subst e
   rw[if_pos rfl,if_pos hlt]at hj
   rw[<-Option.some.inj hj]
   exact hB.congr hri
  ·rw[if_neg e]at hj
   exact((h.rf j t' hj).fr hf (λb k e2 e3=>by rcases e2 with e2|e2<;>rw[e2]at e3<;>injection e3;rename_i e4;exact e e4)).congr (hrj j (λx=>e x.symm))
 ·rcases List.mem_or_eq_of_mem_set ht' with e|e
  ·exact(h.ok t' e).mono hT hK
  ·rw[e];exact ok
 ·by_cases e:lab b=.no
  ·refine .inr ?_
   unfold ir at hb
   by_cases e1:ZA b
   ·exact(bA b e1).elim (λe2=>by rw[e]at e2;cases e2) _root_.id
   ·rw[if_neg e1]at hb
    by_cases e2:ZB b
    ·exact(bB b e2).elim (λe3=>by rw[e]at e3;cases e3) (λe3=>by omega)
    ·rw[if_neg e2,e]at hb
     exact absurd (by split<;>rfl) hb
  ·exact .inl e
end
end Go.Proofs.YtenaepdmlknlcaaGreatDoor
