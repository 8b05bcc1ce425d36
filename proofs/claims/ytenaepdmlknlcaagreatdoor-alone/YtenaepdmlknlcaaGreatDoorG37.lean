import Derived.Test.YtenaepdmlknlcaaGreatDoorG33
open Go.Proofs.Tryz
set_option maxRecDepth 100000
set_option maxHeartbeats 8000000
namespace Go.Proofs.YtenaepdmlknlcaaGreatDoor
section
open Go.RowKit Go.Shelf
theorem A4(a:fW)(n k:Nat):(kH a n).ss k=if k=n then{a.ss n with an:=[]}else a.ss k:=rfl
theorem Ty(a:fW)(n k:Nat):((kH a n).ss k).q=(a.ss k).q:=by rw[A4];split<;>simp_all
theorem oD(a:fW)(n k:Nat):((kH a n).ss k).nx=(a.ss k).nx:=by rw[A4];split<;>simp_all
theorem Ki(a:fW)(n k:Nat):ct ((kH a n).ss k)=ct (a.ss k):=by rw[cH,cH,Ty,oD]
variable {a:fW}
theorem Kh(h:iz a)(n:Nat):iz (kH a n):=
 ⟨λe k hk=>by rw[oD];exact h.free e k hk,λe=>(h.held e).imp λk hk=>by rw[oD];exact hk,λk m hk hm=>by rw[oD,oD];exact h.one k m hk hm⟩
theorem fN(a:fW)(g:Gr)(n:Nat)(s:rJ)(m:Nat):((a.set g n s).ss m).nx=if m=n then s.nx else(a.ss m).nx:=by
 rw[gD];split<;>rfl
theorem l9(a:fW)(g:Gr)(n:Nat)(s:rJ):(λm=>((a.set g n s).ss m).nx)=λm=>if m=n then s.nx else(a.ss m).nx:=funext λm=>fN a g n s m
variable {n:Nat}
theorem LF{x:Option mz}(hc:∀id p z,s6 x=some (id,p,z)->0<z->s6 (a.ss n).nx=some (id,p,z)):∀m,m<4->∀id p z,s6 (if m=n then x else(a.ss m).nx)=some (id,p,z)->0<z->s6 (a.ss m).nx=some (id,p,z):=by
 intro m _ id p z h hz
 split at h
 ·rename_i e;rw[e];exact hc id p z h hz
 ·exact h
variable {T:Int} {g':Gr} {s':rJ}
theorem ny(h:Inv a T)(ho:jq a)(hS:g'.S=a.g.S)(hf:g'.fs=a.g.fs)(hG:ve a.g s'.nx)(hN:eJ a.g (λm=>if m=n then s'.nx else(a.ss m).nx) s'.nx)(hc:∀id p z,s6 s'.nx=some (id,p,z)->0<z->s6 (a.ss n).nx=some (id,p,z)):Inv (a.set g' n s') T:=by
 have e:∀s,ve g' s↔ve a.g s:=λs=>by unfold ve;rw[hS,hf]
 have e2:∀f s,eJ g' f s↔eJ a.g f s:=λf s=>by unfold eJ;rw[hS,hf]
 refine⟨λk hk=>?_,⟨λk hk=>?_,λk x hk hx=>?_,λk x hk hx=>?_⟩,λm hm=>?_,λm hm=>?_⟩
 ·rw[j4,hS];exact h.aG k hk
 ·rw[j4,hS];exact h.kept.u k hk
 ·rw[j4,hS]at hx;exact h.kept.t k x hk hx
 ·rw[j4,hS]at hx;rw[j4,hf];exact h.kept.b k x hk hx
 ·rw[j4,e,fN]
  split
  ·exact hG
  ·exact h.gone m hm
 ·rw[j4,e2,l9,fN]
  split
  ·exact hN
  ·exact(h.note m hm).other (LF hc) (λst hst=>(ho.ss m hm).nx st hst)
variable {q:Nat} {ks':List Kp} {t:Tl}
theorem MR(h:Inv a T)(ho:jq a)(_hq:q<4)(hu:iA ks')(Xg:t.good)(hts:az t=q)
  (hm:∀x∈ks',x∈a.g.S.ks q\/(x=⟨t,aX a.g.fs t⟩/\∀m,m<4->∀id p z,s6 (a.ss m).nx=some (id,p,z)->t.z<(z:Int)->dW (bw p a.g.fs id) t=false)) (hs:s'.nx=none):Inv (a.set {a.g with S:=a.g.S.fH q ks'} n s') T:=by
 have ek:∀k,(a.g.S.fH q ks').ks k=if k=q then ks' else a.g.S.ks k:=λk=>rfl
 have ea:(a.g.S.fH q ks').aG=a.g.S.aG:=rfl
 have e2:∀f s,eJ {a.g with S:=a.g.S.fH q ks'} f s↔eJ a.g f s:=λf s=>by unfold eJ;exact Iff.rfl
 have hmem:∀k x,k<4->x∈(a.g.S.fH q ks').ks k->x∈a.g.S.ks k\/(k=q/\x=⟨t,aX a.g.fs t⟩/\∀m,m<4->∀id p z,s6 (a.ss m).nx=some (id,p,z)->t.z<(z:Int)->dW (bw p a.g.fs id) t=false):=by
  intro k x hk hx
  rw[ek]at hx
  split at hx
  ·rename_i e
   rcases hm x hx with h1|h1
   ·exact .inl (by rw[e];exact h1)
   ·exact .inr ⟨e,h1⟩
  ·exact .inl hx
 have hc:∀id p z,s6 s'.nx=some (id,p,z)->0<z->s6 (a.ss n).nx=some (id,p,z):=λid p z e=>by rw[hs]at e;cases e
 refine⟨λk hk=>h.aG k hk,⟨λk hk=>?_,λk x hk hx=>?_,λk x hk hx=>?_⟩,λm hm'=>?_,λm hm'=>?_⟩
 ·show iA ((a.g.S.fH q ks').ks k)
  rw[ek];split
  ·exact hu
  ·exact h.kept.u k hk
 ·rcases hmem k x hk hx with h1|⟨e,h1,_⟩
  ·exact h.kept.t k x hk h1
  ·rw[h1,e];exact⟨Xg,hts⟩
 ·show x.body=aX a.g.fs x.t
  rcases hmem k x hk hx with h1|⟨e,h1,_⟩
  ·exact h.kept.b k x hk h1
  ·rw[h1]
 ·rw[j4,fN]
  intro id p z e k x hk hx hz
  split at e
  ·rw[hs]at e;cases e
  ·rcases hmem k x hk hx with h1|⟨_,h1,h2⟩
   ·exact h.gone m hm' id p z e k x hk h1 hz
   ·rw[h1]at hz⊢;exact h2 m hm' id p z e hz
 ·rw[j4,e2,l9,fN]
  split
  ·rw[hs];trivial
  ·exact(h.note m hm').other (LF hc) (λst hst=>(ho.ss m hm').nx st hst)
theorem wrap_small{x:Int}(h0:0<=x)(h1:x<4611686018427387904):IntKind.i64.wrap (x+1)=x+1:=by rw[IntKind.wrap_i64];omega
variable {p:Option aW} {z:Nat}
theorem Fc(h:Inv a T)(ho:jq a)(hl:iz a)(hT:T<4611686018427387904)(hn:n<4){id:Int}(hz:z<=3)(lH:(a.ss n).nx=some (.forget id p z))(hs:s6 s'.nx=some (id,p,z+1))(hs2:∀g f,eJ g f s'.nx):Inv (a.set {a.g with S:=dD z (bw p a.g.fs id) a.g.S} n s') (T+1):=by
 obtain⟨bs,PV⟩:∃bs,bw p a.g.fs id=bs:=⟨_,rfl⟩
 have tX:∀k,k<4->(dD z bs a.g.S).aG k=if aL bs k (aR z)=true then a.g.S.aG k+1 else a.g.S.aG k:=by
  intro k hk
  show(if aL bs k (aR z)=true then IntKind.i64.wrap (a.g.S.aG k+1)else a.g.S.aG k)=_
  have:=h.aG k hk
  rw[wrap_small this.1 (by omega)]
 have hks:∀k,(dD z bs a.g.S).ks k=bW bs k (aR z) (a.g.S.ks k):=λk=>rfl
 have OD:∀k,k<4->iA (bW bs k (aR z) (a.g.S.ks k))/\∀x∈bW bs k (aR z) (a.g.S.ks k),x∈a.g.S.ks k/\∀t∈aR z,dW bs t=true->az t=k->x.t≠t:=λk hk=>nh bs k (aR z) _ (h.kept.u k hk)
 have hone:∀m,m<4->∀i q y,s6 (a.ss m).nx=some (i,q,y)->m=n:=λm hm i q y e=>hl.one m n hm hn (qw e) (by rw[lH];rfl)
 rw[PV]
 refine⟨λk hk=>?_,⟨λk hk=>?_,λk x hk hx=>?_,λk x hk hx=>?_⟩,λm hm=>?_,λm hm=>?_⟩
 ·show 0<=(dD z bs a.g.S).aG k/\(dD z bs a.g.S).aG k<=T+1
  have:=h.aG k hk
  rw[tX k hk]
  split<;>omega
 ·exact(OD k hk).1
 ·exact h.kept.t k x hk ((OD k hk).2 x hx).1
 ·exact h.kept.b k x hk ((OD k hk).2 x hx).1
 ·rw[j4,fN]
  split
  ·intro i q y e k x hk hx hzy
   rw[hs]at e
   simp only[Option.some.injEq,Prod.mk.injEq]at e
   obtain⟨rfl,rfl,rfl⟩:=e
   obtain⟨x1,x2⟩:=(OD k hk).2 x hx
   show dW (bw p a.g.fs id) x.t=false
   by_cases e:x.t.z<(z:Int)
   ·exact h.gone n hn id p z (by rw[lH];rfl) k x hk x1 e
   ·obtain⟨tg,ts⟩:=h.kept.t k x hk x1
    have hm':=DC tg (z:=z) (by omega) hz
    cases hh:dW bs x.t with
    |false=>rw[PV];exact hh
    |true=>exact absurd rfl (x2 x.t hm' hh ts)
  ·rename_i hne
   intro i q y e
   exact absurd (hone m hm i q y e) hne
 ·rw[j4,l9,fN]
  split
  ·exact hs2 _ _
  ·rename_i hne
   have hm':=h.note m hm
   have VH:=λst hst=>(ho.ss m hm).nx st hst
   generalize (a.ss m).nx=x at hm' VH
   unfold eJ at hm'⊢
   split
   ·rename_i t mm ag
    show ag<=(dD z bs a.g.S).aG (az t)
    have:=tX (az t) (bg t)
    have hm2:ag<=a.g.S.aG (az t):=hm'
    rw[this];split<;>omega
   ·rename_i t mm ag fs
    have hm2:ag<=a.g.S.aG (az t)/\_:=hm'
    have hg:t.good:=(VH _ rfl).1
    have ha:=tX (az t) (bg t)
    refine⟨?_,λe=>?_⟩
    ·show ag<=(dD z bs a.g.S).aG (az t)
     rw[ha];split<;>omega
    ·have e':(dD z bs a.g.S).aG (az t)=ag:=e
     rw[ha]at e'
     have hold:aL bs (az t) (aR z)=false:=by
      cases ho':aL bs (az t) (aR z)with
      |false=>rfl
      |true=>rw[ho',if_pos rfl]at e';omega
     rw[hold,if_neg (by simp)]at e'
     obtain⟨b1,b2⟩:=hm2.2 e'
     refine⟨b1,λk hk i q y hc hzy=>?_⟩
     show dW (bw q a.g.fs i) t=false
     dsimp only at hc
     split at hc
     ·rename_i ek
      rw[hs]at hc
      simp only[Option.some.injEq,Prod.mk.injEq]at hc
      obtain⟨rfl,rfl,rfl⟩:=hc
      by_cases ez:t.z<(z:Int)
      ·exact b2 n hn id p z (by dsimp only;rw[lH];rfl) ez
      ·have hmem:=DC hg (z:=z) (by omega) hz
       rw[PV]
       cases hh:dW bs t with
       |false=>rfl
       |true=>
        have:aL bs (az t) (aR z)=true:=by
         unfold aL
         rw[List.any_eq_true]
         exact⟨t,hmem,by rw[hh];simp⟩
        rw[hold]at this;cases this
     ·rename_i ek
      exact absurd (hone k hk i q y hc) ek
   ·trivial
theorem Fb(h:Inv a T)(ho:jq a)(hl:iz a)(hn:n<4){id:Int}(lH:(a.ss n).nx=some (.finish id p))(hs:s'.nx=none):Inv (a.set {a.g with lk:=false,fs:=(a.g.fs.filter λf=>!(f.id==id))++p.toList} n s') T:=by
 have Rq:oX id p:=(ho.ss n hn).nx _ lH
 have hone:∀m,m<4->∀i q y,s6 (a.ss m).nx=some (i,q,y)->m=n:=λm hm i q y e=>hl.one m n hm hn (qw e) (by rw[lH];rfl)
 have hch:s6 (a.ss n).nx=some (id,p,4):=by rw[lH];rfl
 have Rc:∀{t:Tl},t.good->t.z<((4:Nat):Int):=λ{t} hg=>by
  unfold Tl.good cC at hg
  rw[decide_eq_true_eq]at hg
  omega
 refine⟨λk hk=>h.aG k hk,⟨λk hk=>h.kept.u k hk,λk x hk hx=>h.kept.t k x hk hx,λk x hk hx=>?_⟩,λm hm=>?_,λm hm=>?_⟩
 ·have hg:=(h.kept.t k x hk hx).1
  show x.body=aX (Ng a.g.fs id p) x.t
  rw[sX ho.g.fs Rq hg (h.gone n hn id p 4 hch k x hk hx (Rc hg))]
  exact h.kept.b k x hk hx
 ·rw[j4,fN]
  intro i q y e
  split at e
  ·rw[hs]at e;cases e
  ·rename_i hne
   exact absurd (hone m hm i q y e) hne
 ·rw[j4,l9,fN]
  split
  ·rw[hs];trivial
  ·rename_i hne
   have hm':=h.note m hm
   have VH:=λst hst=>(ho.ss m hm).nx st hst
   generalize (a.ss m).nx=x at hm' VH
   unfold eJ at hm'⊢
   split
   ·exact hm'
   ·rename_i t mm ag fs
    have hm2:ag<=a.g.S.aG (az t)/\_:=hm'
    have hg:t.good:=(VH _ rfl).1
    refine⟨hm2.1,λe=>⟨?_,λk hk i q y hc=>?_⟩⟩
    ·obtain⟨b1,b2⟩:=hm2.2 e
     show aX fs t=aX (Ng a.g.fs id p) t
     rw[sX ho.g.fs Rq hg (b2 n hn id p 4 hch (Rc hg))]
     exact b1
    ·dsimp only at hc
     split at hc
     ·rw[hs]at hc;cases hc
     ·rename_i ek
      exact absurd (hone k hk i q y hc) ek
   ·trivial
variable {T':Int}
theorem Inv.mono(h:Inv a T)(ht:T<=T'):Inv a T':=⟨λk hk=>⟨(h.aG k hk).1,by have:=(h.aG k hk).2;omega⟩,h.kept,h.gone,h.note⟩
theorem MQ(h:Inv a T)(ho:jq a)(hl:iz a)(hT:T<4611686018427387904)(hn:n<4){st:mz}{s:rJ}(hst:jP st)(lH:(a.ss n).nx=some st\/((a.ss n).nx=none/\cz (some st)=false/\(∀g f,eJ g f (some st)))):Inv (kW a n s st).2 (T+1):=by
 have hch:s6 (some st)=none\/s6 (some st)=s6 (a.ss n).nx:=by
  rcases lH with e|⟨_,e,_⟩
  ·exact .inr (by rw[e])
  ·left
   cases hc:s6 (some st)with
   |none=>rfl
   |some x=>have:=qw hc;rw[e]at this;cases this
 have hfree:a.g.lk=false->∀m,m<4->s6 (a.ss m).nx=none:=λe m hm=>by
  cases hc:s6 (a.ss m).nx with
  |none=>rfl
  |some x=>have:=qw hc;rw[hl.free e m hm]at this;cases this
 cases st with
 |bad=>exact(ny h ho (n:=n) (g':=a.g) rfl rfl (s':={s with nx:=none,an:=s.an++[FR]}) (λid p z e=>by cases e) trivial (λid p z e=>by cases e)).mono (by omega)
 |look t m=>
  cases e:oP t (a.g.S.ks (az t))with
  |none=>
   unfold kW;rw[fJ e]
   exact(ny h ho (n:=n) (g':=a.g) rfl rfl (s':={s with nx:=some (.note t m (a.g.S.aG (az t)))}) (λid p z e=>by cases e) (Int.le_refl _) (λid p z e=>by cases e)).mono (by omega)
  |some x=>
   obtain⟨b,ks⟩:=x
   unfold kW;rw[fK e]
   obtain⟨u1,u2,u3⟩:=Ol (h.kept.u _ (bg t)) e
   exact(MR h ho (n:=n) (bg t) u1 (t:=t) hst rfl (λx hx=> .inl (u2 x hx)) (s':={s with nx:=none,an:=s.an++[bQ m b]}) rfl).mono (by omega)
 |note t m ag=>
  cases e:a.g.lk with
  |true=>
   unfold kW;rw[kF e]
   rcases lH with e1|⟨_,_,e3⟩
   ·refine(ny h ho (n:=n) (g':=a.g) rfl rfl (s':={s with nx:=some (.note t m ag)}) (λid p z e=>by cases e) ?_ (λid p z e=>by cases e)).mono (by omega)
    have:=h.note n hn
    rw[e1]at this
    exact this
   ·exact(ny h ho (n:=n) (g':=a.g) rfl rfl (s':={s with nx:=some (.note t m ag)}) (λid p z e=>by cases e) (e3 _ _) (λid p z e=>by cases e)).mono (by omega)
  |false=>
   unfold kW;rw[kG e]
   refine(ny h ho (n:=n) (g':=a.g) rfl rfl (s':={s with nx:=some (.draw t m ag a.g.fs)}) (λid p z e=>by cases e) ⟨?_,λ_=>⟨rfl,λk hk id p z hc=>?_⟩⟩ (λid p z e=>by cases e)).mono (by omega)
   ·rcases lH with e1|⟨_,_,e3⟩
    ·have:=h.note n hn
     rw[e1]at this
     exact this
    ·exact e3 a.g (λ_=>none)
   ·dsimp only at hc
    split at hc
    ·cases hc
    ·rw[hfree e k hk]at hc;cases hc
 |draw t m ag fs=>
  have hd:eJ a.g (λm=>(a.ss m).nx) (some (.draw t m ag fs)):=by
   rcases lH with e1|⟨_,_,e3⟩
   ·have:=h.note n hn;rw[e1]at this;exact this
   ·exact e3 _ _
  have hd2:ag<=a.g.S.aG (az t)/\_:=hd
  by_cases e:a.g.S.aG (az t)=ag
  ·have hw:kW a n s (.draw t m ag fs)=(true,a.set {a.g with S:=a.g.S.fH (az t) (fQ a.g.S.room t (aX fs t) (a.g.S.ks (az t)))} n {s with nx:=none,an:=s.an++[bQ m (aX fs t)]}):=by
    unfold kW aV;dsimp only;rw[if_pos e]
   rw[hw]
   obtain⟨b1,b2⟩:=hd2.2 e
   refine(MR h ho (n:=n) (bg t) (Js (h.kept.u _ (bg t))) (t:=t) hst.1 rfl (λx hx=>?_) (s':={s with nx:=none,an:=s.an++[bQ m (aX fs t)]}) rfl).mono (by omega)
   rcases y9 hx with h1|h1
   ·exact .inl h1
   ·exact .inr ⟨by rw[h1,b1],b2⟩
  ·have hw:kW a n s (.draw t m ag fs)=(true,a.set a.g n {s with nx:=none,an:=s.an++[bQ m (aX fs t)]}):=by
    unfold kW aV;dsimp only;rw[if_neg e]
   rw[hw]
   exact(ny h ho (n:=n) (g':=a.g) rfl rfl (s':={s with nx:=none,an:=s.an++[bQ m (aX fs t)]}) (λid p z e=>by cases e) trivial (λid p z e=>by cases e)).mono (by omega)
 |lock id p=>
  cases e:a.g.lk with
  |true=>
   unfold kW;rw[kD e]
   exact(ny h ho (n:=n) (g':=a.g) rfl rfl (s':={s with nx:=some (.lock id p)}) (λid p z e=>by cases e) trivial (λid p z e=>by cases e)).mono (by omega)
  |false=>
   unfold kW;rw[kE e]
   refine(ny h ho (n:=n) (g':={a.g with lk:=true}) rfl rfl (s':={s with nx:=some (.forget id p 0)}) (λi q z e k x hk hx hz=>?_) trivial (λi q z e hz=>?_)).mono (by omega)
   ·have e':some (id,p,0)=some (i,q,z):=e
    simp only[Option.some.injEq,Prod.mk.injEq]at e'
    obtain⟨rfl,rfl,rfl⟩:=e'
    have hg:=(h.kept.t k x hk hx).1
    unfold Tl.good cC at hg
    rw[decide_eq_true_eq]at hg
    omega
   ·have e':some (id,p,0)=some (i,q,z):=e
    simp only[Option.some.injEq,Prod.mk.injEq]at e'
    omega
 |forget id p z=>
  have e1:(a.ss n).nx=some (.forget id p z):=by
   rcases lH with e1|⟨_,e2,_⟩
   ·exact e1
   ·cases e2
  have hz:z<=3:=hst.2
  unfold kW aV
  refine Fc h ho hl hT hn hz e1 ?_ ?_
  ·by_cases e3:z=3
   ·rw[if_pos e3,e3];rfl
   ·rw[if_neg e3];rfl
  ·intro g f
   by_cases e3:z=3
   ·rw[if_pos e3];trivial
   ·rw[if_neg e3];trivial
 |finish id p=>
  have e1:(a.ss n).nx=some (.finish id p):=by
   rcases lH with e1|⟨_,e2,_⟩
   ·exact e1
   ·cases e2
  unfold kW aV
  exact(Fb h ho hl hn e1 rfl).mono (by omega)
theorem Cj(r:Rd):∀g f,eJ g f (some (eK r)):=by
 intro g f;cases r<;>trivial
theorem MS(h:Inv a T)(ho:jq a)(hl:iz a)(hT:T<4611686018427387904)(hn:n<4):Inv (fF a n).2 (T+1):=by
 unfold fF
 split
 ·rename_i st e
  exact MQ h ho hl hT hn ((ho.ss n hn).nx st e) (.inl e)
 ·rename_i e
  split
  ·exact h.mono (by omega)
  ·exact MQ h ho hl hT hn (jJ (jd _)) (.inr ⟨e,s8 _,Cj _⟩)
theorem MU{a b:fW}(h:Inv a T)(hg:b.g=a.g)(hn:∀m,(b.ss m).nx=(a.ss m).nx):Inv b T:=by
 have hf:(λm=>(b.ss m).nx)=λm=>(a.ss m).nx:=funext hn
 refine⟨λk hk=>?_,?_,λm hm=>?_,λm hm=>?_⟩
 ·rw[hg];exact h.aG k hk
 ·rw[hg];exact h.kept
 ·rw[hg,hn];exact h.gone m hm
 ·rw[hg,hf,hn];exact h.note m hm
theorem MV(h:Inv a T)(n:Nat):Inv (kH a n) T:=MU h rfl (λm=>oD a n m)
theorem MT(h:Inv a T)(n:Nat)(x:ByteArray):Inv (jf a n x) T:=by
 refine MU h rfl λm=>?_
 unfold jf;rw[gD];split
 ·rename_i e;rw[e]
 ·rfl
theorem zC(R:dw)(n:Nat)(s:kL):(R.gC n s).ss n=s:=if_pos rfl
variable {m:Nat}
theorem w_(R:dw)(h:m≠n)(s:kL):(R.gC n s).ss m=R.ss m:=if_neg h
structure Ij(g:Gr)(R:dw):Prop where
 room:R.room=g.S.room
 ids:sO R.all
 all:R.all.Perm g.fs
 sh:∀k,k<4->R.sh k=g.S.ks k
 aG:∀k,k<4->R.aG k=g.S.aG k
 lock:0<=R.lock↔g.lk=true
variable {R:dw}
theorem Rel.g(h:Rel a R):Ij a.g R:=⟨h.room,h.ids,h.all,h.sh,h.aG,h.lock⟩
variable {R0:dw} {rs:kL}
theorem Rel.set(h:Rel a R){g:Gr}{s:rJ}(hg:Ij g R0)(hs:R0.ss=R.ss)(oL:rs.an=s.an)(hw:C5 rs s.q s.nx):Rel (a.set g n s) (R0.gC n rs):=by
 refine⟨hg.room,hg.ids,hg.all,hg.sh,hg.aG,λm hm=>?_,λm hm=>?_,hg.lock⟩
 ·show((R0.gC n rs).ss m).an=(if m=n then s else a.ss m).an
  by_cases e:m=n
  ·subst e;rw[if_pos rfl,zC];exact oL
  ·rw[if_neg e,w_ _ e,hs];exact h.an m hm
 ·show C5 ((R0.gC n rs).ss m) (if m=n then s else a.ss m).q (if m=n then s else a.ss m).nx
  by_cases e:m=n
  ·subst e;rw[if_pos rfl,zC];exact hw
  ·rw[if_neg e,w_ _ e,hs];exact h.now m hm
theorem Rel.answer(h:Rel a R){g:Gr}{s:rJ}(hg:Ij g R0)(hs:R0.ss=R.ss)(oL:(R.ss n).an=s.an){r:Rd}(hq:(R.ss n).q=r::s.q.map cm)(x:ByteArray):Rel (a.set g n {s with nx:=none,an:=s.an++[x]}) (dF R0 n x):=by
 refine h.set hg hs ?_ ?_
 ·rw[hs];show(R.ss n).an++[x]=s.an++[x];rw[oL]
 ·rw[hs];exact⟨by show(R.ss n).q.drop 1=_;rw[hq];rfl,rfl,rfl⟩
def VV(s:kL)(q:List ByteArray):mz->Prop
 | .bad=>s.q=.bad::q.map cm/\s.step=0/\s.nt=[]
 | .look t m=>s.q=.get t m::q.map cm/\s.step=0/\s.nt=[]
 | .note t m aG=>C5 s q (some (.note t m aG))
 | .draw t m aG fs=>C5 s q (some (.draw t m aG fs))
 | .lock id p=>C5 s q (some (.lock id p))
 | .forget id p z=>C5 s q (some (.forget id p z))
 | .finish id p=>C5 s q (some (.finish id p))
theorem AQ{id:Int}{r:List Rd}(hq:(R.ss n).q=UA id p::r)(hp:oX id p):dJ R n=b_ R n id p:=by
 unfold dJ
 cases p with
 |none=>rw[hq];rfl
 |some f=>rw[hq];show b_ R n f.id (some f)=_;rw[hp.2]
theorem Ij.fH{g:Gr}(h:Ij g R)(k:Nat)(ks:List Kp):Ij {g with S:=g.S.fH k ks} (R.fH k ks):=
 ⟨h.room,h.ids,h.all,λj hj=>by show(if j=k then ks else R.sh j)=(if j=k then ks else g.S.ks j);rw[h.sh j hj],h.aG,h.lock⟩
theorem NK(h:Rel a R)(ho:jq a)(hk:Eb a.g){s:rJ}{st:mz}(hst:jP st)(oL:(R.ss n).an=s.an)(hw:VV (R.ss n) s.q st):(dJ R n).1=(kW a n s st).1/\Rel (kW a n s st).2 (dJ R n).2:=by
 have hG:=h.g
 cases st with
 |bad=>
  obtain⟨h1,h2,h3⟩:=hw
  have e:dJ R n=(true,dF R n FR):=by unfold dJ;rw[h1]
  rw[e]
  exact⟨rfl,h.answer hG rfl oL h1 _⟩
 |look t m=>
  obtain⟨h1,h2,h3⟩:=hw
  have hsh:=h.sh (az t) (nM t)
  have e:dJ R n=jF R n t m:=by unfold dJ;rw[h1]
  rw[e]
  unfold jF
  rw[h2]
  cases hu:oP t (a.g.S.ks (az t))with
  |none=>
   have hx:bO t (R.sh (az t))=none:=by rw[hsh];exact zN hu
   have e2:kW a n s (.look t m)=(true,a.set a.g n {s with nx:=some (.note t m (a.g.S.aG (az t)))}):=by unfold kW;rw[fJ hu]
   rw[e2,hx]
   exact⟨rfl,h.set hG rfl oL ⟨h1,rfl,h3,h.aG _ (nM t)⟩⟩
  |some x=>
   obtain⟨b,ks'⟩:=x
   obtain⟨i,hi,hb,hks⟩:=Ok (room:=R.room) (hk.u _ (nM t)) (by rw[h.room];exact ho.g.len _ (nM t)) hu
   have e2:kW a n s (.look t m)=(true,a.set {a.g with S:=a.g.S.fH (az t) ks'} n {s with nx:=none,an:=s.an++[bQ m b]}):=by unfold kW;rw[fK hu]
   rw[e2,hsh,hi]
   dsimp only
   rw[hb,hks]
   exact⟨rfl,h.answer (hG.fH (az t) ks') rfl oL h1 _⟩
 |note t m aG=>
  obtain⟨h1,h2,h3,h4⟩:=hw
  have e:dJ R n=jF R n t m:=by unfold dJ;rw[h1]
  rw[e]
  unfold jF
  rw[h2]
  cases hl:a.g.lk with
  |true=>
   have hl2:0<=R.lock:=h.lock.2 hl
   have e2:kW a n s (.note t m aG)=(false,a.set a.g n {s with nx:=some (.note t m aG)}):=by unfold kW;rw[kF hl]
   dsimp only
   rw[e2,if_pos hl2]
   refine⟨rfl,?_⟩
   have:R=R.gC n (R.ss n):=by cases R;unfold dw.gC;congr;funext j;split<;>simp_all
   rw[this]
   exact h.set hG rfl oL ⟨h1,h2,h3,h4⟩
  |false=>
   have hl2:¬0<=R.lock:=λe=>by have:=h.lock.1 e;rw[hl]at this;cases this
   have e2:kW a n s (.note t m aG)=(true,a.set a.g n {s with nx:=some (.draw t m aG a.g.fs)}):=by unfold kW;rw[kG hl]
   dsimp only
   rw[e2,if_neg hl2]
   exact⟨rfl,h.set hG rfl oL ⟨h1,rfl,h4,by show((R.ss n).nt++R.all).Perm _;rw[h3];exact h.all⟩⟩
 |draw t m aG fs=>
  obtain⟨h1,h2,h3,h4⟩:=hw
  have hb:aX (R.ss n).nt t=aX fs t:=IB hst.2.EC h4 t
  have e:dJ R n=jF R n t m:=by unfold dJ;rw[h1]
  rw[e]
  unfold jF
  rw[h2]
  dsimp only
  rw[hb,h3,h.aG _ (nM t),h.sh _ (nM t),y_ (hk.u _ (nM t)),h.room]
  have e2:kW a n s (.draw t m aG fs)=(true,a.set (if a.g.S.aG (az t)=aG then{a.g with S:=a.g.S.fH (az t) (fQ a.g.S.room t (aX fs t) (a.g.S.ks (az t)))}else a.g) n {s with nx:=none,an:=s.an++[bQ m (aX fs t)]}):=rfl
  rw[e2]
  refine⟨rfl,?_⟩
  by_cases he:a.g.S.aG (az t)=aG
  ·rw[if_pos he,if_pos he]
   exact h.answer (hG.fH _ _) rfl oL h1 _
  ·rw[if_neg he,if_neg he]
   exact h.answer hG rfl oL h1 _
 |lock id p=>
  obtain⟨h1,h2,h3⟩:=hw
  rw[AQ h1 hst]
  unfold b_
  rw[if_pos h2]
  cases hl:a.g.lk with
  |true=>
   have hl2:0<=R.lock:=h.lock.2 hl
   have e2:kW a n s (.lock id p)=(false,a.set a.g n {s with nx:=some (.lock id p)}):=by unfold kW;rw[kD hl]
   rw[e2,if_pos hl2]
   refine⟨rfl,?_⟩
   have:R=R.gC n (R.ss n):=by cases R;unfold dw.gC;congr;funext j;split<;>simp_all
   rw[this]
   exact h.set hG rfl oL ⟨h1,h2,h3⟩
  |false=>
   have hl2:¬0<=R.lock:=λe=>by have:=h.lock.1 e;rw[hl]at this;cases this
   have e2:kW a n s (.lock id p)=(true,a.set {a.g with lk:=true} n {s with nx:=some (.forget id p 0)}):=by unfold kW;rw[kE hl]
   rw[e2,if_neg hl2]
   exact⟨rfl,h.set (g:={a.g with lk:=true}) (s:={s with nx:=some (.forget id p 0)}) (R0:={R with lock:=n}) (rs:={R.ss n with step:=1}) ⟨hG.room,hG.ids,hG.all,hG.sh,hG.aG,⟨λ_=>rfl,λ_=>Int.natCast_nonneg n⟩⟩ rfl oL ⟨h1,rfl,h3⟩⟩
 |forget id p z=>
  obtain⟨h1,h2,h3⟩:=hw
  have hz:=hst.2
  rw[AQ h1 hst.1]
  unfold b_
  rw[if_neg (by omega),if_pos (by omega),h2]
  have e2:kW a n s (.forget id p z)=(true,a.set {a.g with S:=dD z (bw p a.g.fs id) a.g.S} n {s with nx:=some (if z=3 then .finish id p else .forget id p (z+1))}):=rfl
  rw[e2]
  refine⟨rfl,?_⟩
  dsimp only
  rw[show z+1-1=z by omega,Ex h.all ho.g.fs.EC]
  refine h.set (g:={a.g with S:=dD z (bw p a.g.fs id) a.g.S}) (s:={s with nx:=some (if z=3 then .finish id p else .forget id p (z+1))}) (R0:=rq R z (bw p a.g.fs id)) (rs:={R.ss n with step:=z+1+1}) ⟨hG.room,hG.ids,hG.all,λk hk'=>?_,λk hk'=>?_,hG.lock⟩ rfl oL ?_
  ·show cY _ k (aQ z) (R.sh k)=bW _ k (aR z) (a.g.S.ks k)
   rw[h.sh k hk',Cp hz (hk.u k hk')]
  ·show(if aL _ k (aQ z)=true then IntKind.i64.wrap (R.aG k+1)else R.aG k)=(if aL _ k (aR z)=true then IntKind.i64.wrap (a.g.S.aG k+1)else a.g.S.aG k)
   rw[h.aG k hk',Fo hz]
  ·dsimp only
   split
   ·rename_i e;subst e;exact⟨h1,rfl,h3⟩
   ·exact⟨h1,rfl,h3⟩
 |finish id p=>
  obtain⟨h1,h2,h3⟩:=hw
  rw[AQ h1 hst]
  unfold b_
  rw[if_neg (by omega),if_neg (by omega),Mh h.all]
  have e2:kW a n s (.finish id p)=(true,a.set {a.g with lk:=false,fs:=(a.g.fs.filter λf=>!(f.id==id))++p.toList} n {s with nx:=none,an:=s.an++[pM (eV id a.g.fs) p]}):=rfl
  rw[e2]
  exact⟨rfl,h.answer (g:={a.g with lk:=false,fs:=(a.g.fs.filter λf=>!(f.id==id))++p.toList}) (R0:={R with all:=mF R.all id p,lock:= -1}) ⟨hG.room,PD h.ids (λf hf=>by subst hf;exact hst.2),IX h.all id p,hG.sh,hG.aG,⟨λe=>absurd e (by show¬(0:Int)<= -1;decide),λe=>by cases e⟩⟩ rfl oL h1 _⟩
theorem I_(r:Rd){s:kL}{q:List ByteArray}(h1:s.q=r::q.map cm)(h2:s.step=0)(h3:s.nt=[]):VV s q (eK r):=by
 cases r with
 |bad=>exact⟨h1,h2,h3⟩
 |get t m=>exact⟨h1,h2,h3⟩
 |put f=>exact⟨h1,h2,h3⟩
 |del id=>exact⟨h1,h2,h3⟩
theorem NL(h:Rel a R)(ho:jq a)(hk:Eb a.g)(hn:n<4):(dJ R n).1=(fF a n).1/\Rel (fF a n).2 (dJ R n).2:=by
 have hw:=h.now n hn
 have oL:=h.an n hn
 unfold fF
 cases hx:(a.ss n).nx with
 |some st=>
  dsimp only
  rw[hx]at hw
  have hst:=(ho.ss n hn).nx st hx
  refine NK h ho hk hst oL ?_
  cases st with
  |bad=>exact hw.elim
  |look t m=>exact hw.elim
  |note t m aG=>exact hw
  |draw t m aG fs=>exact hw
  |lock id p=>exact hw
  |forget id p z=>exact hw
  |finish id p=>exact hw
 |none=>
  dsimp only
  rw[hx]at hw
  obtain⟨h1,h2,h3⟩:=hw
  cases hq:(a.ss n).q with
  |nil=>
   dsimp only
   rw[hq]at h1
   have e:dJ R n=(false,R):=by unfold dJ;rw[h1];rfl
   rw[e]
   exact⟨rfl,h⟩
  |cons x q=>
   dsimp only
   rw[hq]at h1
   exact NK h ho hk (jJ (jd x)) oL (I_ (cm x) h1 h2 h3)
theorem QA(r:Int):Rel (oM r) (JX r):=
 ⟨rfl,List.Pairwise.nil,List.Perm.refl _,λ_ _=>rfl,λ_ _=>rfl,λ_ _=>rfl,λ_ _=>⟨rfl,rfl,rfl⟩,⟨λe=>absurd e (by show¬(0:Int)<= -1;decide),λe=>by cases e⟩⟩
theorem NM(h:Rel a R)(hn:n<4)(x:ByteArray):Rel (jf a n x) (Dk R n x):=by
 refine h.set h.g rfl (h.an n hn) ?_
 have hw:=h.now n hn
 dsimp only
 cases hx:(a.ss n).nx with
 |none=>rw[hx]at hw;exact⟨by show(R.ss n).q++_=_;rw[hw.1,List.map_append];rfl,hw.2⟩
 |some st=>
  rw[hx]at hw
  cases st with
  |bad=>exact hw.elim
  |look t m=>exact hw.elim
  |note t m aG=>exact⟨by show(R.ss n).q++_=_;rw[hw.1,List.map_append];rfl,hw.2⟩
  |draw t m aG fs=>exact⟨by show(R.ss n).q++_=_;rw[hw.1,List.map_append];rfl,hw.2⟩
  |lock id p=>exact⟨by show(R.ss n).q++_=_;rw[hw.1,List.map_append];rfl,hw.2⟩
  |forget id p z=>exact⟨by show(R.ss n).q++_=_;rw[hw.1,List.map_append];rfl,hw.2⟩
  |finish id p=>exact⟨by show(R.ss n).q++_=_;rw[hw.1,List.map_append];rfl,hw.2⟩
theorem NP(h:Rel a R)(hn:n<4):Rel (kH a n) (GX R n):=by
 refine h.set h.g rfl rfl ?_
 have hw:=h.now n hn
 dsimp only
 cases hx:(a.ss n).nx with
 |none=>rw[hx]at hw;exact hw
 |some st=>
  rw[hx]at hw
  cases st<;>exact hw
theorem lp(h:Rel a R)(hn:n<4):(R.ss n).q.length=ct (a.ss n):=by
 have hw:=h.now n hn
 unfold ct
 cases hx:(a.ss n).nx with
 |none=>rw[hx]at hw;rw[hw.1,List.length_map];rfl
 |some st=>
  rw[hx]at hw
  cases st with
  |bad=>exact hw.elim
  |look t m=>exact hw.elim
  |note t m aG=>rw[hw.1,List.length_cons,List.length_map]
  |draw t m aG fs=>rw[hw.1,List.length_cons,List.length_map]
  |lock id p=>rw[hw.1,List.length_cons,List.length_map]
  |forget id p z=>rw[hw.1,List.length_cons,List.length_map]
  |finish id p=>rw[hw.1,List.length_cons,List.length_map]
variable {ops:Array Oper} {w:World} {Q:Exit->Act->World->Prop} {E:Prop}
theorem sN{P:Program}{o:Oper}{a:Act}{K:Act->World->Prop} 
  (hg:o.guard=none) (s x:Operand) (t:TypeId) (hop:o.op=Op.call {callee:=Callee.builtin Builtin.append,args:=#[s,x],argTypes:=#[t,t]})
  (e:TypeId) (i:TypeInfo) (size:Nat) (h1:P.underlying t=some (.slice e)) (h2:P.info? e=some i) (b0:Nat) (v:Value) (n:Nat) (xs:List Value) (hs:a.eval s=v) (hown:ak w b0 e size v n xs) (hx:a.eval x=.slice none 0 0) (h:K (a.put o.dst v) w):
  if Region.wanted o (yielded ops a.tmps)=true then Oper.wp P o a w K Q else E:=by
 have hw:Region.wanted o (yielded ops a.tmps)=true:=by simp[Region.wanted,hg]
 rw[if_pos hw]
 have hrun:=oO (P:=P) w t o.type e i size h1 h2 b0 v n xs hown
 unfold Oper.wp
 simp[execOp,hop,resolve,invoke,builtin,hs,hx,hrun,Result.andThen]
 exact h
variable {vq vn va:Value} {st ag:Int}
theorem SC.Z8{A n:Nat}(h:SC w A n vq st ag vn va)(v':Value):SC (w.setCell ⟨A,10+n*5+3,none⟩ v') A n vq st ag v' va:=
 ⟨(aP (by omega)).trans h.cq,(aP (by omega)).trans h.cs,(aP (by omega)).trans h.cg,cell_eq h.cn _,(aP (by omega)).trans h.ca,λi hi=>by rw[World.frozen?_setCell];exact h.f i hi⟩
theorem EI{l:List FG}{u:Value}(h:u∈cu l):u.oneCell'=true:=by
 unfold cu at h
 obtain⟨g,_,hu⟩:=List.mem_flatMap.1 h
 simp only[LP,List.mem_cons,List.not_mem_nil,or_false]at hu
 rcases hu with hu|hu|hu|hu|hu<;>(rw[hu];rfl)
def pJ(A n:Nat)(vq:Value)(ag:Int)(va:Value)(gs:List FG)(w:World)(e:Ending)(w':World):Prop:=
 e=.returned (.bool true)/\∃v',SC w' A n vq 2 ag v' va/\ak w' 0 32 5 v' gs.length (cu gs)/\(∀b,v'.ownBlock=some b->w.heap.size<=b)/\Fr (λc i=>c=A/\(i=10+n*5+3\/i=10+n*5+1)) w w'
variable {gs:List FG} {w1 w2:World}
theorem pJ.below{A n:Nat}{e:Ending}(h:pJ A n vq ag va gs w e w1)(hb:Below w1.heap.size w1 w2):pJ A n vq ag va gs w e w2:=by
 obtain⟨he,v',hs,ho,hg,hf⟩:=h
 exact⟨he,v',hs.fr (M:=λ_ _=>False) (Fr.of_below hb) (λ_ _ e=>e),ho.below hb,hg,hf.trans (Fr.of_below hb)⟩
variable {w3:World} {v':Value}
theorem wR{A n:Nat}(hf:Fr (λ_ _=>False) w w3)(h:SC w3 A n vq st ag vn va)(hA:A<w.heap.size)(ho:ak w3 0 32 5 v' gs.length (cu gs))(hg:∀b,v'.ownBlock=some b->w.heap.size<=b):
  pJ A n vq ag va gs w (.returned (.bool true)) ((w3.setCell ⟨A,10+n*5+3,none⟩ v').setCell ⟨A,10+n*5+1,none⟩ (.int .i64 2)):=by
 have hf2:Fr (λc i=>c=A/\(i=10+n*5+3\/i=10+n*5+1)) w3 ((w3.setCell ⟨A,10+n*5+3,none⟩ v').setCell ⟨A,10+n*5+1,none⟩ (.int .i64 2)):=((Fr.refl _ _).setCell (.inl ⟨rfl,.inl rfl⟩) _).setCell (.inl ⟨rfl,.inr rfl⟩) _
 exact⟨rfl,v',(h.Z8 v').gC 2,ho.fr hf2 (λb i hb e=>by have:=hg b hb;have:=e.1;omega),hg,(hf.mono (λ_ _ e=>e.elim)).trans hf2⟩
theorem C3{A n:Nat}(hg0:gs.length=0)(h:SC w A n vq st ag vn va):
  pJ A n vq ag va gs w (.returned (.bool true)) ((w.setCell ⟨A,10+n*5+3,none⟩ (.slice none 0 0)).setCell ⟨A,10+n*5+1,none⟩ (.int .i64 2)):=by
 have:gs=[]:=List.length_eq_zero_iff.1 hg0
 subst this
 exact wR (Fr.refl _ _) h h.lt (ak.nil _ _ _ _) (λb hb=>by cases hb)
theorem J7(A n:Nat)(hn:n<4)(t:Tl)(mk:ByteArray)(vq:Value)(ag:Int)(va:Value)(lock:Int)(hl:lock<0)(vl:Value)(gs:List FG)(qJ:gs.length<=900)(w:World)(h:SC w A n vq 1 ag (.slice none 0 0) va)(hA:AR w A vl gs)(hL:w.cell? ⟨A,30,none⟩=some (.int .i64 lock)):
  Calls prog 113 #[.pointer (some ⟨A,0,none⟩),.int .i64 (n:Int),.agg #[.int .i64 1,.int .i64 t.z,.int .i64 t.c,.int .i64 t.r,.string mk,.int .i64 0,.int .i64 0,.int .i64 0,.int .i64 0,.slice none 0 0]] w (pJ A n vq ag va gs w):=by
 have HC:=af h
 have TC:=af hA
 have mK:=h.lt
 have c1:=h.cs
 have c3:=h.cn
 have f1:=h.f 1 (by omega)
 have f3:=h.f 3 (by omega)
 have cl:=hA.c
 have t_:(n:Int)<4:=by omega
 have hn0:¬(n:Int)<0:=by omega
 have Ze:¬lock>=0:=by omega
 obtain⟨i32,eH,hz0,hz1,hz2⟩:=info_parts E9
 have HI:Hid (prog.info? 32=some i32/\i32.zero=some (.agg #[.int .i64 0,.int .i64 0,.int .i64 0,.int .i64 0,.slice none 0 0])/\i32.size=5/\i32.bytes=56):=⟨eH,hz0,hz1,hz2⟩
 obtain⟨tz,tc,tr⟩:=t
 dsimp only
 have o9:=hA.own.2
 clear h hA eH hz0 hz1 hz2
 rcases o9 with⟨rfl,hg0⟩|⟨lg,lo,lc,cur,rfl,_,_,_,_,_,_⟩
 ·go_enter func113,ntmps113
  go_wp2_with fail
  go_region_law (refine sN rfl (.tmp 108) (.tmp 112) 22 rfl 32 i32 5 underlying22 HI.out.1 0 (.slice none 0 0) 0 [] rfl (ak.nil _ _ _ _) rfl ?_)
  all_goals go_wp2
  all_goals
   go_ret
   first
    |exact(C3 hg0 HC.out).below aU
    |exact(C3 hg0 HC.out).below (aU.drew)
 ·obtain⟨N,hN⟩:∃N,gs.length=N:=⟨_,rfl⟩
  have HN:=af hN
  have HO:Hid (ak w 0 32 5 (.slice (some ⟨lg,lo,none⟩) N lc) N (cu gs)):=by have:=TC.out.own;rw[hN]at this;exact this
  rw[hN]at cl qJ
  clear hN
  go_enter func113,ntmps113
  go_wp2_with fail
  go_region_law (refine cB rfl (.tmp 108) (.tmp 112) 22 rfl 32 i32 (.agg #[.int .i64 0,.int .i64 0,.int .i64 0,.int .i64 0,.slice none 0 0]) 5 56 underlying22 HI.out.1 HI.out.2.1 HI.out.2.2.1 HI.out.2.2.2 rfl (by decide) 0 (Nat.zero_le _) (.slice none 0 0) 0 [] rfl (ak.nil _ _ _ _) ⟨lg,lo,none⟩ N lc (cu gs) rfl (by rw[yS,HN.out]) ((HO.out.below (by repeat(first|with_reducible exact bK|with_reducible refine Below.drew ?_|with_reducible refine Below.alloc ?_ (by simp) _))).cells) (λu hu=>EI hu) (by unfold maxLen;omega) (by omega) ?_;intro v3 w3 bp hfr3 ij;rw[Nat.zero_add,List.nil_append]at bp;obtain⟨a3,dV,rfl,_,_⟩:=bp.form;have vu:Hid _:=bp;have eU:Hid (Fr (λ_ _=>False) w w3):=Fr.trans (Fr.of_below (by repeat(first|with_reducible exact bK|with_reducible refine Below.drew ?_|with_reducible refine Below.alloc ?_ (by simp) _))) (ij.mono (λ_ _ e=>by cases e));have xP:Hid (∀b,(Value.slice a3 N dV).ownBlock=some b->w.heap.size<=b):=(λb hb=>by rcases hfr3 b hb with h|h;cases h;simp at h;omega);have Gy:=HC.out.fr eU.out (λ_ _ e=>e);have oH:Hid _:=Gy;have d1:=Gy.cs;have d3:=Gy.cn;have e1:=Gy.f 1 (by omega);have e3:=Gy.f 3 (by omega);clear bp hfr3 ij Gy)
  all_goals go_wp2
  all_goals
   go_ret
   first
    |exact wR eU.out oH.out mK (by rw[HN.out];exact vu.out) xP.out
    |exact(wR eU.out oH.out mK (by rw[HN.out];exact vu.out) xP.out).below bK.drew
end
end Go.Proofs.YtenaepdmlknlcaaGreatDoor
