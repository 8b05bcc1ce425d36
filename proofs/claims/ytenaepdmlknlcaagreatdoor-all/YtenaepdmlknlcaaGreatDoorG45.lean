import Derived.Test.YtenaepdmlknlcaaGreatDoorG43
open Go.Proofs.Tryz
set_option maxRecDepth 100000
set_option maxHeartbeats 8000000
namespace Go.Proofs.YtenaepdmlknlcaaGreatDoor
section
open Go.RowKit Go.Shelf
def l7(k:Int):Nat->List Value
 |0=>[]
 |j+1=>l7 k j++[.int .i64 (-77000000),.int .i64 0,.int .i64 k]
theorem J3(k:Int)(j:Nat):l7 k j++[.int .i64 (-77000000),.int .i64 0,.int .i64 k]=l7 k (j+1):=rfl
theorem jZ(k:Int):∀j,(l7 k j).length=j*3
 |0=>rfl
 |j+1=>by rw[l7,List.length_append,jZ k j,Nat.succ_mul];rfl
theorem GY(k:Int):∀{n j:Nat},j<n->∀i,i<3->(l7 k n)[j*3+i]? =([.int .i64 (-77000000),.int .i64 0,.int .i64 k]:List Value)[i]?
 |0,j,h,_,_=>by omega
 |n+1,j,h,i,hi=>by
  rw[l7]
  by_cases e:j<n
  ·rw[List.getElem?_append_left (by rw[jZ];omega)]
   exact GY k e i hi
  ·have e':j=n:=by omega
   subst e'
   rw[List.getElem?_append_right (by rw[jZ];omega),jZ,Nat.add_sub_cancel_left]
def x_(w:World)(g off j:Nat)(k:Int):Prop:=w.cell? ⟨g,off+j*3,none⟩=some (.int .i64 (-77000000))/\w.cell? ⟨g,off+j*3+1,none⟩=some (.int .i64 0)/\w.cell? ⟨g,off+j*3+2,none⟩=some (.int .i64 k)
variable {w w':World}
theorem x_.go{g off j:Nat}{k:Int}(hc:∀i,w'.cell? ⟨g,i,none⟩=w.cell? ⟨g,i,none⟩)(h:x_ w g off j k):x_ w' g off j k:=⟨(hc _).trans h.1,(hc _).trans h.2.1,(hc _).trans h.2.2⟩
variable {j:Nat}
theorem ak.atT{b0 n g off cap:Nat}{k:Int}(h:ak w b0 24 3 (.slice (some ⟨g,off,none⟩) n cap) n (l7 k n))(hj:j<n):x_ w g off j k:=by
 have hc:∀i,i<3->w.cell? ⟨g,off+j*3+i,none⟩=([.int .i64 (-77000000),.int .i64 0,.int .i64 k]:List Value)[i]? :=λi hi=>by
  rw[<-GY k hj i hi,Nat.add_assoc]
  exact h.cell (j:=j*3+i) (by omega)
 exact⟨hc 0 (by omega),hc 1 (by omega),hc 2 (by omega)⟩
structure KU(w:World)(lab:Nat->Lb)(qR:Value)(m:Nat)(mk:Int)(L:Nat)(ps:List (Nat×Nat))(n:Int)(X W:List Value)(Y M:List Value)(kk:Nat)(tx:List j8)(aB:Nat->Lb)(V:jA)(a:Option Addr)(c:Nat)(wr:World):Prop where
 rows:aI wr L aB V ps n X W Y M
 own:ak wr 0 24 3 (.slice a (m+kk) c) (m+kk) (l7 mk (m+kk))
 lb:∀b,(Value.slice a (m+kk) c).ownBlock=some b->lab b=.no/\aB b=.out
 vs:∀x∈tx,x.k=mk/\x.n<=m+kk/\(x.n=0\/x.a=a\/∃g off,x.a=some ⟨g,off,none⟩/\lab g=.no/\aB g=.out/\(Value.slice a (m+kk) c).ownBlock≠some g/\g<wr.heap.size/\∀j,j<x.n->x_ wr g off j mk)
 kl:KZ lab aB qR w wr
 f:Fr (λb _=>lab b=.law\/qR.ownBlock=some b) w wr
 lt:∀b,aB b≠.no->b<wr.heap.size
variable {lab aB iU:Nat->Lb} {qR:Value} {m L kk c:Nat} {ps:List (Nat×Nat)} {V V2:jA} {wr:World} {Y2 M2:List Value}
theorem KU.go{mk:Int}{n:Int}{X W Y M:List Value}{tx:List j8}{a:Option Addr}(h:KU w lab qR m mk L ps n X W Y M kk tx aB V a c wr)
  {N:Nat->Nat->Prop} (hf:Fr N wr w') (hN:∀b i,N b i->aB b=.law) (hr:aI w' L iU V2 ps n X W Y2 M2) (h1:∀b,aB b≠.no->iU b=aB b) (h2:∀b,aB b=.no->iU b≠.no->iU b=.law/\wr.heap.size<=b/\b<w'.heap.size):KU w lab qR m mk L ps n X W Y2 M2 kk tx iU V2 a c w':=by
 have hs:=h.f.size
 have hs2:=hf.size
 have hcell:∀b i,aB b=.out->w'.cell? ⟨b,i,none⟩=wr.cell? ⟨b,i,none⟩:=λb i e=>hf.cell b i (h.lt b (dK e)) (λe2=>GS (hN b i e2) e)
 refine⟨hr,h.own.fr hf (λb i e e2=>GS (hN b i e2) (h.lb b e).2),λb hb=>⟨(h.lb b hb).1,(h1 b (dK (h.lb b hb).2)).trans (h.lb b hb).2⟩,λx hx=>?_,⟨λb hb=>?_,λb hb hb2=>?_⟩,?_,λb hb=>?_⟩
 ·obtain⟨e1,e2,e3⟩:=h.vs x hx
  refine⟨e1,e2,?_⟩
  rcases e3 with e3|e3|⟨g,off,f1,f2,f3,f4,f5,f6⟩
  ·exact .inl e3
  ·exact .inr (.inl e3)
  ·exact .inr (.inr ⟨g,off,f1,f2,(h1 g (dK f3)).trans f3,f4,by omega,λj hj=>x_.go (λi=>hcell g i f3) (f6 j hj)⟩)
 ·have e:=h.kl.old b hb
  rw[h1 b (by rw[e];exact hb),e]
 ·by_cases e:aB b=.no
  ·have:=h2 b e hb2
   exact⟨.inl this.1,.inr (by omega),this.2.2⟩
  ·have e2:=h1 b e
   have:=h.kl.new b hb e
   rw[e2]
   exact⟨this.1,this.2.1,by omega⟩
 ·refine h.f.aC hf (λb i hb e=>?_)
  have e1:=hN b i e
  by_cases e2:lab b=.no
  ·rcases(h.kl.new b e2 (gT e1)).2.1 with e3|e3
   ·exact .inr e3
   ·omega
  ·rw[h.kl.old b e2]at e1
   exact .inl e1
 ·by_cases e:aB b=.no
  ·exact(h2 b e hb).2.2
  ·have:=h.lt b e;omega
theorem KU.below{mk:Int}{n:Int}{X W Y M:List Value}{tx:List j8}{a:Option Addr}(h:KU w lab qR m mk L ps n X W Y M kk tx aB V a c wr)(hb:Below wr.heap.size wr w'):KU w lab qR m mk L ps n X W Y M kk tx aB V a c w':=
 h.go (N:=λ_ _=>False) (Fr.of_below hb) (λ_ _ e=>e.elim) (h.rows.fr (N:=λ_ _=>False) (Fr.of_below hb) (λ_ _ e=>e.elim) (λ_ e=>e)) (λ_ _=>rfl) (λ_b e e2=>absurd e e2)
variable {w2:World} {v':Value}
theorem KU.Nw{mk:Int}{n:Int}{X W Y M:List Value}{tx:List j8}{a:Option Addr}(h:KU w lab qR m mk L ps n X W Y M kk tx aB V a c wr)
  (u:Value) (ho:ak w2 0 80 1 v' (Y.length+1) (Y++[u])) (hb:∀k,v'.ownBlock=some k->V.vT.ownBlock=some k\/wr.heap.size<=k) (hf:Fr (λc _=>V.vT.ownBlock=some c) wr w2):KU w lab qR m mk L ps n X W (Y++[u]) M kk tx (bS aB v') {V with vT:=v'} a c (w2.setCell ⟨L,4,none⟩ v'):=by
 obtain⟨h1,h2⟩:=h.rows.Nw h.lt u ho hb hf
 have hv:∀b,V.vT.ownBlock=some b->aB b=.law:=λb e=>(h.rows.lw b (.inr (.inr (.inr (.inl e))))).1
 refine h.go h2 (λb i e=>e) h1 (jU hb hv h.lt) (λb e e2=>?_)
 obtain⟨f1,f2,f3⟩:=jT hb hv b e e2
 exact⟨f1,f2,by have:=(ho.lt f3).2;simpa[World.setCell]using this⟩
theorem KU.Nv{mk:Int}{n:Int}{X W Y M:List Value}{tx:List j8}{a:Option Addr}(h:KU w lab qR m mk L ps n X W Y M kk tx aB V a c wr)
  (u:Value) (ho:ak w2 0 3 1 v' (M.length+1) (M++[u])) (hb:∀k,v'.ownBlock=some k->V.vM.ownBlock=some k\/wr.heap.size<=k) (hf:Fr (λc _=>V.vM.ownBlock=some c) wr w2):KU w lab qR m mk L ps n X W Y (M++[u]) kk tx (bS aB v') {V with vM:=v'} a c (w2.setCell ⟨L,5,none⟩ v'):=by
 obtain⟨h1,h2⟩:=h.rows.Nv h.lt u ho hb hf
 have hv:∀b,V.vM.ownBlock=some b->aB b=.law:=λb e=>(h.rows.lw b (.inr (.inr (.inr (.inr e))))).1
 refine h.go h2 (λb i e=>e) h1 (jU hb hv h.lt) (λb e e2=>?_)
 obtain⟨f1,f2,f3⟩:=jT hb hv b e e2
 exact⟨f1,f2,by have:=(ho.lt f3).2;simpa[World.setCell]using this⟩
theorem KU.grow{mk:Int}{n:Int}{X W Y M:List Value}{tx:List j8}{a:Option Addr}(h:KU w lab qR m mk L ps n X W Y M kk tx aB V a c wr)
  (ho:ak w' 0 24 3 v' (m+kk+1) (l7 mk (m+kk)++[.int .i64 (-77000000),.int .i64 0,.int .i64 mk])) (hd:(∃g off cap,Value.slice a (m+kk) c=.slice (some ⟨g,off,none⟩) (m+kk) cap/\v'=.slice (some ⟨g,off,none⟩) (m+kk+1) cap/\Fr (λc _=>c=g) wr w')\/((∀k,v'.ownBlock=some k->wr.heap.size<=k)/\Below wr.heap.size wr w')):
  ∃iU a2 c2,v'=.slice a2 (m+(kk+1)) c2/\KU w lab qR m mk L ps n X W Y M (kk+1) (tx++[⟨a,m+kk,c,mk⟩]) iU V a2 c2 w':=by
 rw[J3]at ho
 have hs:=h.f.size
 rcases hd with⟨g,off,cap,e1,e2,hf⟩|⟨hnew,hB⟩
 ·subst e2
  injection e1 with e1 _ Yh
  subst e1 Yh
  have hg:=h.lb g rfl
  have qJ:g<wr.heap.size:=h.lt g (dK hg.2)
  have hs2:=hf.size
  refine⟨aB,some ⟨g,off,none⟩,c,rfl,⟨h.rows.fr hf (λb i e=>by have e':b=g:=e;rw[e',hg.2];intro x;cases x) (λ_ e=>e),ho,λb hb=>by cases hb;exact hg,λx hx=>?_,⟨h.kl.old,λb hb hb2=>?_⟩,?_,λb hb=>by have:=h.lt b hb;omega⟩⟩
  ·rcases List.mem_append.1 hx with hx|hx
   ·obtain⟨f1,f2,f3⟩:=h.vs x hx
    refine⟨f1,by omega,?_⟩
    rcases f3 with f3|f3|⟨g2,off2,k1,k2,k3,k4,k5,k6⟩
    ·exact .inl f3
    ·exact .inr (.inl f3)
    ·have hne:g2≠g:=λe=>k4 (by rw[e];rfl)
     exact .inr (.inr ⟨g2,off2,k1,k2,k3,λe=>hne (by cases e;rfl),by omega,λj hj=>x_.go (λi=>hf.cell g2 i k5 hne) (k6 j hj)⟩)
   ·rw[List.mem_singleton.1 hx]
    exact⟨rfl,by show m+kk<=_;omega,.inr (.inl rfl)⟩
  ·have:=h.kl.new b hb hb2
   exact⟨this.1,this.2.1,by omega⟩
  ·refine h.f.aC hf (λb i hb e=>?_)
   have e':b=g:=e
   subst e'
   rcases(h.kl.new b hg.1 (dK hg.2)).2.1 with e3|e3
   ·exact .inr e3
   ·omega
 ·obtain⟨a2,c2,rfl,_,_⟩:=ho.form
  have hold:∀b,aB b≠.no->bT aB (.slice a2 (m+kk+1) c2) b=aB b:=λb hb=>by
   unfold bT
   rw[if_neg (λe=>by have:=hnew b e;have:=h.lt b hb;omega)]
  have hs2:=hB.size
  have hcell:∀b i,b<wr.heap.size->w'.cell? ⟨b,i,none⟩=wr.cell? ⟨b,i,none⟩:=λb i hb=>hB.cell (p:=⟨b,i,none⟩) hb
  have hnl:∀b,lab b≠.no->bT aB (.slice a2 (m+kk+1) c2) b=lab b:=λb hb=>by
   have e:=h.kl.old b hb
   rw[hold b (by rw[e];exact hb),e]
  refine⟨bT aB (.slice a2 (m+kk+1) c2),a2,c2,rfl,⟨h.rows.fr (N:=λ_ _=>False) (Fr.of_below hB) (λ_ _ e=>e.elim) (λb e=>(hold b (gT e)).trans e),ho,λb hb=>⟨?_,by unfold bT;exact if_pos hb⟩,λx hx=>?_,⟨hnl,λb hb hb2=>?_⟩,h.f.trans (Fr.of_below hB),λb hb=>?_⟩⟩
  ·refine Classical.byContradiction λe=>?_
   have h1:=hnew b hb
   have h2:=h.kl.old b e
   have:=h.lt b (by rw[h2];exact e)
   omega
  ·have o9:∀y:j8,y.n<=m+kk->y.a=a->y.n=0\/∃g off,y.a=some ⟨g,off,none⟩/\lab g=.no/\bT aB (.slice a2 (m+kk+1) c2) g=.out/\(Value.slice a2 (m+kk+1) c2).ownBlock≠some g/\g<w'.heap.size/\∀j,j<y.n->x_ w' g off j mk:=λy hy ha=>by
    by_cases e0:y.n=0
    ·exact .inl e0
    ·obtain⟨a',c',e1,_,hg⟩:=h.own.form
     obtain⟨g,off,e2,_⟩:=hg (by omega)
     injection e1 with e1
     rw[<-e1]at e2
     subst e2
     have qJ:=h.lb g rfl
     have hlt:=h.lt g (dK qJ.2)
     refine .inr ⟨g,off,ha,qJ.1,(hold g (dK qJ.2)).trans qJ.2,λe=>by have:=hnew g e;omega,by omega,λj hj=>x_.go (λi=>hcell g i hlt) (h.own.atT (by omega))⟩
   rcases List.mem_append.1 hx with hx|hx
   ·obtain⟨f1,f2,f3⟩:=h.vs x hx
    refine⟨f1,by omega,?_⟩
    rcases f3 with f3|f3|⟨g2,off2,k1,k2,k3,k4,k5,k6⟩
    ·exact .inl f3
    ·rcases o9 x f2 f3 with e|e
     ·exact .inl e
     ·exact .inr (.inr e)
    ·exact .inr (.inr ⟨g2,off2,k1,k2,(hold g2 (dK k3)).trans k3,λe=>by have:=hnew g2 e;omega,by omega,λj hj=>x_.go (λi=>hcell g2 i k5) (k6 j hj)⟩)
   ·rw[List.mem_singleton.1 hx]
    refine⟨rfl,by show m+kk<=_;omega,?_⟩
    rcases o9 ⟨a,m+kk,c,mk⟩ aM rfl with e|e
    ·exact .inl e
    ·exact .inr (.inr e)
  ·unfold bT at hb2⊢
   by_cases e:(Value.slice a2 (m+kk+1) c2).ownBlock=some b
   ·rw[if_pos e]
    exact⟨.inr rfl,.inr (by have:=hnew b e;omega),(ho.lt e).2⟩
   ·rw[if_neg e]at hb2⊢
    have:=h.kl.new b hb hb2
    exact⟨this.1,this.2.1,by omega⟩
  ·unfold bT at hb
   by_cases e:(Value.slice a2 (m+kk+1) c2).ownBlock=some b
   ·exact(ho.lt e).2
   ·rw[if_neg e]at hb
    have:=h.lt b hb
    omega
theorem KU.ti{mk:Int}{n:Int}{X W Y M:List Value}{tx:List j8}{a:Option Addr}(h:KU w lab qR m mk L ps n X W Y M kk tx aB V a c wr)(hm:m+kk<=5000000):∀x∈tx,Ah wr aB x:=λx hx=>by
 obtain⟨f1,f2,f3⟩:=h.vs x hx
 refine⟨by omega,?_⟩
 rcases f3 with f3|f3|⟨g2,off2,k1,k2,k3,k4,k5,k6⟩
 ·exact .inl f3
 ·by_cases e0:x.n=0
  ·exact .inl e0
  ·obtain⟨a',c',e1,_,hg⟩:=h.own.form
   obtain⟨g,off,e2,_⟩:=hg (by omega)
   injection e1 with e1
   rw[<-e1]at e2
   subst e2
   have qJ:=h.lb g rfl
   refine .inr ⟨g,off,f3,qJ.2,h.lt g (dK qJ.2),λj hj=>?_⟩
   rw[f1]
   exact h.own.atT (by omega)
 ·exact .inr ⟨g2,off2,k1,k3,k5,λj hj=>by rw[f1];exact k6 j hj⟩
theorem Tc:(prog.info? 80).map (λi=>(i.zero,i.size,i.bytes))=some (some (.slice none 0 0),1,24):=by kernel_rfl
theorem Te:(prog.info? 3).map (λi=>(i.zero,i.size,i.bytes))=some (some (.int .i64 0),1,8):=by kernel_rfl
theorem P9:(prog.info? 24).map (λi=>(i.zero,i.size,i.bytes))=some (some (.agg #[.int .i64 0,.int .i64 0,.int .i64 0]),3,24):=by kernel_rfl
def K0(lab:Nat->Lb)(lv:Value)(L:Nat)(ps:List (Nat×Nat))(n:Int)(X W Y M:List Value)(w:World)(e:Ending)(w':World):Prop:=
 e=.returned (.tuple #[])/\∃(aB:Nat->Lb) (V':jA) (ti:List j8),aI w' L aB V' ps (n+1) X W (Y++ti.map j8.v) (M++ti.map λx=> .int .i64 x.k)/\ti.length=4/\(∀x∈ti,Ah w' aB x)/\KZ lab aB lv w w'/\Fr (λb _=>lab b=.law\/lv.ownBlock=some b) w w'/\∀b,aB b≠.no->b<w'.heap.size
theorem KU.start{mk:Int}{n:Int}{X W Y M:List Value}{a:Option Addr}(hr:aI wr L lab V ps n X W Y M)(ho:ak wr 0 24 3 (.slice a m c) m (l7 mk m))(hlb:∀b,(Value.slice a m c).ownBlock=some b->lab b=.no)(hlt:∀b,lab b≠.no->b<w.heap.size)(hf:Fr (λb _=>lab b=.law\/(Value.slice a m c).ownBlock=some b) w wr):KU w lab (.slice a m c) m mk L ps n X W Y M 0 [] (bT lab (.slice a m c)) V a c wr:=by
 have hs:=hf.size
 have hold:∀b,lab b≠.no->bT lab (.slice a m c) b=lab b:=λb hb=>by
  unfold bT
  exact if_neg (λe=>hb (hlb b e))
 refine⟨hr.fr (N:=λ_ _=>False) (Fr.refl _ _) (λ_ _ e=>e.elim) (λb e=>(hold b (gT e)).trans e),ho,λb hb=>⟨hlb b hb,by unfold bT;exact if_pos hb⟩,λx hx=>(by cases hx),⟨hold,λb hb hb2=>?_⟩,hf,λb hb=>?_⟩
 ·by_cases e:(Value.slice a m c).ownBlock=some b
  ·exact⟨.inr (by unfold bT;exact if_pos e),.inl e,(ho.lt e).2⟩
  ·exact absurd (by unfold bT;rw[if_neg e];exact hb) hb2
 ·by_cases e:(Value.slice a m c).ownBlock=some b
  ·exact(ho.lt e).2
  ·unfold bT at hb
   rw[if_neg e]at hb
   have:=hlt b hb
   omega
variable {xs:List Value} {i:Nat}
theorem LQ(hl:xs.length=m*3)(hi:i<m)(k:Int)(j:Nat)(hj:j<3):∃v,(l7 k i++xs.drop (i*3))[i*3+j]? =some v:=by
 refine⟨xs[i*3+j]'(by omega),?_⟩
 rw[List.getElem?_append_right (by rw[jZ];omega),jZ,List.getElem?_drop,List.getElem?_eq_getElem (by omega)]
 congr 2
 omega
theorem I7(hl:xs.length=m*3)(hi:i<m)(k:Int):(((l7 k i++xs.drop (i*3)).set (i*3) (.int .i64 (-77000000))).set (i*3+1) (.int .i64 0)).set (i*3+2) (.int .i64 k)=l7 k (i+1)++xs.drop ((i+1)*3):=by
 have e:xs.drop (i*3)=xs[i*3]'(by omega)::xs[i*3+1]'(by omega)::xs[i*3+2]'(by omega)::xs.drop ((i+1)*3):=by
  rw[List.drop_eq_getElem_cons (by omega),List.drop_eq_getElem_cons (by omega),List.drop_eq_getElem_cons (by omega)]
  rw[show(i+1)*3=i*3+1+1+1 by omega]
 have hr:=jZ k i
 rw[e,List.set_append_right _ _ (by omega),hr,Nat.sub_self,List.set_cons_zero,List.set_append_right _ _ (by omega),hr,Nat.add_sub_cancel_left,List.set_append_right _ _ (by omega),hr,Nat.add_sub_cancel_left]
 rw[l7,List.append_assoc]
 rfl
theorem yy(L:Nat)(lab:Nat->Lb)(V:jA)(ps:List (Nat×Nat))(n:Int)(hn0:0<=n)(hn1:n<=1000000000000)(X W Y M:List Value)(hX:Y.length<=4000000000000)(hW:M.length<=4000000000000)(la:Option Addr)(m lc:Nat)(hm:m<=4000000)(xs:List Value)(w:World)(h:aI w L lab V ps n X W Y M)(hlt:∀b,lab b≠.no->b<w.heap.size)(hl:ak w 0 24 3 (.slice la m lc) m xs)(hlb:∀b,(Value.slice la m lc).ownBlock=some b->lab b=.no):
  Calls prog 118 #[.pointer (some ⟨L,0,none⟩),.slice la m lc] w (K0 lab (.slice la m lc) L ps n X W Y M w):=by
 have HR:=af h
 have xS:=h.lt
 have c1:=h.cN
 have f1:=h.f 1 (by omega)
 have hw1:IntKind.i64.wrap (n+1)=n+1:=by rw[IntKind.wrap_i64];omega
 obtain⟨i80,eH,hz0,hz1,hz2⟩:=info_parts Tc
 have OW:Hid (prog.info? 80=some i80/\i80.zero=some (.slice none 0 0)/\i80.size=1/\i80.bytes=24):=⟨eH,hz0,hz1,hz2⟩
 obtain⟨i3,hj0,hy0,hy1,hy2⟩:=info_parts Te
 have WC:Hid (prog.info? 3=some i3/\i3.zero=some (.int .i64 0)/\i3.size=1/\i3.bytes=8):=⟨hj0,hy0,hy1,hy2⟩
 obtain⟨i24,hk0,hx0,hx1,hx2⟩:=info_parts P9
 have OU:Hid (prog.info? 24=some i24/\i24.zero=some (.agg #[.int .i64 0,.int .i64 0,.int .i64 0])/\i24.size=3/\i24.bytes=24):=⟨hk0,hx0,hx1,hx2⟩
 have Kq:=af hlb
 have H_:=af hlt
 have Hl:Hid (xs.length=m*3):=hl.1
 have Hg:Hid (0<m->∃g off,la=some ⟨g,off,none⟩/\0<=g):=by
  obtain⟨a',c',e1,_,hg⟩:=hl.form
  injection e1 with e1
  rw[e1];exact hg
 obtain⟨w2,hw⟩:∃x,w.setCell ⟨L,1,none⟩ (.int .i64 (n+1))=x:=⟨_,rfl⟩
 have dP:Hid (aI w2 L lab V ps (n+1) X W Y M):=by rw[<-hw];exact HR.out.V7 _
 have rO:Hid (Fr (λb _=>lab b=.law) w w2):=by rw[<-hw];exact(Fr.refl _ w).setCell (b:=L) (i:=1) (.inl HR.out.lL) _
 have DN:Hid (ak w2 0 24 3 (.slice la m lc) m xs):=hl.fr rO.out (λb i e e2=>by have UC:lab b=.law:=e2;rw[hlb b e]at UC;cases UC)
 have Hw2:=af hw
 clear h eH hz0 hz1 hz2 hj0 hy0 hy1 hy2 hk0 hx0 hx1 hx2 hl hlb hlt hw
 go_enter func118,ntmps118
 go_wp2
 rw[Hw2.out]
 clear c1 f1 Hw2
 go_loopw [4] (λiv wr=>∃i:Nat,i<=m/\iv=.int .i64 (i:Int)/\ak wr 0 24 3 (.slice la m lc) m (l7 (n+1) i++xs.drop (i*3))/\Fr (λb _=>(Value.slice la m lc).ownBlock=some b) w2 wr) (λiv _=>m-(intOf iv).toNat)
 case atStart=>exact⟨0,by omega,rfl,DN.out,Fr.refl _ _⟩
 case round=>
  obtain⟨i,hi,rfl,ho,hf⟩:=hrel
  have HRr:Hid (aI wr L lab V ps (n+1) X W Y M):=dP.out.fr hf (λb i e e2=>by have:=Kq.out b e;rw[e2]at this;cases this) (λ_ e=>e)
  by_cases hlt:i<m
  ·obtain⟨g,off,rfl,_⟩:=Hg.out (by omega)
   have hcc:∀j,j<3->∃v,wr.cell? ⟨g,off+i*3+j,none⟩=some v:=λj hj=>by
    obtain⟨v,hv⟩:=LQ Hl.out hlt (n+1) j hj
    exact⟨v,by rw[Nat.add_assoc];exact(ho.cell (by omega)).trans hv⟩
   obtain⟨v0,z0⟩:=hcc 0 (by omega)
   obtain⟨v1,z1⟩:=hcc 1 (by omega)
   obtain⟨v2,z2⟩:=hcc 2 (by omega)
   rw[Nat.add_zero]at z0
   have q0:=ho.frozen (off+i*3)
   have q1:=ho.frozen (off+i*3+1)
   have q2:=ho.frozen (off+i*3+2)
   have c1:=HRr.out.cN
   have HO:Hid (ak (((wr.setCell ⟨g,off+i*3,none⟩ (.int .i64 (-77000000))).setCell ⟨g,off+i*3+1,none⟩ (.int .i64 0)).setCell ⟨g,off+i*3+2,none⟩ (.int .i64 (n+1))) 0 24 3 (.slice (some ⟨g,off,none⟩) m lc) m (l7 (n+1) (i+1)++xs.drop ((i+1)*3))):=by
    show ak _ _ _ _ _ _ _
    rw[<-I7 Hl.out hlt]
    have h1:=((ho.set (j:=i*3) (by omega) (.int .i64 (-77000000))).set (j:=i*3+1) (by omega) (.int .i64 0)).set (j:=i*3+2) (by omega) (.int .i64 (n+1))
    exact h1
   have HF:Hid (Fr (λb _=>(Value.slice (some ⟨g,off,none⟩) m lc).ownBlock=some b) w2 (((wr.setCell ⟨g,off+i*3,none⟩ (.int .i64 (-77000000))).setCell ⟨g,off+i*3+1,none⟩ (.int .i64 0)).setCell ⟨g,off+i*3+2,none⟩ (.int .i64 (n+1)))):=((hf.setCell (b:=g) (i:=off+i*3) (.inl rfl) _).setCell (b:=g) (i:=off+i*3+1) (.inl rfl) _).setCell (b:=g) (i:=off+i*3+2) (.inl rfl) _
   have xU:(i:Int)<(m:Int):=by omega
   have eH:¬(i:Int)<0:=by omega
   clear ho hf hcc
   go_wp2
   go_roundw
   case rel=>exact⟨i+1,by omega,by go_num,HO.out,HF.out⟩
   case measure=>simp[intOf];omega
  ·have xU:¬(i:Int)<(m:Int):=by omega
   have e:l7 (n+1) i++xs.drop (i*3)=l7 (n+1) m:=by
    have e':i=m:=by omega
    subst e'
    rw[List.drop_eq_nil_of_le (by have:=Hl.out;omega),List.append_nil]
   rw[e]at ho
   have TD:Hid (KU w lab (.slice la m lc) m (n+1) L ps (n+1) X W Y M 0 [] (bT lab (.slice la m lc)) V la lc wr):=KU.start HRr.out ho Kq.out H_.out ((rO.out.mono (λb i e=> .inl e)).trans (hf.mono (λb i e=> .inr e)))
   clear ho hf e
   go_wp2
   go_loopw [1,5] (λlv kv wr=>∃(kk:Nat) (ti:List j8) (aB:Nat->Lb) (V':jA) (a:Option Addr) (c:Nat),kk<=4/\kv=.int .i64 (kk:Int)/\lv=.slice a (m+kk) c/\ti.length=kk/\KU w lab (.slice la m lc) m (n+1) L ps (n+1) X W (Y++ti.map j8.v) (M++ti.map λx=> .int .i64 x.k) kk ti aB V' a c wr) (λ_ kv _=>4-(intOf kv).toNat)
   case atStart=>exact⟨0,[],_,V,la,lc,by omega,rfl,rfl,rfl,by rw[List.map_nil,List.map_nil,List.append_nil,List.append_nil];exact TD.out⟩
   case round=>
    obtain⟨kk,ti,aB,V',a,c,hk4,rfl,rfl,PZ,hK⟩:=hrel
    have HK:=af hK
    by_cases hk:kk<4
    ·have lU:(kk:Int)<4:=by omega
     have c4:=hK.rows.cT
     have f4:=hK.rows.f 4 (by omega)
     obtain⟨XX,PU⟩:∃x,Y++ti.map j8.v=x:=⟨_,rfl⟩
     obtain⟨WW,PT⟩:∃x,(M++ti.map λx=> .int .i64 x.k)=x:=⟨_,rfl⟩
     have XV:Hid (XX++[Value.slice a (m+kk) c]=Y++(ti++[(⟨a,m+kk,c,n+1⟩:j8)]).map j8.v):=by show _=_;rw[<-PU,List.map_append,List.append_assoc];rfl
     have KO:Hid (WW++[Value.int .i64 (n+1)]=M++(ti++[(⟨a,m+kk,c,n+1⟩:j8)]).map λx=> .int .i64 x.k):=by show _=_;rw[<-PT,List.map_append,List.append_assoc];rfl
     have hXl:XX.length<=4000000000003:=by rw[<-PU,List.length_append,List.length_map];omega
     have hWl:WW.length<=4000000000003:=by rw[<-PT,List.length_append,List.length_map];omega
     rw[PU,PT]at HK
     have hLr:L<wr.heap.size:=hK.rows.lt
     clear hK PU PT
     go_wp2_with (first
      |(at_builtin;refine bR rfl (.tmp 36) (.tmp 38) 102 rfl 80 i80 (.slice none 0 0) 1 24 underlying102 OW.out.1 OW.out.2.1 OW.out.2.2.1 OW.out.2.2.2 rfl (by decide) 0 (Nat.zero_le _) V'.vT XX.length XX rfl (HK.out.below aU).rows.rT ⟨wr.heap.size,0,none⟩ 1 1 [.slice a (m+kk) c] rfl rfl (λj u hj=>by rw[addr_add,Nat.zero_add,bG];simpa using hj) (λu hu=>by rw[List.mem_singleton.1 hu];rfl) (by unfold maxLen;omega) (by omega) ?_;intro v3 w3 ud hb3 hf3;obtain⟨a3,c3,rfl,_,_⟩:=ud.form;have Cu:=HK.out.below (bK.alloc aM (.cells #[.slice a (m+kk) c] 80));have d2:w3.cell? ⟨L,4,none⟩=some V'.vT:=(Cu.rows.keep (λb e=> .inr (.inr (.inr (.inl e)))) hf3 4).1.trans Cu.rows.cT;have g2:w3.frozen? ⟨L,4,none⟩=false:=(Cu.rows.keep (λb e=> .inr (.inr (.inr (.inl e)))) hf3 4).2.trans (Cu.rows.f 4 (by decide));have h_:Hid _:=Cu.Nw (.slice a (m+kk) c) ud hb3 hf3;clear Cu ud hb3 hf3 c4 f4))
     obtain⟨wa,ZN⟩:∃x,w3.setCell ⟨L,4,none⟩ (.slice a3 (XX.length+1) c3)=x:=⟨_,rfl⟩
     have H7:Hid (KU w lab (.slice la m lc) m (n+1) L ps (n+1) X W (XX++[Value.slice a (m+kk) c]) WW kk ti (bS aB (.slice a3 (XX.length+1) c3)) {V' with vT:=.slice a3 (XX.length+1) c3} a c wa):=by rw[<-ZN];exact h_.out
     rw[ZN]
     clear ZN d2 g2 h_
     have c5:wa.cell? ⟨L,5,none⟩=some V'.vM:=H7.out.rows.cM
     have f5:=H7.out.rows.f 5 (by decide)
     have c1:=H7.out.rows.cN
     have hLa:L<wa.heap.size:=H7.out.rows.lt
     go_region_law (refine cB rfl (.tmp 46) (.tmp 51) 50 rfl 3 i3 (.int .i64 0) 1 8 underlying50 WC.out.1 WC.out.2.1 WC.out.2.2.1 WC.out.2.2.2 rfl (by decide) 0 (Nat.zero_le _) V'.vM WW.length WW rfl (H7.out.below (by repeat(first|with_reducible exact bK|with_reducible refine Below.drew ?_|with_reducible refine Below.alloc ?_ (by simp) _))).rows.rM ⟨wa.heap.size,0,none⟩ 1 1 [.int .i64 (n+1)] rfl rfl (λj u hj=>by
      rw[addr_add,Nat.zero_add]
      first
       |(refine(bG wa _ _ j).trans ?_;simpa using hj)
       |(show(World.drew _).cell? _=_;refine(bG wa _ _ j).trans ?_;simpa using hj)) (λu hu=>by rw[List.mem_singleton.1 hu];rfl) (by unfold maxLen;omega) (by omega) ?_;intro v4 w4 SX hb4 yY;obtain⟨a4,c4,rfl,_,_⟩:=SX.form;have hK2:=H7.out.below (w':=(wa.alloc (.cells #[.int .i64 (n+1)] 3)).drew) (by repeat(first|with_reducible exact bK|with_reducible refine Below.drew ?_|with_reducible refine Below.alloc ?_ (by simp) _));have d4:w4.cell? ⟨L,5,none⟩=some V'.vM:=(hK2.rows.keep (λb e=> .inr (.inr (.inr (.inr e)))) yY 5).1.trans hK2.rows.cM;have g4:w4.frozen? ⟨L,5,none⟩=false:=(hK2.rows.keep (λb e=> .inr (.inr (.inr (.inr e)))) yY 5).2.trans (hK2.rows.f 5 (by decide));have e4:w4.cell? ⟨L,1,none⟩=some (.int .i64 (n+1)):=(hK2.rows.keep (λb e=> .inr (.inr (.inr (.inr e)))) yY 1).1.trans hK2.rows.cN;have KH:Hid _:=hK2.Nv (.int .i64 (n+1)) SX hb4 yY;clear hK2 SX hb4 yY)
     all_goals
      go_wp2_with (at_builtin;refine kJ rfl (.tmp 55) (.tmp 61) 80 rfl 24 i24 (.agg #[.int .i64 0,.int .i64 0,.int .i64 0]) 3 24 underlying80 OU.out.1 OU.out.2.1 OU.out.2.2.1 OU.out.2.2.2 rfl (by decide) (.slice a (m+kk) c) (m+kk) _ rfl (KH.out.below aU).own ⟨w4.heap.size,0,none⟩ 1 1 [.int .i64 (-77000000),.int .i64 0,.int .i64 (n+1)] rfl rfl (λj u hj=>by rw[addr_add,Nat.zero_add];have e:=bG (w4.setCell ⟨L,5,none⟩ (.slice a4 (WW.length+1) c4)) #[.int .i64 (-77000000),.int .i64 0,.int .i64 (n+1)] 24 j;rw[show(w4.setCell ⟨L,5,none⟩ (.slice a4 (WW.length+1) c4)).heap.size=w4.heap.size by simp[World.setCell]]at e;rw[e];simpa using hj) (λu hu=>by simp only[List.mem_cons,List.not_mem_nil,or_false]at hu;rcases hu with hu|hu|hu<;>(rw[hu];rfl)) (by unfold maxLen;omega) (by omega) ?_;intro v5 w5 Ro Va;obtain⟨Th,a5,c6,rfl,UL⟩:=(KH.out.below (bK.alloc aM (.cells #[.int .i64 (-77000000),.int .i64 0,.int .i64 (n+1)] 24))).grow Ro Va;have KJ:Hid _:=UL;clear UL Ro Va)
      go_roundw
      case rel=>exact⟨kk+1,ti++[⟨a,m+kk,c,n+1⟩],Th,_,a5,c6,by omega,by go_num,rfl,by rw[List.length_append,PZ];rfl,by rw[<-XV.out,<-KO.out];exact KJ.out⟩
      case measure=>simp[intOf];omega
    ·have lU:¬(kk:Int)<4:=by omega
     clear hK
     go_wp2
     go_end0
     exact⟨rfl,aB,V',ti,HK.out.rows,by omega,HK.out.ti (by omega),HK.out.kl,HK.out.f,HK.out.lt⟩
theorem O9(A:Nat)(n:Int)(w:World)(hn:¬(0<=n/\n<4)):Calls prog 27 #[.pointer (some ⟨A,0,none⟩),.int .i64 n] w λe w'=>e=.returned (.tuple #[.slice none 0 0,.int .i64 1])/\w'=w:=by
 by_cases h:n<0
 ·go_enter func27,ntmps27
  go_wp2
  go_ret2
  exact⟨rfl,rfl⟩
 ·have h4:4<=n:=by omega
  go_enter func27,ntmps27
  go_wp2
  go_ret2
  exact⟨rfl,rfl⟩
variable {a:fW}
theorem Ae{A:Nat}{Z:Nat->Prop}(h:bu w A Z a){n:Nat}(hn:n<4)(t:ByteArray)(hw:ct (a.ss n)=6):
  Calls prog 42 #[.pointer (some ⟨A,0,none⟩),.int .i64 (n:Int),.string t] w λe w'=>e=.returned (.int .i64 3)/\w'=w:=by
 obtain⟨x,hx,_⟩:=h
 have hs:=hx.lB n hn
 exact Il A n (x.cb n) 6 _ (x.sn n) (x.rn n) (x.nv n) t w hn hs.q (by
  rw[uI hs.nx]
  rw[cH]at hw
  simpa using Nat.le_of_eq hw.symm)
theorem Af{A:Nat}{Z:Nat->Prop}(h:bu w A Z a){n:Nat}(hn:n<4)(t:ByteArray)(ht:200<t.size)(hw:ct (a.ss n)<6):
  Calls prog 42 #[.pointer (some ⟨A,0,none⟩),.int .i64 (n:Int),.string t] w λe w'=>e=.returned (.int .i64 1)/\w'=w:=by
 obtain⟨x,hx,_⟩:=h
 have hs:=hx.lB n hn
 exact Im A n (x.cb n) 6 _ (x.sn n) (x.rn n) (x.nv n) t w hn hs.q (by
  rw[uI hs.nx]
  rw[cH]at hw
  simpa using hw) ht
variable {a':fW} {w1:World}
theorem cI.ahead{A:Nat}{Z:Nat->Prop}(hb:Below w.heap.size w w1)(h:cI A Z a' w1 w2):cI A Z a' w w2:=by
 obtain⟨Z',h1,h2,h3⟩:=h
 exact⟨Z',h1,λb hz=>(h2 b hz).imp _root_.id (λh=>Nat.le_trans hb.size h),(Fr.of_below hb).trans h3⟩
theorem cI.Sa{A:Nat}{Z:Nat->Prop}(h:cI A Z a' w w1)(hb:Below w1.heap.size w1 w2):cI A Z a' w w2:=by
 obtain⟨Z',h1,h2,h3⟩:=h
 exact⟨Z',h1.below hb,h2,h3.trans (Fr.of_below hb)⟩
def aH(L:Nat)(Z:Nat->Prop)(k:Nat)(T:Int)(K H:Nat)(w w':World):Prop:=∃tw,fL L Z tw T K H w w'/\tw.length=k
variable {k K H:Nat} {T:Int}
theorem aH.below{Z:Nat->Prop}(h:aH L Z k T K H w w1)(hb:Below w1.heap.size w1 w2):aH L Z k T K H w w2:=by
 obtain⟨tw,h1,h2⟩:=h
 exact⟨tw,h1.below hb,h2⟩
theorem aH.ahead{Z:Nat->Prop}(hb:Below w.heap.size w w1)(h:aH L Z k T K H w1 w2):aH L Z k T K H w w2:=by
 obtain⟨tw,h1,h2⟩:=h
 exact⟨tw,.ahead hb h1,h2⟩
structure iN(w:World)(L:Nat)(Z:Nat->Prop)(lab:Nat->Lb)(V:jA)(tw:List Tw)(n:Int)(tx:List j9)(ti:List j8)(T:Int)(K H:Nat):Prop where
 at_:mq w L lab V tw n tx ti T K
 z:∀b,Z b↔lab b≠.no
 n0:0<=n
 n1:n<=(H:Int)
 x:tx.length<=4*H
 t:ti.length<=4*H
variable {tw:List Tw}
theorem iN.in_{Z:Nat->Prop}{n:Int}{tx:List j9}{ti:List j8}(h:iN w L Z lab V tw n tx ti T K H):jr w L Z tw T K H:=⟨lab,V,n,tx,ti,h.at_,h.z,h.n0,h.n1,h.x,h.t⟩
theorem iN.below(hb:Below w.heap.size w w'){Z:Nat->Prop}{n:Int}{tx:List j9}{ti:List j8}(h:iN w L Z lab V tw n tx ti T K H):iN w' L Z lab V tw n tx ti T K H:=⟨h.at_.below hb,h.z,h.n0,h.n1,h.x,h.t⟩
variable {T':Int} {K':Nat}
theorem iN.same{Z:Nat->Prop}{n:Int}{tx:List j9}{ti:List j8}(h:iN w L Z lab V tw n tx ti T K H)(hb:Below w.heap.size w w')(hT:T<=T')(hK:K<=K'):aH L Z tw.length T' K' (H+1) w w':=⟨tw,(fL.same h.in_ hb).mono hT hK (Nat.le_succ _),rfl⟩
variable {R':dw}
theorem iN.stepped{Z:Nat->Prop}{n:Int}{tx:List j9}{ti:List j8}(h:iN w L Z lab V tw n tx ti T K H){t:Tw}(ht:tw[i]? =some t)(h1:cI t.A (λb=>lab b=.x i) a' w w1)(h2:bF t.B (λb=>lab b=.r i) R' w1 w2)(ok:mG T' K' {t with a:=a',R:=R'})(hT:T<=T')(hK:K<=K'):aH L Z tw.length T' K' (H+1) w w2:=by
 obtain⟨ZA,hA,bA,fA⟩:=h1
 obtain⟨ZB,hB,bB,fB⟩:=h2
 obtain⟨g1,g2,g3⟩:=h.at_.twin ht hA bA fA hB bB fB ok hT hK
 refine⟨tw.set i {t with a:=a',R:=R'},⟨λb=>ir lab i ZA ZB b≠.no,⟨_,V,n,tx,ti,g1,λb=>Iff.rfl,h.n0,by have:=h.n1;omega,by have:=h.x;omega,by have:=h.t;omega⟩,λb hb=>(g2 b hb).imp (λe=>(h.z b).2 e) _root_.id,g3.mono λb _ e=>(h.z b).2 ?_⟩,by rw[List.length_set]⟩
 rcases e with e|e<;>rw[e]<;>intro x<;>cases x
structure mQ(w:World)(L:Nat)(Z:Nat->Prop)(k:Nat)(T:Int)(K H:Nat)(lv:Value)(w2:World)(aB:Nat->Lb)(V:jA)(F2:List Tw)(n:Int)(tx:List j9)(ti:List j8):Prop where
 at_:mq w2 L aB V F2 n tx ti T K
 len:F2.length=k
 lv:∀b,lv.ownBlock=some b->aB b=.no/\8<=b/\(Z b\/w.heap.size<=b)
 z:∀b,aB b≠.no->Z b\/w.heap.size<=b
 f:Fr (λb _=>Z b) w w2
 n0:0<=n
 n1:n<=(H:Int)
 x:tx.length<=4*H
 t:ti.length<=4*H
variable {lv:Value} {w3:World} {F2:List Tw}
theorem mQ.below{Z:Nat->Prop}{n:Int}{tx:List j9}{ti:List j8}(h:mQ w L Z k T K H lv w2 aB V F2 n tx ti)(hb:Below w2.heap.size w2 w3):mQ w L Z k T K H lv w3 aB V F2 n tx ti:=
 ⟨h.at_.below hb,h.len,h.lv,h.z,h.f.trans (Fr.of_below hb),h.n0,h.n1,h.x,h.t⟩
theorem CP{Z:Nat->Prop}{n:Int}{tx Tz:List j9}{ti ti2:List j8}(h:mQ w L Z k T K H lv w2 aB V F2 n tx ti)
  (hr:aI w3 L iU V2 (F2.map QK) (n+1) ((tx++Tz).map j9.v) ((tx++Tz).map λx=> .string x.m) ((ti++ti2).map j8.v) ((ti++ti2).map λx=> .int .i64 x.k)) (hx2:Tz.length<=4) (S5:ti2.length<=4) (hx:∀x∈Tz,Ai w3 iU x) (ht:∀x∈ti2,Ah w3 iU x) (kl:KZ aB iU lv w2 w3) (hf:Fr (λb _=>aB b=.law\/lv.ownBlock=some b) w2 w3) (hlt:∀b,iU b≠.no->b<w3.heap.size):aH L Z k T K (H+1) w w3:=by
 have hs:=h.f.size
 have h8:∀b,aB b=.law\/lv.ownBlock=some b->8<=b:=λb e=>e.elim (λe=>(h.at_.lt b (gT e)).1) (λe=>(h.lv b e).2.1)
 have hno:∀b,aB b=.law\/lv.ownBlock=some b->∀l,l≠.law->l≠.no->aB b≠l:=λb e l h1 h2 e2=>by
  rcases e with e|e
  ·exact h1 (e2.symm.trans e)
  ·exact h2 (e2.symm.trans (h.lv b e).1)
 have EZ:∀b l,l≠.no->l≠.law->l≠.out->(iU b=l↔aB b=l):=λb l h1 h2 h3=>by
  by_cases e:aB b=.no
  ·refine⟨λe2=>?_,λe2=>absurd (e2.symm.trans e) h1⟩
   have e3:iU b≠.no:=by rw[e2];exact h1
   rcases(kl.new b e e3).1 with e4|e4
   ·exact absurd (e2.symm.trans e4) h2
   ·exact absurd (e2.symm.trans e4) h3
  ·rw[kl.old b e]
 have Y6:=h.at_.gl.sz
 have n1:=h.n1
 have hxl:=h.x
 have PZ:=h.t
 have n0:=h.n0
 refine⟨F2,⟨λb=>iU b≠.no,⟨iU,V2,n+1,tx++Tz,ti++ti2,⟨Gx hf h.at_.gl (λb _ e=>h8 b e),hr,λb hb=>⟨?_,hlt b hb⟩,λi t ht'=>((h.at_.at_ i t ht').fr hf (λb _ e=>⟨h8 b e,hno b e _ (λx=>by cases x) (λx=>by cases x)⟩)).congr (λb=>EZ b _ (λx=>by cases x) (λx=>by cases x) (λx=>by cases x)),λi t ht'=>((h.at_.rf i t ht').fr hf (λb _ e=>hno b e _ (λx=>by cases x) (λx=>by cases x))).congr (λb=>EZ b _ (λx=>by cases x) (λx=>by cases x) (λx=>by cases x)),h.at_.ok,λx hx'=>?_,λx hx'=>?_,λb j e=>h.at_.few b j (e.imp (EZ b _ (λx=>by cases x) (λx=>by cases x) (λx=>by cases x)).1 (EZ b _ (λx=>by cases x) (λx=>by cases x) (λx=>by cases x)).1)⟩,λb=>Iff.rfl,by omega,by omega,by rw[List.length_append];omega,by rw[List.length_append];omega⟩,λb hb=>?_,h.f.aC hf (λb i hb e=>?_)⟩,h.len⟩
 ·by_cases e:aB b=.no
  ·rcases(kl.new b e hb).2.1 with e2|e2
   ·exact(h.lv b e2).2.1
   ·omega
  ·exact(h.at_.lt b e).1
 ·rcases List.mem_append.1 hx' with hx'|hx'
  ·exact(h.at_.tx x hx').fr hf (λb _ e=>hno b e _ (λx=>by cases x) (λx=>by cases x)) (λb e=>(kl.old b (dK e)).trans e)
  ·exact hx x hx'
 ·rcases List.mem_append.1 hx' with hx'|hx'
  ·exact(h.at_.ti x hx').fr hf (λb _ e=>hno b e _ (λx=>by cases x) (λx=>by cases x)) (λb e=>(kl.old b (dK e)).trans e)
  ·exact ht x hx'
 ·by_cases e:aB b=.no
  ·rcases(kl.new b e hb).2.1 with e2|e2
   ·exact(h.lv b e2).2.2
   ·exact .inr (by omega)
  ·exact h.z b e
 ·rcases e with e|e
  ·exact(h.z b (gT e)).resolve_right (by omega)
  ·exact((h.lv b e).2.2).resolve_right (by omega)
variable {la:Option Addr} {lc:Nat}
theorem qO{Z:Nat->Prop}{n:Int}{tx:List j9}{ti:List j8}(h:mQ w L Z k T K H (.slice la m lc) w2 aB V F2 n tx ti)(hH:H<=1000000000000)(hm:m<=4000000)(hl:ak w2 0 9 1 (.slice la m lc) m xs):
  Calls prog 116 #[.pointer (some ⟨L,0,none⟩),.slice la m lc] w2 λe w3=>e=.returned (.tuple #[])/\aH L Z k T K (H+1) w w3:=by
 have n1:=h.n1
 have n0:=h.n0
 have hx:=h.x
 refine(yx L aB V _ n n0 (by omega) _ _ _ _ (by rw[List.length_map];omega) (by rw[List.length_map];omega) la m lc hm xs w2 h.at_.rows (λb hb=>(h.at_.lt b hb).2) hl (λb hb=>(h.lv b hb).1)).mono ?_
 rintro e w3 ⟨he,iU,V2,Tz,h1,h2,h3,h4,h5,h6⟩
 refine⟨he,CP (V2:=V2) (ti2:=[]) h ?_ (Nat.le_of_eq h2) (Nat.zero_le _) h3 (λx hx=>by cases hx) h4 h5 h6⟩
 rw[List.map_append,List.map_append,List.append_nil]
 exact h1
theorem qP{Z:Nat->Prop}{n:Int}{tx:List j9}{ti:List j8}(h:mQ w L Z k T K H (.slice la m lc) w2 aB V F2 n tx ti)(hH:H<=1000000000000)(hm:m<=4000000)(hl:ak w2 0 24 3 (.slice la m lc) m xs):
  Calls prog 118 #[.pointer (some ⟨L,0,none⟩),.slice la m lc] w2 λe w3=>e=.returned (.tuple #[])/\aH L Z k T K (H+1) w w3:=by
 have n1:=h.n1
 have n0:=h.n0
 have hx:=h.t
 refine(yy L aB V _ n n0 (by omega) _ _ _ _ (by rw[List.length_map];omega) (by rw[List.length_map];omega) la m lc hm xs w2 h.at_.rows (λb hb=>(h.at_.lt b hb).2) hl (λb hb=>(h.lv b hb).1)).mono ?_
 rintro e w3 ⟨he,iU,V2,ti2,h1,h2,h3,h4,h5,h6⟩
 refine⟨he,CP (V2:=V2) (Tz:=[]) h ?_ (Nat.zero_le _) (Nat.le_of_eq h2) (λx hx=>by cases hx) h3 h4 h5 h6⟩
 rw[List.append_nil,List.map_append,List.map_append]
 exact h1
end
end Go.Proofs.YtenaepdmlknlcaaGreatDoor
