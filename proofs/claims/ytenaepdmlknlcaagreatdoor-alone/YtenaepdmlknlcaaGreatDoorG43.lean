import Derived.BigRegion
import Derived.Test.YtenaepdmlknlcaaGreatDoorG40
open Go.Proofs.Tryz
set_option maxRecDepth 100000
set_option maxHeartbeats 8000000
namespace Go.Proofs.YtenaepdmlknlcaaGreatDoor
section
open Go.RowKit Go.Shelf
variable {w:World} {b0 j:Nat} {e:TypeId} {xs:List Value}
theorem ak.set{size n g off cap:Nat}(h:ak w b0 e size (.slice (some ⟨g,off,none⟩) n cap) n xs)(hj:j<n*size)(u:Value):ak (w.setCell ⟨g,off+j,none⟩ u) b0 e size (.slice (some ⟨g,off,none⟩) n cap) n (xs.set j u):=by
 have h1:=h.1
 rcases h.2 with⟨e1,_⟩|⟨g',off',cap',cur,e1,e2,e3,e4,e5,e6,e7⟩
 ·cases e1
 ·cases e1
  refine⟨by rw[List.length_set];exact h1,.inr ⟨g,off,cap,cur.setIfInBounds (off+j) u,rfl,e2,heap_setCell u e3,e4,e5,by rw[Array.size_setIfInBounds];exact e6,?_⟩⟩
  rw[<-e7,Array.toList_setIfInBounds]
  refine List.ext_getElem? λk=>?_
  rw[List.getElem?_take,List.getElem?_drop,List.getElem?_set,List.getElem?_set,List.getElem?_take,List.getElem?_drop,List.length_take,List.length_drop,Array.length_toList]
  have hle:n*size<=cap*size:=Nat.mul_le_mul_right size e4
  by_cases hk:k<n*size
  ·rw[if_pos hk,if_pos hk]
   by_cases ek:j=k
   ·subst ek
    rw[if_pos rfl,if_pos rfl,if_pos (by omega),if_pos (by omega)]
   ·rw[if_neg (by omega),if_neg ek]
  ·rw[if_neg hk,if_neg hk,if_neg (by omega)]
theorem ak.frozen{size n g off cap:Nat}(h:ak w b0 e size (.slice (some ⟨g,off,none⟩) n cap) n xs)(j:Nat):w.frozen? ⟨g,j,none⟩=false:=by
 rcases h.2 with⟨e1,_⟩|⟨g',off',cap',cur,e1,e2,e3,_⟩
 ·cases e1
 ·cases e1
  simp[World.frozen?,e3]
theorem w8{P:Program}(w:World)(t ty:TypeId)
  (e:TypeId) (i:TypeInfo) (z:Value) (size bytes:Nat) (h1:P.underlying t=some (.slice e)) (h2:P.info? e=some i) (h3:i.zero=some z) (h4:i.size=size) (h5:i.bytes=bytes) (h6:z.cells.size=size) (h7:0<size)
  (v:Value) (n:Nat) (xs:List Value) (hown:ak w 0 e size v n xs)
  (ad:Addr) (m c:Nat) (news:List Value) (hn:news.length=m*size) (hc:∀j u,news[j]? =some u->w.cell? (ad.add j)=some u) (h1c:∀u∈news,u.oneCell'=true)
  (b1:n+m<=maxLen) (b2:(n+m)*bytes<=140737488355328):
  ∃v' w',(Builtin.append_ #[t,t] ty #[v,.slice (some ad) m c]).run P w=.ok v' w'/\ak w' 0 e size v' (n+m) (xs++news)/\((∃g off cap,v=.slice (some ⟨g,off,none⟩) n cap/\v'=.slice (some ⟨g,off,none⟩) (n+m) cap/\Fr (λc _=>c=g) w w')\/((∀k,v'.ownBlock=some k->w.heap.size<=k)/\Below w.heap.size w w')):=by
 have nk:∀v' w',w'.ownsRow w.heap.size e size v' (n+m) (xs++news)->w.grownBy w' none->ak w' 0 e size v' (n+m) (xs++news)/\((∃g off cap,v=.slice (some ⟨g,off,none⟩) n cap/\v'=.slice (some ⟨g,off,none⟩) (n+m) cap/\Fr (λc _=>c=g) w w')\/((∀k,v'.ownBlock=some k->w.heap.size<=k)/\Below w.heap.size w w')):=λv' w' ho hg=>
  ⟨(ak.pV ho).le (λk hk=>Nat.zero_le _),.inr ⟨λk hk=>(ho.lt k hk).1,bK.grown hg aM (λk e=>by cases e)⟩⟩
 rcases hown.2 with⟨rfl,rfl⟩|⟨g,off,cap,cur,rfl,e2,e3,e4,e5,e6,e7⟩
 ·obtain rfl:xs=[]:=List.eq_nil_of_length_eq_zero (by simpa using hown.1)
  obtain⟨v',w',hrun,r1,r2,_⟩:=run_append_own (P:=P) w w.heap.size t ty e i z size bytes h1 h2 h3 h4 h5 h6 h7 (.slice none 0 0) 0 [] (World.ownsRow_nil w _ e size) ad m c news hn hc h1c b1 b2 aM
  exact⟨v',w',hrun,nk v' w' r1 r2⟩
 ·by_cases hr:n+m<=cap
  ·have hle:n*size+m*size<=cap*size:=by
    have:=Nat.mul_le_mul_right size hr
    rwa[Nat.add_mul]at this
   have hin:∀j,j<news.length->off+n*size+j<cur.size:=λj hj=>by rw[hn]at hj;omega
   obtain⟨cur',k1,k2,k3⟩:=f_ news (off+n*size) w cur e3 (by rw[hn];omega)
   refine⟨_,_,?_,⟨by rw[List.length_append,hown.1,hn,Nat.add_mul],.inr ⟨g,off,cap,cur',rfl,e2,k1,hr,e5,by rw[k2];exact e6,?_⟩⟩,.inl ⟨g,off,cap,rfl,rfl,(iR g news _ w).mono λc i ec=>ec⟩⟩
   ·have:=run_append_room_cells (P:=P) w t ty e i h1 h2 g off n cap ad m c news (by rw[h4];exact hn) hc h1c hr (λj hj=>by
     rw[h4]
     simp only[World.cell?,e3]
     rw[Array.getElem?_eq_getElem (hin j hj)];rfl) (λj hj=>by simp[World.frozen?,e3])
    rwa[h4]at this
   ·rw[k3]
    have hlc:off<=cur.toList.length:=by rw[Array.length_toList];omega
    have e8:(cur.toList.take (off+n*size)).drop off=xs:=by rw[List.drop_take,show off+n*size-off=n*size by omega];exact e7
    have hl1:(cur.toList.take (off+n*size)).length=off+n*size:=by rw[List.length_take,Array.length_toList];omega
    rw[List.append_assoc,List.drop_append_of_le_length (by rw[hl1];omega),e8,<-List.append_assoc]
    exact List.take_left' (by rw[List.length_append,hown.1,hn,Nat.add_mul])
  ·obtain⟨v',w',hrun,r1,r2⟩:=run_append_arg_grows (P:=P) w t ty e i z size bytes h1 h2 h3 h4 h5 h6 h7 ⟨g,off,none⟩ n cap xs hown.1 hown.cells ad m c news hn hc (by omega) b1 b2
   exact⟨v',w',hrun,nk v' w' r1 r2⟩
variable {ops:Array Oper} {rest:List Oper} {Q:Exit->Act->World->Prop}
theorem kJ{P:Program}{o:Oper}{a:Act}(hg:o.guard=none)(s x:Operand)(t:TypeId)(hop:o.op=Op.call {callee:=Callee.builtin Builtin.append,args:=#[s,x],argTypes:=#[t,t]})
  (e:TypeId) (i:TypeInfo) (z:Value) (size bytes:Nat) (h1:P.underlying t=some (.slice e)) (h2:P.info? e=some i) (h3:i.zero=some z) (h4:i.size=size) (h5:i.bytes=bytes) (h6:z.cells.size=size) (h7:0<size)
  (v:Value) (n:Nat) (xs:List Value) (hs:a.eval s=v) (hown:ak w 0 e size v n xs)
  (ad:Addr) (m c:Nat) (news:List Value) (hx:a.eval x=.slice (some ad) m c) (hn:news.length=m*size) (hc:∀j u,news[j]? =some u->w.cell? (ad.add j)=some u) (h1c:∀u∈news,u.oneCell'=true)
  (b1:n+m<=maxLen) (b2:(n+m)*bytes<=140737488355328)
  (h:∀v' w',ak w' 0 e size v' (n+m) (xs++news)->((∃g off cap,v=.slice (some ⟨g,off,none⟩) n cap/\v'=.slice (some ⟨g,off,none⟩) (n+m) cap/\Fr (λc _=>c=g) w w')\/((∀k,v'.ownBlock=some k->w.heap.size<=k)/\Below w.heap.size w w'))->wpList P ops Q rest (a.put o.dst v') w'):wpList P ops Q (o::rest) a w:=by
 obtain⟨v',w',hrun,r1,r2⟩:=w8 (P:=P) w t o.type e i z size bytes h1 h2 h3 h4 h5 h6 h7 v n xs hown ad m c news hn hc h1c b1 b2
 refine wpList_plain hg λK hK=>?_
 unfold Oper.wp
 simp[execOp,hop,resolve,invoke,builtin,hs,hx,hrun,Result.andThen]
 exact hK _ _ (h v' w' r1 r2)
theorem ak.Pt{n g off cap:Nat}(h:ak w b0 e 1 (.slice (some ⟨g,off,none⟩) n cap) n xs){u:Value}(hj:xs[j]? =some u):w.cell? ⟨g,off+j,none⟩=some u:=by
 have hl:=(List.getElem?_eq_some_iff.1 hj).1
 rw[h.1]at hl
 exact(h.cell hl).trans hj
open Classical in
noncomputable def bS (lab:Nat->Lb) (v:Value) (b:Nat):Lb:=if v.ownBlock=some b then .law else lab b
variable {w1 w2:World} {L:Nat} {lab:Nat->Lb} {V:jA} {ps:List (Nat×Nat)} {v':Value}
theorem aI.VZ{n:Int}{X W Y M:List Value}(h:aI w1 L lab V ps n X W Y M)(_hlt:∀b,lab b≠.no->b<w1.heap.size)(p:Nat×Nat)(ho:ak w2 0 161 2 v' (ps.length+1) (td ps++[.pointer (some ⟨p.1,0,none⟩),.pointer (some ⟨p.2,0,none⟩)]))(hb:∀k,v'.ownBlock=some k->V.vA.ownBlock=some k\/w1.heap.size<=k)(hf:Fr (λc _=>V.vA.ownBlock=some c) w1 w2):
  aI (w2.setCell ⟨L,0,none⟩ v') L (bS lab v') {V with vA:=v'} (ps++[p]) n X W Y M/\Fr (λb _=>lab b=.law) w1 (w2.setCell ⟨L,0,none⟩ v'):=by
 have xS:=h.lt
 have hown:∀b,V.vA.ownBlock=some b->lab b=.law/\b≠L:=λb e=>h.lw b (.inl e)
 have hL2:¬V.vA.ownBlock=some L:=λe=>(hown L e).2 rfl
 have GL:v'.ownBlock≠some L:=λe=>(hb L e).elim (hL2) (λe=>by omega)
 have hF:Fr (λb i=>(b=L/\i=0)\/V.vA.ownBlock=some b) w1 (w2.setCell ⟨L,0,none⟩ v'):=(hf.mono (λb i e=> .inr e)).setCell (b:=L) (i:=0) (.inl (.inl ⟨rfl,rfl⟩)) _
 have hcell:∀i,i≠0->(w2.setCell ⟨L,0,none⟩ v').cell? ⟨L,i,none⟩=w1.cell? ⟨L,i,none⟩:=λi hi=>hF.cell L i xS (λe=>by rcases e with e|e;exact hi e.2;exact hL2 e)
 have hc2:w2.cell? ⟨L,0,none⟩=some V.vA:=(hf.cell L 0 xS (hL2)).trans h.cA
 have hfz:∀i,i<6->(w2.setCell ⟨L,0,none⟩ v').frozen? ⟨L,i,none⟩=false:=λi hi=>by rw[World.frozen?_setCell];exact(hf.frozen L i xS (hL2)).trans (h.f i hi)
 have GF:∀b,lab b=.law->bS lab v' b=.law:=λb e=>by unfold bS;split;rfl;exact e
 have hrow:∀{e:TypeId} {s:Nat} {v:Value} {k:Nat} {xs:List Value},ak w1 0 e s v k xs->v.ownBlock≠some L->e≠161->ak (w2.setCell ⟨L,0,none⟩ v') 0 e s v k xs:=λho1 h1 h2=>ho1.fr hF (λb i e1 e2=>by
  rcases e2 with⟨rfl,_⟩|e2
  ·exact h1 e1
  ·exact ho1.apart h.rA h2 e1 e2)
 have uL:∀v:Value,(∀b,v.ownBlock=some b->V.Own b)->v.ownBlock≠some L:=λv hv e=>(h.lw L (hv L e)).2 rfl
 refine⟨⟨cell_eq hc2 _,(hcell 1 (by decide)).trans h.cN,(hcell 2 (by decide)).trans h.cX,(hcell 3 (by decide)).trans h.cW,(hcell 4 (by decide)).trans h.cT,(hcell 5 (by decide)).trans h.cM,hfz,by rw[show(td (ps++[p]))=td ps++[.pointer (some ⟨p.1,0,none⟩),.pointer (some ⟨p.2,0,none⟩)]by unfold td;rw[List.flatMap_append];rfl,List.length_append];exact ho.fr (jQ L w2 _ _) (λb i e1 e2=>by have e3:b=L:=e2;subst e3;exact GL e1),hrow h.rX (uL _ (λb e=> .inr (.inl e))) (by decide),hrow h.rW (uL _ (λb e=> .inr (.inr (.inl e)))) (by decide),hrow h.rT (uL _ (λb e=> .inr (.inr (.inr (.inl e))))) (by decide),hrow h.rM (uL _ (λb e=> .inr (.inr (.inr (.inr e))))) (by decide),GF _ h.lL,λb hb2=>?_⟩,hF.mono λb i e=>?_⟩
 ·have hb3:v'.ownBlock=some b\/V.vX.ownBlock=some b\/V.vW.ownBlock=some b\/V.vT.ownBlock=some b\/V.vM.ownBlock=some b:=hb2
  by_cases e:v'.ownBlock=some b
  ·exact⟨by unfold bS;rw[if_pos e],λe2=>by subst e2;exact GL e⟩
  ·have e4:V.Own b:=by
    rcases hb3 with e1|e1|e1|e1|e1
    ·exact absurd e1 e
    ·exact .inr (.inl e1)
    ·exact .inr (.inr (.inl e1))
    ·exact .inr (.inr (.inr (.inl e1)))
    ·exact .inr (.inr (.inr (.inr e1)))
   exact⟨GF _ (h.lw b e4).1,(h.lw b e4).2⟩
 ·rcases e with⟨rfl,_⟩|e
  ·exact h.lL
  ·exact(hown b e).1
theorem aI.Ny{n:Int}{X W Y M:List Value}(h:aI w1 L lab V ps n X W Y M)(_hlt:∀b,lab b≠.no->b<w1.heap.size)(u:Value)(ho:ak w2 0 79 1 v' (X.length+1) (X++[u]))(hb:∀k,v'.ownBlock=some k->V.vX.ownBlock=some k\/w1.heap.size<=k)(hf:Fr (λc _=>V.vX.ownBlock=some c) w1 w2):
  aI (w2.setCell ⟨L,2,none⟩ v') L (bS lab v') {V with vX:=v'} ps n (X++[u]) W Y M/\Fr (λb _=>lab b=.law) w1 (w2.setCell ⟨L,2,none⟩ v'):=by
 have xS:=h.lt
 have hown:∀b,V.vX.ownBlock=some b->lab b=.law/\b≠L:=λb e=>h.lw b (.inr (.inl e))
 have hL2:¬V.vX.ownBlock=some L:=λe=>(hown L e).2 rfl
 have GL:v'.ownBlock≠some L:=λe=>(hb L e).elim (hL2) (λe=>by omega)
 have hF:Fr (λb i=>(b=L/\i=2)\/V.vX.ownBlock=some b) w1 (w2.setCell ⟨L,2,none⟩ v'):=(hf.mono (λb i e=> .inr e)).setCell (b:=L) (i:=2) (.inl (.inl ⟨rfl,rfl⟩)) _
 have hcell:∀i,i≠2->(w2.setCell ⟨L,2,none⟩ v').cell? ⟨L,i,none⟩=w1.cell? ⟨L,i,none⟩:=λi hi=>hF.cell L i xS (λe=>by rcases e with e|e;exact hi e.2;exact hL2 e)
 have hc2:w2.cell? ⟨L,2,none⟩=some V.vX:=(hf.cell L 2 xS (hL2)).trans h.cX
 have hfz:∀i,i<6->(w2.setCell ⟨L,2,none⟩ v').frozen? ⟨L,i,none⟩=false:=λi hi=>by rw[World.frozen?_setCell];exact(hf.frozen L i xS (hL2)).trans (h.f i hi)
 have GF:∀b,lab b=.law->bS lab v' b=.law:=λb e=>by unfold bS;split;rfl;exact e
 have hrow:∀{e:TypeId} {s:Nat} {v:Value} {k:Nat} {xs:List Value},ak w1 0 e s v k xs->v.ownBlock≠some L->e≠79->ak (w2.setCell ⟨L,2,none⟩ v') 0 e s v k xs:=λho1 h1 h2=>ho1.fr hF (λb i e1 e2=>by
  rcases e2 with⟨rfl,_⟩|e2
  ·exact h1 e1
  ·exact ho1.apart h.rX h2 e1 e2)
 have uL:∀v:Value,(∀b,v.ownBlock=some b->V.Own b)->v.ownBlock≠some L:=λv hv e=>(h.lw L (hv L e)).2 rfl
 refine⟨⟨(hcell 0 (by decide)).trans h.cA,(hcell 1 (by decide)).trans h.cN,cell_eq hc2 _,(hcell 3 (by decide)).trans h.cW,(hcell 4 (by decide)).trans h.cT,(hcell 5 (by decide)).trans h.cM,hfz,hrow h.rA (uL _ (λb e=> .inl e)) (by decide),by rw[List.length_append];exact ho.fr (jQ L w2 _ _) (λb i e1 e2=>by have e3:b=L:=e2;subst e3;exact GL e1),hrow h.rW (uL _ (λb e=> .inr (.inr (.inl e)))) (by decide),hrow h.rT (uL _ (λb e=> .inr (.inr (.inr (.inl e))))) (by decide),hrow h.rM (uL _ (λb e=> .inr (.inr (.inr (.inr e))))) (by decide),GF _ h.lL,λb hb2=>?_⟩,hF.mono λb i e=>?_⟩
 ·have hb3:V.vA.ownBlock=some b\/v'.ownBlock=some b\/V.vW.ownBlock=some b\/V.vT.ownBlock=some b\/V.vM.ownBlock=some b:=hb2
  by_cases e:v'.ownBlock=some b
  ·exact⟨by unfold bS;rw[if_pos e],λe2=>by subst e2;exact GL e⟩
  ·have e4:V.Own b:=by
    rcases hb3 with e1|e1|e1|e1|e1
    ·exact .inl e1
    ·exact absurd e1 e
    ·exact .inr (.inr (.inl e1))
    ·exact .inr (.inr (.inr (.inl e1)))
    ·exact .inr (.inr (.inr (.inr e1)))
   exact⟨GF _ (h.lw b e4).1,(h.lw b e4).2⟩
 ·rcases e with⟨rfl,_⟩|e
  ·exact h.lL
  ·exact(hown b e).1
theorem aI.Nx{n:Int}{X W Y M:List Value}(h:aI w1 L lab V ps n X W Y M)(_hlt:∀b,lab b≠.no->b<w1.heap.size)(u:Value)(ho:ak w2 0 9 1 v' (W.length+1) (W++[u]))(hb:∀k,v'.ownBlock=some k->V.vW.ownBlock=some k\/w1.heap.size<=k)(hf:Fr (λc _=>V.vW.ownBlock=some c) w1 w2):
  aI (w2.setCell ⟨L,3,none⟩ v') L (bS lab v') {V with vW:=v'} ps n X (W++[u]) Y M/\Fr (λb _=>lab b=.law) w1 (w2.setCell ⟨L,3,none⟩ v'):=by
 have xS:=h.lt
 have hown:∀b,V.vW.ownBlock=some b->lab b=.law/\b≠L:=λb e=>h.lw b (.inr (.inr (.inl e)))
 have hL2:¬V.vW.ownBlock=some L:=λe=>(hown L e).2 rfl
 have GL:v'.ownBlock≠some L:=λe=>(hb L e).elim (hL2) (λe=>by omega)
 have hF:Fr (λb i=>(b=L/\i=3)\/V.vW.ownBlock=some b) w1 (w2.setCell ⟨L,3,none⟩ v'):=(hf.mono (λb i e=> .inr e)).setCell (b:=L) (i:=3) (.inl (.inl ⟨rfl,rfl⟩)) _
 have hcell:∀i,i≠3->(w2.setCell ⟨L,3,none⟩ v').cell? ⟨L,i,none⟩=w1.cell? ⟨L,i,none⟩:=λi hi=>hF.cell L i xS (λe=>by rcases e with e|e;exact hi e.2;exact hL2 e)
 have hc2:w2.cell? ⟨L,3,none⟩=some V.vW:=(hf.cell L 3 xS (hL2)).trans h.cW
 have hfz:∀i,i<6->(w2.setCell ⟨L,3,none⟩ v').frozen? ⟨L,i,none⟩=false:=λi hi=>by rw[World.frozen?_setCell];exact(hf.frozen L i xS (hL2)).trans (h.f i hi)
 have GF:∀b,lab b=.law->bS lab v' b=.law:=λb e=>by unfold bS;split;rfl;exact e
 have hrow:∀{e:TypeId} {s:Nat} {v:Value} {k:Nat} {xs:List Value},ak w1 0 e s v k xs->v.ownBlock≠some L->e≠9->ak (w2.setCell ⟨L,3,none⟩ v') 0 e s v k xs:=λho1 h1 h2=>ho1.fr hF (λb i e1 e2=>by
  rcases e2 with⟨rfl,_⟩|e2
  ·exact h1 e1
  ·exact ho1.apart h.rW h2 e1 e2)
 have uL:∀v:Value,(∀b,v.ownBlock=some b->V.Own b)->v.ownBlock≠some L:=λv hv e=>(h.lw L (hv L e)).2 rfl
 refine⟨⟨(hcell 0 (by decide)).trans h.cA,(hcell 1 (by decide)).trans h.cN,(hcell 2 (by decide)).trans h.cX,cell_eq hc2 _,(hcell 4 (by decide)).trans h.cT,(hcell 5 (by decide)).trans h.cM,hfz,hrow h.rA (uL _ (λb e=> .inl e)) (by decide),hrow h.rX (uL _ (λb e=> .inr (.inl e))) (by decide),by rw[List.length_append];exact ho.fr (jQ L w2 _ _) (λb i e1 e2=>by have e3:b=L:=e2;subst e3;exact GL e1),hrow h.rT (uL _ (λb e=> .inr (.inr (.inr (.inl e))))) (by decide),hrow h.rM (uL _ (λb e=> .inr (.inr (.inr (.inr e))))) (by decide),GF _ h.lL,λb hb2=>?_⟩,hF.mono λb i e=>?_⟩
 ·have hb3:V.vA.ownBlock=some b\/V.vX.ownBlock=some b\/v'.ownBlock=some b\/V.vT.ownBlock=some b\/V.vM.ownBlock=some b:=hb2
  by_cases e:v'.ownBlock=some b
  ·exact⟨by unfold bS;rw[if_pos e],λe2=>by subst e2;exact GL e⟩
  ·have e4:V.Own b:=by
    rcases hb3 with e1|e1|e1|e1|e1
    ·exact .inl e1
    ·exact .inr (.inl e1)
    ·exact absurd e1 e
    ·exact .inr (.inr (.inr (.inl e1)))
    ·exact .inr (.inr (.inr (.inr e1)))
   exact⟨GF _ (h.lw b e4).1,(h.lw b e4).2⟩
 ·rcases e with⟨rfl,_⟩|e
  ·exact h.lL
  ·exact(hown b e).1
theorem aI.Nw{n:Int}{X W Y M:List Value}(h:aI w1 L lab V ps n X W Y M)(_hlt:∀b,lab b≠.no->b<w1.heap.size)(u:Value)(ho:ak w2 0 80 1 v' (Y.length+1) (Y++[u]))(hb:∀k,v'.ownBlock=some k->V.vT.ownBlock=some k\/w1.heap.size<=k)(hf:Fr (λc _=>V.vT.ownBlock=some c) w1 w2):
  aI (w2.setCell ⟨L,4,none⟩ v') L (bS lab v') {V with vT:=v'} ps n X W (Y++[u]) M/\Fr (λb _=>lab b=.law) w1 (w2.setCell ⟨L,4,none⟩ v'):=by
 have xS:=h.lt
 have hown:∀b,V.vT.ownBlock=some b->lab b=.law/\b≠L:=λb e=>h.lw b (.inr (.inr (.inr (.inl e))))
 have hL2:¬V.vT.ownBlock=some L:=λe=>(hown L e).2 rfl
 have GL:v'.ownBlock≠some L:=λe=>(hb L e).elim (hL2) (λe=>by omega)
 have hF:Fr (λb i=>(b=L/\i=4)\/V.vT.ownBlock=some b) w1 (w2.setCell ⟨L,4,none⟩ v'):=(hf.mono (λb i e=> .inr e)).setCell (b:=L) (i:=4) (.inl (.inl ⟨rfl,rfl⟩)) _
 have hcell:∀i,i≠4->(w2.setCell ⟨L,4,none⟩ v').cell? ⟨L,i,none⟩=w1.cell? ⟨L,i,none⟩:=λi hi=>hF.cell L i xS (λe=>by rcases e with e|e;exact hi e.2;exact hL2 e)
 have hc2:w2.cell? ⟨L,4,none⟩=some V.vT:=(hf.cell L 4 xS (hL2)).trans h.cT
 have hfz:∀i,i<6->(w2.setCell ⟨L,4,none⟩ v').frozen? ⟨L,i,none⟩=false:=λi hi=>by rw[World.frozen?_setCell];exact(hf.frozen L i xS (hL2)).trans (h.f i hi)
 have GF:∀b,lab b=.law->bS lab v' b=.law:=λb e=>by unfold bS;split;rfl;exact e
 have hrow:∀{e:TypeId} {s:Nat} {v:Value} {k:Nat} {xs:List Value},ak w1 0 e s v k xs->v.ownBlock≠some L->e≠80->ak (w2.setCell ⟨L,4,none⟩ v') 0 e s v k xs:=λho1 h1 h2=>ho1.fr hF (λb i e1 e2=>by
  rcases e2 with⟨rfl,_⟩|e2
  ·exact h1 e1
  ·exact ho1.apart h.rT h2 e1 e2)
 have uL:∀v:Value,(∀b,v.ownBlock=some b->V.Own b)->v.ownBlock≠some L:=λv hv e=>(h.lw L (hv L e)).2 rfl
 refine⟨⟨(hcell 0 (by decide)).trans h.cA,(hcell 1 (by decide)).trans h.cN,(hcell 2 (by decide)).trans h.cX,(hcell 3 (by decide)).trans h.cW,cell_eq hc2 _,(hcell 5 (by decide)).trans h.cM,hfz,hrow h.rA (uL _ (λb e=> .inl e)) (by decide),hrow h.rX (uL _ (λb e=> .inr (.inl e))) (by decide),hrow h.rW (uL _ (λb e=> .inr (.inr (.inl e)))) (by decide),by rw[List.length_append];exact ho.fr (jQ L w2 _ _) (λb i e1 e2=>by have e3:b=L:=e2;subst e3;exact GL e1),hrow h.rM (uL _ (λb e=> .inr (.inr (.inr (.inr e))))) (by decide),GF _ h.lL,λb hb2=>?_⟩,hF.mono λb i e=>?_⟩
 ·have hb3:V.vA.ownBlock=some b\/V.vX.ownBlock=some b\/V.vW.ownBlock=some b\/v'.ownBlock=some b\/V.vM.ownBlock=some b:=hb2
  by_cases e:v'.ownBlock=some b
  ·exact⟨by unfold bS;rw[if_pos e],λe2=>by subst e2;exact GL e⟩
  ·have e4:V.Own b:=by
    rcases hb3 with e1|e1|e1|e1|e1
    ·exact .inl e1
    ·exact .inr (.inl e1)
    ·exact .inr (.inr (.inl e1))
    ·exact absurd e1 e
    ·exact .inr (.inr (.inr (.inr e1)))
   exact⟨GF _ (h.lw b e4).1,(h.lw b e4).2⟩
 ·rcases e with⟨rfl,_⟩|e
  ·exact h.lL
  ·exact(hown b e).1
theorem aI.Nv{n:Int}{X W Y M:List Value}(h:aI w1 L lab V ps n X W Y M)(_hlt:∀b,lab b≠.no->b<w1.heap.size)(u:Value)(ho:ak w2 0 3 1 v' (M.length+1) (M++[u]))(hb:∀k,v'.ownBlock=some k->V.vM.ownBlock=some k\/w1.heap.size<=k)(hf:Fr (λc _=>V.vM.ownBlock=some c) w1 w2):
  aI (w2.setCell ⟨L,5,none⟩ v') L (bS lab v') {V with vM:=v'} ps n X W Y (M++[u])/\Fr (λb _=>lab b=.law) w1 (w2.setCell ⟨L,5,none⟩ v'):=by
 have xS:=h.lt
 have hown:∀b,V.vM.ownBlock=some b->lab b=.law/\b≠L:=λb e=>h.lw b (.inr (.inr (.inr (.inr e))))
 have hL2:¬V.vM.ownBlock=some L:=λe=>(hown L e).2 rfl
 have GL:v'.ownBlock≠some L:=λe=>(hb L e).elim (hL2) (λe=>by omega)
 have hF:Fr (λb i=>(b=L/\i=5)\/V.vM.ownBlock=some b) w1 (w2.setCell ⟨L,5,none⟩ v'):=(hf.mono (λb i e=> .inr e)).setCell (b:=L) (i:=5) (.inl (.inl ⟨rfl,rfl⟩)) _
 have hcell:∀i,i≠5->(w2.setCell ⟨L,5,none⟩ v').cell? ⟨L,i,none⟩=w1.cell? ⟨L,i,none⟩:=λi hi=>hF.cell L i xS (λe=>by rcases e with e|e;exact hi e.2;exact hL2 e)
 have hc2:w2.cell? ⟨L,5,none⟩=some V.vM:=(hf.cell L 5 xS (hL2)).trans h.cM
 have hfz:∀i,i<6->(w2.setCell ⟨L,5,none⟩ v').frozen? ⟨L,i,none⟩=false:=λi hi=>by rw[World.frozen?_setCell];exact(hf.frozen L i xS (hL2)).trans (h.f i hi)
 have GF:∀b,lab b=.law->bS lab v' b=.law:=λb e=>by unfold bS;split;rfl;exact e
 have hrow:∀{e:TypeId} {s:Nat} {v:Value} {k:Nat} {xs:List Value},ak w1 0 e s v k xs->v.ownBlock≠some L->e≠3->ak (w2.setCell ⟨L,5,none⟩ v') 0 e s v k xs:=λho1 h1 h2=>ho1.fr hF (λb i e1 e2=>by
  rcases e2 with⟨rfl,_⟩|e2
  ·exact h1 e1
  ·exact ho1.apart h.rM h2 e1 e2)
 have uL:∀v:Value,(∀b,v.ownBlock=some b->V.Own b)->v.ownBlock≠some L:=λv hv e=>(h.lw L (hv L e)).2 rfl
 refine⟨⟨(hcell 0 (by decide)).trans h.cA,(hcell 1 (by decide)).trans h.cN,(hcell 2 (by decide)).trans h.cX,(hcell 3 (by decide)).trans h.cW,(hcell 4 (by decide)).trans h.cT,cell_eq hc2 _,hfz,hrow h.rA (uL _ (λb e=> .inl e)) (by decide),hrow h.rX (uL _ (λb e=> .inr (.inl e))) (by decide),hrow h.rW (uL _ (λb e=> .inr (.inr (.inl e)))) (by decide),hrow h.rT (uL _ (λb e=> .inr (.inr (.inr (.inl e))))) (by decide),by rw[List.length_append];exact ho.fr (jQ L w2 _ _) (λb i e1 e2=>by have e3:b=L:=e2;subst e3;exact GL e1),GF _ h.lL,λb hb2=>?_⟩,hF.mono λb i e=>?_⟩
 ·have hb3:V.vA.ownBlock=some b\/V.vX.ownBlock=some b\/V.vW.ownBlock=some b\/V.vT.ownBlock=some b\/v'.ownBlock=some b:=hb2
  by_cases e:v'.ownBlock=some b
  ·exact⟨by unfold bS;rw[if_pos e],λe2=>by subst e2;exact GL e⟩
  ·have e4:V.Own b:=by
    rcases hb3 with e1|e1|e1|e1|e1
    ·exact .inl e1
    ·exact .inr (.inl e1)
    ·exact .inr (.inr (.inl e1))
    ·exact .inr (.inr (.inr (.inl e1)))
    ·exact absurd e1 e
   exact⟨GF _ (h.lw b e4).1,(h.lw b e4).2⟩
 ·rcases e with⟨rfl,_⟩|e
  ·exact h.lL
  ·exact(hown b e).1
theorem aI.V7{n:Int}{X W Y M:List Value}(h:aI w L lab V ps n X W Y M)(n':Int):aI (w.setCell ⟨L,1,none⟩ (.int .i64 n')) L lab V ps n' X W Y M:=by
 have hne:∀b (_:Nat),V.Own b->¬ig L b 0:=λb _ hb e=>(h.lw b hb).2 e
 have hf:=jQ L w 1 (.int .i64 n')
 exact⟨(aP (by decide)).trans h.cA,cell_eq h.cN _,(aP (by decide)).trans h.cX,(aP (by decide)).trans h.cW,(aP (by decide)).trans h.cT,(aP (by decide)).trans h.cM,λi hi=>by rw[World.frozen?_setCell];exact h.f i hi,h.rA.fr hf (λb i e e2=>(h.lw b (.inl e)).2 e2),h.rX.fr hf (λb i e e2=>(h.lw b (.inr (.inl e))).2 e2),h.rW.fr hf (λb i e e2=>(h.lw b (.inr (.inr (.inl e)))).2 e2),h.rT.fr hf (λb i e e2=>(h.lw b (.inr (.inr (.inr (.inl e))))).2 e2),h.rM.fr hf (λb i e e2=>(h.lw b (.inr (.inr (.inr (.inr e))))).2 e2),h.lL,h.lw⟩
structure KZ(lab aB:Nat->Lb)(lv:Value)(w w':World):Prop where
 old:∀b,lab b≠.no->aB b=lab b
 new:∀b,lab b=.no->aB b≠.no->(aB b=.law\/aB b=.out)/\(lv.ownBlock=some b\/w.heap.size<=b)/\b<w'.heap.size
structure KI(w:World)(lab:Nat->Lb)(qR:Value)(m:Nat)(mk:ByteArray)(L:Nat)(ps:List (Nat×Nat))(n:Int)(Y M:List Value)(X W:List Value)(kk:Nat)(tx:List j9)(aB:Nat->Lb)(V:jA)(a:Option Addr)(c:Nat)(wr:World):Prop where
 rows:aI wr L aB V ps n X W Y M
 own:ak wr 0 9 1 (.slice a (m+kk) c) (m+kk) (List.replicate (m+kk) (.string mk))
 lb:∀b,(Value.slice a (m+kk) c).ownBlock=some b->lab b=.no/\aB b=.out
 vs:∀x∈tx,x.m=mk/\x.n<=m+kk/\(x.n=0\/x.a=a\/∃g off,x.a=some ⟨g,off,none⟩/\lab g=.no/\aB g=.out/\(Value.slice a (m+kk) c).ownBlock≠some g/\g<wr.heap.size/\∀j,j<x.n->wr.cell? ⟨g,off+j,none⟩=some (.string mk))
 kl:KZ lab aB qR w wr
 f:Fr (λb _=>lab b=.law\/qR.ownBlock=some b) w wr
 lt:∀b,aB b≠.no->b<wr.heap.size
theorem gT{l:Lb}(h:l=.law):l≠.no:=by rw[h];intro e;cases e
theorem dK{l:Lb}(h:l=.out):l≠.no:=by rw[h];intro e;cases e
theorem GS{l:Lb}(h:l=.law):l≠.out:=by rw[h];intro e;cases e
variable {qR:Value} {m kk c:Nat} {mk:ByteArray} {aB iU:Nat->Lb} {wr w':World} {V2:jA}
theorem KI.go{n:Int}{Y M X W:List Value}{tx:List j9}{a:Option Addr}(h:KI w lab qR m mk L ps n Y M X W kk tx aB V a c wr)
  {N:Nat->Nat->Prop} (hf:Fr N wr w') (hN:∀b i,N b i->aB b=.law) {X2 W2:List Value} (hr:aI w' L iU V2 ps n X2 W2 Y M) (h1:∀b,aB b≠.no->iU b=aB b) (h2:∀b,aB b=.no->iU b≠.no->iU b=.law/\wr.heap.size<=b/\b<w'.heap.size):KI w lab qR m mk L ps n Y M X2 W2 kk tx iU V2 a c w':=by
 have hs:=h.f.size
 have hs2:=hf.size
 have hcell:∀b i,aB b=.out->w'.cell? ⟨b,i,none⟩=wr.cell? ⟨b,i,none⟩:=λb i e=>hf.cell b i (h.lt b (dK e)) (λe2=>GS (hN b i e2) e)
 refine⟨hr,h.own.fr hf (λb i e e2=>GS (hN b i e2) (h.lb b e).2),λb hb=>⟨(h.lb b hb).1,(h1 b (dK (h.lb b hb).2)).trans (h.lb b hb).2⟩,λx hx=>?_,⟨λb hb=>?_,λb hb hb2=>?_⟩,?_,λb hb=>?_⟩
 ·obtain⟨e1,e2,e3⟩:=h.vs x hx
  refine⟨e1,e2,?_⟩
  rcases e3 with e3|e3|⟨g,off,f1,f2,f3,f4,f5,f6⟩
  ·exact .inl e3
  ·exact .inr (.inl e3)
  ·exact .inr (.inr ⟨g,off,f1,f2,(h1 g (dK f3)).trans f3,f4,by omega,λj hj=>(hcell g _ f3).trans (f6 j hj)⟩)
 ·have e:=h.kl.old b hb
  rw[h1 b (by rw[e];exact hb),e]
 ·by_cases e:aB b=.no
  ·have:=h2 b e hb2
   exact⟨.inl this.1,.inr (by omega),this.2.2⟩
  ·have e2:=h1 b e
   have:=h.kl.new b hb e
   rw[e2]
   exact⟨this.1,this.2.1,by omega⟩
 ·refine h.f.aC hf (λb i hb e=>?_)
  have e1:=hN b i e
  by_cases e2:lab b=.no
  ·rcases(h.kl.new b e2 (gT e1)).2.1 with e3|e3
   ·exact .inr e3
   ·omega
  ·rw[h.kl.old b e2]at e1
   exact .inl e1
 ·by_cases e:aB b=.no
  ·exact(h2 b e hb).2.2
  ·have:=h.lt b e;omega
theorem KI.below{n:Int}{Y M X W:List Value}{tx:List j9}{a:Option Addr}(h:KI w lab qR m mk L ps n Y M X W kk tx aB V a c wr)(hb:Below wr.heap.size wr w'):KI w lab qR m mk L ps n Y M X W kk tx aB V a c w':=
 h.go (N:=λ_ _=>False) (Fr.of_below hb) (λ_ _ e=>e.elim) (h.rows.fr (N:=λ_ _=>False) (Fr.of_below hb) (λ_ _ e=>e.elim) (λ_ e=>e)) (λ_ _=>rfl) (λ_b e e2=>absurd e e2)
variable {k:Nat}
theorem jU{v v':Value}(hb:∀b,v'.ownBlock=some b->v.ownBlock=some b\/k<=b)(hv:∀b,v.ownBlock=some b->lab b=.law)(hlt:∀b,lab b≠.no->b<k)(b:Nat)(h:lab b≠.no):bS lab v' b=lab b:=by
 unfold bS
 by_cases e:v'.ownBlock=some b
 ·rw[if_pos e]
  rcases hb b e with e1|e1
  ·exact(hv b e1).symm
  ·have:=hlt b h;omega
 ·rw[if_neg e]
theorem jT{v v':Value}(hb:∀b,v'.ownBlock=some b->v.ownBlock=some b\/k<=b)(hv:∀b,v.ownBlock=some b->lab b=.law)(b:Nat)(h:lab b=.no)(h2:bS lab v' b≠.no):bS lab v' b=.law/\k<=b/\v'.ownBlock=some b:=by
 unfold bS at h2⊢
 by_cases e:v'.ownBlock=some b
 ·rw[if_pos e]
  refine⟨rfl,?_,e⟩
  rcases hb b e with e1|e1
  ·have:=hv b e1;rw[h]at this;cases this
  ·exact e1
 ·rw[if_neg e]at h2;exact absurd h h2
theorem KI.Ny{n:Int}{Y M X W:List Value}{tx:List j9}{a:Option Addr}(h:KI w lab qR m mk L ps n Y M X W kk tx aB V a c wr)
  (u:Value) (ho:ak w2 0 79 1 v' (X.length+1) (X++[u])) (hb:∀k,v'.ownBlock=some k->V.vX.ownBlock=some k\/wr.heap.size<=k) (hf:Fr (λc _=>V.vX.ownBlock=some c) wr w2):KI w lab qR m mk L ps n Y M (X++[u]) W kk tx (bS aB v') {V with vX:=v'} a c (w2.setCell ⟨L,2,none⟩ v'):=by
 obtain⟨h1,h2⟩:=h.rows.Ny h.lt u ho hb hf
 have hv:∀b,V.vX.ownBlock=some b->aB b=.law:=λb e=>(h.rows.lw b (.inr (.inl e))).1
 refine h.go h2 (λb i e=>e) h1 (jU hb hv h.lt) (λb e e2=>?_)
 obtain⟨f1,f2,f3⟩:=jT hb hv b e e2
 exact⟨f1,f2,by have:=(ho.lt f3).2;simpa[World.setCell]using this⟩
theorem KI.Nx{n:Int}{Y M X W:List Value}{tx:List j9}{a:Option Addr}(h:KI w lab qR m mk L ps n Y M X W kk tx aB V a c wr)
  (u:Value) (ho:ak w2 0 9 1 v' (W.length+1) (W++[u])) (hb:∀k,v'.ownBlock=some k->V.vW.ownBlock=some k\/wr.heap.size<=k) (hf:Fr (λc _=>V.vW.ownBlock=some c) wr w2):KI w lab qR m mk L ps n Y M X (W++[u]) kk tx (bS aB v') {V with vW:=v'} a c (w2.setCell ⟨L,3,none⟩ v'):=by
 obtain⟨h1,h2⟩:=h.rows.Nx h.lt u ho hb hf
 have hv:∀b,V.vW.ownBlock=some b->aB b=.law:=λb e=>(h.rows.lw b (.inr (.inr (.inl e)))).1
 refine h.go h2 (λb i e=>e) h1 (jU hb hv h.lt) (λb e e2=>?_)
 obtain⟨f1,f2,f3⟩:=jT hb hv b e e2
 exact⟨f1,f2,by have:=(ho.lt f3).2;simpa[World.setCell]using this⟩
open Classical in
noncomputable def bT (lab:Nat->Lb) (v:Value) (b:Nat):Lb:=if v.ownBlock=some b then .out else lab b
theorem NQ(k:Nat)(u:Value):List.replicate k u++[u]=List.replicate (k+1) u:=by rw[List.replicate_succ']
theorem KI.grow{n:Int}{Y M X W:List Value}{tx:List j9}{a:Option Addr}(h:KI w lab qR m mk L ps n Y M X W kk tx aB V a c wr)
  (ho:ak w' 0 9 1 v' (m+kk+1) (List.replicate (m+kk) (.string mk)++[.string mk])) (hd:(∃g off cap,Value.slice a (m+kk) c=.slice (some ⟨g,off,none⟩) (m+kk) cap/\v'=.slice (some ⟨g,off,none⟩) (m+kk+1) cap/\Fr (λc _=>c=g) wr w')\/((∀k,v'.ownBlock=some k->wr.heap.size<=k)/\Below wr.heap.size wr w')):
  ∃iU a2 c2,v'=.slice a2 (m+(kk+1)) c2/\KI w lab qR m mk L ps n Y M X W (kk+1) (tx++[⟨a,m+kk,c,mk⟩]) iU V a2 c2 w':=by
 rw[NQ]at ho
 have hs:=h.f.size
 rcases hd with⟨g,off,cap,e1,e2,hf⟩|⟨hnew,hB⟩
 ·subst e2
  injection e1 with e1 _ Yh
  subst e1 Yh
  have hg:=h.lb g rfl
  have qJ:g<wr.heap.size:=h.lt g (dK hg.2)
  have hs2:=hf.size
  refine⟨aB,some ⟨g,off,none⟩,c,rfl,⟨h.rows.fr hf (λb i e=>by have e':b=g:=e;rw[e',hg.2];intro x;cases x) (λ_ e=>e),ho,λb hb=>by cases hb;exact hg,λx hx=>?_,⟨h.kl.old,λb hb hb2=>?_⟩,?_,λb hb=>by have:=h.lt b hb;omega⟩⟩
  ·rcases List.mem_append.1 hx with hx|hx
   ·obtain⟨f1,f2,f3⟩:=h.vs x hx
    refine⟨f1,by omega,?_⟩
    rcases f3 with f3|f3|⟨g2,off2,k1,k2,k3,k4,k5,k6⟩
    ·exact .inl f3
    ·exact .inr (.inl f3)
    ·have hne:g2≠g:=λe=>k4 (by rw[e];rfl)
     exact .inr (.inr ⟨g2,off2,k1,k2,k3,λe=>hne (by cases e;rfl),by omega,λj hj=>(hf.cell g2 _ k5 hne).trans (k6 j hj)⟩)
   ·rw[List.mem_singleton.1 hx]
    exact⟨rfl,by show m+kk<=_;omega,.inr (.inl rfl)⟩
  ·have:=h.kl.new b hb hb2
   exact⟨this.1,this.2.1,by omega⟩
  ·refine h.f.aC hf (λb i hb e=>?_)
   have e':b=g:=e
   subst e'
   rcases(h.kl.new b hg.1 (dK hg.2)).2.1 with e3|e3
   ·exact .inr e3
   ·omega
 ·obtain⟨a2,c2,rfl,_,_⟩:=ho.form
  have hold:∀b,aB b≠.no->bT aB (.slice a2 (m+kk+1) c2) b=aB b:=λb hb=>by
   unfold bT
   rw[if_neg (λe=>by have:=hnew b e;have:=h.lt b hb;omega)]
  have hs2:=hB.size
  have hcell:∀b i,b<wr.heap.size->w'.cell? ⟨b,i,none⟩=wr.cell? ⟨b,i,none⟩:=λb i hb=>hB.cell (p:=⟨b,i,none⟩) hb
  have hnl:∀b,lab b≠.no->bT aB (.slice a2 (m+kk+1) c2) b=lab b:=λb hb=>by
   have e:=h.kl.old b hb
   rw[hold b (by rw[e];exact hb),e]
  refine⟨bT aB (.slice a2 (m+kk+1) c2),a2,c2,rfl,⟨h.rows.fr (N:=λ_ _=>False) (Fr.of_below hB) (λ_ _ e=>e.elim) (λb e=>(hold b (gT e)).trans e),ho,λb hb=>⟨?_,by unfold bT;exact if_pos hb⟩,λx hx=>?_,⟨hnl,λb hb hb2=>?_⟩,h.f.trans (Fr.of_below hB),λb hb=>?_⟩⟩
  ·refine Classical.byContradiction λe=>?_
   have h1:=hnew b hb
   have h2:=h.kl.old b e
   have:=h.lt b (by rw[h2];exact e)
   omega
  ·have o9:∀y:j9,y.n<=m+kk->y.a=a->y.n=0\/∃g off,y.a=some ⟨g,off,none⟩/\lab g=.no/\bT aB (.slice a2 (m+kk+1) c2) g=.out/\(Value.slice a2 (m+kk+1) c2).ownBlock≠some g/\g<w'.heap.size/\∀j,j<y.n->w'.cell? ⟨g,off+j,none⟩=some (.string mk):=λy hy ha=>by
    by_cases e0:y.n=0
    ·exact .inl e0
    ·obtain⟨a',c',e1,_,hg⟩:=h.own.form
     obtain⟨g,off,e2,_⟩:=hg (by omega)
     injection e1 with e1
     rw[<-e1]at e2
     subst e2
     have qJ:=h.lb g rfl
     have hlt:=h.lt g (dK qJ.2)
     refine .inr ⟨g,off,ha,qJ.1,(hold g (dK qJ.2)).trans qJ.2,λe=>by have:=hnew g e;omega,by omega,λj hj=>(hcell g _ hlt).trans (h.own.Pt ?_)⟩
     rw[List.getElem?_replicate,if_pos (by omega)]
   rcases List.mem_append.1 hx with hx|hx
   ·obtain⟨f1,f2,f3⟩:=h.vs x hx
    refine⟨f1,by omega,?_⟩
    rcases f3 with f3|f3|⟨g2,off2,k1,k2,k3,k4,k5,k6⟩
    ·exact .inl f3
    ·rcases o9 x f2 f3 with e|e
     ·exact .inl e
     ·exact .inr (.inr e)
    ·exact .inr (.inr ⟨g2,off2,k1,k2,(hold g2 (dK k3)).trans k3,λe=>by have:=hnew g2 e;omega,by omega,λj hj=>(hcell g2 _ k5).trans (k6 j hj)⟩)
   ·rw[List.mem_singleton.1 hx]
    refine⟨rfl,by show m+kk<=_;omega,?_⟩
    rcases o9 ⟨a,m+kk,c,mk⟩ aM rfl with e|e
    ·exact .inl e
    ·exact .inr (.inr e)
  ·unfold bT at hb2⊢
   by_cases e:(Value.slice a2 (m+kk+1) c2).ownBlock=some b
   ·rw[if_pos e]
    exact⟨.inr rfl,.inr (by have:=hnew b e;omega),(ho.lt e).2⟩
   ·rw[if_neg e]at hb2⊢
    have:=h.kl.new b hb hb2
    exact⟨this.1,this.2.1,by omega⟩
  ·unfold bT at hb
   by_cases e:(Value.slice a2 (m+kk+1) c2).ownBlock=some b
   ·exact(ho.lt e).2
   ·rw[if_neg e]at hb
    have:=h.lt b hb
    omega
theorem KI.tx{n:Int}{Y M X W:List Value}{tx:List j9}{a:Option Addr}(h:KI w lab qR m mk L ps n Y M X W kk tx aB V a c wr)(hm:m+kk<=5000000):∀x∈tx,Ai wr aB x:=λx hx=>by
 obtain⟨f1,f2,f3⟩:=h.vs x hx
 refine⟨by omega,?_⟩
 rcases f3 with f3|f3|⟨g2,off2,k1,k2,k3,k4,k5,k6⟩
 ·exact .inl f3
 ·by_cases e0:x.n=0
  ·exact .inl e0
  ·obtain⟨a',c',e1,_,hg⟩:=h.own.form
   obtain⟨g,off,e2,_⟩:=hg (by omega)
   injection e1 with e1
   rw[<-e1]at e2
   subst e2
   have qJ:=h.lb g rfl
   refine .inr ⟨g,off,f3,qJ.2,h.lt g (dK qJ.2),λj hj=>?_⟩
   rw[f1]
   refine h.own.Pt ?_
   rw[List.getElem?_replicate,if_pos (by omega)]
 ·exact .inr ⟨g2,off2,k1,k3,k5,λj hj=>by rw[f1];exact k6 j hj⟩
theorem Tb:(prog.info? 79).map (λi=>(i.zero,i.size,i.bytes))=some (some (.slice none 0 0),1,24):=by kernel_rfl
def RZ(lab:Nat->Lb)(lv:Value)(L:Nat)(ps:List (Nat×Nat))(n:Int)(X W Y M:List Value)(w:World)(e:Ending)(w':World):Prop:=
 e=.returned (.tuple #[])/\∃(aB:Nat->Lb) (V':jA) (tx:List j9),aI w' L aB V' ps (n+1) (X++tx.map j9.v) (W++tx.map λx=> .string x.m) Y M/\tx.length=4/\(∀x∈tx,Ai w' aB x)/\KZ lab aB lv w w'/\Fr (λb _=>lab b=.law\/lv.ownBlock=some b) w w'/\∀b,aB b≠.no->b<w'.heap.size
theorem aI.keep{n:Int}{X W Y M:List Value}(h:aI w1 L lab V ps n X W Y M){v:Value}(hv:∀b,v.ownBlock=some b->V.Own b)(hf:Fr (λc _=>v.ownBlock=some c) w1 w2)(i:Nat):w2.cell? ⟨L,i,none⟩=w1.cell? ⟨L,i,none⟩/\w2.frozen? ⟨L,i,none⟩=w1.frozen? ⟨L,i,none⟩:=
 have hne:¬v.ownBlock=some L:=λe=>(h.lw L (hv L e)).2 rfl
 ⟨hf.cell L i h.lt hne,hf.frozen L i h.lt hne⟩
theorem KI.start{n:Int}{Y M X W:List Value}{a:Option Addr}(hr:aI wr L lab V ps n X W Y M)(ho:ak wr 0 9 1 (.slice a m c) m (List.replicate m (.string mk)))(hlb:∀b,(Value.slice a m c).ownBlock=some b->lab b=.no)(hlt:∀b,lab b≠.no->b<w.heap.size)(hf:Fr (λb _=>lab b=.law\/(Value.slice a m c).ownBlock=some b) w wr):KI w lab (.slice a m c) m mk L ps n Y M X W 0 [] (bT lab (.slice a m c)) V a c wr:=by
 have hs:=hf.size
 have hold:∀b,lab b≠.no->bT lab (.slice a m c) b=lab b:=λb hb=>by
  unfold bT
  exact if_neg (λe=>hb (hlb b e))
 refine⟨hr.fr (N:=λ_ _=>False) (Fr.refl _ _) (λ_ _ e=>e.elim) (λb e=>(hold b (gT e)).trans e),ho,λb hb=>⟨hlb b hb,by unfold bT;exact if_pos hb⟩,λx hx=>(by cases hx),⟨hold,λb hb hb2=>?_⟩,hf,λb hb=>?_⟩
 ·by_cases e:(Value.slice a m c).ownBlock=some b
  ·exact⟨.inr (by unfold bT;exact if_pos e),.inl e,(ho.lt e).2⟩
  ·exact absurd (by unfold bT;rw[if_neg e];exact hb) hb2
 ·by_cases e:(Value.slice a m c).ownBlock=some b
  ·exact(ho.lt e).2
  ·unfold bT at hb
   rw[if_neg e]at hb
   have:=hlt b hb
   omega
variable {i:Nat}
theorem PI(hl:xs.length=m*1)(hi:i<m)(u:Value):∃v,(List.replicate i u++xs.drop i)[i]? =some v:=by
 refine⟨xs[i]'(by omega),?_⟩
 rw[List.getElem?_append_right (by rw[List.length_replicate];exact aM),List.length_replicate,Nat.sub_self,List.getElem?_drop]
 simp
theorem LR(hl:xs.length=m*1)(hi:i<m)(u:Value):(List.replicate i u++xs.drop i).set i u=List.replicate (i+1) u++xs.drop (i+1):=by
 rw[List.set_append_right _ _ (by rw[List.length_replicate];exact aM),List.length_replicate,Nat.sub_self]
 have e:xs.drop i=xs[i]'(by omega)::xs.drop (i+1):=List.drop_eq_getElem_cons (by omega)
 rw[e,List.set_cons_zero,List.replicate_succ',List.append_assoc]
 rfl
theorem yx(L:Nat)(lab:Nat->Lb)(V:jA)(ps:List (Nat×Nat))(n:Int)(hn0:0<=n)(hn1:n<=1000000000000)(X W Y M:List Value)(hX:X.length<=4000000000000)(hW:W.length<=4000000000000)(la:Option Addr)(m lc:Nat)(hm:m<=4000000)(xs:List Value)(w:World)(h:aI w L lab V ps n X W Y M)(hlt:∀b,lab b≠.no->b<w.heap.size)(hl:ak w 0 9 1 (.slice la m lc) m xs)(hlb:∀b,(Value.slice la m lc).ownBlock=some b->lab b=.no):
  Calls prog 116 #[.pointer (some ⟨L,0,none⟩),.slice la m lc] w (RZ lab (.slice la m lc) L ps n X W Y M w):=by
 have HR:=af h
 have xS:=h.lt
 have c1:=h.cN
 have f1:=h.f 1 (by omega)
 have hw1:IntKind.i64.wrap (n+1)=n+1:=by rw[IntKind.wrap_i64];omega
 obtain⟨i79,eH,hz0,hz1,hz2⟩:=info_parts Tb
 have OV:Hid (prog.info? 79=some i79/\i79.zero=some (.slice none 0 0)/\i79.size=1/\i79.bytes=24):=⟨eH,hz0,hz1,hz2⟩
 obtain⟨i9,hj0,hy0,hy1,hy2⟩:=info_parts y6
 have QW:Hid (prog.info? 9=some i9/\i9.zero=some (.string ⟨#[]⟩)/\i9.size=1/\i9.bytes=16):=⟨hj0,hy0,hy1,hy2⟩
 clear h eH hz0 hz1 hz2 hj0 hy0 hy1 hy2
 go_enter func116,ntmps116
 go_wp2_with fail
 obtain⟨w1,hw⟩:∃x,w.setCell ⟨L,1,none⟩ (.int .i64 (n+1))=x:=⟨_,rfl⟩
 have eE:Hid (aI w1 L lab V ps (n+1) X W Y M):=by rw[<-hw];exact HR.out.V7 _
 have F9:Hid (Fr (λb _=>lab b=.law) w w1):=by rw[<-hw];exact(Fr.refl _ w).setCell (b:=L) (i:=1) (.inl HR.out.lL) _
 rw[hw]
 clear hw c1 f1
 have c1:=eE.out.cN
 have Ri:∀(x y z:Int),Sem.run prog (convert 197 9 (.slice (some ⟨w1.heap.size,0,none⟩) 3 3)) (w1.alloc (.cells #[.int .u8 x,.int .u8 y,.int .u8 z] 5)).drew=.ok (.string (strOfNums [x,y,z])) (w1.alloc (.cells #[.int .u8 x,.int .u8 y,.int .u8 z] 5)).drew:=λx y z=>
  run_convert_bytes_arg _ 197 5 underlying197 underlying5 w1.heap.size 0 3 3 [x,y,z] rfl (λj hj=>by
   match j,hj with
   |0,_=>exact(bG w1 #[.int .u8 x,.int .u8 y,.int .u8 z] 5 0)
   |1,_=>exact(bG w1 #[.int .u8 x,.int .u8 y,.int .u8 z] 5 1)
   |2,_=>exact(bG w1 #[.int .u8 x,.int .u8 y,.int .u8 z] 5 2)) 9 underlying9
 have Jk:∀(x y z:Int),¬9223372036854775807<5+(strOfNums [x,y,z]).size:=λx y z=>by rw[strOfNums_size];simp
 go_region
 obtain⟨mk,hmk⟩:∃x,(({data:=#[109,97,114,107,32]}:ByteArray)++strOfNums [(n+1)%256,(n+1)/256%256,(n+1)/65536%256])=x:=⟨_,rfl⟩
 rw[hmk]
 obtain⟨w2,hw2⟩:∃x,(w1.alloc (.cells #[.int .u8 ((n+1)%256),.int .u8 ((n+1)/256%256),.int .u8 ((n+1)/65536%256)] 5)).drew=x:=⟨_,rfl⟩
 have dm:Hid (Below w1.heap.size w1 w2):=by rw[<-hw2];exact aU.drew
 rw[hw2]
 clear hw2 hmk Ri Jk c1
 have dP:Hid (aI w2 L lab V ps (n+1) X W Y M):=eE.out.fr (N:=λ_ _=>False) (Fr.of_below dm.out) (λ_ _ e=>e.elim) (λ_ e=>e)
 have rO:Hid (Fr (λb _=>lab b=.law) w w2):=F9.out.trans (Fr.of_below dm.out)
 have DN:Hid (ak w2 0 9 1 (.slice la m lc) m xs):=hl.fr rO.out (λb i e e2=>by have UC:lab b=.law:=e2;rw[hlb b e]at UC;cases UC)
 have Kq:=af hlb
 have H_:=af hlt
 have Hl:Hid (xs.length=m*1):=hl.1
 have Hg:Hid (0<m->∃g off,la=some ⟨g,off,none⟩/\0<=g):=by
  obtain⟨a',c',e1,_,hg⟩:=hl.form
  injection e1 with e1
  rw[e1];exact hg
 clear hl hlb hlt
 go_wp2
 go_loopw [5] (λiv wr=>∃i:Nat,i<=m/\iv=.int .i64 (i:Int)/\ak wr 0 9 1 (.slice la m lc) m (List.replicate i (.string mk)++xs.drop i)/\Fr (λb _=>(Value.slice la m lc).ownBlock=some b) w2 wr) (λiv _=>m-(intOf iv).toNat)
 case atStart=>exact⟨0,by omega,rfl,DN.out,Fr.refl _ _⟩
 case round=>
  obtain⟨i,hi,rfl,ho,hf⟩:=hrel
  by_cases hlt:i<m
  ·obtain⟨g,off,rfl,_⟩:=Hg.out (by omega)
   obtain⟨v,hv⟩:=PI Hl.out hlt (.string mk)
   have z1:=ho.Pt hv
   have z2:=ho.frozen (off+i)
   have HO:Hid (ak (wr.setCell ⟨g,off+i,none⟩ (.string mk)) 0 9 1 (.slice (some ⟨g,off,none⟩) m lc) m (List.replicate (i+1) (.string mk)++xs.drop (i+1))):=by
    show ak _ _ _ _ _ _ _
    rw[<-LR Hl.out hlt]
    exact ho.set (by omega) _
   have HF:Hid (Fr (λb _=>(Value.slice (some ⟨g,off,none⟩) m lc).ownBlock=some b) w2 (wr.setCell ⟨g,off+i,none⟩ (.string mk))):=hf.setCell (b:=g) (i:=off+i) (.inl rfl) _
   have xU:(i:Int)<(m:Int):=by omega
   have eH:¬(i:Int)<0:=by omega
   clear ho hf hv
   go_wp2
   go_roundw
   case rel=>exact⟨i+1,by omega,by go_num,HO.out,HF.out⟩
   case measure=>simp[intOf];omega
  ·have xU:¬(i:Int)<(m:Int):=by omega
   have e:List.replicate i (Value.string mk)++xs.drop i=List.replicate m (.string mk):=by
    have e':i=m:=by omega
    subst e'
    rw[List.drop_eq_nil_of_le (by have:=Hl.out;omega),List.append_nil]
   rw[e]at ho
   have TD:Hid (KI w lab (.slice la m lc) m mk L ps (n+1) Y M X W 0 [] (bT lab (.slice la m lc)) V la lc wr):=by
    refine KI.start (dP.out.fr hf (λb i e e2=>?_) (λ_ e=>e)) ho Kq.out H_.out ((rO.out.mono (λb i e=> .inl e)).trans (hf.mono (λb i e=> .inr e)))
    have:=Kq.out b e
    rw[e2]at this;cases this
   clear ho hf e
   go_wp2
   go_loopw [1,6] (λlv kv wr=>∃(kk:Nat) (tx:List j9) (aB:Nat->Lb) (V':jA) (a:Option Addr) (c:Nat),kk<=4/\kv=.int .i64 (kk:Int)/\lv=.slice a (m+kk) c/\tx.length=kk/\KI w lab (.slice la m lc) m mk L ps (n+1) Y M (X++tx.map j9.v) (W++tx.map λx=> .string x.m) kk tx aB V' a c wr) (λ_ kv _=>4-(intOf kv).toNat)
   case atStart=>exact⟨0,[],_,V,la,lc,by omega,rfl,rfl,rfl,by rw[List.map_nil,List.map_nil,List.append_nil,List.append_nil];exact TD.out⟩
   case round=>
    obtain⟨kk,tx,aB,V',a,c,hk4,rfl,rfl,PZ,hK⟩:=hrel
    have HK:=af hK
    by_cases hk:kk<4
    ·have lU:(kk:Int)<4:=by omega
     have c2:=hK.rows.cX
     have f2:=hK.rows.f 2 (by omega)
     obtain⟨XX,PU⟩:∃x,X++tx.map j9.v=x:=⟨_,rfl⟩
     obtain⟨WW,PT⟩:∃x,(W++tx.map λx=> .string x.m)=x:=⟨_,rfl⟩
     have XV:Hid (XX++[Value.slice a (m+kk) c]=X++(tx++[(⟨a,m+kk,c,mk⟩:j9)]).map j9.v):=by show _=_;rw[<-PU,List.map_append,List.append_assoc];rfl
     have KO:Hid (WW++[Value.string mk]=W++(tx++[(⟨a,m+kk,c,mk⟩:j9)]).map λx=> .string x.m):=by show _=_;rw[<-PT,List.map_append,List.append_assoc];rfl
     have hXl:XX.length<=4000000000003:=by rw[<-PU,List.length_append,List.length_map];omega
     have hWl:WW.length<=4000000000003:=by rw[<-PT,List.length_append,List.length_map];omega
     rw[PU,PT]at HK
     have hLr:L<wr.heap.size:=hK.rows.lt
     clear hK PU PT
     go_wp2_with (first
      |(at_builtin;refine bR rfl (.tmp 53) (.tmp 55) 101 rfl 79 i79 (.slice none 0 0) 1 24 underlying101 OV.out.1 OV.out.2.1 OV.out.2.2.1 OV.out.2.2.2 rfl (by decide) 0 (Nat.zero_le _) V'.vX XX.length XX rfl (HK.out.below aU).rows.rX ⟨wr.heap.size,0,none⟩ 1 1 [.slice a (m+kk) c] rfl rfl (λj u hj=>by rw[addr_add,Nat.zero_add,bG];simpa using hj) (λu hu=>by rw[List.mem_singleton.1 hu];rfl) (by unfold maxLen;omega) (by omega) ?_;intro v3 w3 ud hb3 hf3;obtain⟨a3,c3,rfl,_,_⟩:=ud.form;have Cu:=HK.out.below (bK.alloc aM (.cells #[.slice a (m+kk) c] 79));have d2:w3.cell? ⟨L,2,none⟩=some V'.vX:=(Cu.rows.keep (λb e=> .inr (.inl e)) hf3 2).1.trans Cu.rows.cX;have g2:w3.frozen? ⟨L,2,none⟩=false:=(Cu.rows.keep (λb e=> .inr (.inl e)) hf3 2).2.trans (Cu.rows.f 2 (by decide));have d3:w3.cell? ⟨L,3,none⟩=some V'.vW:=(Cu.rows.keep (λb e=> .inr (.inl e)) hf3 3).1.trans Cu.rows.cW;have g3:w3.frozen? ⟨L,3,none⟩=false:=(Cu.rows.keep (λb e=> .inr (.inl e)) hf3 3).2.trans (Cu.rows.f 3 (by decide));have h_:Hid _:=Cu.Ny (.slice a (m+kk) c) ud hb3 hf3;clear Cu ud hb3 hf3 c2 f2)
      |(at_builtin;refine bR rfl (.tmp 63) (.tmp 65) 79 rfl 9 i9 (.string ⟨#[]⟩) 1 16 underlying79 QW.out.1 QW.out.2.1 QW.out.2.2.1 QW.out.2.2.2 rfl (by decide) 0 (Nat.zero_le _) V'.vW WW.length WW rfl (h_.out.below aU).rows.rW ⟨w3.heap.size,0,none⟩ 1 1 [.string mk] rfl rfl (λj u hj=>by rw[addr_add,Nat.zero_add];have e:=bG (w3.setCell ⟨L,2,none⟩ (.slice a3 (XX.length+1) c3)) #[.string mk] 9 j;rw[show(w3.setCell ⟨L,2,none⟩ (.slice a3 (XX.length+1) c3)).heap.size=w3.heap.size by simp[World.setCell]]at e;rw[e];simpa using hj) (λu hu=>by rw[List.mem_singleton.1 hu];rfl) (by unfold maxLen;omega) (by omega) ?_;intro v4 w4 SX hb4 yY;obtain⟨a4,c4,rfl,_,_⟩:=SX.form;have hK2:=h_.out.below (bK.alloc aM (.cells #[.string mk] 9));have d4:w4.cell? ⟨L,3,none⟩=some V'.vW:=(hK2.rows.keep (λb e=> .inr (.inr (.inl e))) yY 3).1.trans hK2.rows.cW;have g4:w4.frozen? ⟨L,3,none⟩=false:=(hK2.rows.keep (λb e=> .inr (.inr (.inl e))) yY 3).2.trans (hK2.rows.f 3 (by decide));have KH:Hid _:=hK2.Nx (.string mk) SX hb4 yY;clear hK2 SX hb4 yY d2 g2 d3 g3)
      |(at_builtin;refine kJ rfl (.tmp 69) (.tmp 71) 79 rfl 9 i9 (.string ⟨#[]⟩) 1 16 underlying79 QW.out.1 QW.out.2.1 QW.out.2.2.1 QW.out.2.2.2 rfl (by decide) (.slice a (m+kk) c) (m+kk) _ rfl (KH.out.below aU).own ⟨w4.heap.size,0,none⟩ 1 1 [.string mk] rfl rfl (λj u hj=>by rw[addr_add,Nat.zero_add];have e:=bG (w4.setCell ⟨L,3,none⟩ (.slice a4 (WW.length+1) c4)) #[.string mk] 9 j;rw[show(w4.setCell ⟨L,3,none⟩ (.slice a4 (WW.length+1) c4)).heap.size=w4.heap.size by simp[World.setCell]]at e;rw[e];simpa using hj) (λu hu=>by rw[List.mem_singleton.1 hu];rfl) (by unfold maxLen;omega) (by omega) ?_;intro v5 w5 Ro Va;obtain⟨Th,a5,c5,rfl,UL⟩:=(KH.out.below (bK.alloc aM (.cells #[.string mk] 9))).grow Ro Va;have KJ:Hid _:=UL;clear UL Ro Va))
     go_roundw
     case rel=>exact⟨kk+1,tx++[⟨a,m+kk,c,mk⟩],Th,_,a5,c5,by omega,by go_num,rfl,by rw[List.length_append,PZ];rfl,by rw[<-XV.out,<-KO.out];exact KJ.out⟩
     case measure=>simp[intOf];omega
    ·have lU:¬(kk:Int)<4:=by omega
     clear hK
     go_wp2
     go_end0
     exact⟨rfl,aB,V',tx,HK.out.rows,by omega,HK.out.tx (by omega),HK.out.kl,HK.out.f,HK.out.lt⟩
end
end Go.Proofs.YtenaepdmlknlcaaGreatDoor
