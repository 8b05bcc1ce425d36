import Derived.Test.YtenaepdmlknlcaaGreatDoorG46
import Derived.Test.YtenaepdmlknlcaaGreatDoorG47
open Go.Proofs.Tryz
set_option maxRecDepth 100000
set_option maxHeartbeats 8000000
namespace Go.Proofs.YtenaepdmlknlcaaGreatDoor
section
open Go.RowKit Go.Shelf
theorem AA{n:Int}(h:¬(0<=n/\n<4)):fP n 0 3=false:=by unfold fP;exact decide_eq_false (by omega)
variable {w:World} {L K H i:Nat} {lab:Nat->Lb} {V:jA} {tw:List Tw} {T:Int}
theorem Eo{Z:Nat->Prop}{n:Int}{tx:List j9}{ti:List j8}(h:iN w L Z lab V tw n tx ti T K H)(hK:K<=3999990)(hH:H<=1000000000000){t:Tw}(ht:tw[i]? =some t)(a:Int):
  Calls prog 71 #[.pointer (some ⟨L,0,none⟩),.agg #[.pointer (some ⟨t.A,0,none⟩),.pointer (some ⟨t.B,0,none⟩)],.int .i64 a] w λe w'=>e=.returned (.bool true)/\aH L Z tw.length T K (H+1) w w':=by
 have hN:∀b (_:Nat),lab b=.x i->b<w.heap.size:=λb _ e=>(h.at_.lt b (by rw[e];intro x;cases x)).2
 have hok:=h.at_.ok t (List.mem_of_getElem? ht)
 by_cases hr:0<=a/\a<4
 ·obtain⟨k,rfl⟩:=Int.eq_ofNat_of_zero_le hr.1
  have hk:k<4:=by omega
  have hm:(t.a.ss k).an.length<=4000000:=by have:=hok.few k hk;omega
  have oL:(t.R.ss k).an=(t.a.ss k).an:=hok.rel.an k hk
  refine sV L t.A t.B (k:Int) 0 (t.a.ss k).an.length hm (t.a.ss k).an rfl w (λb _=>lab b=.x i) hN
   (λla lc w1=>∃ZA,(∀b,(Value.slice la (t.a.ss k).an.length lc).ownBlock=some b->¬ZA b/\lab b=.x i)/\bu w1 t.A ZA (kH t.a k)/\(∀b,ZA b->lab b=.x i\/w.heap.size<=b)/\Fr (λb _=>lab b=.x i) w w1/\ak w1 0 9 1 (.slice la (t.a.ss k).an.length lc) (t.a.ss k).an.length ((t.a.ss k).an.map .string))
   (λla lc w2=>∃aB F2,mQ w L Z tw.length T K H (.slice la (t.a.ss k).an.length lc) w2 aB V F2 n tx ti/\ak w2 0 9 1 (.slice la (t.a.ss k).an.length lc) (t.a.ss k).an.length ((t.a.ss k).an.map .string))
   (aH L Z tw.length T K (H+1) w) (λla lc w1 w2 ⟨aB,F2,h1,h2⟩ hb=>⟨aB,F2,h1.below hb,h2.below hb⟩) (λW hW=>?_) (λla lc w1 hp=>?_) (λla lc w1 ⟨aB,F2,h1,h2⟩=>qO h1 hH hm h2)
  ·refine(zR ((h.at_.at_ i t ht).below hW) hk).mono ?_
   rintro e w1 ⟨va,m,cap,he,rfl,ho,h1,ZA,h2,h3,h4,h5⟩
   refine⟨va,cap,he,⟨ZA,λb hb=>⟨h2 b hb,h1 b hb⟩,h3,λb hb=>(h4 b hb).imp _root_.id (λe=>Nat.le_trans hW.size e),(Fr.of_below hW).trans h5,ak.pV ho⟩,h5⟩
  ·obtain⟨ZA,g1,g2,g3,g4,g5⟩:=hp
   have hR:cS w1 t.B (λb=>lab b=.r i) t.R:=(h.at_.rf i t ht).fr g4 (λb _ e e2=>by rw[e]at e2;cases e2)
   refine(BK hR hk).mono ?_
   rw[oL]
   rintro e w2 ⟨ra,rc,he,ho,_,ZB,f1,f2,f3⟩
   have ho1:ak w2 0 9 1 (.slice la (t.a.ss k).an.length lc) (t.a.ss k).an.length ((t.a.ss k).an.map .string):=g5.fr f3 (λb _ e e2=>by
    have e3:lab b=.r i:=e2
    rw[(g1 b e).2]at e3;cases e3)
   refine⟨ra,rc,he,ho1,ho,?_⟩
   obtain⟨q1,q2,q3⟩:=h.at_.twin ht g2 g3 g4 f1 f2 f3 (hok.tell hk) (Int.le_refl _) aM
   have hlo:∀b,lab b=.x i->b<w.heap.size:=λb e=>hN b 0 e
   have hs:=g4.size
   refine⟨_,_,⟨q1,by rw[List.length_set],λb hb=>?_,λb hb=>(q2 b hb).imp (λe=>(h.z b).2 e) _root_.id,q3.mono λb _ e=>(h.z b).2 (by rcases e with e|e<;>rw[e]<;>intro x<;>cases x),h.n0,h.n1,h.x,h.t⟩,ho1⟩
   obtain⟨e1,e2⟩:=g1 b hb
   have e3:lab b≠.no:=by rw[e2];intro x;cases x
   refine⟨?_,(h.at_.lt b e3).1,.inl ((h.z b).2 e3)⟩
   unfold ir
   rw[if_neg e1,if_neg (λe4=>?_),if_pos (.inl e2)]
   rcases f2 b e4 with e5|e5
   ·rw[e2]at e5;cases e5
   ·have:=hlo b e2;omega
 ·refine sV L t.A t.B a 2 0 (by omega) [] rfl w (λb _=>lab b=.x i) hN (λla lc w1=>la=none/\lc=0/\Below w.heap.size w w1) (λla lc w1=>la=none/\lc=0/\Below w.heap.size w w1) (aH L Z tw.length T K (H+1) w) (λla lc w1 w2 ⟨h1,h2,h3⟩ hb=>⟨h1,h2,h3.trans (hb.mono h3.size)⟩) (λW hW=>?_) (λla lc w1 ⟨h1,h2,h3⟩=>?_) (λla lc w1 ⟨h1,h2,h3⟩=>?_)
  ·refine(tR t.A a W hr).mono ?_
   rintro e w1 ⟨he,rfl⟩
   exact⟨none,0,he,⟨rfl,rfl,hW⟩,Fr.refl _ _⟩
  ·refine(Dh t.B a (AA hr) w1).mono ?_
   rintro e w2 ⟨he,rfl⟩
   subst h1 h2
   exact⟨none,0,he,ak.nil _ _ _ _,ak.nil _ _ _ _,rfl,rfl,h3⟩
  ·subst h1 h2
   refine qO (k:=tw.length) ⟨h.at_.below h3,rfl,λb hb=>(by cases hb),λb hb=> .inl ((h.z b).2 hb),Fr.of_below h3,h.n0,h.n1,h.x,h.t⟩ hH (by omega) (ak.nil _ _ _ _)
theorem Qc{Z:Nat->Prop}{n:Int}{tx:List j9}{ti:List j8}(h:iN w L Z lab V tw n tx ti T K H)(hH:H<=1000000000000){t:Tw}(ht:tw[i]? =some t)(a:Int):
  Calls prog 73 #[.pointer (some ⟨L,0,none⟩),.agg #[.pointer (some ⟨t.A,0,none⟩),.pointer (some ⟨t.B,0,none⟩)],.int .i64 a] w λe w'=>e=.returned (.bool true)/\aH L Z tw.length T K (H+1) w w':=by
 have hok:=h.at_.ok t (List.mem_of_getElem? ht)
 have tY:=(h.at_.at_ i t ht).ok
 have Y6:=h.at_.gl.sz
 have hKA:∀{la:Option Addr} {m lc:Nat} {w1:World},Below w.heap.size w w1->(∀b,(Value.slice la m lc).ownBlock=some b->w.heap.size<=b)->mQ w L Z tw.length T K H (.slice la m lc) w1 lab V tw n tx ti:=λhb hl=>
  ⟨h.at_.below hb,rfl,λb e=>⟨Classical.byContradiction λe2=>by have:=(h.at_.lt b e2).2;have:=hl b e;omega,by have:=hl b e;omega,.inr (hl b e)⟩,λb hb=> .inl ((h.z b).2 hb),Fr.of_below hb,h.n0,h.n1,h.x,h.t⟩
 by_cases hr:0<=a/\a<4
 ·obtain⟨k,rfl⟩:=Int.eq_ofNat_of_zero_le hr.1
  have hk:k<4:=by omega
  have hsh:t.R.sh k=t.a.g.S.ks k:=hok.rel.sh k hk
  have hm:(t.a.g.S.ks k).length<=4000000:=by have:=tY.g.len k hk;have:=tY.g.r8;omega
  refine CO L t.A t.B (k:Int) 0 (t.a.g.S.ks k).length hm ((t.a.g.S.ks k).map (·.t)) (by rw[List.length_map]) w (λ_ _=>False) (λ_ _ e=>e.elim)
   (λla lc w1=>Below w.heap.size w w1/\(∀b,(Value.slice la (t.a.g.S.ks k).length lc).ownBlock=some b->w.heap.size<=b)/\ak w1 0 24 3 (.slice la (t.a.g.S.ks k).length lc) (t.a.g.S.ks k).length (eP ((t.a.g.S.ks k).map (·.t))))
   (λla lc w1=>Below w.heap.size w w1/\(∀b,(Value.slice la (t.a.g.S.ks k).length lc).ownBlock=some b->w.heap.size<=b)/\ak w1 0 24 3 (.slice la (t.a.g.S.ks k).length lc) (t.a.g.S.ks k).length (eP ((t.a.g.S.ks k).map (·.t))))
   (aH L Z tw.length T K (H+1) w) (λla lc w1 w2 ⟨h1,h2,h3⟩ hb=>⟨h1.trans (hb.mono h1.size),h2,h3.below hb⟩) (λW hW=>?_) (λla lc w1 ⟨h1,h2,h3⟩=>?_) (λla lc w1 ⟨h1,h2,h3⟩=>qP (hKA h1 h2) hH hm h3)
  ·refine(O8 ((h.at_.at_ i t ht).below hW) hk).mono ?_
   rintro e w1 ⟨va,m,cap,he,rfl,ho,hb⟩
   exact⟨va,cap,he,⟨hW.trans (hb.mono hW.size),λb e=>Nat.le_trans hW.size (ho.lt b e).1,(ak.pV ho).le (λ_ _=>Nat.zero_le _)⟩,Fr.of_below hb⟩
  ·refine(La ((h.at_.rf i t ht).below h1) (FK hok.rel tY) hk).mono ?_
   rw[hsh]
   rintro e w2 ⟨va,vc,he,ho,hb⟩
   exact⟨va,vc,he,h3.below hb,(ak.pV ho).le (λ_ _=>Nat.zero_le _),h1.trans (hb.mono h1.size),h2,h3.below hb⟩
 ·refine CO L t.A t.B a 1 0 (by omega) [] rfl w (λ_ _=>False) (λ_ _ e=>e.elim) (λla lc w1=>la=none/\lc=0/\Below w.heap.size w w1) (λla lc w1=>la=none/\lc=0/\Below w.heap.size w w1) (aH L Z tw.length T K (H+1) w) (λla lc w1 w2 ⟨h1,h2,h3⟩ hb=>⟨h1,h2,h3.trans (hb.mono h3.size)⟩) (λW hW=>?_) (λla lc w1 ⟨h1,h2,h3⟩=>?_) (λla lc w1 ⟨h1,h2,h3⟩=>?_)
  ·refine(O9 t.A a W hr).mono ?_
   rintro e w1 ⟨he,rfl⟩
   exact⟨none,0,he,⟨rfl,rfl,hW⟩,Fr.refl _ _⟩
  ·refine(NF t.B a (AA hr) w1).mono ?_
   rintro e w2 ⟨he,rfl⟩
   subst h1 h2
   exact⟨none,0,he,ak.nil _ _ _ _,ak.nil _ _ _ _,rfl,rfl,h3⟩
  ·subst h1 h2
   exact qP (hKA h3 (λb hb=>by cases hb)) hH (by omega) (ak.nil _ _ _ _)
theorem wj:∀{l:List (Nat×Nat)} {i:Nat} {p:Nat×Nat},l[i]? =some p->∀j,j<2->(td l)[i*2+j]? =([.pointer (some ⟨p.1,0,none⟩),.pointer (some ⟨p.2,0,none⟩)]:List Value)[j]?
 |[],i,p,h,_,_=>by simp at h
 |y::l,0,p,h,j,hj=>by
  simp at h;subst h
  match j,hj with
  |0,_=>rfl
  |1,_=>rfl
 |y::l,i+1,p,h,j,hj=>by
  have:=wj (l:=l) (i:=i) (p:=p) (by simpa using h) j hj
  rw[<-this,show(i+1)*2+j=(i*2+j)+2 by omega]
  rfl
theorem QH{Z:Nat->Prop}{n:Int}{tx:List j9}{ti:List j8}(h:iN w L Z lab V tw n tx ti T K H){t:Tw}(ht:tw[i]? =some t)(a:Int)(s:ByteArray):
  ∃(c:Int) (P1:World->Prop),(∀w1 w2,P1 w1->Below w1.heap.size w1 w2->P1 w2)/\(∀W:World,Below w.heap.size w W->Calls prog 42 #[.pointer (some ⟨t.A,0,none⟩),.int .i64 a,.string s] W λe w1=>e=.returned (.int .i64 c)/\P1 w1/\Fr (λb _=>lab b≠.no) W w1)/\∀w1,P1 w1->Calls prog 69 #[.pointer (some ⟨t.B,0,none⟩),.int .i64 a,.string s] w1 λe w2=>e=.returned (.int .i64 c)/\aH L Z tw.length (T+1) (K+1) (H+1) w w2/\Fr (λb _=>lab b≠.no) w1 w2:=by
 have hok:=h.at_.ok t (List.mem_of_getElem? ht)
 have tY:=(h.at_.at_ i t ht).ok
 have refuse:∀c:Int,(∀W:World,Below w.heap.size w W->Calls prog 42 #[.pointer (some ⟨t.A,0,none⟩),.int .i64 a,.string s] W λe w1=>e=.returned (.int .i64 c)/\w1=W)->(∀W:World,Below w.heap.size w W->Calls prog 69 #[.pointer (some ⟨t.B,0,none⟩),.int .i64 a,.string s] W λe w1=>e=.returned (.int .i64 c)/\w1=W)->_:=λc h1 h2=>
  (⟨c,λw1=>Below w.heap.size w w1,λw1 w2 h3 h4=>h3.trans (h4.mono h3.size),λW hW=>(h1 W hW).mono λe w1 ⟨he,hw⟩=>⟨he,by rw[hw];exact hW,by rw[hw];exact Fr.refl _ _⟩,λw1 hb=>(h2 w1 hb).mono λe w2 ⟨he,hw⟩=>⟨he,by rw[hw];exact h.same hb (by omega) (by omega),by rw[hw];exact Fr.refl _ _⟩⟩:∃(c:Int) (P1:World->Prop),(∀w1 w2,P1 w1->Below w1.heap.size w1 w2->P1 w2)/\(∀W:World,Below w.heap.size w W->Calls prog 42 #[.pointer (some ⟨t.A,0,none⟩),.int .i64 a,.string s] W λe w1=>e=.returned (.int .i64 c)/\P1 w1/\Fr (λb _=>lab b≠.no) W w1)/\∀w1,P1 w1->Calls prog 69 #[.pointer (some ⟨t.B,0,none⟩),.int .i64 a,.string s] w1 λe w2=>e=.returned (.int .i64 c)/\aH L Z tw.length (T+1) (K+1) (H+1) w w2/\Fr (λb _=>lab b≠.no) w1 w2)
 by_cases hr:0<=a/\a<4
 ·obtain⟨k,rfl⟩:=Int.eq_ofNat_of_zero_le hr.1
  have hk:k<4:=by omega
  have hq:(t.R.ss k).q.length=ct (t.a.ss k):=lp hok.rel hk
  have hw6:=(tY.ss k hk).w
  by_cases h6:ct (t.a.ss k)=6
  ·exact refuse 3 (λW hW=>Ae ((h.at_.at_ i t ht).below hW) hk s h6) (λW hW=>Eg ((h.at_.rf i t ht).below hW) hk s (by omega))
  ·by_cases hs:s.size<=200
   ·refine⟨0,λw1=>cI t.A (λb=>lab b=.x i) (jf t.a k s) w w1,λw1 w2 h1 h2=>h1.Sa h2,λW hW=>?_,λw1 h1=>?_⟩
    ·refine(Ph ((h.at_.at_ i t ht).below hW) hk s hs (by omega)).mono ?_
     rintro e w1 ⟨he,h1⟩
     have h1':=h1
     obtain⟨Z',_,_,hf⟩:=h1'
     exact⟨he,.ahead hW h1,hf.mono λb _ e=>by rw[e];intro x;cases x⟩
    ·have hR:cS w1 t.B (λb=>lab b=.r i) t.R:=(h.at_.rf i t ht).beside (λb e e2=>by rw[e]at e2;cases e2) h1
     refine(Le hR hk s hs (by omega)).mono ?_
     rintro e w2 ⟨he,h2⟩
     have h2':=h2
     obtain⟨Z',_,_,hf⟩:=h2'
     exact⟨he,h.stepped ht h1 h2 ((hok.send hk s).mono (by omega) aM) (by omega) (by omega),hf.mono λb _ e=>by rw[e];intro x;cases x⟩
   ·exact refuse 1 (λW hW=>Af ((h.at_.at_ i t ht).below hW) hk s (by omega) (by omega)) (λW hW=>Eh ((h.at_.rf i t ht).below hW) hk s (by omega) (by omega))
 ·exact refuse 2 (λW _=>Ag t.A a s W hr) (λW _=>NI t.B a (AA hr) s W)
theorem Qu{Z:Nat->Prop}{n:Int}{tx:List j9}{ti:List j8}(h:iN w L Z lab V tw n tx ti T K H)(hT:T<4611686018427387904)(hK:K<=3999990){t:Tw}(ht:tw[i]? =some t)(a:Int):
  ∃(b:Bool) (c:Int) (P1:World->Prop),(∀W:World,Below w.heap.size w W->Calls prog 43 #[.pointer (some ⟨t.A,0,none⟩),.int .i64 a] W λe w1=>e=.returned (.tuple #[.bool b,.int .i64 c])/\P1 w1/\Fr (λb _=>lab b≠.no) W w1)/\∀w1,P1 w1->Calls prog 70 #[.pointer (some ⟨t.B,0,none⟩),.int .i64 a] w1 λe w2=>e=.returned (.tuple #[.bool b,.int .i64 c])/\aH L Z tw.length (T+1) K (H+1) w w2:=by
 have hok:=h.at_.ok t (List.mem_of_getElem? ht)
 have tY:=(h.at_.at_ i t ht).ok
 by_cases hr:0<=a/\a<4
 ·obtain⟨k,rfl⟩:=Int.eq_ofNat_of_zero_le hr.1
  have hk:k<4:=by omega
  obtain⟨hp1,jy⟩:=hok.pick tY hT hk
  refine⟨(fF t.a k).1,0,λw1=>cI t.A (λb=>lab b=.x i) (fF t.a k).2 w w1,λW hW=>?_,λw1 h1=>?_⟩
  ·refine(Pc ((h.at_.at_ i t ht).below hW) hk (by have:=hok.few k hk;omega)).mono ?_
   rintro e w1 ⟨he,h1⟩
   have h1':=h1
   obtain⟨Z',_,_,hf⟩:=h1'
   exact⟨he,.ahead hW h1,hf.mono λb _ e=>by rw[e];intro x;cases x⟩
  ·have hR:cS w1 t.B (λb=>lab b=.r i) t.R:=(h.at_.rf i t ht).beside (λb e e2=>by rw[e]at e2;cases e2) h1
   refine(Ld hR (FK hok.rel tY) hk (NN hok.rel tY hk)).mono ?_
   rintro e w2 ⟨he,h2⟩
   exact⟨by rw[he,hp1],h.stepped ht h1 h2 jy (by omega) aM⟩
 ·refine⟨false,2,λw1=>Below w.heap.size w w1,λW hW=>?_,λw1 hb=>?_⟩
  ·exact(Ac t.A a W hr).mono λe w1 ⟨he,hw⟩=>⟨he,by rw[hw];exact hW,by rw[hw];exact Fr.refl _ _⟩
  ·exact(NH t.B a (AA hr) w1).mono λe w2 ⟨he,hw⟩=>⟨he,by rw[hw];exact h.same hb (by omega) aM⟩
variable {k K' H':Nat} {T':Int} {w':World}
theorem aH.mono{Z:Nat->Prop}(h:aH L Z k T K H w w')(hT:T<=T')(hK:K<=K')(hH:H<=H'):aH L Z k T' K' H' w w':=by
 obtain⟨tw,h1,h2⟩:=h
 exact⟨tw,h1.mono hT hK hH,h2⟩
structure eW where
 k:Int
 on:Int
 a:Int
 s:ByteArray
def eW.v(o:eW):Value:=.agg #[.int .i64 o.k,.int .i64 o.on,.int .i64 o.a,.string o.s]
def eW.ok(o:eW):Prop:=(-9223372036854775808<=o.on/\o.on<=9223372036854775807)
def eW.sends(o:eW):Nat:=if o.k=2 then 1 else 0
def eW.news(o:eW):Nat:=if o.k=1/\0<=o.a/\o.a<=8 then 1 else 0
theorem JP{Z:Nat->Prop}(h:jr w L Z tw T K H)(UT:0<=T)(hT:T<4611686018427387904)(hK:K<=3999990)(hH:H<=1000000000000)(hl:tw.length<=1000000000000)(o:eW)(ho:o.ok):
  Calls prog 39 #[.pointer (some ⟨L,0,none⟩),o.v] w λe w'=>e=.returned (.bool true)/\aH L Z (tw.length+o.news) (T+1) (K+o.sends) (H+1) w w':=by
 obtain⟨lab,V,n,tx,ti,h1,hz,h2,h3,h4,h5⟩:=h
 have h:iN w L Z lab V tw n tx ti T K H:=⟨h1,hz,h2,h3,h4,h5⟩
 clear h1 hz h2 h3 h4 h5
 obtain⟨kd,on,a,s⟩:=o
 obtain⟨ho1,ho2⟩:=ho
 dsimp only at ho1 ho2
 unfold eW.v eW.news eW.sends
 dsimp only
 by_cases hk1:kd=1
 ·subst hk1
  refine JQ L on a s w _ (λW hW=>?_)
  by_cases ha:0<=a/\a<=8
  ·rw[if_pos ⟨rfl,ha⟩]
   refine(Lu (h.below hW) UT hl a ha.1 ha.2).mono ?_
   rintro e w' ⟨he,hs⟩
   exact⟨he,(hs.ahead hW).mono (by omega) (by omega) aM⟩
  ·rw[if_neg (λe=>ha e.2)]
   have hN:Calls prog 41 #[.int .i64 a] W λe w1=>e=.returned (.tuple #[.pointer none,.int .i64 1])/\Below W.heap.size W w1:=by
    by_cases h0:a<0
    ·exact(Pb a W h0).mono λe w1 ⟨he,hw⟩=>⟨he,by rw[hw];exact bK⟩
    ·exact(K8 a W h0 (by omega)).mono λe w1 ⟨he,hw⟩=>⟨he,by rw[hw];exact bK⟩
   refine(Lv L a W hN (λw1=>Qz a (by omega) w1)).mono ?_
   rintro e w' ⟨he,hb⟩
   exact⟨he,h.same (hW.trans (hb.mono hW.size)) (by omega) (by omega)⟩
 ·rw[if_neg (λe=>hk1 e.1)]
  show Calls prog 39 _ w λe w'=>e=.returned (.bool true)/\aH L Z tw.length (T+1) (K+if kd=2 then 1 else 0) (H+1) w w'
  have hrow:=h.at_.rows.rA
  have hc0:=h.at_.rows.cA
  rw[List.length_map]at hrow
  by_cases hl0:tw.length=0
  ·rw[hl0]at hrow
   obtain⟨va,vc,hv,_,_⟩:=hrow.form
   rw[hv]at hc0
   refine(FA L kd on a hk1 s va vc w hc0).mono ?_
   rintro e w' ⟨he,hb⟩
   exact⟨he,h.same hb (by omega) (by omega)⟩
  ·obtain⟨va,vc,hv,_,hg⟩:=hrow.form
   obtain⟨g,off,rfl,_⟩:=hg (by omega)
   rw[hv]at hc0 hrow
   have Kw:=AK on (tw.length:Int) (by omega)
   obtain⟨i,hi⟩:=Int.eq_ofNat_of_zero_le Kw.1
   have hil:i<tw.length:=by have:=Kw.2;omega
   obtain⟨t,ht⟩:∃t,tw[i]? =some t:=⟨tw[i],List.getElem?_eq_getElem hil⟩
   have S0:(tw.map QK)[i]? =some (t.A,t.B):=by rw[List.getElem?_map,ht];rfl
   have cx:w.cell? ⟨g,off+i*2,none⟩=some (.pointer (some ⟨t.A,0,none⟩)):=(hrow.cell (j:=i*2+0) (by omega)).trans (wj S0 0 (by omega))
   have cr:w.cell? ⟨g,off+i*2+1,none⟩=some (.pointer (some ⟨t.B,0,none⟩)):=(hrow.cell (j:=i*2+1) (by omega)).trans (wj S0 1 (by omega))
   have hok:=h.at_.ok t (List.mem_of_getElem? ht)
   have tY:=(h.at_.at_ i t ht).ok
   refine FB L g off tw.length vc i t.A t.B kd on a hk1 s (by omega) hil w hc0 cx cr (λW=>?_) (λb _=>lab b≠.no) (λb _ e=>(h.at_.lt b e).2) (aH L Z tw.length (T+1) (K+if kd=2 then 1 else 0) (H+1) w) (λw1 w2 h1 h2=>h1.below h2) (λe=>?_) (λe=>?_) (λe W hW=>?_) (λe=>?_) (λe W hW=>?_) (λe=>h.same bK (by omega) (by omega))
   ·have:=Jz on (tw.length:Int) ho1 ho2 (by omega) (by omega) W
    rw[hi]at this
    exact this
   ·rw[if_pos e];exact QH h ht a s
   ·rw[if_neg (by omega)];exact Qu h hT hK ht a
   ·rw[if_neg (by omega)]
    refine(Eo (h.below hW) hK hH ht a).mono ?_
    rintro e w' ⟨he,hs⟩
    exact⟨he,(hs.ahead hW).mono (by omega) aM aM⟩
   ·refine⟨(t.a.g.fs.length:Int),t.a.g.lk,(zP t.a:Int),λW hW=>O_ ((h.at_.at_ i t ht).below hW) (by have:=Su tY.g.fs;omega),λW hW=>?_⟩
    have:=Lc ((h.at_.rf i t ht).below hW) (FK hok.rel tY)
    rw[QB hok.rel,hok.rel.all.length_eq,show decide (0<=t.R.lock)=t.a.g.lk by
     cases hlk:t.a.g.lk with
     |true=>exact decide_eq_true (hok.rel.lock.2 hlk)
     |false=>exact decide_eq_false (λe=>by have:=hok.rel.lock.1 e;rw[hlk]at this;cases this)]at this
    exact this
   ·rw[if_neg (by omega)]
    refine(Qc (h.below hW) hH ht a).mono ?_
    rintro e w' ⟨he,hs⟩
    exact⟨he,(hs.ahead hW).mono (by omega) aM aM⟩
variable {w1:World}
theorem aH.fr{Z:Nat->Prop}(h:aH L Z k T K H w w1):Fr (λb _=>Z b) w w1:=by
 obtain⟨tw,⟨Z1,h1,h2,h3⟩,hl⟩:=h
 exact h3
theorem aH.len{Z:Nat->Prop}(h:aH L Z k T K H w w1):∃a c,w1.cell? ⟨L,0,none⟩=some (.slice a k c):=by
 obtain⟨tw,⟨Z1,⟨lab,V,n,tx,ti,g1,_⟩,h2,h3⟩,rfl⟩:=h
 have hr:=g1.rows.rA
 rw[List.length_map]at hr
 obtain⟨a,c,hv,_,_⟩:=hr.form
 exact⟨a,c,by rw[<-hv];exact g1.rows.cA⟩
variable {w0:World}
theorem iJ{Z:Nat->Prop}{nw c k:Nat}(h:aH L Z nw (c:Int) k c w0 w1)(hc:c<=1000000000000)(hk:k<=3999990)(hn:nw<=1000000000000)(o:eW)(ho:o.ok):
  Calls prog 39 #[.pointer (some ⟨L,0,none⟩),o.v] w1 λe w2=>e=.returned (.bool true)/\aH L Z (nw+o.news) ((c+1:Nat):Int) (k+o.sends) (c+1) w0 w2:=by
 have h':=h
 obtain⟨tw,⟨Z1,h1,h2,h3⟩,hl⟩:=h'
 refine(JP h1 (by omega) (by omega) hk hc (by omega) o ho).mono ?_
 rintro e w2 ⟨he,hs⟩
 refine⟨he,?_⟩
 obtain⟨tw2,⟨Z2,g1,g2,g3⟩,gl⟩:=hs
 have hsz:=h3.size
 exact⟨tw2,⟨Z2,by rw[show((c+1:Nat):Int)=(c:Int)+1 by omega];exact g1,λb e=>(g2 b e).elim (h2 b) (λe=> .inr (by omega)),h3.aC g3 (λb i hb e=>(h2 b e).resolve_right (by omega))⟩,by rw[gl,hl]⟩
theorem E5{Z:Nat->Prop}{nw c k:Nat}(h:aH L Z nw (c:Int) k c w0 w1)(hc:c<=1000000000000):
  Calls prog 40 #[.pointer (some ⟨L,0,none⟩)] w1 λe w2=>e=.returned (.bool true)/\aH L Z nw (c:Int) k c w0 w2:=by
 have h':=h
 obtain⟨tw,⟨Z1,⟨lab,V,n,tx,ti,g1,g2,g3,g4,g5,g6⟩,h2,h3⟩,hl⟩:=h'
 refine(Ji L lab V _ n tx ti (by omega) (by omega) w1 g1.rows g1.tx g1.ti).mono ?_
 rintro e w2 ⟨he,hb⟩
 exact⟨he,h.below hb⟩
theorem Jv(w:World)(g:Gl w):aH w.heap.size (λb=>b=w.heap.size) 0 ((0:Nat):Int) 0 0 (w.alloc (.cells #[.slice none 0 0,.int .i64 0,.slice none 0 0,.slice none 0 0,.slice none 0 0,.slice none 0 0] 104)) (w.alloc (.cells #[.slice none 0 0,.int .i64 0,.slice none 0 0,.slice none 0 0,.slice none 0 0,.slice none 0 0] 104)):=by
 have hc:∀i u,(#[Value.slice none 0 0,.int .i64 0,.slice none 0 0,.slice none 0 0,.slice none 0 0,.slice none 0 0]:Array Value)[i]? =some u->(w.alloc (.cells #[.slice none 0 0,.int .i64 0,.slice none 0 0,.slice none 0 0,.slice none 0 0,.slice none 0 0] 104)).cell? ⟨w.heap.size,i,none⟩=some u:=λi u hi=>(bG w _ 104 i).trans hi
 have hf:∀i,(w.alloc (.cells #[.slice none 0 0,.int .i64 0,.slice none 0 0,.slice none 0 0,.slice none 0 0,.slice none 0 0] 104)).frozen? ⟨w.heap.size,i,none⟩=false:=λi=>by simp[go_sem]
 have hB:Below w.heap.size w (w.alloc (.cells #[.slice none 0 0,.int .i64 0,.slice none 0 0,.slice none 0 0,.slice none 0 0,.slice none 0 0] 104)):=aU
 have hsz:=g.sz
 have hs1:w.heap.size<(w.alloc (.cells #[.slice none 0 0,.int .i64 0,.slice none 0 0,.slice none 0 0,.slice none 0 0,.slice none 0 0] 104)).heap.size:=by rw[World.size_alloc];omega
 have EZ:∀b,(if b=w.heap.size then Lb.law else .no)≠.no↔b=w.heap.size:=λb=>by
  by_cases e:b=w.heap.size
  ·rw[if_pos e];exact⟨λ_=>e,λ_ x=>by cases x⟩
  ·rw[if_neg e];exact⟨λx=>absurd rfl x,λx=>absurd x e⟩
 refine⟨[],⟨λb=>b=w.heap.size,⟨λb=>if b=w.heap.size then .law else .no,⟨.slice none 0 0,.slice none 0 0,.slice none 0 0,.slice none 0 0,.slice none 0 0⟩,0,[],[],⟨g.below hB hsz,⟨hc 0 _ rfl,hc 1 _ rfl,hc 2 _ rfl,hc 3 _ rfl,hc 4 _ rfl,hc 5 _ rfl,λi _=>hf i,ak.nil _ _ _ _,ak.nil _ _ _ _,ak.nil _ _ _ _,ak.nil _ _ _ _,ak.nil _ _ _ _,if_pos rfl,λb hb=>?_⟩,λb hb=>?_,λi t ht=>by simp at ht,λi t ht=>by simp at ht,λt ht=>(by cases ht),λt ht=>(by cases ht),λt ht=>(by cases ht),λb j e=>?_⟩,λb=>(EZ b).symm,by omega,by omega,aM,aM⟩,λb e=> .inl e,Fr.refl _ _⟩,rfl⟩
 ·rcases hb with e|e|e|e|e<;>cases e
 ·have:=(EZ b).1 hb
  omega
 ·by_cases e1:b=w.heap.size
  ·rw[if_pos e1]at e;rcases e with e|e<;>cases e
  ·rw[if_neg e1]at e;rcases e with e|e<;>cases e
def fR:List eW->List Value
 |[]=>[]
 |o::l=> .int .i64 o.k::.int .i64 o.on::.int .i64 o.a::.string o.s::fR l
theorem su:∀{l:List eW} {i:Nat} {o:eW},l[i]? =some o->∀j,j<4->(fR l)[i*4+j]? =([.int .i64 o.k,.int .i64 o.on,.int .i64 o.a,.string o.s]:List Value)[j]?
 |[],i,o,h,_,_=>by simp at h
 |y::l,0,o,h,j,hj=>by
  simp at h;subst h
  match j,hj with
  |0,_=>rfl
  |1,_=>rfl
  |2,_=>rfl
  |3,_=>rfl
 |y::l,i+1,o,h,j,hj=>by
  have:=su (l:=l) (i:=i) (o:=o) (by simpa using h) j hj
  rw[<-this,show(i+1)*4+j=(i*4+j)+4 by omega]
  rfl
def dY(l:List eW)(i:Nat):Nat:=((l.take i).map eW.sends).sum
def jX(l:List eW)(i:Nat):Nat:=((l.take i).map eW.news).sum
variable {l:List eW}
theorem tM{o:eW}(h:l[i]? =some o):dY l (i+1)=dY l i+o.sends:=by
 unfold dY
 rw[List.take_add_one,h,List.map_append,List.sum_append]
 simp
theorem pU{o:eW}(h:l[i]? =some o):jX l (i+1)=jX l i+o.news:=by
 unfold jX
 rw[List.take_add_one,h,List.map_append,List.sum_append]
 simp
theorem wP(l:List eW):∀i,jX l i<=i
 |0=>by simp[jX]
 |i+1=>by
  have:=wP l i
  cases h:l[i]? with
  |none=>
   have e:l.take (i+1)=l.take i:=by rw[List.take_add_one,h];simp
   show((l.take (i+1)).map eW.news).sum<=i+1
   rw[e]
   exact Nat.le_succ_of_le this
  |some o=>
   rw[pU h]
   have:o.news<=1:=by unfold eW.news;split<;>omega
   omega
theorem zx(l:List eW)(i:Nat):dY l i<=dY l l.length:=by
 have e:=congrArg (λx=>(x.map eW.sends).sum) (List.take_append_drop i l)
 simp only[List.map_append,List.sum_append]at e
 unfold dY
 rw[List.take_length]
 omega
def fu:List eW:=[⟨1,0,2,⟨#[]⟩⟩,⟨2,0,0,⟨#[112,117,116,32,49,32,112,111,105,110,116,32,48,32,51,32,52,48,44,48]⟩⟩,⟨3,0,0,⟨#[]⟩⟩,⟨3,0,0,⟨#[]⟩⟩,⟨3,0,0,⟨#[]⟩⟩,⟨3,0,0,⟨#[]⟩⟩,⟨3,0,0,⟨#[]⟩⟩,⟨3,0,0,⟨#[]⟩⟩,⟨4,0,0,⟨#[]⟩⟩,⟨2,0,1,⟨#[103,101,116,32,48,32,48,32,48]⟩⟩,⟨3,0,1,⟨#[]⟩⟩,⟨3,0,1,⟨#[]⟩⟩,⟨3,0,1,⟨#[]⟩⟩,⟨4,0,1,⟨#[]⟩⟩,⟨5,0,0,⟨#[]⟩⟩,⟨6,0,0,⟨#[]⟩⟩]
theorem M4:∀o∈fu,o.ok/\o.k<=6:=by
 intro o ho
 simp only[fu,List.mem_cons,List.not_mem_nil,or_false]at ho
 rcases ho with rfl|rfl|rfl|rfl|rfl|rfl|rfl|rfl|rfl|rfl|rfl|rfl|rfl|rfl|rfl|rfl<;>exact⟨⟨by decide,by decide⟩,by decide⟩
theorem tA:dY fu 16=2:=by decide
theorem Fh:jX fu 16=1:=by decide
theorem M3(L:Nat)(Z1:Nat->Prop)(tw:List Tw)(w:World)(h1:jr w L Z1 tw ((0:Nat):Int) 0 0)(hl0:tw.length=0):
  Calls prog 38 #[.pointer (some ⟨L,0,none⟩),.int .i64 6] w λe w'=>e=.returned (.bool true)/\aH L Z1 1 ((16:Nat):Int) 2 16 w w':=by
 have pI:=af h1
 have Hl0:=af hl0
 have HZ:Hid (∀b,Z1 b->b<w.heap.size):=λb e=>(h1.lt e).2
 have XL:Hid (∀o∈fu,o.ok/\o.k<=6):=M4
 clear h1 hl0
 go_enter func38,ntmps38
 go_wp2
 obtain⟨W1,hW1⟩:∃x,w.alloc (.cells #[.int .i64 1,.int .i64 0,.int .i64 2,.string ⟨#[]⟩,.int .i64 2,.int .i64 0,.int .i64 0,.string ⟨#[112,117,116,32,49,32,112,111,105,110,116,32,48,32,51,32,52,48,44,48]⟩,.int .i64 3,.int .i64 0,.int .i64 0,.string ⟨#[]⟩,.int .i64 3,.int .i64 0,.int .i64 0,.string ⟨#[]⟩,.int .i64 3,.int .i64 0,.int .i64 0,.string ⟨#[]⟩,.int .i64 3,.int .i64 0,.int .i64 0,.string ⟨#[]⟩,.int .i64 3,.int .i64 0,.int .i64 0,.string ⟨#[]⟩,.int .i64 3,.int .i64 0,.int .i64 0,.string ⟨#[]⟩,.int .i64 4,.int .i64 0,.int .i64 0,.string ⟨#[]⟩,.int .i64 2,.int .i64 0,.int .i64 1,.string ⟨#[103,101,116,32,48,32,48,32,48]⟩,.int .i64 3,.int .i64 0,.int .i64 1,.string ⟨#[]⟩,.int .i64 3,.int .i64 0,.int .i64 1,.string ⟨#[]⟩,.int .i64 3,.int .i64 0,.int .i64 1,.string ⟨#[]⟩,.int .i64 4,.int .i64 0,.int .i64 1,.string ⟨#[]⟩,.int .i64 5,.int .i64 0,.int .i64 0,.string ⟨#[]⟩,.int .i64 6,.int .i64 0,.int .i64 0,.string ⟨#[]⟩] 98)=x:=⟨_,rfl⟩
 have HC:Hid (∀(j:Nat) u,(fR fu)[j]? =some u->W1.cell? ⟨w.heap.size,j,none⟩=some u):=λj u hj=>by
  rw[<-hW1]
  refine(bG w _ 98 j).trans ?_
  show(fR fu).toArray[j]? =some u
  rw[List.getElem?_toArray]
  exact hj
 have eO:Hid (Below w.heap.size w W1):=by rw[<-hW1];exact aU
 have hsz:w.heap.size<W1.heap.size:=by rw[<-hW1,World.size_alloc];omega
 rw[hW1]
 clear hW1
 have rI:Hid (aH L Z1 0 ((0:Nat):Int) 0 0 W1 W1):=⟨tw,.same (pI.out.below eO.out) bK,Hl0.out⟩
 go_loopw [6] (λiv wr=>∃i:Nat,i<=16/\iv=.int .i64 (i:Int)/\aH L Z1 (jX fu i) (i:Int) (dY fu i) i W1 wr) (λiv _=>16-(intOf iv).toNat)
 case atStart=>exact⟨0,by omega,rfl,rI.out⟩
 case round=>
  obtain⟨i,hi,rfl,hS⟩:=hrel
  have A_:=af hS
  by_cases hlt:i<16
  ·obtain⟨o,ho⟩:∃o,fu[i]? =some o:=⟨fu[i]'hlt,List.getElem?_eq_getElem _⟩
   have hcc:∀j,j<4->wr.cell? ⟨w.heap.size,i*4+j,none⟩=([.int .i64 o.k,.int .i64 o.on,.int .i64 o.a,.string o.s]:List Value)[j]? :=λj hj=>by
    rw[hS.fr.cell w.heap.size _ hsz (λe=>by have:=HZ.out _ e;omega)]
    have e1:=su ho j hj
    match j,hj with
    |0,_=>exact HC.out _ _ e1
    |1,_=>exact HC.out _ _ e1
    |2,_=>exact HC.out _ _ e1
    |3,_=>exact HC.out _ _ e1
   have z0:wr.cell? ⟨w.heap.size,i*4,none⟩=some (.int .i64 o.k):=hcc 0 (by omega)
   have z1:wr.cell? ⟨w.heap.size,i*4+1,none⟩=some (.int .i64 o.on):=hcc 1 (by omega)
   have z2:wr.cell? ⟨w.heap.size,i*4+2,none⟩=some (.int .i64 o.a):=hcc 2 (by omega)
   have z3:wr.cell? ⟨w.heap.size,i*4+3,none⟩=some (.string o.s):=hcc 3 (by omega)
   obtain⟨hok,Jh⟩:=XL.out o (List.mem_of_getElem? ho)
   have HP:Hid (Calls prog 39 #[.pointer (some ⟨L,0,none⟩),o.v] wr λe w2=>e=.returned (.bool true)/\aH L Z1 (jX fu (i+1)) ((i+1:Nat):Int) (dY fu (i+1)) (i+1) W1 w2):=by
    rw[pU ho,tM ho]
    have b1:=wP fu i
    have b2:=zx fu i
    have b3:dY fu fu.length=2:=tA
    exact iJ hS (by omega) (by omega) (by omega) o hok
   obtain⟨k,on,a,s⟩:=o
   dsimp only at z0 z1 z2 z3 Jh
   unfold eW.v at HP
   dsimp only at HP
   have xU:(i:Int)<16:=by omega
   have eH:¬(i:Int)<0:=by omega
   clear hS hcc ho hok
   go_wp2_with (go_at_call 39;refine aq HP.out ?_;rintro e w2 ⟨rfl,hs2⟩;dsimp only;have zZ:=af hs2;clear hs2)
   go_roundw
   case rel=>exact⟨i+1,by omega,by go_num,zZ.out⟩
   case measure=>simp[intOf];omega
  ·have xU:¬(i:Int)<16:=by omega
   obtain rfl:i=16:=by omega
   rw[Fh,tA]at A_
   obtain⟨va,vc,cA⟩:=A_.out.len
   clear hS
   go_wp2
   go_ret
   exact⟨rfl,A_.out.ahead eO.out⟩
theorem Fi{Z:Nat->Prop}(h:aH L Z 0 ((0:Nat):Int) 0 0 w0 w):
  Calls prog 38 #[.pointer (some ⟨L,0,none⟩),.int .i64 6] w λe w'=>e=.returned (.bool true)/\aH L Z 1 ((16:Nat):Int) 2 16 w0 w':=by
 obtain⟨tw,⟨Z1,h1,h2,h3⟩,hl⟩:=h
 refine(M3 L Z1 tw w h1 hl).mono ?_
 rintro e w' ⟨he,tw2,⟨Z2,g1,g2,g3⟩,gl⟩
 have hs:=h3.size
 exact⟨he,tw2,⟨Z2,g1,λb e=>(g2 b e).elim (h2 b) (λe=> .inr (by omega)),h3.aC g3 (λb i hb e=>(h2 b e).resolve_right (by omega))⟩,gl⟩
def yD(w:World)(a:Option Addr)(l:List eW):Prop:=l=[]\/∃g off,a=some ⟨g,off,none⟩/\g<w.heap.size/\∀(i:Nat) o,l[i]? =some o->w.cell? ⟨g,off+i*4,none⟩=some (.int .i64 o.k)/\w.cell? ⟨g,off+i*4+1,none⟩=some (.int .i64 o.on)/\w.cell? ⟨g,off+i*4+2,none⟩=some (.int .i64 o.a)/\w.cell? ⟨g,off+i*4+3,none⟩=some (.string o.s)
theorem Nk{o:eW}(h:¬o.k<=6):o.news=0/\o.sends=0:=by
 unfold eW.news eW.sends
 rw[if_neg (λe=>by have:=e.1;omega),if_neg (by omega)]
 exact⟨rfl,rfl⟩
theorem G0(sa:Option Addr)(sc:Nat)(ops:List eW)(hn:ops.length<=100000000)(hs:dY ops ops.length<=3000000)(hok:∀o∈ops,o.ok)(w:World)(g:Gl w)(_hsc:ops.length<=sc)(hA:yD w sa ops):
  Calls prog 15 #[.slice sa ops.length sc,.int .i64 6] w λe w'=>e=.returned (.bool true)/\Below w.heap.size w w':=by
 have XL:=af hok
 have HA:=af hA
 obtain⟨W1,hW1⟩:∃x,w.alloc (.cells #[.slice none 0 0,.int .i64 0,.slice none 0 0,.slice none 0 0,.slice none 0 0,.slice none 0 0] 104)=x:=⟨_,rfl⟩
 have WI:Hid (aH w.heap.size (λb=>b=w.heap.size) 0 ((0:Nat):Int) 0 0 W1 W1):=by rw[<-hW1];exact Jv w g
 have eO:Hid (Below w.heap.size w W1):=by rw[<-hW1];exact aU
 have KO:=af hW1
 have XA:Hid (∀{nw c k:Nat} {W:World},aH w.heap.size (λb=>b=w.heap.size) nw (c:Int) k c W1 W->Below w.heap.size w W):=λh=>by
  have:=h.fr
  exact eO.out.trans (this.below eO.out.size (λb i hb e=>by have e':b=w.heap.size:=e;omega))
 obtain⟨n,hnn⟩:∃n,ops.length=n:=⟨_,rfl⟩
 have Hn:=af hnn
 rw[hnn]at hn _hsc⊢
 have HSd:Hid (∀i,dY ops i<=3000000):=λi=>Nat.le_trans (zx ops i) hs
 have HNw:Hid (∀i,jX ops i<=i):=wP ops
 clear hok hA g hs hW1 hnn
 go_enter func15,ntmps15
 go_wp2_with (go_at_call 38;refine aq (Fi (by rw[KO.out];exact WI.out)) ?_;rintro e w2 ⟨rfl,hs2⟩;dsimp only;have zZ:=af hs2;clear hs2)
 go_loopw [6,7] (λNj iv wr=>∃i:Nat,i<=n/\Nj=.bool true/\iv=.int .i64 (i:Int)/\aH w.heap.size (λb=>b=w.heap.size) (1+jX ops i) ((16+i:Nat):Int) (2+dY ops i) (16+i) W1 wr) (λ_ iv _=>n-(intOf iv).toNat)
 case atStart=>exact⟨0,by omega,rfl,rfl,zZ.out⟩
 case round=>
  obtain⟨i,hi,rfl,rfl,hS⟩:=hrel
  have A_:=af hS
  by_cases hlt:i<n
  ·obtain⟨o,ho⟩:∃o,ops[i]? =some o:=⟨ops[i]'(by rw[Hn.out];exact hlt),List.getElem?_eq_getElem _⟩
   obtain⟨gb,off,rfl,hg,hc⟩:=HA.out.resolve_left (λe=>by rw[e]at ho;simp at ho)
   obtain⟨y0,y1,y2,y3⟩:=hc i o ho
   have hcc:∀j,wr.cell? ⟨gb,j,none⟩=w.cell? ⟨gb,j,none⟩:=λj=>(hS.fr.cell gb j (Nat.lt_of_lt_of_le hg eO.out.size) (λe=>by have e':gb=w.heap.size:=e;omega)).trans (eO.out.cell (p:=⟨gb,j,none⟩) hg)
   have z0:=(hcc _).trans y0
   have z1:=(hcc _).trans y1
   have z2:=(hcc _).trans y2
   have z3:=(hcc _).trans y3
   have hok:=XL.out o (List.mem_of_getElem? ho)
   have b1:=HSd.out i
   have b2:=HNw.out i
   have xU:(i:Int)<(n:Int):=by omega
   have eH:¬(i:Int)<0:=by omega
   have WG:Hid (∀W:World,aH w.heap.size (λb=>b=w.heap.size) (1+jX ops i+o.news) ((16+i+1:Nat):Int) (2+dY ops i+o.sends) (16+i+1) W1 W->Calls prog 40 #[.pointer (some ⟨w.heap.size,0,none⟩)] W λe w3=>e=.returned (.bool true)/\aH w.heap.size (λb=>b=w.heap.size) (1+jX ops (i+1)) ((16+(i+1):Nat):Int) (2+dY ops (i+1)) (16+(i+1)) W1 w3):=λW hW=>by
    rw[pU ho,tM ho,<-Nat.add_assoc,<-Nat.add_assoc,<-Nat.add_assoc]
    exact E5 hW (by omega)
   by_cases Jh:o.k<=6
   ·have HP:Hid (Calls prog 39 #[.pointer (some ⟨w.heap.size,0,none⟩),o.v] wr λe w2=>e=.returned (.bool true)/\aH w.heap.size (λb=>b=w.heap.size) (1+jX ops i+o.news) ((16+i+1:Nat):Int) (2+dY ops i+o.sends) (16+i+1) W1 w2):=iJ hS (by omega) (by omega) (by omega) o hok
    obtain⟨k,on,a,s⟩:=o
    dsimp only at z0 z1 z2 z3 Jh
    unfold eW.v at HP
    dsimp only at HP
    clear hS hcc ho hok y0 y1 y2 y3 hc
    go_wp2_with (first
     |(go_at_call 39;refine aq HP.out ?_;rintro e w3 ⟨rfl,hs3⟩;dsimp only;have oH:=af hs3;clear hs3)
     |(go_at_call 40;refine aq (WG.out _ oH.out) ?_;rintro e w4 ⟨rfl,mJ⟩;dsimp only;have Gd:=af mJ;clear mJ))
    go_roundw
    case rel=>exact⟨i+1,by omega,rfl,by go_num,Gd.out⟩
    case measure=>simp[intOf];omega
   ·have oH:Hid (aH w.heap.size (λb=>b=w.heap.size) (1+jX ops i+o.news) ((16+i+1:Nat):Int) (2+dY ops i+o.sends) (16+i+1) W1 wr):=by
     rw[(Nk Jh).1,(Nk Jh).2]
     exact hS.mono (by omega) aM (by omega)
    obtain⟨k,on,a,s⟩:=o
    dsimp only at z0 z1 z2 z3 Jh
    have hk7:¬k<=6:=Jh
    clear hS hcc ho hok y0 y1 y2 y3 hc Jh
    go_wp2_with (go_at_call 40;refine aq (WG.out _ oH.out) ?_;rintro e w4 ⟨rfl,mJ⟩;dsimp only;have Gd:=af mJ;clear mJ)
    go_roundw
    case rel=>exact⟨i+1,by omega,rfl,by go_num,Gd.out⟩
    case measure=>simp[intOf];omega
  ·have xU:¬(i:Int)<(n:Int):=by omega
   have b1:=HSd.out i
   have b2:=HNw.out i
   obtain⟨N,hN⟩:∃N,1+jX ops i=N:=⟨_,rfl⟩
   obtain⟨K,hK⟩:∃K,2+dY ops i=K:=⟨_,rfl⟩
   obtain⟨C,hC⟩:∃C,16+i=C:=⟨_,rfl⟩
   have hN2:N<=100000001:=by omega
   have hK2:K<=3000002:=by omega
   have hC2:C<=100000016:=by omega
   rw[hN,hK,hC]at A_
   clear hS b1 b2 hN hK hC
   go_wp2
   go_loopw [6,8] (λNj iv wr=>∃q:Nat,q<=N/\Nj=.bool true/\iv=.int .i64 (q:Int)/\aH w.heap.size (λb=>b=w.heap.size) N ((C+777*q:Nat):Int) K (C+777*q) W1 wr) (λ_ iv _=>N-(intOf iv).toNat)
   case atStart=>exact⟨0,by omega,rfl,rfl,A_.out⟩
   case round=>
    obtain⟨q,hq,rfl,rfl,hS⟩:=hrel
    have Ko:=af hS
    obtain⟨va,vc,cA⟩:=hS.len
    by_cases Rs:q<N
    ·have DW:(q:Int)<(N:Int):=by omega
     clear hS
     go_wp2
     go_loopw [6,9] (λNj iv wr=>∃j:Nat,j<=768/\Nj=.bool true/\iv=.int .i64 (j:Int)/\aH w.heap.size (λb=>b=w.heap.size) N ((C+777*q+j:Nat):Int) K (C+777*q+j) W1 wr) (λ_ iv _=>768-(intOf iv).toNat)
     case atStart=>exact⟨0,by omega,rfl,rfl,Ko.out⟩
     case round=>
      clear cA
      obtain⟨j,hj,rfl,rfl,hS⟩:=hrel
      have HSj:=af hS
      by_cases hjl:j<768
      ·have Rm:(j:Int)<768:=by omega
       have HP:Hid (Calls prog 39 #[.pointer (some ⟨w.heap.size,0,none⟩),.agg #[.int .i64 3,.int .i64 (q:Int),.int .i64 ((j:Int)%4),.string ⟨#[]⟩]] wr λe w2=>e=.returned (.bool true)/\aH w.heap.size (λb=>b=w.heap.size) N ((C+777*q+(j+1):Nat):Int) K (C+777*q+(j+1)) W1 w2):=iJ hS (by omega) (by omega) (by omega) ⟨3,(q:Int),(j:Int)%4,⟨#[]⟩⟩ ⟨by dsimp only;omega,by dsimp only;omega⟩
       have hmod:(j:Int).tmod 4=(j:Int)%4:=Int.tmod_eq_emod_of_nonneg (by omega)
       clear hS
       go_wp2_with (go_at_call 39;refine aq HP.out ?_;rintro e w3 ⟨rfl,hs3⟩;dsimp only;have oH:=af hs3;clear hs3)
       go_roundw
       case rel=>exact⟨j+1,by omega,rfl,by go_num,oH.out⟩
       case measure=>simp[intOf];omega
      ·have Rm:¬(j:Int)<768:=by omega
       obtain rfl:j=768:=by omega
       clear hS
       go_wp2
       go_loopw [6,10] (λNj iv wr=>∃p:Nat,p<=4/\Nj=.bool true/\iv=.int .i64 (p:Int)/\aH w.heap.size (λb=>b=w.heap.size) N ((C+777*q+768+2*p:Nat):Int) K (C+777*q+768+2*p) W1 wr) (λ_ iv _=>4-(intOf iv).toNat)
       case atStart=>exact⟨0,by omega,rfl,rfl,HSj.out⟩
       case round=>
        obtain⟨p,hp,rfl,rfl,hS⟩:=hrel
        have mO:=af hS
        by_cases hpl:p<4
        ·have hpI:(p:Int)<4:=by omega
         have HP:Hid (Calls prog 39 #[.pointer (some ⟨w.heap.size,0,none⟩),.agg #[.int .i64 4,.int .i64 (q:Int),.int .i64 (p:Int),.string ⟨#[]⟩]] wr λe w2=>e=.returned (.bool true)/\aH w.heap.size (λb=>b=w.heap.size) N ((C+777*q+768+2*p+1:Nat):Int) K (C+777*q+768+2*p+1) W1 w2):=iJ hS (by omega) (by omega) (by omega) ⟨4,(q:Int),(p:Int),⟨#[]⟩⟩ ⟨by dsimp only;omega,by dsimp only;omega⟩
         have D7:Hid (∀W:World,aH w.heap.size (λb=>b=w.heap.size) N ((C+777*q+768+2*p+1:Nat):Int) K (C+777*q+768+2*p+1) W1 W->Calls prog 39 #[.pointer (some ⟨w.heap.size,0,none⟩),.agg #[.int .i64 6,.int .i64 (q:Int),.int .i64 (p:Int),.string ⟨#[]⟩]] W λe w2=>e=.returned (.bool true)/\aH w.heap.size (λb=>b=w.heap.size) N ((C+777*q+768+2*(p+1):Nat):Int) K (C+777*q+768+2*(p+1)) W1 w2):=λW hW=>iJ hW (by omega) (by omega) (by omega) ⟨6,(q:Int),(p:Int),⟨#[]⟩⟩ ⟨by dsimp only;omega,by dsimp only;omega⟩
         clear hS
         go_wp2_with (first
          |(go_at_call_of 39 (Value.agg #[.int .i64 4,.int .i64 (q:Int),.int .i64 (p:Int),.string ⟨#[]⟩]);refine aq HP.out ?_;rintro e w3 ⟨rfl,hs3⟩;dsimp only;have oH:=af hs3;clear hs3)
          |(go_at_call 39;refine aq (D7.out _ oH.out) ?_;rintro e w4 ⟨rfl,mJ⟩;dsimp only;have Gd:=af mJ;clear mJ))
         go_roundw
         case rel=>exact⟨p+1,by omega,rfl,by go_num,Gd.out⟩
         case measure=>simp[intOf];omega
        ·have hpI:¬(p:Int)<4:=by omega
         obtain rfl:p=4:=by omega
         have HP:Hid (Calls prog 39 #[.pointer (some ⟨w.heap.size,0,none⟩),.agg #[.int .i64 5,.int .i64 (q:Int),.int .i64 0,.string ⟨#[]⟩]] wr λe w2=>e=.returned (.bool true)/\aH w.heap.size (λb=>b=w.heap.size) N ((C+777*(q+1):Nat):Int) K (C+777*(q+1)) W1 w2):=iJ hS (by omega) (by omega) (by omega) ⟨5,(q:Int),0,⟨#[]⟩⟩ ⟨by dsimp only;omega,by dsimp only;omega⟩
         clear hS
         go_wp2_with (go_at_call 39;refine aq HP.out ?_;rintro e w3 ⟨rfl,hs3⟩;dsimp only;have oH:=af hs3;clear hs3)
         go_roundw
         case rel=>exact⟨q+1,by omega,rfl,by go_num,oH.out⟩
         case measure=>simp[intOf];omega
    ·have DW:¬(q:Int)<(N:Int):=by omega
     clear hS
     go_wp2
     go_ret
     exact⟨rfl,XA.out Ko.out⟩
end
end Go.Proofs.YtenaepdmlknlcaaGreatDoor
