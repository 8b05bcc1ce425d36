import Derived.Test.YtenaepdmlknlcaaGreatDoorG33
import Derived.Test.YtenaepdmlknlcaaGreatDoorG34
import Derived.Test.YtenaepdmlknlcaaGreatDoorG35
open Go.Proofs.Tryz
set_option maxRecDepth 100000
set_option maxHeartbeats 8000000
namespace Go.Proofs.YtenaepdmlknlcaaGreatDoor
section
open Go.RowKit Go.Shelf
def lX(n:Int)(cs:Nat->Nat)(k j:Nat):Value:=
 if j=0 then .pointer none else if j=1 then .bool false else if j=2 then .int .i64 n
 else if j<11 then(if(j-3)%2=0 then .slice none 0 0 else .int .i64 0)
 else if(j-11)%3=0 then(if(j-11)/3<k then .chan (some (cs ((j-11)/3)))else .chan none)
 else if(j-11)%3=1 then .nilFunc else .slice none 0 0
structure Ab(n:Int)(A:Nat)(w wr:World)(cs:Nat->Nat)(k:Nat):Prop where
 c:∀j,j<23->wr.cell? ⟨A,j,none⟩=some (lX n cs k j)
 f:∀j,wr.frozen? ⟨A,j,none⟩=false
 ch:∀m,m<k->wr.heap[cs m]? =some (.chan 6 #[] false 0 0 false)/\A<cs m/\cs m<wr.heap.size
 up:∀m m',m<m'->m'<k->cs m<cs m'
 b:Below w.heap.size w wr
 lt:A<wr.heap.size
theorem Nb(n:Int)(cs:Nat->Nat)(k m:Nat):lX n cs k (11+m*3)=if m<k then .chan (some (cs m))else .chan none:=by
 unfold lX
 rw[if_neg (by omega),if_neg (by omega),if_neg (by omega),if_neg (by omega),if_pos (by omega),show(11+m*3-11)/3=m by omega]
theorem Nc(n:Int)(cs:Nat->Nat)(k m:Nat):lX n cs k (11+m*3+1)=.nilFunc:=by
 unfold lX
 rw[if_neg (by omega),if_neg (by omega),if_neg (by omega),if_neg (by omega),if_neg (by omega),if_pos (by omega)]
theorem Nd(n:Int)(cs:Nat->Nat)(k m:Nat):lX n cs k (11+m*3+2)=.slice none 0 0:=by
 unfold lX
 rw[if_neg (by omega),if_neg (by omega),if_neg (by omega),if_neg (by omega),if_neg (by omega),if_neg (by omega)]
theorem JB(n:Int)(cs:Nat->Nat)(k c j:Nat)(h:j≠11+k*3):lX n (λm=>if m=k then c else cs m) (k+1) j=lX n cs k j:=by
 unfold lX
 by_cases h0:j=0
 ·rw[if_pos h0,if_pos h0]
 rw[if_neg h0,if_neg h0]
 by_cases h1:j=1
 ·rw[if_pos h1,if_pos h1]
 rw[if_neg h1,if_neg h1]
 by_cases h2:j=2
 ·rw[if_pos h2,if_pos h2]
 rw[if_neg h2,if_neg h2]
 by_cases h3:j<11
 ·rw[if_pos h3,if_pos h3]
 rw[if_neg h3,if_neg h3]
 by_cases h4:(j-11)%3=0
 ·rw[if_pos h4,if_pos h4]
  have hk:(j-11)/3≠k:=by omega
  by_cases h5:(j-11)/3<k
  ·rw[if_pos (by omega),if_pos h5]
   show Value.chan (some (if(j-11)/3=k then c else cs ((j-11)/3)))=_
   rw[if_neg hk]
  ·rw[if_neg (by omega),if_neg h5]
 ·rw[if_neg h4,if_neg h4]
variable {w wr w2:World} {k:Nat}
theorem Ab.step{n:Int}{A:Nat}{cs:Nat->Nat}(h:Ab n A w wr cs k)(_hk:k<4)(hw:w.heap.size<=A)(hb:Below wr.heap.size wr w2)(hc:w2.heap[wr.heap.size+1]? =some (.chan 6 #[] false 0 0 false)):
  Ab n A w (((w2.setCell ⟨A,11+k*3,none⟩ (.chan (some (wr.heap.size+1)))).setCell ⟨A,11+k*3+1,none⟩ .nilFunc).setCell ⟨A,11+k*3+2,none⟩ (.slice none 0 0)) (λm=>if m=k then wr.heap.size+1 else cs m) (k+1):=by
 have hA:=h.lt
 have hlt:wr.heap.size+1<w2.heap.size:=(Array.getElem?_eq_some_iff.1 hc).1
 have hcell:∀j,j<23->w2.cell? ⟨A,j,none⟩=some (lX n cs k j):=λj hj=>(hb.cell (p:=⟨A,j,none⟩) hA).trans (h.c j hj)
 have hblk:∀b,b≠A->(((w2.setCell ⟨A,11+k*3,none⟩ (.chan (some (wr.heap.size+1)))).setCell ⟨A,11+k*3+1,none⟩ .nilFunc).setCell ⟨A,11+k*3+2,none⟩ (.slice none 0 0)).heap[b]? =w2.heap[b]? :=λb hb=>by
  rw[Below.heap_setCell _ _ _ _ (λe=>hb e),Below.heap_setCell _ _ _ _ (λe=>hb e),Below.heap_setCell _ _ _ _ (λe=>hb e)]
 have hsz:(((w2.setCell ⟨A,11+k*3,none⟩ (.chan (some (wr.heap.size+1)))).setCell ⟨A,11+k*3+1,none⟩ .nilFunc).setCell ⟨A,11+k*3+2,none⟩ (.slice none 0 0)).heap.size=w2.heap.size:=by simp[World.setCell]
 have hz:=hb.size
 refine⟨λj hj=>?_,λj=>?_,λm hm=>?_,λm m' hm hm'=>?_,?_,by rw[hsz];omega⟩
 ·by_cases j2:j=11+k*3+2
  ·subst j2
   rw[Nd]
   exact cell_eq (v:=lX n cs k (11+k*3+2)) ((aK _ _ (.inr (by omega))).trans ((aK _ _ (.inr (by omega))).trans (hcell _ hj))) _
  rw[aK _ _ (.inr (λe=>j2 e.symm))]
  by_cases j1:j=11+k*3+1
  ·subst j1
   rw[Nc]
   exact cell_eq (v:=lX n cs k (11+k*3+1)) ((aK _ _ (.inr (by omega))).trans (hcell _ hj)) _
  rw[aK _ _ (.inr (λe=>j1 e.symm))]
  by_cases j0:j=11+k*3
  ·subst j0
   rw[Nb,if_pos (by omega),if_pos rfl]
   exact cell_eq (hcell _ hj) _
  ·rw[aK _ _ (.inr (λe=>j0 e.symm)),JB n cs k _ j j0]
   exact hcell j hj
 ·rw[World.frozen?_setCell,World.frozen?_setCell,World.frozen?_setCell]
  exact(hb.frozen (p:=⟨A,j,none⟩) hA).trans (h.f j)
 ·by_cases hmk:m=k
  ·rw[if_pos hmk,hblk _ (by omega),hsz]
   exact⟨hc,by omega,hlt⟩
  ·rw[if_neg hmk,hsz]
   have:=h.ch m (by omega)
   rw[hblk _ (by omega)]
   exact⟨(hb.block _ this.2.2).trans this.1,this.2.1,by omega⟩
 ·have:=h.ch
  by_cases hk':m'=k
  ·rw[if_pos hk',if_neg (by omega)]
   have:=(h.ch m (by omega)).2.2
   omega
  ·rw[if_neg hk',if_neg (by omega)]
   exact h.up m m' hm (by omega)
 ·have yw:∀(W:World) (i:Nat) (u:Value),Below w.heap.size W (W.setCell ⟨A,i,none⟩ u):=λW i u=>(Below.refl _ W).setCell (p:=⟨A,i,none⟩) hw u
  exact(((h.b.trans (hb.mono h.b.size)).trans (yw _ _ _)).trans (yw _ _ _)).trans (yw _ _ _)
theorem R2(n:Int)(w:World)(h0:¬n<0)(h8:n<=8):
  Calls prog 41 #[.int .i64 n] w λe w'=>∃(A:Nat) (cs:Nat->Nat),e=.returned (.tuple #[.pointer (some ⟨A,0,none⟩),.int .i64 0])/\w.heap.size<=A/\A<w'.heap.size/\(∀j,j<23->w'.cell? ⟨A,j,none⟩=some (lX n cs 4 j))/\(∀j,w'.frozen? ⟨A,j,none⟩=false)/\(∀m,m<4->w'.heap[cs m]? =some (.chan 6 #[] false 0 0 false)/\A<cs m)/\(∀m m',m<m'->m'<4->cs m<cs m')/\Below w.heap.size w w':=by
 have h8':¬8<n:=by omega
 go_enter func41,ntmps41
 go_wp2_with (go_at_call 74;refine(Ka n _).mono ?_;rintro e w1 ⟨rfl,hb1⟩;dsimp only)
 have hA:w.heap.size<=w1.heap.size:=hb1.size
 go_loopw [17] (λi wr=>∃(k:Nat) (cs:Nat->Nat),k<=4/\i=.int .i64 k/\Ab n w1.heap.size w wr cs k) (λi _=>4-(intOf i).toNat)
 case atStart=>
  refine⟨0,λ_=>0,by omega,rfl,λj hj=>?_,λj=>by simp[go_sem],λm hm=>by omega,λm m' h1 h2=>by omega,hb1.alloc hA _,by simp⟩
  rcases j with _|_|_|_|_|_|_|_|_|_|_|_|_|_|_|_|_|_|_|_|_|_|_|j
  iterate 23 (· simp[go_sem,lX])
  omega
 case round=>
  obtain⟨k,cs,hk,rfl,hinv⟩:=hrel
  have D6:=af hinv
  have hlt:=hinv.lt
  by_cases h4:k<4
  ·have hk4:(k:Int)<4:=by omega
   have hk0:(0:Int)<=(k:Int):=by omega
   have q0:=hinv.c (11+k*3) (by omega)
   have q1:=hinv.c (11+k*3+1) (by omega)
   have q2:=hinv.c (11+k*3+2) (by omega)
   rw[Nb,if_neg (by omega)]at q0
   rw[Nc]at q1
   rw[Nd]at q2
   have p0:=hinv.f (11+k*3)
   have p1:=hinv.f (11+k*3+1)
   have p2:=hinv.f (11+k*3+2)
   clear hinv
   go_upto_region 7 with fail
   go_region_with (go_at_call 75;refine(wO _).mono ?_;rintro e w2 ⟨rfl,hch,hsz,hb2⟩;dsimp only;have r0:=(hb2.cell (p:=⟨w1.heap.size,11+k*3,none⟩) hlt).trans q0;have r1:=(hb2.cell (p:=⟨w1.heap.size,11+k*3+1,none⟩) hlt).trans q1;have r2:=(hb2.cell (p:=⟨w1.heap.size,11+k*3+2,none⟩) hlt).trans q2;have s0:=(hb2.frozen (p:=⟨w1.heap.size,11+k*3,none⟩) hlt).trans p0;have s1:=(hb2.frozen (p:=⟨w1.heap.size,11+k*3+1,none⟩) hlt).trans p1;have s2:=(hb2.frozen (p:=⟨w1.heap.size,11+k*3+2,none⟩) hlt).trans p2)
   all_goals
    go_wp2
    refine⟨⟨k+1,_,by omega,by go_num,D6.out.step h4 hA ((Below.refl _ wr).drew.trans hb2) hch⟩,by simp[intOf];omega⟩
  ·obtain rfl:k=4:=by omega
   go_wp2
   refine bodyPost_ret (v:=.tuple #[.pointer (some ⟨w1.heap.size,0,none⟩),.int .i64 0]) (by simp[results,results41,go_sem]) rfl ⟨w1.heap.size,cs,rfl,hA,hlt,D6.out.c,D6.out.f,λm hm=>⟨(D6.out.ch m hm).1,(D6.out.ch m hm).2.1⟩,D6.out.up,D6.out.b⟩
def newX(cs:Nat->Nat):kf:=⟨λ_=>False,λ_=> .slice none 0 0,cs,λ_=> .slice none 0 0,λ_=> .nilFunc,λ_=>0,λ_=>0⟩
theorem Qm(n:Int)(cs:Nat->Nat)(k:Nat)(hk:k<4):lX n cs 4 (2+1+k*2)=.slice none 0 0:=by
 unfold lX
 rw[if_neg (by omega),if_neg (by omega),if_neg (by omega),if_pos (by omega),if_pos (by omega)]
theorem Nf(n:Int)(cs:Nat->Nat)(k:Nat)(hk:k<4):lX n cs 4 (2+1+k*2+1)=.int .i64 0:=by
 unfold lX
 rw[if_neg (by omega),if_neg (by omega),if_neg (by omega),if_pos (by omega),if_neg (by omega)]
theorem Qn(r:Int)(h0:0<=r)(h8:r<=8):jq (oM r):=
 ⟨⟨⟨λf hf=>(by cases hf),List.nodup_nil⟩,h0,h8,λk _=>by simpa[oM]using h0,λk x _ hx=>(by cases hx)⟩,λn _=>⟨λx hx=>(by cases hx),by simp[ct,oM],λst e=>(by cases e),by simp[oM]⟩⟩
theorem nG(cs:Nat->Nat)(A i b:Nat)(hi:i<13)(h:(newX cs).own A i=some b):(i=0/\b=A)\/(5<=i/\i<9/\b=cs (i-5)):=by
 unfold kf.own newX at h
 by_cases h0:i=0
 ·rw[if_pos h0]at h;cases h;exact .inl ⟨h0,rfl⟩
 ·rw[if_neg h0]at h
  by_cases h5:i<5
  ·rw[if_pos h5]at h;cases h
  ·rw[if_neg h5]at h
   by_cases h9:i<9
   ·rw[if_pos h9]at h;cases h;exact .inr ⟨by omega,h9,rfl⟩
   ·rw[if_neg h9]at h;cases h
theorem Ih(r:Int)(w:World)(g:Gl w)(h0:0<=r)(h8:r<=8):
  Calls prog 41 #[.int .i64 r] w λe w'=>∃(A:Nat) (x:kf),e=.returned (.tuple #[.pointer (some ⟨A,0,none⟩),.int .i64 0])/\au w' A x (oM r)/\(∀b,x.I b\/x.Own A b->w.heap.size<=b)/\Below w.heap.size w w':=by
 refine(R2 r w (by omega) h8).mono ?_
 rintro e w' ⟨A,cs,rfl,hA,hlt,hc,hf,hch,T7,hb⟩
 have hg:=g.sz
 have hg':Gl w':=g.below hb hg
 have hcs:∀m m',m<4->m'<4->cs m=cs m'->m=m':=λm m' hm hm' e=>by
  rcases Nat.lt_trichotomy m m' with h|h|h
  ·have:=T7 m m' h hm';omega
  ·exact h
  ·have:=T7 m' m h hm;omega
 have YX:∀m,m<4->cs m<w'.heap.size:=λm hm=>(Array.getElem?_eq_some_iff.1 (hch m hm).1).1
 refine⟨A,newX cs,rfl,⟨hg',Qn r h0 h8,⟨none,hc 0 (by omega),[],.inl ⟨rfl,rfl⟩,rfl,λv hv=>by cases hv⟩,hf 0,hc 1 (by omega),hf 1,⟨hc 2 (by omega),λk hk=>⟨?_,hf _,World.ownsRow_nil _ _ _ _,by simp[newX,Value.ownBlock],by simp[oM]⟩,λk hk=>⟨?_,hf _⟩,λk j b _ _ _ e=>by cases e⟩,λn hn=>⟨⟨?_,?_,(hch n hn).1,by simp[oM],.inl rfl⟩,hf _,rfl,⟨?_,hf _,World.ownsRow_nil _ _ _ _,by simp[newX,Value.ownBlock],by simp[oM]⟩⟩,λi b hi e=>?_,λi j b hi hj hij e e'=>?_,λb hb=>hb.elim⟩,λb hb'=>?_,hb⟩
 ·rw[hc _ (by omega),Qm _ _ _ hk];rfl
 ·rw[hc _ (by omega),Nf _ _ _ hk];rfl
 ·rw[hc _ (by omega),Nb,if_pos hn];rfl
 ·rw[hc _ (by omega),Nc];rfl
 ·rw[hc _ (by omega),Nd];rfl
 ·rcases nG cs A i b hi e with⟨_,rfl⟩|⟨h1,h2,rfl⟩
  ·exact⟨λh=>h.elim,by omega,hlt⟩
  ·have:=hch (i-5) (by omega)
   exact⟨λh=>h.elim,by omega,YX _ (by omega)⟩
 ·rcases nG cs A i b hi e with⟨h1,rfl⟩|⟨h1,h2,rfl⟩
  ·rcases nG cs _ j _ hj e' with⟨h3,_⟩|⟨h3,h4,h5⟩
   ·omega
   ·have:=(hch (j-5) (by omega)).2;omega
  ·rcases nG cs A j _ hj e' with⟨h3,h5⟩|⟨h3,h4,h5⟩
   ·have:=(hch (i-5) (by omega)).2;omega
   ·have:=hcs (i-5) (j-5) (by omega) (by omega) h5;omega
 ·rcases hb' with h|⟨i,hi,e⟩
  ·exact h.elim
  ·rcases nG cs A i b hi e with⟨_,rfl⟩|⟨h1,h2,rfl⟩
   ·exact hA
   ·have:=(hch (i-5) (by omega)).2;omega
def bu(w:World)(A:Nat)(Z:Nat->Prop)(a:fW):Prop:=∃x,au w A x a/\∀b,Z b↔(x.I b\/x.Own A b)
variable {a:fW} {b:Nat}
theorem bu.lt{A:Nat}{Z:Nat->Prop}(h:bu w A Z a)(hb:Z b):8<=b/\b<w.heap.size:=by
 obtain⟨x,hx,hz⟩:=h
 rcases(hz b).1 hb with hb|⟨i,hi,e⟩
 ·exact hx.lt b hb
 ·exact(hx.fD i b hi e).2
theorem bu.ok{A:Nat}{Z:Nat->Prop}(h:bu w A Z a):jq a:=by obtain⟨x,hx,_⟩:=h;exact hx.ok
variable {M:Nat->Nat->Prop} {w':World}
theorem bu.fr(hf:Fr M w w'){A:Nat}{Z:Nat->Prop}(h:bu w A Z a)(hM:∀b i,M b i->8<=b/\¬Z b):bu w' A Z a:=by
 obtain⟨x,hx,hz⟩:=h
 exact⟨x,hx.fr hf (λb i e=>⟨(hM b i e).1,λhb=>(hM b i e).2 ((hz b).2 (.inl hb)),λhb=>(hM b i e).2 ((hz b).2 (.inr hb))⟩),hz⟩
theorem bu.below(hb:Below w.heap.size w w'){A:Nat}{Z:Nat->Prop}(h:bu w A Z a):bu w' A Z a:=h.fr (M:=λ_ _=>False) (Fr.of_below hb) (λ_ _ e=>e.elim)
def cI(A:Nat)(Z:Nat->Prop)(a':fW)(w w':World):Prop:=∃Z',bu w' A Z' a'/\(∀b,Z' b->Z b\/w.heap.size<=b)/\Fr (λb _=>Z b) w w'
variable {a':fW}
theorem cI.of{A:Nat}{Z:Nat->Prop}{x y:kf}(hz:∀b,Z b↔(x.I b\/x.Own A b))(hy:au w' A y a')(he:Ext A w x y)(hf:Fr (oJ A x) w w'):cI A Z a' w w':=by
 refine⟨λb=>y.I b\/y.Own A b,⟨y,hy,λb=>Iff.rfl⟩,λb hb=>?_,hf.mono λb i e=>(hz b).2 (.inr e)⟩
 rcases hb with hb|hb
 ·exact(he.i b hb).imp (λh=>(hz b).2 (.inl h)) _root_.id
 ·exact(he.Own hb).imp (λh=>(hz b).2 (.inr h)) _root_.id
theorem Pc{A:Nat}{Z:Nat->Prop}(h:bu w A Z a){n:Nat}(hn:n<4)(oL:(a.ss n).an.length+1<=4000000):
  Calls prog 43 #[.pointer (some ⟨A,0,none⟩),.int .i64 (n:Int)] w λe w'=>e=.returned (.tuple #[.bool (fF a n).1,.int .i64 0])/\cI A Z (fF a n).2 w w':=by
 obtain⟨x,hx,hz⟩:=h
 exact(Ef hx hn oL).mono λe w' ⟨he,y,hy,h1,h2⟩=>⟨he,.of hz hy h1 h2⟩
theorem Ph{A:Nat}{Z:Nat->Prop}(h:bu w A Z a){n:Nat}(hn:n<4)(t:ByteArray)(ht:t.size<=200)(hw:ct (a.ss n)<6):
  Calls prog 42 #[.pointer (some ⟨A,0,none⟩),.int .i64 (n:Int),.string t] w λe w'=>e=.returned (.int .i64 0)/\cI A Z (jf a n t) w w':=by
 obtain⟨x,hx,hz⟩:=h
 exact(Ei hx hn t ht hw).mono λe w' ⟨he,y,hy,h1,h2⟩=>⟨he,.of hz hy h1 h2⟩
theorem QU{A:Nat}{Z:Nat->Prop}(h:bu w A Z a){n:Nat}(hn:n<4):
  Calls prog 44 #[.pointer (some ⟨A,0,none⟩),.int .i64 (n:Int)] w λe w'=>∃(va:Option Addr) (m cap:Nat),e=.returned (.tuple #[.slice va m cap,.int .i64 0])/\m=(a.ss n).an.length/\w'.ownsRow 0 9 1 (.slice va m cap) m ((a.ss n).an.map .string)/\(∀b,(Value.slice va m cap).ownBlock=some b->Z b)/\cI A Z (kH a n) w w':=by
 obtain⟨x,hx,hz⟩:=h
 exact(mM hx hn).mono λe w' ⟨va,m,cap,he,h1,h2,h5,y,_,hy,h3,h4⟩=>⟨va,m,cap,he,h1,h2,λb hb=>(hz b).2 (.inr (h5 b hb)),.of hz hy h3 h4⟩
theorem zR{A:Nat}{Z:Nat->Prop}(h:bu w A Z a){n:Nat}(hn:n<4):
  Calls prog 44 #[.pointer (some ⟨A,0,none⟩),.int .i64 (n:Int)] w λe w'=>∃(va:Option Addr) (m cap:Nat),e=.returned (.tuple #[.slice va m cap,.int .i64 0])/\m=(a.ss n).an.length/\w'.ownsRow 0 9 1 (.slice va m cap) m ((a.ss n).an.map .string)/\(∀b,(Value.slice va m cap).ownBlock=some b->Z b)/\∃Z',(∀b,(Value.slice va m cap).ownBlock=some b->¬Z' b)/\bu w' A Z' (kH a n)/\(∀b,Z' b->Z b\/w.heap.size<=b)/\Fr (λb _=>Z b) w w':=by
 obtain⟨x,hx,hz⟩:=h
 refine(mM hx hn).mono λe w' ⟨va,m,cap,he,h1,h2,h5,y,h6,hy,h3,h4⟩=>⟨va,m,cap,he,h1,h2,λb hb=>(hz b).2 (.inr (h5 b hb)),λb=>y.I b\/y.Own A b,h6,⟨y,hy,λb=>Iff.rfl⟩,λb hb=>?_,h4.mono λb i e=>(hz b).2 (.inr e)⟩
 rcases hb with hb|hb
 ·exact(h3.i b hb).imp (λh=>(hz b).2 (.inl h)) _root_.id
 ·exact(h3.Own hb).imp (λh=>(hz b).2 (.inr h)) _root_.id
theorem O_{A:Nat}{Z:Nat->Prop}{a:fW}(h:bu w A Z a)(hl:a.g.fs.length<=1000000000):
  Calls prog 26 #[.pointer (some ⟨A,0,none⟩)] w λe w'=>e=.returned (.agg #[.int .i64 (a.g.fs.length:Int),.bool a.g.lk,.int .i64 (zP a:Int)])/\Below w.heap.size w w':=by
 obtain⟨x,hx,_⟩:=h
 exact Ed hx hl
theorem O8{A:Nat}{Z:Nat->Prop}(h:bu w A Z a){k:Nat}(hk:k<4):
  Calls prog 27 #[.pointer (some ⟨A,0,none⟩),.int .i64 (k:Int)] w λe w'=>∃(va:Option Addr) (m cap:Nat),e=.returned (.tuple #[.slice va m cap,.int .i64 0])/\m=(a.g.S.ks k).length/\w'.ownsRow w.heap.size 24 3 (.slice va m cap) m (eP ((a.g.S.ks k).map (·.t)))/\Below w.heap.size w w':=by
 obtain⟨x,hx,_⟩:=h
 exact Ec hx hk
theorem R1(r:Int)(w:World)(g:Gl w)(h0:0<=r)(h8:r<=8):
  Calls prog 41 #[.int .i64 r] w λe w'=>∃(A:Nat) (Z:Nat->Prop),e=.returned (.tuple #[.pointer (some ⟨A,0,none⟩),.int .i64 0])/\bu w' A Z (oM r)/\(∀b,Z b->w.heap.size<=b)/\Below w.heap.size w w':=
 (Ih r w g h0 h8).mono λ_e _w' ⟨A,x,he,hx,h1,h2⟩=>⟨A,λb=>x.I b\/x.Own A b,he,⟨x,hx,λ_b=>Iff.rfl⟩,h1,h2⟩
theorem Tv(a:fW)(n k:Nat)(x:ByteArray):((jf a n x).ss k).q=if k=n then(a.ss n).q++[x]else(a.ss k).q:=by unfold jf;rw[gD];split<;>rfl
theorem uQ(a:fW)(n k:Nat)(x:ByteArray):((jf a n x).ss k).nx=(a.ss k).nx:=by
 unfold jf;rw[gD];split
 ·rename_i e;rw[e]
 ·rfl
theorem QG(a:fW)(n k:Nat)(x:ByteArray):((jf a n x).ss k).an=(a.ss k).an:=by
 unfold jf;rw[gD];split
 ·rename_i e;rw[e]
 ·rfl
theorem J9(a:fW)(n k:Nat)(x:ByteArray):ct ((jf a n x).ss k)=ct (a.ss k)+if k=n then 1 else 0:=by
 rw[cH,cH,Tv,uQ]
 split
 ·rename_i e;rw[e,List.length_append];simp;omega
 ·rfl
variable {vq vn va:Value} {st ag:Int}
theorem SC.Z7{A n:Nat}(h:SC w A n vq st ag vn va)(g':Int):SC (w.setCell ⟨A,10+n*5+2,none⟩ (.int .i64 g')) A n vq st g' vn va:=
 ⟨(aP (by omega)).trans h.cq,(aP (by omega)).trans h.cs,cell_eq h.cg _,(aP (by omega)).trans h.cn,(aP (by omega)).trans h.ca,λi hi=>by rw[World.frozen?_setCell];exact h.f i hi⟩
theorem A2(A n:Nat)(hn:n<4)(t:Tl)(mk:ByteArray)(vq:Value)(ag:Int)(vn va:Value)(lock:Int)(hl:0<=lock)(w:World)(h:SC w A n vq 1 ag vn va)(hL:w.cell? ⟨A,30,none⟩=some (.int .i64 lock)):
  Calls prog 113 #[.pointer (some ⟨A,0,none⟩),.int .i64 (n:Int),.agg #[.int .i64 1,.int .i64 t.z,.int .i64 t.c,.int .i64 t.r,.string mk,.int .i64 0,.int .i64 0,.int .i64 0,.int .i64 0,.slice none 0 0]] w λe w'=>e=.returned (.bool false)/\Below w.heap.size w w':=by
 have mK:=h.lt
 have c1:=h.cs
 have t_:(n:Int)<4:=by omega
 have hn0:¬(n:Int)<0:=by omega
 have Ze:lock>=0:=hl
 obtain⟨tz,tc,tr⟩:=t
 dsimp only
 clear h
 go_enter func113,ntmps113
 go_wp2
 go_ret
 exact⟨rfl,aU⟩
theorem J6(A n:Nat)(hn:n<4)(t:Tl)(ht:t.ok)(mk:ByteArray)(vq:Value)(ag:Int)(vn va:Value)(v:Value)(ks:List Kp)(hl:ks.length<=1000)(DT:Int)(w:World)(h:SC w A n vq 0 ag vn va)(hK:KR w A (az t) v ks)(hx:bO t ks=none)(hG:w.cell? ⟨A,6+az t,none⟩=some (.int .i64 DT)):
  Calls prog 113 #[.pointer (some ⟨A,0,none⟩),.int .i64 (n:Int),.agg #[.int .i64 1,.int .i64 t.z,.int .i64 t.c,.int .i64 t.r,.string mk,.int .i64 0,.int .i64 0,.int .i64 0,.int .i64 0,.slice none 0 0]] w λe w'=>e=.returned (.bool true)/\SC w' A n vq 1 DT vn va/\Fr (λc i=>c=A/\(i=10+n*5+2\/i=10+n*5+1)) w w':=by
 have HC:=af h
 have ke:Hid (∀W:World,Calls prog 146 #[.agg #[.int .i64 t.z,.int .i64 t.c,.int .i64 t.r]] W λe w'=>e=.returned (.int .i64 (az t:Int))/\Below W.heap.size W w'):=λW=>eD t ht W
 have Ui:Hid (∀W:World,Below w.heap.size w W->Calls prog 145 #[.pointer (some ⟨A,0,none⟩),.agg #[.int .i64 t.z,.int .i64 t.c,.int .i64 t.r]] W λe w'=>e=.returned (.int .i64 (-1))/\Below W.heap.size W w'):=λW hW=>by
  have:=zq A t ht v ks hl W (hK.below hW)
  rw[show y7 t ks= -1 by unfold y7;rw[hx]]at this
  exact this
 have mK:=h.lt
 have c1:=h.cs
 have j_:=bg t
 obtain⟨q,hq⟩:∃q,az t=q:=⟨_,rfl⟩
 rw[hq]at ke j_ hG
 have t_:(n:Int)<4:=by omega
 have hn0:¬(n:Int)<0:=by omega
 have DW:(q:Int)<4:=by omega
 have wB:¬(q:Int)<0:=by omega
 have hB0:∀o:Obj,Below w.heap.size w (w.alloc o):=λo=>aU
 obtain⟨tz,tc,tr⟩:=t
 dsimp only at ke Ui⊢
 clear h hK hx hq ht
 go_enter func113,ntmps113
 go_wp2_with (go_at_call 145;refine aq (Ui.out _ (hB0 _)) ?_;rintro e w1 ⟨rfl,hb1⟩;dsimp only;have eO:Hid (Below w.heap.size w w1):=(hB0 _).trans (hb1.mono (by simp));have hs1:w.heap.size<w1.heap.size:=(by have:=hb1.size;simp at this;omega);have p1:w1.cell? ⟨w.heap.size,1,none⟩=some (.int .i64 tz):=(hb1.cell (p:=⟨w.heap.size,1,none⟩) (by simp)).trans (by simp[go_sem]);have p2:w1.cell? ⟨w.heap.size,2,none⟩=some (.int .i64 tc):=(hb1.cell (p:=⟨w.heap.size,2,none⟩) (by simp)).trans (by simp[go_sem]);have p3:w1.cell? ⟨w.heap.size,3,none⟩=some (.int .i64 tr):=(hb1.cell (p:=⟨w.heap.size,3,none⟩) (by simp)).trans (by simp[go_sem]);clear hb1)
 go_region_with (go_at_call 146;refine aq (ke.out _) ?_;rintro e w2 ⟨rfl,hb2⟩;dsimp only;have dm:Hid (Below w.heap.size w w2):=eO.out.trans (Below.trans (by first|with_reducible exact bK|with_reducible exact bK.drew) (hb2.mono (by simp;omega)));have TU:SC w2 A n vq 0 ag vn va:=HC.out.fr (M:=λ_ _=>False) (Fr.of_below dm.out) (λ_ _ e=>e);have zZ:Hid _:=TU;have d1:=TU.cs;have d2:=TU.cg;have e1:=TU.f 1 (by omega);have e2:=TU.f 2 (by omega);have g2:w2.cell? ⟨A,6+q,none⟩=_:=(dm.out.cell (p:=⟨A,6+q,none⟩) mK).trans hG;clear hb2 TU)
 all_goals go_wp2
 all_goals
  go_ret
  exact⟨rfl,(zZ.out.Z7 DT).gC 1,((Fr.of_below dm.out).setCell (b:=A) (i:=10+n*5+2) (.inl ⟨rfl,.inl rfl⟩) _).setCell (b:=A) (i:=10+n*5+1) (.inl ⟨rfl,.inr rfl⟩) _⟩
end
end Go.Proofs.YtenaepdmlknlcaaGreatDoor
