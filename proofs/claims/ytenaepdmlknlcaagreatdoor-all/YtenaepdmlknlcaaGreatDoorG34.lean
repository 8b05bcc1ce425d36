import Derived.Test.YtenaepdmlknlcaaGreatDoorG29
import Derived.Test.YtenaepdmlknlcaaGreatDoorG30
import Derived.Test.YtenaepdmlknlcaaGreatDoorG32
open Go.Proofs.Tryz
set_option maxRecDepth 100000
set_option maxHeartbeats 8000000
namespace Go.Proofs.YtenaepdmlknlcaaGreatDoor
section
open Go.RowKit Go.Shelf
theorem Cy(w:World)(a b:Obj):((w.alloc a).alloc b).heap[w.heap.size+1]? =some b:=by
 have h:(w.alloc a).heap.size=w.heap.size+1:=by simp
 show((w.alloc a).heap.push b)[w.heap.size+1]? =some b
 rw[<-h]
 exact Array.getElem?_push_size
theorem wO(w:World):
  Calls prog 75 #[] w λe w'=>e=.returned (.agg #[.chan (some (w.heap.size+1)),.nilFunc,.slice none 0 0])/\w'.heap[w.heap.size+1]? =some (.chan 6 #[] false 0 0 false)/\w'.heap.size=w.heap.size+2/\Below w.heap.size w w':=by
 obtain⟨i9,eH,_,_,hz2⟩:=info_parts y6
 have hmk:∀W:World,Sem.run prog (Instr.makeChan 129 (Value.int IntKind.i64 6)) W=.ok (.chan (some W.heap.size)) (W.alloc (.chan 6 #[] false 0 0 false)):=λW=>Conc.run_makeChan (P:=prog) underlying129 eH .i64 6 (by decide) (by rw[hz2];decide)
 clear eH hz2
 go_enter func75,ntmps75
 go_wp2_with fail
 exact bodyPost_ret (v:=.agg #[.chan (some (w.heap.size+1)),.nilFunc,.slice none 0 0]) (by simp[results,results75,go_sem]) rfl ⟨rfl,Cy w _ _,by simp,jl w _ _⟩
theorem Pb(n:Int)(w:World)(h:n<0):
  Calls prog 41 #[.int .i64 n] w λe w'=>e=.returned (.tuple #[.pointer none,.int .i64 1])/\w'=w:=by
 go_enter func41,ntmps41
 go_wp2
 exact bodyPost_ret (v:=.tuple #[.pointer none,.int .i64 1]) (by simp[results,results41,go_sem]) rfl ⟨rfl,rfl⟩
theorem K8(n:Int)(w:World)(h0:¬n<0)(h:8<n):
  Calls prog 41 #[.int .i64 n] w λe w'=>e=.returned (.tuple #[.pointer none,.int .i64 1])/\w'=w:=by
 go_enter func41,ntmps41
 go_wp2
 exact bodyPost_ret (v:=.tuple #[.pointer none,.int .i64 1]) (by simp[results,results41,go_sem]) rfl ⟨rfl,rfl⟩
theorem Ka(n:Int)(w:World):
  Calls prog 74 #[.int .i64 n] w λe w'=>e=.returned (.agg #[.int .i64 n,.slice none 0 0,.int .i64 0,.slice none 0 0,.int .i64 0,.slice none 0 0,.int .i64 0,.slice none 0 0,.int .i64 0])/\Below w.heap.size w w':=by
 go_enter func74,ntmps74
 go_wp2
 exact bodyPost_ret (v:=.agg #[.int .i64 n,.slice none 0 0,.int .i64 0,.slice none 0 0,.int .i64 0,.slice none 0 0,.int .i64 0,.slice none 0 0,.int .i64 0]) (by simp[results,results74,go_sem]) rfl ⟨rfl,aU⟩
theorem K6(A q:Nat)(v:Value)(ks:List Kp)(w:World)(hq:q<4)(h:gu w A (2+1+q*2) v ks):
  Calls prog 27 #[.pointer (some ⟨A,0,none⟩),.int .i64 (q:Int)] w λe w'=>∃(a:Option Addr) (n cap:Nat),e=.returned (.tuple #[.slice a n cap,.int .i64 0])/\n=ks.length/\w'.ownsRow w.heap.size 24 3 (.slice a n cap) n (eP (ks.map (·.t)))/\Below w.heap.size w w':=by
 have j_:(q:Int)<4:=by omega
 have wB:(0:Int)<=(q:Int):=by omega
 have HT:Hid (∀W:World,Below w.heap.size w W->Calls prog 51 #[.pointer (some ⟨A,2,none⟩),.int .i64 (q:Int)] W λe w'=>∃(a:Option Addr) (n cap:Nat),e=.returned (.slice a n cap)/\n=ks.length/\w'.ownsRow w.heap.size 24 3 (.slice a n cap) n (eP (ks.map (·.t)))/\Below w.heap.size w w'):=λW hW=>by
  refine(Iq A 2 q v ks W hq (h.below hW)).mono ?_
  rintro e w' ⟨v',rfl,hown,hb⟩
  have hB:=hW.trans (hb.mono hW.size)
  rcases hown.2 with⟨e1,e2⟩|⟨g,cap,cur,e1,e2,e3,e4,e5⟩
  ·subst e1
   exact⟨none,0,0,rfl,e2.symm,⟨by rw[hown.1,e2],.inl ⟨rfl,rfl⟩⟩,hB⟩
  ·subst e1
   exact⟨_,_,cap,rfl,rfl,⟨hown.1,.inr ⟨g,cap,cur,rfl,Nat.le_trans hW.size e2,e3,e4,e5⟩⟩,hB⟩
 clear h
 go_enter func27,ntmps27
 go_wp2_with (go_at_call 51;refine aq (HT.out _ bK) ?_;rintro e w1 ⟨a,n,cap,rfl,hn,hown,hb⟩;dsimp only;have HO:Hid _:=hown;have HN:=af hn;clear hown hn)
 exact bodyPost_ret (v:=.tuple #[.slice a n cap,.int .i64 0]) (by simp[results,results27,go_sem]) rfl ⟨a,n,cap,rfl,HN.out,HO.out,hb⟩
variable {I:Nat->Prop} {w:World}
theorem uI{s:Option mz}{v:Value}(h:rQ I w s v):mW v=sZ s:=by
 cases s with
 |none=>have:v=.nilFunc:=h;rw[this];rfl
 |some st=>obtain⟨f,b,e,_⟩:=fX.fn h;rw[e];rfl
variable {x:kf} {a:fW}
theorem Ei{A:Nat}(h:au w A x a){n:Nat}(hn:n<4)(t:ByteArray)(ht:t.size<=200)(hw:ct (a.ss n)<6):
  Calls prog 42 #[.pointer (some ⟨A,0,none⟩),.int .i64 (n:Int),.string t] w λe w'=>e=.returned (.int .i64 0)/\∃y,au w' A y (jf a n t)/\Ext A w x y/\Fr (oJ A x) w w':=by
 have hA:=h.A8
 have hs:=h.lB n hn
 have hok:=h.ok.ss n hn
 have hwt:((a.ss n).q.map Value.string).toArray.size+mW (x.nv n)<6:=by
  rw[uI hs.nx]
  rw[cH]at hw
  simpa using hw
 refine(Pj A n (x.cb n) 6 _ (x.sn n) (x.rn n) (x.nv n) t w hn hs.q hwt ht (by omega)).mono ?_
 rintro e w' ⟨rfl,rfl⟩
 refine⟨rfl,?_⟩
 have hcl:=(h.fD (n+5) (x.cb n) (by omega) (eN x A n hn)).2.2
 have hne:x.cb n≠A:=λe=>h.apart 0 (n+5) A (by omega) (by omega) (by omega) (eu x A) (by rw[eN x A n hn,e])
 have hf:Fr (λb _=>b=x.cb n) w (w.setChan (x.cb n) 6 (((a.ss n).q.map Value.string).toArray.push (.string t)) false (x.sn n+1) (x.rn n) false):=(Fr.refl _ w).setChan (c:=x.cb n) (.inl rfl) _ _ _ _ _ _ ⟨_,_,_,_,_,_,hs.q.ch⟩
 have hF:Fr (SM A x n) w _:=hf.mono λb i e=> .inr (.inl e)
 have hS:Same x.I w _:=Same.fr hf (λb hb=>(h.lt b hb).2) (λb i hb e=>(h.fD (n+5) (x.cb n) (by omega) (eN x A n hn)).1 (by rw[<-e];exact hb))
 have hw2:ct {a.ss n with q:=(a.ss n).q++[t]}<=6:=by
  rw[cH]at hw⊢
  show((a.ss n).q++[t]).length+sZ (a.ss n).nx<=6
  rw[List.length_append]
  simp
  omega
 refine⟨x.lB n x.I (x.av n) (x.nv n) (x.sn n+1) (x.rn n),h.rz hn (s':={a.ss n with q:=(a.ss n).q++[t]}) ⟨λy hy=>?_,hw2,hok.nx,hok.an⟩ hF ⟨⟨?_,?_,?_,?_,?_⟩,?_,?_,?_⟩ (λ_ h=>h) (λb hb=> .inl hb) (λb hb=>⟨?_,.inl hb⟩),Ext.lB (λ_ h=> .inl h) (λ_ h=> .inl h),hF.mono λb i e=>SM.own hn e⟩
 ·rcases List.mem_append.1 hy with hy|hy
  ·exact hok.q y hy
  ·simp at hy;subst hy;exact ht
 ·exact(hf.cell A _ hA.2 (λe=>hne e.symm)).trans hs.q.c0
 ·show _=some (d_ x.nv n _ n)
  rw[aJ]
  exact(hf.cell A _ hA.2 (λe=>hne e.symm)).trans hs.q.c1
 ·show _=some (Obj.chan 6 (((a.ss n).q++[t]).map Value.string).toArray false (d_ x.sn n _ n) (d_ x.rn n _ n) false)
  rw[aJ,aJ,List.map_append]
  have:=Conc.heap_setChan w (x.cb n) 6 (((a.ss n).q.map Value.string).toArray.push (.string t)) false (x.sn n+1) (x.rn n) false hcl
  have e:(((a.ss n).q.map Value.string).toArray.push (.string t))=((a.ss n).q.map Value.string++[t].map Value.string).toArray:=by simp
  rw[e]at this⊢
  exact this
 ·rw[cH]at hw2
  have:((a.ss n).q++[t]).length<=6:=by
   have h1:((a.ss n).q++[t]).length+sZ (a.ss n).nx<=6:=hw2
   omega
  simp at this⊢
  omega
 ·show d_ x.nv n (x.nv n) n=.nilFunc\/∃f b,d_ x.nv n (x.nv n) n=.func f b #[]
  rw[aJ]
  exact hs.q.nx
 ·exact(hf.frozen A _ hA.2 (λe=>hne e.symm)).trans hs.f1
 ·show rQ x.I _ (a.ss n).nx (d_ x.nv n _ n)
  rw[aJ]
  exact hs.nx.same hS
 ·show jM _ A _ (d_ x.av n _ n) _
  rw[aJ]
  exact hs.an.fr hf (λe=>hne e.symm) (λg i e e'=>h.apart (n+5) (n+9) _ (by omega) (by omega) (by omega) (eN x A n hn) (by rw[eM,<-e'];exact e))
 ·have:=(h.fD (n+9) b (by omega) (by rw[eM];exact hb)).2.2
  exact Nat.lt_of_lt_of_le this hF.size
theorem mM{A:Nat}(h:au w A x a){n:Nat}(hn:n<4):
  Calls prog 44 #[.pointer (some ⟨A,0,none⟩),.int .i64 (n:Int)] w λe w'=>∃(va:Option Addr) (m cap:Nat),e=.returned (.tuple #[.slice va m cap,.int .i64 0])/\m=(a.ss n).an.length/\w'.ownsRow 0 9 1 (.slice va m cap) m ((a.ss n).an.map .string)/\(∀b,(Value.slice va m cap).ownBlock=some b->x.Own A b)/\∃y,(∀b,(Value.slice va m cap).ownBlock=some b->¬(y.I b\/y.Own A b))/\au w' A y (kH a n)/\Ext A w x y/\Fr (oJ A x) w w':=by
 have hA:=h.A8
 have hs:=h.lB n hn
 have hok:=h.ok.ss n hn
 obtain⟨va,m,cap,hv,hm⟩:∃(va:Option Addr) (m cap:Nat),x.av n=.slice va m cap/\m=(a.ss n).an.length:=by
  rcases hs.an.own.2 with⟨e1,e2⟩|⟨g,cap,cur,e1,_⟩
  ·exact⟨none,0,0,e1,by rw[List.length_map]at e2;exact e2.symm⟩
  ·exact⟨_,_,cap,e1,by rw[List.length_map]⟩
 have hc:=hs.an.c
 rw[hv]at hc
 refine(Bf A n va m cap w hn hc hs.an.f).mono ?_
 rintro e w' ⟨rfl,rfl⟩
 have hf:Fr (λb i=>b=A/\i=11+n*3+2) w (w.setCell ⟨A,11+n*3+2,none⟩ (.slice none 0 0)):=(Fr.refl _ w).setCell (b:=A) (i:=11+n*3+2) (.inl ⟨rfl,rfl⟩) _
 have hF:Fr (SM A x n) w _:=hf.mono λb i e=> .inl ⟨e.1,by omega,by omega⟩
 have hS:Same x.I w _:=Same.fr hf (λb hb=>(h.lt b hb).2) (λb i hb e=>(h.fD 0 A (by omega) (eu x A)).1 (by rw[<-e.1];exact hb))
 have hown:(w.setCell ⟨A,11+n*3+2,none⟩ (.slice none 0 0)).ownsRow 0 9 1 (.slice va m cap) m ((a.ss n).an.map .string):=by
  have h1:=bD hf hs.an.own (λk i e e'=>hs.an.ne (by rw[e,e'.1]))
  rw[hv,List.length_map,<-hm]at h1
  exact h1
 have hcb:x.cb n≠A:=λe=>h.apart 0 (n+5) A (by omega) (by omega) (by omega) (eu x A) (by rw[eN x A n hn,e])
 refine⟨va,m,cap,rfl,hm,hown,λb hb=>⟨n+9,by omega,by rw[eM,hv];exact hb⟩,x.lB n x.I (.slice none 0 0) (x.nv n) (x.sn n) (x.rn n),(λb hb=>by
  have hx:x.own A (n+9)=some b:=by rw[eM,hv];exact hb
  rintro(hi|⟨i,hi,e⟩)
  ·exact(h.fD (n+9) b (by omega) hx).1 hi
  ·rw[AL]at e
   split at e
   ·cases e
   ·rename_i hne;exact h.apart (n+9) i b (by omega) hi (λe=>hne e.symm) hx e),h.rz hn (s':={a.ss n with an:=[]}) ⟨hok.q,hok.w,hok.nx,by simp⟩ hF ⟨⟨?_,?_,?_,hs.q.le,?_⟩,?_,?_,?_⟩ (λ_ h=>h) (λb hb=> .inl hb) (λb hb=>by cases hb),Ext.lB (λ_ h=> .inl h) (λ_ h=>by cases h),hF.mono λb i e=>SM.own hn e⟩
 ·exact(hf.cell A _ hA.2 (λe=>by omega)).trans hs.q.c0
 ·show _=some (d_ x.nv n _ n)
  rw[aJ]
  exact(hf.cell A _ hA.2 (λe=>by omega)).trans hs.q.c1
 ·show _=some (Obj.chan 6 _ false (d_ x.sn n _ n) (d_ x.rn n _ n) false)
  rw[aJ,aJ]
  exact(hf.block _ (Array.getElem?_eq_some_iff.1 hs.q.ch).1 (λi e=>hcb e.1)).trans hs.q.ch
 ·show d_ x.nv n (x.nv n) n=.nilFunc\/∃f b,d_ x.nv n (x.nv n) n=.func f b #[]
  rw[aJ]
  exact hs.q.nx
 ·rw[World.frozen?_setCell];exact hs.f1
 ·show rQ x.I _ (a.ss n).nx (d_ x.nv n _ n)
  rw[aJ]
  exact hs.nx.same hS
 ·show jM _ A _ (d_ x.av n _ n) _
  rw[aJ]
  exact⟨cell_eq hs.an.c _,by rw[World.frozen?_setCell];exact hs.an.f,World.ownsRow_nil _ _ _ _,by simp[Value.ownBlock],by simp⟩
theorem Ed{A:Nat}{a:fW}(h:au w A x a)(hl:a.g.fs.length<=1000000000):
  Calls prog 26 #[.pointer (some ⟨A,0,none⟩)] w λe w'=>e=.returned (.agg #[.int .i64 (a.g.fs.length:Int),.bool a.g.lk,.int .i64 (zP a:Int)])/\Below w.heap.size w w':=by
 obtain⟨ro,vs,r0,hR,hfs,hg,hd⟩:=h.FN
 have hI:∀b,x.I b->b<w.heap.size:=λb hb=>(h.lt b hb).2
 have hlen:vs.length=a.g.fs.length:=by rw[<-hfs,List.length_map]
 have hk:=K7 A ro a.g.fs.length a.g.lk (λn=>ct (a.ss n)) w h.A8.2 r0 h.lk (λk hk=>by have:=(h.ok.ss k hk).w;omega)
  (λW hW=>by
   have:=G9 x.I ro vs W (λb hb=>Nat.lt_of_lt_of_le (hI b hb) hW.size) (aT.same hR (Same.of_below hW hI)) (λv hv=>Good.same (Same.of_below hW hI) (hg v hv)) (by omega)
   rw[hlen]at this
   exact this)
  (λk W hk hW=>by
   have hs:=(h.below hW).lB k hk
   have h1:=kI A (11+k*3) (x.cb k) 6 _ (x.sn k) (x.rn k) (x.nv k) W hs.q
   refine h1.mono ?_
   rintro e w' ⟨rfl,rfl⟩
   refine⟨?_,rfl⟩
   rw[uI hs.nx,cH]
   simp)
 refine hk.mono ?_
 rintro e w' ⟨rfl,hb⟩
 refine⟨?_,hb⟩
 have:sumW (λn=>ct (a.ss n)) 4=zP a:=by simp[sumW,zP,V9]
 rw[this]
theorem Ec{A:Nat}(h:au w A x a){k:Nat}(hk:k<4):
  Calls prog 27 #[.pointer (some ⟨A,0,none⟩),.int .i64 (k:Int)] w λe w'=>∃(va:Option Addr) (m cap:Nat),e=.returned (.tuple #[.slice va m cap,.int .i64 0])/\m=(a.g.S.ks k).length/\w'.ownsRow w.heap.size 24 3 (.slice va m cap) m (eP ((a.g.S.ks k).map (·.t)))/\Below w.heap.size w w':=
 K6 A k (x.sv k) (a.g.S.ks k) w hk (h.sh.sh k hk)
theorem LX(X:Int):∀(ps:dS) (b:Bx),(ps.foldl (λb q=>b.join (eB q)) b).r<X↔b.r<X/\∀p∈ps,p.1<X
 |[],b=>by simp
 |q::ps,b=>by
  rw[List.foldl_cons,LX X ps]
  simp only[Bx.join,eB,uh,List.forall_mem_cons]
  constructor
  ·rintro⟨h1,h2⟩;exact⟨by omega,by omega,h2⟩
  ·rintro⟨h1,h2,h3⟩;exact⟨by omega,h3⟩
theorem LV(X:Int):∀(ps:dS) (b:Bx),(ps.foldl (λb q=>b.join (eB q)) b).b<X↔b.b<X/\∀p∈ps,p.2<X
 |[],b=>by simp
 |q::ps,b=>by
  rw[List.foldl_cons,LV X ps]
  simp only[Bx.join,eB,uh,List.forall_mem_cons]
  constructor
  ·rintro⟨h1,h2⟩;exact⟨by omega,by omega,h2⟩
  ·rintro⟨h1,h2,h3⟩;exact⟨by omega,h3⟩
theorem LW(X:Int):∀(ps:dS) (b:Bx),X<(ps.foldl (λb q=>b.join (eB q)) b).l↔X<b.l/\∀p∈ps,X<p.1
 |[],b=>by simp
 |q::ps,b=>by
  rw[List.foldl_cons,LW X ps]
  simp only[Bx.join,eB,ug,List.forall_mem_cons]
  constructor
  ·rintro⟨h1,h2⟩;exact⟨by omega,by omega,h2⟩
  ·rintro⟨h1,h2,h3⟩;exact⟨by omega,h3⟩
theorem LY(X:Int):∀(ps:dS) (b:Bx),X<(ps.foldl (λb q=>b.join (eB q)) b).t↔X<b.t/\∀p∈ps,X<p.2
 |[],b=>by simp
 |q::ps,b=>by
  rw[List.foldl_cons,LY X ps]
  simp only[Bx.join,eB,ug,List.forall_mem_cons]
  constructor
  ·rintro⟨h1,h2⟩;exact⟨by omega,by omega,h2⟩
  ·rintro⟨h1,h2,h3⟩;exact⟨by omega,h3⟩
def Qi(X:Int)(ps:dS):Bool:=ps.all λp=>decide (p.1<X)
def QE(X:Int)(ps:dS):Bool:=ps.all λp=>decide (p.1>X)
def Qt(X:Int)(ps:dS):Bool:=ps.all λp=>decide (p.2<X)
def QN(X:Int)(ps:dS):Bool:=ps.all λp=>decide (p.2>X)
theorem JA(sq:Bx){ps:dS}(h:ps≠[]):(!Qi sq.l ps&&!QE sq.r ps&&!Qt sq.t ps&&!QN sq.b ps)=cV sq (aD ps):=by
 cases ps with
 |nil=>exact absurd rfl h
 |cons p ps=>
  have e1:Qi sq.l (p::ps)=decide ((aD (p::ps)).r<sq.l):=by
   rw[Bool.eq_iff_iff,decide_eq_true_eq]
   show _↔(ps.foldl (λb q=>b.join (eB q)) (eB p)).r<sq.l
   rw[LX]
   simp[Qi,eB]
  have e2:QE sq.r (p::ps)=decide (sq.r<(aD (p::ps)).l):=by
   rw[Bool.eq_iff_iff,decide_eq_true_eq]
   show _↔sq.r<(ps.foldl (λb q=>b.join (eB q)) (eB p)).l
   rw[LW]
   simp[QE,eB]
  have e3:Qt sq.t (p::ps)=decide ((aD (p::ps)).b<sq.t):=by
   rw[Bool.eq_iff_iff,decide_eq_true_eq]
   show _↔(ps.foldl (λb q=>b.join (eB q)) (eB p)).b<sq.t
   rw[LV]
   simp[Qt,eB]
  have e4:QN sq.b (p::ps)=decide (sq.b<(aD (p::ps)).t):=by
   rw[Bool.eq_iff_iff,decide_eq_true_eq]
   show _↔sq.b<(ps.foldl (λb q=>b.join (eB q)) (eB p)).t
   rw[LY]
   simp[QN,eB]
  rw[e1,e2,e3,e4]
  unfold cV cQ
  rw[Bool.eq_iff_iff]
  simp only[Bool.and_eq_true,Bool.not_eq_true',decide_eq_false_iff_not,decide_eq_true_eq,Int.not_lt]
  constructor
  ·rintro⟨⟨⟨h1,h2⟩,h3⟩,h4⟩;exact⟨h1,h2,h3,h4⟩
  ·rintro⟨h1,h2,h3,h4⟩;exact⟨⟨⟨h1,h2⟩,h3⟩,h4⟩
variable {k:Nat}
theorem qm{ps:dS}{p:Int×Int}(h:ps[k]? =some p)(f:Int×Int->Bool):(ps.take (k+1)).all f=((ps.take k).all f&&f p):=by
 rw[List.take_add_one,h,List.all_append]
 simp
def gU(ps:dS)(t:Tl):Bool:=decide (ps≠[])&&cV (eT t) (aD ps)
theorem l8(t:Tl)(ht:t.good)(a:Option Addr)(n cap:Nat)(ps:dS)(hn:n=ps.length)(hn2:n<=1000)(w:World)(hp:bV w.heap.size w a ps):
  Calls prog 173 #[.slice a n cap,.agg #[.int .i64 t.z,.int .i64 t.c,.int .i64 t.r]] w λe w'=>e=.returned (.bool (gU ps t))/\Below w.heap.size w w':=by
 have HP:=af hp
 have Hn:=af hn
 obtain⟨hz,hc0,hc1,Xd,hr1,hcb,hrb⟩:=j7 ht
 have hz3:0<=t.z/\t.z<=3:=by unfold Tl.good cC at ht;rw[decide_eq_true_eq]at ht;omega
 have Zw:(256:Int).tdiv (cL t.z)=8*pZ t.z/\cL t.z≠0/\0<=8*pZ t.z/\8*pZ t.z<=256:=by
  have:t.z=0\/t.z=1\/t.z=2\/t.z=3:=by omega
  rcases this with e|e|e|e<;>rw[e]<;>decide
 have zY:Hid (∀W:World,Calls prog 106 #[.int .i64 t.z] W λe w'=>e=.returned (.int .i64 (cL t.z))/\w'=W):=λW=>oA t.z W (by omega)
 have Ko:Hid (eT t=⟨8*pZ t.z*t.c,8*pZ t.z*t.r,8*pZ t.z*t.c+8*pZ t.z,8*pZ t.z*t.r+8*pZ t.z⟩):=rfl
 obtain⟨sd,VG⟩:∃s,8*pZ t.z=s:=⟨_,rfl⟩
 rw[VG]at Zw hcb hrb Ko
 obtain⟨m,hm⟩:∃m,cL t.z=m:=⟨_,rfl⟩
 rw[hm]at Zw zY
 obtain⟨hq,hm0,hs0,hs1⟩:=Zw
 obtain⟨X,hX⟩:∃X,sd*t.c=X:=⟨_,rfl⟩
 obtain⟨Y,hY⟩:∃Y,sd*t.r=Y:=⟨_,rfl⟩
 rw[hX,hY]at Ko
 rw[hX]at hcb
 rw[hY]at hrb
 have hX0:0<=X:=by rw[<-hX];exact Int.mul_nonneg hs0 hc0
 have hY0:0<=Y:=by rw[<-hY];exact Int.mul_nonneg hs0 Xd
 have hX':t.c*sd=X:=by rw[Int.mul_comm];exact hX
 have hY':t.r*sd=Y:=by rw[Int.mul_comm];exact hY
 have hR:gU ps t=(decide (ps≠[])&&cV ⟨X,Y,X+sd,Y+sd⟩ (aD ps)):=by unfold gU;rw[Ko.out]
 have HV:Hid (∀b,ps≠[]->(!Qi X ps&&!QE (X+sd) ps&&!Qt Y ps&&!QN (Y+sd) ps)=b->gU ps t=b):=λb h e=>by rw[hR,decide_eq_true h,Bool.true_and,<-JA ⟨X,Y,X+sd,Y+sd⟩ h];exact e
 have WN:Hid (ps=[]->gU ps t=false):=λe=>by rw[hR,e];rfl
 obtain⟨R,TT⟩:∃R,gU ps t=R:=⟨_,rfl⟩
 rw[TT]at HV WN
 rw[TT]
 obtain⟨z,c,r⟩:=t
 dsimp only at *
 have hw1:IntKind.i64.wrap X=X:=by rw[IntKind.wrap_i64];omega
 have hw2:IntKind.i64.wrap Y=Y:=by rw[IntKind.wrap_i64];omega
 have hw3:IntKind.i64.wrap (X+sd)=X+sd:=by rw[IntKind.wrap_i64];omega
 have hw4:IntKind.i64.wrap (Y+sd)=Y+sd:=by rw[IntKind.wrap_i64];omega
 have S8:IntKind.i64.wrap sd=sd:=by rw[IntKind.wrap_i64];omega
 clear hp hn ht hz VG hm Ko hX hY hR TT hz3 hc0 hc1 Xd hr1
 have hB0:∀o:Obj,Below w.heap.size w (w.alloc o):=λo=>aU
 go_enter func173,ntmps173
 go_wp2_with (go_at_call 106;refine aq (zY.out _) ?_;rintro e w1 ⟨rfl,hw⟩;subst w1;dsimp only)
 go_loopw [6,7,8,9,10] (λl1 l2 l3 l4 i wr=>∃k:Nat,k<=n/\l1=.bool (Qi X (ps.take k))/\l2=.bool (QE (X+sd) (ps.take k))/\l3=.bool (Qt Y (ps.take k))/\l4=.bool (QN (Y+sd) (ps.take k))/\i=.int .i64 k/\Below (w.heap.size+1) (w.alloc (.cells #[.int .i64 z,.int .i64 c,.int .i64 r] 24)) wr) (λ_ _ _ _ i _=>n-(intOf i).toNat)
 case atStart=>exact⟨0,Nat.zero_le _,rfl,rfl,rfl,rfl,rfl,bK⟩
 case round=>
  obtain⟨k,hk,rfl,rfl,rfl,rfl,rfl,hb⟩:=hrel
  have Be:Below w.heap.size w wr:=(hB0 _).trans (hb.mono (by omega))
  have t1:wr.cell? ⟨w.heap.size,1,none⟩=some (.int .i64 c):=(hb.cell (p:=⟨w.heap.size,1,none⟩) (by show w.heap.size<w.heap.size+1;omega)).trans (by simp[go_sem])
  have t2:wr.cell? ⟨w.heap.size,2,none⟩=some (.int .i64 r):=(hb.cell (p:=⟨w.heap.size,2,none⟩) (by show w.heap.size<w.heap.size+1;omega)).trans (by simp[go_sem])
  have HB:=af hb
  have RF:=af Be
  by_cases hlt:k<n
  ·obtain⟨⟨px,py⟩,hx⟩:∃x,ps[k]? =some x:=⟨_,List.getElem?_eq_getElem (by rw[<-Hn.out];exact hlt)⟩
   have hne:ps≠[]:=λe=>by rw[e]at hx;simp at hx
   obtain⟨pb,po,rfl,Kw,GG⟩:=HP.out.resolve_left hne
   have y0:wr.cell? ⟨pb,po+k*2,none⟩=some (.int .i64 px):=(Be.cell (p:=⟨pb,po+k*2,none⟩) Kw).trans (GG k px py hx).1
   have y1:wr.cell? ⟨pb,po+k*2+1,none⟩=some (.int .i64 py):=(Be.cell (p:=⟨pb,po+k*2+1,none⟩) Kw).trans (GG k px py hx).2
   have H1:Hid (Qi X (ps.take (k+1))=(Qi X (ps.take k)&&decide (px<X))):=qm hx _
   have H2:Hid (QE (X+sd) (ps.take (k+1))=(QE (X+sd) (ps.take k)&&decide (px>X+sd))):=qm hx _
   have H3:Hid (Qt Y (ps.take (k+1))=(Qt Y (ps.take k)&&decide (py<Y))):=qm hx _
   have H4:Hid (QN (Y+sd) (ps.take (k+1))=(QN (Y+sd) (ps.take k)&&decide (py>Y+sd))):=qm hx _
   have lU:(k:Int)<(n:Int):=by omega
   have hk0:¬(k:Int)<0:=by omega
   obtain⟨b1,e1⟩:∃b,Qi X (ps.take k)=b:=⟨_,rfl⟩
   obtain⟨b2,e2⟩:∃b,QE (X+sd) (ps.take k)=b:=⟨_,rfl⟩
   obtain⟨b3,e3⟩:∃b,Qt Y (ps.take k)=b:=⟨_,rfl⟩
   obtain⟨b4,e4⟩:∃b,QN (Y+sd) (ps.take k)=b:=⟨_,rfl⟩
   rw[e1]at H1
   rw[e2]at H2
   rw[e3]at H3
   rw[e4]at H4
   rw[e1,e2,e3,e4]
   clear hx hne GG Kw e1 e2 e3 e4 hb Be
   cases b1<;>cases b2<;>cases b3<;>cases b4
   all_goals
    go_wp2_with fail
    go_quiet (fail)
    go_wp2_with fail
    go_quiet (fail)
    go_wp2_with fail
    go_quiet (fail)
    go_wp2_with fail
    go_quiet (fail)
    go_wp2
    go_roundw
    case rel=>exact⟨k+1,by omega,by rw[H1.out];rfl,by rw[H2.out];rfl,by rw[H3.out];rfl,by rw[H4.out];rfl,by go_num,Below.iF HB.out _⟩
    case measure=>simp[intOf];omega
  ·have lU:¬(k:Int)<(n:Int):=by omega
   obtain rfl:k=n:=by omega
   have hall:ps.take k=ps:=List.take_of_length_le (by rw[Hn.out];exact aM)
   rw[hall]
   clear hb Be hall
   by_cases hn0:k=0
   ·obtain rfl:R=false:=WN.out (List.eq_nil_of_length_eq_zero (by have:=Hn.out;omega))
    subst hn0
    clear HV WN
    go_wp2
    go_ret
    exact⟨rfl,RF.out⟩
   ·have hkp:(k:Int)>0:=by omega
    have hne:ps≠[]:=λe=>by have:=Hn.out;rw[e]at this;exact hn0 this
    have hV:=HV.out _ hne rfl
    subst hV
    obtain⟨b1,e1⟩:∃b,Qi X ps=b:=⟨_,rfl⟩
    obtain⟨b2,e2⟩:∃b,QE (X+sd) ps=b:=⟨_,rfl⟩
    obtain⟨b3,e3⟩:∃b,Qt Y ps=b:=⟨_,rfl⟩
    obtain⟨b4,e4⟩:∃b,QN (Y+sd) ps=b:=⟨_,rfl⟩
    have E1:=af e1
    have E2:=af e2
    have E3:=af e3
    have E4:=af e4
    simp only[e1,e2,e3,e4]
    clear HV WN e1 e2 e3 e4
    cases b1<;>cases b2<;>cases b3<;>cases b4
    all_goals
     go_wp2
     go_ret
     exact⟨by rw[E1.out,E2.out,E3.out,E4.out];rfl,RF.out⟩
def K9(w:World)(A:Nat)(id:Int)(gs:List FG)(oa:Option Addr)(on oc:Nat)(old:dS):Prop:=
 (iP id (gs.map (·.f))= -1/\oa=none/\on=0/\oc=0/\old=[])\/∃(i:Nat) (g:FG),iP id (gs.map (·.f))=(i:Int)/\gs[i]? =some g/\oa=g.a/\on=g.f.ps.length/\oc=g.cap/\old=g.f.ps/\bV w.heap.size w g.a g.f.ps/\(∀x,g.a=some x->x.block≠A)
def uZ(A:Nat)(vs:Nat->Value)(sh:Nat->List Kp)(ag:Nat->Int)(bs:List Bx)(z:Nat)(w:World)(e:Ending)(w':World):Prop:=
 e=.returned (.tuple #[])/\∃vs',RS w' A vs' (λk=>cY bs k (aQ z) (sh k)) (λk=>if aL bs k (aQ z)=true then IntKind.i64.wrap (ag k+1)else ag k)/\(∀k,k<4->∀b,(vs' k).ownBlock=some b->(vs k).ownBlock=some b\/w.heap.size<=b)/\Fr (λc i=>c=A/\2<=i/\i<10) w w'
variable {vs:Nat->Value} {sh:Nat->List Kp}
theorem RS.congr{A:Nat}{ag ag':Nat->Int}(h:RS w A vs sh ag)(e:∀k,k<4->ag k=ag' k):RS w A vs sh ag':=⟨h.k,λk hk=>by rw[<-e k hk];exact h.a k hk⟩
theorem w64(x:Int):wrap64 x=IntKind.i64.wrap x:=by rw[IntKind.wrap_i64];first|done|rfl|(unfold wrap64;omega)
theorem RS.aG{A i:Nat}(hi:i<4){ag:Nat->Int}(h:RS w A vs sh ag)(x:Int):RS (w.setCell ⟨A,6+i,none⟩ (.int .i64 x)).drew A vs sh (dR ag i x):=by
 have hF:Fr (λc j=>c=A/\j=6+i) w (w.setCell ⟨A,6+i,none⟩ (.int .i64 x)).drew:=((Fr.refl _ w).setCell (b:=A) (i:=6+i) (.inl ⟨rfl,rfl⟩) _).drew
 refine⟨λk hk=>(h.k k hk).fr hF (λe=>by omega) (λb j hb e=>?_),λk hk=>?_⟩
 ·rw[e.1]at hb;exact(h.k k hk).ne hb
 ·unfold dR
  by_cases e:k=i
  ·subst e
   rw[if_pos rfl]
   exact⟨cell_eq (h.a k hk).1 _,by show(w.setCell _ _).frozen? _=false;rw[World.frozen?_setCell];exact(h.a k hk).2⟩
  ·rw[if_neg e]
   exact⟨(hF.cell A _ h.lt (λe'=>by omega)).trans (h.a k hk).1,(hF.frozen A _ h.lt (λe'=>by omega)).trans (h.a k hk).2⟩
variable {bs:List Bx} {z idx:Nat} {w2 wr W:World} {vs':Nat->Value} {oa:Option Addr} {old:dS}
theorem FI.pts{A:Nat}{ag:Nat->Int}(h:FI w A vs sh ag bs z w2 (w.heap.size+1) idx vs' wr)(hB2:Below w.heap.size w w2)(hp:bV w.heap.size w oa old)(hA:∀x,oa=some x->x.block≠A)(hW:Below wr.heap.size wr W):bV W.heap.size W oa old:=by
 rcases hp with e|⟨b,off,e,hb,hc⟩
 ·exact .inl e
 ·have hb':b<w.heap.size:=hb
  have h2:=hB2.size
  have h3:=h.f.size
  have SH:b≠A:=hA _ e
  have hcell:∀i,W.cell? ⟨b,i,none⟩=w.cell? ⟨b,i,none⟩:=λi=>(hW.cell (p:=⟨b,i,none⟩) (by show b<wr.heap.size;omega)).trans ((h.f.cell b i (by omega) (λe'=>by rcases e' with e'|e';exact SH e'.1;omega)).trans (hB2.cell (p:=⟨b,i,none⟩) hb'))
  exact .inr ⟨b,off,e,by have:=hW.size;show b<W.heap.size;omega,λk x y he=>⟨(hcell _).trans (hc k x y he).1,(hcell _).trans (hc k x y he).2⟩⟩
theorem Dp(A z:Nat)(hz:z<=3)(k0 id kd ht col:Int)(pa:Option Addr)(pn pc:Nat)(ps:dS)(Xc:pn=ps.length)(Xa:pn<=1000)(va:Value)(gs:List FG)(qJ:gs.length<=900)(oa:Option Addr)(on oc:Nat)(old:dS)(Vx:on<=1000)(vs:Nat->Value)(sh:Nat->List Kp)(MH:∀k,k<4->(sh k).length<=1000)(ag:Nat->Int)(bs:List Bx)(w:World)(hp:bV w.heap.size w pa ps)(Xb:∀x,pa=some x->x.block≠A)(hA:AR w A va gs)(hO:K9 w A id gs oa on oc old)(hS:RS w A vs sh ag)(PV:∀t:Tl,t.good->(gU old t||gU ps t)=dW bs t):
  Calls prog 149 #[.pointer (some ⟨A,0,none⟩),.int .i64 (z:Int),.agg #[.int .i64 k0,.int .i64 0,.int .i64 0,.int .i64 0,.string ⟨#[]⟩,.int .i64 id,.int .i64 kd,.int .i64 ht,.int .i64 col,.slice pa pn pc]] w (uZ A vs sh ag bs z w):=by
 have WI:=af hS
 have mK:A<w.heap.size:=hS.lt
 have TC:=af hA
 have HP:=af hp
 have HpA:=af Xb
 have Hbs:=af PV
 have Hsl:=af MH
 have Hpn:=af Xc
 have QV:Hid (∀W:World,Below w.heap.size w W->Calls prog 172 #[.pointer (some ⟨A,0,none⟩),.int .i64 id] W λe w'=>e=.returned (.int .i64 (iP id (gs.map (·.f))))/\w'=W):=λW hW=>J4 A id va gs (by omega) W (TC.out.below hW)
 have zY:Hid (∀W:World,Calls prog 106 #[.int .i64 (z:Int)] W λe w'=>e=.returned (.int .i64 (bh z:Int))/\w'=W):=λW=>by rw[<-CY hz];exact oA (z:Int) W (by omega)
 have hcn:bh z<=8/\1<=bh z:=by match z,hz with|0,_=>decide|1,_=>decide|2,_=>decide|3,_=>decide
 have TF:Hid (on=old.length/\(bV w.heap.size w oa old)/\∀x,oa=some x->x.block≠A):=by
  rcases hO with⟨_,e1,e2,e3,e4⟩|⟨i,g,_,_,e1,e2,e3,e4,e5,e6⟩
  ·exact⟨by rw[e2,e4];rfl,.inl e4,λx e=>by rw[e1]at e;cases e⟩
  ·exact⟨by rw[e2,e4],by rw[e1,e4];exact e5,by rw[e1];exact e6⟩
 have hB0:∀o:Obj,Below w.heap.size w (w.alloc o):=λo=>aU
 have hB2:Below w.heap.size w ((w.alloc (.cells #[.int .i64 k0,.int .i64 0,.int .i64 0,.int .i64 0,.string ⟨#[]⟩,.int .i64 id,.int .i64 kd,.int .i64 ht,.int .i64 col,.slice pa pn pc] 220)).alloc (.cells #[.bool false,.bool false,.bool false,.bool false] 288)):=(hB0 _).alloc (by simp) _
 have hs2:(((w.alloc (.cells #[.int .i64 k0,.int .i64 0,.int .i64 0,.int .i64 0,.string ⟨#[]⟩,.int .i64 id,.int .i64 kd,.int .i64 ht,.int .i64 col,.slice pa pn pc] 220)).alloc (.cells #[.bool false,.bool false,.bool false,.bool false] 288))).heap.size=w.heap.size+2:=by simp
 have WB:Hid (FI w A vs sh ag bs z ((w.alloc (.cells #[.int .i64 k0,.int .i64 0,.int .i64 0,.int .i64 0,.string ⟨#[]⟩,.int .i64 id,.int .i64 kd,.int .i64 ht,.int .i64 col,.slice pa pn pc] 220)).alloc (.cells #[.bool false,.bool false,.bool false,.bool false] 288)) (w.heap.size+1) 0 vs ((w.alloc (.cells #[.int .i64 k0,.int .i64 0,.int .i64 0,.int .i64 0,.string ⟨#[]⟩,.int .i64 id,.int .i64 kd,.int .i64 ht,.int .i64 col,.slice pa pn pc] 220)).alloc (.cells #[.bool false,.bool false,.bool false,.bool false] 288))):=by
  refine⟨WI.out.fr (M:=λ_ _=>False) (Fr.of_below hB2) (λ_ _ _ e=>e) (λ_ _ _ _ _ e=>e),λk _ b hb=> .inl hb,λk hk=>?_,Fr.refl _ _⟩
  have e:C8 bs z 0 k=false:=rfl
  rw[e]
  match k,hk with
  |0,_=>exact⟨by simp[go_sem],by simp[go_sem]⟩
  |1,_=>exact⟨by simp[go_sem],by simp[go_sem]⟩
  |2,_=>exact⟨by simp[go_sem],by simp[go_sem]⟩
  |3,_=>exact⟨by simp[go_sem],by simp[go_sem]⟩
 have Xh:∀k,k<4->(vs k).ownBlock≠some (w.heap.size+1):=λk hk e=>by have:=((WI.out.k k hk).own.lt e).2;omega
 have WR:=af Xh
 have hfind:(iP id (gs.map (·.f))= -1/\oa=none/\on=0/\oc=0)\/∃(i:Nat),iP id (gs.map (·.f))=(i:Int)/\∃(g:Nat) (off n cap:Nat),va=.slice (some ⟨g,off,none⟩) n cap/\i<n/\g<w.heap.size/\w.cell? ⟨g,off+i*5+4,none⟩=some (.slice oa on oc):=by
  rcases hO with⟨e0,e1,e2,e3,_⟩|⟨i,g,e0,hg,e1,e2,e3,_⟩
  ·exact .inl ⟨e0,e1,e2,e3⟩
  ·right
   have hi:i<gs.length:=(List.getElem?_eq_some_iff.1 hg).1
   obtain⟨a,cap,e,hc,hgo⟩:=TC.out.own.form
   obtain⟨gb,off,rfl,_⟩:=hgo (by omega)
   have TQ:=TC.out
   rw[e]at TQ
   refine⟨i,e0,gb,off,gs.length,cap,e,hi,(TQ.own.lt rfl).2,?_⟩
   rw[TQ.at rfl hg 4 _ rfl,e1,e2,e3]
 obtain⟨fi,EU⟩:∃x,iP id (gs.map (·.f))=x:=⟨_,rfl⟩
 rw[EU]at QV hfind
 have X1:Hid (∀W:World,Below w.heap.size w W->W.cell? ⟨A,1,none⟩=some va):=λW hW=>(TC.out.below hW).c
 have Gc:Hid (∀e w',uZ A vs sh ag bs z w e w'↔(e=.returned (.tuple #[])/\∃vs',RS w' A vs' (λk=>cY bs k (aQ z) (sh k)) (λk=>if aL bs k (aQ z)=true then IntKind.i64.wrap (ag k+1)else ag k)/\(∀k,k<4->∀b,(vs' k).ownBlock=some b->(vs k).ownBlock=some b\/w.heap.size<=b)/\Fr (λc i=>c=A/\2<=i/\i<10) w w')):=λ_ _=>Iff.rfl
 clear hS hp Xb hA hO PV MH Xc EU Xh
 have HMo:Hid (∀(t:Tl) (W:World),t.good->bV W.heap.size W oa old->Calls prog 173 #[.slice oa on oc,.agg #[.int .i64 t.z,.int .i64 t.c,.int .i64 t.r]] W λe w'=>e=.returned (.bool (gU old t))/\Below W.heap.size W w'):=λt W hg hp=>l8 _ hg _ _ _ old TF.out.1 (by omega) W hp
 rcases hfind with⟨rfl,rfl,rfl,rfl⟩|⟨UD,rfl,gb,UH,gn,aas,rfl,hin,hgb,hgc⟩
 case' inr=>
  have aay:(w.alloc (.cells #[.int .i64 k0,.int .i64 0,.int .i64 0,.int .i64 0,.string ⟨#[]⟩,.int .i64 id,.int .i64 kd,.int .i64 ht,.int .i64 col,.slice pa pn pc] 220)).cell? ⟨A,1,none⟩=_:=X1.out _ (hB0 _)
  have aaB:(w.alloc (.cells #[.int .i64 k0,.int .i64 0,.int .i64 0,.int .i64 0,.string ⟨#[]⟩,.int .i64 id,.int .i64 kd,.int .i64 ht,.int .i64 col,.slice pa pn pc] 220)).cell? ⟨gb,UH+UD*5+4,none⟩=_:=((hB0 _).cell (p:=⟨gb,UH+UD*5+4,none⟩) hgb).trans hgc
  have aaH:(UD:Int)<(gn:Int):=by omega
  have aaG:¬(UD:Int)<0:=by omega
  have hge:(UD:Int)>=0:=by omega
 all_goals
  go_enter func149,ntmps149
  go_wp2_with (go_at_call 172;refine aq (QV.out _ (hB0 _)) ?_;rintro e w1 ⟨rfl,hw⟩;subst w1;dsimp only)
  obtain⟨W2,hW2⟩:∃W,((w.alloc (.cells #[.int .i64 k0,.int .i64 0,.int .i64 0,.int .i64 0,.string ⟨#[]⟩,.int .i64 id,.int .i64 kd,.int .i64 ht,.int .i64 col,.slice pa pn pc] 220)).alloc (.cells #[.bool false,.bool false,.bool false,.bool false] 288))=W:=⟨_,rfl⟩
  have YV:W2.cell? ⟨w.heap.size,9,none⟩=some (.slice pa pn pc):=by rw[<-hW2];simp[go_sem]
  rw[hW2]at WB hB2 hs2
  simp only[hW2]
  have dm:=af hB2
  clear hW2 QV X1 hB2
  go_loopw [9] (λcv wr=>∃(c:Nat) (vs':Nat->Value),c<=bh z/\cv=.int .i64 c/\FI w A vs sh ag bs z W2 (w.heap.size+1) (c*bh z) vs' wr) (λcv _=>bh z-(intOf cv).toNat)
  case atStart=>exact⟨0,vs,Nat.zero_le _,rfl,by rw[Nat.zero_mul];exact WB.out⟩
  case round=>
   obtain⟨c,vs1,hc,rfl,EU⟩:=hrel
   have KG:=af EU
   clear EU
   by_cases hlt:c<bh z
   ·have YW:(c:Int)<(bh z:Int):=by omega
    go_wp2_with (first|(go_at_call 106;refine aq (zY.out _) ?_;rintro e w1 ⟨rfl,hw⟩;subst w1;dsimp only))
    go_loopw [10] (λrv wr=>∃(r:Nat) (vs':Nat->Value),r<=bh z/\rv=.int .i64 r/\FI w A vs sh ag bs z W2 (w.heap.size+1) (c*bh z+r) vs' wr) (λrv _=>bh z-(intOf rv).toNat)
    case atStart=>exact⟨0,vs1,Nat.zero_le _,rfl,KG.out⟩
    case round=>
     obtain⟨r,vs2,hr,rfl,EU⟩:=hrel
     have vp:=af EU
     clear EU
     by_cases hlt2:r<bh z
     ·have Zt:(r:Int)<(bh z:Int):=by omega
      have dQ:=zJ hz hlt hlt2
      have RU:Hid ((aQ z)[c*bh z+r]? =some ⟨(z:Int),(c:Int),(r:Int)⟩):=zK hz hlt hlt2
      have OX:Hid (∀W:World,Below wr.heap.size wr W->Calls prog 173 #[_,.agg #[.int .i64 (z:Int),.int .i64 (c:Int),.int .i64 (r:Int)]] W λe w'=>e=.returned (.bool (gU old ⟨(z:Int),(c:Int),(r:Int)⟩))/\Below W.heap.size W w'):=λW hW=>HMo.out ⟨(z:Int),(c:Int),(r:Int)⟩ W dQ (vp.out.pts dm.out TF.out.2.1 TF.out.2.2 hW)
      have OY:Hid (∀W:World,Below wr.heap.size wr W->Calls prog 173 #[.slice pa pn pc,.agg #[.int .i64 (z:Int),.int .i64 (c:Int),.int .i64 (r:Int)]] W λe w'=>e=.returned (.bool (gU ps ⟨(z:Int),(c:Int),(r:Int)⟩))/\Below W.heap.size W w'):=λW hW=>l8 _ dQ _ _ _ ps Hpn.out Xa W (vp.out.pts dm.out HP.out HpA.out hW)
      have ke:Hid (∀W:World,Calls prog 146 #[.agg #[.int .i64 (z:Int),.int .i64 (c:Int),.int .i64 (r:Int)]] W λe w'=>e=.returned (.int .i64 (az ⟨(z:Int),(c:Int),(r:Int)⟩:Int))/\Below W.heap.size W w'):=λW=>eD _ (gQ dQ) W
      have Hy:Hid (∀W:World,Below wr.heap.size wr W->Calls prog 171 #[.pointer (some ⟨A,0,none⟩),.agg #[.int .i64 (z:Int),.int .i64 (c:Int),.int .i64 (r:Int)]] W (eX A ⟨(z:Int),(c:Int),(r:Int)⟩ (iQ bs z sh (c*bh z+r) (az ⟨(z:Int),(c:Int),(r:Int)⟩)) W)):=λW hW=>sH A _ (gQ dQ) (vs2 (az ⟨(z:Int),(c:Int),(r:Int)⟩)) _ (Nat.le_trans (ru _ _ _ _) (Hsl.out _ (bg _))) W ((vp.out.s.k _ (bg _)).below hW)
      unfold eX at Hy
      have iT:=Hbs.out _ dQ
      have j_:=bg ⟨(z:Int),(c:Int),(r:Int)⟩
      have PO:=vp.out.g (az ⟨(z:Int),(c:Int),(r:Int)⟩) j_
      obtain⟨q,hq⟩:∃q,az ⟨(z:Int),(c:Int),(r:Int)⟩=q:=⟨_,rfl⟩
      have Hq:=af hq
      have KF:Hid (∀W:World,Below wr.heap.size wr W->Calls prog 171 #[.pointer (some ⟨A,0,none⟩),.agg #[.int .i64 (z:Int),.int .i64 (c:Int),.int .i64 (r:Int)]] W λe w'=>e=.returned (.tuple #[])/\∃v',KR w' A (az ⟨(z:Int),(c:Int),(r:Int)⟩) v' (cj ⟨(z:Int),(c:Int),(r:Int)⟩ (iQ bs z sh (c*bh z+r) (az ⟨(z:Int),(c:Int),(r:Int)⟩)))/\(∀b,v'.ownBlock=some b->W.heap.size<=b)/\Fr (λc i=>c=A/\i=2+q) W w'):=λW hW=>by rw[<-Hq.out];exact Hy.out W hW
      rw[hq]at ke j_ PO
      have DW:(q:Int)<4:=by omega
      have wB:¬(q:Int)<0:=by omega
      have cG:=PO.1
      have fG:=PO.2
      have PR:w.heap.size+1<wr.heap.size:=dz wr ⟨w.heap.size+1,q,none⟩ cG
      have hwl:w.heap.size<wr.heap.size:=by omega
      have r9:wr.cell? ⟨w.heap.size,9,none⟩=some (.slice pa pn pc):=(vp.out.f.cell w.heap.size 9 (by rw[hs2];omega) (λe=>by omega)).trans YV
      have rK:∀o:Obj,Below wr.heap.size wr (wr.alloc o):=λo=>aU
      obtain⟨m1,hm1⟩:∃b,gU old ⟨(z:Int),(c:Int),(r:Int)⟩=b:=⟨_,rfl⟩
      obtain⟨m2,hm2⟩:∃b,gU ps ⟨(z:Int),(c:Int),(r:Int)⟩=b:=⟨_,rfl⟩
      rw[hm1]at OX iT
      rw[hm2]at OY iT
      clear dQ hq PO hm1 hm2 Hy
      have hm:(m1=true\/m1=false/\m2=true)\/m1=false/\m2=false:=by cases m1<;>cases m2<;>simp
      rcases hm with hm|⟨rfl,rfl⟩
      ·have nr:=iT.symm
       rw[show(m1||m2)=true by rcases hm with rfl|⟨rfl,rfl⟩<;>simp]at nr
       clear iT
       rcases hm with rfl|⟨rfl,rfl⟩
       all_goals
        go_wp2_with (first|(go_at_call 106;refine aq (zY.out _) ?_;rintro e w1 ⟨rfl,hw⟩;subst w1;dsimp only)|(go_at_call 173;refine aq (OY.out w3 g_.out) ?_;rintro e w4 ⟨rfl,hb4⟩;dsimp only;have nX:Hid (Below wr.heap.size wr w4):=g_.out.trans (hb4.mono (by omega));have mJ:wr.heap.size+1<=w4.heap.size:=(by have:=hb4.size;omega);have s0:w4.cell? ⟨wr.heap.size,0,none⟩=some (.int .i64 (z:Int)):=(hb4.cell (p:=⟨wr.heap.size,0,none⟩) hs3).trans p0;have s1:w4.cell? ⟨wr.heap.size,1,none⟩=some (.int .i64 (c:Int)):=(hb4.cell (p:=⟨wr.heap.size,1,none⟩) hs3).trans p1;have s2:w4.cell? ⟨wr.heap.size,2,none⟩=some (.int .i64 (r:Int)):=(hb4.cell (p:=⟨wr.heap.size,2,none⟩) hs3).trans p2;clear hb4)|(go_at_call 173;refine aq (OX.out _ (rK _)) ?_;rintro e w3 ⟨rfl,hb3⟩;dsimp only;have g_:Hid (Below wr.heap.size wr w3):=(rK _).trans (hb3.mono (by simp));have hs3:wr.heap.size+1<=w3.heap.size:=(by have:=hb3.size;simpa using this);have p0:w3.cell? ⟨wr.heap.size,0,none⟩=some (.int .i64 (z:Int)):=(hb3.cell (p:=⟨wr.heap.size,0,none⟩) (by simp)).trans (by simp[go_sem]);have p1:w3.cell? ⟨wr.heap.size,1,none⟩=some (.int .i64 (c:Int)):=(hb3.cell (p:=⟨wr.heap.size,1,none⟩) (by simp)).trans (by simp[go_sem]);have p2:w3.cell? ⟨wr.heap.size,2,none⟩=some (.int .i64 (r:Int)):=(hb3.cell (p:=⟨wr.heap.size,2,none⟩) (by simp)).trans (by simp[go_sem]);have q9:w3.cell? ⟨w.heap.size,9,none⟩=_:=(g_.out.cell (p:=⟨w.heap.size,9,none⟩) hwl).trans r9;clear hb3)|(go_at_call 171;refine aq (KF.out w4 nX.out) ?_;rintro e w5 ⟨rfl,v5,hk5,MA,jx⟩;dsimp only;have KJ:Hid _:=hk5;have RH:Hid _:=MA;have zW:=af jx;have hs5:wr.heap.size+1<=w5.heap.size:=(by have:=jx.size;omega);have d0:w5.cell? ⟨wr.heap.size,0,none⟩=some (.int .i64 (z:Int)):=(jx.cell wr.heap.size 0 mJ (λe=>by omega)).trans s0;have d1:w5.cell? ⟨wr.heap.size,1,none⟩=some (.int .i64 (c:Int)):=(jx.cell wr.heap.size 1 mJ (λe=>by omega)).trans s1;have d2:w5.cell? ⟨wr.heap.size,2,none⟩=some (.int .i64 (r:Int)):=(jx.cell wr.heap.size 2 mJ (λe=>by omega)).trans s2;clear hk5 MA jx)|(go_at_call 146;refine aq (ke.out _) ?_;rintro e w6 ⟨rfl,jC⟩;dsimp only;have OP:=af jC;have Sd:w4.cell? ⟨w.heap.size+1,q,none⟩=_:=(nX.out.cell (p:=⟨w.heap.size+1,q,none⟩) PR).trans cG;have Sq:w4.frozen? ⟨w.heap.size+1,q,none⟩=_:=(nX.out.frozen (p:=⟨w.heap.size+1,q,none⟩) PR).trans fG;have Sg:w5.cell? ⟨w.heap.size+1,q,none⟩=_:=(zW.out.cell (w.heap.size+1) q (by omega) (λe=>by omega)).trans Sd;have Sr:w5.frozen? ⟨w.heap.size+1,q,none⟩=_:=(zW.out.frozen (w.heap.size+1) q (by omega) (λe=>by omega)).trans Sq;have Yc:w6.cell? ⟨w.heap.size+1,q,none⟩=_:=(jC.cell (p:=⟨w.heap.size+1,q,none⟩) (by show w.heap.size+1<w5.heap.size;omega)).trans Sg;have Yl:w6.frozen? ⟨w.heap.size+1,q,none⟩=_:=(jC.frozen (p:=⟨w.heap.size+1,q,none⟩) (by show w.heap.size+1<w5.heap.size;omega)).trans Sr;clear jC))
        go_roundw
        case rel=>
         have hnew:=vp.out.hit (by omega) WR.out (by rw[hs2];omega) RU.out nr nX.out KJ.out RH.out (by rw[Hq.out];exact zW.out) OP.out
         rw[Hq.out]at hnew
         exact⟨r+1,_,by omega,by go_num,hnew⟩
        case measure=>simp[intOf];omega
      ·have nr:=iT.symm
       rw[Bool.false_or]at nr
       clear iT
       go_wp2_with (first|(go_at_call 106;refine aq (zY.out _) ?_;rintro e w1 ⟨rfl,hw⟩;subst w1;dsimp only)|(go_at_call 173;refine aq (OY.out w3 g_.out) ?_;rintro e w4 ⟨rfl,hb4⟩;dsimp only;have nX:Hid (Below wr.heap.size wr w4):=g_.out.trans (hb4.mono (by omega));have mJ:wr.heap.size+1<=w4.heap.size:=(by have:=hb4.size;omega);have s0:w4.cell? ⟨wr.heap.size,0,none⟩=some (.int .i64 (z:Int)):=(hb4.cell (p:=⟨wr.heap.size,0,none⟩) hs3).trans p0;have s1:w4.cell? ⟨wr.heap.size,1,none⟩=some (.int .i64 (c:Int)):=(hb4.cell (p:=⟨wr.heap.size,1,none⟩) hs3).trans p1;have s2:w4.cell? ⟨wr.heap.size,2,none⟩=some (.int .i64 (r:Int)):=(hb4.cell (p:=⟨wr.heap.size,2,none⟩) hs3).trans p2;clear hb4)|(go_at_call 173;refine aq (OX.out _ (rK _)) ?_;rintro e w3 ⟨rfl,hb3⟩;dsimp only;have g_:Hid (Below wr.heap.size wr w3):=(rK _).trans (hb3.mono (by simp));have hs3:wr.heap.size+1<=w3.heap.size:=(by have:=hb3.size;simpa using this);have p0:w3.cell? ⟨wr.heap.size,0,none⟩=some (.int .i64 (z:Int)):=(hb3.cell (p:=⟨wr.heap.size,0,none⟩) (by simp)).trans (by simp[go_sem]);have p1:w3.cell? ⟨wr.heap.size,1,none⟩=some (.int .i64 (c:Int)):=(hb3.cell (p:=⟨wr.heap.size,1,none⟩) (by simp)).trans (by simp[go_sem]);have p2:w3.cell? ⟨wr.heap.size,2,none⟩=some (.int .i64 (r:Int)):=(hb3.cell (p:=⟨wr.heap.size,2,none⟩) (by simp)).trans (by simp[go_sem]);have q9:w3.cell? ⟨w.heap.size,9,none⟩=_:=(g_.out.cell (p:=⟨w.heap.size,9,none⟩) hwl).trans r9;clear hb3))
       go_roundw
       case rel=>exact⟨r+1,vs2,by omega,by go_num,vp.out.miss RU.out nr nX.out⟩
       case measure=>simp[intOf];omega
     ·have Zt:¬(r:Int)<(bh z:Int):=by omega
      obtain rfl:r=bh z:=by omega
      go_wp2_with (first|(go_at_call 106;refine aq (zY.out _) ?_;rintro e w1 ⟨rfl,hw⟩;subst w1;dsimp only))
      go_roundw
      case rel=>exact⟨c+1,vs2,by omega,by go_num,by rw[Nat.succ_mul];exact vp.out⟩
      case measure=>simp[intOf];omega
   ·have YW:¬(c:Int)<(bh z:Int):=by omega
    obtain rfl:c=bh z:=by omega
    have Gy:=KG.out.s
    rw[yX]at Gy
    have XE:Hid (∀k,k<4->wr.cell? ⟨w.heap.size+1,k,none⟩=some (.bool (aL bs k (aQ z)))/\wr.frozen? ⟨w.heap.size+1,k,none⟩=false):=λk hk=>by rw[<-C9];exact KG.out.g k hk
    have oH:=af Gy
    have F_:Hid (Fr (λc i=>(c=A/\2<=i/\i<6)\/c=w.heap.size+1) W2 wr):=KG.out.f
    have XR:Hid (∀k,k<4->∀b,(vs1 k).ownBlock=some b->(vs k).ownBlock=some b\/W2.heap.size<=b):=KG.out.b
    clear Gy
    go_wp2_with (first|(go_at_call 106;refine aq (zY.out _) ?_;rintro e w1 ⟨rfl,hw⟩;subst w1;dsimp only))
    go_loopw [14] (λiv wq=>∃i:Nat,i<=4/\iv=.int .i64 i/\RS wq A vs1 (λk=>cY bs k (aQ z) (sh k)) (λk=>if k<i/\aL bs k (aQ z)=true then IntKind.i64.wrap (ag k+1)else ag k)/\Fr (λc i=>c=A/\6<=i/\i<10) wr wq) (λiv _=>4-(intOf iv).toNat)
    case atStart=>exact⟨0,Nat.zero_le _,rfl,by simpa using oH.out,Fr.refl _ _⟩
    case round=>
     obtain⟨i,hi,rfl,hs,hf⟩:=hrel
     have A_:=af hs
     have OQ:=af hf
     clear hs hf
     by_cases hi4:i<4
     ·have hg:=XE.out i hi4
      have Yd:wr.cell? ⟨w.heap.size+1,i,none⟩=some (.bool (aL bs i (aQ z))):=(OQ.out.cell _ _ (dz _ ⟨w.heap.size+1,i,none⟩ hg.1) (λe=>by omega)).trans hg.1
      have cAi:wr.cell? ⟨A,6+i,none⟩=some (.int .i64 (ag i)):=by have:=(A_.out.a i hi4).1;rw[if_neg (by omega)]at this;exact this
      have fAi:=(A_.out.a i hi4).2
      have xU:(i:Int)<4:=by omega
      have eH:¬(i:Int)<0:=by omega
      obtain⟨ob,SY⟩:∃b,aL bs i (aQ z)=b:=⟨_,rfl⟩
      have Uu:=af SY
      rw[SY]at Yd
      clear hg SY
      cases ob with
      |true=>
       go_wp2_with fail
       go_region
       all_goals go_wp2
       all_goals
        go_roundw
        case rel=>
         refine⟨i+1,by omega,by go_num,?_,?_⟩
         ·refine((RS.aG hi4 A_.out (wrap64 (ag i+1)))).congr (λk hk=>?_)
          unfold dR
          by_cases e:k=i
          ·subst e;rw[if_pos rfl,if_pos ⟨by omega,Uu.out⟩,w64]
          ·rw[if_neg e]
           dsimp only
           by_cases e2:k<i/\aL bs k (aQ z)=true
           ·rw[if_pos e2,if_pos ⟨by omega,e2.2⟩]
           ·rw[if_neg e2,if_neg (λe3=>e2 ⟨by omega,e3.2⟩)]
         ·exact(OQ.out.setCell (b:=A) (i:=6+i) (.inl ⟨rfl,by omega,by omega⟩) _).drew
        case measure=>simp[intOf];omega
      |false=>
       go_wp2
       go_roundw
       case rel=>
        refine⟨i+1,by omega,by go_num,A_.out.congr (λk hk=>?_),OQ.out⟩
        by_cases e2:k<i/\aL bs k (aQ z)=true
        ·rw[if_pos e2,if_pos ⟨by omega,e2.2⟩]
        ·rw[if_neg e2,if_neg (λe3=>e2 ⟨by
          have:k≠i:=λe=>by rw[e,Uu.out]at e3;cases e3.2
          omega,e3.2⟩)]
       case measure=>simp[intOf];omega
     ·have xU:¬(i:Int)<4:=by omega
      obtain rfl:i=4:=by omega
      go_wp2
      go_end0
      refine⟨rfl,vs1,A_.out.congr (λk hk=>?_),λk hk b hb=>?_,?_⟩
      ·by_cases e:aL bs k (aQ z)=true
       ·rw[if_pos ⟨hk,e⟩,if_pos e]
       ·rw[if_neg (λe'=>e e'.2),if_neg e]
      ·rcases XR.out k hk b hb with h1|h1
       ·exact .inl h1
       ·exact .inr (by rw[hs2]at h1;omega)
      ·refine(Fr.aC (Fr.of_below dm.out) F_.out (λb i hb e=>?_)).aC OQ.out (λb i _ e=>⟨e.1,by omega,e.2.2⟩)
       rcases e with e|e
       ·exact⟨e.1,e.2.1,by omega⟩
       ·omega
end
end Go.Proofs.YtenaepdmlknlcaaGreatDoor
