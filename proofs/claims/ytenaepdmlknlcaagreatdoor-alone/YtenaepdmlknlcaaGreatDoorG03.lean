import Derived.Test.YtenaepdmlknlcaaGreatDoorG01
open Go.Proofs.Tryz
set_option maxRecDepth 100000
set_option maxHeartbeats 8000000
namespace Go.Proofs.YtenaepdmlknlcaaGreatDoor
section
open Go.RowKit
def ZP(z p:Int):Prop:=(z=0/\p=32)\/(z=1/\p=16)\/(z=2/\p=8)\/(z=3/\p=4)
def cL(z:Int):Int:=if z=0 then 1 else if z=1 then 2 else if z=2 then 4 else 8
def cC(z c r:Int):Bool:=decide (0<=z/\z<=3/\0<=c/\c<cL z/\0<=r/\r<cL z)
theorem Ib(z m c r:Int)(w:World)(hz:(z=0/\m=1)\/(z=1/\m=2)\/(z=2/\m=4)\/(z=3/\m=8)):
  Calls prog 29 #[.agg #[.int .i64 z,.int .i64 c,.int .i64 r]] w λe w'=>e=.returned (.bool (decide (0<=c/\c<m/\0<=r/\r<m)))/\Below w.heap.size w w':=by
 have hB:∀o1:Obj,Below w.heap.size w (w.alloc o1):=λo1=>aU
 by_cases c1:0<=c
 ·by_cases c2:c<m
  ·by_cases c3:0<=r
   ·by_cases c4:r<m
    ·rcases hz with⟨rfl,rfl⟩|⟨rfl,rfl⟩|⟨rfl,rfl⟩|⟨rfl,rfl⟩<;>
     ·go_enter func29,ntmps29
      go_wp2
      go_ret
      exact⟨ah (by simp;omega),hB _⟩
    ·rcases hz with⟨rfl,rfl⟩|⟨rfl,rfl⟩|⟨rfl,rfl⟩|⟨rfl,rfl⟩<;>
     ·go_enter func29,ntmps29
      go_wp2
      go_ret
      exact⟨ah (by simp;omega),hB _⟩
   ·rcases hz with⟨rfl,rfl⟩|⟨rfl,rfl⟩|⟨rfl,rfl⟩|⟨rfl,rfl⟩<;>
    ·go_enter func29,ntmps29
     go_wp2
     go_ret
     exact⟨ah (by simp;omega),hB _⟩
  ·rcases hz with⟨rfl,rfl⟩|⟨rfl,rfl⟩|⟨rfl,rfl⟩|⟨rfl,rfl⟩<;>
   ·go_enter func29,ntmps29
    go_wp2
    go_ret
    exact⟨ah (by simp;omega),hB _⟩
 ·rcases hz with⟨rfl,rfl⟩|⟨rfl,rfl⟩|⟨rfl,rfl⟩|⟨rfl,rfl⟩<;>
  ·go_enter func29,ntmps29
   go_wp2
   go_ret
   exact⟨ah (by simp;omega),hB _⟩
theorem Ic(z c r:Int)(w:World)(hz:z<0\/3<z):
  Calls prog 29 #[.agg #[.int .i64 z,.int .i64 c,.int .i64 r]] w λe w'=>e=.returned (.bool false)/\Below w.heap.size w w':=by
 have hB:∀o1:Obj,Below w.heap.size w (w.alloc o1):=λo1=>aU
 by_cases c1:z<0
 ·go_enter func29,ntmps29
  go_wp2
  go_ret
  exact⟨rfl,hB _⟩
 ·have c2:3<z:=by omega
  clear hz
  go_enter func29,ntmps29
  go_wp2
  go_ret
  exact⟨rfl,hB _⟩
theorem D_(z c r:Int)(w:World):
  Calls prog 29 #[.agg #[.int .i64 z,.int .i64 c,.int .i64 r]] w λe w'=>e=.returned (.bool (cC z c r))/\Below w.heap.size w w':=by
 by_cases h:0<=z/\z<=3
 ·have hz:(z=0/\cL z=1)\/(z=1/\cL z=2)\/(z=2/\cL z=4)\/(z=3/\cL z=8):=by
   have:z=0\/z=1\/z=2\/z=3:=by omega
   rcases this with rfl|rfl|rfl|rfl<;>simp[cL]
  refine(Ib z (cL z) c r w hz).mono ?_
  rintro e w' ⟨rfl,hb⟩
  exact⟨ah (by simp[cC,h]),hb⟩
 ·refine(Ic z c r w (by omega)).mono ?_
  rintro e w' ⟨rfl,hb⟩
  refine⟨ah ?_,hb⟩
  symm
  simp only[cC,decide_eq_false_iff_not]
  omega
structure Sp where
 a:Int
 b:Int
 c:Int
 d:Int
def dH(s:Sp)(v d lo:Int):Sp:=
 if d=0/\0<lo-v then⟨2,1,-2,1⟩
 else if 0<d/\s.a*d<(lo-v)*s.b then⟨lo-v,d,s.c,s.d⟩
 else if d<0/\ -(lo-v)*s.d<s.c* -d then⟨s.a,s.b,-(lo-v),-d⟩
 else s
def Sp.bd(s:Sp):Prop:= -2000<=s.a/\s.a<=2000/\1<=s.b/\s.b<=2000/\ -2000<=s.c/\s.c<=2000/\1<=s.d/\s.d<=2000
theorem PA(s:Sp)(v d lo:Int)(w:World)(hs:s.bd)(h1: -1000<=v)(h2:v<=1000)(h3: -1000<=d)(h4:d<=1000)(h5: -1000<=lo)(h6:lo<=1000):
  Calls prog 186 #[.agg #[.int .i64 s.a,.int .i64 s.b,.int .i64 s.c,.int .i64 s.d],.int .i64 v,.int .i64 d,.int .i64 lo] w λe w'=>e=.returned (.agg #[.int .i64 (dH s v d lo).a,.int .i64 (dH s v d lo).b,.int .i64 (dH s v d lo).c,.int .i64 (dH s v d lo).d])/\Below w.heap.size w w':=by
 obtain⟨sa,sb,sc,sd⟩:=s
 obtain⟨b1,b2,b3,b4,b5,b6,b7,b8⟩:=hs
 dsimp only at b1 b2 b3 b4 b5 b6 b7 b8
 have m1:=gV (a:=sa) (b:=d) (A:=2000) (B:=1000) (by omega) (by omega) (by omega) (by omega)
 have m2:=gV (a:=lo-v) (b:=sb) (A:=2000) (B:=2000) (by omega) (by omega) (by omega) (by omega)
 have m3:=gV (a:= -(lo-v)) (b:=sd) (A:=2000) (B:=2000) (by omega) (by omega) (by omega) (by omega)
 have m4:=gV (a:=sc) (b:= -d) (A:=2000) (B:=1000) (by omega) (by omega) (by omega) (by omega)
 obtain⟨m1,n1⟩:=m1
 obtain⟨m2,n2⟩:=m2
 obtain⟨m3,n3⟩:=m3
 obtain⟨m4,n4⟩:=m4
 have hB:∀o1 o2:Obj,Below w.heap.size w ((w.alloc o1).alloc o2):=λo1 o2=>aU.alloc (by simp) _
 obtain⟨r,hr⟩:∃r,dH ⟨sa,sb,sc,sd⟩ v d lo=r:=⟨_,rfl⟩
 rw[hr]
 have HR:=af hr
 clear hr
 go_enter func186,ntmps186
 go_wp2
 all_goals
  refine bodyPost_ret (v:=.agg #[.int .i64 _,.int .i64 _,.int .i64 _,.int .i64 _]) (by simp[results,results186,go_sem];exact⟨rfl,rfl,rfl,rfl⟩) rfl ⟨?_,hB _ _⟩
  have hr:=HR.out
  simp only[dH]at hr
  split at hr
  ·subst hr;first|rfl|(exfalso;omega)
  ·split at hr
   ·subst hr;first|rfl|(exfalso;omega)
   ·split at hr
    ·subst hr;first|rfl|(exfalso;omega)
    ·subst hr;first|rfl|(exfalso;omega)
def oU(P:Int)(b:Nat):Prop:=∃s m p,Ieee.single.read b=.number s m p/\m<2^24/\p<=P
theorem Sn(neg:Bool)(n drop k:Nat)(h:n<2^(k+drop)):Ieee.Toward.even.cut neg n drop<=2^k:=by
 unfold Ieee.Toward.cut
 simp only[Nat.one_shiftLeft]
 have aaL:n/2^min drop (n.log2+2)<2^k\/n/2^min drop (n.log2+2)=0:=by
  by_cases hd:drop<=n.log2+2
  ·rw[Nat.min_eq_left hd]
   left
   rw[Nat.div_lt_iff_lt_mul (Nat.two_pow_pos _),<-Nat.pow_add]
   exact h
  ·rw[Nat.min_eq_right (by omega)]
   right
   apply Nat.div_eq_of_lt
   exact Nat.lt_of_lt_of_le Nat.lt_log2_self (Nat.pow_le_pow_right (by decide) (by omega))
 have hpos:=Nat.two_pow_pos k
 have hb:∀b:Bool,b.toNat<=1:=λb=>by cases b<;>decide
 have:=hb (decide (2^min drop (n.log2+2)<2*(n%2^min drop (n.log2+2)))||(2^min drop (n.log2+2)==2*(n%2^min drop (n.log2+2))&&n/2^min drop (n.log2+2)%2==1))
 omega
theorem zo(neg:Bool)(rung:Nat)(h:rung<255*2^23):Ieee.single.read (Ieee.single.word neg rung)=if rung<2^23 then .number neg rung (-149)else .number neg (2^23+rung%2^23) (-149+(rung/2^23-1:Nat)):=by
 have e1:Ieee.single.signWeight=2147483648:=by rfl
 have e2:Ieee.single.binade=2^23:=by rfl
 have e3:Ieee.single.infRung=255*2^23:=by rfl
 have e4:Ieee.single.leastPlace= -149:=by rfl
 have hr:rung<2147483648:=Nat.lt_trans h (by decide)
 have a1:(Ieee.single.word neg rung)/Ieee.single.signWeight%2=if neg then 1 else 0:=by
  unfold Ieee.Format.word
  rw[e1]
  cases neg
  ·simp;omega
  ·simp;omega
 have a2:(Ieee.single.word neg rung)%Ieee.single.signWeight=rung:=by
  unfold Ieee.Format.word
  rw[e1]
  cases neg
  ·simp;omega
  ·simp;omega
 have a3:((Ieee.single.word neg rung)/Ieee.single.signWeight%2==1)=neg:=by rw[a1];cases neg<;>rfl
 unfold Ieee.Format.read
 simp only[a2,a3,e2,e3,e4,if_pos h]
theorem tF(neg:Bool)(mag:Nat)(place:Int)(L:Int)(hL:place+mag.log2<=L)(hL2:L<=100)(hL3: -100<=L):oU (L-21) (Ieee.single.nearest neg mag place):=by
 unfold Ieee.Format.nearest
 by_cases h0:mag=0
 ·rw[if_pos h0]
  have:=zo neg 0 (by decide)
  rw[if_pos (by decide)]at this
  exact⟨neg,0,-149,this,by decide,by omega⟩
 rw[if_neg h0]
 have e2:Ieee.single.binade=2^23:=by rfl
 have e3:Ieee.single.infRung=255*2^23:=by rfl
 have e4:Ieee.single.leastPlace= -149:=by rfl
 have e5:(Ieee.single.fractionBits:Int)=23:=by rfl
 simp only[e2,e3,e4,e5]
 obtain⟨last,Vr⟩:∃last,last=max (place+(mag.log2:Int)-23) (-149):=⟨_,rfl⟩
 rw[<-Vr]
 have Vs:mag<2^(mag.log2+1):=Nat.lt_log2_self
 have Vm:Ieee.Toward.even.cut neg (mag<<<(place-last).toNat) (last-place).toNat<=2^24:=by
  apply Sn
  rw[Nat.shiftLeft_eq]
  by_cases hc:last<=place
  ·have:(last-place).toNat=0:=by omega
   rw[this,Nat.add_zero]
   calc mag*2^(place-last).toNat<2^(mag.log2+1)*2^(place-last).toNat:=Nat.mul_lt_mul_of_pos_right Vs (Nat.two_pow_pos _)
    _=2^(mag.log2+1+(place-last).toNat):=(Nat.pow_add 2 _ _).symm
    _<=2^24:=Nat.pow_le_pow_right (by decide) (by omega)
  ·have:(place-last).toNat=0:=by omega
   rw[this,Nat.pow_zero,Nat.mul_one]
   exact Nat.lt_of_lt_of_le Vs (Nat.pow_le_pow_right (by decide) (by omega))
 generalize Ieee.Toward.even.cut neg (mag<<<(place-last).toNat) (last-place).toNat=kept at *
 obtain⟨A,hA⟩:∃A:Nat,A=(last- -149).toNat:=⟨_,rfl⟩
 have PM:(A:Int)<=max (L+126) 0:=by omega
 rw[<-hA]
 have hk:kept<=2*2^23:=by simpa using Vm
 have MG:A*2^23+kept<=(A+2)*2^23:=by rw[Nat.add_mul];omega
 have hA3:A+2<=228:=by omega
 have hlt:A*2^23+kept<255*2^23:=Nat.lt_of_le_of_lt MG (Nat.lt_of_le_of_lt (Nat.mul_le_mul_right _ hA3) (by decide))
 rw[Nat.min_eq_left (Nat.le_of_lt hlt)]
 obtain⟨R,hR⟩:∃R,R=A*2^23+kept:=⟨_,rfl⟩
 rw[<-hR]at hlt MG⊢
 have hq:R/2^23<=A+2:=Nat.div_le_of_le_mul (by rw[Nat.mul_comm];exact MG)
 have hm:=Nat.mod_lt R (Nat.two_pow_pos 23)
 rw[oU,zo neg R hlt]
 by_cases hr:R<2^23
 ·rw[if_pos hr]
  exact⟨neg,R,-149,rfl,Nat.lt_trans hr (by decide),by omega⟩
 ·rw[if_neg hr]
  refine⟨neg,_,_,rfl,?_,?_⟩
  ·have:(2:Nat)^24=2^23+2^23:=by decide
   omega
  ·omega
variable {n k:Nat}
theorem GV(h:n<2^(k+1)):n.log2<=k:=by
 by_cases h0:n=0
 ·subst h0;simp[Nat.log2_zero]
 ·exact Nat.le_of_lt_succ ((Nat.log2_lt h0).2 h)
theorem zh(n:Int)(h1: -1000<=n)(h2:n<=1000):oU (-12) (floatOfInt .f32 n):=by
 have:n.natAbs.log2<=9:=GV (by omega)
 exact tF (n<0) n.natAbs 0 9 (by omega) (by decide) (by decide)
theorem Qk{x y:Nat}(hx:oU (-12) x)(hy:oU (-12) y):∃r,Ieee.single.mul x y=some r/\oU 2 r:=by
 obtain⟨s,m,p,e,hm,hp⟩:=hx
 obtain⟨s',m',p',e',hm',hp'⟩:=hy
 refine⟨_,by unfold Ieee.Format.mul;rw[e,e'];rfl,?_⟩
 have h48:m*m'<2^(47+1):=by
  rw[show(2:Nat)^(47+1)=2^24*2^24 by decide]
  exact Nat.mul_lt_mul'' hm hm'
 have:=GV h48
 exact tF _ (m*m') (p+p') 23 (by omega) (by decide) (by decide)
theorem Ob{P Q:Int}{x y:Nat}(hx:oU P x)(hy:oU Q y):∃r,Ieee.single.sub x y=some r:=by
 obtain⟨s,m,p,e,hm,hp⟩:=hx
 obtain⟨s',m',p',e',hm',hp'⟩:=hy
 exact⟨_,by unfold Ieee.Format.sub;rw[e,e'];rfl⟩
theorem N6(l t r b:Int)(w:World)(h1:0<=l)(h2:0<=t)(h3:0<=r)(h4:0<=b)(g1:l<=300)(g2:t<=300)(g3:r<=300)(g4:b<=300):
  Calls prog 157 #[.agg #[.int .i64 l,.int .i64 t,.int .i64 r,.int .i64 b]] w λe w'=>(∃f,e=.returned (.float .f32 f)/\oU 2 f)/\Below w.heap.size w w':=by
 obtain⟨x,hx,HX⟩:=Qk (zh (r-l+1) (by omega) (by omega)) (zh (b-t+1) (by omega) (by omega))
 have hrun:∀W:World,Sem.run prog (binOp BinOp.mul 237 (.float .f32 (floatOfInt .f32 (r-l+1))) (.float .f32 (floatOfInt .f32 (b-t+1)))) W=.ok (.float .f32 x) W:=λW=>run_float_arith W BinOp.mul 114 .f32 _ _ x hx
 have HF:=af HX
 clear HX hx
 go_enter func157,ntmps157
 go_wp2
 go_ret
 exact⟨⟨x,rfl,HF.out⟩,aU⟩
structure mh(x:Bx):Prop where
 l0:0<=x.l
 t0:0<=x.t
 r0:0<=x.r
 b0:0<=x.b
 l1:x.l<=300
 t1:x.t<=300
 r1:x.r<=300
 b1:x.b<=300
theorem mh.join{x y:Bx}(h:mh x)(k:mh y):mh (x.join y):=by
 obtain⟨a1,a2,a3,a4,a5,a6,a7,a8⟩:=h
 obtain⟨b1,b2,b3,b4,b5,b6,b7,b8⟩:=k
 constructor<;>simp only[Bx.join,ug,uh]<;>omega
variable {N m:Nat} {v0 v1 v2 v3 u0 u1 u2 u3:Value}
theorem MX{A B:World}(hb:Below N A B)(hn:n<N)(hm:m<N) 
  (s:A.cell? ⟨n,0,none⟩=some v0/\A.cell? ⟨n,1,none⟩=some v1/\A.cell? ⟨n,2,none⟩=some v2/\A.cell? ⟨n,3,none⟩=some v3/\A.cell? ⟨m,0,none⟩=some u0/\A.cell? ⟨m,1,none⟩=some u1/\A.cell? ⟨m,2,none⟩=some u2/\A.cell? ⟨m,3,none⟩=some u3):
  B.cell? ⟨n,0,none⟩=some v0/\B.cell? ⟨n,1,none⟩=some v1/\B.cell? ⟨n,2,none⟩=some v2/\B.cell? ⟨n,3,none⟩=some v3/\B.cell? ⟨m,0,none⟩=some u0/\B.cell? ⟨m,1,none⟩=some u1/\B.cell? ⟨m,2,none⟩=some u2/\B.cell? ⟨m,3,none⟩=some u3:=by
 obtain⟨hc,_⟩:=eF hb
 obtain⟨a0,a1,a2,a3,a4,a5,a6,a7⟩:=s
 exact⟨(hc _ _ hn).trans a0,(hc _ _ hn).trans a1,(hc _ _ hn).trans a2,(hc _ _ hn).trans a3,(hc _ _ hm).trans a4,(hc _ _ hm).trans a5,(hc _ _ hm).trans a6,(hc _ _ hm).trans a7⟩
theorem D5(x y:Bx)(w:World)(hx:mh x)(hy:mh y):
  Calls prog 124 #[.agg #[.int .i64 x.l,.int .i64 x.t,.int .i64 x.r,.int .i64 x.b],.agg #[.int .i64 y.l,.int .i64 y.t,.int .i64 y.r,.int .i64 y.b]] w λe w'=>(∃f,e=.returned (.float .f32 f))/\Below w.heap.size w w':=by
 have hB:∀o1 o2:Obj,Below w.heap.size w ((w.alloc o1).alloc o2):=λo1 o2=>aU.alloc (by simp) _
 obtain⟨l,t,r,b⟩:=x
 obtain⟨l',t',r',b'⟩:=y
 have hj:mh ⟨ug l l',ug t t',uh r r',uh b b'⟩:=hx.join hy
 have HS:Hid (∀(l t r b:Int) (W:World),mh ⟨l,t,r,b⟩->Calls prog 157 #[.agg #[.int .i64 l,.int .i64 t,.int .i64 r,.int .i64 b]] W λe w'=>(∃f,e=.returned (.float .f32 f)/\oU 2 f)/\Below W.heap.size W w'):=λl t r b W h=>N6 _ _ _ _ W h.1 h.2 h.3 h.4 h.5 h.6 h.7 h.8
 dsimp only
 clear hy
 go_enter func124,ntmps124
 go_upto_region 1 with fail
 go_region_held3 (λw'=>w'.cell? ⟨w.heap.size,0,none⟩=some (.int .i64 l)/\w'.cell? ⟨w.heap.size,1,none⟩=some (.int .i64 t)/\w'.cell? ⟨w.heap.size,2,none⟩=some (.int .i64 r)/\w'.cell? ⟨w.heap.size,3,none⟩=some (.int .i64 b)/\w'.cell? ⟨w.heap.size+1,0,none⟩=some (.int .i64 l')/\w'.cell? ⟨w.heap.size+1,1,none⟩=some (.int .i64 t')/\w'.cell? ⟨w.heap.size+1,2,none⟩=some (.int .i64 r')/\w'.cell? ⟨w.heap.size+1,3,none⟩=some (.int .i64 b')) (first|exact s4|exact s3|exact s2|(simp[go_sem, *];done))
  (first
  |(go_at_call 86;refine(vC l t r b l' t' r' b' _).mono ?_;rintro e w2 ⟨rfl,hb2⟩;have hz2:w.heap.size+2<=w2.heap.size:=(by have:=hb2.size;simp at this;omega);have s2:=MX (n:=w.heap.size) (m:=w.heap.size+1) hb2 (by simp<;>omega) (by simp<;>omega) (by assumption))
  |(go_at_call 157;refine aq (HS.out _ _ _ _ _ hj) ?_;rintro e w3 ⟨⟨f1,rfl,iL⟩,hb3⟩;have hz3:w.heap.size+2<=w3.heap.size:=(by have:=hb3.size;omega);have s3:=MX (n:=w.heap.size) (m:=w.heap.size+1) hb3 (by omega) (by omega) (by assumption))
  |(go_at_call 157;refine aq (HS.out _ _ _ _ _ hx) ?_;rintro e w4 ⟨⟨f2,rfl,hf2⟩,hb4⟩;have s4:=MX (n:=w.heap.size) (m:=w.heap.size+1) hb4 (by omega) (by omega) (by assumption);obtain⟨y,hy⟩:=Ob iL hf2;have hrun:∀W:World,Sem.run prog (binOp BinOp.sub 237 (.float .f32 f1) (.float .f32 f2)) W=.ok (.float .f32 y) W:=(λW=>run_float_arith W BinOp.sub 114 .f32 _ _ y hy)))
 go_wp2
 go_ret
 exact⟨⟨y,rfl⟩,(((hB _ _).drew.trans (hb2.mono (by simp;omega))).trans (hb3.mono (by omega))).trans (hb4.mono (by omega))⟩
variable {o:Nat}
theorem Rv{A B:World}(hb:Below N A B)(hn:n<N)(hm:m<N)(hk:k<N){v0 v1 v2 v3 u0 u1 u2 u3 x:Value}
  (s:A.cell? ⟨n,0,none⟩=some v0/\A.cell? ⟨n,1,none⟩=some v1/\A.cell? ⟨n,2,none⟩=some v2/\A.cell? ⟨n,3,none⟩=some v3/\A.cell? ⟨m,0,none⟩=some u0/\A.cell? ⟨m,1,none⟩=some u1/\A.cell? ⟨m,2,none⟩=some u2/\A.cell? ⟨m,3,none⟩=some u3/\A.cell? ⟨k,o,none⟩=some x):
  B.cell? ⟨n,0,none⟩=some v0/\B.cell? ⟨n,1,none⟩=some v1/\B.cell? ⟨n,2,none⟩=some v2/\B.cell? ⟨n,3,none⟩=some v3/\B.cell? ⟨m,0,none⟩=some u0/\B.cell? ⟨m,1,none⟩=some u1/\B.cell? ⟨m,2,none⟩=some u2/\B.cell? ⟨m,3,none⟩=some u3/\B.cell? ⟨k,o,none⟩=some x:=by
 obtain⟨hc,_⟩:=eF hb
 obtain⟨a0,a1,a2,a3,a4,a5,a6,a7,a8⟩:=s
 exact⟨(hc _ _ hn).trans a0,(hc _ _ hn).trans a1,(hc _ _ hn).trans a2,(hc _ _ hn).trans a3,(hc _ _ hm).trans a4,(hc _ _ hm).trans a5,(hc _ _ hm).trans a6,(hc _ _ hm).trans a7,(hc _ _ hk).trans a8⟩
theorem uf(kb ko n cap:Nat)(ks:Kids)(y:Bx)(w:World)(hk:ew w.heap.size w kb ko ks)(hn:n=ks.length)(hn1:1<=n)(hn2:n<=1000)(hw:∀k∈ks,mh k.2)(hy:mh y):
  Calls prog 89 #[.slice (some ⟨kb,ko,none⟩) n cap,.agg #[.int .i64 y.l,.int .i64 y.t,.int .i64 y.r,.int .i64 y.b]] w λe w'=>(∃i:Nat,i<n/\e=.returned (.int .i64 (i:Int)))/\Below w.heap.size w w':=by
 have hB:∀o1:Obj,Below w.heap.size w (w.alloc o1):=λo1=>aU
 obtain⟨l',t',r',b'⟩:=y
 have Hk:=af hk
 have Hn:=af hn
 have HG:Hid (∀(l t r b:Int) (W:World),mh ⟨l,t,r,b⟩->Calls prog 124 #[.agg #[.int .i64 l,.int .i64 t,.int .i64 r,.int .i64 b],.agg #[.int .i64 l',.int .i64 t',.int .i64 r',.int .i64 b']] W λe w'=>(∃f,e=.returned (.float .f32 f))/\Below W.heap.size W w'):=λl t r b W h=>D5 ⟨l,t,r,b⟩ ⟨l',t',r',b'⟩ W h hy
 have HW:=af hw
 have hkb:=hk.1
 obtain⟨q0,x0,OC,OE,wB,hc0⟩:=hk.at (i:=0) (by omega)
 have hx0:mh x0:=hw _ (List.mem_of_getElem? OC)
 obtain⟨l,t,r,b⟩:=x0
 obtain⟨a0,a1,a2,a3⟩:=hc0
 dsimp only at a0 a1 a2 a3
 simp only[Nat.add_zero]at OE
 clear hk hn hw hy OC
 dsimp only
 have t_:0<n:=by omega
 go_enter func89,ntmps89
 go_upto_region 1 with fail
 go_region_held3 (λw'=>w'.cell? ⟨w.heap.size,0,none⟩=some (.int .i64 l')/\w'.cell? ⟨w.heap.size,1,none⟩=some (.int .i64 t')/\w'.cell? ⟨w.heap.size,2,none⟩=some (.int .i64 r')/\w'.cell? ⟨w.heap.size,3,none⟩=some (.int .i64 b')/\w'.cell? ⟨q0,0,none⟩=some (.int .i64 l)/\w'.cell? ⟨q0,1,none⟩=some (.int .i64 t)/\w'.cell? ⟨q0,2,none⟩=some (.int .i64 r)/\w'.cell? ⟨q0,3,none⟩=some (.int .i64 b)/\w'.cell? ⟨kb,ko,none⟩=some (.pointer (some ⟨q0,0,none⟩))) (first|exact s2|(simp[go_sem, *];done))
  (first
  |(go_at_call 124;refine aq (HG.out _ _ _ _ _ hx0) ?_;rintro e w2 ⟨⟨f1,rfl⟩,hb2⟩;have hz2:w.heap.size+1<=w2.heap.size:=(by have:=hb2.size;simp at this;omega);have s2:=Rv (n:=w.heap.size) (m:=q0) (k:=kb) (o:=ko) hb2 (by simp<;>omega) (by simp<;>omega) (by simp<;>omega) (by assumption)))
 have hB2:Below w.heap.size w w2:=(hB _).drew.trans (hb2.mono (by simp))
 obtain⟨e0,e1,e2,e3,_⟩:=s2
 clear a0 a1 a2 a3 OE wB hx0
 go_wp2
 go_loopw [5,6,20] (λbv lv iv wr=>∃(i j f:Nat),i<=n/\j<n/\iv=.int .i64 (i:Int)/\bv=.int .i64 (j:Int)/\lv=.float .f32 f/\wr.cell? ⟨w.heap.size,0,none⟩=some (.int .i64 l')/\wr.cell? ⟨w.heap.size,1,none⟩=some (.int .i64 t')/\wr.cell? ⟨w.heap.size,2,none⟩=some (.int .i64 r')/\wr.cell? ⟨w.heap.size,3,none⟩=some (.int .i64 b')/\Below w.heap.size w wr/\w.heap.size<wr.heap.size) (λ_ _ iv _=>n-(intOf iv).toNat)
 case atStart=>exact⟨0,0,f1,by omega,by omega,rfl,rfl,rfl,e0,e1,e2,e3,hB2,by omega⟩
 case round=>
  clear e0 e1 e2 e3 hB2 hb2 hz2
  obtain⟨i,j,f,hi,hj,rfl,rfl,rfl,e0,e1,e2,e3,hBw,hs⟩:=hrel
  by_cases hlt:i<n
  ·have HkR:=Hk.out.below hBw
   obtain⟨q,x,VE,hp,hq,hc⟩:=HkR.at (i:=i) (by rw[<-Hn.out];exact hlt)
   have hx:mh x:=HW.out _ (List.mem_of_getElem? VE)
   obtain⟨l,t,r,b⟩:=x
   obtain⟨a0,a1,a2,a3⟩:=hc
   dsimp only at a0 a1 a2 a3
   clear HkR VE
   have W6:(i:Int)<(n:Int):=by omega
   go_upto_region 5 with fail
   go_region_held3 (λw'=>w'.cell? ⟨w.heap.size,0,none⟩=some (.int .i64 l')/\w'.cell? ⟨w.heap.size,1,none⟩=some (.int .i64 t')/\w'.cell? ⟨w.heap.size,2,none⟩=some (.int .i64 r')/\w'.cell? ⟨w.heap.size,3,none⟩=some (.int .i64 b')/\w'.cell? ⟨q,0,none⟩=some (.int .i64 l)/\w'.cell? ⟨q,1,none⟩=some (.int .i64 t)/\w'.cell? ⟨q,2,none⟩=some (.int .i64 r)/\w'.cell? ⟨q,3,none⟩=some (.int .i64 b)/\w'.cell? ⟨kb,ko+i,none⟩=some (.pointer (some ⟨q,0,none⟩))) (first|exact s2|(simp[go_sem, *];done))
    (first
    |(go_at_call 124;refine aq (HG.out _ _ _ _ _ hx) ?_;rintro e w2 ⟨⟨f2,rfl⟩,hb2⟩;have hz2:wr.heap.size<=w2.heap.size:=(by have:=hb2.size;simp at this;omega);have s2:=Rv (n:=w.heap.size) (m:=q) (k:=kb) (o:=ko+i) hb2 (by simp<;>omega) (by simp<;>omega) (by simp<;>omega) (by assumption)))
   have gZ:Below w.heap.size w w2:=hBw.drew.trans (hb2.mono (by simp;omega))
   obtain⟨z0,z1,z2,z3,_⟩:=s2
   clear a0 a1 a2 a3 hp hq hx e0 e1 e2 e3
   go_wp2
   all_goals first
    |exact⟨⟨i+1,i,f2,by omega,by omega,by go_num,by go_num,rfl,z0,z1,z2,z3,gZ,by omega⟩,by simp[intOf];omega⟩
    |exact⟨⟨i+1,j,f,by omega,by omega,by go_num,by go_num,rfl,z0,z1,z2,z3,gZ,by omega⟩,by simp[intOf];omega⟩
    |trace_state
  ·go_wp2
   go_ret
   exact⟨⟨j,hj,rfl⟩,hBw⟩
def IK(a b:Int):Int:=if a<b then-1 else if b<a then 1 else 0
theorem sx(a:Int)(w:World):Calls prog 181 #[.int .i64 a] w λe w'=>e=.returned (.bool false)/\w'=w:=by
 go_enter func181,ntmps181
 go_wp2
 go_ret
 exact⟨ah (by simp),rfl⟩
theorem sP(a b:Int)(w:World):Calls prog 155 #[.int .i64 a,.int .i64 b] w λe w'=>e=.returned (.int .i64 (IK a b))/\w'=w:=by
 by_cases h1:a<b
 ·go_enter func155,ntmps155
  go_wp2_with (go_at_call 181;refine(sx _ _).mono ?_;rintro e w2 ⟨rfl,rfl⟩)
  go_ret
  exact⟨kB (by simp[IK,h1]),rfl⟩
 ·by_cases h2:b<a
  ·go_enter func155,ntmps155
   go_wp2_with (go_at_call 181;refine(sx _ _).mono ?_;rintro e w2 ⟨rfl,rfl⟩)
   go_ret
   exact⟨kB (by simp[IK,h1,h2]),rfl⟩
  ·go_enter func155,ntmps155
   go_wp2_with (go_at_call 181;refine(sx _ _).mono ?_;rintro e w2 ⟨rfl,rfl⟩)
   go_ret
   exact⟨kB (by unfold IK;rw[if_neg (by omega),if_neg (by omega)]),rfl⟩
def pE(d:Bool)(x y:Bx):Int:=if d then IK (x.l+x.r) (y.l+y.r)else IK (x.t+x.b) (y.t+y.b)
theorem Em(p q:Nat)(x y:Bx)(w:World)(hp:C4 w p x)(hq:C4 w q y)(hx:mh x)(hy:mh y):
  Calls prog 154 #[.pointer (some ⟨p,0,none⟩),.pointer (some ⟨q,0,none⟩)] w λe w'=>e=.returned (.int .i64 (pE true x y))/\∃n,w'=w.drewN n:=by
 obtain⟨l,t,r,b⟩:=x
 obtain⟨l',t',r',b'⟩:=y
 obtain⟨a0,a1,a2,a3⟩:=hp
 obtain⟨c0,c1,c2,c3⟩:=hq
 obtain⟨p1,p2,p3,p4,p5,p6,p7,p8⟩:=hx
 obtain⟨q1,q2,q3,q4,q5,q6,q7,q8⟩:=hy
 dsimp only at *
 go_enter func154,ntmps154
 go_wp2
 go_quiet (first|(go_at_call 155;refine Calls.quiet_of_same (sP _ _ _)))
 go_wp2
 go_ret
 exact⟨kB (by simp[pE]),_,rfl⟩
theorem En(p q:Nat)(x y:Bx)(w:World)(hp:C4 w p x)(hq:C4 w q y)(hx:mh x)(hy:mh y):
  Calls prog 156 #[.pointer (some ⟨p,0,none⟩),.pointer (some ⟨q,0,none⟩)] w λe w'=>e=.returned (.int .i64 (pE false x y))/\∃n,w'=w.drewN n:=by
 obtain⟨l,t,r,b⟩:=x
 obtain⟨l',t',r',b'⟩:=y
 obtain⟨a0,a1,a2,a3⟩:=hp
 obtain⟨c0,c1,c2,c3⟩:=hq
 obtain⟨p1,p2,p3,p4,p5,p6,p7,p8⟩:=hx
 obtain⟨q1,q2,q3,q4,q5,q6,q7,q8⟩:=hy
 dsimp only at *
 go_enter func156,ntmps156
 go_wp2
 go_quiet (first|(go_at_call 155;refine Calls.quiet_of_same (sP _ _ _)))
 go_wp2
 go_ret
 exact⟨kB (by simp[pE]),_,rfl⟩
def mV(d:Bool):Value:=.func (.func (if d then 154 else 156)) #[] #[]
theorem IA(x:Bx)(w:World)(hx:mh x):
  Calls prog 121 #[.agg #[.int .i64 x.l,.int .i64 x.t,.int .i64 x.r,.int .i64 x.b]] w λe w'=>(∃d,e=.returned (mV d))/\Below w.heap.size w w':=by
 obtain⟨l,t,r,b⟩:=x
 obtain⟨p1,p2,p3,p4,p5,p6,p7,p8⟩:=hx
 dsimp only at *
 by_cases h:b-t<=r-l
 ·go_enter func121,ntmps121
  go_wp2
  go_ret
  exact⟨⟨true,rfl⟩,aU⟩
 ·go_enter func121,ntmps121
  go_wp2
  go_ret
  exact⟨Or.inl rfl,aU⟩
end
end Go.Proofs.YtenaepdmlknlcaaGreatDoor
