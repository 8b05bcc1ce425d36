import Derived.Test.YtenaepdmlknlcaaGreatDoorG03
open Go.Proofs.Tryz
set_option maxRecDepth 100000
set_option maxHeartbeats 8000000
namespace Go.Proofs.YtenaepdmlknlcaaGreatDoor
section
open Go.RowKit
theorem nN(z p c r:Int)(w:World)(hz:ZP z p):
  Calls prog 94 #[.agg #[.int .i64 z,.int .i64 c,.int .i64 r]] w λe w'=>e=.returned (.int .i64 (8*p))/\Below w.heap.size w w':=by
 have hB:∀(o1:Obj),Below w.heap.size w (w.alloc o1):=λo1=>aU
 rcases hz with⟨rfl,rfl⟩|⟨rfl,rfl⟩|⟨rfl,rfl⟩|⟨rfl,rfl⟩<;>
 ·go_enter func94,ntmps94
  go_wp2
  go_ret
  exact⟨rfl,hB _⟩
theorem j5(l t s:Int)(w:World)(h1: -100000<=l)(h2:l<=100000)(h3: -100000<=t)(h4:t<=100000)(h5: -100000<=s)(h6:s<=100000):
  Calls prog 95 #[.int .i64 l,.int .i64 t,.int .i64 s] w λe w'=>e=.returned (.agg #[.int .i64 l,.int .i64 t,.int .i64 (l+s),.int .i64 (t+s)])/\Below w.heap.size w w':=by
 have hB:∀(o1:Obj),Below w.heap.size w (w.alloc o1):=λo1=>aU
 go_enter func95,ntmps95
 go_wp2
 exact bodyPost_ret (v:=.agg #[.int .i64 _,.int .i64 _,.int .i64 _,.int .i64 _]) (by simp[results,results95,go_sem]) rfl ⟨rfl,hB _⟩
structure K4(w:World)(b:Nat)(v0 v1 v2 v3:Value):Prop where
 c0:w.cell? ⟨b,0,none⟩=some v0
 c1:w.cell? ⟨b,1,none⟩=some v1
 c2:w.cell? ⟨b,2,none⟩=some v2
 c3:w.cell? ⟨b,3,none⟩=some v3
 f0:w.frozen? ⟨b,0,none⟩=false
 f1:w.frozen? ⟨b,1,none⟩=false
 f2:w.frozen? ⟨b,2,none⟩=false
 f3:w.frozen? ⟨b,3,none⟩=false
variable {n b:Nat} {v0 v1 v2 v3:Value}
theorem K4.below{A B:World}(h:Below n A B)(hb:b<n)(q:K4 A b v0 v1 v2 v3):K4 B b v0 v1 v2 v3:=
 have hc:=λo=>h.cell (p:=⟨b,o,none⟩) hb
 have hf:=λo=>h.frozen (p:=⟨b,o,none⟩) hb
 ⟨(hc 0).trans q.c0,(hc 1).trans q.c1,(hc 2).trans q.c2,(hc 3).trans q.c3,(hf 0).trans q.f0,(hf 1).trans q.f1,(hf 2).trans q.f2,(hf 3).trans q.f3⟩
theorem K4.new(w:World)(v0 v1 v2 v3:Value)(t:TypeId):K4 (w.alloc (.cells #[v0,v1,v2,v3] t)) w.heap.size v0 v1 v2 v3:=by
 constructor<;>simp[go_sem]
theorem K4.new2(w:World)(o:Obj)(v0 v1 v2 v3:Value)(t:TypeId):K4 ((w.alloc o).alloc (.cells #[v0,v1,v2,v3] t)) (w.heap.size+1) v0 v1 v2 v3:=by
 have:=K4.new (w.alloc o) v0 v1 v2 v3 t
 rwa[World.size_alloc]at this
theorem jO(z p c r:Int)(w:World)(hz:ZP z p)(h1:0<=c)(h2:c<=7)(h3:0<=r)(h4:r<=7):
  Calls prog 93 #[.agg #[.int .i64 z,.int .i64 c,.int .i64 r]] w λe w'=>e=.returned (.agg #[.int .i64 (8*p*c),.int .i64 (8*p*r),.int .i64 (8*p*c+8*p),.int .i64 (8*p*r+8*p)])/\Below w.heap.size w w':=by
 have hB:∀(o1 o2:Obj),Below w.heap.size w ((w.alloc o1).alloc o2):=λo1 o2=>aU.alloc (by simp) _
 have Hz:ZP z p:=hz
 rcases hz with⟨rfl,rfl⟩|⟨rfl,rfl⟩|⟨rfl,rfl⟩|⟨rfl,rfl⟩<;>
 ·go_enter func93,ntmps93
  go_wp2_with (first
   |(go_at_call 94;refine(nN _ _ c r _ Hz).mono ?_;rintro e w1 ⟨rfl,hb1⟩;dsimp only;have q1:=(hb1.cell (p:=⟨w.heap.size,1,none⟩) (by simp<;>omega)).trans (show _=some (Value.int .i64 c) from(by simp[go_sem]));have q2:=(hb1.cell (p:=⟨w.heap.size,2,none⟩) (by simp<;>omega)).trans (show _=some (Value.int .i64 r) from(by simp[go_sem]));have hB1:Below w.heap.size w w1:=(hB _ _).trans (hb1.mono (by simp<;>omega));have hs1:w.heap.size+1<w1.heap.size:=(by have:=hb1.size;simp at this;omega);have Q1:Hid (K4 w1 (w.heap.size+1) (.int .i64 0) (.int .i64 0) (.int .i64 0) (.int .i64 0)):=K4.below hb1 (by simp) (K4.new2 _ _ _ _ _ _ _))
   |(go_at_call 95;refine(j5 _ _ _ _ (by omega) (by omega) (by omega) (by omega) (by omega) (by omega)).mono ?_;rintro e w2 ⟨rfl,hb2⟩;dsimp only;obtain⟨k0,k1,k2,k3,f0,f1,f2,f3⟩:=K4.below hb2 hs1 Q1.out))
  exact bodyPost_ret (v:=.agg #[.int .i64 _,.int .i64 _,.int .i64 _,.int .i64 _]) (by simp[results,results93,go_sem,k0,k1,k2,k3]) rfl ⟨rfl,(hB1.trans (hb2.mono hB1.size)).trans ((((bK.setCell (by simp) _).setCell (by simp) _).setCell (by simp) _).setCell (by simp) _)⟩
def T3(w:World)(b:Nat)(z c r:Int):Prop:=w.cell? ⟨b,0,none⟩=some (.int .i64 z)/\w.cell? ⟨b,1,none⟩=some (.int .i64 c)/\w.cell? ⟨b,2,none⟩=some (.int .i64 r)
theorem T3.below{A B:World}(h:Below n A B)(hb:b<n){z c r:Int}(q:T3 A b z c r):T3 B b z c r:=
 have hc:=λo=>h.cell (p:=⟨b,o,none⟩) hb
 ⟨(hc 0).trans q.1,(hc 1).trans q.2.1,(hc 2).trans q.2.2⟩
theorem A9(a b:Nat)(ha:a<4294967296)(hb:b<4294967296):bits BinOp.xor IntKind.u32 (a:Int) (b:Int)=((a^^^b:Nat):Int):=by
 have e:(BitVec.ofInt 32 (a:Int)^^^BitVec.ofInt 32 (b:Int)).toNat=a^^^b:=by
  rw[BitVec.toNat_xor]
  have h1:(BitVec.ofInt 32 (a:Int)).toNat=a:=by simp;omega
  have h2:(BitVec.ofInt 32 (b:Int)).toNat=b:=by simp;omega
  rw[h1,h2]
 have hx:a^^^b<4294967296:=Nat.xor_lt_two_pow (n:=32) ha hb
 show IntKind.u32.wrap ((BitVec.ofInt 32 (a:Int)^^^BitVec.ofInt 32 (b:Int)).toNat:Int)=_
 rw[e]
 simp[IntKind.wrap,IntKind.bits,IntKind.signed]
 omega
theorem QO(a b:Nat)(ha:a<9223372036854775808)(hb:b<9223372036854775808):bits BinOp.xor IntKind.i64 (a:Int) (b:Int)=((a^^^b:Nat):Int):=by
 have e:(BitVec.ofInt 64 (a:Int)^^^BitVec.ofInt 64 (b:Int)).toNat=a^^^b:=by
  rw[BitVec.toNat_xor]
  have h1:(BitVec.ofInt 64 (a:Int)).toNat=a:=by simp;omega
  have h2:(BitVec.ofInt 64 (b:Int)).toNat=b:=by simp;omega
  rw[h1,h2]
 have hx:a^^^b<9223372036854775808:=Nat.xor_lt_two_pow (n:=63) ha hb
 show IntKind.i64.wrap ((BitVec.ofInt 64 (a:Int)^^^BitVec.ofInt 64 (b:Int)).toNat:Int)=_
 rw[e,IntKind.wrap_i64]
 omega
def tJ(v:Nat):Nat:=if v%2=1 then(v/2)^^^3988292384 else v/2
def fU:Nat->Nat->Nat
 |0,v=>v
 |j+1,v=>tJ (fU j v)
def tL(v c:Nat):Nat:=if(v+c)%2=1 then(v/2)^^^3988292384 else v/2
def gY(v c:Nat):Nat->Nat
 |0=>v
 |j+1=>tL (gY v c j) (c/2^j)
theorem Nt{v:Nat}(h:v<4294967296):tJ v<4294967296:=by
 unfold tJ
 split
 ·exact Nat.xor_lt_two_pow (n:=32) (by omega) (by decide)
 ·omega
theorem sF{v:Nat}(h:v<4294967296):∀j,fU j v<4294967296
 |0=>h
 |j+1=>Nt (sF h j)
theorem NU{v:Nat}(h:v<4294967296)(c:Nat):tL v c<4294967296:=by
 unfold tL
 split
 ·exact Nat.xor_lt_two_pow (n:=32) (by omega) (by decide)
 ·omega
theorem zu{v:Nat}(h:v<4294967296)(c:Nat):∀j,gY v c j<4294967296
 |0=>h
 |j+1=>NU (zu h c j) _
theorem Ou(a b:Nat):(a^^^b)%2=(a+b)%2:=by
 have h:=Nat.xor_mod_two_pow (a:=a) (b:=b) (n:=1)
 simp only[Nat.pow_one]at h
 rw[h]
 have h1:a%2=0\/a%2=1:=by omega
 have h2:b%2=0\/b%2=1:=by omega
 rcases h1 with h1|h1<;>rcases h2 with h2|h2<;>rw[h1,h2]<;>simp<;>omega
theorem Ot(a b:Nat):(a^^^b)/2=(a/2)^^^(b/2):=by
 have:=Nat.xor_div_two_pow (a:=a) (b:=b) (n:=1)
 simpa using this
theorem N9(v d:Nat):tJ (v^^^d)=tL v d^^^(d/2):=by
 unfold tJ tL
 rw[Ou,Ot]
 split
 ·rw[Nat.xor_assoc,Nat.xor_comm (d/2),<-Nat.xor_assoc]
 ·rfl
theorem zF(v c:Nat):∀j,fU j (v^^^c)=gY v c j^^^(c/2^j)
 |0=>by simp[fU,gY]
 |j+1=>by
  rw[fU,zF v c j,N9,gY,Nat.pow_succ,Nat.div_div_eq_div_mul]
theorem byte_eq(v c:Nat)(hc:c<256):fU 8 (v^^^c)=gY v c 8:=by
 rw[zF,Nat.div_eq_of_lt hc,Nat.xor_zero]
def kN(l:List UInt8):Nat:=l.foldl (λv c=>fU 8 (v^^^c.toNat)) 4294967295
theorem yM(l:List UInt8)(c:UInt8):kN (l++[c])=fU 8 (kN l^^^c.toNat):=by simp[kN,List.foldl_append]
theorem EA(l:List UInt8)(c:UInt8):kN (l++[c])=gY (kN l) c.toNat 8:=by rw[yM,byte_eq _ _ c.toNat_lt]
theorem Aq(l:List UInt8):∀v,v<4294967296->l.foldl (λv c=>fU 8 (v^^^c.toNat)) v<4294967296:=by
 induction l with
 |nil=>exact λv h=>h
 |cons c r ih=>
  intro v h
  exact ih _ (sF (Nat.xor_lt_two_pow (n:=32) h (by have:=c.toNat_lt;omega)) 8)
theorem Gt(l:List UInt8):kN l<4294967296:=Aq l _ (by decide)
def rD(l:List UInt8):Nat:=4294967295-kN l
theorem A3(l:List UInt8):rD l<4294967296:=by unfold rD;omega
theorem Ov(v:Nat)(h:v<4294967296):4294967295^^^v=4294967295-v:=by
 have e:(~~~ (BitVec.ofNat 32 v)).toNat=4294967295-v:=by
  rw[BitVec.toNat_not,BitVec.toNat_ofNat,Nat.mod_eq_of_lt (by simpa using h)]
 rw[<-e,<-BitVec.allOnes_xor,BitVec.toNat_xor,BitVec.toNat_ofNat,Nat.mod_eq_of_lt (by simpa using h)]
 rfl
end
end Go.Proofs.YtenaepdmlknlcaaGreatDoor
