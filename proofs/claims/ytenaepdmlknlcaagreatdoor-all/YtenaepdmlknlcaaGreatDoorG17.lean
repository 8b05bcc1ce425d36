import Derived.Test.YtenaepdmlknlcaaGreatDoorG05
open Go.Proofs.Tryz
set_option maxRecDepth 100000
set_option maxHeartbeats 8000000
namespace Go.Proofs.YtenaepdmlknlcaaGreatDoor
section
open Go.RowKit Go.Shelf
theorem eA(s:ByteArray)(w:World):
  Calls prog 194 #[.string s] w λe w'=>e=.returned (.agg #[.bool false,.nilFunc,.string s])/\Below w.heap.size w w':=by
 go_enter func194,ntmps194
 go_wp2
 exact bodyPost_ret (v:=.agg #[.bool false,.nilFunc,.string s]) (by simp[results,results194,go_sem]) rfl ⟨rfl,aU⟩
theorem sW(w:World):
  Calls prog 192 #[] w λe w'=>e=.returned (.agg #[.bool true,.nilFunc,.string ⟨#[]⟩])/\Below w.heap.size w w':=by
 go_enter func192,ntmps192
 go_wp2
 exact bodyPost_ret (v:=.agg #[.bool true,.nilFunc,.string ⟨#[]⟩]) (by simp[results,results192,go_sem]) rfl ⟨rfl,aU⟩
theorem nP(f:Fn)(b fr:Array Value)(w:World):
  Calls prog 190 #[.func f b fr] w λe w'=>e=.returned (.agg #[.bool false,.func f b fr,.string ⟨#[]⟩])/\Below w.heap.size w w':=by
 go_enter func190,ntmps190
 go_wp2
 exact bodyPost_ret (v:=.agg #[.bool false,.func f b fr,.string ⟨#[]⟩]) (by simp[results,results190,go_sem]) rfl ⟨rfl,aU⟩
variable {n b:Nat} {W w:World}
theorem rB(h:Below n W w)(hb:n<=b)(u0 u1 u2:Value):Below n W (((w.setCell ⟨b,0,none⟩ u0).setCell ⟨b,1,none⟩ u1).setCell ⟨b,2,none⟩ u2):=
 ((h.setCell (p:=⟨b,0,none⟩) hb u0).setCell (p:=⟨b,1,none⟩) hb u1).setCell (p:=⟨b,2,none⟩) hb u2
theorem FH(p:Value)(w:World):
  Calls prog 176 #[p] w λe w'=>e=.returned (.agg #[.bool false,.nilFunc,.string ⟨#[52,48,48]⟩])/\Below w.heap.size w w':=by
 go_enter func176,ntmps176
 go_wp2_with (go_at_call 194;refine(eA _ _).mono ?_;rintro e w1 ⟨rfl,hb1⟩;dsimp only;obtain⟨r0,r1,r2,f0,f1,f2⟩:=(K3.new w (.bool false) .nilFunc (.string ⟨#[]⟩) 231).below hb1 aM)
 exact bodyPost_ret (v:=.agg #[.bool false,.nilFunc,.string ⟨#[52,48,48]⟩]) (by simp[results,results176,go_sem,r0,r1,r2]) rfl ⟨rfl,rB (aU.trans (hb1.mono (by simp))) aM _ _ _⟩
theorem lR(id z:Int)(p:Option Addr)(had:Bool)(w:World):
  Calls prog 226 #[.agg #[.int .i64 id,.pointer p,.int .i64 z],.bool had] w λe w'=>e=.returned (.string (if had=true then⟨#[50,48,48]⟩else if p.isSome=true then⟨#[50,48,49]⟩else⟨#[52,48,52]⟩))/\Below w.heap.size w w':=by
 cases had with
 |true=>
  go_enter func226,ntmps226
  go_wp2
  go_ret
  exact⟨rfl,aU⟩
 |false=>
  cases p with
  |none=>
   go_enter func226,ntmps226
   go_wp2
   go_ret
   exact⟨rfl,aU⟩
  |some a=>
   go_enter func226,ntmps226
   go_wp2
   go_ret
   exact⟨rfl,aU⟩
abbrev kZ(t:Tl)(m:ByteArray)(aG:Int)(ro:Option Addr):Value:=.agg #[.int .i64 t.z,.int .i64 t.c,.int .i64 t.r,.string m,.int .i64 aG,.pointer ro]
theorem K3.new2(w:World)(o:Obj)(v0 v1 v2:Value)(t:TypeId):K3 ((w.alloc o).alloc (.cells #[v0,v1,v2] t)) (w.heap.size+1) v0 v1 v2:=by
 have:=K3.new (w.alloc o) v0 v1 v2 t
 rwa[World.size_alloc]at this
theorem jl(w:World)(o1 o2:Obj):Below w.heap.size w ((w.alloc o1).alloc o2):=aU.alloc (by simp) _
theorem C2(A mo:Nat)(t:Tl)(m:ByteArray)(aG:Int)(ro:Option Addr)(w:World)(hl:w.cell? ⟨A,mo+1,none⟩=some (.bool true)):
  Calls prog 191 #[kZ t m aG ro,.pointer (some ⟨A,mo,none⟩)] w λe w'=>e=.returned (.agg #[.bool true,.nilFunc,.string ⟨#[]⟩])/\Below w.heap.size w w':=by
 have hA:A<w.heap.size:=dz w _ hl
 go_enter func191,ntmps191
 go_wp2_with (go_at_call 192;refine(sW _).mono ?_;rintro e w1 ⟨rfl,hb1⟩;dsimp only;obtain⟨r0,r1,r2,f0,f1,f2⟩:=(K3.new2 _ _ _ _ _ _).below hb1 aM)
 exact bodyPost_ret (v:=.agg #[.bool true,.nilFunc,.string ⟨#[]⟩]) (by simp[results,results191,go_sem,r0,r1,r2]) rfl ⟨rfl,rB ((jl w _ _).trans (hb1.mono (by simp;omega))) (Nat.le_succ _) _ _ _⟩
theorem JD(A mo:Nat)(t:Tl)(m:ByteArray)(aG:Int)(ro lz:Option Addr)(w:World)(hl:w.cell? ⟨A,mo+1,none⟩=some (.bool false))(hr:w.cell? ⟨A,mo,none⟩=some (.pointer lz)):
  Calls prog 191 #[kZ t m aG ro,.pointer (some ⟨A,mo,none⟩)] w λe w'=>e=.returned (.agg #[.bool false,.func (.func 205) #[kZ t m aG lz] #[],.string ⟨#[]⟩])/\Below w.heap.size w w':=by
 have hA:A<w.heap.size:=dz w _ hl
 go_enter func191,ntmps191
 go_wp2_with (go_at_call 190;refine(nP _ _ _ _).mono ?_;rintro e w1 ⟨rfl,hb1⟩;dsimp only;obtain⟨r0,r1,r2,f0,f1,f2⟩:=(K3.new2 _ _ _ _ _ _).below hb1 aM)
 exact bodyPost_ret (v:=.agg #[.bool false,.func (.func 205) #[kZ t m aG lz] #[],.string ⟨#[]⟩]) (by simp[results,results191,go_sem,r0,r1,r2]) rfl ⟨rfl,rB ((jl w _ _).trans (hb1.mono (by simp;omega))) (Nat.le_succ _) _ _ _⟩
abbrev gL(id:Int)(p:Option Addr)(aak:Int):Value:=.agg #[.int .i64 id,.pointer p,.int .i64 aak]
theorem CV(A mo:Nat)(id z:Int)(p:Option Addr)(w:World)(hl:w.cell? ⟨A,mo+1,none⟩=some (.bool true)):
  Calls prog 175 #[gL id p z,.pointer (some ⟨A,mo,none⟩)] w λe w'=>e=.returned (.agg #[.bool true,.nilFunc,.string ⟨#[]⟩])/\Below w.heap.size w w':=by
 have hA:A<w.heap.size:=dz w _ hl
 go_enter func175,ntmps175
 go_wp2_with (go_at_call 192;refine(sW _).mono ?_;rintro e w1 ⟨rfl,hb1⟩;dsimp only;obtain⟨r0,r1,r2,f0,f1,f2⟩:=(K3.new2 _ _ _ _ _ _).below hb1 aM)
 exact bodyPost_ret (v:=.agg #[.bool true,.nilFunc,.string ⟨#[]⟩]) (by simp[results,results175,go_sem,r0,r1,r2]) rfl ⟨rfl,rB ((jl w _ _).trans (hb1.mono (by simp;omega))) (Nat.le_succ _) _ _ _⟩
theorem Jw(A mo:Nat)(id z:Int)(p:Option Addr)(w:World)(hl:w.cell? ⟨A,mo+1,none⟩=some (.bool false))(hf:w.frozen? ⟨A,mo+1,none⟩=false):
  Calls prog 175 #[gL id p z,.pointer (some ⟨A,mo,none⟩)] w λe w'=>e=.returned (.agg #[.bool false,.func (.func 193) #[gL id p z] #[],.string ⟨#[]⟩])/\w'.cell? ⟨A,mo+1,none⟩=some (.bool true)/\w'.frozen? ⟨A,mo+1,none⟩=false/\Fr (λc j=>c=A/\j=mo+1) w w':=by
 have hA:A<w.heap.size:=dz w _ hl
 have hsz:(w.setCell ⟨A,mo+1,none⟩ (.bool true)).heap.size=w.heap.size:=by simp[World.setCell]
 go_enter func175,ntmps175
 go_wp2_with (go_at_call 190;refine(nP _ _ _ _).mono ?_;rintro e w1 ⟨rfl,hb1⟩;dsimp only;have hk:=(K3.new2 (w.setCell ⟨A,mo+1,none⟩ (.bool true)) _ _ _ _ _).below hb1 aM;rw[hsz]at hk;obtain⟨r0,r1,r2,f0,f1,f2⟩:=hk)
 have Rf:Fr (λc j=>c=A/\j=mo+1) w w1:=((((Fr.refl (λc j=>c=A/\j=mo+1) w).setCell (b:=A) (i:=mo+1) (.inl ⟨rfl,rfl⟩) _).alloc _).alloc _).trans (Fr.of_below hb1)
 have mH:A<(w.setCell ⟨A,mo+1,none⟩ (.bool true)).heap.size:=by rw[hsz];exact hA
 have c1:w1.cell? ⟨A,mo+1,none⟩=some (.bool true):=(hb1.cell (p:=⟨A,mo+1,none⟩) (by simp;omega)).trans (((jl (w.setCell ⟨A,mo+1,none⟩ (.bool true)) _ _).cell (p:=⟨A,mo+1,none⟩) mH).trans (cell_eq hl _))
 have e1:w1.frozen? ⟨A,mo+1,none⟩=false:=(hb1.frozen (p:=⟨A,mo+1,none⟩) (by simp;omega)).trans (((jl (w.setCell ⟨A,mo+1,none⟩ (.bool true)) _ _).frozen (p:=⟨A,mo+1,none⟩) mH).trans (by rw[World.frozen?_setCell];exact hf))
 have hs3:=λu0 u1 u2=>Dr w1 (w.heap.size+1) u0 u1 u2
 have hz1:w.heap.size+2<=w1.heap.size:=by have:=hb1.size;simp at this;omega
 refine bodyPost_ret (v:=.agg #[.bool false,.func (.func 193) #[gL id p z] #[],.string ⟨#[]⟩]) (by simp[results,results175,go_sem,r0,r1,r2]) rfl ⟨rfl,?_,?_,?_⟩
 ·exact((hs3 _ _ _).cell A _ (by omega) (λe=>by have:A=w.heap.size+1:=e;omega)).trans c1
 ·exact((hs3 _ _ _).frozen A _ (by omega) (λe=>by have:A=w.heap.size+1:=e;omega)).trans e1
 ·exact Rf.aC (hs3 _ _ _) (λc j hc e=>by have:c=w.heap.size+1:=e;omega)
theorem dn(n:Int)(w:World):Calls prog 76 #[.int .i64 n] w λe w'=>e=.returned (.bool (decide (0<=n/\n<4)))/\w'=w:=by
 by_cases h1:0<=n
 ·by_cases h2:n<4
  ·go_enter func76,ntmps76
   go_wp2
   go_ret
   exact⟨ah (by simp;omega),rfl⟩
  ·go_enter func76,ntmps76
   go_wp2
   go_ret
   exact⟨ah (by simp;omega),rfl⟩
 ·go_enter func76,ntmps76
  go_wp2
  go_ret
  exact⟨ah (by simp;omega),rfl⟩
theorem Ql(w:World):Sem.run prog (binOp BinOp.neq 131 .nilFunc .nilFunc) w=.ok (.bool false) w:=by kernel_rfl
theorem Tj(f:Fn)(b fr:Array Value)(w:World):Sem.run prog (binOp BinOp.neq 131 (.func f b fr) .nilFunc) w=.ok (.bool true) w:=by kernel_rfl
theorem mZ(w:World):Sem.run prog (binOp BinOp.eql 131 .nilFunc .nilFunc) w=.ok (.bool true) w:=by kernel_rfl
theorem mY(f:Fn)(b fr:Array Value)(w:World):Sem.run prog (binOp BinOp.eql 131 (.func f b fr) .nilFunc) w=.ok (.bool false) w:=by kernel_rfl
theorem A7(A o c:Nat)(cap:Nat)(buf:Array Value)(cl:Bool)(s r:Nat)(w:World)(hc:w.cell? ⟨A,o,none⟩=some (.chan (some c)))(hn:w.cell? ⟨A,o+1,none⟩=some .nilFunc)(hch:w.heap[c]? =some (.chan cap buf cl s r false)):
  Calls prog 50 #[.pointer (some ⟨A,o,none⟩)] w λe w'=>e=.returned (.int .i64 (buf.size:Int))/\w'=w:=by
 have hlen:=λty=>Conc.run_len_chan (P:=prog) 129 ty underlying129 hch
 have hne:=Ql w
 clear hch
 go_enter func50,ntmps50
 go_wp2
 go_ret
 exact⟨rfl,rfl⟩
theorem A6(A o c:Nat)(cap:Nat)(buf:Array Value)(cl:Bool)(s r:Nat)(f:Fn)(b fr:Array Value)(w:World)(hc:w.cell? ⟨A,o,none⟩=some (.chan (some c)))(hn:w.cell? ⟨A,o+1,none⟩=some (.func f b fr))(hch:w.heap[c]? =some (.chan cap buf cl s r false))(hb:buf.size<=1000):
  Calls prog 50 #[.pointer (some ⟨A,o,none⟩)] w λe w'=>e=.returned (.int .i64 ((buf.size:Int)+1))/\w'=w:=by
 have hlen:=λty=>Conc.run_len_chan (P:=prog) 129 ty underlying129 hch
 have hne:=Tj f b fr w
 clear hch
 go_enter func50,ntmps50
 go_wp2
 go_ret
 exact⟨rfl,rfl⟩
theorem Kg(A o:Nat)(v:Option Addr)(n cap:Nat)(w:World)(hv:w.cell? ⟨A,o+2,none⟩=some (.slice v n cap))(hf:w.frozen? ⟨A,o+2,none⟩=false):
  Calls prog 78 #[.pointer (some ⟨A,o,none⟩)] w λe w'=>e=.returned (.slice v n cap)/\w'=w.setCell ⟨A,o+2,none⟩ (.slice none 0 0):=by
 go_enter func78,ntmps78
 go_wp2
 go_ret
 exact⟨rfl,rfl⟩
end
section
open Go.Conc Go.RowKit Go.Shelf
variable {args:Array Value} {w:World}
theorem LoneTo.call{P:Program}{Q:Goroutine->World->Prop}{f:FuncId}{R:Ending->World->Prop}{c:Frame}{cs:List Frame}(h:Calls P f args w R)
  (hR:∀e w',R e w'->∃v,e=.returned v/\LoneTo P Q (G (c.finish v) cs) w'):LoneTo P Q (G (Frame.enter P f args .normal) (c::cs)) w:=by
 obtain⟨e,w',fr,hr,hc,hf,hl⟩:=h (c::cs)
 obtain⟨v,rfl,g₂,w₂,hs,hq⟩:=hR e w' hr
 exact⟨g₂,w₂,Steps.trans hc (Steps.head (step_leave_returned hl) hs),hq⟩
structure BJ(w:World)(A o c cap:Nat)(buf:Array Value)(sn r:Nat)(nx:Value):Prop where
 c0:w.cell? ⟨A,o,none⟩=some (.chan (some c))
 c1:w.cell? ⟨A,o+1,none⟩=some nx
 ch:w.heap[c]? =some (.chan cap buf false sn r false)
 le:buf.size<=1000
 nx:nx=.nilFunc\/∃f b,nx=.func f b #[]
def mW:Value->Nat| .nilFunc=>0|_=>1
theorem kI(A o c cap:Nat)(buf:Array Value)(sn r:Nat)(nx:Value)(w:World)(h:BJ w A o c cap buf sn r nx):
  Calls prog 50 #[.pointer (some ⟨A,o,none⟩)] w λe w'=>e=.returned (.int .i64 ((buf.size:Int)+(mW nx:Nat)))/\w'=w:=by
 obtain⟨c0,c1,ch,le,lH⟩:=h
 rcases lH with rfl|⟨f,b,rfl⟩
 ·exact(A7 A o c cap buf false sn r w c0 c1 ch).mono λ_ _ ⟨he,hw⟩=>⟨by rw[he];simp[mW],hw⟩
 ·exact(A6 A o c cap buf false sn r f b #[] w c0 c1 ch le).mono λ_ _ ⟨he,hw⟩=>⟨by rw[he];simp[mW],hw⟩
theorem Ag(A:Nat)(n:Int)(s:ByteArray)(w:World)(hn:¬(0<=n/\n<4)):
  Calls prog 42 #[.pointer (some ⟨A,0,none⟩),.int .i64 n,.string s] w λe w'=>e=.returned (.int .i64 2)/\w'=w:=by
 have hd:decide (0<=n/\n<4)=false:=decide_eq_false hn
 go_enter func42,ntmps42
 go_wp2_with (go_at_call 76;refine(dn n _).mono ?_;rintro e w1 ⟨rfl,rfl⟩;rw[hd];dsimp only)
 go_ret
 exact⟨rfl,rfl⟩
theorem Il(A k c cap:Nat)(buf:Array Value)(sn r:Nat)(nx:Value)(s:ByteArray)(w:World)(hk:k<4)(h:BJ w A (11+k*3) c cap buf sn r nx)(hfull:6<=buf.size+mW nx):
  Calls prog 42 #[.pointer (some ⟨A,0,none⟩),.int .i64 (k:Int),.string s] w λe w'=>e=.returned (.int .i64 3)/\w'=w:=by
 have hd:decide (0<=(k:Int)/\(k:Int)<4)=true:=decide_eq_true (by omega)
 have HW:Hid _:=kI A (11+k*3) c cap buf sn r nx w h
 have hk0:(0:Int)<=(k:Int):=by omega
 have hk4:(k:Int)<4:=by omega
 obtain⟨q,hq⟩:∃q:Int,(buf.size:Int)+(mW nx:Nat)=q:=⟨_,rfl⟩
 have hq6:6<=q:=by omega
 rw[hq]at HW
 clear h hfull hq
 go_enter func42,ntmps42
 go_wp2_with (first
  |(go_at_call 76;refine(dn (k:Int) _).mono ?_;rintro e w1 ⟨rfl,rfl⟩;rw[hd];dsimp only)
  |(go_at_call 50;refine aq HW.out ?_;rintro e w1 ⟨rfl,rfl⟩;dsimp only))
 go_ret
 exact⟨rfl,rfl⟩
theorem Im(A k c cap:Nat)(buf:Array Value)(sn r:Nat)(nx:Value)(s:ByteArray)(w:World)(hk:k<4)(h:BJ w A (11+k*3) c cap buf sn r nx)(hfull:buf.size+mW nx<6)(hs:200<s.size):
  Calls prog 42 #[.pointer (some ⟨A,0,none⟩),.int .i64 (k:Int),.string s] w λe w'=>e=.returned (.int .i64 1)/\w'=w:=by
 have hd:decide (0<=(k:Int)/\(k:Int)<4)=true:=decide_eq_true (by omega)
 have HW:Hid _:=kI A (11+k*3) c cap buf sn r nx w h
 have hk0:(0:Int)<=(k:Int):=by omega
 have hk4:(k:Int)<4:=by omega
 obtain⟨q,hq⟩:∃q:Int,(buf.size:Int)+(mW nx:Nat)=q:=⟨_,rfl⟩
 have hq6:¬6<=q:=by omega
 have hs':(200:Int)<(s.size:Int):=by omega
 rw[hq]at HW
 clear h hfull hq
 go_enter func42,ntmps42
 go_wp2_with (first
  |(go_at_call 76;refine(dn (k:Int) _).mono ?_;rintro e w1 ⟨rfl,rfl⟩;rw[hd];dsimp only)
  |(go_at_call 50;refine aq HW.out ?_;rintro e w1 ⟨rfl,rfl⟩;dsimp only))
 go_ret
 exact⟨rfl,rfl⟩
theorem Pj(A k c cap:Nat)(buf:Array Value)(sn r:Nat)(nx:Value)(s:ByteArray)(w:World)(hk:k<4)(h:BJ w A (11+k*3) c cap buf sn r nx)(hfull:buf.size+mW nx<6)(hs:s.size<=200)(hcap:6<=cap):
  Calls prog 42 #[.pointer (some ⟨A,0,none⟩),.int .i64 (k:Int),.string s] w λe w'=>e=.returned (.int .i64 0)/\w'=w.setChan c cap (buf.push (.string s)) false (sn+1) r false:=by
 have hd:decide (0<=(k:Int)/\(k:Int)<4)=true:=decide_eq_true (by omega)
 have HW:Hid _:=kI A (11+k*3) c cap buf sn r nx w h
 have hk0:(0:Int)<=(k:Int):=by omega
 have hk4:(k:Int)<4:=by omega
 obtain⟨q,hq⟩:∃q:Int,(buf.size:Int)+(mW nx:Nat)=q:=⟨_,rfl⟩
 have hq6:¬6<=q:=by omega
 have hs':¬(200:Int)<(s.size:Int):=by omega
 rw[hq]at HW
 refine calls_of_loneTo λcs=>?_
 have e:Frame.enter prog 42 #[.pointer (some ⟨A,0,none⟩),.int .i64 (k:Int),.string s] .normal=(base 42).at ⟨#[.pointer (some ⟨A,0,none⟩),.int .i64 (k:Int),.string s,undef,undef,undef,undef,undef,undef,undef,undef,undef,undef,undef,undef,undef,undef,undef,undef,undef,undef,undef,undef,undef,undef,undef,undef],[]⟩ [.code (Tryz.f42.body.getD .skip)]:=by
  simp[Frame.enter,Frame.at,func42,base,Tryz.f42]
 rw[e]
 refine LoneTo.goes (n:=12) ?_
 simp only[Tryz.f42,Option.getD_some]
 s_c stepG_seq
 s_reg
 s_op
 s_c stepG_region_end
 s_c stepG_seq
 s_c stepG_seq
 s_reg
 s_op
 s_in
 refine goes_call rfl rfl (by decide) rfl func76 (by decide) rfl ⟨trivial,?_⟩
 s_stop
 rw[<-enter_at _ func76 rfl]
 simp only[List.map_toArray,List.map_cons,List.map_nil,Act.eval]
 refine LoneTo.call (dn (k:Int) w) ?_
 rintro _ w1 ⟨rfl,rfl⟩
 refine⟨_,rfl,?_⟩
 rw[Frame.finish_at,hd]
 walk_nrm
 refine LoneTo.goes (n:=16) ?_
 s_op
 s_c stepG_region_end
 s_cond false
 s_c stepG_skip
 s_c stepG_seq
 s_reg
 s_op
 s_op
 s_op
 s_op
 s_op
 s_op
 s_c stepG_region_end
 s_c stepG_seq
 s_c stepG_seq
 s_stop
 refine LoneTo.goes (n:=3) ?_
 s_reg
 s_op
 s_in
 refine goes_call rfl rfl (by decide) rfl func50 (by decide) rfl ⟨trivial,?_⟩
 s_stop
 rw[<-enter_at _ func50 rfl]
 simp only[List.map_toArray,List.map_cons,List.map_nil,Act.eval]
 refine LoneTo.call HW.out ?_
 rintro _ w2 ⟨rfl,rfl⟩
 refine⟨_,rfl,?_⟩
 rw[Frame.finish_at]
 walk_nrm
 refine LoneTo.goes (n:=12) ?_
 s_op
 s_c stepG_region_end
 s_cond false
 s_c stepG_skip
 s_c stepG_seq
 s_c stepG_seq
 s_reg
 s_op
 s_op
 s_op
 s_c stepG_region_end
 s_cond false
 s_stop
 refine LoneTo.goes (n:=6) ?_
 s_c stepG_skip
 s_c stepG_seq
 s_reg
 have hch:=h.ch
 have c0:=h.c0
 s_op
 s_op
 s_op
 s_stop
 refine LoneTo.goes (n:=2) ?_
 s_op
 s_op
 s_stop
 refine LoneTo.step (step_lone_send_room (c:=c) (v:=.string s) (z':=.tuple #[]) (cap:=cap) (s:=sn) (r:=r) (tm:=false) (stepG_comm (cases:=#[scase c (.string s) (.tuple #[])]) (blocking:=true) (shape:=.send) (w':=w2) rfl rfl (by decide) (by simp[go_sem,execOp,scase,Act.eval])) hch (by omega)) ?_
 rw[Frame.finish_at]
 walk_nrm
 refine LoneTo.goes (n:=5) ?_
 s_c stepG_region_end
 s_c stepG_seq
 s_reg
 s_op
 s_c stepG_region_end
 s_stop
 refine LoneTo.goes (n:=1) ?_
 s_c stepG_ret'
 s_stop
 refine LoneTo.done ⟨.returned (.int .i64 0),_,rfl,⟨rfl,rfl⟩,rfl,rfl,rfl,rfl,_,func42,by simp[results,Tryz.f42,Frame.at]⟩
end
section
open Go.RowKit Go.Shelf
def Enters(f:Nat):Prop:=∀(a:Array Value) (w:World),Sem.run prog (callFunc f a) w=.ok (.enter f a) w
theorem AP(A o mo f:Nat)(b:Array Value)(w:World)(_hA:A<w.heap.size)(h1:w.cell? ⟨A,o+1,none⟩=some (.func (.func f) b #[]))(hE:Enters f)
  (hC:Calls prog f (b.push (.pointer (some ⟨A,mo,none⟩))) w λe w'=>e=.returned (.agg #[.bool true,.nilFunc,.string ⟨#[]⟩])/\Below w.heap.size w w'):
  Calls prog 77 #[.pointer (some ⟨A,o,none⟩),.pointer (some ⟨A,mo,none⟩)] w λe w'=>e=.returned (.bool false)/\Below w.heap.size w w':=by
 have HC:Hid _:=hC
 clear hC
 have heq:=mY (.func f) b #[]
 have UK:=hE (b.push (.pointer (some ⟨A,mo,none⟩))) w
 clear hE
 go_enter func77,ntmps77
 go_wp2_with (refine aq HC.out ?_;rintro e w1 ⟨rfl,hb1⟩;dsimp only)
 go_ret
 exact⟨rfl,hb1.alloc hb1.size _⟩
theorem IZ:Enters 174:=λ_ _=>by kernel_rfl
theorem I0:Enters 175:=λ_ _=>by kernel_rfl
theorem I2:Enters 176:=λ_ _=>by kernel_rfl
theorem I3:Enters 191:=λ_ _=>by kernel_rfl
theorem I4:Enters 193:=λ_ _=>by kernel_rfl
theorem I5:Enters 205:=λ_ _=>by kernel_rfl
theorem I6:Enters 208:=λ_ _=>by kernel_rfl
theorem Ac(A:Nat)(n:Int)(w:World)(hn:¬(0<=n/\n<4)):
  Calls prog 43 #[.pointer (some ⟨A,0,none⟩),.int .i64 n] w λe w'=>e=.returned (.tuple #[.bool false,.int .i64 2])/\w'=w:=by
 have hd:decide (0<=n/\n<4)=false:=decide_eq_false hn
 go_enter func43,ntmps43
 go_wp2_with (go_at_call 76;refine(dn n _).mono ?_;rintro e w1 ⟨rfl,rfl⟩;rw[hd];dsimp only)
 exact bodyPost_ret (v:=.tuple #[.bool false,.int .i64 2]) (by simp[results,results43,go_sem]) rfl ⟨rfl,rfl⟩
theorem K_(A k:Nat)(bl:Bool)(R:World->Prop)(w:World)(hk:k<4)(h:Calls prog 77 #[.pointer (some ⟨A,11+k*3,none⟩),.pointer (some ⟨A,0,none⟩)] w.drew λe w'=>e=.returned (.bool bl)/\R w'):
  Calls prog 43 #[.pointer (some ⟨A,0,none⟩),.int .i64 (k:Int)] w λe w'=>e=.returned (.tuple #[.bool bl,.int .i64 0])/\R w':=by
 have hd:decide (0<=(k:Int)/\(k:Int)<4)=true:=decide_eq_true (by omega)
 have HP:Hid _:=h
 have hk0:(0:Int)<=(k:Int):=by omega
 have hk4:(k:Int)<4:=by omega
 clear h
 go_enter func43,ntmps43
 go_wp2_with (go_at_call 76;refine(dn (k:Int) _).mono ?_;rintro e w1 ⟨rfl,rfl⟩;rw[hd];dsimp only)
 go_region_with (go_at_call 77;refine aq HP.out ?_;rintro e w2 ⟨rfl,hR⟩;dsimp only)
 all_goals
  go_wp2
  exact bodyPost_ret (v:=.tuple #[.bool bl,.int .i64 0]) (by simp[results,results43,go_sem]) rfl ⟨rfl,hR⟩
theorem tR(A:Nat)(n:Int)(w:World)(hn:¬(0<=n/\n<4)):
  Calls prog 44 #[.pointer (some ⟨A,0,none⟩),.int .i64 n] w λe w'=>e=.returned (.tuple #[.slice none 0 0,.int .i64 2])/\w'=w:=by
 have hd:decide (0<=n/\n<4)=false:=decide_eq_false hn
 go_enter func44,ntmps44
 go_wp2_with (go_at_call 76;refine(dn n _).mono ?_;rintro e w1 ⟨rfl,rfl⟩;rw[hd];dsimp only)
 exact bodyPost_ret (v:=.tuple #[.slice none 0 0,.int .i64 2]) (by simp[results,results44,go_sem]) rfl ⟨rfl,rfl⟩
theorem Bf(A k:Nat)(v:Option Addr)(n cap:Nat)(w:World)(hk:k<4)(hv:w.cell? ⟨A,11+k*3+2,none⟩=some (.slice v n cap))(hf:w.frozen? ⟨A,11+k*3+2,none⟩=false):
  Calls prog 44 #[.pointer (some ⟨A,0,none⟩),.int .i64 (k:Int)] w λe w'=>e=.returned (.tuple #[.slice v n cap,.int .i64 0])/\w'=w.setCell ⟨A,11+k*3+2,none⟩ (.slice none 0 0):=by
 have hd:decide (0<=(k:Int)/\(k:Int)<4)=true:=decide_eq_true (by omega)
 have HP:Hid _:=Kg A (11+k*3) v n cap w hv hf
 have hk0:(0:Int)<=(k:Int):=by omega
 have hk4:(k:Int)<4:=by omega
 clear hv hf
 go_enter func44,ntmps44
 go_wp2_with (first
  |(go_at_call 76;refine(dn (k:Int) _).mono ?_;rintro e w1 ⟨rfl,rfl⟩;rw[hd];dsimp only)
  |(go_at_call 78;refine aq HP.out ?_;rintro e w1 ⟨rfl,rfl⟩;dsimp only))
 exact bodyPost_ret (v:=.tuple #[.slice v n cap,.int .i64 0]) (by simp[results,results44,go_sem]) rfl ⟨rfl,rfl⟩
end
end Go.Proofs.YtenaepdmlknlcaaGreatDoor
