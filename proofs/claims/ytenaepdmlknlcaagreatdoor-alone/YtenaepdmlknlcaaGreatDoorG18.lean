import Derived.Test.YtenaepdmlknlcaaGreatDoorCards
import Derived.Test.YtenaepdmlknlcaaGreatDoorTie
import Derived.Deep.SlicePairs
import Derived.Lib.SmallJoins
import Derived.KernelRfl
import Derived.ProofKit
import Derived.Carry
import Derived.Deep.DeepHandedRow
import Derived.Lib.LaidTab
import Derived.Test.YtenaepdmlknlcaaGreatDoorG15
open Go.Proofs.Tryz
set_option maxRecDepth 100000
set_option maxHeartbeats 8000000
namespace Go.Proofs.YtenaepdmlknlcaaGreatDoor
section
open Go.RowKit Go.Shelf
def i64(c:Int):Prop:= -9223372036854775808<=c/\c<=9223372036854775807
end
section
open Go.ChangeShapes Go.WideShapes Go.ChangeAt Go.RowKit Go.Deep
theorem own:ownKnob prog.godebug=none:=by kernel_rfl
theorem laidOut:laidOutB prog=true:=by kernel_rfl
theorem UF:prog.globalNamed "math/bits.deBruijn64tab"=some 3:=by kernel_rfl
theorem L8:(prog.globals[3]?).map (·.type)=some 315:=by kernel_rfl
theorem Ym:prog.globalNamed "internal/strconv.uint64pow10"=some 0:=by kernel_rfl
theorem LZ:(prog.globals[0]?).map (·.type)=some 279:=by kernel_rfl
theorem Yo:prog.globalNamed "strconv.ErrSyntax"=some 6:=by kernel_rfl
theorem L6:(prog.globals[6]?).map (·.type)=some 202:=by kernel_rfl
theorem Yn:prog.globalNamed "strconv.ErrRange"=some 7:=by kernel_rfl
theorem L0:(prog.globals[7]?).map (·.type)=some 202:=by kernel_rfl
theorem LD:prog.cellsOf 315=64:=by kernel_rfl
theorem LC:prog.cellsOf 279=20:=by kernel_rfl
theorem Si:prog.cellsOf 5=1:=by kernel_rfl
def Oe:List Int:=[0,1,56,2,57,49,28,3,61,58,42,50,38,29,17,4,62,47,59,36,45,43,51,22,53,39,33,30,24,18,12,5,63,55,48,27,60,41,37,16,46,35,44,21,52,32,23,11,54,26,40,15,34,20,31,10,25,14,19,9,13,8,7,6]
def Rx:List Int:=[1,10,100,1000,10000,100000,1000000,10000000,100000000,1000000000,10000000000,100000000000,1000000000000,10000000000000,100000000000000,1000000000000000,10000000000000000,100000000000000000,1000000000000000000,10000000000000000000]
theorem Od:Rx=Lib.pow10Tab:=by decide+kernel
theorem V_:Oe.getD 15 0=4:=by kernel_rfl
theorem AB{P:Program}{w:World}{g:Nat}{t:TypeId}{zero:Array Value}(h:w.ShapedOpen P)(hg:g<P.globals.size)
  (h0:((begin P (λ_ _=>0) default).world.heap[g]?).bind Obj.row? =some (zero,t)) (hz:zero.size=1) (hb:P.buildable t=true) (hc:P.cellTypes P.depth t=some [t]) (hu:P.underlying t=some (.int .i64)):∃m,w.cell? ⟨g,0,none⟩=some (.int .i64 m):=by
 obtain⟨cs,h1,h2,h3⟩:=h.1 g zero t hg h0
 obtain⟨ts,h4,_,h5⟩:=h3 hb
 obtain rfl:ts=[t]:=Option.some.inj (h4.symm.trans hc)
 have hlt:0<cs.size:=by omega
 obtain⟨u,h6,h7⟩:=h5 0 cs[0] (Array.getElem?_eq_getElem hlt)
 obtain rfl:u=t:=by simpa using h6.symm
 have hcell:w.cell? ⟨g,0,none⟩=some cs[0]:=by simp[World.cell?,h1,hlt]
 rw[hcell]
 generalize cs[0]=c at h7
 unfold Cell.ok at h7
 rw[hu]at h7
 cases c<;>simp at h7
 exact⟨_,by rw[h7.1]⟩
theorem wG{W:World}{n:String}{g:Nat}{nm:String}{d:DataW Unit}(hg:prog.globalNamed n=some g)(hty:(prog.globals[g]?).map (·.type)=some 202)(h:laidMet prog [(n,.iface nm d)] W):∃te pe,W.cell? ⟨g,0,none⟩=some (.iface te pe):=by
 obtain⟨ps,⟨g',t',cs,fuel,p,q,hg',ht',ZL,hd,_,_⟩,_⟩:=h
 obtain rfl:=Option.some.inj (hg.symm.trans hg')
 obtain rfl:=Option.some.inj (hty.symm.trans ht')
 obtain⟨_,u,v,e,_,_⟩:=iface_of_trod underlying202 hd
 refine⟨u,v,?_⟩
 rw[World.var?_cell hg ZL 0]
 have:cs=#[.iface u v]:=by
  apply Array.toList_inj.1
  rw[e]
 rw[this];rfl
theorem Rb{W:World}(h:laidMetH prog Rows.fairUptoRow.laid W)(hsh:W.ShapedOpen prog):Gl W:=by
 have h64:Lib.TabIs prog W "math/bits.deBruijn64tab" .u8 Oe:=
  Lib.tabIs_of_head (rest:=[]) UF L8 underlying315 underlying5 Si LD (laidMetH.filter (λx=>x.1=="math/bits.deBruijn64tab") h)
 have h20:Lib.TabIs prog W "internal/strconv.uint64pow10" .u64 Rx:=
  Lib.tabIs_of_head (rest:=[]) Ym LZ underlying279 (by kernel_rfl) (by kernel_rfl) LC (laidMetH.filter (λx=>x.1=="internal/strconv.uint64pow10") h)
 obtain⟨te,pe,h6⟩:=wG Yo L6 (laidMetH.filter (λx=>x.1=="strconv.ErrSyntax") h)
 obtain⟨Wa,VX,h7⟩:=wG Yn L0 (laidMetH.filter (λx=>x.1=="strconv.ErrRange") h)
 have hm:∃m,W.cell? ⟨1,0,none⟩=some (.int .i64 m):=AB (zero:=#[.int .i64 0]) hsh (of_decide_eq_true (by kernel_rfl)) (by kernel_rfl) rfl (by kernel_rfl) (by kernel_rfl) underlying3
 have t:=h64.cell UF 15 (by simp[Oe])
 rw[V_]at t
 rw[Od]at h20
 exact⟨dz W ⟨7,0,none⟩ h7,hm,t,⟨te,pe,h6⟩,⟨Wa,VX,h7⟩,h20⟩
section
variable {H:Type} {enc:TypeId×Value->H} {W:World}
theorem Sh:prog.cellsOf 3=1:=by kernel_rfl
theorem LB(d:DataW H):1<=Rows.uptoBulk d:=by
 cases d with
 |lit l=>cases l<;>simp[Rows.uptoBulk]
 |_=>simp[Rows.uptoBulk]
theorem B2:∀l:List (DataW H),l.length<=Rows.uptoBulkAll l
 |[]=>by simp
 |d::r=>by have:=B2 r;have:=LB d;simp only[Rows.uptoBulkAll,List.length_cons];omega
theorem qj(b off k:Nat):(⟨b,off,none⟩:Addr).add k=⟨b,off+k,none⟩:=by
 unfold Addr.add
 split
 ·rename_i h;subst h;rfl
 ·rfl
theorem Iu{a:Addr}{v:Value}(h:W.cell? a=some v):a=⟨a.block,a.off,none⟩:=by
 obtain⟨b,o,s⟩:=a
 cases s with
 |none=>rfl
 |some x=>
  unfold World.cell? at h
  split at h<;>simp at h
theorem Tf{n:Int}(h:(Lit.int .i64 n).wf=true):i64 n:=by
 unfold i64
 have e1:IntKind.min .i64= -9223372036854775808:=by decide+kernel
 have e2:IntKind.max .i64=9223372036854775807:=by decide+kernel
 simp only[Lit.wf,Bool.and_eq_true,decide_eq_true_eq,e1,e2]at h
 exact h
instance:Inhabited Int:=⟨0⟩
end
def rG(k:IntKind)(zs:List Int):Obj->Obj
 | .cells _ t frozen=> .cells (zs.map λz=>Value.int k z).toArray t frozen
 |o=>o
def G5(v:Value):Obj->Obj
 | .cells _ t frozen=> .cells #[v] t frozen
 |o=>o
def CN:DataW Unit->List Int
 | .agg l=>l.flatMap λ
  | .lit (.int _ z)=>[z]
  | .agg m=>m.flatMap λ
   | .lit (.int _ z)=>[z]
   |_=>[]
  |_=>[]
 |_=>[]
noncomputable def Gm (os:Os):World:=World.holding prog os ⟨#[],#[],[]⟩
noncomputable def jL (os:Os):World:=
 {Gm os with heap:=(((((((((Gm os).heap.modify 0 (rG .u64 (CN Rows.laid_internal_strconv_uint64pow10))).modify 2 (rG .u8 (CN Rows.laid_math_bits_deBruijn32tab))).modify 3 (rG .u8 (CN Rows.laid_math_bits_deBruijn64tab))).modify 4 (rG .u8 (CN Rows.laid_unicode_utf8_first))).modify 5 (rG .u8 (CN Rows.laid_unicode_utf8_acceptRanges))).modify 6 (G5 (.iface 362 (.pointer (some ⟨(Gm os).heap.size,0,none⟩))))).modify 7 (G5 (.iface 362 (.pointer (some ⟨(Gm os).heap.size+1,0,none⟩))))).push (.cells #[.string ⟨#[105,110,118,97,108,105,100,32,115,121,110,116,97,120]⟩] 364)).push (.cells #[.string ⟨#[118,97,108,117,101,32,111,117,116,32,111,102,32,114,97,110,103,101]⟩] 364)}
end
section
open Go.RowKit Go.Shelf
def ak(w:World)(b0:Nat)(e:TypeId)(size:Nat)(v:Value)(n:Nat)(xs:List Value):Prop:=
 xs.length=n*size/\((v=.slice none 0 0/\n=0)\/∃(g off cap:Nat) (cur:Array Value),v=.slice (some ⟨g,off,none⟩) n cap/\b0<=g/\w.heap[g]? =some (.cells cur e)/\n<=cap/\cap<=maxLen/\off+cap*size<=cur.size/\(cur.toList.drop off).take (n*size)=xs)
theorem ak.nil(w:World)(b0:Nat)(e:TypeId)(size:Nat):ak w b0 e size (.slice none 0 0) 0 []:=⟨by simp,.inl ⟨rfl,rfl⟩⟩
theorem ak.pV{w:World}{b0:Nat}{e:TypeId}{size:Nat}{v:Value}{n:Nat}{xs:List Value}(h:w.ownsRow b0 e size v n xs):ak w b0 e size v n xs:=
 ⟨h.1,h.2.imp id λ⟨g,cap,cur,e1,e2,e3,e4,e5,e6,e7⟩=>⟨g,0,cap,cur,e1,e2,e3,e4,e5,by omega,by rw[List.drop_zero];exact e7⟩⟩
theorem ak.form{w:World}{b0:Nat}{e:TypeId}{size:Nat}{v:Value}{n:Nat}{xs:List Value}(h:ak w b0 e size v n xs):∃(a:Option Addr) (cap:Nat),v=.slice a n cap/\n<=cap/\(0<n->∃g off,a=some ⟨g,off,none⟩/\b0<=g):=by
 rcases h.2 with⟨e1,e2⟩|⟨g,off,cap,cur,e1,e2,_,e4,_⟩
 ·exact⟨none,0,by rw[e2];exact e1,by omega,λh=>by omega⟩
 ·exact⟨some ⟨g,off,none⟩,cap,e1,e4,λ_=>⟨g,off,rfl,e2⟩⟩
theorem ak.lt{w:World}{b0:Nat}{e:TypeId}{size:Nat}{v:Value}{n:Nat}{xs:List Value}(h:ak w b0 e size v n xs){k:Nat}(hk:v.ownBlock=some k):b0<=k/\k<w.heap.size:=by
 rcases h.2 with⟨rfl,_⟩|⟨g,off,cap,cur,rfl,e2,e3,_⟩
 ·cases hk
 ·cases hk;exact⟨e2,(Array.getElem?_eq_some_iff.1 e3).1⟩
theorem ak.fr{M:Nat->Nat->Prop}{A B:World}(hf:Fr M A B){b0:Nat}{e:TypeId}{size:Nat}{v:Value}{n:Nat}{xs:List Value}(h:ak A b0 e size v n xs)(hm:∀b i,v.ownBlock=some b->¬M b i):ak B b0 e size v n xs:=
 ⟨h.1,h.2.imp id λ⟨g,off,cap,cur,e1,e2,e3,e4⟩=>⟨g,off,cap,cur,e1,e2,(hf.block g (Array.getElem?_eq_some_iff.1 e3).1 (λi=>hm g i (by rw[e1];rfl))).trans e3,e4⟩⟩
theorem ak.below{A B:World}(hf:Below A.heap.size A B){b0:Nat}{e:TypeId}{size:Nat}{v:Value}{n:Nat}{xs:List Value}(h:ak A b0 e size v n xs):ak B b0 e size v n xs:=h.fr (M:=λ_ _=>False) (Fr.of_below hf) (λ_ _ _ e=>e)
theorem ak.le{w:World}{b0 b1:Nat}{e:TypeId}{size:Nat}{v:Value}{n:Nat}{xs:List Value}(h:ak w b1 e size v n xs)(hb:∀k,v.ownBlock=some k->b0<=k):ak w b0 e size v n xs:=
 ⟨h.1,h.2.imp id λ⟨g,off,cap,cur,e1,_,e3⟩=>⟨g,off,cap,cur,e1,hb g (by rw[e1];rfl),e3⟩⟩
theorem ak.cell{w:World}{b0:Nat}{e:TypeId}{size n g off cap:Nat}{xs:List Value}(h:ak w b0 e size (.slice (some ⟨g,off,none⟩) n cap) n xs){j:Nat}(hj:j<n*size):w.cell? ⟨g,off+j,none⟩=xs[j]? :=by
 rcases h.2 with⟨e1,_⟩|⟨g',off',cap',cur,e1,e2,e3,e4,e5,e6,e7⟩
 ·cases e1
 ·cases e1
  rw[cell_of_row w g (off+j) cur e (0,0) e3,<-e7,List.getElem?_take,if_pos hj,List.getElem?_drop]
  simp
theorem ak.cells{w:World}{b0:Nat}{e:TypeId}{size n g off cap:Nat}{xs:List Value}(h:ak w b0 e size (.slice (some ⟨g,off,none⟩) n cap) n xs):∀j u,xs[j]? =some u->w.cell? ((⟨g,off,none⟩:Addr).add j)=some u:=λj u hj=>by
 rw[addr_add]
 exact(h.cell (by rw[<-h.1];exact(List.getElem?_eq_some_iff.1 hj).1)).trans hj
theorem ak.drop{w:World}{b0:Nat}{e:TypeId}{size n g off cap:Nat}{xs:List Value}(h:ak w b0 e size (.slice (some ⟨g,off,none⟩) (n+1) cap) (n+1) xs):ak w b0 e size (.slice (some ⟨g,off+size,none⟩) n (cap-1)) n (xs.drop size):=by
 have h1:=h.1
 rcases h.2 with⟨e1,_⟩|⟨g',off',cap',cur,e1,e2,e3,e4,e5,e6,e7⟩
 ·cases e1
 ·cases e1
  refine⟨by rw[List.length_drop,h1,Nat.succ_mul];omega,.inr ⟨g,off+size,cap-1,cur,rfl,e2,e3,by omega,by omega,?_,?_⟩⟩
  ·have:cap*size=(cap-1)*size+size:=by
    have:cap=(cap-1)+1:=by omega
    conv=>lhs;rw[this,Nat.succ_mul]
   omega
  ·rw[<-e7,List.drop_take,List.drop_drop,Nat.succ_mul]
   congr 1
   omega
theorem nK{P:Program}(w:World)(t ty:TypeId)
  (e:TypeId) (i:TypeInfo) (z:Value) (size bytes:Nat) (h1:P.underlying t=some (.slice e)) (h2:P.info? e=some i) (h3:i.zero=some z) (h4:i.size=size) (h5:i.bytes=bytes) (h6:z.cells.size=size) (h7:0<size)
  (b0:Nat) (hb0:b0<=w.heap.size) (v:Value) (n:Nat) (xs:List Value) (hown:ak w b0 e size v n xs)
  (ad:Addr) (m c:Nat) (news:List Value) (hn:news.length=m*size) (hc:∀j u,news[j]? =some u->w.cell? (ad.add j)=some u) (h1c:∀u∈news,u.oneCell'=true)
  (b1:n+m<=maxLen) (b2:(n+m)*bytes<=140737488355328):
  ∃v' w',(Builtin.append_ #[t,t] ty #[v,.slice (some ad) m c]).run P w=.ok v' w'/\ak w' b0 e size v' (n+m) (xs++news)/\(∀k,v'.ownBlock=some k->v.ownBlock=some k\/w.heap.size<=k)/\Fr (λc _=>v.ownBlock=some c) w w':=by
 have nk:∀v' w',w'.ownsRow w.heap.size e size v' (n+m) (xs++news)->w.grownBy w' none->ak w' b0 e size v' (n+m) (xs++news)/\(∀k,v'.ownBlock=some k->v.ownBlock=some k\/w.heap.size<=k)/\Fr (λc _=>v.ownBlock=some c) w w':=λv' w' ho hg=>
  ⟨(ak.pV ho).le (λk hk=>Nat.le_trans hb0 (ho.lt k hk).1),λk hk=> .inr (ho.lt k hk).1,Fr.of_below (bK.grown hg aM (λk e=>by cases e))⟩
 rcases hown.2 with⟨rfl,rfl⟩|⟨g,off,cap,cur,rfl,e2,e3,e4,e5,e6,e7⟩
 ·obtain rfl:xs=[]:=List.eq_nil_of_length_eq_zero (by simpa using hown.1)
  obtain⟨v',w',hrun,r1,r2,_⟩:=run_append_own (P:=P) w w.heap.size t ty e i z size bytes h1 h2 h3 h4 h5 h6 h7 (.slice none 0 0) 0 [] (World.ownsRow_nil w _ e size) ad m c news hn hc h1c b1 b2 aM
  exact⟨v',w',hrun,nk v' w' r1 r2⟩
 ·by_cases hr:n+m<=cap
  ·have hle:n*size+m*size<=cap*size:=by
    have:=Nat.mul_le_mul_right size hr
    rwa[Nat.add_mul]at this
   have hin:∀j,j<news.length->off+n*size+j<cur.size:=λj hj=>by rw[hn]at hj;omega
   obtain⟨cur',k1,k2,k3⟩:=f_ news (off+n*size) w cur e3 (by rw[hn];omega)
   refine⟨_,_,?_,⟨by rw[List.length_append,hown.1,hn,Nat.add_mul],.inr ⟨g,off,cap,cur',rfl,e2,k1,hr,e5,by rw[k2];exact e6,?_⟩⟩,λk hk=> .inl hk,(iR g news _ w).mono λc i ec=>by have:c=g:=ec;rw[this];rfl⟩
   ·have:=run_append_room_cells (P:=P) w t ty e i h1 h2 g off n cap ad m c news (by rw[h4];exact hn) hc h1c hr (λj hj=>by
     rw[h4]
     simp only[World.cell?,e3]
     rw[Array.getElem?_eq_getElem (hin j hj)];rfl) (λj hj=>by simp[World.frozen?,e3])
    rwa[h4]at this
   ·rw[k3]
    have hlc:off<=cur.toList.length:=by rw[Array.length_toList];omega
    have e8:(cur.toList.take (off+n*size)).drop off=xs:=by rw[List.drop_take,show off+n*size-off=n*size by omega];exact e7
    have hl1:(cur.toList.take (off+n*size)).length=off+n*size:=by rw[List.length_take,Array.length_toList];omega
    rw[List.append_assoc,List.drop_append_of_le_length (by rw[hl1];omega),e8,<-List.append_assoc]
    exact List.take_left' (by rw[List.length_append,hown.1,hn,Nat.add_mul])
  ·obtain⟨v',w',hrun,r1,r2⟩:=run_append_arg_grows (P:=P) w t ty e i z size bytes h1 h2 h3 h4 h5 h6 h7 ⟨g,off,none⟩ n cap xs hown.1 hown.cells ad m c news hn hc (by omega) b1 b2
   exact⟨v',w',hrun,nk v' w' r1 r2⟩
theorem oO{P:Program}(w:World)(t ty:TypeId)(e:TypeId)(i:TypeInfo)(size:Nat)(h1:P.underlying t=some (.slice e))(h2:P.info? e=some i)(b0:Nat)(v:Value)(n:Nat)(xs:List Value)(hown:ak w b0 e size v n xs):(Builtin.append_ #[t,t] ty #[v,.slice none 0 0]).run P w=.ok v w:=by
 rcases hown.2 with⟨rfl,rfl⟩|⟨g,off,cap,cur,rfl,_,_,hnc,_⟩
 ·simp[Builtin.append_,run_underlying h1,sizeOf,typeInfo,h2,Builtin.lenOf,Builtin.firstCells]
 ·simp[Builtin.append_,run_underlying h1,sizeOf,typeInfo,h2,Builtin.lenOf,Builtin.firstCells,hnc,storeCells]
theorem bR{P:Program}{w:World}{ops:Array Oper}{rest:List Oper}{o:Oper}{a:Act}{Q:Exit->Act->World->Prop}(hg:o.guard=none)(s x:Operand)(t:TypeId)(hop:o.op=Op.call {callee:=Callee.builtin Builtin.append,args:=#[s,x],argTypes:=#[t,t]})
  (e:TypeId) (i:TypeInfo) (z:Value) (size bytes:Nat) (h1:P.underlying t=some (.slice e)) (h2:P.info? e=some i) (h3:i.zero=some z) (h4:i.size=size) (h5:i.bytes=bytes) (h6:z.cells.size=size) (h7:0<size)
  (b0:Nat) (hb0:b0<=w.heap.size) (v:Value) (n:Nat) (xs:List Value) (hs:a.eval s=v) (hown:ak w b0 e size v n xs)
  (ad:Addr) (m c:Nat) (news:List Value) (hx:a.eval x=.slice (some ad) m c) (hn:news.length=m*size) (hc:∀j u,news[j]? =some u->w.cell? (ad.add j)=some u) (h1c:∀u∈news,u.oneCell'=true)
  (b1:n+m<=maxLen) (b2:(n+m)*bytes<=140737488355328)
  (h:∀v' w',ak w' b0 e size v' (n+m) (xs++news)->(∀k,v'.ownBlock=some k->v.ownBlock=some k\/w.heap.size<=k)->Fr (λc _=>v.ownBlock=some c) w w'->wpList P ops Q rest (a.put o.dst v') w'):wpList P ops Q (o::rest) a w:=by
 obtain⟨v',w',hrun,r1,r2,r3⟩:=nK (P:=P) w t o.type e i z size bytes h1 h2 h3 h4 h5 h6 h7 b0 hb0 v n xs hown ad m c news hn hc h1c b1 b2
 refine wpList_plain hg λK hK=>?_
 unfold Oper.wp
 simp[execOp,hop,resolve,invoke,builtin,hs,hx,hrun,Result.andThen]
 exact hK _ _ (h v' w' r1 r2 r3)
def kY(c:UInt8)(l:List ByteArray):List UInt8:=l.flatMap λx=>x.data.toList++[c]
theorem EH(c:UInt8)(l:List ByteArray)(x:ByteArray):kY c (l++[x])=kY c l++(x.data.toList++[c]):=by simp[kY]
theorem FW{s:List UInt8}{c:UInt8}{fr k:Nat}(h1:fr<=k)(h2:k<=s.length)(h3:(s++[c])[k]? =some c):(s++[c]).take fr++((s.drop fr).take (k-fr)++[c])=(s++[c]).take (k+1):=by
 rw[List.take_add_one,h3,List.take_append_of_le_length (by omega:fr<=s.length),List.take_append_of_le_length h2,<-List.append_assoc]
 congr 1
 conv=>rhs;rw[show k=fr+(k-fr)by omega,List.take_add]
theorem ext_toList(x:ByteArray)(i j:Nat):(x.extract i j).data.toList=(x.data.toList.drop i).take (j-i):=by
 rw[ByteArray.data_extract,Array.toList_extract];first|done|rfl
theorem MO:(prog.info? 9).map (λi=>(i.zero,i.size,i.bytes))=some (some (.string ⟨#[]⟩),1,16):=by kernel_rfl
structure ku(s:ByteArray)(c:UInt8)(b0:Nat)(k fr:Nat)(v:Value)(l:List ByteArray)(w:World):Prop where
 own:w.ownsRow b0 9 1 v l.length (l.map .string)
 len:l.length<=k
 le:fr<=k
 flat:kY c l=(s.data.toList++[c]).take fr
 free:∀i,fr<=i->i<k->(s.data.toList++[c])[i]? ≠some c
 all:∀x∈l,c∉x.data.toList
theorem ku.word{s:ByteArray}{c:UInt8}{b0 k fr:Nat}{v:Value}{l:List ByteArray}{w:World}(h:ku s c b0 k fr v l w)(hk:k<=s.size)(hc:(s.data.toList++[c])[k]? =some c){v':Value}{w':World}(ho:w'.ownsRow b0 9 1 v' (l.length+1) (l.map .string++[.string (s.extract fr k)])):ku s c b0 (k+1) (k+1) v' (l++[s.extract fr k]) w':=by
 have hlen:s.data.toList.length=s.size:=by rw[Array.length_toList];rfl
 refine⟨by rw[List.length_append,List.map_append];exact ho,by rw[List.length_append];have:=h.len;simp;omega,aM,?_,λi h1 h2=>by omega,λx hx=>?_⟩
 ·rw[EH,h.flat,ext_toList]
  exact FW h.le (by omega) hc
 ·rcases List.mem_append.1 hx with hx|hx
  ·exact h.all x hx
  ·rw[List.mem_singleton]at hx
   subst hx
   rw[ext_toList]
   intro hm
   obtain⟨i,hi,e⟩:=List.getElem_of_mem hm
   have hi2:i<k-fr:=by rw[List.length_take]at hi;omega
   have e2:((s.data.toList.drop fr).take (k-fr))[i]? =some c:=by rw[List.getElem?_eq_getElem hi,e]
   rw[List.getElem?_take,if_pos hi2,List.getElem?_drop]at e2
   exact h.free (fr+i) (by omega) (by omega) (by rw[List.getElem?_append_left (by omega)];exact e2)
theorem ku.skip{s:ByteArray}{c:UInt8}{b0 k fr:Nat}{v:Value}{l:List ByteArray}{w:World}(h:ku s c b0 k fr v l w)(hc:(s.data.toList++[c])[k]? ≠some c):ku s c b0 (k+1) fr v l w:=
 ⟨h.own,by have:=h.len;omega,by have:=h.le;omega,h.flat,λi h1 h2=>by
  by_cases e:i=k
  ·rw[e];exact hc
  ·exact h.free i h1 (by omega),h.all⟩
theorem aF{w:World}{b0:Nat}{e:TypeId}{size:Nat}{v:Value}{n:Nat}{xs:List Value}(h:w.ownsRow b0 e size v n xs):∃(a:Option Addr) (cap:Nat),v=.slice a n cap/\n<=cap/\(0<n->∃g,a=some ⟨g,0,none⟩/\b0<=g):=by
 rcases h.2 with⟨e1,e2⟩|⟨g,cap,cur,e1,e2,_,e4,_⟩
 ·exact⟨none,0,by rw[e2];exact e1,by omega,λh=>by omega⟩
 ·exact⟨some ⟨g,0,none⟩,cap,e1,e4,λ_=>⟨g,rfl,e2⟩⟩
def Io(s:ByteArray)(c:UInt8)(w:World)(e:Ending)(w':World):Prop:=
 ∃(a:Option Addr) (cap:Nat) (l:List ByteArray),e=.returned (.slice a l.length cap)/\w'.ownsRow w.heap.size 9 1 (.slice a l.length cap) l.length (l.map .string)/\l.length<=s.size+1/\kY c l=s.data.toList++[c]/\(∀x∈l,c∉x.data.toList)/\Below w.heap.size w w'
theorem FP(s:ByteArray)(hs:s.size<=1000)(c:UInt8)(w:World):
  Calls prog 142 #[.string s,.int .u8 (c.toNat:Int)] w (Io s c w):=by
 obtain⟨i9,eH,hz0,hz1,hz2⟩:=info_parts MO
 have HI:Hid (prog.info? 9=some i9/\i9.zero=some (.string ⟨#[]⟩)/\i9.size=1/\i9.bytes=16):=⟨eH,hz0,hz1,hz2⟩
 clear eH hz0 hz1 hz2
 have D9:Hid (s.data.toList.length=s.size):=by show s.data.toList.length=s.size;rw[Array.length_toList];rfl
 have hcn:c.toNat<256:=c.toNat_lt
 go_enter func142,ntmps142
 go_wp2
 go_loopw [5,6,7] (λlv f i wr=>∃(k fr:Nat) (l:List ByteArray) (la:Option Addr) (Fj:Nat),k<=s.size+1/\lv=.slice la l.length Fj/\f=.int .i64 fr/\i=.int .i64 k/\(k=s.size+1->fr=k)/\ku s c w.heap.size k fr (.slice la l.length Fj) l wr/\Below w.heap.size w wr) (λ_ _ i _=>s.size+1-(intOf i).toNat)
 case atStart=>exact⟨0,0,[],none,0,by omega,rfl,rfl,rfl,λe=>by omega,⟨World.ownsRow_nil _ _ _ _,by simp,aM,rfl,λi h1 h2=>by omega,λx hx=>by cases hx⟩,bK⟩
 case round=>
  obtain⟨k,fr,l,la,Fj,hk,rfl,rfl,rfl,hend,hin,hb⟩:=hrel
  have HS:=af hin
  have HB:=af hb
  have hle:=hin.le
  have hlk:=hin.len
  obtain⟨m,hm⟩:∃m,l.length=m:=⟨_,rfl⟩
  have Hm:=af hm
  rw[hm]at HS hlk
  rw[hm]
  clear hin hb hm
  by_cases hlt:k<=s.size
  ·clear hend
   have lU:(k:Int)<=(s.size:Int):=by omega
   have hfk:(fr:Int)<=(k:Int):=by omega
   by_cases he:(s.data.toList++[c])[k]? =some c
   ·have HC:=af he
    have HA:Hid (∀(ops:Array Oper) (rest:List Oper) (o:Oper) (a:Act) (Q:Exit->Act->World->Prop),o.guard=none->o.op=Op.call {callee:=Callee.builtin Builtin.append,args:=#[.tmp 25,.tmp 30],argTypes:=#[79,79]}->a.eval (.tmp 25)=.slice la m Fj->a.eval (.tmp 30)=.slice (some ⟨wr.heap.size,0,none⟩) 1 1->
      (∀(a5:Option Addr) (c5:Nat) (w5:World),ku s c w.heap.size (k+1) (k+1) (.slice a5 (m+1) c5) (l++[s.extract fr k]) w5->Below w.heap.size w w5->wpList prog ops Q rest (a.put o.dst (.slice a5 (m+1) c5)) w5)->wpList prog ops Q (o::rest) a (wr.alloc (.cells #[.string (s.extract fr k)] 9))):=λops rest o a Q h1 h2 h3 h4 h5=>by
     refine wpList_append_own _ h1 _ _ 79 h2 w.heap.size 9 i9 (.string ⟨#[]⟩) 1 16 underlying79 HI.out.1 HI.out.2.1 HI.out.2.2.1 HI.out.2.2.2 rfl (by decide) (.slice la m Fj) m (l.map .string) h3 (by have:=HS.out.own.alloc (.cells #[.string (s.extract fr k)] 9);rw[Hm.out]at this;exact this) ⟨wr.heap.size,0,none⟩ 1 1 [.string (s.extract fr k)] h4 rfl (λj u hj=>by
      rw[addr_add]
      match j,hj with
      |0,hj=>simp at hj;subst hj;simp[go_sem]
      |j+1,hj=>simp at hj) (λu hu=>by simp only[List.mem_singleton]at hu;rw[hu];rfl) (by unfold maxLen;omega) (by omega) (by have:=HB.out.size;simp;omega) ?_
     intro v5 w5 a_ bf _
     obtain⟨a5,c5,rfl,_,_⟩:=aF a_
     exact h5 a5 c5 w5 (HS.out.word hlt HC.out (by rw[Hm.out];exact a_)) (HB.out.trans (((Below.refl _ wr).alloc HB.out.size _).grown bf (by have:=HB.out.size;simp;omega) (λk hk=>(HS.out.own.lt k hk).1)))
    by_cases hk2:k=s.size
    ·subst hk2
     clear he
     go_wp2_with (at_builtin;refine HA.out _ _ _ _ _ rfl rfl rfl rfl ?_;intro a5 c5 w5 hs5 hb5;have XQ:Hid _:=hs5;have uE:Hid _:=hb5;clear hs5 hb5)
     go_roundw
     case rel=>exact⟨s.size+1,s.size+1,l++[s.extract fr s.size],a5,c5,by omega,by rw[List.length_append,Hm.out];rfl,by go_num,by go_num,λ_=>rfl,by rw[List.length_append,Hm.out];exact XQ.out,uE.out⟩
     case measure=>simp[intOf]<;>omega
    ·have hk3:k<s.size:=by omega
     have Zd:(k:Int)<(s.size:Int):=by omega
     have heI:¬(k:Int)=(s.size:Int):=by omega
     have hsk:s[k]=c:=by
      rw[List.getElem?_append_left (by rw[D9.out];exact hk3),List.getElem?_eq_getElem (by rw[D9.out];exact hk3)]at he
      exact Option.some.inj he
     have Zz:(s[k].toNat:Int)=(c.toNat:Int):=by rw[hsk]
     clear he
     go_wp2_with (at_builtin;refine HA.out _ _ _ _ _ rfl rfl rfl rfl ?_;intro a5 c5 w5 hs5 hb5;have XQ:Hid _:=hs5;have uE:Hid _:=hb5;clear hs5 hb5)
     go_roundw
     case rel=>exact⟨k+1,k+1,l++[s.extract fr k],a5,c5,by omega,by rw[List.length_append,Hm.out];rfl,by go_num,by go_num,λ_=>rfl,by rw[List.length_append,Hm.out];exact XQ.out,uE.out⟩
     case measure=>simp[intOf];omega
   ·have hk2:¬k=s.size:=λe=>he (by rw[List.getElem?_append_right (by rw[D9.out];omega),D9.out,e,Nat.sub_self];rfl)
    have HC:=af he
    have hk3:k<s.size:=by omega
    have Zd:(k:Int)<(s.size:Int):=by omega
    have heI:¬(k:Int)=(s.size:Int):=by omega
    have hsk:¬(s[k].toNat:Int)=(c.toNat:Int):=λe=>he (by
     rw[List.getElem?_append_left (by rw[D9.out];exact hk3),List.getElem?_eq_getElem (by rw[D9.out];exact hk3)]
     have:s[k]=c:=UInt8.toNat_inj.1 (by omega)
     exact congrArg some this)
    have Zz:((s[k].toNat:Int)==(c.toNat:Int))=false:=by simpa using hsk
    have aaV:decide ((s[k].toNat:Int)=(c.toNat:Int))=false:=by simpa using hsk
    clear he
    go_wp2
    go_roundw
    case rel=>exact⟨k+1,fr,l,la,Fj,by omega,by rw[Hm.out],rfl,by go_num,λe=>by omega,by rw[Hm.out];exact HS.out.skip HC.out,HB.out⟩
    case measure=>simp[intOf];omega
  ·have hk3:k=s.size+1:=by omega
   have Vc:fr=k:=hend hk3
   have lU:¬(k:Int)<=(s.size:Int):=by omega
   clear hend
   go_wp2
   go_ret
   refine⟨la,Fj,l,by rw[Hm.out];rfl,by rw[Hm.out];have:=HS.out.own;rw[Hm.out]at this;exact this,by have:=HS.out.len;omega,?_,HS.out.all,HB.out⟩
   rw[HS.out.flat,Vc,hk3,List.take_of_length_le (by rw[List.length_append,D9.out];simp)]
def tU(c:UInt8):Bool:=decide (48<=c.toNat/\c.toNat<=57)
def yA(l:List UInt8):Nat:=l.foldl (λn c=>10*n+(c.toNat-48)) 0
def gB(neg:Bool)(t:List UInt8):Bool:=decide (t.length<1)||decide (3<t.length)||(decide (t.head? =some 48)&&(decide (1<t.length)||neg))
def jg(neg:Bool)(t:List UInt8):Int×Bool:=if gB neg t=true then(0,false)else if t.all tU=true then((if neg=true then-1 else 1)*(yA t:Int),true)else(0,false)
def bE(l:List UInt8):Int×Bool:=if l.head? =some 45 then jg true l.tail else jg false l
theorem Kj(l:List UInt8)(c:UInt8):yA (l++[c])=10*yA l+(c.toNat-48):=by simp[yA]
theorem zH{s:ByteArray}{k:Nat}(h:k<s.size):s.data.toList.take (k+1)=s.data.toList.take k++[s[k]]:=by
 have hl:s.data.toList.length=s.size:=by rw[Array.length_toList];rfl
 rw[List.take_add_one,List.getElem?_eq_getElem (by rw[hl];exact h)]
 rfl
theorem uJ{s:ByteArray}(h:0<s.size):s.data.toList.head? =some s[0]:=by
 have hl:s.data.toList.length=s.size:=by rw[Array.length_toList];rfl
 rw[List.head?_eq_getElem?,List.getElem?_eq_getElem (by rw[hl];exact h)]
 rfl
theorem QJ(s:ByteArray):(s.extract 1 s.size).data.toList=s.data.toList.tail:=by
 have hl:s.data.toList.length=s.size:=by rw[Array.length_toList];rfl
 rw[ext_toList,List.drop_one,List.take_of_length_le (by rw[List.length_tail,hl];exact aM)]
theorem nS{n:Nat}(h:n<256):IntKind.u8.wrap (n:Int)=(n:Int):=by
 simp only[IntKind.wrap,IntKind.signed,IntKind.bits]
 simp
 omega
structure gF(t:ByteArray)(k n:Nat):Prop where
 all:(t.data.toList.take k).all tU=true
 val:n=yA (t.data.toList.take k)
 lt:n<10^k
theorem gF.zero(t:ByteArray):gF t 0 0:=⟨rfl,rfl,by decide⟩
theorem gF.next{t:ByteArray}{k n:Nat}(h:gF t k n)(hk:k<t.size)(h1:48<=t[k].toNat)(h2:t[k].toNat<=57):gF t (k+1) (10*n+(t[k].toNat-48)):=by
 have:=h.lt
 refine⟨?_,?_,by rw[Nat.pow_succ];omega⟩
 ·rw[zH hk,List.all_append,h.all];simp[tU,h1,h2]
 ·rw[zH hk,Kj,h.val]
theorem gF.bad{t:ByteArray}{k n:Nat}(_h:gF t k n)(hk:k<t.size)(h1:¬(48<=t[k].toNat/\t[k].toNat<=57)):t.data.toList.all tU=false:=by
 rw[List.all_eq_false]
 have hl:t.data.toList.length=t.size:=by rw[Array.length_toList];rfl
 exact⟨t[k],List.mem_of_getElem (i:=k) (h:=by rw[hl];exact hk) rfl,by simp only[tU,decide_eq_true_eq];exact h1⟩
theorem kC(s:ByteArray)(hs:s.size<=1000)(w:World):
  Calls prog 143 #[.string s] w λe w'=>e=.returned (.tuple #[.int .i64 (bE s.data.toList).1,.bool (bE s.data.toList).2])/\w'=w:=by
 have hl:s.data.toList.length=s.size:=by rw[Array.length_toList];rfl
 by_cases h0:s.size=0
 ·have e:bE s.data.toList=(0,false):=by
   have:s.data.toList=[]:=List.eq_nil_of_length_eq_zero (by omega)
   rw[this];rfl
  rw[e]
  have hz:(s.size:Int)=0:=by omega
  go_enter func143,ntmps143
  go_wp2
  go_ret2
  exact⟨rfl,rfl⟩
 ·have hp:0<s.size:=by omega
  have hpI:(0:Int)<(s.size:Int):=by omega
  have hpG:(s.size:Int)>0:=by omega
  have hb0:=s[0].toNat_lt
  by_cases hm:s[0]=45
  ·obtain⟨t,ht⟩:∃t,s.extract 1 s.size=t:=⟨_,rfl⟩
   have hR:bE s.data.toList=jg true t.data.toList:=by
    unfold bE
    rw[if_pos (by rw[uJ hp,hm]),<-ht,QJ]
   have S7:t.size<=1000:=by rw[<-ht,ByteArray.size_extract];omega
   have hm2:(s[0].toNat:Int)=45:=by rw[hm];rfl
   have MH:(1:Int)<=(s.size:Int):=by omega
   rw[hR]
   clear hR hs h0 hm hl
   have hl:t.data.toList.length=t.size:=by rw[Array.length_toList];rfl
   obtain⟨V,hV⟩:∃V,jg true t.data.toList=V:=⟨_,rfl⟩
   have HV:=af hV
   rw[hV]
   have lN:Hid (gB true t.data.toList=true->V=(0,false)):=λe=>by rw[<-HV.out];unfold jg;rw[if_pos e]
   by_cases h1:t.size=0
   ·have hz:(t.size:Int)=0:=by omega
    have qI:V=(0,false):=lN.out (by unfold gB;rw[hl,h1];rfl)
    subst qI
    clear hV HV lN hl
    go_enter func143,ntmps143
    go_wp2
    go_ret2
    exact⟨rfl,rfl⟩
   ·by_cases h3:3<t.size
    ·have hz:¬(t.size:Int)<1:=by omega
     have hz3:(t.size:Int)>3:=by omega
     have qI:V=(0,false):=lN.out (by unfold gB;rw[hl,decide_eq_true h3];simp)
     subst qI
     clear hV HV lN hl
     go_enter func143,ntmps143
     go_wp2
     go_ret2
     exact⟨rfl,rfl⟩
    ·have hz:¬(t.size:Int)<1:=by omega
     have hz3:¬(t.size:Int)>3:=by omega
     have ZH:0<t.size:=by omega
     have ZI:(0:Int)<(t.size:Int):=by omega
     have hd:=uJ ZH
     have S3:=t[0].toNat_lt
     by_cases gR:t[0]=48/\(1<t.size\/true=true)
     ·have qI:V=(0,false):=lN.out (by unfold gB;rw[hd,gR.1,hl];rcases gR.2 with e|e<;>simp[e])
      have hq:(t[0].toNat:Int)=48:=by rw[gR.1];rfl
      subst qI
      by_cases hone:1<t.size
      ·have ME:(t.size:Int)>1:=by omega
       clear hV HV lN hl hd gR
       go_enter func143,ntmps143
       go_wp2
       go_ret2
       exact⟨rfl,rfl⟩
      ·have ME:¬(t.size:Int)>1:=by omega
       have Vu:true=true:=gR.2.resolve_left hone
       clear hV HV lN hl hd gR
       go_enter func143,ntmps143
       go_wp2
       go_ret2
       exact⟨rfl,rfl⟩
     ·have O4:Hid (V=if t.data.toList.all tU=true then((if true=true then-1 else 1)*(yA t.data.toList:Int),true)else(0,false)):=by
       show V=_
       rw[<-HV.out]
       unfold jg
       rw[if_neg]
       unfold gB
       rw[hd,hl]
       intro e
       simp only[Bool.or_eq_true,Bool.and_eq_true,decide_eq_true_eq,Option.some.injEq]at e
       rcases e with(e|e)|e
       ·omega
       ·omega
       ·exact gR (by simpa using e)
      have kQ:Hid (∀n:Nat,gF t t.size n->V=((if true=true then-1 else 1)*(n:Int),true)):=λn h=>by
       rw[O4.out]
       have e:t.data.toList.take t.size=t.data.toList:=List.take_of_length_le (by rw[hl];exact aM)
       have h1:=h.all
       have h2:=h.val
       rw[e]at h1 h2
       rw[if_pos h1,h2]
      have uF:Hid (∀(n k:Nat) (hk:k<t.size),gF t k n->¬(48<=t[k].toNat/\t[k].toNat<=57)->V=(0,false)):=λn k hk h e=>by
       rw[O4.out,if_neg (by rw[h.bad hk e];decide)]
      have HL:Hid (t.size<=3):=by show t.size<=3;omega
      by_cases hq:t[0]=48
      ·have Jj:(t[0].toNat:Int)=48:=by rw[hq];rfl
       have hone:¬(t.size:Int)>1:=by have:¬1<t.size:=λe=>gR ⟨hq,.inl e⟩;omega
       have Vu:¬true=true:=λe=>gR ⟨hq,.inr e⟩
       clear hV HV lN hl hd gR O4 hq
       exact absurd rfl Vu
      ·have Jj:((t[0].toNat:Int)==48)=false:=by
        rw[beq_eq_false_iff_ne];intro e;exact hq (UInt8.toNat_inj.1 (by show t[0].toNat=48;omega))
       clear hV HV lN hl hd gR O4 hq
       go_enter func143,ntmps143
       go_wp2
       go_loop [6,7] (λn i=>∃(k m:Nat),k<=t.size/\n=.int .i64 m/\i=.int .i64 k/\gF t k m) (λ_ i=>t.size-(intOf i).toNat)
       case atStart=>exact⟨0,0,Nat.zero_le _,rfl,rfl,gF.zero _⟩
       case round=>
        obtain⟨k,m,hk,rfl,rfl,hdig⟩:=hrel
        have HD:=af hdig
        have hm1:m<1000:=Nat.lt_of_lt_of_le hdig.lt (by have:=HL.out;exact Nat.le_trans (Nat.pow_le_pow_right (by decide) (by omega:k<=3)) (by decide))
        clear hdig
        by_cases hlt:k<t.size
        ·have lU:(k:Int)<(t.size:Int):=by omega
         have hkn:¬(k:Int)<0:=by omega
         have Rn:=t[k].toNat_lt
         by_cases hlo:t[k].toNat<48
         ·have My:(t[k].toNat:Int)<48:=by omega
          have qI:V=(0,false):=uF.out m k hlt HD.out (by omega)
          subst qI
          clear uF kQ
          go_wp2
          go_ret2
          exact⟨rfl,rfl⟩
         ·have My:¬(t[k].toNat:Int)<48:=by omega
          by_cases hhi:57<t[k].toNat
          ·have Mt:(t[k].toNat:Int)>57:=by omega
           have qI:V=(0,false):=uF.out m k hlt HD.out (by omega)
           subst qI
           clear uF kQ
           go_wp2
           go_ret2
           exact⟨rfl,rfl⟩
          ·have Mt:¬(t[k].toNat:Int)>57:=by omega
           have HN:Hid (gF t (k+1) (10*m+(t[k].toNat-48))):=HD.out.next hlt (by omega) (by omega)
           have hw1:IntKind.u8.wrap ((t[k].toNat:Int)-48)=((t[k].toNat-48:Nat):Int):=by rw[show((t[k].toNat:Int)-48)=((t[k].toNat-48:Nat):Int)by omega];exact nS (by omega)
           go_wp2
           go_round
           case rel=>exact⟨k+1,10*m+(t[k].toNat-48),by omega,by first|(congr 1;omega)|congr 1|go_num,by go_num,HN.out⟩
           case measure=>simp[intOf];omega
        ·obtain rfl:k=t.size:=by omega
         have qI:=kQ.out m HD.out
         have lU:¬(t.size:Int)<(t.size:Int):=by omega
         subst qI
         clear uF kQ
         go_wp2
         go_ret2
         exact⟨by simp,rfl⟩
  ·have hR:bE s.data.toList=jg false s.data.toList:=by
    unfold bE
    rw[if_neg (by rw[uJ hp];intro e;exact hm (Option.some.inj e))]
   have hm2:((s[0].toNat:Int)==45)=false:=by
    rw[beq_eq_false_iff_ne];intro e;exact hm (UInt8.toNat_inj.1 (by show s[0].toNat=45;omega))
   have S7:s.size<=1000:=hs
   rw[hR]
   clear hR hs h0 hm hl
   have hl:s.data.toList.length=s.size:=by rw[Array.length_toList];rfl
   obtain⟨V,hV⟩:∃V,jg false s.data.toList=V:=⟨_,rfl⟩
   have HV:=af hV
   rw[hV]
   have lN:Hid (gB false s.data.toList=true->V=(0,false)):=λe=>by rw[<-HV.out];unfold jg;rw[if_pos e]
   by_cases h1:s.size=0
   ·have hz:(s.size:Int)=0:=by omega
    have qI:V=(0,false):=lN.out (by unfold gB;rw[hl,h1];rfl)
    subst qI
    clear hV HV lN hl
    go_enter func143,ntmps143
    go_wp2
    go_ret2
    exact⟨rfl,rfl⟩
   ·by_cases h3:3<s.size
    ·have hz:¬(s.size:Int)<1:=by omega
     have hz3:(s.size:Int)>3:=by omega
     have qI:V=(0,false):=lN.out (by unfold gB;rw[hl,decide_eq_true h3];simp)
     subst qI
     clear hV HV lN hl
     go_enter func143,ntmps143
     go_wp2
     go_ret2
     exact⟨rfl,rfl⟩
    ·have hz:¬(s.size:Int)<1:=by omega
     have hz3:¬(s.size:Int)>3:=by omega
     have ZH:0<s.size:=by omega
     have ZI:(0:Int)<(s.size:Int):=by omega
     have hd:=uJ ZH
     have S3:=s[0].toNat_lt
     by_cases gR:s[0]=48/\(1<s.size\/false=true)
     ·have qI:V=(0,false):=lN.out (by unfold gB;rw[hd,gR.1,hl];rcases gR.2 with e|e<;>simp[e])
      have hq:(s[0].toNat:Int)=48:=by rw[gR.1];rfl
      subst qI
      by_cases hone:1<s.size
      ·have ME:(s.size:Int)>1:=by omega
       clear hV HV lN hl hd gR
       go_enter func143,ntmps143
       go_wp2
       go_ret2
       exact⟨rfl,rfl⟩
      ·have ME:¬(s.size:Int)>1:=by omega
       have Vu:false=true:=gR.2.resolve_left hone
       clear hV HV lN hl hd gR
       cases Vu
     ·have O4:Hid (V=if s.data.toList.all tU=true then((if false=true then-1 else 1)*(yA s.data.toList:Int),true)else(0,false)):=by
       show V=_
       rw[<-HV.out]
       unfold jg
       rw[if_neg]
       unfold gB
       rw[hd,hl]
       intro e
       simp only[Bool.or_eq_true,Bool.and_eq_true,decide_eq_true_eq,Option.some.injEq]at e
       rcases e with(e|e)|e
       ·omega
       ·omega
       ·exact gR (by simpa using e)
      have kQ:Hid (∀n:Nat,gF s s.size n->V=((if false=true then-1 else 1)*(n:Int),true)):=λn h=>by
       rw[O4.out]
       have e:s.data.toList.take s.size=s.data.toList:=List.take_of_length_le (by rw[hl];exact aM)
       have h1:=h.all
       have h2:=h.val
       rw[e]at h1 h2
       rw[if_pos h1,h2]
      have uF:Hid (∀(n k:Nat) (hk:k<s.size),gF s k n->¬(48<=s[k].toNat/\s[k].toNat<=57)->V=(0,false)):=λn k hk h e=>by
       rw[O4.out,if_neg (by rw[h.bad hk e];decide)]
      have HL:Hid (s.size<=3):=by show s.size<=3;omega
      by_cases hq:s[0]=48
      ·have Jj:(s[0].toNat:Int)=48:=by rw[hq];rfl
       have hone:¬(s.size:Int)>1:=by have:¬1<s.size:=λe=>gR ⟨hq,.inl e⟩;omega
       have Vu:¬false=true:=λe=>gR ⟨hq,.inr e⟩
       clear hV HV lN hl hd gR O4 hq
       go_enter func143,ntmps143
       go_wp2
       go_loop [6,7] (λn i=>∃(k m:Nat),k<=s.size/\n=.int .i64 m/\i=.int .i64 k/\gF s k m) (λ_ i=>s.size-(intOf i).toNat)
       case atStart=>exact⟨0,0,Nat.zero_le _,rfl,rfl,gF.zero _⟩
       case round=>
        obtain⟨k,m,hk,rfl,rfl,hdig⟩:=hrel
        have HD:=af hdig
        have hm1:m<1000:=Nat.lt_of_lt_of_le hdig.lt (by have:=HL.out;exact Nat.le_trans (Nat.pow_le_pow_right (by decide) (by omega:k<=3)) (by decide))
        clear hdig
        by_cases hlt:k<s.size
        ·have lU:(k:Int)<(s.size:Int):=by omega
         have hkn:¬(k:Int)<0:=by omega
         have Rn:=s[k].toNat_lt
         by_cases hlo:s[k].toNat<48
         ·have My:(s[k].toNat:Int)<48:=by omega
          have qI:V=(0,false):=uF.out m k hlt HD.out (by omega)
          subst qI
          clear uF kQ
          go_wp2
          go_ret2
          exact⟨rfl,rfl⟩
         ·have My:¬(s[k].toNat:Int)<48:=by omega
          by_cases hhi:57<s[k].toNat
          ·have Mt:(s[k].toNat:Int)>57:=by omega
           have qI:V=(0,false):=uF.out m k hlt HD.out (by omega)
           subst qI
           clear uF kQ
           go_wp2
           go_ret2
           exact⟨rfl,rfl⟩
          ·have Mt:¬(s[k].toNat:Int)>57:=by omega
           have HN:Hid (gF s (k+1) (10*m+(s[k].toNat-48))):=HD.out.next hlt (by omega) (by omega)
           have hw1:IntKind.u8.wrap ((s[k].toNat:Int)-48)=((s[k].toNat-48:Nat):Int):=by rw[show((s[k].toNat:Int)-48)=((s[k].toNat-48:Nat):Int)by omega];exact nS (by omega)
           go_wp2
           go_round
           case rel=>exact⟨k+1,10*m+(s[k].toNat-48),by omega,by first|(congr 1;omega)|congr 1|go_num,by go_num,HN.out⟩
           case measure=>simp[intOf];omega
        ·obtain rfl:k=s.size:=by omega
         have qI:=kQ.out m HD.out
         have lU:¬(s.size:Int)<(s.size:Int):=by omega
         subst qI
         clear uF kQ
         go_wp2
         go_ret2
         exact⟨by simp,rfl⟩
      ·have Jj:((s[0].toNat:Int)==48)=false:=by
        rw[beq_eq_false_iff_ne];intro e;exact hq (UInt8.toNat_inj.1 (by show s[0].toNat=48;omega))
       clear hV HV lN hl hd gR O4 hq
       go_enter func143,ntmps143
       go_wp2
       go_loop [6,7] (λn i=>∃(k m:Nat),k<=s.size/\n=.int .i64 m/\i=.int .i64 k/\gF s k m) (λ_ i=>s.size-(intOf i).toNat)
       case atStart=>exact⟨0,0,Nat.zero_le _,rfl,rfl,gF.zero _⟩
       case round=>
        obtain⟨k,m,hk,rfl,rfl,hdig⟩:=hrel
        have HD:=af hdig
        have hm1:m<1000:=Nat.lt_of_lt_of_le hdig.lt (by have:=HL.out;exact Nat.le_trans (Nat.pow_le_pow_right (by decide) (by omega:k<=3)) (by decide))
        clear hdig
        by_cases hlt:k<s.size
        ·have lU:(k:Int)<(s.size:Int):=by omega
         have hkn:¬(k:Int)<0:=by omega
         have Rn:=s[k].toNat_lt
         by_cases hlo:s[k].toNat<48
         ·have My:(s[k].toNat:Int)<48:=by omega
          have qI:V=(0,false):=uF.out m k hlt HD.out (by omega)
          subst qI
          clear uF kQ
          go_wp2
          go_ret2
          exact⟨rfl,rfl⟩
         ·have My:¬(s[k].toNat:Int)<48:=by omega
          by_cases hhi:57<s[k].toNat
          ·have Mt:(s[k].toNat:Int)>57:=by omega
           have qI:V=(0,false):=uF.out m k hlt HD.out (by omega)
           subst qI
           clear uF kQ
           go_wp2
           go_ret2
           exact⟨rfl,rfl⟩
          ·have Mt:¬(s[k].toNat:Int)>57:=by omega
           have HN:Hid (gF s (k+1) (10*m+(s[k].toNat-48))):=HD.out.next hlt (by omega) (by omega)
           have hw1:IntKind.u8.wrap ((s[k].toNat:Int)-48)=((s[k].toNat-48:Nat):Int):=by rw[show((s[k].toNat:Int)-48)=((s[k].toNat-48:Nat):Int)by omega];exact nS (by omega)
           go_wp2
           go_round
           case rel=>exact⟨k+1,10*m+(s[k].toNat-48),by omega,by first|(congr 1;omega)|congr 1|go_num,by go_num,HN.out⟩
           case measure=>simp[intOf];omega
        ·obtain rfl:k=s.size:=by omega
         have qI:=kQ.out m HD.out
         have lU:¬(s.size:Int)<(s.size:Int):=by omega
         subst qI
         clear uF kQ
         go_wp2
         go_ret2
         exact⟨by simp,rfl⟩
def cE(c:UInt8):List UInt8->List (List UInt8)
 |[]=>[[]]
 |x::r=>if x=c then[]::cE c r else match cE c r with|[]=>[[x]]|w::ws=>(x::w)::ws
theorem sM(c:UInt8):∀s,cE c s≠[]
 |[]=>by simp[cE]
 |x::r=>by
  unfold cE
  split
  ·simp
  ·split<;>simp
theorem gJ{c:UInt8}:∀{a:List UInt8},c∉a->cE c a=[a]
 |[],_=>rfl
 |x::r,h=>by
  have h1:¬x=c:=λe=>h (by rw[e];simp)
  have h2:=gJ (c:=c) (a:=r) (λe=>h (by simp[e]))
  unfold cE
  rw[if_neg h1,h2]
theorem gI{c:UInt8}:∀{a:List UInt8} (r:List UInt8),c∉a->cE c (a++c::r)=a::cE c r
 |[],r,_=>by show cE c (c::r)=[]::cE c r;rw[cE,if_pos rfl]
 |x::a,r,h=>by
  have h1:¬x=c:=λe=>h (by rw[e];simp)
  have h2:=gI (c:=c) (a:=a) r (λe=>h (by simp[e]))
  show cE c (x::(a++c::r))=_
  rw[cE,if_neg h1,h2]
theorem Ck{c:UInt8}:∀{l:List ByteArray},l≠[]->∃s,kY c l=s++[c]
 |[],h=>absurd rfl h
 |[x],_=>⟨x.data.toList,by simp[kY]⟩
 |x::y::r,_=>by
  obtain⟨s,hs⟩:=Ck (c:=c) (l:=y::r) (by simp)
  exact⟨x.data.toList++[c]++s,by show(x.data.toList++[c])++kY c (y::r)=_;rw[hs];simp⟩
theorem xd{c:UInt8}:∀{l:List ByteArray} {s:List UInt8},kY c l=s++[c]->(∀x∈l,c∉x.data.toList)->l.map (λx=>x.data.toList)=cE c s
 |[],s,h,_=>by simp[kY]at h
 |[x],s,h,hf=>by
  have:s=x.data.toList:=by simp[kY]at h;exact h.symm
  rw[this,gJ (hf x (by simp))]
  rfl
 |x::y::r,s,h,hf=>by
  obtain⟨s',hs'⟩:=Ck (c:=c) (l:=y::r) (by simp)
  have h2:(x.data.toList++[c])++kY c (y::r)=s++[c]:=h
  rw[hs',<-List.append_assoc]at h2
  have h3:=List.append_cancel_right h2
  have h4:=xd (c:=c) hs' (λz hz=>hf z (by simp[hz]))
  rw[List.map_cons,h4,<-h3,List.append_assoc]
  exact(gI s' (hf x (by simp))).symm
def bU(c:UInt8)(s:ByteArray):List ByteArray:=(cE c s.data.toList).map λx=>⟨x.toArray⟩
theorem tP(c:UInt8)(s:ByteArray):(bU c s).map (λx=>x.data.toList)=cE c s.data.toList:=by
 unfold bU
 rw[List.map_map]
 exact(List.map_congr_left λx _=>rfl).trans (List.map_id _)
theorem Oq{c:UInt8}{s:ByteArray}{l:List ByteArray}(h:kY c l=s.data.toList++[c])(hf:∀x∈l,c∉x.data.toList):l=bU c s:=by
 unfold bU
 rw[<-xd h hf,List.map_map]
 exact((List.map_congr_left λx _=>rfl).trans (List.map_id _)).symm
def n_(s:ByteArray)(c:UInt8)(w:World)(e:Ending)(w':World):Prop:=
 ∃(a:Option Addr) (cap:Nat),e=.returned (.slice a (bU c s).length cap)/\(bU c s).length<=cap/\w'.ownsRow w.heap.size 9 1 (.slice a (bU c s).length cap) (bU c s).length ((bU c s).map .string)/\Below w.heap.size w w'
theorem wY(s:ByteArray)(hs:s.size<=1000)(c:UInt8)(w:World):Calls prog 142 #[.string s,.int .u8 (c.toNat:Int)] w (n_ s c w):=by
 refine(FP s hs c w).mono ?_
 rintro e w' ⟨a,cap,l,rfl,ho,hl,hf,hfr,hb⟩
 obtain rfl:=Oq hf hfr
 obtain⟨a',cap',e,hc,_⟩:=aF ho
 injection e with e1 _ e2
 subst e1 e2
 exact⟨a,cap,rfl,hc,ho,hb⟩
theorem nR{c:UInt8}{s x:ByteArray}(hx:x∈bU c s):x.size<=s.size:=by
 have key:∀(t:List UInt8) (y:List UInt8),y∈cE c t->y.length<=t.length:=λt=>by
  induction t with
  |nil=>intro y hy;simp[cE]at hy;rw[hy];simp
  |cons z r ih=>
   intro y hy
   unfold cE at hy
   split at hy
   ·rcases List.mem_cons.1 hy with e|e
    ·rw[e];simp
    ·have:=ih y e;simp;omega
   ·split at hy
    ·simp at hy;rw[hy];simp
    ·rename_i w ws e1
     rcases List.mem_cons.1 hy with e|e
     ·have:=ih w (by rw[e1];simp);rw[e];simp;omega
     ·have:=ih y (by rw[e1];simp[e]);simp;omega
 unfold bU at hx
 obtain⟨y,hy,rfl⟩:=List.mem_map.1 hx
 have:=key _ y hy
 rw[Array.length_toList]at this
 show y.toArray.size<=s.data.size
 rw[List.size_toArray]
 exact this
def ptL:List (List UInt8)->Option (Int×Int)
 |[a,b]=>if(bE a).2=true/\(bE b).2=true then some ((bE a).1,(bE b).1)else none
 |_=>none
def mL(x:ByteArray):Option (Int×Int):=ptL (cE 44 x.data.toList)
theorem Nu{x:ByteArray}{l:List ByteArray}(h:l.map (λx=>x.data.toList)=cE 44 x.data.toList)(hl:l.length≠2):mL x=none:=by
 unfold mL
 rw[<-h]
 match l,hl with
 |[],_=>rfl
 |[a],_=>rfl
 |[a,b],hl=>exact absurd rfl hl
 |a::b::c::r,_=>rfl
theorem Qx{x p q:ByteArray}(h:[p,q].map (λx=>x.data.toList)=cE 44 x.data.toList):mL x=if(bE p.data.toList).2=true/\(bE q.data.toList).2=true then some ((bE p.data.toList).1,(bE q.data.toList).1)else none:=by
 unfold mL
 rw[<-h]
 rfl
def jz(l:List ByteArray)(i:Nat):ByteArray:=(l[i]?).getD ⟨#[]⟩
def dL(l:List ByteArray)(i:Nat):Int×Bool:=bE (jz l i).data.toList
def Df(l:List ByteArray):aW:=⟨(dL l 1).1,dr (jz l 2),(dL l 3).1,(dL l 4).1,(l.drop 5).map λx=>(mL x).getD (0,0)⟩
def oN(l:List ByteArray):Rd:=if(dL l 1).2=true/\(dL l 3).2=true/\(dL l 4).2=true then(if((l.drop 5).all λx=>(mL x).isSome)=true then(if aj (Df l)=true then .put (Df l)else .bad)else .bad)else .bad
theorem bV.Ra{M:Nat->Nat->Prop}{A B:World}(h:Fr M A B){a:Option Addr}{ps:dS}(hp:bV A.heap.size A a ps)(hm:∀x i,a=some x->¬M x.block i):bV B.heap.size B a ps:=by
 rcases hp with e|⟨b,off,e,hb,hc⟩
 ·exact .inl e
 ·refine .inr ⟨b,off,e,Nat.lt_of_lt_of_le hb h.size,λk x y he=>⟨(h.cell b _ hb (hm _ _ e)).trans (hc k x y he).1,(h.cell b _ hb (hm _ _ e)).trans (hc k x y he).2⟩⟩
def Ik(n0:Nat)(w':World):Rd->Value->Prop
 | .bad,v=>v=.agg #[.int .i64 0,.int .i64 0,.int .i64 0,.int .i64 0,.string ⟨#[]⟩,.int .i64 0,.int .i64 0,.int .i64 0,.int .i64 0,.slice none 0 0]
 | .get t m,v=>v=.agg #[.int .i64 1,.int .i64 t.z,.int .i64 t.c,.int .i64 t.r,.string m,.int .i64 0,.int .i64 0,.int .i64 0,.int .i64 0,.slice none 0 0]
 | .put f,v=>∃(a:Option Addr) (cap:Nat),v=.agg #[.int .i64 2,.int .i64 0,.int .i64 0,.int .i64 0,.string ⟨#[]⟩,.int .i64 f.id,.int .i64 f.kd,.int .i64 f.ht,.int .i64 f.col,.slice a f.ps.length cap]/\f.ps.length<=cap/\bV w'.heap.size w' a f.ps/\∀x,a=some x->n0<=x.block
 | .del id,v=>v=.agg #[.int .i64 3,.int .i64 0,.int .i64 0,.int .i64 0,.string ⟨#[]⟩,.int .i64 id,.int .i64 0,.int .i64 0,.int .i64 0,.slice none 0 0]
def Ad(r:Rd)(w:World)(e:Ending)(w':World):Prop:=∃v,e=.returned v/\Ik w.heap.size w' r v/\Below w.heap.size w w'
end
end Go.Proofs.YtenaepdmlknlcaaGreatDoor
