import Derived.Test.YtenaepdmlknlcaaGreatDoorG08
import Derived.Test.YtenaepdmlknlcaaGreatDoorG12
open Go.Proofs.Tryz
set_option maxRecDepth 100000
set_option maxHeartbeats 8000000
namespace Go.Proofs.YtenaepdmlknlcaaGreatDoor
section
open Go.RowKit Go.Shelf
variable {w:World} {cur:Array Value} {e:TypeId} {fz:Nat×Nat}
theorem heap_setCell{g o:Nat}(v:Value)(h:w.heap[g]? =some (.cells cur e fz)):(w.setCell ⟨g,o,none⟩ v).heap[g]? =some (.cells (cur.setIfInBounds o v) e fz):=by
 simp[World.setCell,Array.getElem?_modify,h]
theorem f_{g:Nat}(vs:List Value):∀(o:Nat) (w:World) (cur:Array Value),w.heap[g]? =some (.cells cur e fz)->o+vs.length<=cur.size->
  ∃cur':Array Value,(w.setCells g o vs).heap[g]? =some (.cells cur' e fz)/\cur'.size=cur.size/\cur'.toList=cur.toList.take o++vs++cur.toList.drop (o+vs.length):=by
 induction vs with
 |nil=>intro o w cur h _;exact⟨cur,h,rfl,by simp⟩
 |cons v r ih=>
  intro o w cur h hl
  simp only[List.length_cons]at hl
  obtain⟨cur',h1,h2,h3⟩:=ih (o+1) (w.setCell ⟨g,o,none⟩ v) (cur.setIfInBounds o v) (heap_setCell v h) (by simp;omega)
  refine⟨cur',h1,by simpa using h2,?_⟩
  rw[h3]
  have hs:(cur.setIfInBounds o v).toList=cur.toList.take o++v::cur.toList.drop (o+1):=by
   rw[Array.toList_setIfInBounds]
   exact List.set_eq_take_append_cons_drop.trans (by rw[if_pos (by simp;omega)])
  have ho:(cur.toList.take o).length=o:=by simp;omega
  have hs':(cur.setIfInBounds o v).toList=(cur.toList.take o++[v])++cur.toList.drop (o+1):=by rw[hs];simp
  have ho':(cur.toList.take o++[v]).length=o+1:=by rw[List.length_append,ho];rfl
  rw[hs',List.take_left' ho',List.drop_append,ho']
  simp only[List.length_cons,List.append_assoc,List.cons_append]
  rw[show o+1+r.length-(o+1)=r.length by omega,List.drop_drop,List.drop_eq_nil_of_le (by omega),List.nil_append,show o+1+r.length=o+(r.length+1)by omega,List.nil_append]
theorem iR(g:Nat)(vs:List Value):∀(o:Nat) (w:World),Fr (ig g) w (w.setCells g o vs):=by
 induction vs with
 |nil=>intro o w;exact Fr.refl _ _
 |cons v r ih=>intro o w;exact(jQ g w o v).trans (ih (o+1) _)
def Ow:Value:=.agg #[.int .i64 0,.int .i64 0,.int .i64 0,.string ⟨#[]⟩]
theorem FQ(w:World)(ty:TypeId)(g o c:Nat)(hc:∀j,j<4->(w.cell? ⟨g,o+j,none⟩).isSome=true)(hf:∀j,j<4->w.frozen? ⟨g,o+j,none⟩=false):
  (Builtin.clear_ #[121] ty #[.slice (some ⟨g,o,none⟩) 1 c]).run prog w=.ok (.tuple #[]) (w.setCells g o [.int .i64 0,.int .i64 0,.int .i64 0,.string ⟨#[]⟩]):=by
 have ZT:(Builtin.zeroCells Ow.cells 1).toList=[.int .i64 0,.int .i64 0,.int .i64 0,.string ⟨#[]⟩]:=by kernel_rfl
 have hst:=run_storeCells_cells (P:=prog) g o [.int .i64 0,.int .i64 0,.int .i64 0,.string ⟨#[]⟩] 0 w (by simpa using hc) (by simpa using hf) (by simp[Value.oneCell'])
 simp only[Nat.add_zero]at hst
 have hv:∀w,(zeroValue 178).run prog w=.ok Ow w:=zeroValue178
 simp[Builtin.clear_,run_underlying underlying121,hv,ZT,hst]
theorem GN:(prog.info? 178).map (λi=>(i.zero,i.size,i.bytes))=some (some (.agg #[.int .i64 0,.int .i64 0,.int .i64 0,.string ⟨#[]⟩]),4,40):=by kernel_rfl
theorem sQ(base g m cap i:Nat)(xs:List Value)(w:World)(own:w.ownsRow base 178 4 (.slice (some ⟨g,0,none⟩) (m+1) cap) (m+1) xs)(h1:∀u∈xs,u.oneCell'=true)(hi:i<m+1)(hn:m+1<=1000000):
  Calls prog 220 #[.slice (some ⟨g,0,none⟩) (m+1) cap,.int .i64 i,.int .i64 ((i:Int)+1)] w λe w'=>e=.returned (.slice (some ⟨g,0,none⟩) m cap)/\w'.ownsRow base 178 4 (.slice (some ⟨g,0,none⟩) m cap) m (xs.take (i*4)++xs.drop ((i+1)*4))/\Fr (ig g) w w':=by
 obtain⟨hl,hor⟩:=own
 obtain⟨g',cap',cur,eq,hbg,hg,hnc,hcm,hcs,htk⟩:=hor.resolve_left (λe=>by cases e.1)
 cases eq
 obtain⟨i178,eH,hz0,hz1,hz2⟩:=info_parts GN
 have hcell:∀j u,xs[j]? =some u->w.cell? ⟨g,j,none⟩=some u:=λj u hj=>by
  have hj':j<(m+1)*4:=by have:=(List.getElem?_eq_some_iff.1 hj).1;omega
  simp only[World.cell?,hg]
  rw[<-Array.getElem?_toList]
  rw[<-htk,List.getElem?_take,if_pos hj']at hj
  exact hj
 have hsome:∀j,j<(m+1)*4->(w.cell? ⟨g,j,none⟩).isSome=true:=λj hj=>by
  rw[hcell j _ (List.getElem?_eq_getElem (by omega))];rfl
 have hfz:∀(W:World),Fr (ig g) w W->True:=λ_ _=>trivial
 have hf0:∀j,w.frozen? ⟨g,j,none⟩=false:=λj=>by simp[World.frozen?,hg]
 obtain⟨news,hnews⟩:∃news,news=xs.drop ((i+1)*4):=⟨_,rfl⟩
 have hlen:news.length=(m+1-(i+1))*4:=by rw[hnews,List.length_drop];omega
 have Ms:∀t u,news[t]? =some u->xs[(i+1)*4+t]? =some u:=λt u e=>by rwa[hnews,List.getElem?_drop]at e
 obtain⟨A,hA,hsrc⟩:∃A:Addr,(if cap=i+1 then some (⟨g,0,none⟩:Addr)else some ⟨g,(i+1)*4,none⟩)=some A/\Hid (∀t u,news[t]? =some u->w.drew.cell? (A.add t)=some u):=by
  by_cases h:cap=i+1
  ·refine⟨⟨g,0,none⟩,by simp[h],λt u hu=>?_⟩
   have h0:news.length=0:=by rw[hlen];omega
   rw[List.length_eq_zero_iff.1 h0]at hu
   simp at hu
  ·refine⟨⟨g,(i+1)*4,none⟩,by simp[h],λt u hu=>?_⟩
   rw[Addr.add_lit]
   exact hcell _ u (Ms t u hu)
 have s1:=af hlen
 have s2:Hid (∀u∈news,u.oneCell'=true):=λu hu=>h1 u (by rw[hnews]at hu;exact List.mem_of_mem_drop hu)
 have s3:Hid (∀t,t<news.length->(w.drew.cell? ⟨g,0+i*4+t,none⟩).isSome=true/\w.drew.frozen? ⟨g,0+i*4+t,none⟩=false):=λt ht=>by
  rw[hlen]at ht
  exact⟨hsome _ (by omega),hf0 _⟩
 obtain⟨W1,hW1⟩:∃W1,W1=w.drew.setCells g (0+i*4) news:=⟨_,rfl⟩
 obtain⟨LH,k1,k2,k3⟩:=f_ news (0+i*4) w.drew cur hg (by rw[hlen,hcs];omega)
 rw[<-hW1]at k1
 have hcl:∀ty,(Builtin.clear_ #[121] ty #[.slice (some ⟨g,m*4,none⟩) 1 (cap-m)]).run prog W1=.ok (.tuple #[]) (W1.setCells g (m*4) [.int .i64 0,.int .i64 0,.int .i64 0,.string ⟨#[]⟩]):=λty=>
  FQ W1 ty g (m*4) _ (λj hj=>by
   have hlt:m*4+j<LH.size:=by rw[k2,hcs];omega
   simp only[World.cell?,k1]
   rw[Array.getElem?_eq_getElem hlt];rfl) (λj hj=>by simp[World.frozen?,k1])
 have hW:=af hW1
 have hic:i<=cap:=by omega
 have hjc:i+1<=cap:=by omega
 have Rh:(0:Int)<=(i:Int)+1:=by omega
 have hI2:(i:Int)+1<=(m:Int)+1:=by omega
 have OS:Hid (xs.length=(m+1)*4/\news=xs.drop ((i+1)*4)/\W1.heap[g]? =some (.cells LH 178 (0,0))/\LH.size=cap*4/\LH.toList=cur.toList.take (0+i*4)++news++cur.toList.drop (0+i*4+news.length)/\cur.toList.take ((m+1)*4)=xs):=⟨hl,hnews,k1,k2.trans hcs,k3,htk⟩
 clear hor hcell hsome hfz hf0 Ms hlen hnews k1 k2 k3 hg htk h1 hl hW1 hcs
 go_enter func220,ntmps220
 go_wp2_with fail
 go_region_law (refine step_append_room rfl (.tmp 22) (.tmp 25) 121 rfl 178 i178 4 underlying121 eH hz1 g 0 i cap (by simp[Act.eval,Act.put]) A (m+1-(i+1)) (cap-(i+1)) news (by simp[Act.eval,Act.put]) s1.out hsrc.out s2.out (by omega) s3.out ?_;rw[<-hW.out])
 rw[show i+(m-i)=m by omega]
 have aan:¬cap=m:=by omega
 have hmc:m<=cap:=by omega
 have hI3:(m:Int)<=(m:Int)+1:=by omega
 go_wp2
 go_ret
 obtain⟨f1,f2,f3,f4,f5,f6⟩:=OS.out
 obtain⟨Yf,k1,k2,k3⟩:=f_ [.int .i64 0,.int .i64 0,.int .i64 0,.string ⟨#[]⟩] (m*4) W1 LH f3 (by rw[f4];simp;omega)
 refine⟨rfl,⟨?_,.inr ⟨g,cap,Yf,rfl,hbg,k1,hmc,hcm,k2.trans f4,?_⟩⟩,?_⟩
 ·simp only[List.length_append,List.length_take,List.length_drop]
  omega
 ·have hcl:cur.toList.length=cap*4:=by
   have h1:=congrArg List.length f5
   simp only[List.length_append,List.length_take,List.length_drop,Array.length_toList]at h1
   have h2:=congrArg List.length f6
   simp only[List.length_take,Array.length_toList]at h2
   rw[Array.length_toList]
   have h3:news.length=(m+1-(i+1))*4:=s1.out
   omega
  have e1:(cur.toList.take (i*4))=xs.take (i*4):=by
   rw[<-f6,List.take_take,Nat.min_eq_left (by omega)]
  have h3:news.length=(m+1-(i+1))*4:=s1.out
  have e2:(xs.take (i*4)++news).length=m*4:=by
   rw[List.length_append,List.length_take,h3];omega
  rw[k3,List.append_assoc,List.take_left' (by rw[List.length_take,Array.length_toList,f4];omega),f5,Nat.zero_add,e1,List.take_left' e2,f2]
 ·have Bd:W1=w.drew.setCells g (0+i*4) news:=hW.out
  rw[Bd]
  exact(((Fr.refl (ig g) w).drew).trans (iR g news _ _)).trans (iR g _ _ _)
end
section
theorem line_eq(ps:dS)(x y p:Int)(hp:0<=p):∀k:Nat,dG ps x y p k=fC ps x y (x+p) (y+p) (k+1)
 |0=>rfl
 |k+1=>by
  rw[dG,line_eq ps x y p hp k,B9 _ _ _ _ _ _ _ hp]
  show _=(fC ps x y (x+p) (y+p) (k+1)||zv ps x y (x+p) (y+p) (k+1))
  simp[zv]
theorem side_eq(ax ay bx aY x y:Int):zD ax ay bx aY x y=bY ax ay bx aY x y:=by
 simp only[zD,bY]
 split
 ·rfl
 ·rename_i hne
  have hn:¬(aY-ay=0):=by
   intro h
   have:aY=ay:=by omega
   subst this
   exact hne rfl
  split
  ·rename_i hlt
   rw[Bool.eq_iff_iff]
   simp only[decide_eq_true_eq]
   have i1:(y-ay)*(bx-ax)= -((y-ay)*(ax-bx)):=by rw[<-Int.mul_neg];congr 1;omega
   have i2:(ax-x)*(aY-ay)= -((ax-x)*(ay-aY)):=by rw[<-Int.mul_neg];congr 1;omega
   have i3:(y-aY)*(ax-bx)=(y-ay)*(ax-bx)+(ay-aY)*(ax-bx):=by rw[<-Int.add_mul];congr 1;omega
   have i4:(x-bx)*(ay-aY)=(ay-aY)*(ax-bx)-(ax-x)*(ay-aY):=by
    rw[Int.mul_comm (ay-aY) (ax-bx),<-Int.sub_mul];congr 1;omega
   rw[i1,i2,i3,i4]
   omega
  ·rename_i hlt
   rw[Bool.eq_iff_iff]
   simp only[decide_eq_true_eq]
   have i2:(ax-x)*(aY-ay)= -((x-ax)*(aY-ay)):=by rw[<-Int.neg_mul];congr 1;omega
   rw[i2]
   omega
def sL(ps:dS)(x y:Int):Nat->Bool
 |0=>false
 |k+1=>Bool.xor (sL ps x y k) (bY (pg ps k).1 (pg ps k).2 (pg ps (k+1)).1 (pg ps (k+1)).2 x y)
def M6(ps:dS)(x y:Int):Bool:=bY (pg ps (ps.length-1)).1 (pg ps (ps.length-1)).2 (pg ps 0).1 (pg ps 0).2 x y
theorem wU(b c:Bool):(if c=true then !b else b)=Bool.xor b c:=by cases b<;>cases c<;>rfl
theorem zk(ps:dS)(x y:Int):∀k:Nat,eR ps x y (k+1)=Bool.xor (M6 ps x y) (sL ps x y k)
 |0=>by
  simp only[eR,eL,sL,if_true]
  rw[wU]
  simp[M6]
 |k+1=>by
  rw[eR,wU,zk ps x y k,eL,if_neg (by omega),sL,Bool.xor_assoc]
  rfl
theorem B4(c:Int)(b:Bool)(_h:0<=c):decide ((c+if b=true then 1 else 0)%2=1)=Bool.xor (decide (c%2=1)) b:=by
 cases b
 ·simp
 ·rw[if_pos rfl,Bool.xor_true,Bool.eq_iff_iff]
  simp only[decide_eq_true_eq,Bool.not_eq_true',decide_eq_false_iff_not]
  omega
theorem yL(ps:dS)(x y:Int):∀k:Nat,k+1<=ps.length->decide (kV ps x y k%2=1)=sL ps x y k
 |0,_=>rfl
 |k+1,h=>by
  rw[kV,B4 _ _ (qx ps x y k).1,yL ps x y k (by omega),side_eq,Nat.mod_eq_of_lt (by omega),sL]
theorem inside_eq(ps:dS)(x y:Int)(h:1<=ps.length):lV ps x y=qp ps x y:=by
 obtain⟨m,hm⟩:∃m,ps.length=m+1:=⟨ps.length-1,by omega⟩
 unfold lV qp
 rw[hm,zk,kV,B4 _ _ (qx ps x y m).1,yL ps x y m (by omega),side_eq,hm,Nat.mod_self,Bool.xor_comm]
 congr 1
 simp[M6,hm]
theorem LG(kd:Int)(ps:dS)(x y p:Int)(hp:0<=p)(hm:fS kd ps.length=true):gm kd ps x y p=dB kd ps x y (x+p) (y+p):=by
 simp only[fS,decide_eq_true_eq]at hm
 unfold gm dB
 rcases hm with⟨rfl,_⟩|⟨rfl,h1,h2⟩|⟨rfl,h1,h2⟩
 ·simp
 ·rw[if_neg (by decide),if_pos rfl,if_neg (by decide),if_pos rfl,line_eq ps x y p hp,wL,show ps.length-1+1=ps.length from by omega]
 ·rw[if_neg (by decide),if_neg (by decide),if_neg (by decide),if_neg (by decide),if_pos rfl,inside_eq _ _ _ (by omega)]
  congr 1<;>omega
theorem De(r:dS):∀(a:Bx),gN a (r.foldl (λb q=>b.join (eB q)) a)/\∀q∈r,gN (eB q) (r.foldl (λb q=>b.join (eB q)) a):=by
 induction r with
 |nil=>exact λa=>⟨gN.refl a,λq h=>by cases h⟩
 |cons p r ih=>
  intro a
  obtain⟨h1,h2⟩:=ih (a.join (eB p))
  refine⟨(gN.left a _).trans h1,λq h=>?_⟩
  rcases List.mem_cons.1 h with rfl|h
  ·exact(gN.right a _).trans h1
  ·exact h2 q h
theorem Tt{ps:dS}{q:Int×Int}(h:q∈ps):gN (eB q) (aD ps):=by
 cases ps with
 |nil=>cases h
 |cons p r=>
  rcases List.mem_cons.1 h with rfl|h
  ·exact(De r (eB q)).1
  ·exact(De r (eB p)).2 q h
variable {k:Nat}
theorem Tq{ps:dS}(h:k<ps.length):pg ps k∈ps:=by
 have:pg ps k=ps[k]:=mE (List.getElem?_eq_getElem h)
 rw[this]
 exact List.getElem_mem h
theorem qW{ps:dS}(h:k<ps.length):(aD ps).l<=(pg ps k).1/\(pg ps k).1<=(aD ps).r/\(aD ps).t<=(pg ps k).2/\(pg ps k).2<=(aD ps).b:=by
 obtain⟨h1,h2,h3,h4⟩:=Tt (Tq h)
 exact⟨h1,h3,h2,h4⟩
theorem Aw{ps:dS}(h:k<ps.length):(aD ps).l<=(eL ps k).1/\(eL ps k).1<=(aD ps).r/\(aD ps).t<=(eL ps k).2/\(eL ps k).2<=(aD ps).b:=by
 unfold eL
 split
 ·exact qW (by omega)
 ·exact qW (by omega)
theorem vP{ax ay bx aY x y:Int}(h1:x<ax)(h2:x<bx):bY ax ay bx aY x y=Bool.xor (decide (y<ay)) (decide (y<aY)):=by
 unfold bY
 by_cases c1:y<ay<;>by_cases c2:y<aY
 ·simp[c1,c2]
 ·rw[if_neg (by simp[c1,c2]),if_pos (by omega)]
  have k1:=Int.mul_nonneg (show 0<=y-aY by omega) (show 0<=ax-x by omega)
  have k2:=Int.mul_pos (show 0<bx-x by omega) (show 0<ay-y by omega)
  have i1:(x-bx)*(ay-aY)= -((bx-x)*(ay-y))-(bx-x)*(y-aY):=by
   rw[show x-bx= -(bx-x)by omega,show ay-aY=(ay-y)+(y-aY)by omega,Int.mul_add,Int.neg_mul,Int.neg_mul]
   omega
  have i2:(y-aY)*(ax-bx)=(y-aY)*(ax-x)-(bx-x)*(y-aY):=by
   rw[Int.mul_comm (bx-x) (y-aY),<-Int.mul_sub];congr 1;omega
  simp only[c1,c2,decide_true,decide_false,Bool.xor_false,decide_eq_true_eq]
  rw[i1,i2]
  omega
 ·rw[if_neg (by simp[c1,c2]),if_neg (by omega)]
  have k1:=Int.mul_nonneg (show 0<=y-ay by omega) (show 0<=bx-x by omega)
  have k2:=Int.mul_pos (show 0<ax-x by omega) (show 0<aY-y by omega)
  have i1:(x-ax)*(aY-ay)= -((ax-x)*(aY-y))-(ax-x)*(y-ay):=by
   rw[show x-ax= -(ax-x)by omega,show aY-ay=(aY-y)+(y-ay)by omega,Int.mul_add,Int.neg_mul,Int.neg_mul]
   omega
  have i2:(y-ay)*(bx-ax)=(y-ay)*(bx-x)-(ax-x)*(y-ay):=by
   rw[Int.mul_comm (ax-x) (y-ay),<-Int.mul_sub];congr 1;omega
  simp only[c1,c2,decide_true,decide_false,Bool.false_xor,decide_eq_true_eq]
  rw[i1,i2]
  omega
 ·simp[c1,c2]
theorem B7{ax ay bx aY x y:Int}(h1:ax<=x)(h2:bx<=x):bY ax ay bx aY x y=false:=by
 unfold bY
 by_cases c1:y<ay<;>by_cases c2:y<aY
 ·simp[c1,c2]
 ·rw[if_neg (by simp[c1,c2]),if_pos (by omega)]
  have k1:=Int.mul_nonneg (show 0<=y-aY by omega) (show 0<=x-ax by omega)
  have k2:=Int.mul_nonneg (show 0<=x-bx by omega) (show 0<=ay-y by omega)
  have i1:(x-bx)*(ay-aY)=(x-bx)*(ay-y)+(x-bx)*(y-aY):=by rw[<-Int.mul_add];congr 1;omega
  have i2:(y-aY)*(ax-bx)=(x-bx)*(y-aY)-(y-aY)*(x-ax):=by rw[Int.mul_comm (x-bx) (y-aY),<-Int.mul_sub];congr 1;omega
  rw[decide_eq_false_iff_not,i1,i2]
  omega
 ·rw[if_neg (by simp[c1,c2]),if_neg (by omega)]
  have k1:=Int.mul_nonneg (show 0<=y-ay by omega) (show 0<=x-bx by omega)
  have k2:=Int.mul_nonneg (show 0<=x-ax by omega) (show 0<=aY-y by omega)
  have i1:(x-ax)*(aY-ay)=(x-ax)*(aY-y)+(x-ax)*(y-ay):=by rw[<-Int.mul_add];congr 1;omega
  have i2:(y-ay)*(bx-ax)=(x-ax)*(y-ay)-(y-ay)*(x-bx):=by rw[Int.mul_comm (x-ax) (y-ay),<-Int.mul_sub];congr 1;omega
  rw[decide_eq_false_iff_not,i1,i2]
  omega
 ·simp[c1,c2]
theorem vO{ax ay bx aY x y:Int}(h:decide (y<ay)=decide (y<aY)):bY ax ay bx aY x y=false:=by
 unfold bY
 rw[if_pos h]
theorem Db(ps:dS)(x y:Int):∀k:Nat,k<=ps.length->(∀j,j<ps.length->bY (eL ps j).1 (eL ps j).2 (pg ps j).1 (pg ps j).2 x y=false)->eR ps x y k=false
 |0,_,_=>rfl
 |k+1,h,hj=>by
  rw[eR,hj k (by omega),if_neg (by simp)]
  exact Db ps x y k (by omega) hj
theorem Da(ps:dS)(x y:Int)(hx:∀j,j<ps.length->x<(pg ps j).1):∀k:Nat,k+1<=ps.length->eR ps x y (k+1)=Bool.xor (decide (y<(pg ps (ps.length-1)).2)) (decide (y<(pg ps k).2))
 |0,h=>by
  have h1:eR ps x y 1=if bY (pg ps (ps.length-1)).1 (pg ps (ps.length-1)).2 (pg ps 0).1 (pg ps 0).2 x y then true else false:=rfl
  rw[h1,vP (hx _ (by omega)) (hx _ (by omega))]
  cases Bool.xor (decide (y<(pg ps (ps.length-1)).2)) (decide (y<(pg ps 0).2))<;>rfl
 |k+1,h=>by
  rw[eR,wU,Da ps x y hx k (by omega),eL,if_neg (by omega),Nat.add_sub_cancel,vP (hx _ (by omega)) (hx _ (by omega))]
  cases decide (y<(pg ps (ps.length-1)).2)<;>cases decide (y<(pg ps k).2)<;>cases decide (y<(pg ps (k+1)).2)<;>rfl
theorem Es(ps:dS)(x y:Int)(hn:1<=ps.length)(h:qp ps x y=true):(aD ps).l<=x/\x<=(aD ps).r/\(aD ps).t<=y/\y<=(aD ps).b:=by
 have ne:∀{P:Prop},¬P->(∀j,j<ps.length->bY (eL ps j).1 (eL ps j).2 (pg ps j).1 (pg ps j).2 x y=false)->P:=by
  intro P _ hj
  have:=Db ps x y ps.length aM hj
  rw[qp,this]at h
  cases h
 refine⟨?_,?_,?_,?_⟩
 ·apply Classical.byContradiction
  intro hl
  have:=Da ps x y (λj hj=>by have:=qW hj;omega) (ps.length-1) (by omega)
  rw[show ps.length-1+1=ps.length from by omega,Bool.xor_self]at this
  rw[qp,this]at h
  cases h
 ·apply Classical.byContradiction
  intro hl
  exact hl (ne hl λj hj=>B7 (by have:=Aw hj;omega) (by have:=qW hj;omega))
 ·apply Classical.byContradiction
  intro hl
  exact hl (ne hl λj hj=>vO (by have h1:=Aw hj;have h2:=qW hj;rw[decide_eq_true (by omega),decide_eq_true (by omega)]))
 ·apply Classical.byContradiction
  intro hl
  exact hl (ne hl λj hj=>vO (by have h1:=Aw hj;have h2:=qW hj;rw[decide_eq_false (by omega),decide_eq_false (by omega)]))
theorem zw(ps:dS)(l t r b:Int):∀k:Nat,k<=ps.length->fC ps l t r b k=true->cV (aD ps) ⟨l,t,r,b⟩=true
 |0,_,h=>by cases h
 |1,_,h=>by cases h
 |k+2,hk,h=>by
  have h':(fC ps l t r b (k+1)||zv ps l t r b (k+1))=true:=h
  rcases Bool.or_eq_true_iff.1 h' with h|h
  ·exact zw ps l t r b (k+1) (by omega) h
  ·simp only[zv,pX,Bool.and_eq_true]at h
   have h1:=h.1
   have a1:=qW (ps:=ps) (k:=k) (by omega)
   have a2:=qW (ps:=ps) (k:=k+1) (by omega)
   simp only[Nat.add_sub_cancel,j3,cQ,aD,List.foldl_cons,List.foldl_nil,eB,Bx.join,ug,uh,decide_eq_true_eq]at h1
   simp only[cV,cQ,decide_eq_true_eq]
   omega
theorem B6(v:FV)(x:Bx)(hv:aj v.f=true)(hx:x.l<=x.r)(hy:x.t<=x.b)(h:dB v.f.kd v.f.ps x.l x.t x.r x.b=true):eG x v=true:=by
 simp only[aj,Bool.and_eq_true]at hv
 have hm:=hv.1.2
 simp only[fS,decide_eq_true_eq]at hm
 show cV (aD v.f.ps) ⟨x.l,x.t,x.r,x.b⟩=true
 unfold dB at h
 rcases hm with⟨e,h1⟩|⟨e,h1,h2⟩|⟨e,h1,h2⟩
 ·rw[e,if_pos rfl]at h
  have:=qW (ps:=v.f.ps) (k:=0) (by omega)
  simp only[fT,decide_eq_true_eq]at h
  simp only[cV,cQ,decide_eq_true_eq]
  omega
 ·rw[e,if_neg (by decide),if_pos rfl]at h
  exact zw _ _ _ _ _ _ aM h
 ·rw[e,if_neg (by decide),if_neg (by decide),if_pos rfl]at h
  have:=Es _ _ _ (by omega) h
  simp only[cV,cQ,decide_eq_true_eq]
  omega
end
section
open Go.RowKit
def lM(w:World)(a:Option Addr)(vs:List FV):Prop:=vs=[]\/∃b off,a=some ⟨b,off,none⟩/\lK w b off vs
variable {b off:Nat}
theorem lK.below{A B:World}(h:Below A.heap.size A B){vs:List FV}(f:lK A b off vs):lK B b off vs:=by
 obtain⟨hc,_⟩:=eF h
 refine⟨Nat.lt_of_lt_of_le f.1 h.size,λi v e=>?_⟩
 obtain⟨⟨c0,c1,c2,c3,c4⟩,g1,g2,g3,g4⟩:=f.2 i v e
 exact⟨⟨(hc _ _ f.1).trans c0,(hc _ _ f.1).trans c1,(hc _ _ f.1).trans c2,(hc _ _ f.1).trans c3,(hc _ _ f.1).trans c4⟩,g1,Nat.lt_of_lt_of_le g2 h.size,g3,λk x y q=>⟨(hc _ _ g2).trans (g4 k x y q).1,(hc _ _ g2).trans (g4 k x y q).2⟩⟩
theorem lM.below{A B:World}(h:Below A.heap.size A B){a:Option Addr}{vs:List FV}(f:lM A a vs):lM B a vs:=
 f.elim .inl λ⟨b,off,e,p⟩=> .inr ⟨b,off,e,p.below h⟩
variable {w:World} {k:Nat}
theorem lK.get{vs:List FV}(h:lK w b off vs){v:FV}(hv:vs[k]? =some v):
  ∃(id kd ht col:Int) (pb po n cap:Nat) (ps:dS),v=⟨⟨id,kd,ht,col,ps⟩,pb,po,cap⟩/\n=ps.length/\w.cell? ⟨b,off+k*5,none⟩=some (.int .i64 id)/\w.cell? ⟨b,off+k*5+1,none⟩=some (.int .i64 kd)/\w.cell? ⟨b,off+k*5+2,none⟩=some (.int .i64 ht)/\w.cell? ⟨b,off+k*5+3,none⟩=some (.int .i64 col)/\w.cell? ⟨b,off+k*5+4,none⟩=some (.slice (some ⟨pb,po,none⟩) n cap)/\cZ w.heap.size w pb po ps/\fS kd n=true/\ps.all lI=true/\n<=cap:=by
 obtain⟨⟨c0,c1,c2,c3,c4⟩,g1,g2,g3,g4⟩:=h.2 k v hv
 obtain⟨⟨id,kd,ht,col,ps⟩,pb,po,cap⟩:=v
 simp only[aj,Bool.and_eq_true]at g1
 exact⟨id,kd,ht,col,pb,po,ps.length,cap,ps,rfl,rfl,c0,c1,c2,c3,c4,⟨g2,g4⟩,g1.1.2,g1.2,g3⟩
theorem Oi(x:Bx){vs:List FV}{v:FV}(h:vs[k]? =some v):aN x (vs.take (k+1))=cR x (aN x (vs.take k)) v:=by
 rw[aN,aN,List.take_add_one,h,List.foldl_append]
 rfl
def mN(x:Bx)(vs:List FV)(k:Nat)(best:Int):Prop:=(best= -1/\aN x (vs.take k)=none)\/∃(j:Nat) (u:FV),j<k/\best=(j:Int)/\vs[j]? =some u/\aN x (vs.take k)=some u
theorem Dl(a:Option Addr)(n cap:Nat)(vs:List FV)(x y p:Int)(w:World)(hf:lM w a vs)(hn:n=vs.length)(hn2:n<=1000000000000000)
  (h5:0<=x) (h6:0<=y) (h7:0<=p) (g5:x<=300) (g6:y<=300) (g7:p<=300):
  Calls prog 107 #[.slice a n cap,.int .i64 x,.int .i64 y,.int .i64 p] w λe w'=>e=.returned (.int .i64 (j6 (aN ⟨x,y,x+p,y+p⟩ vs)))/\Below w.heap.size w w':=by
 have Hn:=af hn
 have Hf:=af hf
 clear hn hf
 go_enter func107,ntmps107
 go_wp2
 go_loopw [9,10] (λbt i wr=>∃(k:Nat) (best:Int),k<=n/\i=.int .i64 (k:Int)/\bt=.int .i64 best/\Hid (mN ⟨x,y,x+p,y+p⟩ vs k best)/\Below w.heap.size w wr) (λ_ i _=>n-(intOf i).toNat)
 case atStart=>exact⟨0,-1,by omega,rfl,rfl,Or.inl ⟨rfl,by simp[aN]⟩,bK⟩
 case round=>
  obtain⟨k,best,hk,rfl,rfl,HB,hBw⟩:=hrel
  have hsz:=hBw.size
  by_cases hlt:k<n
  ·have Ur:Hid (lM wr a vs):=Hf.out.below hBw
   obtain⟨v,hv⟩:∃v,vs[k]? =some v:=⟨vs[k]'(by rw[<-Hn.out];exact hlt),List.getElem?_eq_getElem _⟩
   obtain⟨b,off,rfl,hF⟩:=Ur.out.resolve_left (λe=>by rw[e]at hv;simp at hv)
   have HF:=af hF
   have Be:=hF.1
   obtain⟨id,kd,ht,col,pb,po,m,Np,ps,ev,hm,c0,c1,c2,c3,c4,hP,hmay,hall,hcap⟩:=hF.get hv
   have HS:Hid (aN ⟨x,y,x+p,y+p⟩ (vs.take (k+1))=cR ⟨x,y,x+p,y+p⟩ (aN ⟨x,y,x+p,y+p⟩ (vs.take k)) v):=Oi _ hv
   have Hv:=af hv
   have HC:Hid (∀W:World,Below wr.heap.size wr W->Calls prog 141 #[.agg #[.int .i64 id,.int .i64 kd,.int .i64 ht,.int .i64 col,.slice (some ⟨pb,po,none⟩) m Np],.int .i64 x,.int .i64 y,.int .i64 p] W λe w'=>e=.returned (.bool (dB kd ps x y (x+p) (y+p)))/\Below W.heap.size W w'):=λW hW=>by
    have:=Di id kd ht col pb po m Np ps x y p W ((hP.below hW).mono hW.size) hm hmay hall h5 h6 h7 g5 g6 g7
    rw[LG _ _ _ _ _ h7 (by rw[<-hm];exact hmay)]at this
    exact this
   have HE:=af ev
   clear hF hv hP hmay hall ev hm hcap Ur
   have hk2:((k:Int)).toNat=k:=by omega
   have hk3:(k:Int)<(n:Int):=by omega
   have Mj:Hid (best= -1\/∃j:Nat,j<k/\best=(j:Int)):=by
    rcases HB.out with⟨h,_⟩|⟨j,u,h1,h2,_⟩
    ·exact .inl h
    ·exact .inr ⟨j,h1,h2⟩
   go_upto_region 6 with(go_at_call 141;refine aq (HC.out _ (by first|exact bK|exact bK.drew)) ?_;rintro e w2 ⟨rfl,hb2⟩)
   obtain⟨hc2,hf2⟩:=eF hb2
   have hB2:Below w.heap.size w w2:=hBw.trans (hb2.mono hsz)
   have hs2:=hb2.size
   by_cases tZ:dB kd ps x y (x+p) (y+p)=true
   ·rw[tZ]
    rcases HB.out with⟨rfl,wD⟩|⟨j,u,hj,rfl,hu,wD⟩
    ·have HR:Hid (mN ⟨x,y,x+p,y+p⟩ vs (k+1) (k:Int)):=by
      refine Or.inr ⟨k,v,by omega,rfl,Hv.out,?_⟩
      rw[HS.out,wD,cR,HE.out]
      simp only[tZ,if_true]
     clear HS wD HE Hv HC HB Mj
     go_quiet (fail)
     go_wp2
     go_roundw
     case rel=>exact⟨k+1,(k:Int),by omega,by go_num,by go_num,HR,below_drewN hB2 _⟩
     case measure=>simp[intOf];omega
    ·obtain⟨id',ZX,ht',col',pb',po',m',VW,ps',ev',hm',d0,d1,d2,d3,d4,SE,Mz,Me,Ml⟩:=HF.out.get hu
     have mO:Hid (aN ⟨x,y,x+p,y+p⟩ (vs.take (k+1))=if dU ht id ht' id' then some v else some u):=by
      show aN _ _=_
      rw[HS.out,wD,cR,HE.out,ev']
      simp only[tZ,if_true]
     have Hu:=af hu
     have HN:Hid (dU ht id ht' id'=true->mN ⟨x,y,x+p,y+p⟩ vs (k+1) (k:Int)):=λh=>Or.inr ⟨k,v,by omega,rfl,Hv.out,by rw[mO.out,h];rfl⟩
     have HO:Hid (dU ht id ht' id'=false->mN ⟨x,y,x+p,y+p⟩ vs (k+1) (j:Int)):=λh=>Or.inr ⟨j,u,by omega,rfl,Hu.out,by rw[mO.out,h];rfl⟩
     have e2:=(hc2 b (off+k*5+2) Be).trans c2
     have e0:=(hc2 b (off+k*5) Be).trans c0
     have f2:=(hc2 b (off+j*5+2) Be).trans d2
     have f0:=(hc2 b (off+j*5) Be).trans d0
     have hj2:((j:Int)).toNat=j:=by omega
     have hj3:(j:Int)<(n:Int):=by omega
     have hj0:decide ((j:Int)<0)=false:=by simp
     clear HS wD HE Hv HC HB Mj ev' hm' d0 d1 d2 d3 d4 SE Mz Me Ml hu mO Hu c0 c1 c2 c3 c4 hc2 hf2 HF tZ
     by_cases t1:ht'<ht
     ·have HR:=HN.out (by simp only[dU];rw[if_neg (by omega)];simpa using t1)
      have HR:=af HR
      clear HN HO
      go_quiet (fail)
      go_wp2
      go_roundw
      case rel=>exact⟨k+1,(k:Int),by omega,by go_num,by go_num,HR,below_drewN hB2 _⟩
      case measure=>simp[intOf];omega
     ·have t1':decide (ht'<ht)=false:=by simpa using t1
      by_cases t2:ht=ht'
      ·subst t2
       by_cases t3:id'<id
       ·have HR:Hid (mN ⟨x,y,x+p,y+p⟩ vs (k+1) (k:Int)):=HN.out (by simp only[dU,if_true];simpa using t3)
        clear HN HO
        go_quiet (fail)
        go_wp2
        go_roundw
        case rel=>exact⟨k+1,(k:Int),by omega,by go_num,by go_num,HR,below_drewN hB2 _⟩
        case measure=>simp[intOf];omega
       ·have t3':decide (id'<id)=false:=by simpa using t3
        have HR:Hid (mN ⟨x,y,x+p,y+p⟩ vs (k+1) (j:Int)):=HO.out (by simp only[dU,if_true];exact t3')
        clear HN HO
        go_quiet (fail)
        go_wp2
        go_roundw
        case rel=>exact⟨k+1,(j:Int),by omega,by go_num,by go_num,HR,below_drewN hB2 _⟩
        case measure=>simp[intOf];omega
      ·have t2':decide (ht=ht')=false:=by simpa using t2
       have HR:Hid (mN ⟨x,y,x+p,y+p⟩ vs (k+1) (j:Int)):=HO.out (by simp only[dU];rw[if_neg t2];exact t1')
       clear HN HO
       go_quiet (fail)
       go_wp2
       go_roundw
       case rel=>exact⟨k+1,(j:Int),by omega,by go_num,by go_num,HR,below_drewN hB2 _⟩
       case measure=>simp[intOf];omega
   ·have Cw:dB kd ps x y (x+p) (y+p)=false:=by simpa using tZ
    have HR:Hid (mN ⟨x,y,x+p,y+p⟩ vs (k+1) best):=by
     have e:aN ⟨x,y,x+p,y+p⟩ (vs.take (k+1))=aN ⟨x,y,x+p,y+p⟩ (vs.take k):=by
      rw[HS.out,HE.out]
      generalize aN ⟨x,y,x+p,y+p⟩ (vs.take k)=o
      simp[cR,Cw]
     rcases HB.out with⟨h1,h2⟩|⟨j,u,h1,h2,h3,h4⟩
     ·exact Or.inl ⟨h1,e.trans h2⟩
     ·exact Or.inr ⟨j,u,by omega,h2,h3,e.trans h4⟩
    rw[Cw]
    clear tZ Cw HS HE Hv HC HB Mj HF
    go_quiet (fail)
    go_wp2
    go_roundw
    case rel=>exact⟨k+1,best,by omega,by go_num,by go_num,HR,below_drewN hB2 _⟩
    case measure=>simp[intOf];omega
  ·have HK:Hid (vs.take k=vs):=by
    show vs.take k=vs
    rw[show k=vs.length by have:=Hn.out;omega,List.take_length]
   rcases HB.out with⟨rfl,wD⟩|⟨j,u,hj,rfl,hu,wD⟩
   ·have HT:Hid (j6 (aN ⟨x,y,x+p,y+p⟩ vs)=0):=by
     have h:=wD
     rw[HK.out]at h
     show j6 _=0
     rw[h];rfl
    clear wD HK
    go_wp2
    go_ret
    exact⟨kB HT.out.symm,hBw⟩
   ·have Ur:Hid (lM wr a vs):=Hf.out.below hBw
    obtain⟨b,off,rfl,hF⟩:=Ur.out.resolve_left (λe=>by rw[e]at hu;simp at hu)
    obtain⟨id',ZX,ht',col',pb',po',m',VW,ps',ev',hm',d0,d1,d2,d3,d4,SE,Mz,Me,Ml⟩:=hF.get hu
    have HT:Hid (j6 (aN ⟨x,y,x+p,y+p⟩ vs)=col'):=by
     have h:=wD
     rw[HK.out]at h
     show j6 _=col'
     rw[h,ev'];rfl
    have hj2:((j:Int)).toNat=j:=by omega
    have hj3:(j:Int)<(n:Int):=by omega
    clear wD HK hF Ur hu ev' hm' d0 d1 d2 d4 SE Mz Me Ml Hf HB
    go_wp2
    go_ret
    exact⟨kB HT.out.symm,hBw⟩
end
section
open Go.RowKit Go.Shelf
theorem Pn(a:Nat)(ha:a<4294967296):bits BinOp.and IntKind.u32 (a:Int) 1=((a%2:Nat):Int):=by
 have e:(BitVec.ofInt 32 (a:Int)&&&BitVec.ofInt 32 1).toNat=a%2:=by
  rw[BitVec.toNat_and]
  have h1:(BitVec.ofInt 32 (a:Int)).toNat=a:=by simp;omega
  rw[h1]
  show a&&&1=a%2
  exact Nat.and_two_pow_sub_one_eq_mod a 1
 show IntKind.u32.wrap ((BitVec.ofInt 32 (a:Int)&&&BitVec.ofInt 32 1).toNat:Int)=_
 rw[e]
 simp[IntKind.wrap,IntKind.bits,IntKind.signed]
 omega
theorem uM{a b:Int}(h:a=b):Value.int .u32 a=.int .u32 b:=by rw[h]
theorem vL(s:ByteArray)(k:Nat)(h:k<s.size):s.data.toList.take (k+1)=s.data.toList.take k++[s[k]]:=by
 rw[List.take_add_one]
 have:s.data.toList[k]? =some s[k]:=by
  rw[List.getElem?_eq_getElem (by simpa using h)]
  rfl
 rw[this];rfl
theorem Tx(s:ByteArray)(w:World)(hs:s.size<=1000000):
  Calls prog 60 #[.string s] w λe w'=>e=.returned (.int .u32 ((rD s.data.toList:Nat):Int))/\w'=w:=by
 go_enter func60,ntmps60
 go_wp2
 go_loop [3,8] (λv i=>∃(k:Nat) (u:Nat),k<=s.size/\i=.int .i64 k/\v=.int .u32 (u:Int)/\Hid (u=kN (s.data.toList.take k))) (λ_ i=>s.size-(intOf i).toNat)
 case atStart=>exact⟨0,4294967295,by omega,rfl,rfl,by show _=kN _;simp[kN]⟩
 case round=>
  obtain⟨k,u,hk,rfl,rfl,HU⟩:=hrel
  have hu:u<4294967296:=by rw[HU.out];exact Gt _
  by_cases hlt:k<s.size
  ·have HB:Hid (kN (s.data.toList.take (k+1))=fU 8 (u^^^s[k].toNat)):=by
    show kN _=_
    rw[vL s k hlt,yM,<-HU.out]
   have HX:Hid (bits BinOp.xor IntKind.u32 (u:Int) ((s[k].toNat:Int)%4294967296)=((u^^^s[k].toNat:Nat):Int)):=by
    show bits _ _ _ _=_
    have:=s[k].toNat_lt
    rw[show(s[k].toNat:Int)%4294967296=((s[k].toNat:Nat):Int)by omega,A9 _ _ hu (by omega)]
   have hv:u^^^s[k].toNat<4294967296:=Nat.xor_lt_two_pow (n:=32) hu (by have:=s[k].toNat_lt;omega)
   obtain⟨v,VL⟩:∃v,u^^^s[k].toNat=v:=⟨_,rfl⟩
   rw[VL]at HB HX hv
   clear VL HU
   go_wp2
   go_loop [3,17] (λx i=>∃(j:Nat) (y:Nat),j<=8/\i=.int .i64 j/\x=.int .u32 (y:Int)/\Hid (y=fU j v)) (λ_ i=>8-(intOf i).toNat)
   case atStart=>exact⟨0,v,by omega,rfl,uM HX.out,rfl⟩
   case round=>
    obtain⟨j,y,hj,rfl,rfl,HY⟩:=hrel
    have hy:y<4294967296:=by rw[HY.out];exact sF hv _
    by_cases hlt2:j<8
    ·have HS:Hid (fU (j+1) v=tJ y):=by show fU (j+1) v=_;rw[fU,HY.out]
     have hand:=Pn y hy
     by_cases hp:y%2=1
     ·rw[hp]at hand
      have zZ:Hid (bits BinOp.xor IntKind.u32 ((y:Int)/2) 3988292384=((fU (j+1) v:Nat):Int)):=by
       show bits _ _ _ _=_
       rw[HS.out,tJ,if_pos hp,show(y:Int)/2=((y/2:Nat):Int)by omega,show(3988292384:Int)=((3988292384:Nat):Int)by rfl,A9 _ _ (by omega) (by decide)]
      clear HY HS hp
      go_wp2
      exact⟨⟨j+1,_,by omega,by go_num,uM zZ.out,rfl⟩,by simp[intOf];omega⟩
     ·rw[show y%2=0 by omega]at hand
      have zZ:Hid (((y:Int)/2)=((fU (j+1) v:Nat):Int)):=by
       show _=_
       rw[HS.out,tJ,if_neg hp]
       omega
      clear HY HS hp
      go_wp2
      exact⟨⟨j+1,_,by omega,by go_num,uM zZ.out,rfl⟩,by simp[intOf];omega⟩
    ·have HE:Hid (y=kN (s.data.toList.take (k+1))):=by
      show y=_
      rw[HB.out,HY.out,show j=8 by omega]
     go_wp2
     go_round
     case rel=>exact⟨k+1,y,by omega,by go_num,rfl,HE⟩
     case measure=>simp[intOf];omega
  ·have HE:Hid (bits BinOp.xor IntKind.u32 IntKind.u32.max (u:Int)=((rD s.data.toList:Nat):Int)):=by
    show bits _ _ _ _=_
    have h1:u=kN s.data.toList:=by
     rw[HU.out,show k=s.data.toList.length by simp only[Array.length_toList];show k=s.size;omega,List.take_length]
    rw[show IntKind.u32.max=((4294967295:Nat):Int)by rfl,A9 _ _ (by decide) hu,Ov u hu,rD,h1]
   clear HU
   go_wp2
   go_ret
   exact⟨congrArg Ending.returned (uM HE.out),rfl⟩
theorem oz{a b:Int}(h:a=b):Value.int .i64 a=.int .i64 b:=by rw[h]
theorem QD(s:ByteArray)(w:World)(hs:s.size<=1000000):
  Calls prog 109 #[.string s] w λe w'=>e=.returned (.int .i64 ((rD s.data.toList:Nat):Int))/\w'=w:=by
 go_enter func109,ntmps109
 go_wp2
 go_loop [3,4] (λv i=>∃(k:Nat) (u:Nat),k<=s.size/\i=.int .i64 k/\v=.int .i64 (u:Int)/\Hid (u=kN (s.data.toList.take k))) (λ_ i=>s.size-(intOf i).toNat)
 case atStart=>exact⟨0,4294967295,by omega,rfl,rfl,by show _=kN _;simp[kN]⟩
 case round=>
  obtain⟨k,u,hk,rfl,rfl,HU⟩:=hrel
  have hu:u<4294967296:=by rw[HU.out];exact Gt _
  by_cases hlt:k<s.size
  ·have HB:Hid (kN (s.data.toList.take (k+1))=gY u s[k].toNat 8):=by
    show kN _=_
    rw[vL s k hlt,EA,<-HU.out]
   have hc:=s[k].toNat_lt
   obtain⟨c,hcc⟩:∃c,s[k].toNat=c:=⟨_,rfl⟩
   have HC:Hid (wrap64 (s[k].toNat:Int)=(c:Int)):=by
    show wrap64 _=_
    rw[hcc]at hc⊢
    unfold wrap64
    omega
   rw[hcc]at HB hc
   clear hcc HU
   go_wp2
   go_loop [3,5,6] (λx d i=>∃(j:Nat) (y:Nat) (e:Nat),j<=8/\i=.int .i64 j/\x=.int .i64 (y:Int)/\d=.int .i64 (e:Int)/\Hid (y=gY u c j)/\Hid (e=c/2^j)) (λ_ _ i=>8-(intOf i).toNat)
   case atStart=>exact⟨0,u,c,by omega,rfl,rfl,oz HC.out,rfl,by show c=_;simp⟩
   case round=>
    obtain⟨j,y,e,hj,rfl,rfl,rfl,HY,HE⟩:=hrel
    have hy:y<4294967296:=by rw[HY.out];exact zu hu _ _
    have he:e<256:=by rw[HE.out];exact Nat.lt_of_le_of_lt (Nat.div_le_self _ _) (by omega)
    by_cases hlt2:j<8
    ·have HS:Hid (gY u c (j+1)=tL y e):=by show gY u c (j+1)=_;rw[gY,HY.out,HE.out]
     have Ox:Hid (((e:Int)/2)=((c/2^(j+1):Nat):Int)):=by
      show _=_
      rw[Nat.pow_succ,<-Nat.div_div_eq_div_mul,<-HE.out]
      omega
     by_cases hp:(y+e)%2=1
     ·have hp':((y:Int)+(e:Int))%2=1:=by omega
      have zZ:Hid (bits BinOp.xor IntKind.i64 ((y:Int)/2) 3988292384=((gY u c (j+1):Nat):Int)):=by
       show bits _ _ _ _=_
       rw[HS.out,tL,if_pos hp,show(y:Int)/2=((y/2:Nat):Int)by omega,show(3988292384:Int)=((3988292384:Nat):Int)by rfl,QO _ _ (by omega) (by decide)]
      clear HY HS hp HE
      go_wp2
      exact⟨⟨j+1,_,_,by omega,by go_num,oz zZ.out,oz Ox.out,rfl,rfl⟩,by simp[intOf];omega⟩
     ·have hp':((y:Int)+(e:Int))%2=0:=by omega
      have zZ:Hid (((y:Int)/2)=((gY u c (j+1):Nat):Int)):=by
       show _=_
       rw[HS.out,tL,if_neg hp]
       omega
      clear HY HS hp HE
      go_wp2
      exact⟨⟨j+1,_,_,by omega,by go_num,oz zZ.out,oz Ox.out,rfl,rfl⟩,by simp[intOf];omega⟩
    ·have HE:Hid (y=kN (s.data.toList.take (k+1))):=by
      show y=_
      rw[HB.out,HY.out,show j=8 by omega]
     go_wp2
     go_round
     case rel=>exact⟨k+1,y,by omega,by go_num,rfl,HE⟩
     case measure=>simp[intOf];omega
  ·have HE:Hid ((4294967295:Int)-(u:Int)=((rD s.data.toList:Nat):Int)):=by
    show _=_
    have h1:u=kN s.data.toList:=by
     rw[HU.out,show k=s.data.toList.length by simp only[Array.length_toList];show k=s.size;omega,List.take_length]
    rw[rD,<-h1]
    omega
   clear HU
   go_wp2
   go_ret
   exact⟨congrArg Ending.returned (oz HE.out),rfl⟩
def Fp(d:List UInt8):List UInt8:=List.replicate (8-d.length) 48++d
def qT(l:List UInt8):List UInt8:=Fp (cD 16 (rD l))
theorem AZ{a b:List UInt8}(h:a=b):Ending.returned (.string ⟨a.toArray⟩)=.returned (.string ⟨b.toArray⟩):=by rw[h]
theorem JW(s:ByteArray)(w:World)(hs:s.size<=1000000):
  Calls prog 65 #[.string s] w λe w'=>e=.returned (.string ⟨(qT s.data.toList).toArray⟩)/\∃q,w'=w.drewN q:=by
 have hlt:=A3 s.data.toList
 obtain⟨n,hn⟩:∃n,rD s.data.toList=n:=⟨_,rfl⟩
 have HS:Hid (∀W:World,Calls prog 109 #[.string s] W λe w'=>e=.returned (.int .i64 (n:Int))/\w'=W):=λW=>by rw[<-hn];exact QD s W hs
 have HM:Hid (qT s.data.toList=Fp (cD 16 n)):=by show qT _=_;rw[qT,hn]
 have HD:Hid (∀W:World,Calls prog 108 #[.int .i64 (n:Int),.int .i64 16] W λe w'=>e=.returned (.string ⟨(cD 16 n).toArray⟩)/\∃q,w'=W.drewN q):=λW=>vS n 16 W (by omega) (by decide) (by decide)
 rw[hn]at hlt
 clear hn
 obtain⟨d,hd⟩:∃d,cD 16 n=d:=⟨_,rfl⟩
 rw[hd]at HM HD
 clear hd
 go_enter func65,ntmps65
 go_wp2_with (first
  |(go_at_call 109;refine aq (HS.out _) ?_;rintro e w2 ⟨rfl,rfl⟩)
  |(go_at_call 108;refine aq (HD.out _) ?_;rintro e w2 ⟨rfl,q,rfl⟩))
 go_loop [4] (λv=>∃j:Nat,v=.string ⟨(List.replicate j 48++d).toArray⟩/\(j=0\/j+d.length<=8)) (λv=>match v with| .string t=>8-t.size|_=>0)
 case atStart=>exact⟨0,by simp,.inl rfl⟩
 case round=>
  obtain⟨j,rfl,hj⟩:=hrel
  by_cases hl:j+d.length<8
  ·have hadd:∀w':World,Sem.run prog (Op.stringOp .add ⟨#[48]⟩ ⟨(List.replicate j 48++d).toArray⟩) w'=.ok (.string ⟨(List.replicate (j+1) 48++d).toArray⟩) w':=λw'=>by
    have:=run_string_add_lists (P:=prog) w' [48] (List.replicate j 48++d) (by simp) (by simp;omega)
    rw[List.replicate_succ,List.cons_append]
    exact this
   go_wp2
   refine⟨⟨j+1,rfl,.inr (by omega)⟩,?_⟩
   simp[ByteArray.size]
   omega
  ·have HE:Hid (List.replicate j 48++d=Fp d):=by
    show _=_
    rw[Fp]
    congr 2
    omega
   go_wp2
   go_ret
   exact⟨AZ (HE.out.trans HM.out.symm),q,rfl⟩
theorem Cb(n:Nat):cD 10 n=Lib.decDigits n:=by
 induction n using Nat.strongRecOn with
 |_ n ih=>
  rw[cD,Lib.decDigits]
  by_cases h:n<10
  ·rw[dif_pos (.inl h),dif_pos h,vQ,if_pos h]
  ·rw[dif_neg (by omega),dif_neg h,ih (n/10) (by omega),vQ,if_pos (by omega)]
def runT(n c:Nat):List UInt8:=cD 10 n++[120]++cD 10 c
theorem QL(n c:Nat):(txt n c).data.toList=runT n c:=by simp[txt,runT,Cb]
def N_(t:List UInt8×Nat×Nat)(c:Nat):List UInt8×Nat×Nat:=if c=t.2.2 then(t.1,t.2.1+1,t.2.2)else(t.1++runT t.2.1 t.2.2++[44],1,c)
def fin(t:List UInt8×Nat×Nat):List UInt8:=t.1++runT t.2.1 t.2.2
def tu(l:List (Nat×Nat)):List UInt8:=Lib.join (l.map λr=>runT r.1 r.2) [44]
theorem Ff(n c n' c':Nat)(l:List (Nat×Nat)):tu ((n,c)::(n',c')::l)=runT n c++[44]++tu ((n',c')::l):=by
 simp[tu,Lib.join]
theorem Jp(n c:Nat):tu [(n,c)]=runT n c:=by simp[tu,Lib.join]
theorem vY:∀(r:List Nat) (s:List UInt8) (n c:Nat),fin (r.foldl N_ (s,n,c))=s++tu ((n+lead c r,c)::FL (r.drop (lead c r)))
 |[],s,n,c=>by simp[fin,lead,FL,Jp]
 |d::r,s,n,c=>by
  by_cases h:d=c
  ·subst h
   have e:N_ (s,n,d) d=(s,n+1,d):=by simp[N_]
   have e2:lead d (d::r)=lead d r+1:=by simp[lead]
   rw[List.foldl_cons,e,vY r s (n+1) d,e2,List.drop_succ_cons]
   congr 4
   omega
  ·have e:N_ (s,n,c) d=(s++runT n c++[44],1,d):=by simp[N_,h]
   have e2:lead c (d::r)=0:=by simp[lead,h]
   rw[List.foldl_cons,e,vY r _ 1 d,e2,List.drop_zero,Nat.add_zero,FL,Ff,Nat.add_comm (lead d r) 1]
   simp only[List.append_assoc]
theorem Jq(cs:List Nat):Lib.join ((ia cs).map (·.data.toList)) [44]=tu (FL cs):=by
 rw[tu,ia,List.map_map]
 congr 2
 funext r
 exact QL r.1 r.2
def lC(f:Nat->Nat):Nat->List UInt8×Nat×Nat
 |0=>([],1,f 0)
 |k+1=>N_ (lC f k) (f (k+1))
theorem Dt(f:Nat->Nat):∀k,lC f k=((List.range' 1 k).map f).foldl N_ ([],1,f 0)
 |0=>rfl
 |k+1=>by rw[lC,Dt f k,List.range'_concat,List.map_append,List.foldl_append,Nat.one_mul,Nat.add_comm 1 k];rfl
theorem Av(f:Nat->Nat):fin (lC f 63)=Lib.join ((ia ((List.range 64).map f)).map (·.data.toList)) [44]:=by
 rw[Jq,Dt,vY,List.nil_append]
 have e:(List.range 64).map f=f 0::(List.range' 1 63).map f:=by rw[List.range_eq_range',List.range'_succ];rfl
 rw[e,FL,Nat.add_comm 1]
theorem fq(n:Nat)(h:n<100):(cD 10 n).length<=2:=by rw[Cb];exact cU n h
theorem FX(f:Nat->Nat)(hf:∀k,f k<100):∀k,k<64->(lC f k).1.length<=6*k/\(lC f k).2.1<=k+1/\(lC f k).2.2<100
 |0,_=>⟨by simp[lC],by simp[lC],hf 0⟩
 |k+1,h=>by
  obtain⟨h1,h2,h3⟩:=FX f hf k (by omega)
  rw[lC,N_]
  split
  ·exact⟨by simp only[];omega,by simp only[];omega,h3⟩
  ·refine⟨?_,by simp only[];omega,hf _⟩
   have:=fq (lC f k).2.1 (by omega)
   have:=fq (lC f k).2.2 h3
   simp only[runT,List.length_append,List.length_cons,List.length_nil]
   omega
theorem fold_filter(x:Bx):∀(vs:List FV) (o:Option FV),(∀v∈vs,eG x v=false->dB v.f.kd v.f.ps x.l x.t x.r x.b=false)->(vs.filter (eG x)).foldl (cR x) o=vs.foldl (cR x) o
 |[],_,_=>rfl
 |v::r,o,h=>by
  have ih:=λo=>fold_filter x r o (λu hu=>h u (by simp[hu]))
  by_cases hm:eG x v=true
  ·rw[List.filter_cons_of_pos hm,List.foldl_cons,List.foldl_cons,ih]
  ·have hm':eG x v=false:=by simpa using hm
   rw[List.filter_cons_of_neg (by simpa using hm),List.foldl_cons,ih]
   congr 1
   simp[cR,h v (by simp) hm']
theorem p_(x:Bx)(vs:List FV)(hv:∀v∈vs,aj v.f=true)(hx:x.l<=x.r)(hy:x.t<=x.b):aN x (vs.filter (eG x))=aN x vs:=
 fold_filter x vs none λv h hm=>by
  cases hc:dB v.f.kd v.f.ps x.l x.t x.r x.b with
  |false=>rfl
  |true=>rw[B6 v x (hv v h) hx hy hc]at hm;cases hm
end
end Go.Proofs.YtenaepdmlknlcaaGreatDoor
