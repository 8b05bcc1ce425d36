import Derived.Test.YtenaepdmlknlcaaGreatDoorG05
import Derived.Test.YtenaepdmlknlcaaGreatDoorG06
open Go.Proofs.Tryz
set_option maxRecDepth 100000
set_option maxHeartbeats 8000000
namespace Go.Proofs.YtenaepdmlknlcaaGreatDoor
section
open Go.RowKit Go.Shelf
def lead(c:Nat):List Nat->Nat
 |[]=>0
 |d::r=>if d=c then lead c r+1 else 0
theorem GU(c:Nat):∀l:List Nat,lead c l<=l.length
 |[]=>aM
 |d::r=>by simp only[lead];split<;>(have:=GU c r;simp;try omega)
def FL:List Nat->List (Nat×Nat)
 |[]=>[]
 |c::r=>(lead c r+1,c)::FL (r.drop (lead c r))
termination_by l=>l.length
decreasing_by simp;omega
theorem ze(c:Nat):∀(l:List Nat) (k:Nat),k<=l.length->(∀j,j<k->l[j]? =some c)->l[k]? ≠some c->lead c l=k
 |[],k,hk,_,_=>by simp at hk;subst hk;rfl
 |d::r,0,_,_,hn=>by
  simp at hn
  simp[lead,hn]
 |d::r,k+1,hk,h,hn=>by
  have h0:=h 0 (by omega)
  simp at h0
  subst h0
  simp only[lead,if_true]
  rw[ze d r k (by simpa using hk) (λj hj=>by have:=h (j+1) (by omega);simpa using this) (by simpa using hn)]
def txt(n c:Nat):ByteArray:=⟨(Lib.decDigits n++[120]++Lib.decDigits c).toArray⟩
def ia(cs:List Nat):List ByteArray:=(FL cs).map λr=>txt r.1 r.2
theorem y6:(prog.info? 9).map (λi=>(i.zero,i.size,i.bytes))=some (some (.string ⟨#[]⟩),1,16):=by kernel_rfl
variable {ops:Array Oper} {w:World} {Q:Exit->Act->World->Prop} {E:Prop}
theorem jo{P:Program}{o:Oper}{a:Act}{K:Act->World->Prop}(hgd:o.guard=none)(s x:Operand)(t:TypeId)
  (ho:o.op=.call {callee:=.builtin .append,args:=#[s,x],argTypes:=#[t,t]})
  (base:Nat) (e:TypeId) (i:TypeInfo) (z:Value) (size bytes:Nat) (ht:P.underlying t=some (.slice e)) (hi:P.info? e=some i) (hz:i.zero=some z)
  (hsize:i.size=size) (hby:i.bytes=bytes) (hzs:z.cells.size=size) (hsz:0<size)
  (v:Value) (n:Nat) (xs:List Value) (hs:a.eval s=v) (hown:w.ownsRow base e size v n xs)
  (ad:Addr) (m c:Nat) (news:List Value) (hx:a.eval x=.slice (some ad) m c) (hl:news.length=m*size) (hnews:∀j u,news[j]? =some u->w.cell? (ad.add j)=some u) (h1:∀u∈news,u.oneCell'=true)
  (h63:n+m<=maxLen) (hbytes:(n+m)*bytes<=140737488355328) (hbase:base<=w.heap.size)
  (h:∀v' w',w'.ownsRow base e size v' (n+m) (xs++news)->w.grownBy w' v.ownBlock->K (a.put o.dst v') w'):
  if Region.wanted o (yielded ops a.tmps)=true then Oper.wp P o a w K Q else E:=by
 rw[if_pos (by simp[Region.wanted,hgd])]
 exact wp_append_own w s x t ho base e i z size bytes ht hi hz hsize hby hzs hsz v n xs hs hown ad m c news hx hl hnews h1 h63 hbytes hbase λv' w' h2 h3 _=>h v' w' h2 h3
theorem cU(u:Nat)(h:u<100):(Lib.decDigits u).length<=2:=by
 unfold Lib.decDigits
 split
 ·simp
 ·rw[List.length_append]
  unfold Lib.decDigits
  rw[dif_pos (by omega)]
  simp
theorem NT:∀(n:Nat) (cs:List Nat),cs.length<=n->(FL cs).length<=cs.length/\∀p∈FL cs,p.1<=cs.length/\p.2∈cs
 |_,[],_=>by simp[FL]
 |0,c::r,h=>by simp at h
 |n+1,c::r,h=>by
  have hl:=GU c r
  have ih:=NT n (r.drop (lead c r)) (by simp at h⊢;omega)
  rw[List.length_drop]at ih
  rw[FL]
  refine⟨by simp;omega,λp hp=>?_⟩
  rcases List.mem_cons.1 hp with rfl|hp
  ·exact⟨by simp;omega,by simp⟩
  ·have:=ih.2 p hp
   exact⟨by simp;omega,List.mem_cons_of_mem _ (List.mem_of_mem_drop this.2)⟩
theorem nB(sep:List UInt8)(hs:sep.length=1):∀(l:List (List UInt8)),(∀x∈l,x.length<=5)->(Lib.joinTail sep l).length<=6*l.length
 |[],_=>by simp[Lib.joinTail]
 |x::r,h=>by
  have h1:=nB sep hs r (λy hy=>h y (by simp[hy]))
  have h2:=h x (by simp)
  simp only[Lib.joinTail,List.map_cons,List.flatten_cons,List.length_append,List.length_cons]at h1⊢
  omega
theorem Fg(cs:List Nat)(hc:∀c∈cs,c<100)(hn:cs.length<=64):(Lib.join ((ia cs).map (·.data.toList)) ((⟨#[44]⟩:ByteArray)).data.toList).length<=140737488355328:=by
 have hb:=NT cs.length cs aM
 have hx:∀x∈(ia cs).map (·.data.toList),x.length<=5:=by
  intro x hx
  simp only[ia,List.map_map,List.mem_map,Function.comp]at hx
  obtain⟨p,hp,rfl⟩:=hx
  have h1:=hb.2 p hp
  have h2:=cU p.1 (by omega)
  have h3:=cU p.2 (hc _ h1.2)
  simp[txt];omega
 have hl:((ia cs).map (·.data.toList)).length<=64:=by simp[ia];omega
 generalize (ia cs).map (·.data.toList)=l at *
 cases l with
 |nil=>simp[Lib.join_nil]
 |cons x r=>
  rw[Lib.join_cons,List.length_append]
  have h1:=nB ((⟨#[44]⟩:ByteArray)).data.toList rfl r (λy hy=>hx y (by simp[hy]))
  have h2:=hx x (by simp)
  simp at hl
  omega
theorem NZ(b off n cap:Nat)(cs:List Nat)(w:World)(hb:b<w.heap.size)(hcs:∀(j:Nat) c,cs[j]? =some c->w.cell? ⟨b,off+j,none⟩=some (.int .i64 (c:Int)))(hc:∀c∈cs,c<100)(hn:n=cs.length)(hn1:1<=n)(hn2:n<=64)(hcap:n<=cap)(hcap2:cap<=64):
  Calls prog 58 #[.slice (some ⟨b,off,none⟩) n cap] w λe w'=>e=.returned (.string ⟨(Lib.join ((ia cs).map (·.data.toList)) [44]).toArray⟩)/\Below w.heap.size w w':=by
 have Hn:=af hn
 have KP:=af hcs
 have Hc:=af hc
 clear hn hcs hc
 go_enter func58,ntmps58
 go_wp2
 go_loopw [0,3] (λs out wr=>∃(rest:List Nat) (done:List ByteArray) (o c:Nat),s=.slice (some ⟨b,o,none⟩) rest.length c/\rest.length<=c/\c<=64/\rest.length+done.length<=64/\(∀(j:Nat) x,rest[j]? =some x->w.cell? ⟨b,o+j,none⟩=some (.int .i64 (x:Int)))/\(∀x∈rest,x<100)/\wr.ownsRow w.heap.size 9 1 out done.length (done.map .string)/\done++ia rest=ia cs/\Below w.heap.size w wr) (λs _ _=>match s with| .slice _ m _=>m|_=>0)
 case atStart=>exact⟨cs,[],off,cap,by rw[Hn.out],by rw[<-Hn.out];exact hcap,hcap2,by rw[<-Hn.out];simp;omega,KP.out,Hc.out,World.ownsRow_nil _ _ _ _,by simp,bK⟩
 case round=>
  obtain⟨rest,done,o,c,rfl,hrc,aax,hlen,hcell,hlt,hown,hdone,hB⟩:=hrel
  have BB:=af hcell
  have H_:=af hlt
  have rP:=af hown
  have BC:=af hdone
  clear hcell hlt hown hdone
  cases rest with
  |nil=>
   have hz:((0:Int)<(([]:List Nat).length:Int))=False:=by simp
   have X3:Hid (done=ia cs):=by show done=ia cs;rw[<-BC.out];simp[ia,FL]
   have HdL:Hid (done.length<=64):=by show done.length<=64;simpa using hlen
   have hne:∃k,done.length=k+1:=by
    have h1:done=ia cs:=X3.out
    have h2:cs≠[]:=by intro e;have:=Hn.out;rw[e]at this;simp at this;omega
    cases hcs:cs with
    |nil=>exact absurd hcs h2
    |cons a l=>rw[h1,hcs,ia,FL];exact⟨_,by rw[List.map_cons,List.length_cons]⟩
   obtain⟨k,hk⟩:=hne
   have hown:=rP.out
   rw[hk]at hown
   obtain⟨g,cp,hu3⟩:=ownsRow_succ hown
   have hg:=hown.lt
   rw[hu3]at hg hown
   have Y7:=(hg g rfl).2
   have WY:k+1<=cp:=by
    rcases hown.2 with⟨h,_⟩|⟨g',c',cur,h,_,_,hle,_⟩
    ·cases h
    ·cases h;exact hle
   have hj:∀(j:Nat) x,done[j]? =some x->wr.cell? ⟨g,0+j,none⟩=some (.string x):=λj x W7=>by
    have hjl:=(List.getElem?_eq_some_iff.1 W7).1
    rw[Nat.zero_add,hown.cellAt j (by omega)]
    simp[W7]
   have Mw:=Tryz.strings_Join g 0 cp done ⟨#[44]⟩ wr hj Y7 (by have:=HdL.out;omega) (by omega) (by
    have h1:done=ia cs:=X3.out
    rw[h1]
    exact Fg cs Hc.out (by have:=Hn.out;omega))
   rw[hk]at Mw
   have HJ:Hid _:=Mw
   clear Mw hj hown hg rP
   rw[hu3]
   go_wp2_with (go_at_call 97;refine aq HJ.out ?_;rintro e w2 ⟨rfl,hb2⟩)
   go_ret
   refine⟨?_,hB.trans (hb2.mono hB.size)⟩
   rw[X3.out]
   rfl
  |cons c0 r=>
   have Hr:Hid ((c0::r).length=r.length+1):=rfl
   have aao:0<(c0::r).length:=by simp
   generalize hm:(c0::r).length=m at *
   have Hm:=af hm
   clear hm
   have hmI:(0:Int)<(m:Int):=by omega
   have aaO:m<=64:=by omega
   have hk0:wr.cell? ⟨b,o,none⟩=some (.int .i64 (c0:Int)):=(hB.cell (p:=⟨b,o,none⟩) hb).trans (by have:=BB.out 0 c0 rfl;simpa using this)
   have hc0:c0<100:=H_.out c0 (by simp)
   obtain⟨wo,rfl⟩:∃wo:World,wo=wr:=⟨_,rfl⟩
   go_wp2
   go_loopw [4] (λk wi=>∃(i q:Nat),1<=i/\i<=m/\k=.int .i64 i/\(∀j,1<=j->j<i->(c0::r)[j]? =some c0)/\wi=wo.drewN q) (λk _=>m-(intOf k).toNat)
   case atStart=>exact⟨1,0,by omega,by omega,rfl,λj h1 h2=>by omega,rfl⟩
   case round=>
    obtain⟨i,q,hi1,hi2,rfl,hall,rfl⟩:=hrel
    have ji:=af hall
    clear hall
    by_cases hgo:i<m/\(c0::r)[i]? =some c0
    ·obtain⟨Mv,hic⟩:=hgo
     have hki:wo.cell? ⟨b,o+i,none⟩=some (.int .i64 (c0:Int)):=(hB.cell (p:=⟨b,o+i,none⟩) hb).trans (BB.out i c0 hic)
     have xU:(i:Int)<(m:Int):=by omega
     have eH:(0:Int)<=(i:Int):=by omega
     have Hic:=af hic
     clear hic
     go_wp2_with fail
     go_quiet (fail)
     go_wp2
     go_roundw
     case rel=>
      refine⟨i+1,_,by omega,by omega,by go_num,λj h1 h2=>?_,rfl⟩
      by_cases hj:j=i
      ·rw[hj];exact Hic.out
      ·exact ji.out j h1 (by omega)
     case measure=>simp[intOf];omega
    ·have yC:Hid (lead c0 r+1=i):=by
      show lead c0 r+1=i
      obtain⟨i',rfl⟩:∃i',i=i'+1:=⟨i-1,by omega⟩
      have hmr:=Hm.out
      have hrl:=Hr.out
      rw[ze c0 r i' (by omega) (λj hj=>by have:=ji.out (j+1) (by omega) (by omega);simpa using this) (λh=>hgo ⟨by
       have:=(List.getElem?_eq_some_iff.1 h).1;omega,by simpa using h⟩)]
     have hex:(∃v:Nat,i<m/\(c0::r)[i]? =some v/\v≠c0)\/¬i<m:=by
      by_cases Mv:i<m
      ·left
       have hil:i<(c0::r).length:=by rw[Hm.out];exact Mv
       exact⟨(c0::r)[i],Mv,List.getElem?_eq_getElem hil,λe=>hgo ⟨Mv,by rw[List.getElem?_eq_getElem hil,e]⟩⟩
      ·exact .inr Mv
     clear hgo ji
     rcases hex with⟨v,Mv,hiv,hne⟩|Mv
     ·have hki:wo.cell? ⟨b,o+i,none⟩=some (.int .i64 (v:Int)):=(hB.cell (p:=⟨b,o+i,none⟩) hb).trans (BB.out i v hiv)
      have xU:(i:Int)<(m:Int):=by omega
      have eH:(0:Int)<=(i:Int):=by omega
      have UZ:((v:Int)==(c0:Int))=false:=by rw[beq_eq_false_iff_ne];omega
      clear hiv
      go_wp2_with fail
      go_quiet (fail)
      go_upto_region 6 with fail
      obtain⟨wd,hwd⟩:∃wd,(wo.drewN q).drewN nq=wd:=⟨_,rfl⟩
      have hd0:wd.cell? ⟨b,o,none⟩=some (.int .i64 (c0:Int)):=by rw[<-hwd];exact hk0
      have xR:Below w.heap.size w wd:=by rw[<-hwd];exact below_drewN (below_drewN hB q) nq
      have Kr:Hid (wd.ownsRow w.heap.size 9 1 u3 done.length (done.map .string)):=by show wd.ownsRow _ _ _ _ _ _;rw[<-hwd];exact rP.out
      rw[hwd]
      clear hwd hk0 hB rP
      have hd1:(0:Int)<(m:Int):=hmI
      obtain⟨i9,hi9,MK,ML,MM⟩:=info_parts y6
      have HI:Hid (prog.info? 9=some i9/\i9.zero=some (.string ⟨#[]⟩)/\i9.size=1/\i9.bytes=16):=⟨hi9,MK,ML,MM⟩
      clear hi9 MK ML MM
      have YE:=cU i (by omega)
      have hL2:=cU c0 (by omega)
      have U4:(9223372036854775807<(Lib.decDigits i).length+1)=False:=eq_false (by omega)
      have U5:(9223372036854775807<(Lib.decDigits i).length+1+(Lib.decDigits c0).length)=False:=eq_false (by omega)
      have KW:Hid (∀x:Obj,((wd.alloc x).drew).ownsRow w.heap.size 9 1 u3 done.length (done.map .string)):=λx=>Kr.out.alloc x
      clear YE hL2
      have hbd:b<wd.heap.size:=Nat.lt_of_lt_of_le hb xR.size
      have TX:done.length+m<=64:=by omega
      go_cut [3] (λv wc=>wc.ownsRow w.heap.size 9 1 v (done.length+1) (done.map .string++[.string (txt i c0)])/\Below w.heap.size w wc)
      case first=>
       go_region_held3 (λw'=>w'.cell? ⟨b,o,none⟩=some (.int .i64 (c0:Int))) (first|exact s3|(simp[go_sem, *];done))
        (first
        |(go_at_call_of 96 (Value.int IntKind.i64 (i:Int));refine(Tryz.strconv_Itoa_small i (by omega) _).mono ?_;rintro e w2 ⟨rfl,rfl⟩)
        |(go_at_call_of 96 (Value.int IntKind.i64 (c0:Int));refine(Tryz.strconv_Itoa_small c0 hc0 _).mono ?_;rintro e w2 ⟨rfl,rfl⟩)
        |(refine jo rfl (.tmp 24) (.tmp 33) 79 rfl w.heap.size 9 i9 (.string ⟨#[]⟩) 1 16 underlying79 HI.out.1 HI.out.2.1 HI.out.2.2.1 HI.out.2.2.2 rfl (by decide) u3 done.length (done.map .string) rfl (KW.out _) ⟨wd.heap.size,0,none⟩ 1 1 [.string (⟨(Lib.decDigits i).toArray⟩++⟨#[120]⟩++⟨(Lib.decDigits c0).toArray⟩)] rfl rfl (λj u hj=>by
           rw[addr_add]
           match j,hj with
           |0,hj=>simp at hj;subst hj;simp[go_sem]
           |j+1,hj=>simp at hj) (λu hu=>by simp at hu;subst hu;rfl) (by unfold maxLen;omega) (by omega) (by have:=xR.size;simp;omega) ?_;intro v3 w3 bp iH;have kj:=af bp;have s3:w3.cell? ⟨b,o,none⟩=some (.int .i64 (c0:Int)):=(iH.cell (a:=⟨b,o,none⟩) (show _=some (Value.int .i64 (c0:Int)) from(by simp[go_sem, *])) (λe=>(by have:=(Kr.out.lt b e.symm).1;omega)));have gZ:Below w.heap.size w w3:=(((xR.alloc xR.size _).drew).grown iH (by have:=xR.size;simp;omega) (λk hk=>(Kr.out.lt k hk).1));clear bp iH))
       all_goals
        go_wp2_with fail
        go_meet
        refine⟨?_,gZ⟩
        have h:=kj.out
        rw[ByteArray.mk_append_mk _ [120],ByteArray.mk_append_mk]at h
        exact h
      case rest=>
       have zV:Hid _:=hcut
       clear hcut Kr KW xR hd0
       have HR:Hid ((r.drop (lead c0 r)).length=m-i):=by
        show(r.drop (lead c0 r)).length=m-i
        have h1:=Hm.out;have h2:=Hr.out;have h3:=yC.out
        rw[List.length_drop];omega
       have HT:Hid (ia (c0::r)=txt i c0::ia (r.drop (lead c0 r))):=by
        show ia (c0::r)=_
        rw[ia,FL,List.map_cons,yC.out];rfl
       have HD:Hid (∀(j:Nat) x,(r.drop (lead c0 r))[j]? =some x->(c0::r)[i+j]? =some x):=λj x hj=>by
        rw[List.getElem?_drop]at hj
        rw[<-yC.out,show lead c0 r+1+j=(lead c0 r+j)+1 from by omega,List.getElem?_cons_succ]
        exact hj
       have Vg:(i:Int)<=(m:Int):=by omega
       have Y8:(0:Int)<=(i:Int):=by omega
       by_cases hci:c=i
       ·go_wp2
        refine⟨⟨r.drop (lead c0 r),done++[txt i c0],o,0,by rw[HR.out],by rw[HR.out];omega,by omega,by rw[HR.out];simp;omega,λj x hj=>absurd (List.getElem?_eq_some_iff.1 hj).1 (by rw[HR.out];omega),λx hx=>H_.out x (List.mem_cons_of_mem _ (List.mem_of_mem_drop hx)),by simpa using zV.out.1,by rw[<-BC.out,HT.out];simp,zV.out.2⟩,by show m-i<m;omega⟩
       ·go_wp2
        refine⟨⟨r.drop (lead c0 r),done++[txt i c0],o+i,c-i,by rw[HR.out],by rw[HR.out];omega,by omega,by rw[HR.out];simp;omega,λj x hj=>by rw[show o+i+j=o+(i+j) from by omega];exact BB.out (i+j) x (HD.out j x hj),λx hx=>H_.out x (List.mem_cons_of_mem _ (List.mem_of_mem_drop hx)),by simpa using zV.out.1,by rw[<-BC.out,HT.out];simp,zV.out.2⟩,by show m-i<m;omega⟩
     ·have hdd:decide ((i:Int)<(m:Int))=false:=by rw[decide_eq_false_iff_not];omega
      go_wp2_with fail
      go_quiet (fail)
      go_upto_region 6 with fail
      obtain⟨wd,hwd⟩:∃wd,(wo.drewN q).drewN nq=wd:=⟨_,rfl⟩
      have hd0:wd.cell? ⟨b,o,none⟩=some (.int .i64 (c0:Int)):=by rw[<-hwd];exact hk0
      have xR:Below w.heap.size w wd:=by rw[<-hwd];exact below_drewN (below_drewN hB q) nq
      have Kr:Hid (wd.ownsRow w.heap.size 9 1 u3 done.length (done.map .string)):=by show wd.ownsRow _ _ _ _ _ _;rw[<-hwd];exact rP.out
      rw[hwd]
      clear hwd hk0 hB rP
      have hd1:(0:Int)<(m:Int):=hmI
      obtain⟨i9,hi9,MK,ML,MM⟩:=info_parts y6
      have HI:Hid (prog.info? 9=some i9/\i9.zero=some (.string ⟨#[]⟩)/\i9.size=1/\i9.bytes=16):=⟨hi9,MK,ML,MM⟩
      clear hi9 MK ML MM
      have YE:=cU i (by omega)
      have hL2:=cU c0 (by omega)
      have U4:(9223372036854775807<(Lib.decDigits i).length+1)=False:=eq_false (by omega)
      have U5:(9223372036854775807<(Lib.decDigits i).length+1+(Lib.decDigits c0).length)=False:=eq_false (by omega)
      have KW:Hid (∀x:Obj,((wd.alloc x).drew).ownsRow w.heap.size 9 1 u3 done.length (done.map .string)):=λx=>Kr.out.alloc x
      clear YE hL2
      have hbd:b<wd.heap.size:=Nat.lt_of_lt_of_le hb xR.size
      have TX:done.length+m<=64:=by omega
      go_cut [3] (λv wc=>wc.ownsRow w.heap.size 9 1 v (done.length+1) (done.map .string++[.string (txt i c0)])/\Below w.heap.size w wc)
      case first=>
       go_region_held3 (λw'=>w'.cell? ⟨b,o,none⟩=some (.int .i64 (c0:Int))) (first|exact s3|(simp[go_sem, *];done))
        (first
        |(go_at_call_of 96 (Value.int IntKind.i64 (i:Int));refine(Tryz.strconv_Itoa_small i (by omega) _).mono ?_;rintro e w2 ⟨rfl,rfl⟩)
        |(go_at_call_of 96 (Value.int IntKind.i64 (c0:Int));refine(Tryz.strconv_Itoa_small c0 hc0 _).mono ?_;rintro e w2 ⟨rfl,rfl⟩)
        |(refine jo rfl (.tmp 24) (.tmp 33) 79 rfl w.heap.size 9 i9 (.string ⟨#[]⟩) 1 16 underlying79 HI.out.1 HI.out.2.1 HI.out.2.2.1 HI.out.2.2.2 rfl (by decide) u3 done.length (done.map .string) rfl (KW.out _) ⟨wd.heap.size,0,none⟩ 1 1 [.string (⟨(Lib.decDigits i).toArray⟩++⟨#[120]⟩++⟨(Lib.decDigits c0).toArray⟩)] rfl rfl (λj u hj=>by
           rw[addr_add]
           match j,hj with
           |0,hj=>simp at hj;subst hj;simp[go_sem]
           |j+1,hj=>simp at hj) (λu hu=>by simp at hu;subst hu;rfl) (by unfold maxLen;omega) (by omega) (by have:=xR.size;simp;omega) ?_;intro v3 w3 bp iH;have kj:=af bp;have s3:w3.cell? ⟨b,o,none⟩=some (.int .i64 (c0:Int)):=(iH.cell (a:=⟨b,o,none⟩) (show _=some (Value.int .i64 (c0:Int)) from(by simp[go_sem, *])) (λe=>(by have:=(Kr.out.lt b e.symm).1;omega)));have gZ:Below w.heap.size w w3:=(((xR.alloc xR.size _).drew).grown iH (by have:=xR.size;simp;omega) (λk hk=>(Kr.out.lt k hk).1));clear bp iH))
       all_goals
        go_wp2_with fail
        go_meet
        refine⟨?_,gZ⟩
        have h:=kj.out
        rw[ByteArray.mk_append_mk _ [120],ByteArray.mk_append_mk]at h
        exact h
      case rest=>
       have zV:Hid _:=hcut
       clear hcut Kr KW xR hd0
       have HR:Hid ((r.drop (lead c0 r)).length=m-i):=by
        show(r.drop (lead c0 r)).length=m-i
        have h1:=Hm.out;have h2:=Hr.out;have h3:=yC.out
        rw[List.length_drop];omega
       have HT:Hid (ia (c0::r)=txt i c0::ia (r.drop (lead c0 r))):=by
        show ia (c0::r)=_
        rw[ia,FL,List.map_cons,yC.out];rfl
       have HD:Hid (∀(j:Nat) x,(r.drop (lead c0 r))[j]? =some x->(c0::r)[i+j]? =some x):=λj x hj=>by
        rw[List.getElem?_drop]at hj
        rw[<-yC.out,show lead c0 r+1+j=(lead c0 r+j)+1 from by omega,List.getElem?_cons_succ]
        exact hj
       have Vg:(i:Int)<=(m:Int):=by omega
       have Y8:(0:Int)<=(i:Int):=by omega
       by_cases hci:c=i
       ·go_wp2
        refine⟨⟨r.drop (lead c0 r),done++[txt i c0],o,0,by rw[HR.out],by rw[HR.out];omega,by omega,by rw[HR.out];simp;omega,λj x hj=>absurd (List.getElem?_eq_some_iff.1 hj).1 (by rw[HR.out];omega),λx hx=>H_.out x (List.mem_cons_of_mem _ (List.mem_of_mem_drop hx)),by simpa using zV.out.1,by rw[<-BC.out,HT.out];simp,zV.out.2⟩,by show m-i<m;omega⟩
       ·go_wp2
        refine⟨⟨r.drop (lead c0 r),done++[txt i c0],o+i,c-i,by rw[HR.out],by rw[HR.out];omega,by omega,by rw[HR.out];simp;omega,λj x hj=>by rw[show o+i+j=o+(i+j) from by omega];exact BB.out (i+j) x (HD.out j x hj),λx hx=>H_.out x (List.mem_cons_of_mem _ (List.mem_of_mem_drop hx)),by simpa using zV.out.1,by rw[<-BC.out,HT.out];simp,zV.out.2⟩,by show m-i<m;omega⟩
end
section
open Go.RowKit
def zD(ax ay bx aY x y:Int):Bool:=
 if decide (y<ay)=decide (y<aY)then false
 else decide ((0<aY-ay/\0<(y-ay)*(bx-ax)+(ax-x)*(aY-ay))\/(aY-ay<0/\(y-ay)*(bx-ax)+(ax-x)*(aY-ay)<0))
def kV(ps:dS)(x y:Int):Nat->Int
 |0=>0
 |k+1=>kV ps x y k+if zD (pg ps k).1 (pg ps k).2 (pg ps ((k+1)%ps.length)).1 (pg ps ((k+1)%ps.length)).2 x y=true then 1 else 0
theorem qx(ps:dS)(x y:Int):∀k:Nat,0<=kV ps x y k/\kV ps x y k<=k
 |0=>⟨Int.le_refl _,Int.le_refl _⟩
 |k+1=>by have:=qx ps x y k;simp only[kV];split<;>omega
def lV(ps:dS)(x y:Int):Bool:=decide (kV ps x y ps.length%2=1)
theorem Fa(bl off n cap:Nat)(ps:dS)(x y:Int)(w:World)(hp:cZ w.heap.size w bl off ps)(hn:n=ps.length)(hn1:1<=n)(hn2:n<=1000)(hall:ps.all lI=true)
  (h5:0<=x) (h6:0<=y) (g5:x<=1000) (g6:y<=1000):
  Calls prog 170 #[.slice (some ⟨bl,off,none⟩) n cap,.int .i64 x,.int .i64 y] w λe w'=>e=.returned (.bool (lV ps x y))/\Below w.heap.size w w':=by
 have Hn:=af hn
 have ji:=af hall
 have Hp:=af hp
 have hbl:=hp.1
 clear hn hall hp
 go_enter func170,ntmps170
 go_wp2
 go_loopw [7,8] (λc i wr=>∃k:Nat,k<=n/\i=.int .i64 k/\c=.int .i64 (kV ps x y k)/\Below w.heap.size w wr) (λ_ i _=>n-(intOf i).toNat)
 case atStart=>exact⟨0,Nat.zero_le _,rfl,rfl,bK⟩
 case round=>
  obtain⟨k,hk,rfl,rfl,hb⟩:=hrel
  have hsz:=hb.size
  have hcb:=qx ps x y k
  obtain⟨c,hc⟩:∃c,kV ps x y k=c:=⟨_,rfl⟩
  rw[hc]at hcb⊢
  have HC:=af hc
  clear hc
  obtain⟨hc0,hc1⟩:=hcb
  by_cases hlt:k<n
  ·obtain⟨ax,ay,hxy,hx,hy⟩:=(Hp.out.below hb).at (k:=k) (by rw[<-Hn.out];exact hlt)
   have hjn:(k+1)%n<n:=Nat.mod_lt _ (by omega)
   obtain⟨bx,aY,wE,hx',hy'⟩:=(Hp.out.below hb).at (k:=(k+1)%n) (by rw[<-Hn.out];exact hjn)
   obtain⟨q1,q2,q3,q4⟩:=nu ji.out hxy
   obtain⟨r1,r2,r3,r4⟩:=nu ji.out wE
   have Hs:Hid (kV ps x y (k+1)=c+if zD ax ay bx aY x y=true then 1 else 0):=by
    show kV ps x y (k+1)=_
    simp only[kV,HC.out,mE hxy,<-Hn.out,mE wE]
   clear hxy wE
   have hm:((k:Int)+1)%(n:Int)=(((k+1)%n:Nat):Int):=by simp
   have hm2:((k:Int)+1).tmod (n:Int)=(((k+1)%n:Nat):Int):=by rw[Int.tmod_eq_emod_of_nonneg (by omega)];simp
   obtain⟨j,hj⟩:∃j,(k+1)%n=j:=⟨_,rfl⟩
   rw[hj]at hjn hx' hy' hm hm2
   clear hj
   have m1:=gV (a:=y-ay) (b:=bx-ax) (A:=1000) (B:=1000) (by omega) (by omega) (by omega) (by omega)
   have m2:=gV (a:=ax-x) (b:=aY-ay) (A:=1000) (B:=1000) (by omega) (by omega) (by omega) (by omega)
   obtain⟨m1,n1⟩:=m1
   obtain⟨m2,n2⟩:=m2
   have YT:bl<wr.heap.size:=by omega
   go_wp2
   all_goals
    refine⟨⟨k+1,by omega,by go_num,?_,(hb.alloc (by omega) _).alloc (by simp;omega) _⟩,by simp[intOf];omega⟩
    rw[Hs.out]
    first
    |(rw[if_pos (by simp only[zD];split<;>simp_all<;>omega)];done)
    |(rw[if_neg (by simp only[zD];split<;>simp_all<;>omega),Int.add_zero];done)
  ·have HK:Hid (k=ps.length):=by have:=Hn.out;show k=ps.length;omega
   go_wp2
   go_ret
   refine⟨ah ?_,hb⟩
   simp only[lV,<-HK.out,HC.out]
   first|rfl|(rw[Bool.eq_iff_iff];simp)
def dG(ps:dS)(x y p:Int):Nat->Bool
 |0=>false
 |k+1=>dG ps x y p k||gO (pg ps k).1 (pg ps k).2 (pg ps (k+1)).1 (pg ps (k+1)).2 x y p
def gm(kd:Int)(ps:dS)(x y p:Int):Bool:=
 if kd=1 then fT (pg ps 0).1 (pg ps 0).2 x y (x+p) (y+p)else if kd=2 then dG ps x y p (ps.length-1)else lV ps (x+p/2) (y+p/2)
theorem ry(ps:dS)(x y p:Int)(k:Nat):∀d:Nat,dG ps x y p k=true->dG ps x y p (k+d)=true
 |0,h=>h
 |d+1,h=>by
  have:=ry ps x y p k d h
  show(dG ps x y p (k+d)||_)=true
  rw[this];rfl
theorem Di(id kd ht col:Int)(bl off n cap:Nat)(ps:dS)(x y p:Int)(w:World)(hp:cZ w.heap.size w bl off ps)(hn:n=ps.length)(hmay:fS kd n=true)(hall:ps.all lI=true)
  (h5:0<=x) (h6:0<=y) (h7:0<=p) (g5:x<=300) (g6:y<=300) (g7:p<=300):
  Calls prog 141 #[.agg #[.int .i64 id,.int .i64 kd,.int .i64 ht,.int .i64 col,.slice (some ⟨bl,off,none⟩) n cap],.int .i64 x,.int .i64 y,.int .i64 p] w λe w'=>e=.returned (.bool (gm kd ps x y p))/\Below w.heap.size w w':=by
 have hB:∀o1:Obj,Below w.heap.size w (w.alloc o1):=λo1=>aU
 have hbl:=hp.1
 simp only[fS,decide_eq_true_eq]at hmay
 rcases hmay with⟨rfl,hn1⟩|⟨rfl,hn1,hn6⟩|⟨rfl,hn1,hn6⟩
 ·have Zj:n=1:=by omega
  subst Zj
  obtain⟨ax,ay,hxy,hx,hy⟩:=hp.at (k:=0) (by omega)
  simp only[Nat.zero_mul,Nat.add_zero]at hx hy
  have HR:Hid (gm 1 ps x y p=fT ax ay x y (x+p) (y+p)):=by
   show gm 1 ps x y p=_
   simp[gm,mE hxy]
  clear hp hxy hn hall hn1
  rw[HR.out]
  by_cases c1:x<=ax
  ·by_cases c2:ax<x+p
   ·by_cases c3:y<=ay
    ·by_cases c4:ay<y+p
     ·go_enter func141,ntmps141
      go_wp2
      go_ret
      exact⟨ah (by simp[fT];omega),hB _⟩
     ·go_enter func141,ntmps141
      go_wp2
      go_ret
      exact⟨ah (by simp[fT];omega),hB _⟩
    ·go_enter func141,ntmps141
     go_wp2
     go_ret
     exact⟨ah (by simp[fT];omega),hB _⟩
   ·go_enter func141,ntmps141
    go_wp2
    go_ret
    exact⟨ah (by simp[fT];omega),hB _⟩
  ·go_enter func141,ntmps141
   go_wp2
   go_ret
   exact⟨ah (by simp[fT];omega),hB _⟩
 ·have Hn:=af hn
  have ji:=af hall
  have Hp:=af hp
  have HR:Hid (gm 2 ps x y p=dG ps x y p (ps.length-1)):=by show gm 2 ps x y p=_;simp[gm]
  rw[HR.out]
  clear hn hall hp HR
  go_enter func141,ntmps141
  go_wp2
  go_loopw [9] (λi wr=>∃m:Nat,m+1<=n/\i=.int .i64 (m:Int)/\dG ps x y p m=false/\wr.cell? ⟨w.heap.size,4,none⟩=some (.slice (some ⟨bl,off,none⟩) n cap)/\Below w.heap.size w wr/\w.heap.size<wr.heap.size) (λi _=>n-(intOf i).toNat)
  case atStart=>exact⟨0,by omega,rfl,rfl,by simp[go_sem],hB _,by simp⟩
  case round=>
   obtain⟨m,hk,rfl,CC,c4,hBw,hs⟩:=hrel
   have vB:=af CC
   clear CC
   by_cases hlt:m+1<n
   ·obtain⟨bx,aY,hxy,hx,hy⟩:=(Hp.out.below hBw).at (k:=m+1) (by rw[<-Hn.out];omega)
    obtain⟨ax,ay,wE,hx',hy'⟩:=(Hp.out.below hBw).at (k:=m) (by rw[<-Hn.out];omega)
    obtain⟨b1,b2,b3,b4⟩:=nu ji.out hxy
    obtain⟨b1',b2',b3',b4'⟩:=nu ji.out wE
    have KY:Hid (dG ps x y p (m+1)=gO ax ay bx aY x y p):=by
     show dG ps x y p (m+1)=_
     rw[dG,vB.out,Bool.false_or,mE hxy,mE wE]
    clear hxy wE vB
    have hk2:((m:Int)+1).toNat=m+1:=by omega
    have hk3:(m:Int)+1<(n:Int):=by omega
    have hk4:(m:Int)<(n:Int):=by omega
    have hk5:(0:Int)<=(m:Int):=by omega
    have Jh:(0:Int)<=(m:Int)+1:=by omega
    have hk7:IntKind.i64.wrap (m:Int)=(m:Int):=by rw[IntKind.wrap_i64];omega
    have hk8:IntKind.i64.wrap ((m:Int)+1)=(m:Int)+1:=by rw[IntKind.wrap_i64];omega
    go_upto_region 8 with fail
    go_region_held3 (λw'=>w'.cell? ⟨bl,off+(m+1)*2,none⟩=some (.int .i64 bx)/\w'.cell? ⟨bl,off+(m+1)*2+1,none⟩=some (.int .i64 aY)/\w'.cell? ⟨bl,off+m*2,none⟩=some (.int .i64 ax)/\w'.cell? ⟨bl,off+m*2+1,none⟩=some (.int .i64 ay)/\w'.cell? ⟨w.heap.size,4,none⟩=some (.slice (some ⟨bl,off,none⟩) n cap)) (first|(simp[go_sem, *];done)|exact s2)
     (first
     |(go_at_call 169;refine(B8 ax ay bx aY x y p _ (by omega) (by omega) (by omega) (by omega) (by omega) (by omega) (by omega) (by omega) (by omega) (by omega) (by omega) (by omega) (by omega) (by omega)).mono ?_;rintro e w2 ⟨rfl,hb2⟩;obtain⟨hc2,hf2⟩:=eF hb2;have s2:=And.intro ((hc2 bl (off+(m+1)*2) (by simp<;>omega)).trans hx) (And.intro ((hc2 bl (off+(m+1)*2+1) (by simp<;>omega)).trans hy) (And.intro ((hc2 bl (off+m*2) (by simp<;>omega)).trans hx') (And.intro ((hc2 bl (off+m*2+1) (by simp<;>omega)).trans hy') ((hc2 w.heap.size 4 (by simp<;>omega)).trans c4))));clear hc2 hf2))
    have hs2:=hb2.size
    simp at hs2
    have hB2:Below w.heap.size w w2:=hBw.drew.trans (hb2.mono (by simp<;>omega))
    have c42:=s2.2.2.2.2
    clear s2 c4 hx hy hx' hy'
    by_cases PX:gO ax ay bx aY x y p=true
    ·have Hv:Hid (dG ps x y p (ps.length-1)=true):=by
      show dG ps x y p (ps.length-1)=true
      have h:=ry ps x y p (m+1) (ps.length-1-(m+1)) (by rw[KY.out];exact PX)
      rw[show m+1+(ps.length-1-(m+1))=ps.length-1 from by have:=Hn.out;omega]at h
      exact h
     rw[PX]
     go_wp2
     go_ret
     exact⟨ah Hv.out.symm,hB2⟩
    ·have E6:gO ax ay bx aY x y p=false:=by simpa using PX
     clear PX
     have Hv:Hid (dG ps x y p (m+1)=false):=by show dG ps x y p (m+1)=false;rw[KY.out];exact E6
     rw[E6]
     clear E6
     go_wp2
     go_roundw
     case rel=>exact⟨m+1,by omega,by go_num,Hv.out,c42,hB2,by omega⟩
     case measure=>simp[intOf];omega
   ·have Hv:Hid (dG ps x y p (ps.length-1)=false):=by
     show dG ps x y p (ps.length-1)=false
     rw[<-Hn.out,show n-1=m from by omega];exact vB.out
    go_wp2
    go_ret
    exact⟨ah Hv.out.symm,hBw⟩
 ·have HR:Hid (gm 3 ps x y p=lV ps (x+p/2) (y+p/2)):=by show gm 3 ps x y p=_;simp[gm]
  rw[HR.out]
  have Hin:Hid (∀W:World,Below w.heap.size w W->Calls prog 170 #[.slice (some ⟨bl,off,none⟩) n cap,.int .i64 (x+p/2),.int .i64 (y+p/2)] W λe w'=>e=.returned (.bool (lV ps (x+p/2) (y+p/2)))/\Below W.heap.size W w'):=λW hW=>
   Fa bl off n cap ps (x+p/2) (y+p/2) W ((hp.below hW).mono hW.size) hn (by omega) (by omega) hall (by omega) (by omega) (by omega) (by omega)
  clear hp hn hall HR
  go_enter func141,ntmps141
  go_wp2_with (go_at_call 170;refine aq (Hin.out _ (hB _)) ?_;rintro e w2 ⟨rfl,hb2⟩)
  go_ret
  exact⟨rfl,(hB _).trans (hb2.mono (by simp))⟩
end
section
theorem lT{a b c d e f:Int}(hb:0<b)(hd:0<d)(hf:0<f)(h1:a*d<=c*b)(h2:c*f<=e*d):a*f<=e*b:=by
 have h3:a*d*f<=c*b*f:=Int.mul_le_mul_of_nonneg_right h1 (Int.le_of_lt hf)
 have h4:c*f*b<=e*d*b:=Int.mul_le_mul_of_nonneg_right h2 (Int.le_of_lt hb)
 have e1:a*d*f=d*(a*f):=by rw[Int.mul_assoc,Int.mul_left_comm]
 have e2:c*b*f=c*f*b:=by rw[Int.mul_right_comm]
 have e3:e*d*b=d*(e*b):=by rw[Int.mul_comm e d,Int.mul_assoc]
 rw[e1,e2]at h3
 rw[e3]at h4
 exact Int.le_of_mul_le_mul_left (Int.le_trans h3 h4) hd
def oI(s:Sp)(X Y:Int):Prop:=s.a*Y<=X*s.b
def oK(s:Sp)(X Y:Int):Prop:=X*s.d<=s.c*Y
def DY(s:Sp):Prop:=s.a*s.d<=s.c*s.b
def Pos(s:Sp):Prop:=0<s.b/\0<s.d
variable {s:Sp}
theorem lS{v d lo:Int}(h:Pos s):Pos (dH s v d lo):=by
 obtain⟨hb,hd⟩:=h
 simp only[dH]
 split
 ·exact⟨by decide,by decide⟩
 ·split
  ·rename_i h;exact⟨h.1,hd⟩
  ·split
   ·rename_i h;exact⟨hb,show 0< -d by omega⟩
   ·exact⟨hb,hd⟩
theorem uN{v d lo X Y:Int}(hs:Pos s)(h:0<d)(hY:0<Y):oI (dH s v d lo) X Y↔(oI s X Y/\(lo-v)*Y<=X*d):=by
 have h0:¬(d=0/\0<lo-v):=by omega
 simp only[dH,if_neg h0,oI]
 by_cases h1:0<d/\s.a*d<(lo-v)*s.b
 ·rw[if_pos h1]
  exact⟨λh2=>⟨lT hs.1 h hY (Int.le_of_lt h1.2) h2,h2⟩,λh2=>h2.2⟩
 ·rw[if_neg h1,if_neg (by omega)]
  have h3:(lo-v)*s.b<=s.a*d:=Int.not_lt.1 λh4=>h1 ⟨h,h4⟩
  exact⟨λh2=>⟨h2,lT h hs.1 hY h3 h2⟩,λh2=>h2.1⟩
theorem G4{v d lo X Y:Int}(h:0<d):oK (dH s v d lo) X Y↔oK s X Y:=by
 have h0:¬(d=0/\0<lo-v):=by omega
 simp only[dH,if_neg h0,oK]
 split
 ·rfl
 ·rw[if_neg (by omega)]
theorem rF{v d lo X Y:Int}(hs:Pos s)(h:d<0)(hY:0<Y):oK (dH s v d lo) X Y↔(oK s X Y/\X* -d<= -(lo-v)*Y):=by
 have h0:¬(d=0/\0<lo-v):=by omega
 have h0':¬(0<d/\s.a*d<(lo-v)*s.b):=by omega
 simp only[dH,if_neg h0,if_neg h0',oK]
 have hd:0< -d:=by omega
 by_cases h1:d<0/\ -(lo-v)*s.d<s.c* -d
 ·rw[if_pos h1]
  exact⟨λh2=>⟨lT hY hd hs.2 h2 (Int.le_of_lt h1.2),h2⟩,λh2=>h2.2⟩
 ·rw[if_neg h1]
  have h3:s.c* -d<= -(lo-v)*s.d:=Int.not_lt.1 λh4=>h1 ⟨h,h4⟩
  exact⟨λh2=>⟨h2,lT hY hs.2 hd h2 h3⟩,λh2=>h2.1⟩
theorem CX{v d lo X Y:Int}(h:d<0):oI (dH s v d lo) X Y↔oI s X Y:=by
 have h0:¬(d=0/\0<lo-v):=by omega
 have h0':¬(0<d/\s.a*d<(lo-v)*s.b):=by omega
 simp only[dH,if_neg h0,if_neg h0',oI]
 split<;>rfl
theorem Gn{v d lo:Int}(hs:Pos s)(h:0<d):DY (dH s v d lo)↔(DY s/\oK s (lo-v) d):=by
 have e:DY (dH s v d lo)↔oI (dH s v d lo) (dH s v d lo).c (dH s v d lo).d:=Iff.rfl
 have hc:(dH s v d lo).c=s.c/\(dH s v d lo).d=s.d:=by
  have h0:¬(d=0/\0<lo-v):=by omega
  simp only[dH,if_neg h0]
  split
  ·exact⟨rfl,rfl⟩
  ·rw[if_neg (by omega)];exact⟨rfl,rfl⟩
 rw[e,hc.1,hc.2,uN hs h hs.2]
 exact Iff.rfl
theorem B3{v d lo:Int}(hs:Pos s)(h:d<0):DY (dH s v d lo)↔(DY s/\oI s (-(lo-v)) (-d)):=by
 have e:DY (dH s v d lo)↔oK (dH s v d lo) (dH s v d lo).a (dH s v d lo).b:=Iff.rfl
 have hc:(dH s v d lo).a=s.a/\(dH s v d lo).b=s.b:=by
  have h0:¬(d=0/\0<lo-v):=by omega
  have h0':¬(0<d/\s.a*d<(lo-v)*s.b):=by omega
  simp only[dH,if_neg h0,if_neg h0']
  split<;>exact⟨rfl,rfl⟩
 rw[e,hc.1,hc.2,rF hs h hs.1]
 exact Iff.rfl
def fj(s:Sp)(v d lo hi:Int):Sp:=dH (dH s v d lo) (-v) (-d) (-hi)
theorem kT{v d lo hi:Int}(h:Pos s):Pos (fj s v d lo hi):=lS (lS h)
theorem BS{v d lo hi X Y:Int}(hs:Pos s)(h:0<d)(hY:0<Y):oI (fj s v d lo hi) X Y↔(oI s X Y/\(lo-v)*Y<=X*d):=by
 rw[fj,CX (by omega),uN hs h hY]
theorem BU{v d lo hi X Y:Int}(hs:Pos s)(h:0<d)(hY:0<Y):oK (fj s v d lo hi) X Y↔(oK s X Y/\X*d<=(hi-v)*Y):=by
 rw[fj,rF (lS hs) (by omega) hY,G4 h,Int.neg_neg,show-(-hi- -v)=hi-v by omega]
theorem kS{v d lo hi:Int}(hs:Pos s)(h:0<d)(hl:lo<=hi):DY (fj s v d lo hi)↔(DY s/\oK s (lo-v) d/\oI s (hi-v) d):=by
 rw[fj,B3 (lS hs) (by omega),Gn hs h,Int.neg_neg,show-(-hi- -v)=hi-v by omega,uN hs h h]
 have:(lo-v)*d<=(hi-v)*d:=Int.mul_le_mul_of_nonneg_right (by omega) (by omega)
 constructor
 ·exact λk=>⟨k.1.1,k.1.2,k.2.1⟩
 ·exact λk=>⟨⟨k.1,k.2.1⟩,k.2.2,this⟩
theorem yI{v d lo hi X Y:Int}(hs:Pos s)(h:d<0)(hY:0<Y):oI (fj s v d lo hi) X Y↔(oI s X Y/\(v-hi)*Y<=X* -d):=by
 rw[fj,uN (lS hs) (by omega) hY,CX h,show-hi- -v=v-hi by omega]
theorem yJ{v d lo hi X Y:Int}(hs:Pos s)(h:d<0)(hY:0<Y):oK (fj s v d lo hi) X Y↔(oK s X Y/\X* -d<=(v-lo)*Y):=by
 rw[fj,G4 (by omega),rF hs h hY,show-(lo-v)=v-lo by omega]
theorem jI{v d lo hi:Int}(hs:Pos s)(h:d<0)(hl:lo<=hi):DY (fj s v d lo hi)↔(DY s/\oK s (v-hi) (-d)/\oI s (v-lo) (-d)):=by
 rw[fj,Gn (lS hs) (by omega),B3 hs h,show-hi- -v=v-hi by omega,show-(lo-v)=v-lo by omega,rF hs h (by omega),show-(lo-v)=v-lo by omega]
 have:(v-hi)* -d<=(v-lo)* -d:=Int.mul_le_mul_of_nonneg_right (by omega) (by omega)
 constructor
 ·exact λk=>⟨k.1.1,k.2.1,k.1.2⟩
 ·exact λk=>⟨⟨k.1,k.2.2⟩,k.2.1,this⟩
def Rz(s:Sp):Prop:=0<s.a/\s.c<0/\Pos s
theorem Al{v d lo:Int}(h:Rz s):Rz (dH s v d lo):=by
 obtain⟨ha,hc,hs⟩:=h
 refine⟨?_,?_,lS hs⟩
 ·simp only[dH]
  split
  ·decide
  ·split
   ·rename_i h
    have h1:0<s.a*d:=Int.mul_pos ha h.1
    exact Int.pos_of_mul_pos_left (show 0<(lo-v)*s.b by omega) hs.1
   ·split<;>exact ha
 ·simp only[dH]
  split
  ·decide
  ·split
   ·exact hc
   ·split
    ·rename_i h
     have h1:s.c* -d<0:=Int.mul_neg_of_neg_of_pos hc (by omega)
     have h2: -(lo-v)*s.d<0:=by omega
     apply Classical.byContradiction
     intro h3
     have h3':0<= -(lo-v):=by dsimp only at h3;omega
     have:=Int.mul_nonneg h3' (Int.le_of_lt hs.2)
     omega
    ·exact hc
theorem uH(h:Rz s):¬DY s:=by
 intro k
 have h1:=Int.mul_pos h.1 h.2.2.2
 have h2:=Int.mul_neg_of_neg_of_pos h.2.1 h.2.2.1
 unfold DY at k
 omega
theorem Lt{v d lo hi:Int}(h:Rz s):Rz (fj s v d lo hi):=Al (Al h)
theorem oo{v lo hi:Int}(_hs:Pos s):(lo<=v/\v<=hi/\fj s v 0 lo hi=s)\/(¬(lo<=v/\v<=hi)/\Rz (fj s v 0 lo hi)):=by
 have z:∀(s:Sp) (v lo:Int),dH s v 0 lo=if 0<lo-v then⟨2,1,-2,1⟩else s:=by
  intro s v lo
  simp only[dH,true_and]
  split
  ·rfl
  ·rw[if_neg (by omega),if_neg (by omega)]
 have bad:Rz ⟨2,1,-2,1⟩:=⟨by decide,by decide,by decide,by decide⟩
 by_cases h1:lo<=v
 ·by_cases h2:v<=hi
  ·left
   refine⟨h1,h2,?_⟩
   rw[fj,Int.neg_zero,z,z,if_neg (by omega),if_neg (by omega)]
  ·right
   refine⟨λh=>h2 h.2,?_⟩
   rw[fj,Int.neg_zero,z,z,if_pos (by omega)]
   exact bad
 ·right
  refine⟨λh=>h1 h.1,?_⟩
  rw[fj]
  apply Al
  rw[z,if_pos (by omega)]
  exact bad
theorem Px(T:Nat->Int):pP T 4<4↔(0<=T 0\/0<=T 1\/0<=T 2\/0<=T 3):=by
 simp only[pP]
 by_cases h0:T 0<0<;>by_cases h1:T 1<0<;>by_cases h2:T 2<0<;>by_cases h3:T 3<0<;>simp only[h0,h1,h2,h3,if_true,if_false]<;>omega
theorem Py(T:Nat->Int):qy T 4<4↔(T 0<=0\/T 1<=0\/T 2<=0\/T 3<=0):=by
 simp only[qy]
 by_cases h0:0<T 0<;>by_cases h1:0<T 1<;>by_cases h2:0<T 2<;>by_cases h3:0<T 3<;>simp only[h0,h1,h2,h3,if_true,if_false]<;>omega
theorem QF(ax ay dx dy l t r b:Int):pX ax ay (ax+dx) (ay+dy) l t r b=true↔
  ((min ax (ax+dx)<=r/\l<=max ax (ax+dx)/\min ay (ay+dy)<=b/\t<=max ay (ay+dy))/\
   (0<=dx*(t-ay)-dy*(l-ax)\/0<=dx*(t-ay)-dy*(r-ax)\/0<=dx*(b-ay)-dy*(r-ax)\/0<=dx*(b-ay)-dy*(l-ax))/\
   (dx*(t-ay)-dy*(l-ax)<=0\/dx*(t-ay)-dy*(r-ax)<=0\/dx*(b-ay)-dy*(r-ax)<=0\/dx*(b-ay)-dy*(l-ax)<=0)):=by
 have e1:ax+dx-ax=dx:=by omega
 have e2:ay+dy-ay=dy:=by omega
 simp only[pX,Bool.and_eq_true,decide_eq_true_eq,Px,Py,turns,Oj,Gq,Gs,e1,e2]
 have hm:j3 ax ay (ax+dx) (ay+dy) l t r b=true↔(min ax (ax+dx)<=r/\l<=max ax (ax+dx)/\min ay (ay+dy)<=b/\t<=max ay (ay+dy)):=by
  simp only[j3,cQ,aD,List.foldl_cons,List.foldl_nil,eB,Bx.join,ug,uh]
  exact decide_eq_true_iff
 rw[hm]
theorem jW{d a b:Int}(h:0<=d)(hab:a<=b):d*a<=d*b:=Int.mul_le_mul_of_nonneg_left hab h
theorem jV{d a b:Int}(h:d<=0)(hab:a<=b):d*b<=d*a:=by
 have:=Int.mul_le_mul_of_nonneg_left hab (show 0<= -d by omega)
 rw[Int.neg_mul,Int.neg_mul]at this
 omega
theorem Ao:DY ⟨0,1,1,1⟩:=by unfold DY;decide
theorem CW(X Y:Int):oI ⟨0,1,1,1⟩ X Y↔0<=X:=by simp[oI]
theorem DI(X Y:Int):oK ⟨0,1,1,1⟩ X Y↔X<=Y:=by simp[oK]
theorem jE:Pos ⟨0,1,1,1⟩:=⟨by decide,by decide⟩
theorem B9(ax ay bx aY x y p:Int)(hp:0<=p):gO ax ay bx aY x y p=pX ax ay bx aY x y (x+p) (y+p):=by
 obtain⟨dx,rfl⟩:∃dx,bx=ax+dx:=⟨bx-ax,by omega⟩
 obtain⟨dy,rfl⟩:∃dy,aY=ay+dy:=⟨aY-ay,by omega⟩
 have e1:ax+dx-ax=dx:=by omega
 have e2:ay+dy-ay=dy:=by omega
 rw[Bool.eq_iff_iff,QF]
 have hc:gO ax ay (ax+dx) (ay+dy) x y p=true↔DY (fj (fj ⟨0,1,1,1⟩ ax dx x (x+p)) ay dy y (y+p)):=by
  simp only[gO,decide_eq_true_eq,pQ,e1,e2]
  exact Iff.rfl
 rw[hc]
 clear hc
 have hl:x<=x+p:=by omega
 have ht:y<=y+p:=by omega
 have c1:(x-ax)*dy=dy*(x-ax):=Int.mul_comm _ _
 have c2:(x+p-ax)*dy=dy*(x+p-ax):=Int.mul_comm _ _
 have c3:(y-ay)*dx=dx*(y-ay):=Int.mul_comm _ _
 have c4:(y+p-ay)*dx=dx*(y+p-ay):=Int.mul_comm _ _
 have n1:(ax-x)*dy= -(dy*(x-ax)):=by rw[show ax-x= -(x-ax)by omega,Int.neg_mul,c1]
 have n2:(ax-(x+p))*dy= -(dy*(x+p-ax)):=by rw[show ax-(x+p)= -(x+p-ax)by omega,Int.neg_mul,c2]
 have n3:(ay-y)*dx= -(dx*(y-ay)):=by rw[show ay-y= -(y-ay)by omega,Int.neg_mul,c3]
 have n4:(ay-(y+p))*dx= -(dx*(y+p-ay)):=by rw[show ay-(y+p)= -(y+p-ay)by omega,Int.neg_mul,c4]
 rcases Int.lt_trichotomy dx 0 with hx|rfl|hx
 ·have mx:=jV (d:=dx) (a:=y-ay) (b:=y+p-ay) (by omega) (by omega)
  rcases Int.lt_trichotomy dy 0 with hy|rfl|hy
  ·have my:=jV (d:=dy) (a:=x-ax) (b:=x+p-ax) (by omega) (by omega)
   rw[jI (kT jE) hy ht,jI jE hx hl,yJ jE hx (by omega),yI jE hx (by omega)]
   simp only[Ao,CW,DI,Int.mul_neg,n1,n2,n3,n4,Int.neg_neg,true_and]
   omega
  ·rcases oo (s:=fj ⟨0,1,1,1⟩ ax dx x (x+p)) (v:=ay) (lo:=y) (hi:=y+p) (kT jE)with⟨h1,h2,h3⟩|⟨h1,h2⟩
   ·rw[h3,jI jE hx hl]
    have k1:=jV (d:=dx) (a:=y-ay) (b:=0) (by omega) (by omega)
    have k2:=jV (d:=dx) (a:=0) (b:=y+p-ay) (by omega) (by omega)
    simp only[Ao,CW,DI,true_and,Int.zero_mul,Int.mul_zero]at k1 k2⊢
    omega
   ·refine⟨λk=>absurd k (uH h2),λk=>absurd ?_ h1⟩
    omega
  ·have my:=jW (d:=dy) (a:=x-ax) (b:=x+p-ax) (by omega) (by omega)
   rw[kS (kT jE) hy ht,jI jE hx hl,yJ jE hx (by omega),yI jE hx (by omega)]
   simp only[Ao,CW,DI,Int.mul_neg,n1,n2,c3,c4,true_and]
   omega
 ·rcases oo (s:=⟨0,1,1,1⟩) (v:=ax) (lo:=x) (hi:=x+p) jE with⟨h1,h2,h3⟩|⟨h1,h2⟩
  ·rw[h3]
   rcases Int.lt_trichotomy dy 0 with hy|rfl|hy
   ·have k1:=jV (d:=dy) (a:=x-ax) (b:=0) (by omega) (by omega)
    have k2:=jV (d:=dy) (a:=0) (b:=x+p-ax) (by omega) (by omega)
    rw[jI jE hy ht]
    simp only[Ao,CW,DI,true_and,Int.zero_mul,Int.mul_zero]at k1 k2⊢
    omega
   ·rcases oo (s:=⟨0,1,1,1⟩) (v:=ay) (lo:=y) (hi:=y+p) jE with⟨h4,h5,h6⟩|⟨h4,h5⟩
    ·rw[h6]
     simp only[Ao,Int.zero_mul,true_iff]
     omega
    ·refine⟨λk=>absurd k (uH h5),λk=>absurd ?_ h4⟩
     omega
   ·have k1:=jW (d:=dy) (a:=x-ax) (b:=0) (by omega) (by omega)
    have k2:=jW (d:=dy) (a:=0) (b:=x+p-ax) (by omega) (by omega)
    rw[kS jE hy ht]
    simp only[Ao,CW,DI,true_and,Int.zero_mul,Int.mul_zero]at k1 k2⊢
    omega
  ·refine⟨λk=>absurd k (uH (Lt h2)),λk=>absurd ?_ h1⟩
   omega
 ·have mx:=jW (d:=dx) (a:=y-ay) (b:=y+p-ay) (by omega) (by omega)
  rcases Int.lt_trichotomy dy 0 with hy|rfl|hy
  ·have my:=jV (d:=dy) (a:=x-ax) (b:=x+p-ax) (by omega) (by omega)
   rw[jI (kT jE) hy ht,kS jE hx hl,BU jE hx (by omega),BS jE hx (by omega)]
   simp only[Ao,CW,DI,Int.mul_neg,c1,c2,n3,n4,true_and]
   omega
  ·rcases oo (s:=fj ⟨0,1,1,1⟩ ax dx x (x+p)) (v:=ay) (lo:=y) (hi:=y+p) (kT jE)with⟨h1,h2,h3⟩|⟨h1,h2⟩
   ·rw[h3,kS jE hx hl]
    have k1:=jW (d:=dx) (a:=y-ay) (b:=0) (by omega) (by omega)
    have k2:=jW (d:=dx) (a:=0) (b:=y+p-ay) (by omega) (by omega)
    simp only[Ao,CW,DI,true_and,Int.zero_mul,Int.mul_zero]at k1 k2⊢
    omega
   ·refine⟨λk=>absurd k (uH h2),λk=>absurd ?_ h1⟩
    omega
  ·have my:=jW (d:=dy) (a:=x-ax) (b:=x+p-ax) (by omega) (by omega)
   rw[kS (kT jE) hy ht,kS jE hx hl,BU jE hx (by omega),BS jE hx (by omega)]
   simp only[Ao,CW,DI,c1,c2,c3,c4,true_and]
   omega
end
end Go.Proofs.YtenaepdmlknlcaaGreatDoor
