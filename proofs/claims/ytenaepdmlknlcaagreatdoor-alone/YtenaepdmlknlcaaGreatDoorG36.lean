import Derived.Test.YtenaepdmlknlcaaGreatDoorG33
open Go.Proofs.Tryz
set_option maxRecDepth 100000
set_option maxHeartbeats 8000000
namespace Go.Proofs.YtenaepdmlknlcaaGreatDoor
section
open Go.RowKit Go.Shelf
def lO(W:World)(b:Nat)(l:List Value):Prop:=∀i u,l[i]? =some u->W.cell? ⟨b,i,none⟩=some u
variable {M:Nat->Nat->Prop} {W W':World} {b:Nat}
theorem lO.fr(hf:Fr M W W'){l:List Value}(h:lO W b l)(hm:∀i,¬M b i):lO W' b l:=λi u hu=>
 (hf.cell b i (dz W ⟨b,i,none⟩ (h i u hu)) (hm i)).trans (h i u hu)
theorem lO.below(hb:Below W.heap.size W W'){l:List Value}(h:lO W b l):lO W' b l:=h.fr (M:=λ_ _=>False) (Fr.of_below hb) (λ_ e=>e)
theorem lO.new(w:World)(a:Array Value)(t:TypeId):lO (w.alloc (.cells a t)) w.heap.size a.toList:=λi u hu=>by
 have hi:i<a.size:=by have:=(List.getElem?_eq_some_iff.1 hu).1;simpa using this
 have h0:(w.alloc (.cells a t)).heap[w.heap.size]? =some (.cells a t):=by show(w.heap.push _)[w.heap.size]? =_;simp
 unfold World.cell?
 rw[h0]
 simpa using hu
def Bo(A n:Nat)(vq va v:Value)(k:Nat)(qs:List Value)(m:Nat)(xs:List ByteArray)(x:ByteArray)(ag:Int)(q:Nat)(ks':List Kp)(w:World)(e:Ending)(w':World):Prop:=
 e=.returned (.bool true)/\∃vk oQ uq,KR w' A q vk ks'/\(∀b,vk.ownBlock=some b->v.ownBlock=some b\/w.heap.size<=b)/\SC w' A n oQ 0 ag (.slice none 0 0) uq/\ak w' 0 220 10 oQ k (qs.drop 10)/\ak w' 0 9 1 uq (m+1) ((xs++[x]).map .string)/\(∀b,oQ.ownBlock=some b->vq.ownBlock=some b)/\(∀b,uq.ownBlock=some b->va.ownBlock=some b\/w.heap.size<=b)/\Fr (λc i=>(c=A/\(i=2+q\/(10+n*5<=i/\i<15+n*5)))\/va.ownBlock=some c) w w'
variable {k m q:Nat} {qs:List Value} {ag:Int} {ks':List Kp} {w w3 w4:World} {vk:Value}
theorem Ay{A n:Nat}{vq va v:Value}{xs:List ByteArray}{x:ByteArray}{e:Ending}(hf:Fr (λc i=>c=A/\i=2+q) w w3)(hk:KR w3 A q vk ks')(hvk:∀b,vk.ownBlock=some b->v.ownBlock=some b\/w.heap.size<=b)(xT:va.ownBlock≠some A)(MI:∀b,va.ownBlock=some b->b<w.heap.size/\v.ownBlock≠some b)(hq:q<4)(h:uU A n vq va k qs m xs x ag w3 e w4):
  Bo A n vq va v k qs m xs x ag q ks' w (.returned (.bool true)) w4:=by
 obtain⟨_,oQ,uq,hs,hoq,hoa,hbq,hba,hfa⟩:=h
 refine⟨rfl,vk,oQ,uq,hk.fr hfa (λe=>?_) (λb i hb e=>?_),hvk,hs,hoq,hoa,hbq,λb hb=>?_,?_⟩
 ·rcases e with e|e
  ·omega
  ·exact xT e
 ·rcases e with e|e
  ·rw[e.1]at hb;exact hk.ne hb
  ·rcases hvk b hb with h1|h1
   ·exact(MI b e).2 h1
   ·have:=(MI b e).1;omega
 ·rcases hba b hb with h1|h1
  ·exact .inl h1
  ·have:=hf.size;exact .inr (by omega)
 ·refine(hf.mono (M':=λc i=>(c=A/\(i=2+q\/(10+n*5<=i/\i<15+n*5)))\/va.ownBlock=some c) (λb i e=> .inl ⟨e.1,.inl e.2⟩)).aC hfa (λb i _ e=>?_)
  rcases e with e|e
  ·exact .inl ⟨e.1,.inr e.2⟩
  ·exact .inr e
theorem NR(A n:Nat)(hn:n<4)(t:Tl)(ht:t.ok)(mk:ByteArray)(vq:Value)(ag:Int)(vn va:Value)(k:Nat)(qs:List Value)(m:Nat)(xs:List ByteArray)(hm:m=xs.length)(hm2:m<=8000000)(hk:k<=1000)(v:Value)(ks:List Kp)(hl:ks.length<=1000)(room:Int)(j:Nat)(hx:bO t ks=some j)(x:Kp)(T9:ks[j]? =some x)(hxb:x.body.size<=1000)(w:World)(h:SC w A n vq 0 ag vn va)(hK:KR w A (az t) v ks)(hr:w.cell? ⟨A,0,none⟩=some (.int .i64 room))(hq:ak w 0 220 10 vq (k+1) qs)(ha:ak w 0 9 1 va m (xs.map .string))(yu:vq.ownBlock≠some A)(xT:va.ownBlock≠some A)(GI:∀b,vq.ownBlock=some b->va.ownBlock≠some b)(MI:∀b,va.ownBlock=some b->v.ownBlock≠some b):
  Calls prog 113 #[.pointer (some ⟨A,0,none⟩),.int .i64 (n:Int),.agg #[.int .i64 1,.int .i64 t.z,.int .i64 t.c,.int .i64 t.r,.string mk,.int .i64 0,.int .i64 0,.int .i64 0,.int .i64 0,.slice none 0 0]] w (Bo A n vq va v k qs m xs (bQ mk x.body) ag (az t) (iZ room t x.body ks) w):=by
 have HC:=af h
 have HK:=af hK
 have HQ:=af hq
 have HA:=af ha
 have xQ:=af yu
 have BA:=af xT
 have TK:Hid (∀b,va.ownBlock=some b->b<w.heap.size/\v.ownBlock≠some b):=λb hb=>⟨(ha.lt hb).2,MI b hb⟩
 have ke:Hid (∀W:World,Calls prog 146 #[.agg #[.int .i64 t.z,.int .i64 t.c,.int .i64 t.r]] W λe w'=>e=.returned (.int .i64 (az t:Int))/\Below W.heap.size W w'):=λW=>eD t ht W
 have Ui:Hid (∀W:World,Below w.heap.size w W->Calls prog 145 #[.pointer (some ⟨A,0,none⟩),.agg #[.int .i64 t.z,.int .i64 t.c,.int .i64 t.r]] W λe w'=>e=.returned (.int .i64 (j:Int))/\Below W.heap.size W w'):=λW hW=>by
  have:=zq A t ht v ks hl W (hK.below hW)
  rw[show y7 t ks=(j:Int)by unfold y7;rw[hx]]at this
  exact this
 have mK:=h.lt
 have Oy:Hid (∀W:World,Below w.heap.size w W->Calls prog 147 #[.pointer (some ⟨A,0,none⟩),.agg #[.int .i64 t.z,.int .i64 t.c,.int .i64 t.r],.string x.body] W λe w'=>e=.returned (.tuple #[])/\∃v',KR w' A (az t) v' (iZ room t x.body ks)/\(∀b,v'.ownBlock=some b->W.heap.size<=b)/\Fr (λc i=>c=A/\i=2+az t) W w'):=λW hW=>sI A t ht x.body room v ks hl W (hK.below hW) ((hW.cell (p:=⟨A,0,none⟩) mK).trans hr)
 have KN:Hid (∀W:World,Calls prog 148 #[.agg #[.int .i64 1,.int .i64 t.z,.int .i64 t.c,.int .i64 t.r,.string mk,.int .i64 0,.int .i64 0,.int .i64 0,.int .i64 0,.slice none 0 0],.string x.body] W λe w'=>e=.returned (.string (bQ mk x.body))/\Below W.heap.size W w'):=λW=>sJ mk x.body hxb t.z t.c t.r W
 have mP:Hid (∀W:World,Fr (λc i=>c=A/\i=2+az t) w W->Calls prog 112 #[.pointer (some ⟨A,0,none⟩),.int .i64 (n:Int),.string (bQ mk x.body)] W (uU A n vq va k qs m xs (bQ mk x.body) ag W)):=λW hf=>by
  have j_:=bg t
  exact jc A n hn vq 0 ag vn va k qs m xs hm hm2 hk _ W (h.fr hf (λi hi e=>by omega)) (hq.fr hf (λb i hb e=>yu (by rw[<-e.1];exact hb))) (ha.fr hf (λb i hb e=>xT (by rw[<-e.1];exact hb))) yu xT GI
 have c1:=h.cs
 have j_:=bg t
 obtain⟨q,oy⟩:∃q,az t=q:=⟨_,rfl⟩
 obtain⟨K2,hK2⟩:∃K2,iZ room t x.body ks=K2:=⟨_,rfl⟩
 obtain⟨X,hX⟩:∃X,bQ mk x.body=X:=⟨_,rfl⟩
 rw[oy]at ke j_ HK mP
 rw[oy,hK2]at Oy
 rw[hX]at mP KN
 rw[oy,hK2,hX]
 have t_:(n:Int)<4:=by omega
 have hn0:¬(n:Int)<0:=by omega
 have DW:(q:Int)<4:=by omega
 have wB:¬(q:Int)<0:=by omega
 have Vj:j<ks.length:=(List.getElem?_eq_some_iff.1 T9).1
 obtain⟨a,cap,rfl,hcap,hg⟩:=hK.own.form
 obtain⟨g,off,rfl,_⟩:=hg (by omega)
 obtain⟨N,hN⟩:∃N,ks.length=N:=⟨_,rfl⟩
 have HN:Hid (N=ks.length):=hN.symm
 have HX:=af T9
 rw[hN]at Vj HK hcap TK
 rw[hN]
 have Rm:(j:Int)<(N:Int):=by omega
 have hj0:¬(j:Int)<0:=by omega
 have hjg:(j:Int)>=0:=by omega
 obtain⟨tz,tc,tr⟩:=t
 obtain⟨xt,xb⟩:=x
 dsimp only at ke Ui Oy KN mP⊢
 have hB0:∀o:Obj,Below w.heap.size w (w.alloc o):=λo=>aU
 clear h hK hx T9 hxb hq ha yu xT GI MI oy hK2 hX hN ht hm hg hr
 go_enter func113,ntmps113
 go_wp2_with (go_at_call 145;refine aq (Ui.out _ (hB0 _)) ?_;rintro e w1 ⟨rfl,hb1⟩;dsimp only;have eO:Hid (Below w.heap.size w w1):=(hB0 _).trans (hb1.mono (by simp));have hs1:w.heap.size<w1.heap.size:=(by have:=hb1.size;simp at this;omega);have eE:Hid (lO w1 w.heap.size [.int .i64 1,.int .i64 tz,.int .i64 tc,.int .i64 tr,.string mk,.int .i64 0,.int .i64 0,.int .i64 0,.int .i64 0,.slice none 0 0]):=(lO.new w #[.int .i64 1,.int .i64 tz,.int .i64 tc,.int .i64 tr,.string mk,.int .i64 0,.int .i64 0,.int .i64 0,.int .i64 0,.slice none 0 0] 220).below hb1;have Wc:w1.cell? ⟨w.heap.size,1,none⟩=some (.int .i64 tz):=eE.out 1 _ rfl;have We:w1.cell? ⟨w.heap.size,2,none⟩=some (.int .i64 tc):=eE.out 2 _ rfl;have Wh:w1.cell? ⟨w.heap.size,3,none⟩=some (.int .i64 tr):=eE.out 3 _ rfl;clear hb1)
 go_region_with (go_at_call 146;refine aq (ke.out _) ?_;rintro e w2 ⟨rfl,hb2⟩;dsimp only;have o8:Below w1.heap.size w1 w2:=Below.trans (by first|with_reducible exact bK|with_reducible exact bK.drew) (hb2.mono (by simp));have dm:Hid (Below w.heap.size w w2):=eO.out.trans (o8.mono (by omega));have dP:Hid (lO w2 w.heap.size [.int .i64 1,.int .i64 tz,.int .i64 tc,.int .i64 tr,.string mk,.int .i64 0,.int .i64 0,.int .i64 0,.int .i64 0,.slice none 0 0]):=eE.out.below o8;have Om:w2.cell? ⟨w.heap.size,0,none⟩=some (.int .i64 1):=dP.out 0 _ rfl;have Wj:w2.cell? ⟨w.heap.size,1,none⟩=some (.int .i64 tz):=dP.out 1 _ rfl;have Wl:w2.cell? ⟨w.heap.size,2,none⟩=some (.int .i64 tc):=dP.out 2 _ rfl;have Wm:w2.cell? ⟨w.heap.size,3,none⟩=some (.int .i64 tr):=dP.out 3 _ rfl;have Wn:w2.cell? ⟨w.heap.size,4,none⟩=some (.string mk):=dP.out 4 _ rfl;have Wo:w2.cell? ⟨w.heap.size,5,none⟩=some (.int .i64 0):=dP.out 5 _ rfl;have Wp:w2.cell? ⟨w.heap.size,6,none⟩=some (.int .i64 0):=dP.out 6 _ rfl;have Wq:w2.cell? ⟨w.heap.size,7,none⟩=some (.int .i64 0):=dP.out 7 _ rfl;have Ws:w2.cell? ⟨w.heap.size,8,none⟩=some (.int .i64 0):=dP.out 8 _ rfl;have Wu:w2.cell? ⟨w.heap.size,9,none⟩=some (.slice none 0 0):=dP.out 9 _ rfl;have hK2:=HK.out.below dm.out;have c2:=hK2.c;have x2:=(hK2.at HN.out HX.out).2.2.2;have hs2:w.heap.size<w2.heap.size:=dz w2 ⟨w.heap.size,0,none⟩ Om;clear hb2 o8 hK2)
 all_goals
  go_wp2_with (first
   |(go_at_call 147;refine aq (Oy.out _ (by first|with_reducible exact dm.out|with_reducible exact dm.out.drew)) ?_;rintro e w3 ⟨rfl,vk,hk3,TZ,hf3⟩;dsimp only;have ij:Fr (λc i=>c=A/\i=2+q) w2 w3:=Fr.trans (by first|with_reducible exact Fr.refl _ _|with_reducible exact(Fr.refl _ _).drew) hf3;have F_:Hid (Fr (λc i=>c=A/\i=2+q) w w3):=(Fr.of_below dm.out).trans ij;have KH:Hid _:=hk3;have O0:Hid (∀b,vk.ownBlock=some b->w.heap.size<=b):=(λb hb=>by have:=TZ b hb;have:=dm.out.size;simp at *;omega);have eo:Hid (lO w3 w.heap.size [.int .i64 1,.int .i64 tz,.int .i64 tc,.int .i64 tr,.string mk,.int .i64 0,.int .i64 0,.int .i64 0,.int .i64 0,.slice none 0 0]):=dP.out.fr ij (λi e=>by omega);have TA:w3.cell? ⟨w.heap.size,0,none⟩=some (.int .i64 1):=eo.out 0 _ rfl;have aab:w3.cell? ⟨w.heap.size,1,none⟩=some (.int .i64 tz):=eo.out 1 _ rfl;have aac:w3.cell? ⟨w.heap.size,2,none⟩=some (.int .i64 tc):=eo.out 2 _ rfl;have aad:w3.cell? ⟨w.heap.size,3,none⟩=some (.int .i64 tr):=eo.out 3 _ rfl;have aae:w3.cell? ⟨w.heap.size,4,none⟩=some (.string mk):=eo.out 4 _ rfl;have aaf:w3.cell? ⟨w.heap.size,5,none⟩=some (.int .i64 0):=eo.out 5 _ rfl;have aag:w3.cell? ⟨w.heap.size,6,none⟩=some (.int .i64 0):=eo.out 6 _ rfl;have aah:w3.cell? ⟨w.heap.size,7,none⟩=some (.int .i64 0):=eo.out 7 _ rfl;have aai:w3.cell? ⟨w.heap.size,8,none⟩=some (.int .i64 0):=eo.out 8 _ rfl;have aaj:w3.cell? ⟨w.heap.size,9,none⟩=some (.slice none 0 0):=eo.out 9 _ rfl;have hs3:w.heap.size<w3.heap.size:=dz w3 ⟨w.heap.size,0,none⟩ TA;clear hk3 TZ hf3 ij)
   |(go_at_call 148;refine aq (KN.out _) ?_;rintro e w4 ⟨rfl,hb4⟩;dsimp only;have o8:Below w3.heap.size w3 w4:=Below.trans (by first|with_reducible exact bK|with_reducible exact bK.drew) (hb4.mono (by simp));have nX:=af o8;have rH:Hid (Fr (λc i=>c=A/\i=2+q) w w4):=F_.out.trans (Fr.of_below o8);clear hb4 o8)
   |(go_at_call 112;refine aq (mP.out _ (by first|with_reducible exact rH.out|with_reducible exact rH.out.drew)) ?_;intro e w5 h5;have HE:Hid _:=h5;obtain⟨rfl,_⟩:=h5;dsimp only))
  go_ret
  exact Ay (by first|with_reducible exact rH.out|with_reducible exact rH.out.drew) (KH.out.below (by first|with_reducible exact nX.out|with_reducible exact nX.out.drew)) (λb hb=> .inr (O0.out b hb)) BA.out TK.out j_ (e:=.returned (.tuple #[])) ⟨rfl,HE.out.2⟩
theorem J5(A n:Nat)(hn:n<4)(t:Tl)(ht:t.ok)(mk:ByteArray)(vq:Value)(ag:Int)(vn va:Value)(k:Nat)(qs:List Value)(m:Nat)(xs:List ByteArray)(hm:m=xs.length)(hm2:m<=8000000)(hk:k<=1000)(v:Value)(ks:List Kp)(hl:ks.length<=1000)(room:Int)(DT:Int)(B:ByteArray)(hxb:B.size<=1000)(w:World)(h:SC w A n vq 2 ag vn va)(hK:KR w A (az t) v ks)(hr:w.cell? ⟨A,0,none⟩=some (.int .i64 room))(hG:w.cell? ⟨A,6+az t,none⟩=some (.int .i64 DT))(hq:ak w 0 220 10 vq (k+1) qs)(ha:ak w 0 9 1 va m (xs.map .string))(yu:vq.ownBlock≠some A)(xT:va.ownBlock≠some A)(GI:∀b,vq.ownBlock=some b->va.ownBlock≠some b)(MI:∀b,va.ownBlock=some b->v.ownBlock≠some b)
  (xR:∀W:World,Below w.heap.size w W->Calls prog 64 #[vn,.agg #[.int .i64 t.z,.int .i64 t.c,.int .i64 t.r]] W λe w'=>e=.returned (.string B)/\Below W.heap.size W w') (he:DT=ag):
  Calls prog 113 #[.pointer (some ⟨A,0,none⟩),.int .i64 (n:Int),.agg #[.int .i64 1,.int .i64 t.z,.int .i64 t.c,.int .i64 t.r,.string mk,.int .i64 0,.int .i64 0,.int .i64 0,.int .i64 0,.slice none 0 0]] w (Bo A n vq va v k qs m xs (bQ mk B) ag (az t) (iZ room t B ks) w):=by
 have HC:=af h
 have HK:=af hK
 have HQ:=af hq
 have HA:=af ha
 have BA:=af xT
 have TK:Hid (∀b,va.ownBlock=some b->b<w.heap.size/\v.ownBlock≠some b):=λb hb=>⟨(ha.lt hb).2,MI b hb⟩
 have ke:Hid (∀W:World,Calls prog 146 #[.agg #[.int .i64 t.z,.int .i64 t.c,.int .i64 t.r]] W λe w'=>e=.returned (.int .i64 (az t:Int))/\Below W.heap.size W w'):=λW=>eD t ht W
 have Ue:=af xR
 have mK:=h.lt
 have Oy:Hid (∀W:World,Below w.heap.size w W->Calls prog 147 #[.pointer (some ⟨A,0,none⟩),.agg #[.int .i64 t.z,.int .i64 t.c,.int .i64 t.r],.string B] W λe w'=>e=.returned (.tuple #[])/\∃v',KR w' A (az t) v' (iZ room t B ks)/\(∀b,v'.ownBlock=some b->W.heap.size<=b)/\Fr (λc i=>c=A/\i=2+az t) W w'):=λW hW=>sI A t ht B room v ks hl W (hK.below hW) ((hW.cell (p:=⟨A,0,none⟩) mK).trans hr)
 have KN:Hid (∀W:World,Calls prog 148 #[.agg #[.int .i64 1,.int .i64 t.z,.int .i64 t.c,.int .i64 t.r,.string mk,.int .i64 0,.int .i64 0,.int .i64 0,.int .i64 0,.slice none 0 0],.string B] W λe w'=>e=.returned (.string (bQ mk B))/\Below W.heap.size W w'):=λW=>sJ mk B hxb t.z t.c t.r W
 have mP:Hid (∀W:World,Fr (λc i=>c=A/\i=2+az t) w W->Calls prog 112 #[.pointer (some ⟨A,0,none⟩),.int .i64 (n:Int),.string (bQ mk B)] W (uU A n vq va k qs m xs (bQ mk B) ag W)):=λW hf=>by
  have j_:=bg t
  exact jc A n hn vq 2 ag vn va k qs m xs hm hm2 hk _ W (h.fr hf (λi hi e=>by omega)) (hq.fr hf (λb i hb e=>yu (by rw[<-e.1];exact hb))) (ha.fr hf (λb i hb e=>xT (by rw[<-e.1];exact hb))) yu xT GI
 have c1:=h.cs
 have cn:=h.cn
 have cg:=h.cg
 have j_:=bg t
 obtain⟨q,oy⟩:∃q,az t=q:=⟨_,rfl⟩
 obtain⟨K2,hK2⟩:∃K2,iZ room t B ks=K2:=⟨_,rfl⟩
 obtain⟨X,hX⟩:∃X,bQ mk B=X:=⟨_,rfl⟩
 rw[oy]at ke j_ HK mP hG
 rw[oy,hK2]at Oy
 rw[hX]at mP KN
 rw[oy,hK2,hX]
 subst he
 have t_:(n:Int)<4:=by omega
 have hn0:¬(n:Int)<0:=by omega
 have DW:(q:Int)<4:=by omega
 have wB:¬(q:Int)<0:=by omega
 obtain⟨tz,tc,tr⟩:=t
 dsimp only at ke Oy KN mP Ue⊢
 have hB0:∀o:Obj,Below w.heap.size w (w.alloc o):=λo=>aU
 clear h hK hxb hq ha yu xT GI MI oy hK2 hX ht hm hr xR
 go_enter func113,ntmps113
 go_wp2_with fail
 go_region_with (go_at_call 64;refine aq (Ue.out _ (by first|with_reducible exact hB0 _|with_reducible exact(hB0 _).drew)) ?_;rintro e w1 ⟨rfl,hb1⟩;dsimp only;have eO:Hid (Below w.heap.size w w1):=Below.trans (by first|with_reducible exact hB0 _|with_reducible exact(hB0 _).drew) (hb1.mono (by simp));have hs1:w.heap.size<w1.heap.size:=(by have:=hb1.size;simp at this;omega);have eE:Hid (lO w1 w.heap.size [.int .i64 1,.int .i64 tz,.int .i64 tc,.int .i64 tr,.string mk,.int .i64 0,.int .i64 0,.int .i64 0,.int .i64 0,.slice none 0 0]):=(lO.new w #[.int .i64 1,.int .i64 tz,.int .i64 tc,.int .i64 tr,.string mk,.int .i64 0,.int .i64 0,.int .i64 0,.int .i64 0,.slice none 0 0] 220).below (Below.trans (by first|with_reducible exact bK|with_reducible exact bK.drew) (hb1.mono (by simp)));have Wc:w1.cell? ⟨w.heap.size,1,none⟩=some (.int .i64 tz):=eE.out 1 _ rfl;have We:w1.cell? ⟨w.heap.size,2,none⟩=some (.int .i64 tc):=eE.out 2 _ rfl;have Wh:w1.cell? ⟨w.heap.size,3,none⟩=some (.int .i64 tr):=eE.out 3 _ rfl;have gS1:w1.cell? ⟨A,10+n*5+2,none⟩=_:=(eO.out.cell (p:=⟨A,10+n*5+2,none⟩) mK).trans cg;have gA1:w1.cell? ⟨A,6+q,none⟩=_:=(eO.out.cell (p:=⟨A,6+q,none⟩) mK).trans hG;clear hb1)
 all_goals go_wp2_with fail
 all_goals go_region_with (go_at_call 146;refine aq (ke.out _) ?_;rintro e w2 ⟨rfl,hb2⟩;dsimp only;have o8:Below w1.heap.size w1 w2:=Below.trans (by first|with_reducible exact bK|with_reducible exact bK.drew) (hb2.mono (by simp));have dm:Hid (Below w.heap.size w w2):=eO.out.trans (o8.mono (by omega));have dP:Hid (lO w2 w.heap.size [.int .i64 1,.int .i64 tz,.int .i64 tc,.int .i64 tr,.string mk,.int .i64 0,.int .i64 0,.int .i64 0,.int .i64 0,.slice none 0 0]):=eE.out.below o8;have Om:w2.cell? ⟨w.heap.size,0,none⟩=some (.int .i64 1):=dP.out 0 _ rfl;have Wj:w2.cell? ⟨w.heap.size,1,none⟩=some (.int .i64 tz):=dP.out 1 _ rfl;have Wl:w2.cell? ⟨w.heap.size,2,none⟩=some (.int .i64 tc):=dP.out 2 _ rfl;have Wm:w2.cell? ⟨w.heap.size,3,none⟩=some (.int .i64 tr):=dP.out 3 _ rfl;have Wn:w2.cell? ⟨w.heap.size,4,none⟩=some (.string mk):=dP.out 4 _ rfl;have Wo:w2.cell? ⟨w.heap.size,5,none⟩=some (.int .i64 0):=dP.out 5 _ rfl;have Wp:w2.cell? ⟨w.heap.size,6,none⟩=some (.int .i64 0):=dP.out 6 _ rfl;have Wq:w2.cell? ⟨w.heap.size,7,none⟩=some (.int .i64 0):=dP.out 7 _ rfl;have Ws:w2.cell? ⟨w.heap.size,8,none⟩=some (.int .i64 0):=dP.out 8 _ rfl;have Wu:w2.cell? ⟨w.heap.size,9,none⟩=some (.slice none 0 0):=dP.out 9 _ rfl;have gA:w2.cell? ⟨A,6+q,none⟩=_:=(dm.out.cell (p:=⟨A,6+q,none⟩) mK).trans hG;have gS:w2.cell? ⟨A,10+n*5+2,none⟩=_:=(dm.out.cell (p:=⟨A,10+n*5+2,none⟩) mK).trans cg;have hs2:w.heap.size<w2.heap.size:=dz w2 ⟨w.heap.size,0,none⟩ Om;clear hb2 o8)
 all_goals
  go_wp2_with (first
   |(go_at_call 147;refine aq (Oy.out _ (by first|with_reducible exact dm.out|with_reducible exact dm.out.drew)) ?_;rintro e w3 ⟨rfl,vk,hk3,TZ,hf3⟩;dsimp only;have ij:Fr (λc i=>c=A/\i=2+q) w2 w3:=Fr.trans (by first|with_reducible exact Fr.refl _ _|with_reducible exact(Fr.refl _ _).drew) hf3;have F_:Hid (Fr (λc i=>c=A/\i=2+q) w w3):=(Fr.of_below dm.out).trans ij;have KH:Hid _:=hk3;have O0:Hid (∀b,vk.ownBlock=some b->w.heap.size<=b):=(λb hb=>by have:=TZ b hb;have:=dm.out.size;simp at *;omega);have eo:Hid (lO w3 w.heap.size [.int .i64 1,.int .i64 tz,.int .i64 tc,.int .i64 tr,.string mk,.int .i64 0,.int .i64 0,.int .i64 0,.int .i64 0,.slice none 0 0]):=dP.out.fr ij (λi e=>by omega);have TA:w3.cell? ⟨w.heap.size,0,none⟩=some (.int .i64 1):=eo.out 0 _ rfl;have aab:w3.cell? ⟨w.heap.size,1,none⟩=some (.int .i64 tz):=eo.out 1 _ rfl;have aac:w3.cell? ⟨w.heap.size,2,none⟩=some (.int .i64 tc):=eo.out 2 _ rfl;have aad:w3.cell? ⟨w.heap.size,3,none⟩=some (.int .i64 tr):=eo.out 3 _ rfl;have aae:w3.cell? ⟨w.heap.size,4,none⟩=some (.string mk):=eo.out 4 _ rfl;have aaf:w3.cell? ⟨w.heap.size,5,none⟩=some (.int .i64 0):=eo.out 5 _ rfl;have aag:w3.cell? ⟨w.heap.size,6,none⟩=some (.int .i64 0):=eo.out 6 _ rfl;have aah:w3.cell? ⟨w.heap.size,7,none⟩=some (.int .i64 0):=eo.out 7 _ rfl;have aai:w3.cell? ⟨w.heap.size,8,none⟩=some (.int .i64 0):=eo.out 8 _ rfl;have aaj:w3.cell? ⟨w.heap.size,9,none⟩=some (.slice none 0 0):=eo.out 9 _ rfl;have hs3:w.heap.size<w3.heap.size:=dz w3 ⟨w.heap.size,0,none⟩ TA;clear hk3 TZ hf3 ij)
   |(go_at_call 148;refine aq (KN.out _) ?_;rintro e w4 ⟨rfl,hb4⟩;dsimp only;have o8:Below w3.heap.size w3 w4:=Below.trans (by first|with_reducible exact bK|with_reducible exact bK.drew) (hb4.mono (by simp));have nX:=af o8;have rH:Hid (Fr (λc i=>c=A/\i=2+q) w w4):=F_.out.trans (Fr.of_below o8);clear hb4 o8)
   |(go_at_call 112;refine aq (mP.out _ (by first|with_reducible exact rH.out|with_reducible exact rH.out.drew)) ?_;intro e w5 h5;have HE:Hid _:=h5;obtain⟨rfl,_⟩:=h5;dsimp only))
  go_ret
  exact Ay (by first|with_reducible exact rH.out|with_reducible exact rH.out.drew) (KH.out.below (by first|with_reducible exact nX.out|with_reducible exact nX.out.drew)) (λb hb=> .inr (O0.out b hb)) BA.out TK.out j_ (e:=.returned (.tuple #[])) ⟨rfl,HE.out.2⟩
theorem NS(A n:Nat)(hn:n<4)(t:Tl)(ht:t.ok)(mk:ByteArray)(vq:Value)(ag:Int)(vn va:Value)(k:Nat)(qs:List Value)(m:Nat)(xs:List ByteArray)(hm:m=xs.length)(hm2:m<=8000000)(hk:k<=1000)(v:Value)(ks:List Kp)(hl:ks.length<=1000)(room:Int)(DT:Int)(B:ByteArray)(hxb:B.size<=1000)(w:World)(h:SC w A n vq 2 ag vn va)(hK:KR w A (az t) v ks)(hr:w.cell? ⟨A,0,none⟩=some (.int .i64 room))(hG:w.cell? ⟨A,6+az t,none⟩=some (.int .i64 DT))(hq:ak w 0 220 10 vq (k+1) qs)(ha:ak w 0 9 1 va m (xs.map .string))(yu:vq.ownBlock≠some A)(xT:va.ownBlock≠some A)(GI:∀b,vq.ownBlock=some b->va.ownBlock≠some b)(MI:∀b,va.ownBlock=some b->v.ownBlock≠some b)
  (xR:∀W:World,Below w.heap.size w W->Calls prog 64 #[vn,.agg #[.int .i64 t.z,.int .i64 t.c,.int .i64 t.r]] W λe w'=>e=.returned (.string B)/\Below W.heap.size W w') (he:¬DT=ag):
  Calls prog 113 #[.pointer (some ⟨A,0,none⟩),.int .i64 (n:Int),.agg #[.int .i64 1,.int .i64 t.z,.int .i64 t.c,.int .i64 t.r,.string mk,.int .i64 0,.int .i64 0,.int .i64 0,.int .i64 0,.slice none 0 0]] w (Bo A n vq va v k qs m xs (bQ mk B) ag (az t) ks w):=by
 have HC:=af h
 have HK:=af hK
 have HQ:=af hq
 have HA:=af ha
 have BA:=af xT
 have TK:Hid (∀b,va.ownBlock=some b->b<w.heap.size/\v.ownBlock≠some b):=λb hb=>⟨(ha.lt hb).2,MI b hb⟩
 have ke:Hid (∀W:World,Calls prog 146 #[.agg #[.int .i64 t.z,.int .i64 t.c,.int .i64 t.r]] W λe w'=>e=.returned (.int .i64 (az t:Int))/\Below W.heap.size W w'):=λW=>eD t ht W
 have Ue:=af xR
 have mK:=h.lt
 have Oy:Hid (∀W:World,Below w.heap.size w W->Calls prog 147 #[.pointer (some ⟨A,0,none⟩),.agg #[.int .i64 t.z,.int .i64 t.c,.int .i64 t.r],.string B] W λe w'=>e=.returned (.tuple #[])/\∃v',KR w' A (az t) v' (iZ room t B ks)/\(∀b,v'.ownBlock=some b->W.heap.size<=b)/\Fr (λc i=>c=A/\i=2+az t) W w'):=λW hW=>sI A t ht B room v ks hl W (hK.below hW) ((hW.cell (p:=⟨A,0,none⟩) mK).trans hr)
 have KN:Hid (∀W:World,Calls prog 148 #[.agg #[.int .i64 1,.int .i64 t.z,.int .i64 t.c,.int .i64 t.r,.string mk,.int .i64 0,.int .i64 0,.int .i64 0,.int .i64 0,.slice none 0 0],.string B] W λe w'=>e=.returned (.string (bQ mk B))/\Below W.heap.size W w'):=λW=>sJ mk B hxb t.z t.c t.r W
 have mP:Hid (∀W:World,Fr (λc i=>c=A/\i=2+az t) w W->Calls prog 112 #[.pointer (some ⟨A,0,none⟩),.int .i64 (n:Int),.string (bQ mk B)] W (uU A n vq va k qs m xs (bQ mk B) ag W)):=λW hf=>by
  have j_:=bg t
  exact jc A n hn vq 2 ag vn va k qs m xs hm hm2 hk _ W (h.fr hf (λi hi e=>by omega)) (hq.fr hf (λb i hb e=>yu (by rw[<-e.1];exact hb))) (ha.fr hf (λb i hb e=>xT (by rw[<-e.1];exact hb))) yu xT GI
 have c1:=h.cs
 have cn:=h.cn
 have cg:=h.cg
 have j_:=bg t
 obtain⟨q,oy⟩:∃q,az t=q:=⟨_,rfl⟩
 obtain⟨K2,hK2⟩:∃K2,iZ room t B ks=K2:=⟨_,rfl⟩
 obtain⟨X,hX⟩:∃X,bQ mk B=X:=⟨_,rfl⟩
 rw[oy]at ke j_ HK mP hG
 rw[oy,hK2]at Oy
 rw[hX]at mP KN
 rw[oy,hX]
 have PW:(DT==ag)=false:=by simpa using he
 clear he
 have t_:(n:Int)<4:=by omega
 have hn0:¬(n:Int)<0:=by omega
 have DW:(q:Int)<4:=by omega
 have wB:¬(q:Int)<0:=by omega
 obtain⟨tz,tc,tr⟩:=t
 dsimp only at ke Oy KN mP Ue⊢
 have hB0:∀o:Obj,Below w.heap.size w (w.alloc o):=λo=>aU
 clear h hK hxb hq ha yu xT GI MI oy hK2 hX ht hm hr xR
 go_enter func113,ntmps113
 go_wp2_with fail
 go_region_with (go_at_call 64;refine aq (Ue.out _ (by first|with_reducible exact hB0 _|with_reducible exact(hB0 _).drew)) ?_;rintro e w1 ⟨rfl,hb1⟩;dsimp only;have eO:Hid (Below w.heap.size w w1):=Below.trans (by first|with_reducible exact hB0 _|with_reducible exact(hB0 _).drew) (hb1.mono (by simp));have hs1:w.heap.size<w1.heap.size:=(by have:=hb1.size;simp at this;omega);have eE:Hid (lO w1 w.heap.size [.int .i64 1,.int .i64 tz,.int .i64 tc,.int .i64 tr,.string mk,.int .i64 0,.int .i64 0,.int .i64 0,.int .i64 0,.slice none 0 0]):=(lO.new w #[.int .i64 1,.int .i64 tz,.int .i64 tc,.int .i64 tr,.string mk,.int .i64 0,.int .i64 0,.int .i64 0,.int .i64 0,.slice none 0 0] 220).below (Below.trans (by first|with_reducible exact bK|with_reducible exact bK.drew) (hb1.mono (by simp)));have Wc:w1.cell? ⟨w.heap.size,1,none⟩=some (.int .i64 tz):=eE.out 1 _ rfl;have We:w1.cell? ⟨w.heap.size,2,none⟩=some (.int .i64 tc):=eE.out 2 _ rfl;have Wh:w1.cell? ⟨w.heap.size,3,none⟩=some (.int .i64 tr):=eE.out 3 _ rfl;have gS1:w1.cell? ⟨A,10+n*5+2,none⟩=_:=(eO.out.cell (p:=⟨A,10+n*5+2,none⟩) mK).trans cg;have gA1:w1.cell? ⟨A,6+q,none⟩=_:=(eO.out.cell (p:=⟨A,6+q,none⟩) mK).trans hG;clear hb1)
 all_goals go_wp2_with fail
 all_goals go_region_with (go_at_call 146;refine aq (ke.out _) ?_;rintro e w2 ⟨rfl,hb2⟩;dsimp only;have o8:Below w1.heap.size w1 w2:=Below.trans (by first|with_reducible exact bK|with_reducible exact bK.drew) (hb2.mono (by simp));have dm:Hid (Below w.heap.size w w2):=eO.out.trans (o8.mono (by omega));have dP:Hid (lO w2 w.heap.size [.int .i64 1,.int .i64 tz,.int .i64 tc,.int .i64 tr,.string mk,.int .i64 0,.int .i64 0,.int .i64 0,.int .i64 0,.slice none 0 0]):=eE.out.below o8;have Om:w2.cell? ⟨w.heap.size,0,none⟩=some (.int .i64 1):=dP.out 0 _ rfl;have Wj:w2.cell? ⟨w.heap.size,1,none⟩=some (.int .i64 tz):=dP.out 1 _ rfl;have Wl:w2.cell? ⟨w.heap.size,2,none⟩=some (.int .i64 tc):=dP.out 2 _ rfl;have Wm:w2.cell? ⟨w.heap.size,3,none⟩=some (.int .i64 tr):=dP.out 3 _ rfl;have Wn:w2.cell? ⟨w.heap.size,4,none⟩=some (.string mk):=dP.out 4 _ rfl;have Wo:w2.cell? ⟨w.heap.size,5,none⟩=some (.int .i64 0):=dP.out 5 _ rfl;have Wp:w2.cell? ⟨w.heap.size,6,none⟩=some (.int .i64 0):=dP.out 6 _ rfl;have Wq:w2.cell? ⟨w.heap.size,7,none⟩=some (.int .i64 0):=dP.out 7 _ rfl;have Ws:w2.cell? ⟨w.heap.size,8,none⟩=some (.int .i64 0):=dP.out 8 _ rfl;have Wu:w2.cell? ⟨w.heap.size,9,none⟩=some (.slice none 0 0):=dP.out 9 _ rfl;have gA:w2.cell? ⟨A,6+q,none⟩=_:=(dm.out.cell (p:=⟨A,6+q,none⟩) mK).trans hG;have gS:w2.cell? ⟨A,10+n*5+2,none⟩=_:=(dm.out.cell (p:=⟨A,10+n*5+2,none⟩) mK).trans cg;have hs2:w.heap.size<w2.heap.size:=dz w2 ⟨w.heap.size,0,none⟩ Om;clear hb2 o8)
 all_goals
  go_wp2_with (first
   |(go_at_call 148;refine aq (KN.out _) ?_;rintro e w4 ⟨rfl,hb4⟩;dsimp only;have o8:Below w2.heap.size w2 w4:=Below.trans (by first|with_reducible exact bK|with_reducible exact bK.drew) (hb4.mono (by simp));have nX:=af o8;have rH:Hid (Fr (λc i=>c=A/\i=2+q) w w4):=(Fr.of_below dm.out).trans (Fr.of_below o8);clear hb4 o8)
   |(go_at_call 112;refine aq (mP.out _ (by first|with_reducible exact rH.out|with_reducible exact rH.out.drew)) ?_;intro e w5 h5;have HE:Hid _:=h5;obtain⟨rfl,_⟩:=h5;dsimp only))
  go_ret
  exact Ay (by first|with_reducible exact rH.out|with_reducible exact rH.out.drew) ((HK.out.below dm.out).below (by first|with_reducible exact nX.out|with_reducible exact nX.out.drew)) (λb hb=> .inl hb) BA.out TK.out j_ (e:=.returned (.tuple #[])) ⟨rfl,HE.out.2⟩
end
end Go.Proofs.YtenaepdmlknlcaaGreatDoor
