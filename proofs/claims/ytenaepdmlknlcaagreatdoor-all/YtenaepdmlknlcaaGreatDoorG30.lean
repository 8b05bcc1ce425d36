import Derived.Test.YtenaepdmlknlcaaGreatDoorG22
import Derived.Test.YtenaepdmlknlcaaGreatDoorG26
import Derived.Test.YtenaepdmlknlcaaGreatDoorG27
open Go.Proofs.Tryz
set_option maxRecDepth 100000
set_option maxHeartbeats 8000000
namespace Go.Proofs.YtenaepdmlknlcaaGreatDoor
section
open Go.RowKit Go.Shelf
theorem M8(A mo:Nat)(t:Tl)(ht:t.ok)(m:ByteArray)(aG:Int)(ro:Option Addr)(vs:Nat->Value)(S:tT)(i:Nat)(k:Kp)(w:World)(g:Gl w)(h:dI w A (mo+2) vs S)(hx:bO t (S.ks (az t))=some i)(hk:(S.ks (az t))[i]? =some k)(hbody:k.body.size<=1000)(h8:8<=A)(hv8:∀b,(vs (az t)).ownBlock=some b->8<=b):
  Calls prog 174 #[kZ t m aG ro,.pointer (some ⟨A,mo,none⟩)] w λe w'=>e=.returned (.agg #[.bool false,.nilFunc,.string (bQ m k.body)])/\∃v',gu w' A (mo+2+1+az t*2) v' ((S.ks (az t)).eraseIdx i++[⟨t,k.body⟩])/\(∀b,v'.ownBlock=some b->(vs (az t)).ownBlock=some b\/w.heap.size<=b)/\Fr (n9 A (mo+2+1+az t*2) (vs (az t))) w w':=by
 have HU:Hid (∀W,Below w.heap.size w W->Calls prog 187 #[.pointer (some ⟨A,mo+2,none⟩),.agg #[.int .i64 t.z,.int .i64 t.c,.int .i64 t.r]] W λe w'=>e=.returned (.tuple #[.string k.body,.bool true])/\∃v',gu w' A (mo+2+1+az t*2) v' ((S.ks (az t)).eraseIdx i++[⟨t,k.body⟩])/\(∀b,v'.ownBlock=some b->(vs (az t)).ownBlock=some b\/W.heap.size<=b)/\Fr (n9 A (mo+2+1+az t*2) (vs (az t))) W w'):=λW hW=>Lj A (mo+2) t ht vs S i k W (h.below hW) hx hk
 have hA:A<w.heap.size:=dz w _ h.room
 have Bq:Hid (∀b,(vs (az t)).ownBlock=some b->b<w.heap.size):=(h.sh _ (bg t)).tI
 have HG:=af g
 have HT:Hid (∀W,Gl W->Calls prog 188 #[kZ t m aG ro,.string k.body] W λe w'=>e=.returned (.agg #[.bool false,.nilFunc,.string (bQ m k.body)])/\Below W.heap.size W w'):=λW gW=>Dz t.z t.c t.r aG m k.body ro hbody W gW
 have H8:Hid (∀b j,b<8->¬n9 A (mo+2+1+az t*2) (vs (az t)) b j):=λb j hb e=>e.elim (λe=>by omega) (λe=>by have:=hv8 b e;omega)
 obtain⟨q,hq⟩:∃q,mo+2+1+az t*2=q:=⟨_,rfl⟩
 obtain⟨v,hv⟩:∃v,vs (az t)=v:=⟨_,rfl⟩
 obtain⟨ks',hks⟩:∃l,(S.ks (az t)).eraseIdx i++[(⟨t,k.body⟩:Kp)]=l:=⟨_,rfl⟩
 rw[hq,hv,hks]at HU
 rw[hq,hv]at H8
 rw[hv]at Bq
 rw[hq,hv,hks]
 clear h hx hk g hbody hq hv hks hv8
 obtain⟨bd,hbd⟩:∃b,k.body=b:=⟨_,rfl⟩
 rw[hbd]at HU HT⊢
 clear hbd
 go_enter func174,ntmps174
 go_wp2_with fail
 go_region_with (go_at_call 187;refine aq (HU.out _ (jl w _ _).drew) ?_;rintro e w1 ⟨rfl,v1,hs1,ho1,iL⟩;dsimp only;have rI:Hid _:=hs1;have Rf:Fr (n9 A q v) w w1:=(Fr.of_below (jl w _ _).drew).trans iL;have hn0:∀j,¬n9 A q v w.heap.size j:=(λj e=>e.elim (λe=>(by omega)) (λe=>(by have:=Bq.out _ e;omega)));have hn1:∀j,¬n9 A q v (w.heap.size+1) j:=(λj e=>e.elim (λe=>(by omega)) (λe=>(by have:=Bq.out _ e;omega)));have vr:Hid (KA w1 w.heap.size [.int .i64 t.z,.int .i64 t.c,.int .i64 t.r,.string m,.int .i64 aG,.pointer ro]):=KA.fr iL ((KA.new w [.int .i64 t.z,.int .i64 t.c,.int .i64 t.r,.string m,.int .i64 aG,.pointer ro] 291).alloc _).drew hn0;have eE:Hid (K3 w1 (w.heap.size+1) (.bool false) .nilFunc (.string ⟨#[]⟩)):=(K3.new2 w _ _ _ _ _).drew.fr iL hn1;have YB:Gl w1:=HG.out.fr Rf H8.out;obtain⟨⟨k0,k1,k2,k3,k4,k5⟩,z0,z1,z2,z3,z4,z5⟩:=vr.out.Iw;clear hs1)
 all_goals
  go_wp2_with (go_at_call 188;refine aq (HT.out _ YB) ?_;rintro e w2 ⟨rfl,hb2⟩;dsimp only;obtain⟨r0,r1,r2,f0,f1,f2⟩:=eE.out.below hb2 aM)
  have Vw:∀b,v1.ownBlock=some b->v.ownBlock=some b\/w.heap.size+2<=b:=λb hb=>(ho1 b hb).imp _root_.id (λh=>by simpa using h)
  refine bodyPost_ret (v:=.agg #[.bool false,.nilFunc,.string (bQ m bd)]) (by simp[results,results174,go_sem,r0,r1,r2]) rfl ⟨rfl,v1,?_,λb hb=>(Vw b hb).imp _root_.id (λh=>by omega),?_⟩
  ·refine(rI.out.below hb2).fr (Dr w2 (w.heap.size+1) _ _ _) (λe=>by have:A=w.heap.size+1:=e;omega) (λb j hb e=>?_)
   have h1:b=w.heap.size+1:=e
   rcases Vw b hb with h2|h2
   ·have:=Bq.out b h2;omega
   ·omega
  ·exact(Rf.trans (Fr.of_below hb2)).aC (Dr w2 (w.heap.size+1) _ _ _) (λc j hc e=>by have:c=w.heap.size+1:=e;omega)
theorem Cc(A mo:Nat)(t:Tl)(m bd:ByteArray)(aG:Int)(ro:Option Addr)(M:Nat->Nat->Prop)(R:World->World->Prop)(w:World)(g:Gl w)(_hA:A<w.heap.size)(hM:∀b j,M b j->b<w.heap.size/\8<=b)
  (hB:∀W,Below w.heap.size w W->Calls prog 32 #[.agg #[.pointer ro],.agg #[.int .i64 t.z,.int .i64 t.c,.int .i64 t.r]] W λe w'=>e=.returned (.string bd)/\Below W.heap.size W w')
  (hK:∀W,Below w.heap.size w W->Calls prog 221 #[.pointer (some ⟨A,mo+2,none⟩),.agg #[.int .i64 t.z,.int .i64 t.c,.int .i64 t.r],.string bd,.int .i64 aG] W λe w'=>e=.returned (.tuple #[])/\R W w'/\Fr M W w')
  (hT:∀W,Gl W->Calls prog 188 #[kZ t m aG ro,.string bd] W λe w'=>e=.returned (.agg #[.bool false,.nilFunc,.string (bQ m bd)])/\Below W.heap.size W w'):
  Calls prog 205 #[kZ t m aG ro,.pointer (some ⟨A,mo,none⟩)] w λe w'=>e=.returned (.agg #[.bool false,.nilFunc,.string (bQ m bd)])/\∃W1 W2,Below w.heap.size w W1/\w.heap.size+2<=W1.heap.size/\R W1 W2/\Fr M W1 W2/\Fr (λb _=>b=w.heap.size+1) W2 w':=by
 have HB:Hid _:=hB
 have HK:Hid _:=hK
 have HT:Hid _:=hT
 have HG:=af g
 have HM:Hid _:=hM
 clear hB hK hT g hM
 go_enter func205,ntmps205
 go_wp2_with (go_at_call 32;refine aq (HB.out _ (jl w _ _)) ?_;rintro e w1 ⟨rfl,hb1⟩;dsimp only;have vr:Hid (KA w1 w.heap.size [.int .i64 t.z,.int .i64 t.c,.int .i64 t.r,.string m,.int .i64 aG,.pointer ro]):=KA.fr (M:=λ_ _=>False) (Fr.of_below hb1) ((KA.new w [.int .i64 t.z,.int .i64 t.c,.int .i64 t.r,.string m,.int .i64 aG,.pointer ro] 291).alloc _) (λ_=>_root_.id);have eE:Hid (K3 w1 (w.heap.size+1) (.bool false) .nilFunc (.string ⟨#[]⟩)):=(K3.new2 w _ _ _ _ _).below hb1 aM;have KO:Hid (Below w.heap.size w w1/\w.heap.size+2<=w1.heap.size):=⟨(jl w _ _).trans (hb1.mono (by simp;omega)),by have:=hb1.size;simp at this;omega⟩;obtain⟨⟨k0,k1,k2,k3,k4,k5⟩,z0,z1,z2,z3,z4,z5⟩:=vr.out.Iw;clear hb1)
 go_region_with (go_at_call 221;refine aq (HK.out _ KO.out.1.drew) ?_;rintro e w2 ⟨rfl,hR2,hf2⟩;dsimp only;have dP:Hid _:=hR2;have rO:Hid _:=hf2;have hn0:∀j,¬M w.heap.size j:=(λj e=>(by have:=(HM.out _ _ e).1;omega));have hn1:∀j,¬M (w.heap.size+1) j:=(λj e=>(by have:=(HM.out _ _ e).1;omega));have h_:Hid (KA w2 w.heap.size [.int .i64 t.z,.int .i64 t.c,.int .i64 t.r,.string m,.int .i64 aG,.pointer ro]):=KA.fr hf2 vr.out.drew hn0;have zZ:Hid (K3 w2 (w.heap.size+1) (.bool false) .nilFunc (.string ⟨#[]⟩)):=eE.out.drew.fr hf2 hn1;have hG2:Gl w2:=HG.out.fr ((Fr.of_below KO.out.1.drew).trans hf2) (λb j hb e=>(by have:=(HM.out _ _ e).2;omega));have XS:Hid (w.heap.size+2<=w2.heap.size):=(by have h1:=KO.out.2;have h2:=hf2.size;simp at h2;show _<=_;omega);clear k0 k1 k2 k3 k4 k5 z0 z1 z2 z3 z4 z5;obtain⟨⟨k0,k1,k2,k3,k4,k5⟩,z0,z1,z2,z3,z4,z5⟩:=h_.out.Iw;clear hR2 hf2)
 all_goals
  go_wp2_with (go_at_call 188;refine aq (HT.out _ hG2) ?_;rintro e w3 ⟨rfl,hb3⟩;dsimp only;obtain⟨r0,r1,r2,f0,f1,f2⟩:=zZ.out.below hb3 aM)
  refine bodyPost_ret (v:=.agg #[.bool false,.nilFunc,.string (bQ m bd)]) (by simp[results,results205,go_sem,r0,r1,r2]) rfl ⟨rfl,_,_,KO.out.1.drew,?_,dP.out,rO.out,?_⟩
  ·have:=KO.out.2;simpa using this
  ·exact(Fr.of_below hb3).trans (Dr w3 (w.heap.size+1) _ _ _)
theorem B0{vs us:List FV}(h:vs.map (·.f)=us.map (·.f))(p c r:Int):iO vs p c r=iO us p c r:=by
 have hp:∀(x:Bx) (o o':Option FV) (v u:FV),o.map (·.f)=o'.map (·.f)->v.f=u.f->(cR x o v).map (·.f)=(cR x o' u).map (·.f):=λx o o' v u ho hv=>by
  unfold cR
  rw[hv]
  split
  ·cases o with
   |none=>
    cases o' with
    |none=>simpa using hv
    |some b=>cases ho
   |some a=>
    cases o' with
    |none=>cases ho
    |some b=>
     have hab:a.f=b.f:=by simpa using ho
     simp only[hab]
     split
     ·simpa using hv
     ·simpa using hab
  ·exact ho
 have hf:∀(x:Bx) (vs us:List FV) (o o':Option FV),vs.map (·.f)=us.map (·.f)->o.map (·.f)=o'.map (·.f)->(vs.foldl (cR x) o).map (·.f)=(us.foldl (cR x) o').map (·.f):=by
  intro x vs
  induction vs with
  |nil=>intro us o o' h ho;cases us with
   |nil=>exact ho
   |cons _ _=>cases h
  |cons v r ih=>intro us o o' h ho;cases us with
   |nil=>cases h
   |cons u s=>
    simp only[List.map_cons,List.cons.injEq]at h
    exact ih s _ _ h.2 (hp x o o' v u ho h.1)
 have ht:∀x,j6 (aN x vs)=j6 (aN x us):=λx=>by
  have:=hf x vs us none none h rfl
  unfold aN
  revert this
  generalize vs.foldl (cR x) none=o
  generalize us.foldl (cR x) none=o'
  intro this
  cases o with
  |none=>cases o' with
   |none=>rfl
   |some _=>cases this
  |some a=>cases o' with
   |none=>cases this
   |some b=>
    have hab:a.f=b.f:=by simpa using this
    simp[j6,hab]
 have hc:jB vs p c r=jB us p c r:=by
  funext k
  unfold jB
  rw[ht]
 unfold iO
 rw[hc]
variable {fs:List aW}
theorem B1{vs:List FV}(h:vs.map (·.f)=fs)(t:Tl):iO vs (pZ t.z) t.c t.r=BZ fs t:=by
 refine B0 ?_ _ _ _
 rw[h,List.map_map]
 exact(List.map_id fs).symm
variable {α β:Type}
theorem zg{f:α->β}:∀{l:List α},(l.map f).Nodup->∀{a b:α},a∈l->b∈l->f a=f b->a=b
 |[],_,_,_,ha,_,_=>by cases ha
 |c::r,h,a,b,ha,hb,e=>by
  have h':=List.nodup_cons.1 (show(f c::r.map f).Nodup from h)
  rcases List.mem_cons.1 ha with rfl|ha2
  ·rcases List.mem_cons.1 hb with rfl|hb2
   ·rfl
   ·exact absurd (by rw[e];exact List.mem_map_of_mem hb2) h'.1
  ·rcases List.mem_cons.1 hb with rfl|hb2
   ·exact absurd (by rw[<-e];exact List.mem_map_of_mem ha2) h'.1
   ·exact zg h'.2 ha2 hb2 e
theorem PC{vs:List FV}(h:kg (vs.map (·.f))):KC vs:=by
 intro a ha b hb
 by_cases e:a.f.id=b.f.id
 ·left
  have:(vs.map (λv=>v.f.id)).Nodup:=by
   have h':((vs.map (·.f)).map (·.id)).Nodup:=h
   rwa[List.map_map]at h'
  exact zg this ha hb e
 ·exact .inr e
structure u_(w:World)(x:kf)(I1:Nat->Prop)(kP:Nat->Value):Prop where
 i0:∀b,x.I b->I1 b
 i1:∀b,I1 b->x.I b\/w.heap.size<=b
 sv:∀k b,k<4->(kP k).ownBlock=some b->(x.sv k).ownBlock=some b\/w.heap.size<=b
theorem u_.same(w:World)(x:kf):u_ w x x.I x.sv:=⟨λ_ h=>h,λ_ h=> .inl h,λ_ _ _ h=> .inl h⟩
structure iK(A:Nat)(x:kf)(a:fW)(g':Gr)(w w':World)(I1:Nat->Prop)(kP:Nat->Value):Prop where
 at':au w' A {x with I:=I1,sv:=kP} {a with g:=g'}
 ext:u_ w x I1 kP
 fr:Fr (GM A x) w w'
def eZ(A:Nat)(x:kf)(a:fW)(r:Res×Gr)(w:World)(e:Ending)(w':World):Prop:=match r with
 |(.blocked,_)=>e=.returned (.agg #[.bool true,.nilFunc,.string ⟨#[]⟩])/\Below w.heap.size w w'
 |(.next st',g')=>∃f' b' I1 kP,e=.returned (.agg #[.bool false,.func f' b' #[],.string ⟨#[]⟩])/\fX I1 w' st' (.func f' b' #[])/\iK A x a g' w w' I1 kP
 |(.answer an,g')=>∃I1 kP,e=.returned (.agg #[.bool false,.nilFunc,.string an])/\iK A x a g' w w' I1 kP
variable {w w':World} {x:kf} {a:fW}
theorem au.below(hb:Below w.heap.size w w'){A:Nat}(h:au w A x a):au w' A x a:=h.fr (M:=λ_ _=>False) (Fr.of_below hb) (λ_ _ e=>e.elim)
theorem iK.still{A:Nat}(h:au w A x a)(hb:Below w.heap.size w w'):iK A x a a.g w w' x.I x.sv:=⟨h.below hb,u_.same w x,Fr.of_below hb⟩
theorem au.FN{A:Nat}(h:au w A x a):∃ro vs,w.cell? ⟨A,0,none⟩=some (.pointer ro)/\aT x.I w ro vs/\vs.map (·.f)=a.g.fs/\(∀v∈vs,Good x.I w v)/\kg (vs.map (·.f)):=by
 obtain⟨ro,r0,vs,h1,h2,h3⟩:=h.root
 exact⟨ro,vs,r0,h1,h2,h3,by rw[h2];exact h.ok.g.fs.EC⟩
variable {w1:World} {q:Nat} {v':Value} {ks:List Kp}
theorem au.Rw{A:Nat}(h:au w A x a)(hq:q<4)(hok:vg {a.g with S:=a.g.S.fH q ks})(hs:gu w1 A (2+1+q*2) v' ks)(hfr:∀g,v'.ownBlock=some g->(x.sv q).ownBlock=some g\/w.heap.size<=g)(hf:Fr (n9 A (2+1+q*2) (x.sv q)) w w1):
  iK A x a {a.g with S:=a.g.S.fH q ks} w w1 x.I (λk=>if k=q then v' else x.sv k):=by
 have hA:=h.A8
 have hM:∀b i,n9 A (2+1+q*2) (x.sv q) b i->GM A x b i:=λb i e=>by
  rcases e with⟨rfl,rfl⟩|e
  ·exact .inl ⟨rfl,by omega⟩
  ·exact .inr ⟨q,hq,e⟩
 have MC:∀i,n9 A (2+1+q*2) (x.sv q) A i->i=2+1+q*2:=λi e=>by
  rcases e with⟨_,e⟩|e
  ·exact e
  ·exact absurd (show x.own A (q+1)=some A by rw[fE x A q hq];exact e) (h.apart 0 (q+1) A (by omega) (by omega) (by omega) (eu x A))
 have t_:∀b i,x.I b->¬n9 A (2+1+q*2) (x.sv q) b i:=λb i hb e=>by
  rcases e with⟨rfl,_⟩|e
  ·exact(h.fD 0 _ (by omega) (eu x _)).1 hb
  ·exact(h.fD (q+1) b (by omega) (by rw[fE x A q hq];exact e)).1 hb
 have hS:Same x.I w w1:=Same.fr hf (λb hb=>(h.lt b hb).2) t_
 have hF:Fr (GM A x) w w1:=hf.mono hM
 have gM:u_ w x x.I (λk=>if k=q then v' else x.sv k):=⟨λ_ h=>h,λ_ h=> .inl h,λk b hk e=>by
  by_cases hkq:k=q
  ·rw[if_pos hkq]at e;rw[hkq];exact hfr b e
  ·rw[if_neg hkq]at e;exact .inl e⟩
 obtain⟨ro,r0,r1⟩:=h.root
 refine⟨h.ground hok hF ⟨ro,(hf.cell A 0 hA.2 (λe=>by have:=MC _ e;omega)).trans r0,r1.same hS⟩ ((hf.frozen A 0 hA.2 (λe=>by have:=MC _ e;omega)).trans h.rf) ((hf.cell A 1 hA.2 (λe=>by have:=MC _ e;omega)).trans h.lk) ((hf.frozen A 1 hA.2 (λe=>by have:=MC _ e;omega)).trans h.lf) (h.sh.upd hq hs hf hfr) (λ_ h=>h) (λb hb=> .inl hb) gM.sv,gM,hF⟩
theorem Fx(A o mo f:Nat)(b:Array Value)(R:Fn->Array Value->World->Prop)(w:World)(h1:w.cell? ⟨A,o+1,none⟩=some (.func (.func f) b #[]))(hE:Enters f)
  (hC:Calls prog f (b.push (.pointer (some ⟨A,mo,none⟩))) w λe w'=>∃f' b',e=.returned (.agg #[.bool false,.func f' b' #[],.string ⟨#[]⟩])/\R f' b' w'/\w'.cell? ⟨A,o+1,none⟩=some (.func (.func f) b #[])/\w'.frozen? ⟨A,o+1,none⟩=false):
  Calls prog 77 #[.pointer (some ⟨A,o,none⟩),.pointer (some ⟨A,mo,none⟩)] w λe w'=>e=.returned (.bool true)/\∃f' b' w1,R f' b' w1/\w'=(w1.setCell ⟨A,o+1,none⟩ (.func f' b' #[])).alloc (.cells #[.bool false,.func f' b' #[],.string ⟨#[]⟩] 231):=by
 have HC:Hid _:=hC
 clear hC
 have heq:=mY (.func f) b #[]
 have UK:=hE (b.push (.pointer (some ⟨A,mo,none⟩))) w
 clear hE
 go_enter func77,ntmps77
 go_wp2_with (refine aq HC.out ?_;rintro e w1 ⟨f',b',rfl,hR1,q1,q2⟩;dsimp only;have heq':=mY f' b' #[];have mH:A<w1.heap.size:=dz w1 _ q1)
 go_ret
 exact⟨rfl,f',b',w1,hR1,rfl⟩
structure Ext(A:Nat)(w:World)(x y:kf):Prop where
 i:∀b,y.I b->x.I b\/w.heap.size<=b
 own:∀i b,i<13->y.own A i=some b->x.own A i=some b\/w.heap.size<=b
theorem Ext.refl(A:Nat)(w:World)(x:kf):Ext A w x x:=⟨λ_ h=> .inl h,λ_ _ _ h=> .inl h⟩
theorem Ext.trans{A:Nat}{x y z:kf}(h:Ext A w x y)(k:Ext A w1 y z)(hs:w.heap.size<=w1.heap.size):Ext A w x z:=
 ⟨λb hb=>(k.i b hb).elim (h.i b) (λe=> .inr (by omega)),λi b hi hb=>(k.own i b hi hb).elim (h.own i b hi) (λe=> .inr (by omega))⟩
variable {b:Nat}
theorem Ext.Own{A:Nat}{x y:kf}(h:Ext A w x y)(hb:y.Own A b):x.Own A b\/w.heap.size<=b:=by
 obtain⟨i,hi,e⟩:=hb
 exact(h.own i b hi e).imp (λe=>⟨i,hi,e⟩) _root_.id
abbrev oJ(A:Nat)(x:kf):Nat->Nat->Prop:=λb _=>x.Own A b
variable {w2:World}
theorem Fr.own{A:Nat}{x y:kf}(h:Fr (oJ A x) w w1)(k:Fr (oJ A y) w1 w2)(he:Ext A w x y):Fr (oJ A x) w w2:=
 h.aC k (λb i hb e=>(he.Own e).elim _root_.id (λe=>by omega))
variable {i:Nat}
theorem GM.own{A:Nat}(h:GM A x b i):x.Own A b:=by
 rcases h with⟨rfl,_⟩|⟨k,hk,e⟩
 ·exact⟨0,by omega,eu x _⟩
 ·exact⟨k+1,by omega,by rw[fE x A k hk];exact e⟩
variable {n:Nat}
theorem SM.own{A:Nat}(hn:n<4)(h:SM A x n b i):x.Own A b:=by
 rcases h with⟨rfl,_⟩|rfl|e
 ·exact⟨0,by omega,eu x _⟩
 ·exact⟨n+5,by omega,eN x A n hn⟩
 ·exact⟨n+9,by omega,by rw[eM];exact e⟩
variable {I1:Nat->Prop} {kP:Nat->Value}
theorem u_.ext{A:Nat}(h:u_ w x I1 kP):Ext A w x {x with I:=I1,sv:=kP}:=by
 refine⟨h.i1,λi b hi e=>?_⟩
 rw[Nn]at e
 by_cases h0:i=0
 ·rw[if_pos h0]at e;left;rw[h0];exact e
 ·rw[if_neg h0]at e
  by_cases h1:i<5
  ·rw[if_pos h1]at e
   refine(h.sv (i-1) b (by omega) e).imp (λe'=>?_) _root_.id
   have:=fE x A (i-1) (by omega)
   rw[show i-1+1=i by omega]at this
   rw[this];exact e'
  ·rw[if_neg h1]at e;exact .inl e
variable {sn rn:Nat}
theorem Ext.lB{A:Nat}{v nv:Value}(hI:∀b,I1 b->x.I b\/w.heap.size<=b)(hv:∀b,v.ownBlock=some b->(x.av n).ownBlock=some b\/w.heap.size<=b):Ext A w x (x.lB n I1 v nv sn rn):=by
 refine⟨hI,λi b hi e=>?_⟩
 rw[AL]at e
 by_cases h9:i=n+9
 ·rw[if_pos h9]at e
  exact(hv b e).imp (λe=>by rw[h9,eM];exact e) _root_.id
 ·rw[if_neg h9]at e;exact .inl e
variable {I:Nat->Prop} {n0:Nat} {rd:Rd}
theorem LU{v:Value}(h:rN n0 w' rd v)(hok:Pg rd):fX (iM I n0 w'.heap.size) w' (eK rd) v:=by
 cases rd with
 |bad=>exact h
 |get t m=>exact h
 |del id=>exact⟨none,h,rfl⟩
 |put f=>
  obtain⟨R,a,n,cap,e,h1,h2,h3,h4,h5,h6⟩:=h
  have hl:=lG (show aj f=true from hok)
  rcases h5 with h5|⟨g,off,ea,hp⟩
  ·rw[h5]at hl;simp at hl
  ·obtain⟨h6a,h6b⟩:=h6 g off ea
   subst h6b
   have hR:R<w'.heap.size:=dz w' ⟨R,0,none⟩ (h2 0 _ rfl).1
   refine⟨some ⟨R,5,none⟩,e,R,g,0,cap,rfl,.inr ⟨h1,hR⟩,(h2 5 _ rfl).1,(h2 6 _ rfl).1,(h2 7 _ rfl).1,(h2 8 _ rfl).1,?_,hok,.inr ⟨h6a,hp.1⟩,by rw[<-h3];exact h4,hp.2⟩
   have:=(h2 9 _ rfl).1
   rw[ea,h3]at this
   exact this
variable {st':mz} {f':Fn}
theorem au.G2{A:Nat}(h:au w1 A x a)(hn:n<4)(hst:jP st'){b':Array Value}(hv:fX x.I w1 st' (.func f' b' #[]))(Mk:∃st,(a.ss n).nx=some st)(o:Obj):
  ∃y,au ((w1.setCell ⟨A,11+n*3+1,none⟩ (.func f' b' #[])).alloc o) A y (a.set a.g n {a.ss n with nx:=some st'})/\Ext A w1 x y/\Fr (oJ A x) w1 ((w1.setCell ⟨A,11+n*3+1,none⟩ (.func f' b' #[])).alloc o):=by
 have hA:=h.A8
 have hs:=h.lB n hn
 have hok:=h.ok.ss n hn
 obtain⟨st,S2⟩:=Mk
 have hf:Fr (λb i=>b=A/\i=11+n*3+1) w1 ((w1.setCell ⟨A,11+n*3+1,none⟩ (.func f' b' #[])).alloc o):=((Fr.refl _ w1).setCell (b:=A) (i:=11+n*3+1) (.inl ⟨rfl,rfl⟩) _).alloc o
 have hF:Fr (SM A x n) w1 ((w1.setCell ⟨A,11+n*3+1,none⟩ (.func f' b' #[])).alloc o):=hf.mono λb i e=> .inl ⟨e.1,by omega,by omega⟩
 have hcb:x.cb n≠A:=λe=>h.apart 0 (n+5) A (by omega) (by omega) (by omega) (eu x A) (by rw[eN x A n hn,e])
 have hS:Same x.I w1 ((w1.setCell ⟨A,11+n*3+1,none⟩ (.func f' b' #[])).alloc o):=Same.fr hf (λb hb=>(h.lt b hb).2) (λb i hb e=>(h.fD 0 A (by omega) (eu x A)).1 (by rw[<-e.1];exact hb))
 have hc1:((w1.setCell ⟨A,11+n*3+1,none⟩ (.func f' b' #[])).alloc o).cell? ⟨A,11+n*3+1,none⟩=some (.func f' b' #[]):=(o7 _ _ _ (by simp[World.setCell];exact hA.2)).trans (cell_eq hs.q.c1 _)
 have hw:ct {a.ss n with nx:=some st'}<=6:=by
  have:=hok.w
  rw[cH]at this⊢
  rw[S2]at this
  exact this
 refine⟨x.lB n x.I (x.av n) (.func f' b' #[]) (x.sn n) (x.rn n),h.rz hn (s':={a.ss n with nx:=some st'}) ⟨hok.q,hw,λs e=>by cases e;exact hst,hok.an⟩ hF ⟨⟨?_,?_,?_,hs.q.le,.inr ⟨f',b',?_⟩⟩,?_,?_,?_⟩ (λ_ h=>h) (λb hb=> .inl hb) (λb hb=>⟨?_,.inl hb⟩),Ext.lB (λ_ h=> .inl h) (λ_ h=> .inl h),hF.mono λb i e=>SM.own hn e⟩
 ·exact(hf.cell A _ hA.2 (λe=>by omega)).trans hs.q.c0
 ·show _=some (d_ x.nv n _ n)
  rw[aJ]
  exact hc1
 ·show _=some (Obj.chan 6 _ false (d_ x.sn n _ n) (d_ x.rn n _ n) false)
  rw[aJ,aJ]
  exact(hf.block _ (Array.getElem?_eq_some_iff.1 hs.q.ch).1 (λi e=>hcb e.1)).trans hs.q.ch
 ·show d_ x.nv n _ n=_
  rw[aJ]
 ·have:(w1.setCell ⟨A,11+n*3+1,none⟩ (.func f' b' #[])).frozen? ⟨A,11+n*3+1,none⟩=false:=by rw[World.frozen?_setCell];exact hs.f1
  exact(mC _ _ _ (by simp[World.setCell];exact hA.2)).trans this
 ·show rQ x.I _ (some st') (d_ x.nv n _ n)
  rw[aJ]
  exact fX.same hS hv
 ·show jM _ A _ (d_ x.av n _ n) _
  rw[aJ]
  exact hs.an.fr hf (λe=>by omega) (λg i e e'=>hs.an.ne (by rw[e,e'.1]))
 ·have:=(h.fD (n+9) b (by omega) (by rw[eM];exact hb)).2.2
  exact Nat.lt_of_lt_of_le this hF.size
variable {an:ByteArray}
theorem au.zz{A:Nat}(h:au w1 A x a)(hn:n<4)(Mk:∃st,(a.ss n).nx=some st)(oL:(a.ss n).an.length+1<=4000000)
  (h1:jM w' A (11+n*3) v' ((a.ss n).an.map .string++[.string an])) (h2:∀k,v'.ownBlock=some k->(x.av n).ownBlock=some k\/w1.heap.size<=k) (h3:w'.cell? ⟨A,11+n*3+1,none⟩=some .nilFunc) (h4:w'.frozen? ⟨A,11+n*3+1,none⟩=false) (hf:Fr (λc j=>(c=A/\(j=11+n*3+1\/j=11+n*3+2))\/(x.av n).ownBlock=some c) w1 w'):
  ∃y,au w' A y (a.set a.g n {a.ss n with nx:=none,an:=(a.ss n).an++[an]})/\Ext A w1 x y/\Fr (oJ A x) w1 w':=by
 have hA:=h.A8
 have hs:=h.lB n hn
 have hok:=h.ok.ss n hn
 obtain⟨st,S2⟩:=Mk
 have hF:Fr (SM A x n) w1 w':=hf.mono λb i e=>by
  rcases e with⟨rfl,e⟩|e
  ·exact .inl ⟨rfl,by omega,by omega⟩
  ·exact .inr (.inr e)
 have MC:∀i,((A=A/\(i=11+n*3+1\/i=11+n*3+2))\/(x.av n).ownBlock=some A)->i=11+n*3+1\/i=11+n*3+2:=λi e=>e.elim (λe=>e.2) (λe=>absurd e hs.an.ne)
 have hw:ct {a.ss n with nx:=none,an:=(a.ss n).an++[an]}<=6:=by
  have:=hok.w
  rw[cH]at this⊢
  rw[S2]at this
  show(a.ss n).q.length+0<=6
  omega
 refine⟨x.lB n x.I v' .nilFunc (x.sn n) (x.rn n),h.rz hn (s':={a.ss n with nx:=none,an:=(a.ss n).an++[an]}) ⟨hok.q,hw,λs e=>(by cases e),(by rw[List.length_append];exact oL)⟩ hF ⟨⟨?_,?_,?_,hs.q.le,.inl ?_⟩,h4,?_,?_⟩ (λ_ h=>h) (λb hb=> .inl hb) (λb hb=>⟨?_,h2 b hb⟩),Ext.lB (λ_ h=> .inl h) h2,hF.mono λb i e=>SM.own hn e⟩
 ·exact(hf.cell A _ hA.2 (λe=>by have:=MC _ e;omega)).trans hs.q.c0
 ·show _=some (d_ x.nv n _ n)
  rw[aJ]
  exact h3
 ·show _=some (Obj.chan 6 _ false (d_ x.sn n _ n) (d_ x.rn n _ n) false)
  rw[aJ,aJ]
  refine(hf.block _ (Array.getElem?_eq_some_iff.1 hs.q.ch).1 (λi e=>?_)).trans hs.q.ch
  rcases e with⟨e,_⟩|e
  ·exact h.apart 0 (n+5) A (by omega) (by omega) (by omega) (eu x A) (by rw[eN x A n hn,e])
  ·exact h.apart (n+5) (n+9) _ (by omega) (by omega) (by omega) (eN x A n hn) (by rw[eM];exact e)
 ·show d_ x.nv n _ n=_
  rw[aJ]
 ·show rQ x.I _ none (d_ x.nv n _ n)
  rw[aJ]
  rfl
 ·show jM _ A _ (d_ x.av n _ n) _
  rw[aJ,List.map_append]
  exact h1
 ·obtain⟨cur,hc⟩:=pq h1.own hb
  exact(Array.getElem?_eq_some_iff.1 hc).1
end
end Go.Proofs.YtenaepdmlknlcaaGreatDoor
