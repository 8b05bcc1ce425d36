import Derived.Test.YtenaepdmlknlcaaGreatDoorG04
open Go.Proofs.Tryz
set_option maxRecDepth 100000
set_option maxHeartbeats 8000000
namespace Go.Proofs.YtenaepdmlknlcaaGreatDoor
section
open Go.RowKit
abbrev Qh(x:Bx)(id kd ht col:Int)(v:Value):Obj:=.cells #[.int .i64 x.l,.int .i64 x.t,.int .i64 x.r,.int .i64 x.b,.slice none 0 0,.int .i64 id,.int .i64 kd,.int .i64 ht,.int .i64 col,v] 145
theorem CU(w:World)(f:aW)(ok:Nat->Prop)(pb po cap:Nat)(hok:ok pb)(hw:ok w.heap.size)(hp:cZ w.heap.size w pb po f.ps)(hcap:f.ps.length<=cap):
  iy ok (w.alloc (Qh (aD f.ps) f.id f.kd f.ht f.col (.slice (some ⟨pb,po,none⟩) f.ps.length cap))) w.heap.size ⟨f,pb,po,cap⟩:=by
 refine⟨hw,⟨?_,?_,?_,?_⟩,?_,?_,?_,?_,?_,?_,hok,hcap,(hp.below aU).2⟩<;>simp[go_sem]
def iM(ok:Nat->Prop)(n m:Nat)(b:Nat):Prop:=ok b\/(n<=b/\b<m)
theorem nL{ok:Nat->Prop}(w:World)(R o:Nat)(v:Value)(h:¬ok R):Same ok w (w.setCell ⟨R,o,none⟩ v):=λb o' u hb e=>
 (World.cell?_setCell_far w ⟨R,o,none⟩ ⟨b,o',none⟩ v (λe=>h (by rw[show R=b from e];exact hb))).trans e
theorem Ll(ok:Nat->Prop)(f:aW)(bl off n cap:Nat)(w:World)(hok:∀b,ok b->b<w.heap.size)(CD:ok bl)(hp:cZ w.heap.size w bl off f.ps)(hn:n=f.ps.length)(hn1:1<=n)(hn2:n<=6)(hcap:n<=cap):
  Calls prog 31 #[.agg #[.pointer none],.agg #[.int .i64 f.id,.int .i64 f.kd,.int .i64 f.ht,.int .i64 f.col,.slice (some ⟨bl,off,none⟩) n cap]] w λe w'=>∃q x,e=.returned (.agg #[.pointer (some ⟨q,0,none⟩)])/\iw (iM ok w.heap.size w'.heap.size) w' 1 q [⟨f,bl,off,cap⟩] x/\Below w.heap.size w w':=by
 have Hp:=af hp
 have Hn:=af hn
 have hbl:=hp.1
 have Ia:=af hok
 have RP:=af CD
 clear hp hn hok CD
 obtain⟨id,kd,ht,col,ps⟩:=f
 dsimp only at Hp Hn⊢
 have hB:∀o1 o2 o3:Obj,Below w.heap.size w (((w.alloc o1).alloc o2).alloc o3):=λo1 o2 o3=>(aU.alloc (by simp) _).alloc (by simp;omega) _
 go_enter func31,ntmps31
 go_upto_region 1 with fail
 go_cut [5] (λv wc=>∃q,v=.pointer (some ⟨q,0,none⟩)/\q<wc.heap.size/\iy (iM ok (w.heap.size+3) wc.heap.size) wc q ⟨⟨id,kd,ht,col,ps⟩,bl,off,cap⟩/\wc.cell? ⟨w.heap.size,0,none⟩=some (.pointer none)/\wc.cell? ⟨w.heap.size+1+1,0,none⟩=some (.pointer none)/\wc.frozen? ⟨w.heap.size+1+1,0,none⟩=false/\Below w.heap.size w wc/\w.heap.size+3<=wc.heap.size)
 case first=>
  go_region_held3 (λw'=>w'.cell? ⟨w.heap.size+1,0,none⟩=some (.int .i64 id)/\w'.cell? ⟨w.heap.size+1,1,none⟩=some (.int .i64 kd)/\w'.cell? ⟨w.heap.size+1,2,none⟩=some (.int .i64 ht)/\w'.cell? ⟨w.heap.size+1,3,none⟩=some (.int .i64 col)/\w'.cell? ⟨w.heap.size+1,4,none⟩=some (.slice (some ⟨bl,off,none⟩) n cap)) (first|(simp[go_sem, *];done)|exact s2)
   (first
   |(go_at_call 53;refine(nU bl off n cap ps _ ((Hp.out.below (hB _ _ _).drew).mono (by simp;omega)) Hn.out hn1 (by omega) hcap).mono ?_;rintro e w2 ⟨rfl,hb2⟩;obtain⟨hc2,hf2⟩:=eF hb2;have s2:=And.intro ((hc2 (w.heap.size+1) 0 (by simp<;>omega)).trans (show _=some (Value.int .i64 id) from(by simp[go_sem]))) (And.intro ((hc2 (w.heap.size+1) 1 (by simp<;>omega)).trans (show _=some (Value.int .i64 kd) from(by simp[go_sem]))) (And.intro ((hc2 (w.heap.size+1) 2 (by simp<;>omega)).trans (show _=some (Value.int .i64 ht) from(by simp[go_sem]))) (And.intro ((hc2 (w.heap.size+1) 3 (by simp<;>omega)).trans (show _=some (Value.int .i64 col) from(by simp[go_sem]))) ((hc2 (w.heap.size+1) 4 (by simp<;>omega)).trans (show _=some (Value.slice (some ⟨bl,off,none⟩) n cap) from(by simp[go_sem]))))));have r0:w2.cell? ⟨w.heap.size,0,none⟩=some (Value.pointer none):=(hc2 w.heap.size 0 (by simp<;>omega)).trans (by simp[go_sem]);have r1:w2.cell? ⟨w.heap.size+1+1,0,none⟩=some (Value.pointer none):=(hc2 (w.heap.size+1+1) 0 (by simp<;>omega)).trans (by simp[go_sem]);have r2:w2.frozen? ⟨w.heap.size+1+1,0,none⟩=false:=(hf2 (w.heap.size+1+1) 0 (by simp<;>omega)).trans (by simp[go_sem]);have hz2:w.heap.size+3<=w2.heap.size:=(by have:=hb2.size;simp at this;omega);have hz3:w.heap.size+1<w2.heap.size:=(by omega);have hB2:Below w.heap.size w w2:=(hB _ _ _).drew.trans (hb2.mono (by simp<;>omega));clear hc2 hf2 hb2))
  all_goals
   go_wp2_with fail
   go_meet
   have hA:∀o:Obj,Below w2.heap.size w2 (w2.alloc o):=λo=>bK.alloc aM o
   refine⟨w2.heap.size,rfl,by simp,?_,((hA _).cell (p:=⟨w.heap.size,0,none⟩) (show w.heap.size<w2.heap.size by omega)).trans r0,((hA _).cell (p:=⟨w.heap.size+1+1,0,none⟩) (show w.heap.size+1+1<w2.heap.size by omega)).trans r1,((hA _).frozen (p:=⟨w.heap.size+1+1,0,none⟩) (show w.heap.size+1+1<w2.heap.size by omega)).trans r2,hB2.alloc (by omega) _,by simp;omega⟩
   have h:=CU w2 ⟨id,kd,ht,col,ps⟩ (iM ok (w.heap.size+3) (w2.heap.size+1)) bl off cap (.inl RP.out) (.inr ⟨by omega,by omega⟩) ((Hp.out.below hB2).mono (by omega)) (by rw[<-Hn.out];exact hcap)
   rw[World.size_alloc,Hn.out]
   exact h
 case rest=>
  obtain⟨q,rfl,hq,CB,r0,r1,r2,hB1,hz1⟩:=hcut
  have BD:=af CB
  clear CB
  have hA:∀o:Obj,Below wc.heap.size wc (wc.alloc o):=λo=>bK.alloc aM o
  have XZ:Hid (C4 wc q (aD ps)):=BD.out.box
  have Vn:∀o:Obj,o=.cells #[.pointer (some ⟨q,0,none⟩)] 87->ew (wc.alloc o).heap.size (wc.alloc o) wc.heap.size 0 [(q,aD ps)]:=by
   rintro o rfl
   refine⟨by simp,λi p y e=>?_⟩
   match i,e with
   |0,e=>
    simp at e
    obtain⟨rfl,rfl⟩:=e
    exact⟨by simp[go_sem],by simp;omega,XZ.out.below (hA _) hq⟩
   |i+1,e=>simp at e
  have Ru:w.heap.size+1+1<wc.heap.size:=by omega
  go_wp2_with (go_at_call 54;refine(nI wc.heap.size 0 1 1 [(q,aD ps)] _ (Vn _ rfl) rfl (by omega) (by omega) (by omega)).mono ?_;rintro e w3 ⟨p,rfl,hp1,jy,WY,Zm,hb3⟩;have t1:w3.cell? ⟨w.heap.size+1+1,0,none⟩=some (.pointer none):=(hb3.cell (p:=⟨w.heap.size+1+1,0,none⟩) (by simp;omega)).trans (((hA _).cell (p:=⟨w.heap.size+1+1,0,none⟩) Ru).trans r1);have t2:w3.frozen? ⟨w.heap.size+1+1,0,none⟩=false:=(hb3.frozen (p:=⟨w.heap.size+1+1,0,none⟩) (by simp;omega)).trans (((hA _).frozen (p:=⟨w.heap.size+1+1,0,none⟩) Ru).trans r2))
  have hS:Below w.heap.size w3 (w3.setCell ⟨w.heap.size+1+1,0,none⟩ (.pointer (some ⟨p,0,none⟩))):=bK.setCell (p:=⟨w.heap.size+1+1,0,none⟩) (show w.heap.size<=w.heap.size+1+1 by omega) _
  refine bodyPost_ret (v:=.agg #[.pointer (some ⟨p,0,none⟩)]) (by simp[results,results31,go_sem,t1]) rfl ⟨p,bZ [(q,aD ps)],rfl,?_,(hB1.trans ((hA _).mono (by omega))).trans ((hb3.mono (by simp;omega)).trans hS)⟩
  have yZ:mR (iM ok (w.heap.size+3) w3.heap.size) w3 wc.heap.size 0 [(q,aD ps)]:=by
   have h1:=(Vn _ rfl).below hb3
   have hsz:=hb3.size
   simp at hsz
   refine⟨.inr ⟨by omega,by omega⟩,λi p' y e=>?_⟩
   have h2:=h1.2 i p' y e
   refine⟨h2.1,?_,h2.2.2⟩
   match i,e with
   |0,e=>
    simp at e
    obtain⟨rfl,rfl⟩:=e
    exact BD.out.lt.elim .inl λh=> .inr ⟨h.1,by omega⟩
   |i+1,e=>simp at e
  have hsz:=hb3.size
  simp at hsz
  have hl3:iy (iM ok (w.heap.size+3) w3.heap.size) w3 q ⟨⟨id,kd,ht,col,ps⟩,bl,off,cap⟩:=(BD.out.same (Same.of_below (((hA _).mono aM).trans (hb3.mono (by simp))) (λb hb=>hb.elim (λh=>Nat.lt_of_lt_of_le (Ia.out b h) (by omega)) (λh=>h.2)))).mono (λb hb=>hb.elim .inl λh=> .inr ⟨h.1,by omega⟩)
  have hT:iw (iM ok (w.heap.size+3) w3.heap.size) w3 1 p [⟨⟨id,kd,ht,col,ps⟩,bl,off,cap⟩] (bZ [(q,aD ps)]):=
   ⟨.inr ⟨by simp at hp1;omega,jy⟩,WY,wc.heap.size,0,1,[(q,aD ps)],[[⟨⟨id,kd,ht,col,ps⟩,bl,off,cap⟩]],Zm,by simp,by simp,by simp,yZ,rfl,λi p' y t e e'=>(by
    match i,e,e' with
    |0,e,e'=>
     simp at e e'
     obtain⟨rfl,rfl⟩:=e
     exact⟨_,e'.symm,rfl,hl3⟩
    |i+1,e,_=>simp at e),rfl,rfl⟩
  exact(hT.same (nL w3 (w.heap.size+1+1) 0 _ (λh=>h.elim (λh=>by have:=Ia.out _ h;omega) (λh=>by omega)))).mono (λb hb=>hb.elim .inl λh=> .inr ⟨by omega,Nat.lt_of_lt_of_le h.2 (by simp)⟩)
end
end Go.Proofs.YtenaepdmlknlcaaGreatDoor
