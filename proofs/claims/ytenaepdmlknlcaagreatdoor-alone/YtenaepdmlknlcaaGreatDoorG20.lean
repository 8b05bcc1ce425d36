import Derived.Test.YtenaepdmlknlcaaGreatDoorG16
import Derived.Test.YtenaepdmlknlcaaGreatDoorG17
import Derived.Test.YtenaepdmlknlcaaGreatDoorG18
open Go.Proofs.Tryz
set_option maxRecDepth 100000
set_option maxHeartbeats 8000000
namespace Go.Proofs.YtenaepdmlknlcaaGreatDoor
section
open Go.RowKit Go.Shelf
structure jM(w:World)(A o:Nat)(v:Value)(xs:List Value):Prop where
 c:w.cell? ⟨A,o+2,none⟩=some v
 f:w.frozen? ⟨A,o+2,none⟩=false
 own:w.ownsRow 0 9 1 v xs.length xs
 ne:v.ownBlock≠some A
 lt:xs.length<=8000000
theorem Dd(A o mo f:Nat)(b:Array Value)(an:ByteArray)(v:Value)(xs:List Value)(R:World->Prop)(w:World)(h1:w.cell? ⟨A,o+1,none⟩=some (.func (.func f) b #[]))(hE:Enters f)(hl:xs.length+1<=8000000)
  (hC:Calls prog f (b.push (.pointer (some ⟨A,mo,none⟩))) w λe w'=>e=.returned (.agg #[.bool false,.nilFunc,.string an])/\R w')
  (hR:∀w',R w'->(w'.cell? ⟨A,o+1,none⟩=some (.func (.func f) b #[])/\w'.frozen? ⟨A,o+1,none⟩=false)/\jM w' A o v xs):
  Calls prog 77 #[.pointer (some ⟨A,o,none⟩),.pointer (some ⟨A,mo,none⟩)] w λe w'=>e=.returned (.bool true)/\∃w1 v',R w1/\jM w' A o v' (xs++[.string an])/\(∀k,v'.ownBlock=some k->v.ownBlock=some k\/w1.heap.size<=k)/\w'.cell? ⟨A,o+1,none⟩=some .nilFunc/\w'.frozen? ⟨A,o+1,none⟩=false/\Fr (λc j=>(c=A/\(j=o+1\/j=o+2))\/v.ownBlock=some c) w1 w':=by
 have HC:Hid _:=hC
 clear hC
 have heq:=mY (.func f) b #[]
 have heq':=mZ
 have UK:=hE (b.push (.pointer (some ⟨A,mo,none⟩))) w
 have HL:=af hl
 obtain⟨i9,eH,hz0,hz1,hz2⟩:=info_parts y6
 have HI:Hid (prog.info? 9=some i9/\i9.zero=some (.string ⟨#[]⟩)/\i9.size=1/\i9.bytes=16):=⟨eH,hz0,hz1,hz2⟩
 clear hE hl eH hz0 hz1 hz2
 go_enter func77,ntmps77
 go_wp2_with (refine aq HC.out ?_;rintro e w1 ⟨rfl,hR1⟩;dsimp only;obtain⟨⟨q1,q2⟩,⟨q3,q4,q5,q6,q7⟩⟩:=hR w1 hR1;have HO:Hid _:=q5;have HN:=af q6;have Uj:Hid ((w1.setCell ⟨A,o+1,none⟩ .nilFunc).ownsRow 0 9 1 v xs.length xs):=bD (jQ A w1 (o+1) _) q5 (λk i hk e=>q6 (hk.trans (congrArg some e)));have mH:A<w1.heap.size:=dz w1 _ q1;clear q5 q6 q7)
 go_region_law (refine jm rfl (.tmp 38) (.tmp 41) 79 rfl 9 i9 (.string ⟨#[]⟩) 1 16 underlying79 HI.out.1 HI.out.2.1 HI.out.2.2.1 HI.out.2.2.2 rfl (by decide) v xs.length xs rfl ((Uj.out.alloc _).alloc _) ⟨w1.heap.size+1,0,none⟩ 1 1 [.string an] rfl rfl (λj u hj=>by
    rw[addr_add]
    match j,hj with
    |0,hj=>simp at hj;subst hj;simp[go_sem]
    |j+1,hj=>simp at hj) (λu hu=>by simp at hu;subst hu;rfl) (by have:=HL.out;unfold maxLen;omega) (by have:=HL.out;omega) ?_;intro v3 w3 bp hfr3 ij;obtain⟨g3,c3,rfl,_,_⟩:=dc bp;have kj:Hid _:=bp;have KS:Hid _:=hfr3;have Q9:w3.cell? ⟨A,o+2,none⟩=some v:=((ij.cell A (o+2) (by simp;omega) (λe=>HN.out e)).trans (by simp[go_sem,mH,q3]));have f3':w3.frozen? ⟨A,o+2,none⟩=false:=((ij.frozen A (o+2) (by simp;omega) (λe=>HN.out e)).trans (by simp[go_sem,mH,q4]));have Yg:w3.cell? ⟨A,o+1,none⟩=some .nilFunc:=((ij.cell A (o+1) (by simp;omega) (λe=>HN.out e)).trans (by simp[go_sem,mH,q1]));have TL:w3.frozen? ⟨A,o+1,none⟩=false:=((ij.frozen A (o+1) (by simp;omega) (λe=>HN.out e)).trans (by simp[go_sem,mH,q2]));clear bp hfr3)
 all_goals
  have hfr:∀k,(some g3:Option Nat)=some k->v.ownBlock=some k\/w1.heap.size+1+1<=k:=λk hk=>by
   have:=KS.out k hk
   simpa using this
  have DV:g3≠A:=λe=>(hfr A (by rw[e])).elim HN.out (λh=>by omega)
  go_wp2
  go_ret
  refine⟨rfl,w1,_,hR1,⟨cell_eq Q9 _,by rw[World.frozen?_setCell];exact f3',?_,λe=>DV (Option.some.inj e),by rw[List.length_append];exact HL.out⟩,λk hk=>(hfr k hk).imp _root_.id (λh=>by omega),?_,?_,?_⟩
  ·rw[List.length_append]
   exact bD (jQ A w3 (o+2) _) kj.out (λc _ hc e=>by have h1:g3=c:=Option.some.inj hc;have h2:c=A:=e;exact DV (h1.trans h2))
  ·exact(aK _ _ (.inr (by omega))).trans Yg
  ·rw[World.frozen?_setCell];exact TL
  ·exact((((((Fr.refl _ w1).setCell (b:=A) (i:=o+1) (.inl (.inl ⟨rfl,.inl rfl⟩)) _).alloc _).alloc _).drew).trans (ij.mono λc i e=> .inr e)).setCell (b:=A) (i:=o+2) (.inl (.inl ⟨rfl,.inr rfl⟩)) _
end
end Go.Proofs.YtenaepdmlknlcaaGreatDoor
