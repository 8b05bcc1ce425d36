import Derived.Test.YtenaepdmlknlcaaGreatDoorG03
open Go.Proofs.Tryz
set_option maxRecDepth 100000
set_option maxHeartbeats 8000000
namespace Go.Proofs.YtenaepdmlknlcaaGreatDoor
section
open Go.RowKit
theorem Pz(s:Sp)(v d lo:Int)(hs:s.bd)(h1: -1000<=v)(h2:v<=1000)(h3: -1000<=d)(h4:d<=1000)(h5: -1000<=lo)(h6:lo<=1000):(dH s v d lo).bd:=by
 obtain⟨b1,b2,b3,b4,b5,b6,b7,b8⟩:=hs
 simp only[dH]
 split
 ·simp[Sp.bd]
 ·split
  ·simp only[Sp.bd];omega
  ·split
   ·simp only[Sp.bd];omega
   ·exact⟨b1,b2,b3,b4,b5,b6,b7,b8⟩
theorem Ar(a b c d v dd lo:Int)(w:World)(b1: -2000<=a)(b2:a<=2000)(b3:1<=b)(b4:b<=2000)(b5: -2000<=c)(b6:c<=2000)(b7:1<=d)(b8:d<=2000)(h1: -1000<=v)(h2:v<=1000)(h3: -1000<=dd)(h4:dd<=1000)(h5: -1000<=lo)(h6:lo<=1000):
  Calls prog 186 #[.agg #[.int .i64 a,.int .i64 b,.int .i64 c,.int .i64 d],.int .i64 v,.int .i64 dd,.int .i64 lo] w λe w'=>∃a' b' c' d':Int,e=.returned (.agg #[.int .i64 a',.int .i64 b',.int .i64 c',.int .i64 d'])/\Hid (dH ⟨a,b,c,d⟩ v dd lo=⟨a',b',c',d'⟩)/\ -2000<=a'/\a'<=2000/\1<=b'/\b'<=2000/\ -2000<=c'/\c'<=2000/\1<=d'/\d'<=2000/\Below w.heap.size w w':=by
 have hs:(⟨a,b,c,d⟩:Sp).bd:=⟨b1,b2,b3,b4,b5,b6,b7,b8⟩
 refine(PA ⟨a,b,c,d⟩ v dd lo w hs h1 h2 h3 h4 h5 h6).mono ?_
 rintro e w' ⟨rfl,hb⟩
 obtain⟨k1,k2,k3,k4,k5,k6,k7,k8⟩:=Pz ⟨a,b,c,d⟩ v dd lo hs h1 h2 h3 h4 h5 h6
 exact⟨_,_,_,_,rfl,rfl,k1,k2,k3,k4,k5,k6,k7,k8,hb⟩
def pQ(ax ay bx aY x y p:Int):Sp:=
 dH (dH (dH (dH ⟨0,1,1,1⟩ ax (bx-ax) x) (-ax) (-(bx-ax)) (-(x+p))) ay (aY-ay) y) (-ay) (-(aY-ay)) (-(y+p))
def gO(ax ay bx aY x y p:Int):Bool:=decide ((pQ ax ay bx aY x y p).a*(pQ ax ay bx aY x y p).d<=(pQ ax ay bx aY x y p).c*(pQ ax ay bx aY x y p).b)
theorem B8(ax ay bx aY x y p:Int)(w:World)(h1:0<=ax)(h2:0<=ay)(h3:0<=bx)(h4:0<=aY)(h5:0<=x)(h6:0<=y)(h7:0<=p)(g1:ax<=300)(g2:ay<=300)(g3:bx<=300)(g4:aY<=300)(g5:x<=300)(g6:y<=300)(g7:p<=300):
  Calls prog 169 #[.agg #[.int .i64 ax,.int .i64 ay],.agg #[.int .i64 bx,.int .i64 aY],.int .i64 x,.int .i64 y,.int .i64 p] w λe w'=>e=.returned (.bool (gO ax ay bx aY x y p))/\Below w.heap.size w w':=by
 go_enter func169,ntmps169
 go_wp2_with fail
 refine(Ar 0 1 1 1 ax (bx-ax) x _ (by omega) (by omega) (by omega) (by omega) (by omega) (by omega) (by omega) (by omega) (by omega) (by omega) (by omega) (by omega) (by omega) (by omega)).mono ?_
 rintro e w1 ⟨a1,b1,c1,d1,rfl,H1,i1,i2,i3,i4,i5,i6,i7,i8,hb1⟩
 have QA1:Hid (Q2 w1 w.heap.size (.int .i64 ax) (.int .i64 ay)):=(((Q2.new w _ _ 29).alloc (by simp) _).alloc (by simp;omega) _).below hb1 (by simp;omega)
 have QS1:Hid (Q4 w1 (w.heap.size+1+1) (.int .i64 0) (.int .i64 1) (.int .i64 1) (.int .i64 1)):=by
  have h:=(Q4.new ((w.alloc (.cells #[.int .i64 ax,.int .i64 ay] 29)).alloc (.cells #[.int .i64 bx,.int .i64 aY] 29)) (.int .i64 0) (.int .i64 1) (.int .i64 1) (.int .i64 1) 306).below hb1 (by simp)
  simp only[World.size_alloc]at h
  exact h
 have eO:Hid (Below w.heap.size w w1):=((aU.alloc (by simp) _).alloc (by simp;omega) _).trans (hb1.mono (by simp;omega))
 have hz1:w.heap.size+1+1<w1.heap.size:=by have:=hb1.size;simp at this;omega
 clear hb1
 obtain⟨x0,x1,y0,y1⟩:=QA1.out
 obtain⟨z0,z1,z2,z3,f0,f1,f2,f3⟩:=QS1.out
 go_wp2_with fail
 clear x0 x1 y0 y1 z0 z1 z2 z3 f0 f1 f2 f3
 refine(Ar a1 b1 c1 d1 (-ax) (-(bx-ax)) (-(x+p)) _ (by omega) (by omega) (by omega) (by omega) (by omega) (by omega) (by omega) (by omega) (by omega) (by omega) (by omega) (by omega) (by omega) (by omega)).mono ?_
 rintro e w2 ⟨a2,b2,c2,d2,rfl,H2,i1,i2,i3,i4,i5,i6,i7,i8,hb2⟩
 have hs2:=hb2.size
 have S5:=(bN w.heap.size w1 (w.heap.size+1+1) (by omega) (.int .i64 a1) (.int .i64 b1) (.int .i64 c1) (.int .i64 d1)).size
 have QA2:Hid (Q2 w2 w.heap.size (.int .i64 ax) (.int .i64 ay)):=(QA1.out.below (bN (w.heap.size+1+1) w1 (w.heap.size+1+1) aM _ _ _ _) (by omega)).below hb2 (by omega)
 have QS2:Hid (Q4 w2 (w.heap.size+1+1) (.int .i64 a1) (.int .i64 b1) (.int .i64 c1) (.int .i64 d1)):=(QS1.out.set _ _ _ _).below hb2 (by omega)
 have dm:Hid (Below w.heap.size w w2):=(eO.out.trans (bN w.heap.size w1 (w.heap.size+1+1) (by omega) _ _ _ _)).trans (hb2.mono (by omega))
 have hz2:w.heap.size+1+1<w2.heap.size:=by omega
 clear hb2
 obtain⟨x0,x1,y0,y1⟩:=QA2.out
 obtain⟨z0,z1,z2,z3,f0,f1,f2,f3⟩:=QS2.out
 go_wp2_with fail
 clear x0 x1 y0 y1 z0 z1 z2 z3 f0 f1 f2 f3 hs2 S5
 refine(Ar a2 b2 c2 d2 ay (aY-ay) y _ (by omega) (by omega) (by omega) (by omega) (by omega) (by omega) (by omega) (by omega) (by omega) (by omega) (by omega) (by omega) (by omega) (by omega)).mono ?_
 rintro e w3 ⟨a3,b3,c3,d3,rfl,H3,i1,i2,i3,i4,i5,i6,i7,i8,hb3⟩
 have hs3:=hb3.size
 have S6:=(bN w.heap.size w2 (w.heap.size+1+1) (by omega) (.int .i64 a2) (.int .i64 b2) (.int .i64 c2) (.int .i64 d2)).size
 have QA3:Hid (Q2 w3 w.heap.size (.int .i64 ax) (.int .i64 ay)):=(QA2.out.below (bN (w.heap.size+1+1) w2 (w.heap.size+1+1) aM _ _ _ _) (by omega)).below hb3 (by omega)
 have QS3:Hid (Q4 w3 (w.heap.size+1+1) (.int .i64 a2) (.int .i64 b2) (.int .i64 c2) (.int .i64 d2)):=(QS2.out.set _ _ _ _).below hb3 (by omega)
 have g_:Hid (Below w.heap.size w w3):=(dm.out.trans (bN w.heap.size w2 (w.heap.size+1+1) (by omega) _ _ _ _)).trans (hb3.mono (by omega))
 have hz3:w.heap.size+1+1<w3.heap.size:=by omega
 clear hb3
 obtain⟨x0,x1,y0,y1⟩:=QA3.out
 obtain⟨z0,z1,z2,z3,f0,f1,f2,f3⟩:=QS3.out
 go_wp2_with fail
 clear x0 x1 y0 y1 z0 z1 z2 z3 f0 f1 f2 f3 hs3 S6
 refine(Ar a3 b3 c3 d3 (-ay) (-(aY-ay)) (-(y+p)) _ (by omega) (by omega) (by omega) (by omega) (by omega) (by omega) (by omega) (by omega) (by omega) (by omega) (by omega) (by omega) (by omega) (by omega)).mono ?_
 rintro e w4 ⟨a4,b4,c4,d4,rfl,H4,i1,i2,i3,i4,i5,i6,i7,i8,hb4⟩
 have mJ:=hb4.size
 have T6:=(bN w.heap.size w3 (w.heap.size+1+1) (by omega) (.int .i64 a3) (.int .i64 b3) (.int .i64 c3) (.int .i64 d3)).size
 have QA4:Hid (Q2 w4 w.heap.size (.int .i64 ax) (.int .i64 ay)):=(QA3.out.below (bN (w.heap.size+1+1) w3 (w.heap.size+1+1) aM _ _ _ _) (by omega)).below hb4 (by omega)
 have QS4:Hid (Q4 w4 (w.heap.size+1+1) (.int .i64 a3) (.int .i64 b3) (.int .i64 c3) (.int .i64 d3)):=(QS3.out.set _ _ _ _).below hb4 (by omega)
 have nX:Hid (Below w.heap.size w w4):=(g_.out.trans (bN w.heap.size w3 (w.heap.size+1+1) (by omega) _ _ _ _)).trans (hb4.mono (by omega))
 have Ru:w.heap.size+1+1<w4.heap.size:=by omega
 clear hb4
 obtain⟨x0,x1,y0,y1⟩:=QA4.out
 obtain⟨z0,z1,z2,z3,f0,f1,f2,f3⟩:=QS4.out
 have m1:=gV (a:=a4) (b:=d4) (A:=2000) (B:=2000) (by omega) (by omega) (by omega) (by omega)
 have m2:=gV (a:=c4) (b:=b4) (A:=2000) (B:=2000) (by omega) (by omega) (by omega) (by omega)
 obtain⟨m1,n1⟩:=m1
 obtain⟨m2,n2⟩:=m2
 go_wp2
 go_ret
 have hS:pQ ax ay bx aY x y p=⟨a4,b4,c4,d4⟩:=by
  unfold pQ
  rw[H1.out,H2.out,H3.out,H4.out]
 exact⟨ah (by simp[gO,hS]),nX.out.trans (bN w.heap.size w4 (w.heap.size+1+1) (by omega) _ _ _ _)⟩
end
end Go.Proofs.YtenaepdmlknlcaaGreatDoor
