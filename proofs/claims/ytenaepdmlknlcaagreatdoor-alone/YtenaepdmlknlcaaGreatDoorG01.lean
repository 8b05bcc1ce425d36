import Derived.Test.YtenaepdmlknlcaaGreatDoorProg
import Derived.WalkKit
import Derived.WalkSpells
import Derived.WalkLawsBesides
import Derived.Deep.QuietTactic
import Derived.BigQuiet
import Derived.Deep.RegionWith
import Derived.Deep.DeepFit
import Derived.Conc.LoneCalls
import Derived.Shelf.Strings.OnBuilder
import Derived.Shelf.Strconv.Itoa3
import Derived.Shelf.Strings.Repeat
import Derived.Shelf.Strconv.AtoiAll
import Derived.Shelf.Strings.Cut
import Derived.Shelf.Strings.Split
import Derived.Shelf.LaysM
import Derived.Deep.DeepCutAuto
import Derived.Deep.RegionHeld3
import Derived.Lib.AppendZeros
import Derived.RangeFuncBox
import Derived.Laws.OwnMore
import Derived.RangeFuncNested
import Derived.RangeFuncBound
import Derived.RangeFuncCalls
import Derived.RangeFuncLeaves
import Derived.Shelf.Abstract
import Derived.Shelf.RegionOpen
import Derived.OwnWalkIn
import Derived.TacticsInMore
import Derived.LoopNIn
import Derived.LoopIn
import Derived.Deep.RegionLaw
import Derived.Laws.AppendOwn
import Derived.Lib.SplitLaws
import Derived.Lib.SliceRun
import Derived.ArgAppend
import Derived.Deep.Cut
import Derived.OpenShut
import Derived.Laws.FloatArith
import Derived.Laws.EntriesVeiled
import Derived.Conc.LoneSelectN
import Derived.Conc.LoneSelect
import Derived.Conc.SmallLaws
import Derived.Stop.RegionWithIn
import Derived.Lib.AtoiAllCases
namespace Go.Proofs
open Go.RowKit
theorem af{p:Prop}(h:p):Hid p:=h
theorem aM{n:Nat}:n<=n:=Nat.le_refl _
theorem bK{b:Nat}{w:World}:Below b w w:=Below.refl _ _
theorem aU{w:World}{o:Obj}:Below w.heap.size w (w.alloc o):=(Below.refl _ _).alloc (Nat.le_refl _) _
theorem aq{P:Program}{f:FuncId}{a:Array Value}{w:World}{R R':Ending->World->Prop}(h:Calls P f a w R)(k:∀e w',R e w'->R' e w'):Calls P f a w R':=h.mono k
theorem dz(w:World)(a:Addr){u:Value}(h:w.cell? a=some u):a.block<w.heap.size:=World.block_lt_of_cell? w a h
end Go.Proofs
open Go.Proofs.Tryz
set_option maxRecDepth 100000
set_option maxHeartbeats 8000000
namespace Go.Proofs.YtenaepdmlknlcaaGreatDoor
section
open Go.RowKit
theorem kB{k:IntKind}{a b:Int}(h:a=b):Ending.returned (.int k a)=.returned (.int k b):=by rw[h]
theorem ah{a b:Bool}(h:a=b):Ending.returned (.bool a)=.returned (.bool b):=by rw[h]
def fP(n l m:Int):Bool:=decide (l<=n/\n<=m)
theorem cK(n l m:Int)(w:World):
  Calls prog 82 #[.int .i64 n,.int .i64 l,.int .i64 m] w λe w'=>e=.returned (.bool (fP n l m))/\w'=w:=by
 by_cases h1:l<=n
 ·by_cases h2:n<=m
  ·go_enter func82,ntmps82
   go_wp2
   go_ret
   exact⟨ah (by simp[fP];omega),rfl⟩
  ·go_enter func82,ntmps82
   go_wp2
   go_ret
   exact⟨ah (by simp[fP];omega),rfl⟩
 ·go_enter func82,ntmps82
  go_wp2
  go_ret
  exact⟨ah (by simp[fP];omega),rfl⟩
abbrev bx(l t r b:Int):Value:=.agg #[.int .i64 l,.int .i64 t,.int .i64 r,.int .i64 b]
theorem yK(x y:Int)(w:World):
  Calls prog 85 #[.agg #[.int .i64 x,.int .i64 y]] w λe w'=>e=.returned (.agg #[.int .i64 x,.int .i64 y,.int .i64 x,.int .i64 y])/\Below w.heap.size w w':=by
 go_enter func85,ntmps85
 go_wp2
 exact bodyPost_ret (v:=.agg #[.int .i64 x,.int .i64 y,.int .i64 x,.int .i64 y]) (by simp[results,results85,go_sem]) rfl ⟨rfl,aU.alloc (by simp) _⟩
def ug(a b:Int):Int:=min a b
def uh(a b:Int):Int:=max a b
theorem vC(l t r b l' t' r' b':Int)(w:World):
  Calls prog 86 #[.agg #[.int .i64 l,.int .i64 t,.int .i64 r,.int .i64 b],.agg #[.int .i64 l',.int .i64 t',.int .i64 r',.int .i64 b']] w λe w'=>e=.returned (.agg #[.int .i64 (ug l l'),.int .i64 (ug t t'),.int .i64 (uh r r'),.int .i64 (uh b b')])/\Below w.heap.size w w':=by
 go_enter func86,ntmps86
 go_wp2
 all_goals exact bodyPost_ret (v:=.agg #[.int .i64 (ug l l'),.int .i64 (ug t t'),.int .i64 (uh r r'),.int .i64 (uh b b')]) (by simp[results,results86,go_sem,ug,uh]<;>omega) rfl ⟨rfl,(aU.alloc (by simp) _).alloc (by simp;omega) _⟩
def cQ(l t r b l' t' r' b':Int):Bool:=decide (l<=r'/\l'<=r/\t<=b'/\t'<=b)
theorem nY(l t r b l' t' r' b':Int)(w:World):
  Calls prog 158 #[.agg #[.int .i64 l,.int .i64 t,.int .i64 r,.int .i64 b],.agg #[.int .i64 l',.int .i64 t',.int .i64 r',.int .i64 b']] w λe w'=>e=.returned (.bool (cQ l t r b l' t' r' b'))/\Below w.heap.size w w':=by
 have hB:∀o1 o2:Obj,Below w.heap.size w ((w.alloc o1).alloc o2):=λo1 o2=>aU.alloc (by simp) _
 by_cases h1:l<=r'
 ·by_cases h2:l'<=r
  ·by_cases h3:t<=b'
   ·by_cases h4:t'<=b
    ·go_enter func158,ntmps158
     go_wp2
     go_ret
     exact⟨ah (by simp[cQ];omega),hB _ _⟩
    ·go_enter func158,ntmps158
     go_wp2
     go_ret
     exact⟨ah (by simp[cQ];omega),hB _ _⟩
   ·go_enter func158,ntmps158
    go_wp2
    go_ret
    exact⟨ah (by simp[cQ];omega),hB _ _⟩
  ·go_enter func158,ntmps158
   go_wp2
   go_ret
   exact⟨ah (by simp[cQ];omega),hB _ _⟩
 ·go_enter func158,ntmps158
  go_wp2
  go_ret
  exact⟨ah (by simp[cQ];omega),hB _ _⟩
def fS(k n:Int):Bool:=decide ((k=1/\n=1)\/(k=2/\2<=n/\n<=6)\/(k=3/\3<=n/\n<=6))
theorem tE(k n:Int)(w:World):
  Calls prog 83 #[.int .i64 k,.int .i64 n] w λe w'=>e=.returned (.bool (fS k n))/\w'=w:=by
 by_cases h1:k=1
 ·subst h1
  go_enter func83,ntmps83
  go_wp2_with (first|(go_at_call 82;refine(cK _ _ _ _).mono ?_;rintro e w' ⟨rfl,rfl⟩))
  go_ret
  exact⟨ah (by rw[Bool.eq_iff_iff];simp[fS]),rfl⟩
 ·by_cases h2:k=2
  ·subst h2
   go_enter func83,ntmps83
   go_wp2_with (first|(go_at_call 82;refine(cK _ _ _ _).mono ?_;rintro e w' ⟨rfl,rfl⟩))
   go_ret
   exact⟨ah (by rw[Bool.eq_iff_iff];simp[fS,fP]),rfl⟩
  ·by_cases h3:k=3
   ·subst h3
    go_enter func83,ntmps83
    go_wp2_with (first|(go_at_call 82;refine(cK _ _ _ _).mono ?_;rintro e w' ⟨rfl,rfl⟩))
    go_ret
    exact⟨ah (by rw[Bool.eq_iff_iff];simp[fS,fP]),rfl⟩
   ·have g1:(k==1)=false:=by simp[h1]
    have g2:(k==2)=false:=by simp[h2]
    have g3:(k==3)=false:=by simp[h3]
    go_enter func83,ntmps83
    go_wp2_with (first|(go_at_call 82;refine(cK _ _ _ _).mono ?_;rintro e w' ⟨rfl,rfl⟩))
    go_ret
    exact⟨ah (by rw[Bool.eq_iff_iff];simp[fS,h1,h2,h3]),rfl⟩
theorem Fm(l t r b:Int)(w:World)(h1:0<=l)(h2:0<=t)(h3:0<=r)(h4:0<=b)(g1:l<=1000)(g2:t<=1000)(g3:r<=1000)(g4:b<=1000):
  Calls prog 130 #[.agg #[.int .i64 l,.int .i64 t,.int .i64 r,.int .i64 b]] w λe w'=>e=.returned (.agg #[.int .i64 ((l+r)/2),.int .i64 ((t+b)/2)])/\Below w.heap.size w w':=by
 go_enter func130,ntmps130
 go_wp2
 exact bodyPost_ret (v:=.agg #[.int .i64 ((l+r)/2),.int .i64 ((t+b)/2)]) (by simp[results,results130,go_sem]) rfl ⟨rfl,aU.alloc (by simp) _⟩
def Oj(ax ay bx aY cx cy:Int):Int:=(bx-ax)*(cy-ay)-(aY-ay)*(cx-ax)
theorem gV{a b A B:Int}(ha: -A<=a)(ha':a<=A)(hb: -B<=b)(hb':b<=B): -(A*B)<=a*b/\a*b<=A*B:=by
 have hA:0<=A:=by omega
 have hB:0<=B:=by omega
 have h:(a*b).natAbs<=(A*B).natAbs:=by
  rw[Int.natAbs_mul,Int.natAbs_mul]
  exact Nat.mul_le_mul (by omega) (by omega)
 have h2:0<=A*B:=Int.mul_nonneg hA hB
 omega
theorem F0(ax ay bx aY cx cy:Int)(w:World)(h1:0<=ax)(h2:0<=ay)(h3:0<=bx)(h4:0<=aY)(h5:0<=cx)(h6:0<=cy)(g1:ax<=1000)(g2:ay<=1000)(g3:bx<=1000)(g4:aY<=1000)(g5:cx<=1000)(g6:cy<=1000):
  Calls prog 183 #[.agg #[.int .i64 ax,.int .i64 ay],.agg #[.int .i64 bx,.int .i64 aY],.agg #[.int .i64 cx,.int .i64 cy]] w λe w'=>e=.returned (.int .i64 (Oj ax ay bx aY cx cy))/\Below w.heap.size w w':=by
 have p1:=gV (a:=bx-ax) (b:=cy-ay) (A:=1000) (B:=1000) (by omega) (by omega) (by omega) (by omega)
 have p2:=gV (a:=aY-ay) (b:=cx-ax) (A:=1000) (B:=1000) (by omega) (by omega) (by omega) (by omega)
 obtain⟨p1,p1'⟩:=p1
 obtain⟨p2,p2'⟩:=p2
 go_enter func183,ntmps183
 go_wp2
 go_ret
 exact⟨rfl,(aU.alloc (by simp) _).alloc (by simp;omega) _⟩
theorem B5(l t r b:Int)(w:World):
  Calls prog 182 #[.agg #[.int .i64 l,.int .i64 t,.int .i64 r,.int .i64 b]] w λe w'=>e=.returned (.agg #[.int .i64 l,.int .i64 t,.int .i64 r,.int .i64 t,.int .i64 r,.int .i64 b,.int .i64 l,.int .i64 b])/\Below w.heap.size w w':=by
 go_enter func182,ntmps182
 go_wp2
 exact bodyPost_ret (v:=.agg #[.int .i64 l,.int .i64 t,.int .i64 r,.int .i64 t,.int .i64 r,.int .i64 b,.int .i64 l,.int .i64 b]) (by simp[results,results182,go_sem]) rfl ⟨rfl,aU.alloc (by simp) _⟩
def fT(x y l t r b:Int):Bool:=decide (l<=x/\x<r/\t<=y/\y<b)
theorem uk(x y l t r b:Int)(w:World):
  Calls prog 127 #[.agg #[.int .i64 x,.int .i64 y],.agg #[.int .i64 l,.int .i64 t,.int .i64 r,.int .i64 b]] w λe w'=>e=.returned (.bool (fT x y l t r b))/\Below w.heap.size w w':=by
 have hB:∀o1 o2:Obj,Below w.heap.size w ((w.alloc o1).alloc o2):=λo1 o2=>aU.alloc (by simp) _
 by_cases h1:l<=x
 ·by_cases h2:x<r
  ·by_cases h3:t<=y
   ·by_cases h4:y<b
    ·go_enter func127,ntmps127
     go_wp2
     go_ret
     exact⟨ah (by simp[fT];omega),hB _ _⟩
    ·go_enter func127,ntmps127
     go_wp2
     go_ret
     exact⟨ah (by simp[fT];omega),hB _ _⟩
   ·go_enter func127,ntmps127
    go_wp2
    go_ret
    exact⟨ah (by simp[fT];omega),hB _ _⟩
  ·go_enter func127,ntmps127
   go_wp2
   go_ret
   exact⟨ah (by simp[fT];omega),hB _ _⟩
 ·go_enter func127,ntmps127
  go_wp2
  go_ret
  exact⟨ah (by simp[fT];omega),hB _ _⟩
abbrev dS:=List (Int×Int)
def cZ(n0:Nat)(w:World)(b off:Nat)(ps:dS):Prop:=
 b<n0/\∀k x y,ps[k]? =some (x,y)->w.cell? ⟨b,off+k*2,none⟩=some (.int .i64 x)/\w.cell? ⟨b,off+k*2+1,none⟩=some (.int .i64 y)
variable {n0 b off:Nat}
theorem cZ.below{A B:World}(h:Below n0 A B){ps:dS}(hp:cZ n0 A b off ps):cZ n0 B b off ps:=
 ⟨hp.1,λk x y e=>⟨(h.cell (p:=⟨b,off+k*2,none⟩) hp.1).trans (hp.2 k x y e).1,(h.cell (p:=⟨b,off+k*2+1,none⟩) hp.1).trans (hp.2 k x y e).2⟩⟩
variable {w:World} {k:Nat}
theorem cZ.at{ps:dS}(hp:cZ n0 w b off ps)(hk:k<ps.length):
  ∃x y,ps[k]? =some (x,y)/\w.cell? ⟨b,off+k*2,none⟩=some (.int .i64 x)/\w.cell? ⟨b,off+k*2+1,none⟩=some (.int .i64 y):=
 ⟨ps[k].1,ps[k].2,List.getElem?_eq_getElem hk,hp.2 k _ _ (List.getElem?_eq_getElem hk)⟩
def lI(p:Int×Int):Bool:=fP p.1 0 255&&fP p.2 0 255
theorem oY{ps:dS}{f:Int×Int->Bool}{p:Int×Int}(h:ps[k]? =some p)(ha:(ps.take k).all f=true)(hf:f p=true):(ps.take (k+1)).all f=true:=by
 rw[List.take_add_one,h]
 simp only[Option.toList,List.all_append,ha,List.all_cons,hf,List.all_nil];rfl
theorem all_false{ps:dS}{f:Int×Int->Bool}{p:Int×Int}(h:ps[k]? =some p)(hf:f p=false):ps.all f=false:=by
 rw[List.all_eq_false]
 exact⟨p,List.mem_of_getElem? h,by simp[hf]⟩
theorem CE(b off n cap:Nat)(ps:dS)(w:World)(hp:cZ w.heap.size w b off ps)(hn:n=ps.length)(hn2:n<=1000000000000000):
  Calls prog 84 #[.slice (some ⟨b,off,none⟩) n cap] w λe w'=>e=.returned (.bool (ps.all lI))/\Below w.heap.size w w':=by
 have Hn:=af hn
 clear hn
 go_enter func84,ntmps84
 go_wp2
 go_loopw [7] (λi wr=>∃k:Nat,k<=n/\i=.int .i64 k/\(ps.take k).all lI=true/\Below w.heap.size w wr) (λi _=>n-(intOf i).toNat)
 case atStart=>exact⟨0,Nat.zero_le _,rfl,by simp,bK⟩
 case round=>
  obtain⟨k,hk,rfl,hall,hb⟩:=hrel
  by_cases hlt:k<n
  ·obtain⟨x,y,hxy,hx,hy⟩:=(hp.below hb).at (k:=k) (by rw[<-Hn.out];exact hlt)
   have RY:=af hxy
   have ji:=af hall
   clear hxy hall hp
   have hsz:=hb.size
   by_cases gx:fP x 0 255=true
   ·by_cases gy:fP y 0 255=true
    ·have Hf:Hid (lI (x,y)=true):=by show lI (x,y)=true;simp[lI,gx,gy]
     go_wp2_with (go_at_call 82;refine(cK _ _ _ _).mono ?_;rintro e w' ⟨rfl,rfl⟩)
     go_roundw
     case rel=>exact⟨k+1,by omega,by go_num,oY RY.out ji.out Hf.out,hb.alloc hsz _⟩
     case measure=>simp[intOf];omega
    ·have gy':fP y 0 255=false:=by simpa using gy
     clear gy
     have Hf:Hid (lI (x,y)=false):=by show lI (x,y)=false;simp[lI,gy']
     go_wp2_with (go_at_call 82;refine(cK _ _ _ _).mono ?_;rintro e w' ⟨rfl,rfl⟩)
     go_ret
     exact⟨ah (all_false RY.out Hf.out).symm,hb.alloc hsz _⟩
   ·have gx':fP x 0 255=false:=by simpa using gx
    clear gx
    have Hf:Hid (lI (x,y)=false):=by show lI (x,y)=false;simp[lI,gx']
    go_wp2_with (go_at_call 82;refine(cK _ _ _ _).mono ?_;rintro e w' ⟨rfl,rfl⟩)
    go_ret
    exact⟨ah (all_false RY.out Hf.out).symm,hb.alloc hsz _⟩
  ·have ji:Hid (ps.all lI=true):=by
    show ps.all lI=true
    have e:k=ps.length:=by have:=Hn.out;omega
    rw[e,List.take_length]at hall;exact hall
   clear hall
   go_wp2
   go_ret
   exact⟨ah ji.out.symm,hb⟩
structure aW where
 id:Int
 kd:Int
 ht:Int
 col:Int
 ps:dS
def bV(n0:Nat)(w:World)(a:Option Addr)(ps:dS):Prop:=ps=[]\/∃b off,a=some ⟨b,off,none⟩/\cZ n0 w b off ps
theorem bV.below{A B:World}(h:Below n0 A B){a:Option Addr}{ps:dS}(hp:bV n0 A a ps):bV n0 B a ps:=
 hp.elim .inl λ⟨b,off,e,p⟩=> .inr ⟨b,off,e,p.below h⟩
variable {n1:Nat}
theorem cZ.mono(h:n0<=n1){ps:dS}(hp:cZ n0 w b off ps):cZ n1 w b off ps:=⟨Nat.lt_of_lt_of_le hp.1 h,hp.2⟩
theorem bV.mono(h:n0<=n1){a:Option Addr}{ps:dS}(hp:bV n0 w a ps):bV n1 w a ps:=
 hp.elim .inl λ⟨b,off,e,p⟩=> .inr ⟨b,off,e,p.mono h⟩
def aj(f:aW):Bool:=fP f.id 1 99&&fP f.ht (-9) 9&&fP f.col 1 9&&fS f.kd f.ps.length&&f.ps.all lI
theorem kR(n:Int)(w:World):Calls prog 81 #[.int .i64 n] w λe w'=>e=.returned (.bool (fP n 1 99))/\w'=w:=by
 go_enter func81,ntmps81
 go_wp2_with (go_at_call 82;refine(cK _ _ _ _).mono ?_;rintro e w' ⟨rfl,rfl⟩)
 go_ret
 exact⟨rfl,rfl⟩
theorem xZ(id kd ht col:Int)(a:Option Addr)(n cap:Nat)(ps:dS)(w:World)(hp:bV w.heap.size w a ps)(hn:n=ps.length)(hn2:n<=1000000000000000):
  Calls prog 52 #[.agg #[.int .i64 id,.int .i64 kd,.int .i64 ht,.int .i64 col,.slice a n cap]] w λe w'=>e=.returned (.bool (aj ⟨id,kd,ht,col,ps⟩))/\Below w.heap.size w w':=by
 have hB:∀o1:Obj,Below w.heap.size w (w.alloc o1):=λo1=>aU
 have Hn:=af hn
 clear hn
 by_cases h1:fP id 1 99=true
 ·by_cases h2:fP ht (-9) 9=true
  ·by_cases h3:fP col 1 9=true
   ·by_cases h4:fS kd n=true
    ·have Hv:Hid (aj ⟨id,kd,ht,col,ps⟩=ps.all lI):=by
      show aj ⟨id,kd,ht,col,ps⟩=ps.all lI
      simp only[aj,h1,h2,h3,<-Hn.out,h4,Bool.true_and]
     have hne:¬ps=[]:=by
      intro e
      have h0:=Hn.out
      rw[e]at h0
      simp[fS,h0]at h4
     obtain⟨b,off,rfl,hq⟩:=hp.resolve_left hne
     have hp1:∀o:Obj,cZ (w.alloc o).heap.size (w.alloc o) b off ps:=λo=>(hq.below (hB o)).mono (by simp)
     clear hne hp hq
     go_enter func52,ntmps52
     go_wp2_with (first
      |(go_at_call 82;refine(cK _ _ _ _).mono ?_;rintro e w' ⟨rfl,rfl⟩)
      |(go_at_call 81;refine(kR _ _).mono ?_;rintro e w' ⟨rfl,rfl⟩)
      |(go_at_call 83;refine(tE _ _ _).mono ?_;rintro e w' ⟨rfl,rfl⟩)
      |(go_at_call 84;refine(CE b off n cap ps _ (hp1 _) Hn.out hn2).mono ?_;rintro e w' ⟨rfl,hb'⟩))
     go_ret
     exact⟨ah Hv.out.symm,(hB _).trans (hb'.mono (by simp))⟩
    ·have h4':fS kd n=false:=by simpa using h4
     clear h4
     have Hv:Hid (aj ⟨id,kd,ht,col,ps⟩=false):=by
      show aj ⟨id,kd,ht,col,ps⟩=false
      simp only[aj,<-Hn.out,h4',Bool.and_false,Bool.false_and]
     go_enter func52,ntmps52
     go_wp2_with (first
      |(go_at_call 82;refine(cK _ _ _ _).mono ?_;rintro e w' ⟨rfl,rfl⟩)
      |(go_at_call 81;refine(kR _ _).mono ?_;rintro e w' ⟨rfl,rfl⟩)
      |(go_at_call 83;refine(tE _ _ _).mono ?_;rintro e w' ⟨rfl,rfl⟩))
     go_ret
     exact⟨ah Hv.out.symm,hB _⟩
   ·have h3':fP col 1 9=false:=by simpa using h3
    clear h3
    have Hv:Hid (aj ⟨id,kd,ht,col,ps⟩=false):=by
     show aj ⟨id,kd,ht,col,ps⟩=false
     simp only[aj,h3',Bool.and_false,Bool.false_and]
    go_enter func52,ntmps52
    go_wp2_with (first
     |(go_at_call 82;refine(cK _ _ _ _).mono ?_;rintro e w' ⟨rfl,rfl⟩)
      |(go_at_call 81;refine(kR _ _).mono ?_;rintro e w' ⟨rfl,rfl⟩))
    go_ret
    exact⟨ah Hv.out.symm,hB _⟩
  ·have h2':fP ht (-9) 9=false:=by simpa using h2
   clear h2
   have Hv:Hid (aj ⟨id,kd,ht,col,ps⟩=false):=by
    show aj ⟨id,kd,ht,col,ps⟩=false
    simp only[aj,h2',Bool.and_false,Bool.false_and]
   go_enter func52,ntmps52
   go_wp2_with (first
    |(go_at_call 82;refine(cK _ _ _ _).mono ?_;rintro e w' ⟨rfl,rfl⟩)
      |(go_at_call 81;refine(kR _ _).mono ?_;rintro e w' ⟨rfl,rfl⟩))
   go_ret
   exact⟨ah Hv.out.symm,hB _⟩
 ·have h1':fP id 1 99=false:=by simpa using h1
  clear h1
  have Hv:Hid (aj ⟨id,kd,ht,col,ps⟩=false):=by
   show aj ⟨id,kd,ht,col,ps⟩=false
   simp only[aj,h1',Bool.false_and]
  go_enter func52,ntmps52
  go_wp2_with (first
   |(go_at_call 82;refine(cK _ _ _ _).mono ?_;rintro e w' ⟨rfl,rfl⟩)
      |(go_at_call 81;refine(kR _ _).mono ?_;rintro e w' ⟨rfl,rfl⟩))
  go_ret
  exact⟨ah Hv.out.symm,hB _⟩
def bY(ax ay bx aY mx my:Int):Bool:=
 if decide (my<ay)=decide (my<aY)then false
 else if aY<ay then decide ((mx-bx)*(ay-aY)<(my-aY)*(ax-bx))
 else decide ((mx-ax)*(aY-ay)<(my-ay)*(bx-ax))
theorem s7(ax ay bx aY mx my:Int)(w:World)(h1:0<=ax)(h2:0<=ay)(h3:0<=bx)(h4:0<=aY)(h5:0<=mx)(h6:0<=my)(g1:ax<=1000)(g2:ay<=1000)(g3:bx<=1000)(g4:aY<=1000)(g5:mx<=1000)(g6:my<=1000):
  Calls prog 160 #[.agg #[.int .i64 ax,.int .i64 ay],.agg #[.int .i64 bx,.int .i64 aY],.agg #[.int .i64 mx,.int .i64 my]] w λe w'=>e=.returned (.bool (bY ax ay bx aY mx my))/\Below w.heap.size w w':=by
 have hB:∀o1 o2 o3:Obj,Below w.heap.size w (((w.alloc o1).alloc o2).alloc o3):=λo1 o2 o3=>(aU.alloc (by simp) _).alloc (by simp;omega) _
 by_cases c1:my<ay
 ·by_cases c2:my<aY
  ·have Hv:Hid (bY ax ay bx aY mx my=false):=by show bY ax ay bx aY mx my=false;simp[bY,c1,c2]
   go_enter func160,ntmps160
   go_wp2
   go_ret
   exact⟨ah Hv.out.symm,hB _ _ _⟩
  ·have c3:aY<ay:=by omega
   have Hv:Hid (bY ax ay bx aY mx my=decide ((mx-bx)*(ay-aY)<(my-aY)*(ax-bx))):=by show bY ax ay bx aY mx my=_;simp[bY,c1,c2,c3]
   obtain⟨p1,p1'⟩:=gV (a:=mx-bx) (b:=ay-aY) (A:=1000) (B:=1000) (by omega) (by omega) (by omega) (by omega)
   obtain⟨p2,p2'⟩:=gV (a:=my-aY) (b:=ax-bx) (A:=1000) (B:=1000) (by omega) (by omega) (by omega) (by omega)
   go_enter func160,ntmps160
   go_wp2
   go_ret
   exact⟨ah Hv.out.symm,hB _ _ _⟩
 ·by_cases c2:my<aY
  ·have c3:¬aY<ay:=by omega
   have Hv:Hid (bY ax ay bx aY mx my=decide ((mx-ax)*(aY-ay)<(my-ay)*(bx-ax))):=by show bY ax ay bx aY mx my=_;simp[bY,c1,c2,c3]
   obtain⟨p1,p1'⟩:=gV (a:=mx-ax) (b:=aY-ay) (A:=1000) (B:=1000) (by omega) (by omega) (by omega) (by omega)
   obtain⟨p2,p2'⟩:=gV (a:=my-ay) (b:=bx-ax) (A:=1000) (B:=1000) (by omega) (by omega) (by omega) (by omega)
   go_enter func160,ntmps160
   go_wp2
   go_ret
   exact⟨ah Hv.out.symm,hB _ _ _⟩
  ·have Hv:Hid (bY ax ay bx aY mx my=false):=by show bY ax ay bx aY mx my=false;simp[bY,c1,c2]
   go_enter func160,ntmps160
   go_wp2
   go_ret
   exact⟨ah Hv.out.symm,hB _ _ _⟩
structure Q4(w:World)(b:Nat)(v0 v1 v2 v3:Value):Prop where
 c0:w.cell? ⟨b,0,none⟩=some v0
 c1:w.cell? ⟨b,1,none⟩=some v1
 c2:w.cell? ⟨b,2,none⟩=some v2
 c3:w.cell? ⟨b,3,none⟩=some v3
 f0:w.frozen? ⟨b,0,none⟩=false
 f1:w.frozen? ⟨b,1,none⟩=false
 f2:w.frozen? ⟨b,2,none⟩=false
 f3:w.frozen? ⟨b,3,none⟩=false
variable {W w1:World} {n:Nat}
theorem eF(hb:Below n W w1):(∀b o,b<n->w1.cell? ⟨b,o,none⟩=W.cell? ⟨b,o,none⟩)/\(∀b o,b<n->w1.frozen? ⟨b,o,none⟩=W.frozen? ⟨b,o,none⟩):=
 ⟨λb o h=>hb.cell (p:=⟨b,o,none⟩) h,λb o h=>hb.frozen (p:=⟨b,o,none⟩) h⟩
variable {v0 v1 v2 v3:Value}
theorem Q4.below{A B:World}(h:Below n A B)(hb:b<n)(q:Q4 A b v0 v1 v2 v3):Q4 B b v0 v1 v2 v3:=by
 obtain⟨hc,hf⟩:=eF h
 exact⟨(hc _ _ hb).trans q.c0,(hc _ _ hb).trans q.c1,(hc _ _ hb).trans q.c2,(hc _ _ hb).trans q.c3,(hf _ _ hb).trans q.f0,(hf _ _ hb).trans q.f1,(hf _ _ hb).trans q.f2,(hf _ _ hb).trans q.f3⟩
theorem Q4.new(w:World)(v0 v1 v2 v3:Value)(t:TypeId):Q4 (w.alloc (.cells #[v0,v1,v2,v3] t)) w.heap.size v0 v1 v2 v3:=by
 constructor<;>simp[go_sem]
theorem Q4.set(q:Q4 w b v0 v1 v2 v3)(x0 x1 x2 x3:Value):
  Q4 ((((w.setCell ⟨b,0,none⟩ x0).setCell ⟨b,1,none⟩ x1).setCell ⟨b,2,none⟩ x2).setCell ⟨b,3,none⟩ x3) b x0 x1 x2 x3:=by
 obtain⟨c0,c1,c2,c3,f0,f1,f2,f3⟩:=q
 constructor<;>simp[go_sem,c0,c1,c2,c3,f0,f1,f2,f3]
theorem Q4.drew(q:Q4 w b v0 v1 v2 v3):Q4 w.drew b v0 v1 v2 v3:=⟨q.c0,q.c1,q.c2,q.c3,q.f0,q.f1,q.f2,q.f3⟩
structure Bx where
 l:Int
 t:Int
 r:Int
 b:Int
def Bx.join(a b:Bx):Bx:=⟨ug a.l b.l,ug a.t b.t,uh a.r b.r,uh a.b b.b⟩
def eB(p:Int×Int):Bx:=⟨p.1,p.2,p.1,p.2⟩
def aD:dS->Bx
 |[]=>⟨0,0,0,0⟩
 |p::ps=>ps.foldl (λb q=>b.join (eB q)) (eB p)
theorem ID(ps:dS)(q:Int×Int)(h:ps≠[]):aD (ps++[q])=(aD ps).join (eB q):=by
 cases ps with
 |nil=>exact absurd rfl h
 |cons p r=>simp[aD,List.foldl_append]
theorem bN(n:Nat)(w:World)(b:Nat)(h:n<=b)(u0 u1 u2 u3:Value):Below n w ((((w.setCell ⟨b,0,none⟩ u0).setCell ⟨b,1,none⟩ u1).setCell ⟨b,2,none⟩ u2).setCell ⟨b,3,none⟩ u3):=
 ((((Below.refl n w).setCell (p:=⟨b,0,none⟩) h u0).setCell (p:=⟨b,1,none⟩) h u1).setCell (p:=⟨b,2,none⟩) h u2).setCell (p:=⟨b,3,none⟩) h u3
theorem pG{ps:dS}{p:Int×Int}(h:ps[k]? =some p):ps.take (k+1)=ps.take k++[p]:=by
 rw[List.take_add_one,h];rfl
theorem nU(b off n cap:Nat)(ps:dS)(w:World)(hp:cZ w.heap.size w b off ps)(hn:n=ps.length)(hn1:1<=n)(hn2:n<=1000000000000)(hcap:n<=cap):
  Calls prog 53 #[.slice (some ⟨b,off,none⟩) n cap] w λe w'=>e=.returned (.agg #[.int .i64 (aD ps).l,.int .i64 (aD ps).t,.int .i64 (aD ps).r,.int .i64 (aD ps).b])/\Below w.heap.size w w':=by
 have Hn:=af hn
 clear hn
 obtain⟨x0,y0,Jn,hx0,hy0⟩:=hp.at (k:=0) (by rw[<-Hn.out];exact hn1)
 simp only[Nat.zero_mul,Nat.add_zero]at hx0 hy0
 have H0:=af Jn
 clear Jn
 have hbl:=hp.1
 have Hp:=af hp
 clear hp
 go_enter func53,ntmps53
 go_wp2_with (go_at_call 85;refine(yK _ _ _).mono ?_;rintro e w1 ⟨rfl,hb1⟩)
 all_goals
  have PY:=hb1.size
  simp at PY
  have YP:Below w.heap.size w w1:=aU.trans (hb1.mono (by simp))
  have hq1:Q4 w1 w.heap.size (.int .i64 0) (.int .i64 0) (.int .i64 0) (.int .i64 0):=(Q4.new _ _ _ _ _ _).below hb1 (by simp)
  go_loopw [13] (λi wr=>∃k:Nat,k<=n-1/\i=.int .i64 k/\Q4 wr w1.heap.size (.int .i64 (aD (ps.take (k+1))).l) (.int .i64 (aD (ps.take (k+1))).t) (.int .i64 (aD (ps.take (k+1))).r) (.int .i64 (aD (ps.take (k+1))).b)/\Q4 wr w.heap.size (.int .i64 0) (.int .i64 0) (.int .i64 0) (.int .i64 0)/\Below w.heap.size w wr/\w1.heap.size<wr.heap.size) (λi _=>n-1-(intOf i).toNat)
  case atStart=>
   refine⟨0,Nat.zero_le _,rfl,?_,hq1.below aU (by omega),YP.alloc (by omega) _,by simp⟩
   rw[pG H0.out]
   exact Q4.new _ _ _ _ _ _
  case round=>
   obtain⟨k,hk,rfl,hq,wB,hb,hz⟩:=hrel
   by_cases hlt:k<n-1
   ·first
    |(exfalso;omega)
    |(
     generalize hl:(aD (ps.take (k+1))).l=l at hq
     generalize ht:(aD (ps.take (k+1))).t=t at hq
     generalize hr:(aD (ps.take (k+1))).r=r at hq
     generalize o8:(aD (ps.take (k+1))).b=bb at hq
     obtain⟨x,y,hxy,hx,hy⟩:=(Hp.out.below hb).at (k:=k+1) (by rw[<-Hn.out];omega)
     rw[show off+(k+1)*2=off+2+k*2 from by omega]at hx hy
     have HJ:Hid (aD (ps.take (k+1+1))=(⟨ug l x,ug t y,uh r x,uh bb y⟩:Bx)):=by
      show aD (ps.take (k+1+1))=_
      rw[pG hxy,ID _ _ (by have:=Hn.out;intro e;have h2:=congrArg List.length e;rw[List.length_take]at h2;simp only[List.length_nil]at h2;omega),<-hl,<-ht,<-hr,<-o8];rfl
     clear hxy hl ht hr o8 hx0 hy0
     have hQ:∀o:Obj,Q4 ((wr.alloc o).drew) w1.heap.size (.int .i64 l) (.int .i64 t) (.int .i64 r) (.int .i64 bb):=λo=>(hq.below (bK.alloc aM o) hz).drew
     obtain⟨c0,c1,c2,c3,f0,f1,f2,f3⟩:=hq
     go_wp2
     go_region_with (first
      |(go_at_call 85;refine(yK _ _ _).mono ?_;rintro e w2 ⟨rfl,hb2⟩;have hs2:wr.heap.size<w2.heap.size:=(by have:=hb2.size;(try simp at this);omega);have q2:=(hQ _).below hb2 (by simp;omega);obtain⟨d0,d1,d2,d3,g0,g1,g2,g3⟩:=q2)
      |(go_at_call 86;refine(vC _ _ _ _ _ _ _ _ _).mono ?_;rintro e w3 ⟨rfl,hb3⟩;have hs3:wr.heap.size<w3.heap.size:=(by have:=hb3.size;(try simp at this);omega);have q3:=(Q4.mk d0 d1 d2 d3 g0 g1 g2 g3).below hb3 (by omega);obtain⟨k0,k1,k2,k3,m0,m1,m2,m3⟩:=q3))
     all_goals
      have QZ:Hid (Q4 w3 w1.heap.size (.int .i64 l) (.int .i64 t) (.int .i64 r) (.int .i64 bb)):=⟨k0,k1,k2,k3,m0,m1,m2,m3⟩
      clear k0 k1 k2 k3 m0 m1 m2 m3 d0 d1 d2 d3 g0 g1 g2 g3 c0 c1 c2 c3 f0 f1 f2 f3 hQ
      go_wp2
      go_roundw
      case rel=>
       have gZ:Below w.heap.size w w3:=((hb.alloc (by omega) _).drew.trans (hb2.mono (by simp;omega))).trans (hb3.mono (by omega))
       have hz3:Q4 w3 w.heap.size (.int .i64 0) (.int .i64 0) (.int .i64 0) (.int .i64 0):=((wB.below aU (by omega)).drew.below hb2 (by simp;omega)).below hb3 (by omega)
       refine⟨k+1,by omega,by go_num,?_,hz3.below (bN w1.heap.size _ _ aM _ _ _ _) (by omega),gZ.trans (bN w.heap.size _ _ (by omega) _ _ _ _),?_⟩
       ·rw[HJ.out]
        exact QZ.out.set _ _ _ _
       ·exact Nat.lt_of_lt_of_le (by omega) (bN w1.heap.size w3 w1.heap.size aM _ _ _ _).size
      case measure=>simp[intOf];omega)
   ·have HK:Hid (aD (ps.take (k+1))=aD ps):=by
     show aD (ps.take (k+1))=aD ps
     rw[show k+1=ps.length from by have:=Hn.out;omega,List.take_length]
    rw[HK.out]at hq
    obtain⟨c0,c1,c2,c3,f0,f1,f2,f3⟩:=hq
    have Zo:=wB
    obtain⟨z0,z1,z2,z3,e0,e1,e2,e3⟩:=Zo
    go_wp2
    obtain⟨y0',y1',y2',y3',_,_,_,_⟩:=wB.set (.int .i64 (aD ps).l) (.int .i64 (aD ps).t) (.int .i64 (aD ps).r) (.int .i64 (aD ps).b)
    exact bodyPost_ret (v:=.agg #[.int .i64 (aD ps).l,.int .i64 (aD ps).t,.int .i64 (aD ps).r,.int .i64 (aD ps).b]) (by simp[results,results53,go_sem,y0',y1',y2',y3']) rfl ⟨rfl,hb.trans (bN w.heap.size _ _ aM _ _ _ _)⟩
structure Q2(w:World)(b:Nat)(v0 v1:Value):Prop where
 c0:w.cell? ⟨b,0,none⟩=some v0
 c1:w.cell? ⟨b,1,none⟩=some v1
 f0:w.frozen? ⟨b,0,none⟩=false
 f1:w.frozen? ⟨b,1,none⟩=false
theorem Q2.below{A B:World}(h:Below n A B)(hb:b<n)(q:Q2 A b v0 v1):Q2 B b v0 v1:=by
 obtain⟨hc,hf⟩:=eF h
 exact⟨(hc _ _ hb).trans q.c0,(hc _ _ hb).trans q.c1,(hf _ _ hb).trans q.f0,(hf _ _ hb).trans q.f1⟩
theorem Q2.new(w:World)(v0 v1:Value)(t:TypeId):Q2 (w.alloc (.cells #[v0,v1] t)) w.heap.size v0 v1:=by
 constructor<;>simp[go_sem]
theorem Q2.set(q:Q2 w b v0 v1)(x0 x1:Value):Q2 ((w.setCell ⟨b,0,none⟩ x0).setCell ⟨b,1,none⟩ x1) b x0 x1:=by
 obtain⟨c0,c1,f0,f1⟩:=q
 constructor<;>simp[go_sem,c0,c1,f0,f1]
theorem Q4.alloc(q:Q4 w b v0 v1 v2 v3)(h:b<w.heap.size)(o:Obj):Q4 (w.alloc o) b v0 v1 v2 v3:=q.below ((Below.refl w.heap.size w).alloc aM o) h
theorem Q2.alloc(q:Q2 w b v0 v1)(h:b<w.heap.size)(o:Obj):Q2 (w.alloc o) b v0 v1:=q.below ((Below.refl w.heap.size w).alloc aM o) h
theorem iC(n:Nat)(w:World)(b:Nat)(h:n<=b)(u0 u1:Value):Below n w ((w.setCell ⟨b,0,none⟩ u0).setCell ⟨b,1,none⟩ u1):=
 ((Below.refl n w).setCell (p:=⟨b,0,none⟩) h u0).setCell (p:=⟨b,1,none⟩) h u1
variable {N:Nat}
theorem Qv{x y x' y':Int}(h:N<W.heap.size)(c0:W.cell? ⟨N,0,none⟩=some (.int .i64 x))(c1:W.cell? ⟨N,1,none⟩=some (.int .i64 y))(c2:W.cell? ⟨N,2,none⟩=some (.int .i64 x'))(c3:W.cell? ⟨N,3,none⟩=some (.int .i64 y')):cZ W.heap.size W N 0 [(x,y),(x',y')]:=by
 refine⟨h,λk a b e=>?_⟩
 match k,e with
 |0,e=>simp at e;obtain⟨rfl,rfl⟩:=e;exact⟨c0,c1⟩
 |1,e=>simp at e;obtain⟨rfl,rfl⟩:=e;exact⟨c2,c3⟩
 |k+2,e=>simp at e
theorem NV(a0 a1 a2 a3 a4 a5 a6 a7:Value)(w:World):Sem.run prog (Instr.index 301 (Value.agg #[a0,a1,a2,a3,a4,a5,a6,a7]) (Value.int IntKind.i64 0)) w=.ok (Value.agg #[a0,a1]) w:=by kernel_rfl
theorem NW(a0 a1 a2 a3 a4 a5 a6 a7:Value)(w:World):Sem.run prog (Instr.index 301 (Value.agg #[a0,a1,a2,a3,a4,a5,a6,a7]) (Value.int IntKind.i64 1)) w=.ok (Value.agg #[a2,a3]) w:=by kernel_rfl
theorem NX(a0 a1 a2 a3 a4 a5 a6 a7:Value)(w:World):Sem.run prog (Instr.index 301 (Value.agg #[a0,a1,a2,a3,a4,a5,a6,a7]) (Value.int IntKind.i64 2)) w=.ok (Value.agg #[a4,a5]) w:=by kernel_rfl
theorem NY(a0 a1 a2 a3 a4 a5 a6 a7:Value)(w:World):Sem.run prog (Instr.index 301 (Value.agg #[a0,a1,a2,a3,a4,a5,a6,a7]) (Value.int IntKind.i64 3)) w=.ok (Value.agg #[a6,a7]) w:=by kernel_rfl
def pP(T:Nat->Int):Nat->Int
 |0=>0
 |k+1=>pP T k+(if T k<0 then 1 else 0)
def qy(T:Nat->Int):Nat->Int
 |0=>0
 |k+1=>qy T k+(if 0<T k then 1 else 0)
theorem Ap(T:Nat->Int):∀k:Nat,0<=pP T k/\pP T k<=k
 |0=>by simp[pP]
 |k+1=>by have:=Ap T k;simp only[pP];split<;>omega
theorem Gp(T:Nat->Int):∀k:Nat,0<=qy T k/\qy T k<=k
 |0=>by simp[qy]
 |k+1=>by have:=Gp T k;simp only[qy];split<;>omega
def Gq(l r:Int):Nat->Int
 |0=>l
 |1=>r
 |2=>r
 |_=>l
def Gs(t b:Int):Nat->Int
 |0=>t
 |1=>t
 |_=>b
def turns(ax ay bx aY l t r b:Int)(k:Nat):Int:=Oj ax ay bx aY (Gq l r k) (Gs t b k)
def j3(ax ay bx aY l t r b:Int):Bool:=cQ (aD [(ax,ay),(bx,aY)]).l (aD [(ax,ay),(bx,aY)]).t (aD [(ax,ay),(bx,aY)]).r (aD [(ax,ay),(bx,aY)]).b l t r b
def pX(ax ay bx aY l t r b:Int):Bool:=
 j3 ax ay bx aY l t r b&&(decide (pP (turns ax ay bx aY l t r b) 4<4)&&decide (qy (turns ax ay bx aY l t r b) 4<4))
theorem sK(ax ay bx aY l t r b:Int)(w:World)(h1:0<=ax)(h2:0<=ay)(h3:0<=bx)(h4:0<=aY)(h5:0<=l)(h6:0<=t)(h7:0<=r)(h8:0<=b)(g1:ax<=1000)(g2:ay<=1000)(g3:bx<=1000)(g4:aY<=1000)(g5:l<=1000)(g6:t<=1000)(g7:r<=1000)(g8:b<=1000):
  Calls prog 159 #[.agg #[.int .i64 ax,.int .i64 ay],.agg #[.int .i64 bx,.int .i64 aY],.agg #[.int .i64 l,.int .i64 t,.int .i64 r,.int .i64 b]] w λe w'=>e=.returned (.bool (pX ax ay bx aY l t r b))/\Below w.heap.size w w':=by
 go_enter func159,ntmps159
 go_upto_region 1 with fail
 go_cut [18] (λv wc=>v=.bool (!j3 ax ay bx aY l t r b)/\Q2 wc w.heap.size (.int .i64 ax) (.int .i64 ay)/\Q2 wc (w.heap.size+1) (.int .i64 bx) (.int .i64 aY)/\Q4 wc (w.heap.size+1+1) (.int .i64 l) (.int .i64 t) (.int .i64 r) (.int .i64 b)/\Below w.heap.size w wc/\w.heap.size+3<=wc.heap.size)
 case first=>
  go_region_held3 (λw'=>w'.cell? ⟨w.heap.size,0,none⟩=some (.int .i64 ax)/\w'.cell? ⟨w.heap.size,1,none⟩=some (.int .i64 ay)/\w'.cell? ⟨w.heap.size+1,0,none⟩=some (.int .i64 bx)/\w'.cell? ⟨w.heap.size+1,1,none⟩=some (.int .i64 aY)/\w'.cell? ⟨w.heap.size+1+1,0,none⟩=some (.int .i64 l)/\w'.cell? ⟨w.heap.size+1+1,1,none⟩=some (.int .i64 t)/\w'.cell? ⟨w.heap.size+1+1,2,none⟩=some (.int .i64 r)/\w'.cell? ⟨w.heap.size+1+1,3,none⟩=some (.int .i64 b)) (first|(simp[go_sem];done)|exact⟨q1.c0,q1.c1,q2.c0,q2.c1,q3.c0,q3.c1,q3.c2,q3.c3⟩)
   (first
   |(go_at_call 53;refine aq (nU _ 0 2 2 [(ax,ay),(bx,aY)] _ ?_ rfl (by omega) (by omega) (by omega)) ?_;(refine Qv ?_ ?_ ?_ ?_ ?_<;>simp[go_sem]);rintro e w1 ⟨rfl,hb1⟩;have q1:Q2 w1 w.heap.size (.int .i64 ax) (.int .i64 ay):=Q2.below hb1 (by simp<;>omega) (by constructor<;>simp[go_sem]);have q2:Q2 w1 (w.heap.size+1) (.int .i64 bx) (.int .i64 aY):=Q2.below hb1 (by simp<;>omega) (by constructor<;>simp[go_sem]);have q3:Q4 w1 (w.heap.size+1+1) (.int .i64 l) (.int .i64 t) (.int .i64 r) (.int .i64 b):=Q4.below hb1 (by simp<;>omega) (by constructor<;>simp[go_sem]);have hs1:w.heap.size+3<=w1.heap.size:=(by have:=hb1.size;simp at this;omega);have hB1:Below w.heap.size w w1:=((aU.alloc (by simp<;>omega) _).alloc (by simp<;>omega) _).alloc (by simp<;>omega) _|>.drew|>.trans (hb1.mono (by simp<;>omega)))
   |(go_at_call 158;refine(nY _ _ _ _ _ _ _ _ _).mono ?_;rintro e w2 ⟨rfl,hb2⟩;replace q1:=q1.below hb2 (by omega);replace q2:=q2.below hb2 (by omega);replace q3:=q3.below hb2 (by omega)))
  all_goals
   go_wp2_with fail
   go_meet
   exact⟨rfl,q1,q2,q3,hB1.trans (hb2.mono (by omega)),Nat.le_trans hs1 hb2.size⟩
 case rest=>
 obtain⟨rfl,q1,q2,q3,hB,hs⟩:=hcut
 by_cases hm:j3 ax ay bx aY l t r b=true
 ·have Hv:Hid (pX ax ay bx aY l t r b=(decide (pP (turns ax ay bx aY l t r b) 4<4)&&decide (qy (turns ax ay bx aY l t r b) 4<4))):=by
   show pX ax ay bx aY l t r b=_
   simp only[pX,hm,Bool.true_and]
  have q3':=q3
  obtain⟨d0,d1,d2,d3,_,_,_,_⟩:=q3'
  rw[hm,Bool.not_true]
  go_wp2_with (go_at_call 182;refine(B5 _ _ _ _ _).mono ?_;rintro e w2 ⟨rfl,hb2⟩)
  replace q1:=q1.below hb2 (by omega)
  replace q2:=q2.below hb2 (by omega)
  have hs2:=Nat.le_trans hs hb2.size
  have hB2:=hB.trans (hb2.mono (by omega))
  clear d0 d1 d2 d3 q3 hB hs hb2 hm
  go_loopw [7,8,21] (λle ri i wr=>∃k:Nat,k<=4/\i=.int .i64 k/\le=.int .i64 (pP (turns ax ay bx aY l t r b) k)/\ri=.int .i64 (qy (turns ax ay bx aY l t r b) k)/\Q2 wr w.heap.size (.int .i64 ax) (.int .i64 ay)/\Q2 wr (w.heap.size+1) (.int .i64 bx) (.int .i64 aY)/\Below w.heap.size w wr/\w.heap.size+3<=wr.heap.size) (λ_ _ i _=>4-(intOf i).toNat)
  case atStart=>exact⟨0,by omega,rfl,rfl,rfl,q1,q2,hB2,hs2⟩
  case round=>
   clear q1 q2 hB2 hs2
   obtain⟨k,hk,rfl,rfl,rfl,q1,q2,hB,hs⟩:=hrel
   by_cases hlt:k<4
   ·have bl:=Ap (turns ax ay bx aY l t r b) k
    have br:=Gp (turns ax ay bx aY l t r b) k
    generalize hL:pP (turns ax ay bx aY l t r b) k=cl at *
    generalize hR:qy (turns ax ay bx aY l t r b) k=cr at *
    have HL:Hid (pP (turns ax ay bx aY l t r b) (k+1)=cl+(if turns ax ay bx aY l t r b k<0 then 1 else 0)):=by show pP _ (k+1)=_;rw[pP,hL]
    have HR:Hid (qy (turns ax ay bx aY l t r b) (k+1)=cr+(if 0<turns ax ay bx aY l t r b k then 1 else 0)):=by show qy _ (k+1)=_;rw[qy,hR]
    clear hL hR
    obtain⟨bl1,bl2⟩:=bl
    obtain⟨br1,br2⟩:=br
    have Z3:=q1
    have q2':=q2
    obtain⟨d0,d1,_,_⟩:=Z3
    obtain⟨e0,e1,_,_⟩:=q2'
    have hz0:w.heap.size<wr.heap.size:=by omega
    have hz1:w.heap.size+1<wr.heap.size:=by omega
    have hk4:k=0\/k=1\/k=2\/k=3:=by omega
    rcases hk4 with rfl|rfl|rfl|rfl<;>
    ·go_wp2_with fail
     simp only[NV,NW,NX,NY]
     go_wp2_with (go_at_call 183;refine(F0 _ _ _ _ _ _ _ (by omega) (by omega) (by omega) (by omega) (by omega) (by omega) (by omega) (by omega) (by omega) (by omega) (by omega) (by omega)).mono ?_;rintro e w3 ⟨rfl,hb3⟩;have hs3:=hb3.size)
     all_goals
      go_roundw
      case rel=>
       simp at hs3
       first
        |refine⟨0+1,by omega,by go_num,?_,?_,?_,?_,?_,?_⟩
        |refine⟨1+1,by omega,by go_num,?_,?_,?_,?_,?_,?_⟩
        |refine⟨2+1,by omega,by go_num,?_,?_,?_,?_,?_,?_⟩
        |refine⟨3+1,by omega,by go_num,?_,?_,?_,?_,?_,?_⟩
       ·rw[HL.out];congr 1;simp only[turns,Gq,Gs];split<;>omega
       ·rw[HR.out];congr 1;simp only[turns,Gq,Gs];split<;>omega
       ·exact(q1.alloc (by omega) _).below hb3 (by simp;omega)
       ·exact(q2.alloc (by omega) _).below hb3 (by simp;omega)
       ·exact(hB.alloc (by omega) _).trans (hb3.mono (by simp;omega))
       ·omega
      case measure=>simp[intOf]
   ·obtain rfl:k=4:=by omega
    have Hl:=(Ap (turns ax ay bx aY l t r b) 4)
    by_cases c1:pP (turns ax ay bx aY l t r b) 4<4
    ·go_wp2
     all_goals
      go_ret
      exact⟨ah (by rw[Hv.out];simp;omega),hB⟩
    ·go_wp2
     all_goals
      go_ret
      exact⟨ah (by rw[Hv.out];simp;omega),hB⟩
 ·have hm':j3 ax ay bx aY l t r b=false:=by simpa using hm
  clear hm
  have Hv:Hid (pX ax ay bx aY l t r b=false):=by
   show pX ax ay bx aY l t r b=false
   simp only[pX,hm',Bool.false_and]
  rw[hm',Bool.not_false]
  go_wp2
  go_ret
  exact⟨ah Hv.out.symm,hB⟩
structure C4(w:World)(q:Nat)(x:Bx):Prop where
 c0:w.cell? ⟨q,0,none⟩=some (.int .i64 x.l)
 c1:w.cell? ⟨q,1,none⟩=some (.int .i64 x.t)
 c2:w.cell? ⟨q,2,none⟩=some (.int .i64 x.r)
 c3:w.cell? ⟨q,3,none⟩=some (.int .i64 x.b)
variable {q:Nat}
theorem C4.below{A B:World}(h:Below n A B)(hq:q<n){x:Bx}(c:C4 A q x):C4 B q x:=by
 obtain⟨hc,_⟩:=eF h
 exact⟨(hc _ _ hq).trans c.c0,(hc _ _ hq).trans c.c1,(hc _ _ hq).trans c.c2,(hc _ _ hq).trans c.c3⟩
abbrev Kids:=List (Nat×Bx)
def ew(n0:Nat)(w:World)(kb ko:Nat)(ks:Kids):Prop:=
 kb<n0/\∀i q x,ks[i]? =some (q,x)->w.cell? ⟨kb,ko+i,none⟩=some (.pointer (some ⟨q,0,none⟩))/\q<n0/\C4 w q x
variable {kb ko:Nat}
theorem ew.below{A B:World}(h:Below n0 A B){ks:Kids}(k:ew n0 A kb ko ks):ew n0 B kb ko ks:=
 ⟨k.1,λi q x e=>⟨(h.cell (p:=⟨kb,ko+i,none⟩) k.1).trans (k.2 i q x e).1,(k.2 i q x e).2.1,(k.2 i q x e).2.2.below h (k.2 i q x e).2.1⟩⟩
theorem ew.mono(h:n0<=n1){ks:Kids}(k:ew n0 w kb ko ks):ew n1 w kb ko ks:=
 ⟨Nat.lt_of_lt_of_le k.1 h,λi q x e=>⟨(k.2 i q x e).1,Nat.lt_of_lt_of_le (k.2 i q x e).2.1 h,(k.2 i q x e).2.2⟩⟩
variable {i:Nat}
theorem ew.at{ks:Kids}(k:ew n0 w kb ko ks)(h:i<ks.length):∃q x,ks[i]? =some (q,x)/\w.cell? ⟨kb,ko+i,none⟩=some (.pointer (some ⟨q,0,none⟩))/\q<n0/\C4 w q x:=
 ⟨ks[i].1,ks[i].2,List.getElem?_eq_getElem h,k.2 i _ _ (List.getElem?_eq_getElem h)⟩
def bZ:Kids->Bx
 |[]=>⟨0,0,0,0⟩
 |k::ks=>ks.foldl (λb q=>b.join q.2) k.2
theorem Fe(ks:Kids)(q:Nat×Bx)(h:ks≠[]):bZ (ks++[q])=(bZ ks).join q.2:=by
 cases ks with
 |nil=>exact absurd rfl h
 |cons p r=>simp[bZ,List.foldl_append]
theorem nO{ks:Kids}{p:Nat×Bx}(h:ks[k]? =some p):ks.take (k+1)=ks.take k++[p]:=by
 rw[List.take_add_one,h];rfl
theorem nI(kb ko n cap:Nat)(ks:Kids)(w:World)(hk:ew w.heap.size w kb ko ks)(hn:n=ks.length)(hn1:1<=n)(hn2:n<=1000000)(hcap:n<=cap):
  Calls prog 54 #[.slice (some ⟨kb,ko,none⟩) n cap] w λe w'=>∃q:Nat,e=.returned (.pointer (some ⟨q,0,none⟩))/\w.heap.size<=q/\q<w'.heap.size/\C4 w' q (bZ ks)/\w'.cell? ⟨q,4,none⟩=some (.slice (some ⟨kb,ko,none⟩) n cap)/\Below w.heap.size w w':=by
 have Hn:=af hn
 clear hn
 obtain⟨q0,x0,wB,OE,hl0,hc0⟩:=hk.at (i:=0) (by rw[<-Hn.out];exact hn1)
 simp only[Nat.add_zero]at OE
 have H0:=af wB
 obtain⟨e0,e1,e2,e3⟩:=hc0
 have Hk:=af hk
 have hkb:=hk.1
 clear wB hk
 go_enter func54,ntmps54
 go_wp2
 all_goals
  go_loopw [15] (λi wr=>∃k:Nat,k<=n-1/\i=.int .i64 k/\Q4 wr w.heap.size (.int .i64 (bZ (ks.take (k+1))).l) (.int .i64 (bZ (ks.take (k+1))).t) (.int .i64 (bZ (ks.take (k+1))).r) (.int .i64 (bZ (ks.take (k+1))).b)/\Below w.heap.size w wr/\w.heap.size<wr.heap.size) (λi _=>n-1-(intOf i).toNat)
  case atStart=>
   refine⟨0,Nat.zero_le _,rfl,?_,aU,by simp⟩
   rw[nO H0.out]
   exact Q4.new _ _ _ _ _ _
  case round=>
   clear e0 e1 e2 e3 OE
   obtain⟨k,hk,rfl,hq,hB,hs⟩:=hrel
   by_cases hlt:k<n-1
   ·first
    |(exfalso;omega)
    |(
     generalize hl:(bZ (ks.take (k+1))).l=l at hq
     generalize ht:(bZ (ks.take (k+1))).t=t at hq
     generalize hr:(bZ (ks.take (k+1))).r=r at hq
     generalize o8:(bZ (ks.take (k+1))).b=bb at hq
     obtain⟨q,x,VE,hp,hlq,hcx⟩:=(Hk.out.below hB).at (i:=k+1) (by rw[<-Hn.out];omega)
     rw[show ko+(k+1)=ko+1+k from by omega]at hp
     have HJ:Hid (bZ (ks.take (k+1+1))=(⟨ug l x.l,ug t x.t,uh r x.r,uh bb x.b⟩:Bx)):=by
      show bZ (ks.take (k+1+1))=_
      rw[nO VE,Fe _ _ (by have:=Hn.out;intro e;have h2:=congrArg List.length e;rw[List.length_take]at h2;simp only[List.length_nil]at h2;omega),<-hl,<-ht,<-hr,<-o8];rfl
     clear VE hl ht hr o8
     obtain⟨xl,xt,xr,xb⟩:=x
     obtain⟨d0,d1,d2,d3⟩:=hcx
     dsimp only at d0 d1 d2 d3 HJ
     have hq':=hq
     obtain⟨c0,c1,c2,c3,f0,f1,f2,f3⟩:=hq
     have hz1:q<wr.heap.size:=by omega
     have hz2:kb<wr.heap.size:=by omega
     go_upto_region 5 with fail
     go_region_with (first
      |(go_at_call 86;refine(vC _ _ _ _ _ _ _ _ _).mono ?_;rintro e w3 ⟨rfl,hb3⟩;have hs3:=hb3.size;(try simp at hs3);have q3:=hq'.drew.below hb3 (by simp<;>omega);obtain⟨k0,k1,k2,k3,m0,m1,m2,m3⟩:=q3))
     all_goals
      have QZ:Hid (Q4 w3 w.heap.size (.int .i64 l) (.int .i64 t) (.int .i64 r) (.int .i64 bb)):=⟨k0,k1,k2,k3,m0,m1,m2,m3⟩
      clear k0 k1 k2 k3 m0 m1 m2 m3 d0 d1 d2 d3 c0 c1 c2 c3 f0 f1 f2 f3
      go_wp2
      go_roundw
      case rel=>
       refine⟨k+1,by omega,by go_num,?_,(hB.drew.trans (hb3.mono (by simp<;>omega))).trans (bN w.heap.size _ _ aM _ _ _ _),Nat.lt_of_lt_of_le (by omega) (bN w.heap.size w3 w.heap.size aM _ _ _ _).size⟩
       rw[HJ.out]
       exact QZ.out.set _ _ _ _
      case measure=>simp[intOf];omega)
   ·have HK:Hid (bZ (ks.take (k+1))=bZ ks):=by
     show bZ (ks.take (k+1))=bZ ks
     rw[show k+1=ks.length from by have:=Hn.out;omega,List.take_length]
    rw[HK.out]at hq
    obtain⟨c0,c1,c2,c3,f0,f1,f2,f3⟩:=hq
    go_wp2
    go_ret
    refine⟨_,rfl,by omega,by simp,⟨?_,?_,?_,?_⟩,?_,hB.alloc (by omega) _⟩<;>(simp[go_sem]<;>omega)
theorem E_:(prog.info? 87).map (λi=>(i.zero,i.size,i.bytes))=some (some (.pointer none),1,8):=by kernel_rfl
theorem nT(v:Value)(h:v.cells=#[v])(n:Nat):(Builtin.zeroCells v.cells n).size=n:=by
 rw[h]
 simp[Builtin.zeroCells]
theorem KE(n:Nat)(w:World)(hn1:1<=n)(hn2:n<=1000):
  Calls prog 123 #[.slice none 0 0,.int .i64 n] w λe w'=>∃v:Value,e=.returned v/\w'.ownsRow w.heap.size 87 1 v 0 []/\(∃cap,v=.slice (some ⟨w.heap.size,0,none⟩) 0 cap)/\Below w.heap.size w w'/\w.heap.size<w'.heap.size:=by
 obtain⟨i0,hi,hz0,hz1,hz2⟩:=info_parts E_
 have hrz:∀ty,(Builtin.append_ #[143,3] ty #[.slice none 0 0,.int .i64 n]).run prog w=_:=λty=>
  Lib.run_append_nil_zeros w 143 3 ty 87 i0 (.pointer none) .i64 .i64 underlying143 underlying3 hi hz0 n (by omega) (by omega) (by omega) (by rw[hz2];omega)
 have hGn:n<=grownCap w n 0 87:=grownCap_ge w _ _ _
 have SA:=grownCap_le_maxLen w n 0 87 (by unfold maxLen;omega)
 obtain⟨G,hG⟩:∃G,grownCap w n 0 87=G:=⟨_,rfl⟩
 rw[hG]at hrz hGn SA
 clear hG
 have Uj:Hid (((w.alloc (.cells (Builtin.zeroCells #[Value.pointer none] n++Builtin.zeroCells #[Value.pointer none] (G-n)) 87)).drew).ownsRow w.heap.size 87 1 (.slice (some ⟨w.heap.size,0,none⟩) 0 G) 0 []):=
  World.ownsRow_made (base:=w.heap.size) (e:=87) (size:=1) w.drew (Builtin.zeroCells (Value.pointer none).cells n++Builtin.zeroCells (Value.pointer none).cells (G-n)) G aM SA (by rw[Array.size_append,nT _ rfl,nT _ rfl];omega)
 unfold maxLen at SA
 have hnn:¬((n:Int)<0):=by omega
 have hnp:0<(n:Int):=by omega
 go_enter func123,ntmps123
 go_wp2_with (at_builtin;refine Lib.wpList_append_run _ rfl _ _ _ _ rfl _ _ rfl rfl _ _ (hrz _) ?_)
 all_goals
  go_ret
  exact⟨.slice (some ⟨w.heap.size,0,none⟩) 0 G,rfl,Uj.out,⟨_,rfl⟩,bK.drew.alloc (by simp) _,by simp⟩
theorem addr_add(b off j:Nat):(⟨b,off,none⟩:Addr).add j=⟨b,off+j,none⟩:=by
 unfold Addr.add
 split
 ·simp[*]
 ·rfl
structure Part where
 b:Nat
 off:Nat
 cap:Nat
 vs:List Value
def nZ(n0:Nat)(w:World)(sb so:Nat)(ps:List Part):Prop:=
 sb<n0/\∀i p,ps[i]? =some p->w.cell? ⟨sb,so+i,none⟩=some (.slice (some ⟨p.b,p.off,none⟩) p.vs.length p.cap)/\p.b<n0/\∀j u,p.vs[j]? =some u->w.cell? ⟨p.b,p.off+j,none⟩=some u
variable {sb so:Nat}
theorem nZ.below{A B:World}(h:Below n0 A B){ps:List Part}(k:nZ n0 A sb so ps):nZ n0 B sb so ps:=
 ⟨k.1,λi p e=>⟨(h.cell (p:=⟨sb,so+i,none⟩) k.1).trans (k.2 i p e).1,(k.2 i p e).2.1,λj u hj=>(h.cell (p:=⟨p.b,p.off+j,none⟩) (k.2 i p e).2.1).trans ((k.2 i p e).2.2 j u hj)⟩⟩
def bM(ps:List Part)(k:Nat):List Value:=(ps.take k).flatMap (·.vs)
theorem pO{ps:List Part}{p:Part}(h:ps[k]? =some p):bM ps (k+1)=bM ps k++p.vs:=by
 rw[bM,List.take_add_one,h];simp[bM]
theorem vN(ps:List Part)(k:Nat):(bM ps k).length<=(bM ps ps.length).length:=by
 rw[bM,bM,List.take_length,List.length_flatMap,List.length_flatMap]
 have h:=List.take_append_drop k ps
 calc ((ps.take k).map λa=>a.vs.length).sum<=((ps.take k).map λa=>a.vs.length).sum+((ps.drop k).map λa=>a.vs.length).sum:=Nat.le_add_right _ _
  _=(ps.map λa=>a.vs.length).sum:=by rw[<-List.sum_append_nat,<-List.map_append,h]
theorem uW(sb so n Z6:Nat)(ps:List Part)(w:World)(hp:nZ w.heap.size w sb so ps)(hn:n=ps.length)(hn2:n<=1000)(S4:1<=(bM ps ps.length).length)(S5:(bM ps ps.length).length<=1000)(hone:∀u∈bM ps ps.length,u.oneCell'=true):
  Calls prog 88 #[.slice (some ⟨sb,so,none⟩) n Z6] w λe w'=>∃v:Value,e=.returned v/\w'.ownsRow w.heap.size 87 1 v (bM ps ps.length).length (bM ps ps.length)/\Below w.heap.size w w':=by
 have Hn:=af hn
 have Hp:=af hp
 have hsb:=hp.1
 have X6:=af hone
 clear hn hp hone
 go_enter func88,ntmps88
 go_wp2
 go_loop [3,11] (λsz i=>∃k:Nat,k<=n/\i=.int .i64 k/\sz=.int .i64 (bM ps k).length) (λ_ i=>n-(intOf i).toNat)
 case atStart=>exact⟨0,by omega,rfl,rfl⟩
 case round=>
  obtain⟨k,hk,rfl,rfl⟩:=hrel
  have hle:=vN ps k
  by_cases hlt:k<n
  ·have hlt':k<ps.length:=by have:=Hn.out;omega
   obtain⟨hc,_,_⟩:=Hp.out.2 k ps[k] (List.getElem?_eq_getElem hlt')
   have SR:=vN ps (k+1)
   rw[pO (List.getElem?_eq_getElem hlt'),List.length_append]at SR
   have HC:Hid ((bM ps (k+1)).length=(bM ps k).length+ps[k].vs.length):=by show(bM ps (k+1)).length=_;rw[pO (List.getElem?_eq_getElem hlt'),List.length_append]
   generalize ps[k]=p at *
   generalize hT:(bM ps ps.length).length=T at *
   clear hT
   generalize hC:(bM ps k).length=C at *
   clear hC
   have hpos:¬((C:Int)+(p.vs.length:Int)<0):=by omega
   go_wp2
   go_round
   case rel=>exact⟨k+1,by omega,by go_num,by rw[HC.out];go_num⟩
   case measure=>simp[intOf];omega
  ·obtain rfl:k=n:=by omega
   have HT:Hid ((bM ps k).length=(bM ps ps.length).length):=by show(bM ps k).length=_;rw[Hn.out]
   rw[HT.out]
   generalize hT:(bM ps ps.length).length=T at *
   have HTT:=af hT
   clear hT
   go_wp2_with (go_at_call 123;refine(KE T _ S4 S5).mono ?_;rintro e w1 ⟨v,rfl,hown,⟨Ye,rfl⟩,hB1,hs1⟩)
   have rP:=af hown
   clear hown
   obtain⟨i0,hi,hz0,hz1,hz2⟩:=info_parts E_
   have HI:Hid (prog.info? 87=some i0/\i0.zero=some (.pointer none)/\i0.size=1/\i0.bytes=8):=⟨hi,hz0,hz1,hz2⟩
   clear hi hz0 hz1 hz2
   go_loopw [6,27] (λv i wr=>∃j:Nat,j<=k/\i=.int .i64 j/\wr.ownsRow w.heap.size 87 1 v (bM ps j).length (bM ps j)/\Below w.heap.size w wr) (λ_ i _=>k-(intOf i).toNat)
   case atStart=>exact⟨0,by omega,rfl,rP.out,hB1⟩
   case round=>
    obtain⟨j,hj,rfl,hown,hB⟩:=hrel
    have KX:=af hown
    clear hown
    by_cases hlt:j<k
    ·have hlt':j<ps.length:=by have:=Hn.out;omega
     obtain⟨hc,hb0,hcs⟩:=(Hp.out.below hB).2 j ps[j] (List.getElem?_eq_getElem hlt')
     have HC:Hid (bM ps (j+1)=bM ps j++ps[j].vs):=pO (List.getElem?_eq_getElem hlt')
     have SR:=vN ps (j+1)
     rw[HC.out,List.length_append,HTT.out]at SR
     have Hm:Hid (∀u∈ps[j].vs,u.oneCell'=true):=λu hu=>X6.out u (by
      rw[bM,List.take_length,List.mem_flatMap]
      exact⟨ps[j],List.getElem_mem hlt',hu⟩)
     generalize ps[j]=p at *
     have KP:Hid (∀j u,p.vs[j]? =some u->wr.cell? ((⟨p.b,p.off,none⟩:Addr).add j)=some u):=λj u h=>(by rw[addr_add];exact hcs j u h)
     clear hcs
     go_wp2_with (at_builtin;refine wpList_append_own _ rfl _ _ 143 rfl w.heap.size 87 i0 (.pointer none) 1 8 underlying143 HI.out.1 HI.out.2.1 HI.out.2.2.1 HI.out.2.2.2 rfl (by decide) _ _ _ rfl KX.out ⟨p.b,p.off,none⟩ p.vs.length p.cap p.vs rfl (by simp) KP.out Hm.out (by unfold maxLen;omega) (by omega) hB.size ?_;intro v' w2 hown' hgrow _;have BF:=af hown';clear hown')
     go_roundw
     case rel=>
      refine⟨j+1,by omega,by go_num,?_,hB.grown hgrow hB.size (λk hk=>(KX.out.lt k hk).1)⟩
      rw[HC.out,List.length_append]
      exact BF.out
     case measure=>simp[intOf];omega
    ·have HF:Hid (bM ps j=bM ps ps.length):=by show bM ps j=_;rw[show j=ps.length from by have:=Hn.out;omega]
     go_wp2
     go_ret
     refine⟨_,rfl,?_,hB⟩
     rw[<-HTT.out,<-HF.out]
     exact KX.out
end
end Go.Proofs.YtenaepdmlknlcaaGreatDoor
