import Derived.Test.YtenaepdmlknlcaaGreatDoorG49
import Derived.Test.YtenaepdmlknlcaaGreatDoorG50
open Go.Proofs.Tryz
set_option maxRecDepth 100000
set_option maxHeartbeats 8000000
namespace Go.Proofs.YtenaepdmlknlcaaGreatDoor
section
open Go.ChangeShapes Go.WideShapes Go.ChangeAt Go.RowKit Go.Deep
theorem Po(f:FuncId)(fn:Func)(hf:Tryz.pinned.checked.prog.funcNamed "atlas/atlaslaw.Alone"=some f)(hfn:Tryz.pinned.checked.prog.funcs[f]? =some fn):
  true=Tryz.pinned.checked.prog.looks []/\∀(j:Nat) t,fn.params[j]? =some t->Tryz.pinned.checked.prog.wantsStandIn t=false:=by
 obtain rfl:f=4:=Option.some.inj ((show prog.funcNamed "atlas/atlaslaw.Alone"=some 4 by kernel_rfl).symm.trans hf)|>.symm
 obtain rfl:fn=Tryz.f4:=(Option.some.inj (func4.symm.trans hfn)).symm
 refine⟨by kernel_rfl,λj t ht=>?_⟩
 rw[Tryz.params4]at ht
 have hm:t∈[41]:=by
  have:=Array.mem_of_getElem? ht
  simpa using this
 have hall:([41].all λu=>!prog.wantsStandIn u)=true:=by kernel_rfl
 exact(show prog.wantsStandIn t=false by simpa using List.all_eq_true.1 hall t hm)
theorem Ep(H:Type)(enc:TypeId×Value->H)(W:World)(base:Nat)(args:Array Value)(ds gs:List (DataW H))(before:List MemPlace)
  (hval:∀(j:Nat) t v,Tryz.f4.params[j]? =some t->args[j]? =some v->Value.okWide prog W .any base t v)
  (hW:DataW.Whole enc prog Tryz.f4.params.toList Rows.aloneSpec.vars false W args.toList ds gs before) (wz:Rows.uptoSmall H (ds++gs)=true) (hL:laidMetH prog Rows.aloneUptoRow.laid W) (hsh:W.ShapedOpen prog):
  Calls prog 4 args W λe W'=>∃v,e=.returned v/\Rows.aloneSpec.post enc prog Tryz.f4 false true false false W args v W':=by
 have Bd:=hW
 have hlt:=hW.lt
 obtain⟨p,q,Yr,hV,rfl,hfz,hnd⟩:=hW
 have hA:DataW.TrodAll enc prog W 0 (λ_=>true) true Tryz.f4.params.toList args.toList ds p:=Yr
 rw[Tryz.params4]at hA hval
 obtain⟨v0,d0,rfl,rfl,h0⟩:=trodAll_one hA
 obtain⟨rfl,rfl⟩:=trodVars_none hV
 have hb:Rows.uptoBulk d0<=1048576:=by
  simp only[Rows.uptoSmall,List.cons_append,List.nil_append,Rows.uptoBulkAll,decide_eq_true_eq]at wz
  omega
 obtain⟨a,cap,l,rfl,hf,hok,hn,hc⟩:=C_ (hval 0 41 v0 rfl rfl) h0
 refine(G6 a cap l (by omega) hok W (Rb hL hsh) hc hf).mono λe W' ⟨he,hg⟩=>?_
 subst he
 refine⟨_,rfl,[d0],[],_,[],p,[],Bd,trodAll_cons_mk (shut_bool underlying4 _) trodAll_mk0,?_,rfl,hg.frame _,λh=>by cases h⟩
 rw[Tryz.params4]
 exact trodAll_mk1 (Below.trod laidOut (by kernel_rfl) (of_decide_eq_true (by kernel_rfl)) h0 hg (λx hx=>hlt x (by simp[hx])))
def om:Array Value:=#[.slice none 0 0]
theorem Er(os:Os):laidMet prog Rows.aloneUptoRow.laid ((jL os).forCall (λ_ _=>0) ⟨#[],om,[]⟩).memory:=
 laidMet_of_run' 8 (by kernel_rfl) (by kernel_rfl)
theorem Pq(os:Os){H:Type}(enc:TypeId×Value->H):∃places,DataW.whole enc prog ((jL os).forCall (λ_ _=>0) ⟨#[],om,[]⟩).memory Tryz.f4.params.toList Rows.aloneSpec.vars false om.toList 8=some ([.nil],[],places):=
 ⟨[],by kernel_rfl⟩
theorem Ls(os:Os)(started:os.Started)(H:Type)(enc:TypeId×Value->H)(F:Stop.Interp):
  ReturnsInHanded {} Tryz.checked os 4 .any ((Rows.OpenSpec.upto Rows.aloneSpec).preRow enc prog Tryz.f4 Rows.aloneUptoRow.domain false Rows.aloneUptoRow.laid) (((Rows.OpenSpec.upto Rows.aloneSpec).at F).post enc prog Tryz.f4 false true false false):=by
 obtain⟨places,hx⟩:=Pq os enc
 refine returnsInHanded_of_row (C:=Tryz.checked) (s:=Rows.OpenSpec.upto Rows.aloneSpec) own started (by kernel_rfl) func4
  (witness_row_at (enc:=enc) (C:=Tryz.checked) false (jL os) om rfl (by kernel_rfl) (by kernel_rfl) (by kernel_rfl)
   (OpenSpec.preRow_of_cond 8 hx (by kernel_rfl) (λk hk=>by cases hk;kernel_rfl) (by kernel_rfl) (Er os))) ?_
 intro W base args ds gs before hval hW _ wz _ hL hsh _
 exact Ep H enc W base args ds gs before hval hW (wz _ rfl) hL hsh
theorem R_:Rows.AloneUptoSaid:=
 OpenClaim.holds_of_cond 4 Tryz.f4 rfl rfl rfl rfl rfl rfl rfl ⟨rfl,rfl,rfl,rfl,rfl⟩ rfl rfl rfl rfl rfl (by kernel_rfl) func4 (by kernel_rfl)
  (of_decide_eq_true (by kernel_rfl)) (by unfold Func.isWrapper;first|(rw[if_pos (by decide+kernel)];kernel_rfl)|(rw[if_neg (by decide+kernel)];exact⟨rfl,rfl⟩))
  (λos started H enc _ F=>by rw[OpenClaim.pre_eq_preRow];exact Ls os started H enc F)
theorem alone_card:Rows.AloneUptoCardSaid:=
 Claim7.holds_tied_plain_at .later [] _ _ _ _ R_ (λ_ h=>by cases h) (by kernel_rfl) (λ_ h=>by cases h) aloneUpto_row_tie rfl ⟨rfl,rfl⟩ (by kernel_rfl) rfl Po (by kernel_rfl)
#print axioms alone_card
end
end Go.Proofs.YtenaepdmlknlcaaGreatDoor
