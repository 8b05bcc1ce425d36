import Derived.Test.YtenaepdmlknlcaaGreatDoorG49
import Derived.Test.YtenaepdmlknlcaaGreatDoorG50
open Go.Proofs.Tryz
set_option maxRecDepth 100000
set_option maxHeartbeats 8000000
namespace Go.Proofs.YtenaepdmlknlcaaGreatDoor
section
open Go.ChangeShapes Go.WideShapes Go.ChangeAt Go.RowKit Go.Deep
theorem Pk(f:FuncId)(fn:Func)(hf:Tryz.pinned.checked.prog.funcNamed "atlas/atlaslaw.All"=some f)(hfn:Tryz.pinned.checked.prog.funcs[f]? =some fn):
  true=Tryz.pinned.checked.prog.looks []/\∀(j:Nat) t,fn.params[j]? =some t->Tryz.pinned.checked.prog.wantsStandIn t=false:=by
 obtain rfl:f=7:=Option.some.inj ((show prog.funcNamed "atlas/atlaslaw.All"=some 7 by kernel_rfl).symm.trans hf)|>.symm
 obtain rfl:fn=Tryz.f7:=(Option.some.inj (func7.symm.trans hfn)).symm
 refine⟨by kernel_rfl,λj t ht=>?_⟩
 rw[Tryz.params7]at ht
 have hm:t∈[41]:=by
  have:=Array.mem_of_getElem? ht
  simpa using this
 have hall:([41].all λu=>!prog.wantsStandIn u)=true:=by kernel_rfl
 exact(show prog.wantsStandIn t=false by simpa using List.all_eq_true.1 hall t hm)
theorem Ej(H:Type)(enc:TypeId×Value->H)(W:World)(base:Nat)(args:Array Value)(ds gs:List (DataW H))(before:List MemPlace)
  (hval:∀(j:Nat) t v,Tryz.f7.params[j]? =some t->args[j]? =some v->Value.okWide prog W .any base t v)
  (hW:DataW.Whole enc prog Tryz.f7.params.toList Rows.allSpec.vars false W args.toList ds gs before) (wz:Rows.uptoSmall H (ds++gs)=true) (hL:laidMetH prog Rows.allUptoRow.laid W) (hsh:W.ShapedOpen prog):
  Calls prog 7 args W λe W'=>∃v,e=.returned v/\Rows.allSpec.post enc prog Tryz.f7 false true false false W args v W':=by
 have Bd:=hW
 have hlt:=hW.lt
 obtain⟨p,q,Yr,hV,rfl,hfz,hnd⟩:=hW
 have hA:DataW.TrodAll enc prog W 0 (λ_=>true) true Tryz.f7.params.toList args.toList ds p:=Yr
 rw[Tryz.params7]at hA hval
 obtain⟨v0,d0,rfl,rfl,h0⟩:=trodAll_one hA
 obtain⟨rfl,rfl⟩:=trodVars_none hV
 have hb:Rows.uptoBulk d0<=1048576:=by
  simp only[Rows.uptoSmall,List.cons_append,List.nil_append,Rows.uptoBulkAll,decide_eq_true_eq]at wz
  omega
 obtain⟨a,cap,l,rfl,hf,hok,hn,hc⟩:=C_ (hval 0 41 v0 rfl rfl) h0
 refine(OI a cap l (by omega) hok W (Rb hL hsh) hc hf).mono λe W' ⟨he,hg⟩=>?_
 subst he
 refine⟨_,rfl,[d0],[],_,[],p,[],Bd,trodAll_cons_mk (shut_bool underlying4 _) trodAll_mk0,?_,rfl,hg.frame _,λh=>by cases h⟩
 rw[Tryz.params7]
 exact trodAll_mk1 (Below.trod laidOut (by kernel_rfl) (of_decide_eq_true (by kernel_rfl)) h0 hg (λx hx=>hlt x (by simp[hx])))
def oh:Array Value:=#[.slice none 0 0]
theorem Ek(os:Os):laidMet prog Rows.allUptoRow.laid ((jL os).forCall (λ_ _=>0) ⟨#[],oh,[]⟩).memory:=
 laidMet_of_run' 8 (by kernel_rfl) (by kernel_rfl)
theorem Pm(os:Os){H:Type}(enc:TypeId×Value->H):∃places,DataW.whole enc prog ((jL os).forCall (λ_ _=>0) ⟨#[],oh,[]⟩).memory Tryz.f7.params.toList Rows.allSpec.vars false oh.toList 8=some ([.nil],[],places):=
 ⟨[],by kernel_rfl⟩
theorem Lq(os:Os)(started:os.Started)(H:Type)(enc:TypeId×Value->H)(F:Stop.Interp):
  ReturnsInHanded {} Tryz.checked os 7 .any ((Rows.OpenSpec.upto Rows.allSpec).preRow enc prog Tryz.f7 Rows.allUptoRow.domain false Rows.allUptoRow.laid) (((Rows.OpenSpec.upto Rows.allSpec).at F).post enc prog Tryz.f7 false true false false):=by
 obtain⟨places,hx⟩:=Pm os enc
 refine returnsInHanded_of_row (C:=Tryz.checked) (s:=Rows.OpenSpec.upto Rows.allSpec) own started (by kernel_rfl) func7
  (witness_row_at (enc:=enc) (C:=Tryz.checked) false (jL os) oh rfl (by kernel_rfl) (by kernel_rfl) (by kernel_rfl)
   (OpenSpec.preRow_of_cond 8 hx (by kernel_rfl) (λk hk=>by cases hk;kernel_rfl) (by kernel_rfl) (Ek os))) ?_
 intro W base args ds gs before hval hW _ wz _ hL hsh _
 exact Ej H enc W base args ds gs before hval hW (wz _ rfl) hL hsh
theorem R9:Rows.AllUptoSaid:=
 OpenClaim.holds_of_cond 7 Tryz.f7 rfl rfl rfl rfl rfl rfl rfl ⟨rfl,rfl,rfl,rfl,rfl⟩ rfl rfl rfl rfl rfl (by kernel_rfl) func7 (by kernel_rfl)
  (of_decide_eq_true (by kernel_rfl)) (by unfold Func.isWrapper;first|(rw[if_pos (by decide+kernel)];kernel_rfl)|(rw[if_neg (by decide+kernel)];exact⟨rfl,rfl⟩))
  (λos started H enc _ F=>by rw[OpenClaim.pre_eq_preRow];exact Lq os started H enc F)
theorem all_card:Rows.AllUptoCardSaid:=
 Claim7.holds_tied_plain_at .later [] _ _ _ _ R9 (λ_ h=>by cases h) (by kernel_rfl) (λ_ h=>by cases h) allUpto_row_tie rfl ⟨rfl,rfl⟩ (by kernel_rfl) rfl Pk (by kernel_rfl)
#print axioms all_card
end
end Go.Proofs.YtenaepdmlknlcaaGreatDoor
