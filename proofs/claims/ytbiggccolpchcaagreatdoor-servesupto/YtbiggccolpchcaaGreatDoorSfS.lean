/- Serves is true for every script of the second form's bulk: it returns true and leaves what it was given as it was. Its conditions: the row's own; the variables it lists hold what the program's text lays, which the card ties. -/
import Derived.Test.YtbiggccolpchcaaGreatDoorJoin51
import Derived.Test.YtbiggccolpchcaaGreatDoorSfT
import Derived.Test.YtbiggccolpchcaaGreatDoorCards
import Derived.Test.YtbiggccolpchcaaGreatDoorTie
import Derived.ProofKit
import Derived.OpenShut
import Derived.ShutString
import Derived.Carry
import Derived.SizedLaws
import Derived.Deep.DeepHandedRow
import Derived.Lay
import Derived.SevenTiedAt
import Derived.HandedShaped
import Derived.Lib.LaidTab
import Derived.ChangeSlices
set_option maxRecDepth 100000
namespace Go.Proofs.YtbiggccolpchcaaGreatDoor.serves
open Go.ChangeShapes Go.WideShapes Go.ChangeAt Go.RowKit _root_.Go.Proofs.Tryz
open Go.ChangeMaps (open_string shut_string)
theorem own:ownKnob prog.godebug=none:=by kernel_rfl
theorem c5H(os:Os){H:Type}(enc:TypeId×Value->H):∃places,DataW.whole enc prog ((World.laidAll prog os Rows.servesUptoRow.laid).forCall (λ_ _=>0) ⟨#[],#[.slice none 0 0],[]⟩).memory Tryz.f4.params.toList Rows.servesSpec.vars false #[Value.slice none 0 0].toList 8=some ([.nil],[],places):=
 ⟨[],by kernel_rfl⟩
theorem c1L:laidOutB prog=true:=by kernel_rfl
theorem c1M:prog.cellsOf 22=1:=by kernel_rfl
theorem small{H:Type}{x:DataW H}(hk:Rows.uptoSmall H [x]=true):Rows.uptoBulk x<=1048576:=by
 have h:=of_decide_eq_true hk;simp only[Rows.uptoBulkAll]at h;omega
theorem c4G:prog.cellsOf 351=1:=by kernel_rfl
theorem c4H:prog.cellsOf 406=20:=by kernel_rfl
theorem c5I{W:World}(h:laidMetH prog Rows.servesUptoRow.laid W):Lib.TabIs prog W "internal/strconv.uint64pow10" .u64 Lib.pow10Tab:=by
 rw[MakeChecks.laidMetH_plain _ _ _ (by kernel_rfl)]at h;obtain⟨ps,⟨_,_,_,_,_,_,_,_,_,_,⟨_,_,_,_,_,_,_,_,_,_,hr,_⟩,_⟩,_,_⟩:=h;obtain⟨g,t,cs,fuel,p,q,hg,ht,hv,hd,_,_⟩:=hr;obtain rfl:=Option.some.inj ((show(prog.globals[1]?).map (·.type)=some 406 by kernel_rfl).symm.trans (by rw[Option.some.inj ((show prog.globalNamed "internal/strconv.uint64pow10"=some 1 by kernel_rfl).symm.trans hg)];exact ht));have hc:=Lib.cells_of_tab (k:=.u64) (zs:=Lib.pow10Tab) underlying406 underlying351 c4G c4H hd;unfold Lib.TabIs;rw[hv,<-hc]
theorem b8W(H:Type)(enc:TypeId×Value->H)(W:World)(base:Nat)(args:Array Value)(ds gs:List (DataW H))(before:List MemPlace)
  (hval:∀(j:Nat) t v,Tryz.f4.params[j]?=some t->args[j]?=some v->Value.okWide prog W .any base t v)
  (hW:DataW.Whole enc prog Tryz.f4.params.toList Rows.servesSpec.vars false W args.toList ds gs before)
  (hk:Rows.uptoSmall H (ds++gs)=true)
  (hL:laidMetH prog Rows.servesUptoRow.laid W) (hS:W.ShapedOpen prog) :
  Calls prog 4 args W λe W'=>∃v,e=.returned v/\Rows.servesSpec.post enc prog Tryz.f4 false true false false W args v W':=by
 obtain⟨mx,hm⟩:=cell_of_shapedOpen_int (P:=prog) (g:=0) (t:=3) (zero:=#[.int .i64 0]) hS (of_decide_eq_true (by kernel_rfl)) (by kernel_rfl) rfl (by kernel_rfl) (by kernel_rfl) underlying3;have hW':=hW;obtain⟨p,q,hA0,hV,rfl,hfz,hnd⟩:=hW;have hA:DataW.TrodAll enc prog W 0 (λ_=>true) true Tryz.f4.params.toList args.toList ds p:=hA0;rw[Tryz.params4]at hA hval;obtain⟨v0,vs0,d0,ds0,p0,q0,hargs,rfl,rfl,h0,r0⟩:=trodAll_cons hA;obtain⟨rfl,rfl,rfl⟩:=trodAll_nil r0;obtain rfl:args=#[v0]:=by cases args;simp_all
 obtain⟨rfl,rfl⟩:=trodVars_none hV;have h0k:=h0;obtain⟨b0,l0,m0,rfl⟩:=okWide_slice underlying22 (hval 0 22 v0 rfl rfl);obtain⟨fuel0,hf0⟩:=h0;have hlt0:=DataW.trod_lt fuel0 _ _ _ hf0;have u0:DataW.trod enc prog W 0 (λ_=>true) true fuel0 22 [.slice b0 l0 m0]=some (d0,p0):=by simpa[Value.cells,c1M]using hf0
 obtain⟨za,zc,zs,ez,hz,hzl,hzb,hzc,hzs⟩:=b3R u0 (small hk);simp only[List.cons.injEq,and_true]at ez
 cases ez
 clear hA0;refine(a8H zs b0 m0 W hz hzl hzb hzc hzs (mx:=mx) ⟨hm,Lib.tabBelow_of_tabIs (c5I hL)⟩).mono λe W' ⟨he,bel⟩=>?_;subst he;exact⟨_,rfl,_,_,_,[],_,[],hW',trodAll_mk1 (shut_bool underlying4 _),(trodAll_cons_mk (Below.trod c1L (by kernel_rfl) (of_decide_eq_true (by kernel_rfl)) h0k bel hlt0) trodAll_mk0),rfl,bel.frame _,λh=>by cases h⟩
theorem c4I(os:Os)(started:os.Started)(H:Type)(enc:TypeId×Value->H)(F:Stop.Interp):
  ReturnsInHanded {} Tryz.checked os 4 .any ((Rows.OpenSpec.upto Rows.servesSpec).preRow enc prog Tryz.f4 Rows.servesUptoRow.domain false Rows.servesUptoRow.laid) (((Rows.OpenSpec.upto Rows.servesSpec).at F).post enc prog Tryz.f4 false true false false):=by
 obtain⟨places,hx⟩:=c5H os enc;refine returnsInHanded_of_row (C:=Tryz.checked) (s:=Rows.OpenSpec.upto Rows.servesSpec) own started (by kernel_rfl) func4
  (witness_row_at (enc:=enc) (C:=Tryz.checked) false (World.laidAll prog os Rows.servesUptoRow.laid) #[.slice none 0 0] (World.laidAll_os _ _ _) (by kernel_rfl) (by kernel_rfl) (by kernel_rfl)
   (OpenSpec.preRow_of_cond 8 hx (by kernel_rfl) (λk hk=>by cases hk;kernel_rfl) (by kernel_rfl) (laidMet_laidAll _ (by kernel_rfl) (by kernel_rfl)))) ?_
 intro W base args ds gs before hval hW _ hcond _ hL hS _;exact b8W H enc W base args ds gs before hval hW (hcond _ rfl) hL hS
theorem c5L:Rows.ServesUptoSaid:=
 OpenClaim.holds_of_cond 4 Tryz.f4 rfl rfl rfl rfl rfl rfl rfl ⟨rfl,rfl,rfl,rfl,rfl⟩ rfl rfl rfl rfl rfl (by kernel_rfl) func4 c4F
  (of_decide_eq_true (by kernel_rfl)) (by unfold Func.isWrapper;first|(rw[if_pos (by decide +kernel)];kernel_rfl)|(rw[if_neg (by decide +kernel)];exact⟨rfl,rfl⟩))
  (λos started H enc _ F=>by rw[OpenClaim.pre_eq_preRow];exact c4I os started H enc F)
theorem plain(f:FuncId)(fn:Func)(hf:Tryz.pinned.checked.prog.funcNamed "porter/porterlaw.Serves"=some f)(hfn:Tryz.pinned.checked.prog.funcs[f]?=some fn):
  false=Tryz.pinned.checked.prog.looks []/\∀(j:Nat) t,fn.params[j]?=some t->Tryz.pinned.checked.prog.wantsStandIn t=false:=by
 obtain rfl:f=4:=Option.some.inj ((show prog.funcNamed "porter/porterlaw.Serves"=some 4 by kernel_rfl).symm.trans hf) |>.symm;obtain rfl:fn=Tryz.f4:=(Option.some.inj (func4.symm.trans hfn)).symm;refine⟨by kernel_rfl,λj t ht=>?_⟩;rw[Tryz.params4]at ht;have hm:t∈[22]:=by simpa using Array.mem_of_getElem? ht
 have hall:([22].all λu=>!prog.wantsStandIn u)=true:=by kernel_rfl
 exact(show prog.wantsStandIn t=false by simpa using List.all_eq_true.1 hall t hm)
theorem card:Rows.ServesUptoCardSaid:=
 Claim7.holds_tied_plain_at .later [] _ _ _ _ c5L (λ_ h=>by cases h) (by kernel_rfl) (λ_ h=>by cases h) servesUpto_row_tie rfl ⟨rfl,rfl⟩ (by kernel_rfl) rfl plain (by kernel_rfl)
end Go.Proofs.YtbiggccolpchcaaGreatDoor.serves
namespace Go.Proofs.YtbiggccolpchcaaGreatDoor
open _root_.Go.Proofs.Tryz
theorem serves_holds:Rows.ServesUptoCardSaid:=serves.card
end Go.Proofs.YtbiggccolpchcaaGreatDoor
