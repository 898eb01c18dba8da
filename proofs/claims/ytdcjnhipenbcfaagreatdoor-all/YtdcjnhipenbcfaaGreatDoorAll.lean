/-
  For every script, spotterlaw.All returns true: every step, whatever it calls and in whatever order, gets from the program, whose goroutines run under whatever schedule, the very text, error and place that the document's reference answer gives, and the script reads afterwards as it read before.
  Conditions: none beyond those of the statement itself (a tied card: the library's three tables read as the program's own text lays them).
-/
import Derived.Test.YtdcjnhipenbcfaaGreatDoorPk6
import Derived.Test.YtdcjnhipenbcfaaGreatDoorCards
import Derived.Test.YtdcjnhipenbcfaaGreatDoorTie
import Derived.WalkKit
import Derived.ProofKit
import Derived.OpenShut
import Derived.ShutString
import Derived.ChangeOld
import Derived.Below
import Derived.LaidMore
import Derived.Stop.Joined
import Derived.SevenTiedAt
set_option linter.unusedVariables false
set_option linter.unusedSectionVars false
set_option linter.unusedSimpArgs false
set_option maxRecDepth 100000
set_option maxHeartbeats 16000000
open Go renaming laidMetH->ai
open Go.OpenSpec renaming ofChange->aj
open Go.Program renaming wantsStandIn->ak
open Go.Proofs.Tryz renaming f14->ae,checked->af,func14->ah,params14->ao
namespace Go.Proofs.YtdcjnhipenbcfaaGreatDoor
namespace all
open ChangeShapes WideShapes ChangeAt RowKit
theorem yes(o:jZ)(Y:o.ref.size<=maxLen)(K:o.s.size<=maxLen)(H:1<=o.kind)(D:o.kind<=4):Ph.yb o:=by
 refine Ph.ab2 ?_;by_cases h:o.kind=4
 ·exact Ph.aap Y K h
 ·have⟨kd,k,q,st,wk,ref,s⟩:=o;exact Ph.aaq (by simp only at H D h;omega) Y K
theorem own:ownKnob Tryz.prog.godebug=none:=by kernel_rfl
theorem laidOut:laidOutB Tryz.prog=true:=by kernel_rfl
theorem adY(os:Os)(D:os.Started)(H:Type)(Y:TypeId×Value->H)(F:Stop.Interp):
  ReturnsInLeavingWide {calm:=true} af os 14 .any (fun w args=>(Rows.allSpec.pre Y Tryz.prog ae [] false w args/\ai Tryz.prog uz w)/\sizedMet Y Tryz.prog ae (aj Rows.allSpec) false w args)
   ((aj Rows.allSpec).postWith Y Tryz.prog ae F (outsideKept [.timePasses]) false true false):=by
 refine Ph.Wm (C:=af) (X:=fun w _=>ai Tryz.prog uz w) (fun _ _ _ G h=>h.of_heap G) own D ah
  (XV (enc:=Y) (C:=af) (os:=os) (X:=fun w _=>ai Tryz.prog uz w) (World.doorLaid Tryz.prog 400 os) #[.slice none 0 0] 8 rfl (World.shaped_of_RefB (by kernel_rfl) (by kernel_rfl)) (by kernel_rfl) (by kernel_rfl) (by kernel_rfl) (acj os _)) ?_
 intro W base args S gs before K P _ O;have hval:∀(j:Nat) t v,ae.params[j]?=some t->args[j]?=some v->Value.okWide Tryz.prog W .any base t v:=K;have B:=P;obtain⟨p,q,A,V,rfl,E,c⟩:=P;have N:DataW.TrodAll Y Tryz.prog W 0 (fun _=>true) true ae.params.toList args.toList S p:=A;rw[ao]at N hval;obtain⟨v0,l,r,T,f,s,J,rfl,rfl,M,r0⟩:=trodAll_cons N;obtain⟨rfl,rfl,rfl⟩:=trodAll_nil r0;obtain rfl:args=#[v0]:=by cases args;simp_all
 obtain⟨rfl,rfl⟩:=trodVars_none V;obtain⟨a0,U,I,rfl⟩:=okWide_slice Tryz.underlying22 (hval 0 22 v0 rfl rfl);have Q:=M;have se:∀x∈f,x.block<W.heap.size:=by have⟨m,z⟩:=Q;exact DataW.trod_lt m _ _ _ z
 obtain⟨z0,w0⟩:∃zs,wh W a0 U I zs:=by
  have⟨fuel,Z⟩:=M;exact af6 (by simpa[Value.cells]using Z)
 clear A K;refine Ren.gd.close (Ph.adX w0 yes (Ph.XY O) (X_ O) fun o d g=>?_);have⟨R,L⟩:=Ph.Xm (d:=d) g;exact⟨⟨_,_,_,[],_,[],B,trodAll_mk1 (shut_bool Tryz.underlying4 _),(trodAll_cons_mk (Below.trod laidOut (by kernel_rfl) (of_decide_eq_true (by kernel_rfl)) Q R se) trodAll_mk0),rfl,R.frame _,fun h=>by cases h⟩,L⟩
theorem over:Rows.AllSaid:=
 OpenClaim.holds_of_wide_leaving_time 14 ae rfl rfl rfl rfl rfl rfl rfl ⟨rfl,rfl,rfl,rfl,rfl⟩ rfl rfl rfl rfl rfl (by kernel_rfl) ah (by kernel_rfl)
  (of_decide_eq_true (by kernel_rfl)) (by unfold Func.isWrapper;first|(rw[if_pos (by decide+kernel)];kernel_rfl)|(rw[if_neg (by decide+kernel)];exact⟨rfl,rfl⟩))
  (fun os Y H K _ F=>adY os Y H K F)
theorem card:Rows.AllCardSaid:=
 abQ [.data,.data,.data] true Rows.allCard.stood.harness true
  over (by kernel_rfl) all_row_tie rfl ⟨rfl,rfl⟩ (by kernel_rfl) rfl
  (fun f fn D K=>by
   obtain rfl:f=14:=Option.some.inj ((show Program.funcNamed Tryz.prog Rows.allRow.func=some 14 by kernel_rfl).symm.trans D)|>.symm;obtain rfl:fn=ae:=(Option.some.inj (ah.symm.trans K)).symm;exact⟨by kernel_rfl,fun j t H=>by
    rw[ao]at H;have R:t∈[22]:=by simpa using Array.mem_of_getElem? H
    have Y:([22].all fun u=>!ak Tryz.prog u)=true:=by kernel_rfl
    exact(show ak Tryz.prog t=false by simpa using List.all_eq_true.1 Y t R)⟩)
  (by kernel_rfl)
end all
theorem all_holds:Rows.AllCardSaid:=all.card
#print axioms all_holds
end Go.Proofs.YtdcjnhipenbcfaaGreatDoor
