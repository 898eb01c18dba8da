/-
  For all numbers of which a reference and a read are made and every choice of runs, steps and workers, spotterkeep.Exact returns true: without errors Map, whatever the schedule of its goroutines, tells the places at which the bases, or their flip, stand, all of them and no others, and the document's examples come out; what is handed in reads afterwards as before.
  Conditions: none beyond those of the statement itself (a tied card: the library's three tables read as the program's own text lays them).
-/
import Derived.Test.YtdcjnhipenbcfaaGreatDoorPkExact1
import Derived.Test.YtdcjnhipenbcfaaGreatDoorCards
import Derived.Test.YtdcjnhipenbcfaaGreatDoorTie
import Derived.WalkKit
import Derived.ProofKit
import Derived.OpenShut
import Derived.ShutString
import Derived.ChangeOld
import Derived.Below
import Derived.LaidMore
import Derived.Stop.Joined
import Derived.SevenTiedAt
set_option linter.unusedVariables false
set_option linter.unusedSectionVars false
set_option linter.unusedSimpArgs false
set_option maxRecDepth 100000
set_option maxHeartbeats 16000000
open Go.DataW renaming trod_lt->ah
open Go.OpenSpec renaming ofChange->ak
open Go.Program renaming wantsStandIn->ao
open Go.Proofs.Tryz renaming f10->ae,checked->ai,func10->aj,params10->ar
open Go.RowKit.Below renaming trod->af
namespace Go.Proofs.YtdcjnhipenbcfaaGreatDoor
namespace exact
open ChangeShapes WideShapes ChangeAt RowKit
theorem own:ownKnob Tryz.prog.godebug=none:=by kernel_rfl
theorem laidOut:laidOutB Tryz.prog=true:=by kernel_rfl
theorem AA(os:Os)(D:os.Started)(H:Type)(Y:TypeId×Value->H)(F:Stop.Interp):
  ReturnsInLeavingWide {calm:=true} ai os 10 .any (fun w args=>(Rows.exactSpec.pre Y Tryz.prog ae [] false w args/\laidMetH Tryz.prog pw w)/\sizedMet Y Tryz.prog ae (ak Rows.exactSpec) false w args)
   ((ak Rows.exactSpec).postWith Y Tryz.prog ae F (outsideKept [.timePasses]) false true false):=by
 refine Ph.Gr (C:=ai) (X:=fun w _=>laidMetH Tryz.prog pw w) (fun _ _ _ f h=>h.of_heap f) own D aj
  (GM (enc:=Y) (C:=ai) (os:=os) (X:=fun w _=>laidMetH Tryz.prog pw w) (World.doorLaid Tryz.prog 400 os) #[.slice none 0 0,.slice none 0 0,.agg #[.int .i64 0,.int .i64 0,.int .i64 0]] 8 rfl (World.shaped_of_RefB (by kernel_rfl) (by kernel_rfl)) (by kernel_rfl) (by kernel_rfl) (by kernel_rfl) (Ic os _)) ?_
 intro W base args V gs before K T _ L;have hval:∀(j:Nat) t v,ae.params[j]?=some t->args[j]?=some v->Value.okWide Tryz.prog W .any base t v:=K;have M:=T;obtain⟨p,q,I,z,rfl,c,l⟩:=T;have S:DataW.TrodAll Y Tryz.prog W 0 (fun _=>true) true ae.params.toList args.toList V p:=I;rw[ar]at S hval;obtain⟨v0,u,k,Z,o,i,N,rfl,rfl,U,r0⟩:=trodAll_cons S;obtain⟨v1,n,d1,E,r,e,rfl,rfl,rfl,B,r1⟩:=trodAll_cons r0;obtain⟨v2,b,d2,G,s,q2,rfl,rfl,rfl,J,r2⟩:=trodAll_cons r1;obtain⟨rfl,rfl,rfl⟩:=trodAll_nil r2;obtain rfl:args=#[v0,v1,v2]:=by cases args;simp_all
 obtain⟨rfl,rfl⟩:=trodVars_none z;have pO:∀x∈o,x.block<W.heap.size:=by obtain⟨m,A⟩:=U;exact ah m _ _ _ A
 have P:∀x∈r,x.block<W.heap.size:=by obtain⟨m,A⟩:=B;exact ah m _ _ _ A
 have Q:∀x∈s,x.block<W.heap.size:=by obtain⟨m,A⟩:=J;exact ah m _ _ _ A
 obtain⟨a0,l0,c0,z0,rfl,w0⟩:=yR (hval 0 25 v0 rfl rfl) U;obtain⟨a1,l1,c1,z1,rfl,w1⟩:=yR (hval 1 25 v1 rfl rfl) B;obtain⟨x2,y2,z2,rfl,w2⟩:=Jc (hval 2 28 v2 rfl rfl) J;clear I K;refine Ren.gu.close (Ph.aeg w0 w1 w2 ⟨Ph.G4 (Ph.yl L),Ph.yl L,GR L,fun _ _ _ _ y=>y⟩ fun a d g=>?_);obtain⟨R,O⟩:=Ph.GB (d:=d) g;exact⟨⟨_,_,_,[],_,[],M,trodAll_mk1 (shut_bool Tryz.underlying4 _),(trodAll_cons_mk (af laidOut (by kernel_rfl) (of_decide_eq_true (by kernel_rfl)) U R pO) (trodAll_cons_mk (af laidOut (by kernel_rfl) (of_decide_eq_true (by kernel_rfl)) B R P) (trodAll_cons_mk (af laidOut (by kernel_rfl) (of_decide_eq_true (by kernel_rfl)) J R Q) trodAll_mk0))),rfl,R.frame _,fun h=>by cases h⟩,O⟩
theorem over:Rows.ExactSaid:=
 OpenClaim.holds_of_wide_leaving_time 10 ae rfl rfl rfl rfl rfl rfl rfl ⟨rfl,rfl,rfl,rfl,rfl⟩ rfl rfl rfl rfl rfl (by kernel_rfl) aj (by kernel_rfl)
  (of_decide_eq_true (by kernel_rfl)) (by unfold Func.isWrapper;first|(rw[if_pos (by decide+kernel)];kernel_rfl)|(rw[if_neg (by decide+kernel)];exact⟨rfl,rfl⟩))
  (fun os Y H K _ F=>AA os Y H K F)
theorem card:Rows.ExactCardSaid:=
 H7 [.data,.data,.data] true Rows.exactCard.stood.harness true
  over (by kernel_rfl) exact_row_tie rfl ⟨rfl,rfl⟩ (by kernel_rfl) rfl
  (fun f fn D K=>by
   obtain rfl:f=10:=Option.some.inj ((show Program.funcNamed Tryz.prog Rows.exactRow.func=some 10 by kernel_rfl).symm.trans D)|>.symm;obtain rfl:fn=ae:=(Option.some.inj (aj.symm.trans K)).symm;exact⟨by kernel_rfl,fun j t H=>by
    rw[ar]at H;have R:t∈[25,25,28]:=by simpa using Array.mem_of_getElem? H
    have Y:([25,25,28].all fun u=>!ao Tryz.prog u)=true:=by kernel_rfl
    exact(show ao Tryz.prog t=false by simpa using List.all_eq_true.1 Y t R)⟩)
  (by kernel_rfl)
end exact
theorem exact_holds:Rows.ExactCardSaid:=exact.card
#print axioms exact_holds
end Go.Proofs.YtdcjnhipenbcfaaGreatDoor
