/-
  For all numbers of which a reference and a read are made, every number k and every choice of runs, steps and workers, spotterkeep.Wider returns true: with an error more Map, whatever the schedule of its goroutines, tells all hits that it told before, as they were, and the document's examples come out; what is handed in reads afterwards as before.
  Conditions: none beyond those of the statement itself (a tied card: the library's three tables read as the program's own text lays them).
-/
import Derived.Test.YtdcjnhipenbcfaaGreatDoorPkWider1
import Derived.Test.YtdcjnhipenbcfaaGreatDoorCards
import Derived.Test.YtdcjnhipenbcfaaGreatDoorTie
import Derived.WalkKit
import Derived.ProofKit
import Derived.OpenShut
import Derived.ShutString
import Derived.ChangeOld
import Derived.Below
import Derived.LaidMore
import Derived.Stop.Joined
import Derived.SevenTiedAt
set_option linter.unusedVariables false
set_option linter.unusedSectionVars false
set_option linter.unusedSimpArgs false
set_option maxRecDepth 100000
set_option maxHeartbeats 16000000
open Go.DataW renaming trod_lt->ah
open Go.OpenSpec renaming ofChange->ak
open Go.Program renaming wantsStandIn->ao
open Go.Proofs.Tryz renaming f13->ae,checked->ai,func13->aj,params13->ar
open Go.RowKit.Below renaming trod->af
namespace Go.Proofs.YtdcjnhipenbcfaaGreatDoor
namespace wider
open ChangeShapes WideShapes ChangeAt RowKit
theorem own:ownKnob Tryz.prog.godebug=none:=by kernel_rfl
theorem laidOut:laidOutB Tryz.prog=true:=by kernel_rfl
theorem AA(os:Os)(R:os.Started)(H:Type)(Y:TypeId×Value->H)(F:Stop.Interp):
  ReturnsInLeavingWide {calm:=true} ai os 13 .any (fun w args=>(Rows.widerSpec.pre Y Tryz.prog ae [] false w args/\laidMetH Tryz.prog pw w)/\sizedMet Y Tryz.prog ae (ak Rows.widerSpec) false w args)
   ((ak Rows.widerSpec).postWith Y Tryz.prog ae F (outsideKept [.timePasses]) false true false):=by
 refine Ph.Gr (C:=ai) (X:=fun w _=>laidMetH Tryz.prog pw w) (fun _ _ _ r h=>h.of_heap r) own R aj
  (GM (enc:=Y) (C:=ai) (os:=os) (X:=fun w _=>laidMetH Tryz.prog pw w) (World.doorLaid Tryz.prog 400 os) #[.slice none 0 0,.slice none 0 0,.int .i64 0,.agg #[.int .i64 0,.int .i64 0,.int .i64 0]] 8 rfl (World.shaped_of_RefB (by kernel_rfl) (by kernel_rfl)) (by kernel_rfl) (by kernel_rfl) (by kernel_rfl) (Ic os _)) ?_
 intro W base args E gs before D Z _ M;have hval:∀(j:Nat) t v,ae.params[j]?=some t->args[j]?=some v->Value.okWide Tryz.prog W .any base t v:=D;have N:=Z;obtain⟨p,q,A,l,rfl,o,s⟩:=Z;have V:DataW.TrodAll Y Tryz.prog W 0 (fun _=>true) true ae.params.toList args.toList E p:=A;rw[ar]at V hval;obtain⟨v0,k,d0,G,u,q0,O,rfl,rfl,U,r0⟩:=trodAll_cons V;obtain⟨v1,i,d1,z,n,q1,rfl,rfl,rfl,B,r1⟩:=trodAll_cons r0;obtain⟨v2,e,d2,c,b,q2,rfl,rfl,rfl,J,r2⟩:=trodAll_cons r1;obtain⟨v3,vs3,d3,f,a,q3,rfl,rfl,rfl,L,r3⟩:=trodAll_cons r2;obtain⟨rfl,rfl,rfl⟩:=trodAll_nil r3;obtain rfl:args=#[v0,v1,v2,v3]:=by cases args;simp_all
 obtain⟨rfl,rfl⟩:=trodVars_none l;have pO:∀x∈u,x.block<W.heap.size:=by obtain⟨m,I⟩:=U;exact ah m _ _ _ I
 have Q:∀x∈n,x.block<W.heap.size:=by obtain⟨m,I⟩:=B;exact ah m _ _ _ I
 have S:∀x∈b,x.block<W.heap.size:=by obtain⟨m,I⟩:=J;exact ah m _ _ _ I
 have T:∀x∈a,x.block<W.heap.size:=by obtain⟨m,I⟩:=L;exact ah m _ _ _ I
 obtain⟨a0,l0,c0,z0,rfl,w0⟩:=yR (hval 0 25 v0 rfl rfl) U;obtain⟨a1,l1,c1,z1,rfl,w1⟩:=yR (hval 1 25 v1 rfl rfl) B;obtain⟨n2,rfl,w2⟩:=SS (hval 2 3 v2 rfl rfl) J;obtain⟨x3,y3,z3,rfl,w3⟩:=Jc (hval 3 28 v3 rfl rfl) L;clear A D;refine Ren.gu.close (Ph.ael w0 w1 w2 w3 ⟨Ph.G4 (Ph.yl M),Ph.yl M,GR M,fun _ _ _ _ y=>y⟩ fun W' d g=>?_);obtain⟨K,P⟩:=Ph.GB (d:=d) g;exact⟨⟨_,_,_,[],_,[],N,trodAll_mk1 (shut_bool Tryz.underlying4 _),(trodAll_cons_mk (af laidOut (by kernel_rfl) (of_decide_eq_true (by kernel_rfl)) U K pO) (trodAll_cons_mk (af laidOut (by kernel_rfl) (of_decide_eq_true (by kernel_rfl)) B K Q) (trodAll_cons_mk (af laidOut (by kernel_rfl) (of_decide_eq_true (by kernel_rfl)) J K S) (trodAll_cons_mk (af laidOut (by kernel_rfl) (of_decide_eq_true (by kernel_rfl)) L K T) trodAll_mk0)))),rfl,K.frame _,fun h=>by cases h⟩,P⟩
theorem over:Rows.WiderSaid:=
 OpenClaim.holds_of_wide_leaving_time 13 ae rfl rfl rfl rfl rfl rfl rfl ⟨rfl,rfl,rfl,rfl,rfl⟩ rfl rfl rfl rfl rfl (by kernel_rfl) aj (by kernel_rfl)
  (of_decide_eq_true (by kernel_rfl)) (by unfold Func.isWrapper;first|(rw[if_pos (by decide+kernel)];kernel_rfl)|(rw[if_neg (by decide+kernel)];exact⟨rfl,rfl⟩))
  (fun os Y H K _ F=>AA os Y H K F)
theorem card:Rows.WiderCardSaid:=
 H7 [.data,.data,.data] true Rows.widerCard.stood.harness true
  over (by kernel_rfl) wider_row_tie rfl ⟨rfl,rfl⟩ (by kernel_rfl) rfl
  (fun f fn D K=>by
   obtain rfl:f=13:=Option.some.inj ((show Program.funcNamed Tryz.prog Rows.widerRow.func=some 13 by kernel_rfl).symm.trans D)|>.symm;obtain rfl:fn=ae:=(Option.some.inj (aj.symm.trans K)).symm;exact⟨by kernel_rfl,fun j t H=>by
    rw[ar]at H;have R:t∈[25,25,3,28]:=by simpa using Array.mem_of_getElem? H
    have Y:([25,25,3,28].all fun u=>!ao Tryz.prog u)=true:=by kernel_rfl
    exact(show ao Tryz.prog t=false by simpa using List.all_eq_true.1 Y t R)⟩)
  (by kernel_rfl)
end wider
theorem wider_holds:Rows.WiderCardSaid:=wider.card
#print axioms wider_holds
end Go.Proofs.YtdcjnhipenbcfaaGreatDoor
