/-
  For all numbers of which a reference and two reads are made, every number k and every choice of runs, steps and workers, spotterkeep.Apart returns true: of two reads Map, whatever the schedule of its goroutines, tells what it tells of each, one behind the other, and the document's examples come out; what is handed in reads afterwards as before.
  Conditions: none beyond those of the statement itself (a tied card: the library's three tables read as the program's own text lays them).
-/
import Derived.Test.YtdcjnhipenbcfaaGreatDoorPkApart1
import Derived.Test.YtdcjnhipenbcfaaGreatDoorCards
import Derived.Test.YtdcjnhipenbcfaaGreatDoorTie
import Derived.WalkKit
import Derived.ProofKit
import Derived.OpenShut
import Derived.ShutString
import Derived.ChangeOld
import Derived.Below
import Derived.LaidMore
import Derived.Stop.Joined
import Derived.SevenTiedAt
set_option linter.unusedVariables false
set_option linter.unusedSectionVars false
set_option linter.unusedSimpArgs false
set_option maxRecDepth 100000
set_option maxHeartbeats 16000000
open Go.DataW renaming trod_lt->akR
open Go.OpenSpec renaming ofChange->akW
open Go.Program renaming wantsStandIn->akU
open Go.Proofs.Tryz renaming f11->akS,checked->akV,func11->akX
open Go.RowKit.Below renaming trod->akT
namespace Go.Proofs.YtdcjnhipenbcfaaGreatDoor
namespace apart
open ChangeShapes WideShapes ChangeAt RowKit
theorem own:ownKnob Tryz.prog.godebug=none:=by kernel_rfl
theorem laidOut:laidOutB Tryz.prog=true:=by kernel_rfl
theorem vn(os:Os)(started:os.Started)(H:Type)(enc:TypeId×Value->H)(F:Stop.Interp):
  ReturnsInLeavingWide {calm:=true} akV os 11 .any (fun w args=>(Rows.apartSpec.pre enc Tryz.prog akS [] false w args/\laidMetH Tryz.prog lC w)/\sizedMet enc Tryz.prog akS (akW Rows.apartSpec) false w args)
   ((akW Rows.apartSpec).postWith enc Tryz.prog akS F (outsideKept [.timePasses]) false true false):=by
 refine Ph.iT (C:=akV) (X:=fun w _=>laidMetH Tryz.prog lC w) (fun _ _ _ o h=>h.of_heap o) own started akX
  (pK (enc:=enc) (C:=akV) (os:=os) (X:=fun w _=>laidMetH Tryz.prog lC w) (World.doorLaid Tryz.prog 400 os) #[.slice none 0 0,.slice none 0 0,.slice none 0 0,.int .i64 0,.agg #[.int .i64 0,.int .i64 0,.int .i64 0]] 8 rfl (World.shaped_of_RefB (by kernel_rfl) (by kernel_rfl)) (by kernel_rfl) (by kernel_rfl) (by kernel_rfl) (Ac os _)) ?_
 intro W base args V gs before K hW _ J;have hval:∀(j:Nat) t v,akS.params[j]?=some t->args[j]?=some v->Value.okWide Tryz.prog W .any base t v:=K;have L:=hW;obtain⟨p,q,D,f,rfl,l,r⟩:=hW;have T:DataW.TrodAll enc Tryz.prog W 0 (fun _=>true) true akS.params.toList args.toList V p:=D;rw[Tryz.params11]at T hval;obtain⟨v0,b,d0,Z,s,q0,M,rfl,rfl,R,r0⟩:=trodAll_cons T;obtain⟨v1,a,d1,E,u,q1,rfl,rfl,rfl,I,r1⟩:=trodAll_cons r0;obtain⟨v2,k,d2,G,p2,q2,rfl,rfl,rfl,A,r2⟩:=trodAll_cons r1;obtain⟨v3,i,d3,z,p3,q3,rfl,rfl,rfl,U,r3⟩:=trodAll_cons r2;obtain⟨v4,e,d4,c,p4,q4,rfl,rfl,rfl,B,n⟩:=trodAll_cons r3;obtain⟨rfl,rfl,rfl⟩:=trodAll_nil n;obtain rfl:args=#[v0,v1,v2,v3,v4]:=by cases args;simp_all
 obtain⟨rfl,rfl⟩:=trodVars_none f;have IU:∀x∈s,x.block<W.heap.size:=by obtain⟨m,hm⟩:=R;exact akR m _ _ _ hm
 have O:∀x∈u,x.block<W.heap.size:=by obtain⟨m,hm⟩:=I;exact akR m _ _ _ hm
 have P:∀x∈p2,x.block<W.heap.size:=by obtain⟨m,hm⟩:=A;exact akR m _ _ _ hm
 have Q:∀x∈p3,x.block<W.heap.size:=by obtain⟨m,hm⟩:=U;exact akR m _ _ _ hm
 have S:∀x∈p4,x.block<W.heap.size:=by obtain⟨m,hm⟩:=B;exact akR m _ _ _ hm
 obtain⟨a0,l0,c0,z0,rfl,w0⟩:=pS (hval 0 25 v0 rfl rfl) R;obtain⟨a1,l1,c1,z1,rfl,w1⟩:=pS (hval 1 25 v1 rfl rfl) I;obtain⟨a2,l2,c2,z2,rfl,w2⟩:=pS (hval 2 25 v2 rfl rfl) A;obtain⟨n3,rfl,w3⟩:=Ml (hval 3 3 v3 rfl rfl) U;obtain⟨x4,y4,z4,rfl,w4⟩:=zL (hval 4 28 v4 rfl rfl) B;clear D K;refine Ren.aH.close (Ph.Mr w0 w1 w2 w3 w4 ⟨Ph.rX (Ph.ik J),Ph.ik J,q7 J,fun _ _ _ _ y=>y⟩ fun W' d g=>?_);obtain⟨Y,N⟩:=Ph.nK (d:=d) g;exact⟨⟨_,_,_,[],_,[],L,trodAll_mk1 (shut_bool Tryz.underlying4 _),(trodAll_cons_mk (akT laidOut (by kernel_rfl) (of_decide_eq_true (by kernel_rfl)) R Y IU) (trodAll_cons_mk (akT laidOut (by kernel_rfl) (of_decide_eq_true (by kernel_rfl)) I Y O) (trodAll_cons_mk (akT laidOut (by kernel_rfl) (of_decide_eq_true (by kernel_rfl)) A Y P) (trodAll_cons_mk (akT laidOut (by kernel_rfl) (of_decide_eq_true (by kernel_rfl)) U Y Q) (trodAll_cons_mk (akT laidOut (by kernel_rfl) (of_decide_eq_true (by kernel_rfl)) B Y S) trodAll_mk0))))),rfl,Y.frame _,fun h=>by cases h⟩,N⟩
theorem over:Rows.ApartSaid:=
 OpenClaim.holds_of_wide_leaving_time 11 akS rfl rfl rfl rfl rfl rfl rfl ⟨rfl,rfl,rfl,rfl,rfl⟩ rfl rfl rfl rfl rfl (by kernel_rfl) akX (by kernel_rfl)
  (of_decide_eq_true (by kernel_rfl)) (by unfold Func.isWrapper;first|(rw[if_pos (by decide+kernel)];kernel_rfl)|(rw[if_neg (by decide+kernel)];exact⟨rfl,rfl⟩))
  (fun os started H enc _ F=>vn os started H enc F)
theorem card:Rows.ApartCardSaid:=
 yb [.data,.data,.data] true Rows.apartCard.stood.harness true
  over (by kernel_rfl) apart_row_tie rfl ⟨rfl,rfl⟩ (by kernel_rfl) rfl
  (fun f fn D K=>by
   obtain rfl:f=11:=Option.some.inj ((show Program.funcNamed Tryz.prog Rows.apartRow.func=some 11 by kernel_rfl).symm.trans D)|>.symm;obtain rfl:fn=akS:=(Option.some.inj (akX.symm.trans K)).symm;exact⟨by kernel_rfl,fun j t H=>by
    rw[Tryz.params11]at H;have hm:t∈[25,25,25,3,28]:=by simpa using Array.mem_of_getElem? H
    have Y:([25,25,25,3,28].all fun u=>!akU Tryz.prog u)=true:=by kernel_rfl
    exact(show akU Tryz.prog t=false by simpa using List.all_eq_true.1 Y t hm)⟩)
  (by kernel_rfl)
end apart
theorem apart_holds:Rows.ApartCardSaid:=apart.card
#print axioms apart_holds
end Go.Proofs.YtdcjnhipenbcfaaGreatDoor
