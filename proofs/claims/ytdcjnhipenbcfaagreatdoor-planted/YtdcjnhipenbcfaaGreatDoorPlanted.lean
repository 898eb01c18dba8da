/-
  For all numbers of which a reference (without N) is made, every place and length, every list of edits, flipped or not, and every choice of runs, steps and workers, spotterkeep.Planted returns true: what is taken out of the reference, with up to four errors put in, is found by Map, whatever the schedule of its goroutines: on that strand, with that end, with no more errors than were put in; Bins tells the stretch that holds it, with k bases more ahead; and the document's examples come out; what is handed in reads afterwards as before.
  Conditions: none beyond those of the statement itself (a tied card: the library's three tables read as the program's own text lays them).
-/
import Derived.Test.YtdcjnhipenbcfaaGreatDoorPk6
import Derived.Test.YtdcjnhipenbcfaaGreatDoorCards
import Derived.Test.YtdcjnhipenbcfaaGreatDoorTie
import Derived.WalkKit
import Derived.ProofKit
import Derived.OpenShut
import Derived.ShutString
import Derived.ChangeOld
import Derived.Below
import Derived.LaidMore
import Derived.Stop.Joined
import Derived.SevenTiedAt
set_option linter.unusedVariables false
set_option linter.unusedSectionVars false
set_option linter.unusedSimpArgs false
set_option maxRecDepth 100000
set_option maxHeartbeats 16000000
open Go renaming trodAll_cons_mk->aj,laidMetH->ar
open Go.DataW renaming trod_lt->ai
open Go.OpenSpec renaming ofChange->au
open Go.Program renaming wantsStandIn->ax
open Go.Proofs.Tryz renaming prog->ae,f7->af,checked->ak,func7->ao,params7->ay
open Go.RowKit.Below renaming trod->ah
namespace Go.Proofs.YtdcjnhipenbcfaaGreatDoor
namespace planted
open ChangeShapes WideShapes ChangeAt RowKit
theorem own:ownKnob ae.godebug=none:=by kernel_rfl
theorem laidOut:laidOutB ae=true:=by kernel_rfl
theorem aed(os:Os)(A:os.Started)(H:Type)(D:TypeId×Value->H)(F:Stop.Interp):
  ReturnsInLeavingWide {calm:=true} ak os 7 .any (fun w args=>(Rows.plantedSpec.pre D ae af [] false w args/\ar ae vf w)/\sizedMet D ae af (au Rows.plantedSpec) false w args)
   ((au Rows.plantedSpec).postWith D ae af F (outsideKept [.timePasses]) false true false):=by
 refine Ph.Wi (C:=ak) (X:=fun w _=>ar ae vf w) (fun _ _ _ e h=>h.of_heap e) own A ao
  (XE (enc:=D) (C:=ak) (os:=os) (X:=fun w _=>ar ae vf w) (World.doorLaid ae 400 os) #[.slice none 0 0,.int .i64 0,.int .i64 0,.slice none 0 0,.bool false,.agg #[.int .i64 0,.int .i64 0,.int .i64 0]] 8 rfl (World.shaped_of_RefB (by kernel_rfl) (by kernel_rfl)) (by kernel_rfl) (by kernel_rfl) (by kernel_rfl) (ace os _)) ?_
 intro W base args o gs B I l _ Q;have Y:∀(j:Nat) t v,af.params[j]?=some t->args[j]?=some v->Value.okWide ae W .any base t v:=I;have S:=l;obtain⟨p,q,U,k,rfl,i,hnd⟩:=l;have f:DataW.TrodAll D ae W 0 (fun _=>true) true af.params.toList args.toList o p:=U;rw[ay]at f Y;obtain⟨v0,vs0,d0,r,p0,q0,T,rfl,rfl,J,r0⟩:=trodAll_cons f;obtain⟨v1,vs1,d1,s,p1,q1,rfl,rfl,rfl,L,r1⟩:=trodAll_cons r0;obtain⟨v2,vs2,d2,u,p2,q2,rfl,rfl,rfl,M,r2⟩:=trodAll_cons r1;obtain⟨v3,vs3,d3,n,p3,q3,rfl,rfl,rfl,N,r3⟩:=trodAll_cons r2;obtain⟨v4,vs4,d4,b,p4,q4,rfl,rfl,rfl,O,r4⟩:=trodAll_cons r3;obtain⟨v5,vs5,d5,a,p5,q5,rfl,rfl,rfl,P,r5⟩:=trodAll_cons r4;obtain⟨rfl,rfl,rfl⟩:=trodAll_nil r5;obtain rfl:args=#[v0,v1,v2,v3,v4,v5]:=by cases args;simp_all
 obtain⟨rfl,rfl⟩:=trodVars_none k;have sX:∀x∈p0,x.block<W.heap.size:=by obtain⟨m,R⟩:=J;exact ai m _ _ _ R
 have Z:∀x∈p1,x.block<W.heap.size:=by obtain⟨m,R⟩:=L;exact ai m _ _ _ R
 have E:∀x∈p2,x.block<W.heap.size:=by obtain⟨m,R⟩:=M;exact ai m _ _ _ R
 have G:∀x∈p3,x.block<W.heap.size:=by obtain⟨m,R⟩:=N;exact ai m _ _ _ R
 have z:∀x∈p4,x.block<W.heap.size:=by obtain⟨m,R⟩:=O;exact ai m _ _ _ R
 have c:∀x∈p5,x.block<W.heap.size:=by obtain⟨m,R⟩:=P;exact ai m _ _ _ R
 obtain⟨a0,l0,c0,z0,rfl,w0⟩:=aik (Y 0 25 v0 rfl rfl) J;obtain⟨n1,rfl,w1⟩:=Sz (Y 1 3 v1 rfl rfl) L;obtain⟨n2,rfl,w2⟩:=Sz (Y 2 3 v2 rfl rfl) M;obtain⟨a3,l3,c3,z3,rfl,w3⟩:=aec (Y 3 26 v3 rfl rfl) N;obtain⟨f4,rfl⟩:=agk (Y 4 4 v4 rfl rfl) O;obtain⟨x5,y5,z5,rfl,w5⟩:=afY (Y 5 28 v5 rfl rfl) P;clear U I;refine Ren.gL.close (Ph.agj w0 w1 w2 w3 w5 ⟨Ph.YD (Ph.Nq Q),Ph.Nq Q,XL Q,fun _ _ _ _ y=>y⟩ fun W' d g=>?_);obtain⟨K,V⟩:=Ph.Xh (d:=d) g;exact⟨⟨_,_,_,[],_,[],S,trodAll_mk1 (shut_bool Tryz.underlying4 _),(aj (ah laidOut (by kernel_rfl) (of_decide_eq_true (by kernel_rfl)) J K sX) (aj (ah laidOut (by kernel_rfl) (of_decide_eq_true (by kernel_rfl)) L K Z) (aj (ah laidOut (by kernel_rfl) (of_decide_eq_true (by kernel_rfl)) M K E) (aj (ah laidOut (by kernel_rfl) (of_decide_eq_true (by kernel_rfl)) N K G) (aj (ah laidOut (by kernel_rfl) (of_decide_eq_true (by kernel_rfl)) O K z) (aj (ah laidOut (by kernel_rfl) (of_decide_eq_true (by kernel_rfl)) P K c) trodAll_mk0)))))),rfl,K.frame _,fun h=>by cases h⟩,V⟩
theorem over:Rows.PlantedSaid:=
 OpenClaim.holds_of_wide_leaving_time 7 af rfl rfl rfl rfl rfl rfl rfl ⟨rfl,rfl,rfl,rfl,rfl⟩ rfl rfl rfl rfl rfl (by kernel_rfl) ao (by kernel_rfl)
  (of_decide_eq_true (by kernel_rfl)) (by unfold Func.isWrapper;first|(rw[if_pos (by decide+kernel)];kernel_rfl)|(rw[if_neg (by decide+kernel)];exact⟨rfl,rfl⟩))
  (fun os Y H K _ F=>aed os Y H K F)
theorem card:Rows.PlantedCardSaid:=
 abF [.data,.data,.data] true Rows.plantedCard.stood.harness true
  over (by kernel_rfl) planted_row_tie rfl ⟨rfl,rfl⟩ (by kernel_rfl) rfl
  (fun f fn D K=>by
   obtain rfl:f=7:=Option.some.inj ((show Program.funcNamed ae Rows.plantedRow.func=some 7 by kernel_rfl).symm.trans D)|>.symm;obtain rfl:fn=af:=(Option.some.inj (ao.symm.trans K)).symm;exact⟨by kernel_rfl,fun j t H=>by
    rw[ay]at H;have R:t∈[25,3,3,26,4,28]:=by simpa using Array.mem_of_getElem? H
    have Y:([25,3,3,26,4,28].all fun u=>!ax ae u)=true:=by kernel_rfl
    exact(show ax ae t=false by simpa using List.all_eq_true.1 Y t R)⟩)
  (by kernel_rfl)
end planted
theorem planted_holds:Rows.PlantedCardSaid:=planted.card
#print axioms planted_holds
end Go.Proofs.YtdcjnhipenbcfaaGreatDoor
