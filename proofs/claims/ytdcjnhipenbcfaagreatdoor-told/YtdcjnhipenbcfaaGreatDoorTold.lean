/-
  For all numbers of which a reference and a read are made, every number k and every choice of runs, steps and workers, spotterkeep.Told returns true: out of each record that Map, whatever the schedule of its goroutines, tells of the read the reference's own bases can be made again, the number of errors is what its letters and differences tell and at most k, bases, flags, names and marks are as they should be, and ends rise on each strand; where there is no hit there is one record of flag 4; k that is not below the number of bases is an error; and the document's examples come out; what is handed in reads afterwards as before.
  Conditions: none beyond those of the statement itself (a tied card: the library's three tables read as the program's own text lays them).
-/
import Derived.Test.YtdcjnhipenbcfaaGreatDoorPk8
import Derived.Test.YtdcjnhipenbcfaaGreatDoorCards
import Derived.Test.YtdcjnhipenbcfaaGreatDoorTie
import Derived.WalkKit
import Derived.ProofKit
import Derived.OpenShut
import Derived.ShutString
import Derived.ChangeOld
import Derived.Below
import Derived.LaidMore
import Derived.Stop.Joined
import Derived.SevenTiedAt
set_option linter.unusedVariables false
set_option linter.unusedSectionVars false
set_option linter.unusedSimpArgs false
set_option maxRecDepth 100000
set_option maxHeartbeats 16000000
open Go renaming trodAll_cons_mk->aj,laidMetH->ar
open Go.DataW renaming trod_lt->ai
open Go.OpenSpec renaming ofChange->au
open Go.Program renaming wantsStandIn->ax
open Go.Proofs.Tryz renaming prog->ae,f8->af,checked->ak,func8->ao,params8->ay
open Go.RowKit.Below renaming trod->ah
namespace Go.Proofs.YtdcjnhipenbcfaaGreatDoor
namespace told
open ChangeShapes WideShapes ChangeAt RowKit
theorem own:ownKnob ae.godebug=none:=by kernel_rfl
theorem laidOut:laidOutB ae=true:=by kernel_rfl
theorem ado(os:Os)(I:os.Started)(H:Type)(K:TypeId×Value->H)(F:Stop.Interp):
  ReturnsInLeavingWide {calm:=true} ak os 8 .any (fun w args=>(Rows.toldSpec.pre K ae af [] false w args/\ar ae uH w)/\sizedMet K ae af (au Rows.toldSpec) false w args)
   ((au Rows.toldSpec).postWith K ae af F (outsideKept [.timePasses]) false true false):=by
 refine Ph.VM (C:=ak) (X:=fun w _=>ar ae uH w) (fun _ _ _ u h=>h.of_heap u) own I ao
  (Xd (enc:=K) (C:=ak) (os:=os) (X:=fun w _=>ar ae uH w) (World.doorLaid ae 400 os) #[.slice none 0 0,.slice none 0 0,.int .i64 0,.agg #[.int .i64 0,.int .i64 0,.int .i64 0]] 8 rfl (World.shaped_of_RefB (by kernel_rfl) (by kernel_rfl)) (by kernel_rfl) (by kernel_rfl) (by kernel_rfl) (abv os _)) ?_
 intro W base args z gs B R G _ O;have Y:∀(j:Nat) t v,af.params[j]?=some t->args[j]?=some v->Value.okWide ae W .any base t v:=R;have P:=G;obtain⟨p,q,U,r,rfl,s,n⟩:=G;have E:DataW.TrodAll K ae W 0 (fun _=>true) true af.params.toList args.toList z p:=U;rw[ay]at E Y;obtain⟨v0,e,d0,c,b,q0,Q,rfl,rfl,J,r0⟩:=trodAll_cons E;obtain⟨v1,vs1,d1,f,a,q1,rfl,rfl,rfl,L,r1⟩:=trodAll_cons r0;obtain⟨v2,vs2,d2,l,k,q2,rfl,rfl,rfl,M,r2⟩:=trodAll_cons r1;obtain⟨v3,vs3,d3,o,i,q3,rfl,rfl,rfl,N,r3⟩:=trodAll_cons r2;obtain⟨rfl,rfl,rfl⟩:=trodAll_nil r3;obtain rfl:args=#[v0,v1,v2,v3]:=by cases args;simp_all
 obtain⟨rfl,rfl⟩:=trodVars_none r;have sC:∀x∈b,x.block<W.heap.size:=by obtain⟨m,A⟩:=J;exact ai m _ _ _ A
 have T:∀x∈a,x.block<W.heap.size:=by obtain⟨m,A⟩:=L;exact ai m _ _ _ A
 have V:∀x∈k,x.block<W.heap.size:=by obtain⟨m,A⟩:=M;exact ai m _ _ _ A
 have Z:∀x∈i,x.block<W.heap.size:=by obtain⟨m,A⟩:=N;exact ai m _ _ _ A
 obtain⟨a0,l0,c0,z0,rfl,w0⟩:=QR (Y 0 25 v0 rfl rfl) J;obtain⟨a1,l1,c1,z1,rfl,w1⟩:=QR (Y 1 25 v1 rfl rfl) L;obtain⟨n2,rfl,w2⟩:=ahg (Y 2 3 v2 rfl rfl) M;obtain⟨x3,y3,z3,rfl,w3⟩:=afd (Y 3 28 v3 rfl rfl) N;clear U R;refine Ren.gn.close (Ph.afx w0 w1 w2 w3 ⟨Ph.Yc (Ph.MJ O),Ph.MJ O,Xk O,fun _ _ _ _ y=>y⟩ fun W' d g=>?_);obtain⟨D,S⟩:=Ph.WJ (d:=d) g;exact⟨⟨_,_,_,[],_,[],P,trodAll_mk1 (shut_bool Tryz.underlying4 _),(aj (ah laidOut (by kernel_rfl) (of_decide_eq_true (by kernel_rfl)) J D sC) (aj (ah laidOut (by kernel_rfl) (of_decide_eq_true (by kernel_rfl)) L D T) (aj (ah laidOut (by kernel_rfl) (of_decide_eq_true (by kernel_rfl)) M D V) (aj (ah laidOut (by kernel_rfl) (of_decide_eq_true (by kernel_rfl)) N D Z) trodAll_mk0)))),rfl,D.frame _,fun h=>by cases h⟩,S⟩
theorem over:Rows.ToldSaid:=
 OpenClaim.holds_of_wide_leaving_time 8 af rfl rfl rfl rfl rfl rfl rfl ⟨rfl,rfl,rfl,rfl,rfl⟩ rfl rfl rfl rfl rfl (by kernel_rfl) ao (by kernel_rfl)
  (of_decide_eq_true (by kernel_rfl)) (by unfold Func.isWrapper;first|(rw[if_pos (by decide+kernel)];kernel_rfl)|(rw[if_neg (by decide+kernel)];exact⟨rfl,rfl⟩))
  (fun os Y H K _ F=>ado os Y H K F)
theorem card:Rows.ToldCardSaid:=
 aaS [.data,.data,.data] true Rows.toldCard.stood.harness true
  over (by kernel_rfl) told_row_tie rfl ⟨rfl,rfl⟩ (by kernel_rfl) rfl
  (fun f fn D K=>by
   obtain rfl:f=8:=Option.some.inj ((show Program.funcNamed ae Rows.toldRow.func=some 8 by kernel_rfl).symm.trans D)|>.symm;obtain rfl:fn=af:=(Option.some.inj (ao.symm.trans K)).symm;exact⟨by kernel_rfl,fun j t H=>by
    rw[ay]at H;have R:t∈[25,25,3,28]:=by simpa using Array.mem_of_getElem? H
    have Y:([25,25,3,28].all fun u=>!ax ae u)=true:=by kernel_rfl
    exact(show ax ae t=false by simpa using List.all_eq_true.1 Y t R)⟩)
  (by kernel_rfl)
end told
theorem told_holds:Rows.ToldCardSaid:=told.card
#print axioms told_holds
end Go.Proofs.YtdcjnhipenbcfaaGreatDoor
