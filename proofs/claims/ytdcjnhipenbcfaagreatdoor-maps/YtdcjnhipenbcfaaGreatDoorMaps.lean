/-
  For every script, spotterlaw.Maps returns true: every step that calls Map gets from the program, whose goroutines run under whatever schedule, the very text, error and place that the document's reference answer gives, and the script reads afterwards as it read before.
  Conditions: none beyond those of the statement itself (a tied card: the library's three tables read as the program's own text lays them).
-/
import Derived.Test.YtdcjnhipenbcfaaGreatDoorCards
import Derived.Test.YtdcjnhipenbcfaaGreatDoorTie
import Derived.WalkKit
import Derived.ProofKit
import Derived.OpenShut
import Derived.ShutString
import Derived.ChangeOld
import Derived.Below
import Derived.LaidMore
import Derived.Stop.Joined
import Derived.SevenTiedAt
import Derived.Test.YtdcjnhipenbcfaaGreatDoorPk10
set_option linter.unusedVariables false
set_option linter.unusedSectionVars false
set_option linter.unusedSimpArgs false
set_option maxRecDepth 100000
set_option maxHeartbeats 16000000
open Go.OpenSpec renaming ofChange->atV
open Go.Program renaming wantsStandIn->atT
open Go.Proofs.Tryz renaming prog->atQ,f6->atS,checked->atU,func6->atW
open Option.some renaming inj->atX
namespace Go.Proofs.YtdcjnhipenbcfaaGreatDoor
namespace maps
open ChangeShapes WideShapes ChangeAt RowKit
theorem yes(o:tq)(h5:o.ref.size<=maxLen)(h6:o.s.size<=maxLen)(h1:4<=o.kind)(h2:o.kind<=4):Ph.vv o:=Ph.Ri (Ph.Nh h5 h6 (by omega))
theorem own:ownKnob atQ.godebug=none:=by kernel_rfl
theorem laidOut:laidOutB atQ=true:=by kernel_rfl
theorem V1(os:Os)(started:os.Started)(H:Type)(enc:TypeId×Value->H)(F:Stop.Interp):
  ReturnsInLeavingWide {calm:=true} atU os 6 .any (fun w args=>(Rows.mapsSpec.pre enc atQ atS [] false w args/\laidMetH atQ xQ w)/\sizedMet enc atQ atS (atV Rows.mapsSpec) false w args)
   ((atV Rows.mapsSpec).postWith enc atQ atS F (outsideKept [.timePasses]) false true false):=by
 refine Ph.td (C:=atU) (X:=fun w _=>laidMetH atQ xQ w) (fun _ _ _ hh h=>h.of_heap hh) own started atW
  (FP (enc:=enc) (C:=atU) (os:=os) (X:=fun w _=>laidMetH atQ xQ w) (World.doorLaid atQ 400 os) #[.slice none 0 0] 8 rfl (World.shaped_of_RefB (by kernel_rfl) (by kernel_rfl)) (by kernel_rfl) (by kernel_rfl) (by kernel_rfl) (Sl os _)) ?_
 intro W base args ds gs before aa_ hW _ hL;have Zs:∀(j:Nat) t v,atS.params[j]?=some t->args[j]?=some v->Value.okWide atQ W .any base t v:=aa_;have hW':=hW;obtain⟨p,q,hA0,hV,rfl,hfz,hnd⟩:=hW;have hA:DataW.TrodAll enc atQ W 0 (fun _=>true) true atS.params.toList args.toList ds p:=hA0;rw[Tryz.params6]at hA Zs;obtain⟨v0,vs0,d0,ds0,p0,q0,aaX,rfl,rfl,h0,r0⟩:=trodAll_cons hA;obtain⟨rfl,rfl,rfl⟩:=trodAll_nil r0;obtain rfl:args=#[v0]:=by cases args;simp_all
 obtain⟨rfl,rfl⟩:=trodVars_none hV;obtain⟨a0,arz,arA,rfl⟩:=okWide_slice Tryz.underlying22 (Zs 0 22 v0 rfl rfl);have k0:=h0;have V_:∀x∈p0,x.block<W.heap.size:=by obtain⟨m,hm⟩:=k0;exact DataW.trod_lt m _ _ _ hm
 obtain⟨z0,w0⟩:∃zs,Gi W a0 arz arA zs:=by
  obtain⟨fuel,hf⟩:=h0;exact abI (by simpa[Value.cells]using hf)
 clear hA0 aa_;refine Ren.aZ.close (Ph.Zu w0 yes (Ph.FY hL) (GF hL) fun W' d g=>?_);obtain⟨bel,lat⟩:=Ph.CB (d:=d) g;exact⟨⟨_,_,_,[],_,[],hW',trodAll_mk1 (shut_bool Tryz.underlying4 _),(trodAll_cons_mk (Below.trod laidOut (by kernel_rfl) (of_decide_eq_true (by kernel_rfl)) k0 bel V_) trodAll_mk0),rfl,bel.frame _,fun h=>by cases h⟩,lat⟩
theorem over:Rows.MapsSaid:=
 OpenClaim.holds_of_wide_leaving_time 6 atS rfl rfl rfl rfl rfl rfl rfl ⟨rfl,rfl,rfl,rfl,rfl⟩ rfl rfl rfl rfl rfl (by kernel_rfl) atW (by kernel_rfl)
  (of_decide_eq_true (by kernel_rfl)) (by unfold Func.isWrapper;first|(rw[if_pos (by decide+kernel)];kernel_rfl)|(rw[if_neg (by decide+kernel)];exact⟨rfl,rfl⟩))
  (fun os started H enc _ F=>V1 os started H enc F)
theorem card:Rows.MapsCardSaid:=
 QY [.data,.data,.data] true Rows.mapsCard.stood.harness true
  over (by kernel_rfl) maps_row_tie rfl ⟨rfl,rfl⟩ (by kernel_rfl) rfl
  (fun f fn hf aY=>by
   obtain rfl:f=6:=atX ((show Program.funcNamed atQ Rows.mapsRow.func=some 6 by kernel_rfl).symm.trans hf)|>.symm;obtain rfl:fn=atS:=(atX (atW.symm.trans aY)).symm;exact⟨by kernel_rfl,fun j t ht=>by
    rw[Tryz.params6]at ht;have hm:t∈[22]:=by simpa using Array.mem_of_getElem? ht
    have sc:([22].all fun u=>!atT atQ u)=true:=by kernel_rfl
    exact(show atT atQ t=false by simpa using List.all_eq_true.1 sc t hm)⟩)
  (by kernel_rfl)
end maps
theorem maps_holds:Rows.MapsCardSaid:=maps.card
#print axioms maps_holds
end Go.Proofs.YtdcjnhipenbcfaaGreatDoor
