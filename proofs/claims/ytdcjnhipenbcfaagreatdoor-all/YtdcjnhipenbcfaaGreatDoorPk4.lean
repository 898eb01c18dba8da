/-
  Own text. Part 4 of what the claim rests on.
-/
import Derived.Test.YtdcjnhipenbcfaaGreatDoorPk3
import Derived.Test.YtdcjnhipenbcfaaGreatDoorProg
import Derived.Conc.CompanyMem
import Derived.Maps.OwnSet
import Derived.Conc.Events
import Derived.Shelf.Strings.OnBuilder
import Derived.Shelf.SlIterI.Nil
import Derived.Shelf.SortM.Plain
import Derived.Shelf.SortM.SortNone
import Derived.Ground.GgzProg
import Derived.Ground.SlgmProg
import Derived.Shelf.Strings.Builder1
import Derived.Shelf.Small.Strs
import Derived.Shelf.LaysM
import Derived.Shelf.Strconv.Itoa3
import Derived.OwnWalk
set_option linter.unusedVariables false
set_option linter.unusedSectionVars false
set_option linter.unusedSimpArgs false
set_option maxRecDepth 100000
set_option maxHeartbeats 16000000
open Array renaming getElem?_eq_none->a_,getElem?_eq_some_iff->bk,getElem?_map->bm,mem_of_getElem?->bp,all_eq_true_iff_forall_mem->bF,getElem?_eq_getElem->bG,getElem?_setIfInBounds_ne->cn,getD_eq_getD_getElem?->dG,getElem?_setIfInBounds_self_of_lt->dH,mem_iff_getElem->dI
open Bool renaming and_eq_true->ax,not_eq_true->bq,noConfusion->cR,or_eq_true->cS
open ByteArray renaming size_extract->dK
open Go renaming World->ae,Value->af,Frame->ah,undef->ai,execOp->aj,Goroutine->ak,TypeId->au,stepG->az,Calls->aD,TypeInfo->aI,cell_of_row->aK,Deferred->aL,Operand->aN,FuncId->aQ,typeInfo->aZ,TypeDesc->bC,sizeOf->bE,heap_alloc_old->bP,CallKind->bQ,Trace->bW,heap_alloc_new->ck,Tables->cB,frozen_of_row->cK,zeroValue->cQ,MapEntry->cY,info_parts->dy,madeCells->dz,plainElem->dA,run_underlying->dB,yielded->dE,heap_setCell_same->akj,plainElem_int->akk,wpList_append_own->akn
open Go.Code renaming wp_mono->dL
open Go.Conc renaming run_eq_of->aA,stepG_seq->aU,seen_none->bD,listed_nil->cm,Deaf_other->cv,mem_listed->cM,opsC_unwanted->cO,stepG_cond->cP,seenStep->dC,seen_def->dD,runT_crowd_go->akl,woken_quitsD->akm
open Go.DataW renaming put_eq->dM
open Go.Instr renaming mapUpdate->aM,lookup->aT,findNow->bH,findKey->cT,checkKey->dO,indexAt->dP,keyThatStays->dQ,makeSlice->dR,sameBits->dS,sameNow->dU
open Go.IntKind renaming i64->bI
open Go.Lib renaming IsBuilder->bc,byteCells->bg,cell_of_heap->bR,strCells->cw,BuilderAt->cV,frozen_of_heap->dW
open Go.Lib.BuilderAt renaming put->dV
open Go.Made renaming reckon->bJ,reckonStruct->bT,infoAt->cz
open Go.MapKept renaming run_getObj_map->bK,run_setObj_map->eh
open Go.MemAct renaming ofEvent->bU,touch?->cA
open Go.MemOp renaming ofEvents->ei
open Go.Oper renaming upon_value->et
open Go.Proofs.Builder renaming Extra->dJ
open Go.Proofs.Tryz renaming f140->aP,isAgg3->aV,sizeOf3->aW,underlying3->aX,zeroValue3->aY,isAgg0->bt,sizeOf0->bu,underlying0->bA,zeroValue0->bB,underlying100->bM,underlying79->bN,underlying9->bO,isAgg5->bX,isAgg9->bY,sizeOf5->bZ,sizeOf9->b_,underlying5->cf,zeroValue5->cg,zeroValue9->cj,isAgg4->cC,isAgg79->cD,sizeOf4->cE,sizeOf79->cG,underlying4->cH,zeroValue4->cI,zeroValue79->cJ,func113->c9,isAgg100->c_,isAgg102->da,isAgg25->db,sizeOf100->dc,sizeOf102->de,sizeOf25->dh,underlying102->di,underlying159->dj,underlying25->dk,zeroValue100->dp,zeroValue102->dq,zeroValue25->dt,func134->ey,func152->ez,func156->eA,isAgg139->eB,isAgg170->eC,isAgg176->eD,isAgg185->eE,isAgg20->eG,isAgg204->eH,sizeOf139->eI,sizeOf170->eJ,sizeOf176->eK,sizeOf185->eL,sizeOf20->eM,sizeOf204->eN,underlying139->eO,underlying170->eP,underlying176->eQ,underlying185->eR,underlying20->eS,underlying204->eT,zeroValue139->eU,zeroValue170->eV,zeroValue176->eW,zeroValue185->eX,zeroValue20->eY,zeroValue204->eZ
open Go.Proofs.YtdcjnhipenbcfaaGreatDoor.Ph.Tz renaming kU->ay
open Go.Proofs.YtdcjnhipenbcfaaGreatDoor.Ph.iA renaming closes->dx
open Go.Proofs.YtdcjnhipenbcfaaGreatDoor.Ren.gR renaming refl->dv
open Go.Proofs.YtdcjnhipenbcfaaGreatDoor.Ren.gd renaming tree->cL
open Go.Region renaming wanted->c8,noSelect->eu
open Go.RowKit renaming Below->ar
open Go.RowKit.Below renaming refl->cu
open Go.Sem renaming events->aO
open Go.Tables renaming info?->ew
open Go.Value renaming chan->du
open Go.World renaming cell?->aJ,frozen?->aki
open Int renaming ofNat_lt->cU
open List renaming length_append->bS,foldl_cons->cx,getElem?_eq_getElem->cy,all_eq_true->cW,getElem?_take->cX,getElem?_eq_none->dX,length_map->dY,mem_append->dZ,mem_map->d_,mem_of_getElem?->ec,mem_range->ef,take_length->eg
open Nat renaming lt_of_lt_of_le->aB,le_refl->aH,lt_of_not_le->bh,le_trans->br,not_lt_zero->bL,zero_add->bV,le_of_eq->cZ,lt_or_ge->c7,eq_zero_or_pos->ej,lt_irrefl->ek,strongRecOn->eo,sub_self->ep
open Option renaming bind_eq_some_iff->ao,map_eq_some_iff->bj
namespace Go.Proofs.YtdcjnhipenbcfaaGreatDoor
abbrev e_:=ByteArray
variable {bd main rd:Bool}{NM mk s:e_}{f f1:ah}{fn:aQ}{g1:ak}{z:Int}{cs l:List ah}{k0 kk:List Item}{L R ks l1 l2:List Nat}{Z:Loc->Prop}{Fd Wg cap cc clock fuel i n I q u:Nat}{XX jJ:Nat->Nat->Prop}{RO S X':Nat->Prop}{y:aN}{ow:Option Nat}{t t':au}{v work:af}{w w' w2 wr:ae}
namespace Ph
open Conc Ren
noncomputable def lO:=(go1 (no lG) (oe Z0 1 0)).1.todo
def px(a:List _)(nv:af)(len i:Nat):=a++[(31,nv),(32,iv len),(33,iv i)]
noncomputable def A3:=(go1 (yes lO) (px Z0 (gU none 0 0) 0 0)).1.todo
def A4(a:List _)(nv:af)(len i:Nat):=px a nv len i++[(35,iv i)]
noncomputable def K1:=(o8 A3 (A4 Z0 (gU none 0 0) 0 0) (ptr 0)).1.todo
def K6(a:List _)(nv:af)(len i:Nat)(p:Addr):=px a nv len i++[(35,iv i),(36,.pointer (some p))]
noncomputable def sR:=(o8 K1 (K6 Z0 (gU none 0 0) 0 0 ⟨0,0,none⟩) (iv 0)).1.todo
def aR(a:List _)(nv:af)(len i x n Gv:Nat):=px a nv len i++[(9,iv i),(10,iv x),(38,qL Gv n),(39,iv i),(40,iv n)]
noncomputable def EJ:=(o8 sR (aR Z0 (gU none 0 0) 0 0 0 1 0) (iv 0)).1.todo
def EK(a:List _)(nv:af)(len i x n Gv m:Nat):=px a nv len i++[(10,iv x),(38,qL Gv n),(41,iv m)]
noncomputable def K8:=(o8 EJ (EK Z0 (gU none 0 0) 0 0 0 1 0 0) (ptr 0)).1.todo
def K9(a:List _)(nv:af)(len i x Gv m:Nat):=px a nv len i++[(10,iv x),(42,.pointer (some ⟨Gv,m,none⟩))]
noncomputable def sS:=(o8 K8 (K9 Z0 (gU none 0 0) 0 0 0 0 0) (.chan none)).1.todo
def aS(a:List _)(nv:af)(len i x ch:Nat):=px a nv len i++[(43,.chan (some ch)),(44,iv x)]
noncomputable def lP:=(go1 (no lO) (px Z0 (gU none 0 0) 0 0)).1.todo
def py(a:List _)(Gv n i:Nat):=a++[(46,qL Gv n),(47,iv n),(48,iv i)]
noncomputable def EM:=(go1 (yes lP) (py Z0 0 1 0)).1.todo
noncomputable def K_:=(o8 EM (py Z0 0 1 0) (ptr 0)).1.todo
def La(a:List _)(Gv n i:Nat):=py a Gv n i++[(50,.pointer (some ⟨Gv,i,none⟩))]
noncomputable def Lb:=(o8 K_ (La Z0 0 1 0) (.chan none)).1.todo
def Lc(a:List _)(Gv n i ch:Nat):=py a Gv n i++[(52,.chan (some ch))]
noncomputable def EN:=(go1 (no lP) (py Z0 0 1 0)).1.todo
section
variable(b:Option Addr)(len cap n i x m Wg Gv ch:Nat)(p:Addr)(work:af)(J:Nat->af)(l:List ah)
noncomputable def Uj:=gZ PR 60 (dF (no lG) (oe (im (gU b len cap) n work Wg Gv) n i) J) l
noncomputable def EO:=gZ PR 60 (dF (yes lO) (px (im (gU b len cap) n work Wg Gv) (gU b len cap) len i) J) l
noncomputable def EP:=gZ PR 60 ((dF A3 (A4 (im (gU b len cap) n work Wg Gv) (gU b len cap) len i) J).finish (.pointer (some p))) l
noncomputable def RR:=gZ PR 60 ((dF K1 (K6 (im (gU b len cap) n work Wg Gv) (gU b len cap) len i p) J).finish (iv x)) l
noncomputable def ER:=gZ PR 60 ((dF sR (aR (im (gU b len cap) n work Wg Gv) (gU b len cap) len i x n Gv) J).finish (iv m)) l
noncomputable def ES:=gZ PR 60 ((dF EJ (EK (im (gU b len cap) n work Wg Gv) (gU b len cap) len i x n Gv m) J).finish (.pointer (some ⟨Gv,m,none⟩))) l
noncomputable def RS:=gZ PR 60 ((dF K8 (K9 (im (gU b len cap) n work Wg Gv) (gU b len cap) len i x Gv m) J).finish (.chan (some ch))) l
noncomputable def Tt:=gZ PR 60 ((dF sS (aS (im (gU b len cap) n work Wg Gv) (gU b len cap) len i x ch) J).finish ai) l
noncomputable def Uk:=gZ PR 60 (dF (no lO) (px (im (gU b len cap) n work Wg Gv) (gU b len cap) len i) J) l
noncomputable def ET:=gZ PR 60 (dF (yes lP) (py (im (gU b len cap) n work Wg Gv) Gv n i) J) l
noncomputable def EU:=gZ PR 60 ((dF EM (py (im (gU b len cap) n work Wg Gv) Gv n i) J).finish (.pointer (some ⟨Gv,i,none⟩))) l
noncomputable def EV:=gZ PR 60 ((dF K_ (La (im (gU b len cap) n work Wg Gv) Gv n i) J).finish (.chan (some ch))) l
noncomputable def Tu:=gZ PR 60 ((dF Lb (Lc (im (gU b len cap) n work Wg Gv) Gv n i ch) J).finish unit) l
noncomputable def Ld:=gZ PR 60 (dF (no lP) (py (im (gU b len cap) n work Wg Gv) Gv n i) J) l
end
section
variable{b:Option Addr}{len cap n i x m Wg Gv ch:Nat}{p:Addr}{work:af}{J:Nat->af}{l cs:List ah}{c:ah}
theorem rk2:look [0,1,2,6,7,31,32,33,34] (Uj b len cap n i Wg Gv work J l)=ik 137 55 l lO (px (im (gU b len cap) n work Wg Gv) (gU b len cap) len 0++[(34,.bool (decide ((0:Int)<len)))]) none none:=by kernel_rfl
theorem ri3:look [0,1,2,6,7,31,32,33,35] (EO b len cap n i Wg Gv work J l)=ik 137 55 l A3 (A4 (im (gU b len cap) n work Wg Gv) (gU b len cap) len i) none none:=by kernel_rfl
theorem rl3:look [0,1,2,6,7,31,32,33,35,36] (EP b len cap n i Wg Gv p work J l)=ik 137 55 l K1 (K6 (im (gU b len cap) n work Wg Gv) (gU b len cap) len i p) none (some (3,.pointer (some p))):=by kernel_rfl
theorem rr:look [0,1,2,6,7,31,32,33,9,10,38,39,40] (RR b len cap n i x Wg Gv p work J l)=ik 137 55 l sR (aR (im (gU b len cap) n work Wg Gv) (gU b len cap) len i x n Gv) none none:=by kernel_rfl
theorem ri4:look [0,1,2,6,7,31,32,33,10,38,41] (ER b len cap n i x m Wg Gv work J l)=ik 137 55 l EJ (EK (im (gU b len cap) n work Wg Gv) (gU b len cap) len i x n Gv m) none none:=by kernel_rfl
theorem rl4:look [0,1,2,6,7,31,32,33,10,42] (ES b len cap n i x m Wg Gv work J l)=ik 137 55 l K8 (K9 (im (gU b len cap) n work Wg Gv) (gU b len cap) len i x Gv m) none (some (214,.pointer (some ⟨Gv,m,none⟩))):=by kernel_rfl
theorem rs:look [0,1,2,6,7,31,32,33,43,44] (RS b len cap n i x m Wg Gv ch work J l)=ik 137 55 l sS (aS (im (gU b len cap) n work Wg Gv) (gU b len cap) len i x ch) none none:=by kernel_rfl
theorem ajl:pn PR (dF sS (aS (im (gU b len cap) n work Wg Gv) (gU b len cap) len i x ch) J)=some (.comm #[scase ch (.int .i64 x) ai] true .send):=by kernel_rfl
theorem ajm:look [0,1,2,6,7,31,32,33,34] (Tt b len cap n i x Wg Gv ch work J l)=ik 137 55 l lO (im (gU b len cap) n work Wg Gv++[(31,gU b len cap),(32,iv len),(33,.int .i64 (bI.wrap (i+1))),(34,.bool (decide (bI.wrap (i+1)<len)))]) none none:=by kernel_rfl
theorem rk3:look [0,1,2,6,7,46,47,48,49] (Uk b len cap n i Wg Gv work J l)=ik 137 55 l lP (py (im (gU b len cap) n work Wg Gv) Gv n 0++[(49,.bool (decide ((0:Int)<n)))]) none none:=by kernel_rfl
theorem ri5:look [0,1,2,6,7,46,47,48] (ET b len cap n i Wg Gv work J l)=ik 137 55 l EM (py (im (gU b len cap) n work Wg Gv) Gv n i) none none:=by kernel_rfl
theorem rl5:look [0,1,2,6,7,46,47,48,50] (EU b len cap n i Wg Gv work J l)=ik 137 55 l K_ (La (im (gU b len cap) n work Wg Gv) Gv n i) none (some (214,.pointer (some ⟨Gv,i,none⟩))):=by kernel_rfl
theorem rcl:look [0,1,2,6,7,46,47,48,52] (EV b len cap n i Wg Gv ch work J l)=ik 137 55 l Lb (Lc (im (gU b len cap) n work Wg Gv) Gv n i ch) none none:=by kernel_rfl
theorem SJ:(opAt (dF Lb (Lc (im (gU b len cap) n work Wg Gv) Gv n i ch) J)).map (fun o=>(o.dst,o.op))=some (none,.call {callee:=.builtin .close,args:=#[.tmp 52],argTypes:=#[214]}):=by kernel_rfl
theorem ajn:look [0,1,2,6,7,46,47,48,49] (Tu b len cap n i Wg Gv ch work J l)=ik 137 55 l lP (im (gU b len cap) n work Wg Gv++[(46,qL Gv n),(47,iv n),(48,.int .i64 (bI.wrap (i+1))),(49,.bool (decide (bI.wrap (i+1)<n)))]) none none:=by kernel_rfl
theorem rc2:look [0,1,2,6,7] (Ld b len cap n i Wg Gv work J l)=ik 137 55 l EN (im (gU b len cap) n work Wg Gv) (some (159,#[ptr Wg])) none:=by kernel_rfl
theorem ahQ:gu PR 1 (dF EN (im (gU b len cap) n work Wg Gv) J) l=(Frame.enter PR 159 #[ptr Wg] .normal,dF EN (im (gU b len cap) n work Wg Gv) J::l):=by kernel_rfl
theorem ahR{j:Nat}:gu PR 1 (dF A1 (A2 (im (gU b len cap) n work Wg Gv) n j) J) l=(Frame.enter PR 157 #[ptr Wg,.int .i64 1] .normal,dF A1 (A2 (im (gU b len cap) n work Wg Gv) n j) J::l):=by kernel_rfl
theorem ahS{j:Nat}:(opAt (dF Ez (EB (im (gU b len cap) n work Wg Gv) Gv n j ch) J)).map (fun o=>o.op)=some (.indexAddr 213 (.tmp 20) (.tmp 21)):=by kernel_rfl
theorem ahT{j:Nat}:(opAt (dF AZ (A0 (im (gU b len cap) n work Wg Gv) Gv n j ch) J)).map (fun o=>o.op)=some (.store 214 (.tmp 23) (.tmp 22)):=by kernel_rfl
theorem ahU{j:Nat}:(opAt (dF EC (ED (im (gU b len cap) n work Wg Gv) Gv n j) J)).map (fun o=>o.op)=some (.indexAddr 213 (.tmp 25) (.tmp 26)):=by kernel_rfl
theorem ahV:(opAt (dF A3 (A4 (im (gU b len cap) n work Wg Gv) (gU b len cap) len i) J)).map (fun o=>o.op)=some (.indexAddr 25 (.tmp 31) (.tmp 33)):=by kernel_rfl
theorem ajo:(opAt (dF sR (aR (im (gU b len cap) n work Wg Gv) (gU b len cap) len i x n Gv) J)).map (fun o=>o.op)=some (.binOp .rem 3 (.tmp 39) (.tmp 40) 3):=by kernel_rfl
theorem ahW:(opAt (dF EJ (EK (im (gU b len cap) n work Wg Gv) (gU b len cap) len i x n Gv m) J)).map (fun o=>o.op)=some (.indexAddr 213 (.tmp 38) (.tmp 41)):=by kernel_rfl
theorem ahX:(opAt (dF EM (py (im (gU b len cap) n work Wg Gv) Gv n i) J)).map (fun o=>o.op)=some (.indexAddr 213 (.tmp 46) (.tmp 48)):=by kernel_rfl
end
section
variable{main:Bool}{f:ah}{cs:List ah}{w w':ae}
theorem qv{x:Op}(h:(opAt f).map (fun o=>o.op)=some x):∃o,opAt f=some o/\o.op=x:=by simp_all
theorem step_skip{P:Program}{o:Oper}(h:opAt f=some o)(hr:(aj f.eval o).run P w=.ok .skip w'):az P main (G f cs) w=.go (G (f.finish ai) cs) w' (seen P f.fn ((aj f.eval o).events P w #[])):=by
 have⟨ops,i,rest,k,e,H,hw,hk⟩:=sE h;have K:f.eval=Act.eval ⟨f.tmps,f.defers⟩:=by rw[e];exact Frame.eval_at' _ _ _
 have:=stepG_none (main:=main) (a:=⟨f.tmps,f.defers⟩) (k:=k) (cs:=cs) (rest:=rest) H hw hk (by exact hr);rw[<-e]at this;rw[this];have Y:f.finish ai=f.at (Act.put ⟨f.tmps,f.defers⟩ o.dst ai) (.inRegion ops rest::k):=by
  conv=>lhs;rw[e]
  rw[Frame.finish_at,H];rfl
 rw[<-Y];unfold listed;rw[<-K]
theorem zQ{x:aN}(h:(opAt f).map (fun o=>o.op)=some (.indexAddr t x y)){B o:Nat}(M:f.eval x=.slice (some ⟨B,o,none⟩) n cap)(N:f.eval y=.int .i64 (i:Int))(C:i<n)(F:PR.underlying t=some (.slice (PR.elem t)))(O:(PR.info? (PR.elem t)).map (·.size)=some 1):
  az PR main (G f cs) w=.go (G (f.finish (.pointer (some ⟨B,o+i,none⟩))) cs) w #[]:=by
 have⟨op,R,gh⟩:=qv h;have I:∃Y,PR.info? (PR.elem t)=some Y/\Y.size=1:=by simp_all
 have⟨Y,K,H⟩:=I;have hr:(aj f.eval op).run PR w=.ok (.value (.pointer (some ⟨B,o+i,none⟩))) w:=by
  unfold aj;simp only[gh,M,N];simp[dP,dB F,asIntOf,C,bE,aZ,K,H,Addr.add];try(intro e;subst e;rfl)
 have D:(aj f.eval op).events PR w #[]=#[]:=by
  unfold aj;simp only[gh,M,N];simp[dP,dB F,asIntOf,C,bE,aZ,K,Addr.add]
 rw[oM R hr,D,bD]
theorem acY{x:aN}(h:(opAt f).map (fun o=>o.op)=some (.binOp .rem 3 x y 3))(Y:f.eval x=.int .i64 i)(H:f.eval y=.int .i64 n)(C:0<n)(B:i<9223372036854775808):
  az PR main (G f cs) w=.go (G (f.finish (.int .i64 ((i%n:Nat)))) cs) w #[]:=by
 have⟨op,D,gh⟩:=qv h;have hr:(aj f.eval op).run PR w=.ok (.value (.int .i64 ((i%n:Nat)))) w:=by
  unfold aj;simp[gh,Y,H];simp[go_sem];rw[if_neg (by omega),Int.tmod_eq_emod_of_nonneg (by omega)]
 have K:(aj f.eval op).events PR w #[]=#[]:=by
  unfold aj;simp[gh,Y,H];simp[go_sem]
 rw[oM D hr,K,bD]
theorem step_mk{o:Oper}(H:opAt f=some o)(gh:o.op=.makeChan 214 (.const (.int .i64 0))):
  az PR main (G f cs) w=.go (G (f.finish (.chan (some w.heap.size))) cs) (w.alloc (.chan 0 #[] false 0 0 false)) #[]:=by
 have hr:(aj f.eval o).run PR w=.ok (.value (.chan (some w.heap.size))) (w.alloc (.chan 0 #[] false 0 0 false)):=by
  unfold aj;simp only[gh];rfl
 have Y:(aj f.eval o).events PR w #[]=#[]:=by
  unfold aj;simp[gh];rfl
 rw[oM H hr,Y,bD]
theorem H3{x:aN}(h:(opAt f).map (fun o=>o.op)=some (.store 214 x y)){B:Nat}{v:Option Nat}{row:Array af}(F:f.eval x=.pointer (some ⟨B,i,none⟩))(M:f.eval y=.chan v)(C:w.heap[B]?=some (.cells row t))(N:i<row.size)(O:(PR.funcs[f.fn]?).any (·.norace)=false):
  az PR main (G f cs) w=.go (G (f.finish ai) cs) (w.setCell ⟨B,i,none⟩ (.chan v)) #[⟨.cell ⟨B,i,none⟩,true,false⟩]:=by
 have⟨op,U,gh⟩:=qv h;have D:w.cell? ⟨B,i,none⟩=some row[i]:=by simp[aJ,C,N]
 have I:w.frozen? ⟨B,i,none⟩=false:=by simp[aki,C]
 have R:(PR.info? 214).map (·.size)=some 1:=by kernel_rfl
 have R:∃Y,PR.info? 214=some Y/\Y.size=1:=by simp_all
 have⟨Y,K,H⟩:=R;have hr:(aj f.eval op).run PR w=.ok .skip (w.setCell ⟨B,i,none⟩ (.chan v)):=by
  unfold aj;simp only[gh,F,M];simp[go_sem,bE,aZ,K,H,D,I]
 have A:(aj f.eval op).events PR w #[]=#[⟨.cell ⟨B,i,none⟩,true,false⟩]:=by
  unfold aj;simp only[gh,F,M];simp[go_sem,bE,aZ,K,H,D,I]
 rw[step_skip U hr,A,dD,O];simp[dC]
theorem aeT{x:aN}(h:(opAt f).map (fun o=>(o.dst,o.op))=some (none,.call {callee:=.builtin .close,args:=#[x],argTypes:=#[214]})){c s:Nat}(C:f.eval x=.chan (some c))(Y:w.heap[c]?=some (.chan 0 #[] false s s false))(B:(PR.funcs[f.fn]?).any (·.norace)=false):
  az PR main (G f cs) w=.go (G (f.finish unit) cs) (w.setChan c 0 #[] true s s false) (closeEvents c):=by
 obtain⟨op,H,gh⟩:∃o,opAt f=some o/\o.op=.call _:=by
  cases e:opAt f with
  |none=>rw[e]at h;cases h
  |some o=>rw[e]at h;exact⟨o,rfl,congrArg Prod.snd (Option.some.inj h)⟩
 refine conv H fun ops i rest k K hw hk=>?_
 exact stepG_close K hw hk gh (by exact C) Y B
theorem acZ{x:aN}(h:(opAt f).map (fun o=>(o.dst,o.op))=some (none,.call {callee:=.builtin .close,args:=#[x],argTypes:=#[214]})):mayWake PR (G f cs)=true:=by
 obtain⟨op,D,gh⟩:∃o,opAt f=some o/\o.op=.call _:=by
  cases e:opAt f with
  |none=>rw[e]at h;cases h
  |some o=>rw[e]at h;exact⟨o,rfl,congrArg Prod.snd (Option.some.inj h)⟩
 have⟨ops,i,rest,k,Y,K,hw,hk⟩:=sE D;have H:f.mode=.run:=by rw[Y];rfl
 have R:f.todo=.inRegion ops (i::rest)::k:=by rw[Y];rfl
 unfold mayWake;simp[G,H,R,K,Option.map_some,gh]
theorem vV{P:Program}{a b:Code}{k:List _}{t:Bool}(Y:f.mode=.run)(hr:f.roundOf=none)(hk:f.kind≠.early)(B:f.todo=.code (.cond (.tmp u) a b)::k)(H:f.tmps.getD u ai=.bool t):az P main (G f cs) w=.go (G {f with todo:=.code (if t then a else b)::k} cs) w #[]:=by
 refine Oj hr hk Y ?_;have K:f.eval (.tmp u)=.bool t:=H;unfold prun;simp_all
end
noncomputable def H_ (ch Wg:Nat) (work:af):={(default:ah)with fn:=PR.funcs.size,defers:=[dcall 158 #[.chan (some ch),work,ptr Wg]],mode:=.panicking [goexitEntry]}
theorem born{ch:Nat}:az PR false (G (H_ ch Wg work) []) w=.go (G (Frame.enter PR 158 #[.chan (some ch),work,ptr Wg] .deferred) [bot]) w #[]:=by kernel_rfl
noncomputable def Lf (ch Wg:Nat) (work:af):=gu PR 60 (Frame.enter PR 158 #[.chan (some ch),work,ptr Wg] .deferred) [bot]
noncomputable def Ai:=(Lf 0 0 ai).1.todo
def Lg(Wg:Nat)(site:List Item)(s:Nat->Option af)(j:Nat->af):Frame:={fn:=158,tmps:=TN 15 s j,todo:=site,defers:=[dcall 181 #[ptr Wg]],mode:=.run,kind:=.deferred}
def A5(ch Wg:Nat)(work:af):=[(0,.chan (some ch)),(1,work),(2,ptr Wg),(8,.chan (some ch))]
structure EW(Wg:Nat)(site:List Item)(s:Nat->Option af)(f:ah):Prop where
 fn:f.fn=158
 todo:f.todo=site
 defers:f.defers=[dcall 181 #[ptr Wg]]
 mode:f.mode=.run
 kind:f.kind=.deferred
 round:f.roundOf=none
 size:f.tmps.size=15
 slot:∀i v,s i=some v->f.tmps.getD i ai=v
theorem EW.eq{site:List _}{s:Nat->Option _}(h:EW Wg site s f):f=Lg Wg site s (fun i=>f.tmps.getD i ai):=by
 have⟨fn,tmps,todo,defers,mode,kind,ro⟩:=f;have⟨D,R,I,A,U,B,K,H⟩:=h;congr 1;apply Array.ext
 ·simp[TN,K]
 ·intro i Y _;simp[TN,List.getElem_toArray,List.getElem_map,List.getElem_range];cases e:s i with
  |none=>simp[bG Y]
  |some v=>
   rw[<-H i v e];simp[bG Y]
def Dn(ks:List Nat)(r:ah×List _):=(look ks r,R0 r.1)
def Dp(Wg:Nat)(l:List ah)(site:List Item)(al:List (Nat×af)):rq×Option (au×af×Bool):=(⟨l,158,site,[dcall 181 #[ptr Wg]],.run,.deferred,none,15,al.map (·.2),none,none⟩,some (232,(al.map (·.2)).headD ai,true))
theorem Sb{r:ah×List _}{l:List _}{site:List _}{al:List _}(h:Dn ks r=Dp Wg l site al)(hk:al.map (·.1)=ks):r.2=l/\EW Wg site (sA al) r.1/\R0 r.1=some (232,(al.map (·.2)).headD ai,true):=by
 subst hk;simp only[Dn,look,Dp,Prod.mk.injEq,rq.mk.injEq,List.map_map]at h;obtain⟨⟨K,R,I,A,U,B,C,F,J,H,D⟩,Y⟩:=h;exact⟨K,⟨R,I,A,U,B,C,F,GC J⟩,Y⟩
def kh(By Rf Sg Fp:Nat):Value:=.func (.func 138) #[] #[.pointer (some ⟨By,0,none⟩),.pointer (some ⟨Rf,0,none⟩),.pointer (some ⟨Sg,0,none⟩),.pointer (some ⟨Fp,0,none⟩)]
noncomputable def WG (ch Wg:Nat) (work:af) (v:af) (b:Bool) (j:Nat->af):=gu PR 60 ((Lg Wg Ai (sA (A5 ch Wg work)) j).finish (.tuple #[v,.bool b])) [bot]
section
variable{ch Wg By Rf Sg Fp:Nat}{work:af}{x:Int}{v:af}{j:Nat->af}
theorem wa0:Dn [0,1,2,8] (Lf ch Wg work)=Dp Wg [bot] Ai (A5 ch Wg work):=by kernel_rfl
theorem abk:WG ch Wg work v false j=yR Wg (kK ((WG ch Wg work v false j).2.getD 1 bot).tmps ((WG ch Wg work v false j).2.getD 1 bot).todo) [bot]:=by kernel_rfl
end
def EX:Value:=.int .i64 0
section
variable{ch Wg:Nat}{work:af}{j:Nat->af}
theorem aeU:pn PR (Lg Wg Ai (sA (A5 ch Wg work)) j)=some (.comm #[rcase ch EX] true (.recv true)):=by kernel_rfl
end
namespace Env
structure yI(E:Env)(RO S X:Nat->Prop):Prop where
 ro:∀a,RO a->S a
 mp:¬S E.Mp
 mpx:¬X E.Mp
 fd:RO E.Fd
 wg:RO E.Wg
 mG:∀a,RO a->¬X a
structure wu(E:Env)(RO:Nat->Prop)(Fx:ae->Prop):Prop where
 rely:∀S w w2,(∀a,RO a->S a)->Fx w->gR E.U S w w2->Fx w2
 fd:∀w,Fx w->E.uX w
 wg:∀w,Fx w->E.oX w
variable(E:Env)(ch:Nat)(ok:Nat->Prop)(work:af)(RO:Nat->Prop)(Fx:ae->Prop)
def AtRecv(S X:Nat->Prop)(g:ak)(w:ae):=∃f,g=G f [bot]/\EW E.Wg Ai (sA (A5 ch E.Wg work)) f/\E.yI RO S X/\Fx w
def GF:Prop:=∀(k x:Nat) (S X:Nat->Prop) (j:Nat->af) (w:ae),ok x->E.yI RO S X->Fx w->E.Tree PR false (E.jf PR (AtRecv E ch work RO Fx) k (.ld x)) S X (G (WG ch E.Wg work (.int .i64 (x:Int)) true j).1 (WG ch E.Wg work (.int .i64 (x:Int)) true j).2) w
variable{E ch ok work RO Fx}{S X:Nat->Prop}{g:ak}{w w2:ae}
theorem Yt(h:AtRecv E ch work RO Fx S X g w):g.status=.running/\g.offers=none:=by
 obtain⟨f,rfl,_⟩:=h;exact⟨rfl,rfl⟩
theorem abl(h:AtRecv E ch work RO Fx S X g w):az PR false g w2=.comm g #[rcase ch EX] true (.recv true) w2 #[]:=by
 obtain⟨f,rfl,Y,_⟩:=h;rw[Y.eq];exact Pb aeU
theorem Yu(K:E.wu RO Fx)(B:GF E ch ok work RO Fx)(h:AtRecv E ch work RO Fx S X g w)(hr:gR E.U S w w2){x:Nat}(C:ok x)(k:Nat):E.Tree PR false (E.jf PR (AtRecv E ch work RO Fx) k (.ld x)) S X (Go.Conc.served g (recvd true (.int .i64 x) true)) w2:=by
 obtain⟨f,rfl,D,Y,hF⟩:=h;rw[D.eq];refine Tz.pure 60 fun w3 H=>?_;exact B k x S X _ w3 C Y (K.rely S _ _ Y.ro (K.rely S _ _ Y.ro hF hr) H)
theorem Yv(K:E.wu RO Fx)(h:AtRecv E ch work RO Fx S X g w)(hr:gR E.U S w w2)(v:af)(k:Nat):E.Tree PR false (E.jf PR (AtRecv E ch work RO Fx) k .wr) S X (Go.Conc.served g (recvd true v false)) w2:=by
 obtain⟨f,rfl,D,Y,hF⟩:=h;rw[D.eq];refine Tz.pure 60 fun w3 H=>?_;have e:=abk (ch:=ch) (Wg:=E.Wg) (work:=work) (v:=v) (j:=fun i=>f.tmps.getD i ai);change E.Tree PR _ _ S X (G (WG ch _ _ v _ _).1 (WG ch _ _ v _ _).2) w3;rw[e];exact aeQ (Y.ro _ Y.wg) k (K.wg _ (K.rely S _ _ Y.ro (K.rely S _ _ Y.ro hF hr) H))
theorem aeV(K:E.wu RO Fx)(Y:E.yI RO S X)(hF:Fx w):E.Tree PR false (AtRecv E ch work RO Fx) S X (G (H_ ch E.Wg work) []) w:=by
 refine Tz.one rfl fun w2 hr=>⟨_,w2,#[],S,X,Ph.born,jd S X w2,Tz.pure 60 fun w3 H=>?_⟩;obtain⟨D,R,_⟩:=Sb (wa0) rfl;change E.Tree PR _ _ S X (G _ (Lf ch _ _).2) w3;rw[D];exact .stop ⟨_,rfl,R,Y,K.rely S _ _ Y.ro (K.rely S _ _ Y.ro hF hr) H⟩
end Env
end Ph
namespace Ph
open Conc Ren
open Lock (Word PC Mv bn)
def cout(fn:aQ)(tmps:Array af)(todo:List Item)(kind:bQ)(ro:Option Nat):Frame:=⟨fn,tmps,todo,[],.returning,kind,ro⟩
section
variable(Fd:Nat)(c:ah)(cs:List ah)(v:af)
noncomputable def A6:ah×List Frame:=gu PR 60 (Frame.enter PR 161 #[ptr Fd] .deferred) (c::cs)
noncomputable def Lh:ah×List Frame:=gu PR 60 ((A6 Fd c cs).1.finish v) (A6 Fd c cs).2
noncomputable def Li:ah×List Frame:=gu PR 60 ((Lh Fd c cs v).1.finish (ptr Fd)) (Lh Fd c cs v).2
noncomputable def Lj:ah×List Frame:=gu PR 60 ((Li Fd c cs v).1.finish unit) (Li Fd c cs v).2
noncomputable def yV:ah×List Frame:=gu PR 60 ((Lj Fd c cs v).1.finish unit) (Lj Fd c cs v).2
noncomputable def xq (z:Int):ah×List Frame:=gu PR 300 ((yV Fd c cs v).1.finish (.int .i32 z)) (yV Fd c cs v).2
def agC(f:ah):Frame:=match f.todo with
 |.code (.cond _ a _)::k=>{f with todo:=.code a::k}
 |_=>f
noncomputable def Ul (z:Int):ah×List Frame:=tj PR 16 300 ((yV Fd c cs v).1.finish (.int .i32 z)) (yV Fd c cs v).2
noncomputable def UB (z:Int):List Frame:=(gu PR 4 (agC (Ul Fd c cs v z).1) (Ul Fd c cs v z).2).2
end
def outs:List Nat:=(List.range 72).filter fun i=>i%2==0&&i/4%2==0&&(i/8==0||i/2%2==1)
def Lk:List Nat:=(List.range 72).filter fun i=>i%2==0&&i/4%2==0&&!(i/8==0||i/2%2==1)
def Ll:List Nat:=(List.range 72).filter fun i=>i%2==0&&i/4%2==1
section
variable{Fd:Nat}{fn:aQ}{tmps:Array af}{todo:List Item}{kind:bQ}{ro:Option Nat}{cs:List ah}{v:af}{z:Int}{c:ah}
theorem ua0:pN (A6 Fd c cs).1=some (21,ptr Fd):=by kernel_rfl
theorem ua1:ql (Lh Fd c cs v).1=some (253,159,ptr Fd):=by kernel_rfl
theorem ua2:ahead (Li Fd c cs v).1=some (168,#[ptr Fd]):=by kernel_rfl
theorem ua3:ahead (Lj Fd c cs v).1=some (169,#[]):=by kernel_rfl
theorem ua4:ahead (yV Fd c cs v).1=some (206,#[ptr Fd,.int .i32 (-1)]):=by kernel_rfl
theorem ajp:(PR.funcs[188]?).any (·.norace)=true:=by kernel_rfl
theorem ahY:(A6 Fd c cs).1.fn=188:=by kernel_rfl
theorem aeW:(outs.map fun i:Nat=>ahead (xq Fd c cs v (i:Int)).1)=outs.map fun i:Nat=>some (170,#[]):=by kernel_rfl
theorem ac0:(outs.map fun i:Nat=>gu PR 6 ((xq Fd (cout fn tmps todo kind ro) cs v (i:Int)).1.finish unit) (xq Fd (cout fn tmps todo kind ro) cs v (i:Int)).2)=outs.map fun i:Nat=>(cout fn tmps todo kind ro,cs):=by kernel_rfl
end
def Lm(Fd:Nat)(old:Int):List (Nat×af):=[(0,ptr Fd),(4,.int .i32 old)]
def vp(Fd:Nat):List (Nat×af):=[(0,ptr Fd)]
noncomputable def IG:List Item:=(xq 0 (cout 0 #[] [] .normal none) [] ai 8).1.todo
noncomputable def IH:List Item:=(xq 0 (cout 0 #[] [] .normal none) [] ai 12).1.todo
noncomputable def yl (Fd:Nat) (old:Int) (b:Bool) (j:Nat->af) (l:List ah):ah×List Frame:=gu PR 300 ((lq 207 43 IG (sA (Lm Fd old)) j).finish (.bool b)) l
noncomputable def II:List Item:=(yl 0 8 true jz []).1.todo
noncomputable def Sc:List Item:=(yl 0 8 false jz []).1.todo
noncomputable def C4 (Fd:Nat) (old:Int) (j:Nat->af) (l:List ah):ah×List Frame:=gu PR 300 ((lq 207 43 Sc (sA (vp Fd)) j).finish (.int .i32 old)) l
noncomputable def IJ (Fd:Nat) (j:Nat->af) (l:List ah):ah×List Frame:=gu PR 300 ((lq 207 43 II (sA (vp Fd)) j).finish unit) l
noncomputable def IK (Fd:Nat) (j:Nat->af) (l:List ah):ah×List Frame:=gu PR 300 ((lq 207 43 IH (sA (vp Fd)) j).finish unit) l
def IM:List Nat:=(List.range 72).filter fun i=>i%8==0&&!(i/8==0)
def zZ:List Nat:=(List.range 72).filter fun i=>!(i%8==0&&!(i/8==0))
noncomputable def toUC (l:List ah) (Fd:Nat) (i:Nat):rq:=ik 207 43 l IG (Lm Fd (i:Int)) (some (204,#[ptr Fd,.int .i32 (i:Int),.int .i32 (val {wd i with W:=i/8-1,K:=true})])) none
section
variable{Fd:Nat}{fn:aQ}{tmps:Array af}{todo:List Item}{kind:bQ}{ro:Option Nat}{cs l:List ah}{v:af}{z old:Int}{c:ah}{j:Nat->af}
theorem aeX:(Lk.map fun i:Nat=>look [0,4] (xq Fd c cs v (i:Int)))=Lk.map fun i:Nat=>toUC (UB Fd c cs v (i:Int)) Fd i:=by kernel_rfl
theorem aeY:(Ll.map fun i:Nat=>look [0] (xq Fd c cs v (i:Int)))=Ll.map fun i:Nat=>ik 207 43 (UB Fd c cs v (i:Int)) IH (vp Fd) (some (220,#[.pointer (some ⟨Fd,1,none⟩),.bool true,.int .i64 2])) none:=by kernel_rfl
theorem ac1:look [0] (yl Fd old true j l)=ik 207 43 l II (vp Fd) (some (220,#[.pointer (some ⟨Fd,1,none⟩),.bool false,.int .i64 2])) none:=by kernel_rfl
theorem ac2:look [0] (yl Fd old false j l)=ik 207 43 l Sc (vp Fd) none (some (21,ptr Fd)):=by kernel_rfl
theorem ZH:(IM.map fun i:Nat=>look [0,4] (C4 Fd (i:Int) j l))=IM.map (toUC l Fd):=by kernel_rfl
theorem ZI:(zZ.map fun i:Nat=>ahead (C4 Fd (i:Int) j (UB Fd c cs v z)).1)=zZ.map fun i:Nat=>some (170,#[]):=by kernel_rfl
theorem ZJ:(zZ.map fun i:Nat=>gu PR 6 ((C4 Fd (i:Int) j (UB Fd (cout fn tmps todo kind ro) cs v z)).1.finish unit) (C4 Fd (i:Int) j (UB Fd (cout fn tmps todo kind ro) cs v z)).2)=zZ.map fun i:Nat=>(cout fn tmps todo kind ro,cs):=by kernel_rfl
theorem ahZ:ahead (IJ Fd j (UB Fd c cs v z)).1=some (170,#[]):=by kernel_rfl
theorem agD:gu PR 6 ((IJ Fd j (UB Fd (cout fn tmps todo kind ro) cs v z)).1.finish unit) (IJ Fd j (UB Fd (cout fn tmps todo kind ro) cs v z)).2=(cout fn tmps todo kind ro,cs):=by kernel_rfl
theorem ah0:ahead (IK Fd j (UB Fd c cs v z)).1=some (170,#[]):=by kernel_rfl
theorem agE:gu PR 6 ((IK Fd j (UB Fd (cout fn tmps todo kind ro) cs v z)).1.finish unit) (IK Fd j (UB Fd (cout fn tmps todo kind ro) cs v z)).2=(cout fn tmps todo kind ro,cs):=by kernel_rfl
theorem ajq:(PR.funcs[207]?).any (·.norace)=true:=by kernel_rfl
end
end Ph
namespace Ph
open Conc Ren
noncomputable def tc:List Item:=match Tryz.f138.body with
 |some (.seq _ (.seq _ Y))=>[.code Y]
 |_=>[]
noncomputable def Jh:List Item:=match aP.body with
 |some (.seq _ (.seq _ (.seq _ bl)))=>[.code bl]
 |_=>[]
def DN(Fp:Nat)(sl:af):=[(4,ptr Fp),(6,sl)]
noncomputable def A7 (Fp:Nat) (sl:af) (j:Nat->af) (l:List _):=gu PR 60 (lq 138 39 tc (sA (DN Fp sl)) j) l
noncomputable def A8 (Fp Fd:Nat) (sl:af) (j:Nat->af) (l:List _):=gu PR 8 ((A7 Fp sl j l).1.finish (ptr Fd)) (A7 Fp sl j l).2
noncomputable def Tv (Fp Fd:Nat) (sl:af) (j:Nat->af) (l:List _):=(A8 Fp Fd sl j l).2.headD bot
noncomputable def EY (Fp Fd:Nat) (sl:af) (j:Nat->af) (l:List _):=(A8 Fp Fd sl j l).2.tail
noncomputable def EZ (Fp Fd:Nat) (a:Option _) (n cap:Nat) (j:Nat->af) (l:List _):=gu PR 14 ((Tv Fp Fd (.slice a n cap) j l).finish unit) (EY Fp Fd (.slice a n cap) j l)
section
variable{Fp Fd n cap ch Wg By Rf Sg:Nat}{sl work v:af}{a:Option Addr}{j j2:Nat->af}{l:List ah}{T:Array af}{x:Int}
theorem AW:pN (A7 Fp sl j l).1=some (182,ptr Fp):=by kernel_rfl
theorem ah1:(A7 Fp sl j l).1.fn=138:=by kernel_rfl
theorem cl1:A8 Fp Fd sl j l=(Frame.enter PR 160 #[ptr Fd] .normal,Tv Fp Fd sl j l::EY Fp Fd sl j l):=by kernel_rfl
theorem cl2:look [0,1,15,16,17] (EZ Fp Fd a n cap j l)=⟨EY Fp Fd (.slice a n cap) j l,140,Jh,[dcall 161 #[ptr Fd]],.run,.normal,none,48,[ptr Fd,.slice a n cap,.slice a n cap,.int .i64 n,.int .i64 0],none,none⟩:=by kernel_rfl
noncomputable def yW (ch Wg:Nat) (work v:af) (j:Nat->af):=(WG ch Wg work v true j).2.headD bot
noncomputable def Um (Fp Fd:Nat) (sl:af) (j j2:Nat->af) (T:Array _) (ch Wg:Nat) (work v:af):=gu PR 60 (cout 140 T [] .normal none) (EY Fp Fd sl j [yW ch Wg work v j2,bot])
theorem cl3:Dn [0,1,2,8] (Um Fp Fd sl j j2 T ch Wg (kh By Rf Sg Fp) (.int .i64 x))=Dp Wg [bot] Ai (A5 ch Wg (kh By Rf Sg Fp)):=by kernel_rfl
theorem ZK:(WG ch Wg (kh By Rf Sg Fp) (.int .i64 x) true j).2=[yW ch Wg (kh By Rf Sg Fp) (.int .i64 x) j,bot]:=by kernel_rfl
def Jv(Fd:Nat)(T:Array af):Frame:=⟨140,T,[],[dcall 161 #[ptr Fd]],.run,.normal,none⟩
theorem cl4:gu PR 2 (Jv Fd T) l=(Frame.enter PR 161 #[ptr Fd] .deferred,cout 140 T [] .normal none::l):=by kernel_rfl
theorem ajr:(PR.funcs[138]?).any (·.norace)=false:=by kernel_rfl
theorem Sd:ko PR (isAgg 182)=some false:=by kernel_rfl
end
end Ph
namespace Ph
open Conc Ren
open Lock (Word PC Mv bn low dec)
theorem ac3(m:Word):(nv m%8==0&&!(nv m/8==0))=!(decide (m.W=0\/m.L=true\/m.K=true\/m.S=true)):=by
 have h:nv m%8=bn m.L+2 *bn m.K+4 *bn m.S:=by
  have:=Lock.rh m.L;have:=Lock.rh m.K;have:=Lock.rh m.S;unfold nv;omega
 rw[r_,h];by_cases Y:m.W=0<;>cases m.L<;>cases m.K<;>cases m.S<;>simp[bn,Y]
namespace Env
theorem yJ{E:Env}{X:Nat->Prop}{D:(Nat->Prop)->(Nat->Prop)->ak->ae->Prop}{site:List _}{al:List _}{l:List _}(Y:kt fn n site (sA al) f)(k:∀j w3,gR E.U S w w3->E.Tree PR false D S X (G (gu PR 300 ((lq fn n site (sA al) j).finish v) l).1 (gu PR 300 ((lq fn n site (sA al) j).finish v) l).2) w3):E.Tree PR false D S X (G (f.finish v) l) w:=by
 rw[Y.eq];exact Tz.pure 300 fun w3 hr=>k _ w3 hr
section
variable{E:Env}{A:(Nat->Prop)->(Nat->Prop)->ak->ae->Prop}{S X:Nat->Prop}{Fx:ae->Prop}{fn:aQ}{tmps:Array af}{todo:List Item}{kind:bQ}{ro:Option Nat}{cs:List ah}
def Out(E:Env)(A:(Nat->Prop)->(Nat->Prop)->ak->ae->Prop)(S X:Nat->Prop)(Fx:ae->Prop)(c:ah)(cs:List _):=∀k w,Fx w->E.Tree PR false (E.jf PR A k .recv) S X (G c cs) w
variable(K:E.Kn S Fx)(hT:Out E A S X Fx (cout fn tmps todo kind ro) cs)
include K hT
theorem Dq{l:List _}(h:ahead f=some (170,#[]))(H:gu PR 6 (f.finish unit) l=(cout fn tmps todo kind ro,cs))(k:Nat)(hF:Fx w):E.Tree PR false (E.jf PR A k .ue) S X (G f l) w:=by
 refine .stop ?_;cases k with
 |zero=>trivial
 |succ k=>
  refine⟨rfl,rfl,fun w2 hr=>⟨G (f.finish unit) l,rN (by simp) xd h,Tz.pure 6 fun w3 Y=>?_⟩⟩;rw[H];exact hT k w3 (K.rely (K.rely hF hr) Y)
omit K hT in
theorem wrap_u32(h:cc<=1):IntKind.u32.wrap (cc+1)=((cc+1:Nat)):=by
 have:cc=0\/cc=1:=by omega
 rcases this with rfl|rfl<;>rfl
theorem ah2{r:ah×List _}(h:CK 207 43 (UB E.Fd (cout fn tmps todo kind ro) cs v z) II (vp E.Fd) (some (220,#[.pointer (some E.ms),.bool false,.int .i64 2])) none r)(k:Nat)(hF:Fx w):E.Tree PR false (E.jf PR A k (.un .us)) S X (G r.1 r.2) w:=by
 refine .stop ?_;cases k with
 |zero=>trivial
 |succ k=>
  refine⟨rfl,rfl,fun w2 m D hr Y U R B I=>.inr ?_⟩;have ga:=Fw (main:=false) (cs:=r.2) DK h.call rfl Y.ri (Y.thaw 1);rw[wrap_u32 I]at ga;refine⟨_,m,D+1,_,_,_,Mv.us m D,ga,Y.qE _,Eff.set _ _ _ _,EvA.yP _ _ (by omega),fun _=>GB DK h.call,?_⟩;refine yJ h.fr fun j w3 H=>?_;rw[h.callers];exact Dq K hT ahZ agD k (K.rely (K.lM (K.rely hF hr) Y (Eff.set _ _ _ _) (Y.qE _)) H)
theorem ah3{r:ah×List _}(h:CK 207 43 (UB E.Fd (cout fn tmps todo kind ro) cs v z) IH (vp E.Fd) (some (220,#[.pointer (some E.ms),.bool true,.int .i64 2])) none r)(k:Nat)(hF:Fx w):E.Tree PR false (E.jf PR A k (.un .uh)) S X (G r.1 r.2) w:=by
 refine .stop ?_;cases k with
 |zero=>trivial
 |succ k=>
  refine⟨rfl,rfl,fun w2 m D hr Y U R B I=>.inr ?_⟩;have ga:=Fw (main:=false) (cs:=r.2) DK h.call rfl Y.ri (Y.thaw 1);rw[wrap_u32 I]at ga;refine⟨_,m,D+1,_,_,_,Mv.uh m D,ga,Y.qE _,Eff.set _ _ _ _,EvA.yP _ _ (by omega),fun _=>GB DK h.call,?_⟩;refine yJ h.fr fun j w3 H=>?_;rw[h.callers];exact Dq K hT ah0 agE k (K.rely (K.lM (K.rely hF hr) Y (Eff.set _ _ _ _) (Y.qE _)) H)
theorem ah4:∀k {v:af} {z:Int} {old:Word} {r:ah×List _} {w:ae},CK 207 43 (UB E.Fd (cout fn tmps todo kind ro) cs v z) IG (Lm E.Fd (nv old)) (some (204,#[ptr E.Fd,.int .i32 (nv old),.int .i32 (val {old with W:=old.W-1,K:=true})])) none r->Fx w->E.Tree PR false (E.jf PR A k (.un (.uc old))) S X (G r.1 r.2) w:=by
 intro k;induction k using eo with
 |_ k f=>
 intro v z old r w h hF;refine .stop ?_;cases k with
 |zero=>trivial
 |succ k=>
  refine⟨rfl,rfl,fun w2 m N hr R d Z o p=>.inr ?_⟩;by_cases O:m=old
  ·subst O;refine⟨_,_,N,G _ r.2,_,_,Mv.AN m N,zo u_ h.call R.cell0 (R.thaw 0),R.mP _,Eff.set _ _ _ _,EvA.two _ _ (by omega),fun J=>by omega,yJ h.fr fun j w3 I=>?_⟩;rw[h.callers];have D:=jX (ac1 (Fd:=E.Fd) (old:=(nv m)) (j:=j) (l:=UB E.Fd (cout fn tmps todo kind ro) cs v z)) rfl;exact ah2 K hT D k (K.rely (K.lM (K.rely hF hr) R (Eff.set _ _ _ _) (R.mP _)) I)
  ·refine⟨_,_,N,G _ r.2,_,_,Mv.AP m old N O,zl u_ h.call R.cell0 (R.thaw 0) (fun e=>O (val_inj e)),R,Eff.refl _ _,EvA.one _ _ _ (by omega),fun J=>by omega,yJ h.fr fun j w3 I=>?_⟩;rw[h.callers];have D:=jX (ac2 (Fd:=E.Fd) (old:=(nv old)) (j:=j) (l:=UB E.Fd (cout fn tmps todo kind ro) cs v z)) rfl;have B:=K.rely (K.rely hF hr) I;change E.Tree PR _ _ S X (G (yl _ _ _ j _).1 (yl _ _ _ j _).2) w3;refine .stop ?_;cases k with
   |zero=>trivial
   |succ k=>
    refine⟨rfl,rfl,fun w4 H c4 M C V P F c=>.inr ?_⟩;refine⟨_,H,c4,_,w4,#[],Mv.ur H c4,BX D.load Dk C.cell0 (by rw[D.fr.fn];exact ajq),C,Eff.refl _ _,EvA.nil _,fun J=>by omega,?_⟩;have T:=ac3 H;by_cases hd:H.W=0\/H.L=true\/H.K=true\/H.S=true
    ·have e:dec H=.out:=if_pos hd;rw[e];refine yJ D.fr fun q g U=>?_;rw[D.callers];have Y:nv H∈zZ:=oi F (by rw[T];simp[hd]);exact Dq K hT (jx ZI Y) (jx ZJ Y) k (K.rely (K.rely B M) U)
    ·have e:dec H=.uc H:=if_neg hd;rw[e];refine yJ D.fr fun q g U=>?_;rw[D.callers];have Y:nv H∈IM:=oi F (by rw[T];simp[hd]);have Q:=jX (jx (ZH (Fd:=E.Fd) (j:=q) (l:=UB E.Fd (cout fn tmps todo kind ro) cs v z)) Y) rfl;rw[yy,r_]at Q;exact f k (by omega) Q (K.rely (K.rely B M) U)
end
section
variable{E:Env}{A:(Nat->Prop)->(Nat->Prop)->ak->ae->Prop}{S X:Nat->Prop}{Fx:ae->Prop}{fn:aQ}{tmps:Array af}{todo:List Item}{kind:bQ}{ro:Option Nat}{cs:List ah}
theorem aeZ{m:Word}(h:m.L=true)(B:m.W<=8):IntKind.i32.wrap (val m+ -1)=val (low m):=by
 have H:=Lock.rh m.K;have D:=Lock.rh m.S;have Y:bn true=1:=rfl;have b0:bn false=0:=rfl;unfold val low;simp only[h,Y];have e:((1+2 *bn m.K+4 *bn m.S+8 *m.W:Nat))+ -1=((0+2 *bn m.K+4 *bn m.S+8 *m.W:Nat):Int):=by omega
 rw[e];exact wrap_small (by omega)
theorem abm(yX:∀i,¬E.U E.Mp i)(hSM:S E.Mp)(K:E.Kn (fun a=>S a/\a≠E.Mp) Fx)(hT:Out E A (fun a=>S a/\a≠E.Mp) (fun a=>X a/\a≠E.Mp) Fx (cout fn tmps todo kind ro) cs){γ:E.Γ}(k:Nat)(hF:Fx w)(hm:E.mz γ (w.heap[E.Mp]?)):
  E.Tree PR false (E.jf PR A k (.ur γ)) S X (G (Frame.enter PR 161 #[ptr E.Fd] .deferred) (cout fn tmps todo kind ro::cs)) w:=by
 have mp:∀{w w2:ae},gR E.U S w w2->E.mz γ (w.heap[E.Mp]?)->E.mz γ (w2.heap[E.Mp]?):=by
  intro w w2 hr h;rw[(hr.kept _ hSM).eq fun i t=>yX i t];exact h
 have R:∀{w w2:ae},Fx w->gR E.U S w w2->Fx w2:=fun h hr=>K.rely h (Pd (fun a x=>x.1) hr);refine Tz.pure 60 fun w1 L=>?_;change E.Tree PR _ _ S X (G (A6 _ _ cs).1 _) w1;refine Tz.one rfl fun w2 M=>?_;have I:=R (R hF L) M;have q:=mp M (mp L hm);have⟨v,hv⟩:=(K.fd I).cell0;refine⟨_,w2,#[],S,X,BX ua0 Dk hv (by rw[ahY];exact ajp),jd S X w2,Tz.pure 60 fun w3 N=>?_⟩;refine Tz.one rfl fun w4 O=>?_;have B:=R (R I N) O;have j:=mp O (mp N q);have⟨v4,p⟩:=(K.fd B).cell0;refine⟨_,w4,#[],S,X,tV ua1 u253 u159 i187 p,jd S X w4,Tz.pure 60 fun w5 P=>?_⟩;have V:=R B P;have z:=mp P j;refine .stop ?_;cases k with
 |zero=>trivial
 |succ k=>
  refine⟨rfl,rfl,fun w6 Q=>⟨mp Q z,G _ _,xI (by simp) Tc ua2,Tz.pure 60 fun w7 d=>?_⟩⟩;have Z:=K.rely (R V Q) d;refine .stop ?_;cases k with
  |zero=>trivial
  |succ k=>
   refine⟨rfl,rfl,fun w8 f=>⟨G _ _,rN (by simp) Au ua3,Tz.pure 60 fun w9 g=>?_⟩⟩;refine .stop ?_;cases k with
   |zero=>trivial
   |succ k=>
    refine⟨rfl,rfl,fun wA m s l C b J u hc=>.inr ?_⟩;have ga:=Cu (main:=false) (cs:=(yV E.Fd (cout fn tmps todo kind ro) cs v).2) Td (ua4 (c:=cout fn tmps todo kind ro) (cs:=cs) (v:=v)) C.cell0 (C.thaw 0);rw[aeZ J u]at ga;refine⟨_,_,s,_,_,_,Mv.u0 m s,ga,C.mP _,Eff.set _ _ _ _,EvA.two _ _ (by omega),fun n=>by omega,Tz.pure 300 fun wB o=>?_⟩;have H:=K.rely (K.lM (K.rely (K.rely (K.rely Z f) g) l) C (Eff.set _ _ _ _) (C.mP _)) o;have r:=u;have l2:(nv (low m)%2==0)=true:=by rw[qi,xb];rfl
    cases D:m.S with
    |true=>
     have Y:nv (low m)∈Ll:=oi r (by rw[l2,r9];exact D);have T:=jX (jx (aeY (Fd:=E.Fd) (c:=cout fn tmps todo kind ro) (cs:=cs) (v:=v)) Y) rfl;exact ah3 K hT T k H
    |false=>
     have F:(nv (low m)/4%2==0)=true:=by
      rw[qi,r9];show(!m.S)=true
      rw[D];rfl
     by_cases hd:m.W=0\/m.K=true
     ·have e:dec (low m)=.out:=if_pos (hd.imp id fun y=>.inr (.inl y));rw[e];have Y:nv (low m)∈outs:=oi r (by
       rw[l2,F,r_,xc];show(true&&true&&(m.W==0||m.K))=true
       rcases hd with y|y<;>simp[y])
      exact Dq K hT (jx aeW Y) (jx ac0 Y) k H
     ·have e:dec (low m)=.uc _:=if_neg fun y=>by
       rcases y with y|y|y|y
       ·exact hd (.inl y)
       ·cases y
       ·exact hd (.inr y)
       ·exact absurd (D.symm.trans y) (by simp)
      rw[e];have Y:nv (low m)∈Lk:=oi r (by
       rw[l2,F,r_,xc];show(true&&true&&!(m.W==0||m.K))=true
       simp_all)
      have T:=jX (jx (aeX (Fd:=E.Fd) (c:=cout fn tmps todo kind ro) (cs:=cs) (v:=v)) Y) rfl;rw[yy,r_]at T;exact ah4 K hT k T H
end
end Env
end Ph
namespace Ph
open Conc Ren
theorem uf{U:Nat->Nat->Prop}{X:Nat->Prop}{a:Addr}(h:S a.block)(H:¬U a.block a.off):j9 U S X w w #[⟨.cell a,false,false⟩] S X:=
 ⟨⟨fun _ _ _=>rfl,aH _,fun a=>⟨.inl,fun h=>h.resolve_right fun y=>by omega⟩,fun a=>⟨.inl,fun h=>h.resolve_right fun y=>by omega⟩,fun e Y=>by
  simp at Y;subst Y;exact .inl ⟨a,rfl,rfl,.inl ⟨h,fun y=>by cases y⟩⟩,rfl,.refl _,rfl⟩,fun e Y b K=>by simp_all⟩
structure IP(Fd:Nat)(a:Option Addr)(n cap:Nat)(f:ah):Prop where
 fn:f.fn=140
 todo:f.todo=Jh
 defers:f.defers=[dcall 161 #[ptr Fd]]
 mode:f.mode=.run
 kind:f.kind=.normal
 round:f.roundOf=none
 size:f.tmps.size=48
 s0:f.tmps.getD 0 ai=ptr Fd
 s1:f.tmps.getD 1 ai=.slice a n cap
 s15:f.tmps.getD 15 ai=.slice a n cap
 s16:f.tmps.getD 16 ai=.int .i64 (n:Int)
 s17:f.tmps.getD 17 ai=.int .i64 0
namespace Env
structure Se(E:Env)(Hs:Nat->Option Addr->Nat->(Nat->Prop)->(Nat->Prop)->ae->Prop):Prop where
 rely:∀{x:Nat} {a:Option Addr} {n:Nat} {S X:Nat->Prop} {w w2:ae},Hs x a n S X w->gR E.U S w w2->Hs x a n S X w2
 lM:∀{x:Nat} {a:Option Addr} {n:Nat} {S X:Nat->Prop} {w w1:ae},Hs x a n S X w->Eff E.Fd w w1->Hs x a n S X w1
 more:∀{x:Nat} {a:Option Addr} {n:Nat} {S X S' X':Nat->Prop} {w:ae},Hs x a n S X w->(∀b,S b->S' b)->(∀b,X b->X' b)->Hs x a n S' X' w
section
variable(E:Env)(ch:Nat)(ok:Nat->Prop)(By Rf Sg Fp:Nat)(RO:Nat->Prop)(Fx:ae->Prop)(Hs:Nat->Option Addr->Nat->(Nat->Prop)->(Nat->Prop)->ae->Prop)
def Sf:Prop:=∀(D:(Nat->Prop)->(Nat->Prop)->ak->ae->Prop) (x:Nat) (S X:Nat->Prop) (j:Nat->af) (w:ae),ok x->E.yI RO S X->Fx w->
 (∀S' X' f' w' a n cap,E.yI RO S' X'->Fx w'->kt 138 39 tc (sA (DN Fp (.slice a n cap))) f'->Hs x a n S' X' w'->E.Tree PR false D S' X' (G f' [yW ch E.Wg (kh By Rf Sg Fp) (.int .i64 (x:Int)) j,bot]) w')->
 E.Tree PR false D S X (G (WG ch E.Wg (kh By Rf Sg Fp) (.int .i64 (x:Int)) true j).1 [yW ch E.Wg (kh By Rf Sg Fp) (.int .i64 (x:Int)) j,bot]) w
def SK:Prop:=∀(D:(Nat->Prop)->(Nat->Prop)->ak->ae->Prop) (x:Nat) (γ:E.Γ) (S X:Nat->Prop) (f:ah) (l:List ah) (w:ae) (a:Option Addr) (n cap:Nat),ok x->(∀b,RO b->S b)->(∀b,RO b->¬X b)->S E.Mp->X E.Mp->Fx w->Hs x a n S X w->E.mz γ (w.heap[E.Mp]?)->IP E.Fd a n cap f->
 (∀S' X' T w',(∀b,RO b->S' b)->(∀b,RO b->¬X' b)->S' E.Mp->Fx w'->E.mz (E.upd γ x) (w'.heap[E.Mp]?)->E.Tree PR false D S' X' (G (Jv E.Fd T) l) w')->E.Tree PR false D S X (G f l) w
variable{E ch ok By Rf Sg Fp RO Fx Hs}
theorem ZL(B:∀i,¬E.U E.Mp i)(K:E.wu RO Fx)(KE:∀{w w1:ae} {m m':Lock.Word} {c c':Nat},Fx w->E.MuAt w m c->Eff E.Fd w w1->E.MuAt w1 m' c'->Fx w1)(KL:∀{w:ae},Fx w->Fx w.later)(F:E.Se Hs)
  (kG:RO E.Fd)(hrw:RO E.Wg)(Ln:RO Fp)(hFu:¬E.U Fp 0)(hFv:∀w,Fx w->w.cell? ⟨Fp,0,none⟩=some (ptr E.Fd))(N:¬RO E.Mp)(C:Sf E ch ok By Rf Sg Fp RO Fx Hs)(M:SK E ok RO Fx Hs):GF E ch ok (kh By Rf Sg Fp) RO Fx:=by
 intro k x S X j w hx hW hF;rw[ZK];refine C _ x S X j w hx hW hF fun S' X' f' w' a n cap H d y hH=>?_;rw[y.eq];generalize(fun i=>f'.tmps.getD i _)=D;have Z:E.Kn S' (fun w=>Fx w/\Hs x a n S' X' w):=by
  refine⟨fun h hr=>⟨K.rely S' _ _ H.ro h.1 hr,F.rely h.2 hr⟩,fun h=>K.fd _ h.1,fun h u V R=>⟨KE h.1 u V R,F.lM h.2 V⟩,fun h=>⟨KL h.1,F.lM h.2 (Eff.later _ _)⟩⟩
 refine Tz.pure 60 fun w1 xr=>?_;change E.Tree PR _ _ S' X' (G (A7 Fp _ D _).1 _) w1;refine Tz.one rfl fun w2 p9=>?_;have Q:=Z.rely (Z.rely ⟨d,hH⟩ xr) p9;refine⟨_,w2,_,S',X',qU AW Sd (hFv _ Q.1) (by rw[ah1];exact ajr),uf (H.ro _ Ln) hFu,Tz.pure 8 fun w3 vq=>?_⟩;change E.Tree PR _ _ S' X' (G (A8 Fp _ _ D _).1 (A8 Fp _ _ D _).2) w3;rw[cl1];refine aeP B Z ?_ k (Z.rely Q vq);intro k w4 γ h4 hm;refine Tz.pure 14 fun W A=>?_;have L:∀b,RO b->(S' b\/b=E.Mp):=fun b Y=>.inl (H.ro b Y);have f:=K.rely _ _ _ L h4.1 A;have s:Hs x a n _ (fun b=>X' b\/b=E.Mp) W:=F.rely (F.more h4.2 (fun b Y=>.inl Y) (fun b Y=>.inl Y)) A;have hm5:E.mz γ (W.heap[E.Mp]?):=by
  rw[(A.kept _ (.inr rfl)).eq fun i hu=>B i hu];exact hm
 have t:=cl2 (Fp:=Fp) (Fd:=E.Fd) (a:=a) (n:=n) (cap:=cap) (j:=D) (l:=[yW ch E.Wg (kh By Rf Sg Fp) (.int .i64 x) j,bot]);change E.Tree PR _ _ _ _ (G (EZ Fp _ a n cap D _).1 (EZ Fp _ a n cap D _).2) W;generalize EZ Fp _ a n cap D _=r at t;simp only[look,rq.mk.injEq,List.map_cons,List.cons.injEq]at t;obtain⟨e1,e2,e3,e4,e5,e6,e7,e8,⟨g0,g1,q,z,g17,_⟩,_⟩:=t;rw[e1];refine M _ x γ _ _ r.1 _ W a n cap hx L (fun b Y h=>h.elim (H.mG b Y) fun e=>N (e▸Y)) (.inr rfl) (.inr rfl) f s hm5 ⟨e2,e3,e4,e5,e6,e7,e8,g0,g1,q,z,g17⟩ fun S2 X2 T w6 J v O g hm6=>?_;refine Tz.pure 2 fun w7 P=>?_;rw[cl4];have o:=K.rely _ _ _ J g P;have hm7:E.mz (E.upd γ x) (w7.heap[E.Mp]?):=by
  rw[(P.kept _ O).eq fun i hu=>B i hu];omega
 have I:∀b,RO b->(S2 b/\b≠E.Mp):=fun b Y=>⟨J b Y,fun e=>N (e▸Y)⟩;refine abm B O ⟨fun h hr=>K.rely _ _ _ I h hr,fun h=>K.fd _ h,fun h u V R=>KE h u V R,fun h=>KL h⟩ ?_ k o hm7;intro k w8 p;refine Tz.pure 60 fun w9 A9=>?_;obtain⟨h1,Q,_⟩:=Sb (cl3) rfl;change E.Tree PR _ _ _ _ (G _ (Um Fp _ _ D j T ch _ _ _).2) w9;rw[h1];have:AtRecv E ch _ RO Fx _ (fun b=>X2 b/\b≠E.Mp) _ w9:=
  ⟨_,rfl,Q,⟨I,fun h=>h.2 rfl,fun h=>h.2 rfl,kG,hrw,fun b Y h=>v b Y h.1⟩,K.rely _ _ _ I p A9⟩
 exact .stop (by unfold jf;exact this)
end
end Env
end Ph
namespace Ren
structure pz where
 iG:aQ->Bool
 sd:Nat->Bool
 uP:String->Bool
 rz:Bool
 wall:Array Oper->Bool:=fun _=>false
def na:Nat->af->Bool
 |_,.bool _|_,.int .. |_,.string _|_,.pointer none|_,.slice none _ _|_,.map none|_,.chan none|_,.nilFunc|_,.nilIface=>true
 |n+1,.agg c|n+1,.tuple c=>c.all (na n)
 |n+1,.iface _ v=>na n v
 |_,_=>false
theorem B0[gm]{r:Rn}:∀{n:Nat} {v:af},na n v=true->V r v v:=by
 intro n;induction n with
 |zero=>
  intro v h;cases v with
  |bool b=>exact .bool b
  |int k m=>exact .int k m
  |string s=>exact .string s
  |pointer a=>cases a with|none=>exact .nilPtr|some _=>simp[na]at h
  |slice a l c=>cases a with|none=>exact .kQ l c|some _=>simp[na]at h
  |map a=>cases a with|none=>exact .om|some _=>simp[na]at h
  |chan a=>cases a with|none=>exact .pK|some _=>simp[na]at h
  |nilFunc=>exact .nilFunc
  |nilIface=>exact .nilIface
  |_=>simp[na]at h
 |succ n Y=>
  intro v h;have arr:∀(c:Array _),c.all (na n)=true->∀(i:Nat) x x',c[i]?=some x->c[i]?=some x'->V r x x':=by
   intro c K i x x' e e';obtain rfl:=Option.some.inj (e.symm.trans e');obtain⟨H,rfl⟩:=bk.1 e;simp_all
  cases v with
  |bool b=>exact .bool b
  |int k m=>exact .int k m
  |string s=>exact .string s
  |pointer a=>cases a with|none=>exact .nilPtr|some _=>simp[na]at h
  |slice a l c=>cases a with|none=>exact .kQ l c|some _=>simp[na]at h
  |map a=>cases a with|none=>exact .om|some _=>simp[na]at h
  |chan a=>cases a with|none=>exact .pK|some _=>simp[na]at h
  |nilFunc=>exact .nilFunc
  |nilIface=>exact .nilIface
  |agg c=>exact .agg rfl (arr c h)
  |tuple c=>exact .tuple rfl (arr c h)
  |iface t v=>exact .iface t (Y h)
  |_=>simp[na]at h
section
variable(K:pz)(P:Program)
def kD:aN->Bool
 |.tmp _=>true
 |.const v=>na 4 v
 |.global g=>K.sd g
 |.func f=>K.iG f
def Av:Option aN->Bool
 |none=>true
 |some x=>kD K x
def zC:bC->Bool
 |.int _|.string|.bool=>true
 |_=>false
def Ce(t:au):Bool:=
 match P.underlying t with
 |some (.map k _)=>match P.underlying k with
  |some d=>zC d
  |none=>true
 |_=>true
def tt(t:au)(y:aN):=
 !P.eqGuardType P.depth t&&match P.underlying t with
 |some (.pointer _)=>K.rz
 |some (.interface _)=>match y with
  |.const .nilIface=>true
  |_=>false
 |some d=>zC d
 |none=>true
def DR(t:au):Bool:=
 match P.underlying t with
 |some (.int .u8)=>true
 |_=>false
def Lo(s d:au):Bool:=
 match P.underlying s,P.underlying d with
 |some (.int _),some (.int _)=>true
 |some (.slice e),some .string=>DR P e
 |some .string,some (.slice e)=>DR P e&&K.rz
 |some (.pointer _),some .unsafePointer|some .unsafePointer,some (.pointer _)=>K.rz
 |_,_=>false
def Rb(t:au):Bool:=
 match P.underlying t with
 |some (.int _)=>false
 |_=>true
def vR(b:Builtin)(Y:Array au)(n:Nat):=
 match b with
 |.append=>match Y[1]? with
  |some t=>Rb P t
  |none=>true
 |.cap=>n==1
 |.copy|.len|.min|.recover=>true
 |.unsafeSliceData=>n==1&&K.rz
 |.unsafeString=>n==2&&K.rz
 |_=>false
def Dr(c:Call):=
 c.args.all (kD K)&&match c.callee with
 |.value f=>kD K f
 |.invoke x name=>kD K x&&K.uP name
 |.builtin b=>vR K P b c.argTypes c.args.size
def Qo:Callee->Bool
 |.value _=>true
 |_=>false
def Re(t:au):Bool:=
 match P.underlying t with
 |some (.interface _)=>false
 |_=>true
def mV:Op->Bool
 |.move x|.assign x|.box _ x|.load _ x|.nilCheck x|.unOp _ _ x|.makeInterface _ x|.fieldAddr _ x _|.field _ x _|.range _ x|.next x _|.entry x|.extract x _|.panic x=>kD K x
 |.pick c a b=>kD K c&&kD K a&&kD K b
 |.alloc _=>true
 |.build _ Y|.buildSlice _ _ Y=>Y.all fun p=>kD K p.2
 |.store _ a x|.makeSlice _ a x|.indexAddr _ a x|.index _ a x=>kD K a&&kD K x
 |.binOp op t x y _=>kD K x&&kD K y&&(rU op||tt K P t y)
 |.convert s d x=>kD K x&&Lo K P s d
 |.makeFunc (.func f) first cap=>K.iG f&&first.all (kD K)&&cap.all (kD K)
 |.makeMap _ x=>Av K x
 |.slice _ x D H R=>kD K x&&Av K D&&Av K H&&Av K R
 |.lookup t x i _=>kD K x&&kD K i&&Ce P t
 |.mapUpdate t m k x=>kD K m&&kD K k&&kD K x&&Ce P t
 |.typeAssert x _ a ok=>kD K x&&ok&&Re P a
 |.call c=>Dr K P c
 |.defer c=>Dr K P c&&Qo c.callee
 |_=>false
def Ia:Op->Bool
 |.defer _=>false
 |.call c=>match c.callee with
  |.builtin .recover=>false
  |_=>true
 |_=>true
def Aj(rd:Bool)(o:Oper):=mV K P o.op&&(!rd||Ia o.op)
def lz(rd:Bool):Code->Bool
 |.skip|.label _|.exit _|.goto _|.ret=>true
 |.refuse y=>!(y== "")
 |.region _ ops _=>K.wall ops||ops.all (Aj K P rd)
 |.seq a b=>lz rd a&&lz rd b
 |.cond c a b=>kD K c&&lz rd a&&lz rd b
 |.block _ c|.loop c|.scope c=>lz rd c
 |.rangeFunc f _ aqZ bd=>kD K f&&lz true aqZ&&lz true bd
@[reducible] def pz.jD(ro:Nat->Prop)(jJ:Nat->Nat->Prop)(rest:List Item->Prop)(jm:List aL->Prop):gm where
 size:=P.globals.size
 iG f:=K.iG f=true
 code c:=lz K P true c=true
 methods n:=K.uP n=true
 sd g:=K.sd g=true
 wall ops:=K.wall ops=true
 ro:=ro
 jJ:=jJ
 rest:=rest
 jm:=jm
end
section
variable{K:pz}{P:Program}{ro:Nat->Prop}{jJ:Nat->Nat->Prop}{rest:List Item->Prop}{jm:List aL->Prop}(kG:K.rz=true->∀b,¬ro b)
theorem tY{x:aN}(h:kD K x=true):@js (K.jD P ro jJ rest jm) x:=by
 letI:=K.jD P ro jJ rest jm
 cases x with
 |tmp t=>trivial
 |const v=>exact fun r=>B0 h
 |global g=>exact h
 |func f=>exact h
theorem abn{x:Option _}(h:Av K x=true):@yr (K.jD P ro jJ rest jm) x:=by
 cases x with
 |none=>trivial
 |some y=>exact tY h
theorem Mz{d:bC}(h:zC d=true):plainKey d:=by
 cases d with
 |int k=>exact .inl ⟨k,rfl⟩
 |string=>exact .inr (.inl rfl)
 |bool=>exact .inr (.inr rfl)
 |_=>simp[zC]at h
theorem MA(h:Ce P t=true):Hd P t:=by
 intro k e Y d hd;unfold Ce at h;rw[Y]at h;simp[hd]at h;exact Mz h
include kG in
theorem ac4(h:tt K P t y=true):@St (K.jD P ro jJ rest jm) P t y:=by
 unfold tt at h;simp at h;obtain⟨D,Y⟩:=h;refine⟨D,?_⟩;cases H:P.underlying t with
 |none=>exact .inl ⟨.inl (fun d e=>by simp_all),fun R=>by simp_all⟩
 |some d=>
  rw[H]at Y;have plain:zC d=true->Ar P t:=fun I=>.inl fun d' e=>by rw[H]at e;cases e;exact Mz I
  cases d with
  |pointer e=>exact .inl ⟨.inr ⟨e,H⟩,fun _=>kG Y⟩
  |interface m=>
   refine .inr ⟨?_,m,rfl⟩;simp only at Y;split at Y
   ·rfl
   ·cases Y
  |_=>exact .inl ⟨plain Y,fun R=>by simp_all⟩
theorem Qp(h:DR P t=true):P.underlying t=some (.int .u8):=by
 unfold DR at h;split at h
 ·omega
 ·cases h
include kG in
theorem ac5{s d:au}(h:Lo K P s d=true):uW P s d/\((∃k,P.underlying s=some (.int k))\/(∃e,P.underlying s=some (.slice e))\/∀b,¬ro b):=by
 unfold Lo at h;split at h
 ·rename_i a b;exact⟨.int a b,.inl ⟨_,a⟩⟩
 ·rename_i a b;exact⟨.toStr a (Qp h) b,.inr (.inl ⟨_,a⟩)⟩
 ·rename_i a b;simp at h;exact⟨.toBytes a b (Qp h.1),.inr (.inr (kG h.2))⟩
 ·rename_i a b;exact⟨.toUns a b,.inr (.inr (kG h))⟩
 ·rename_i a b;exact⟨.QX a b,.inr (.inr (kG h))⟩
 ·cases h
include kG in
theorem Xg{b:Builtin}{Y:Array _}(h:vR K P b Y n=true):@Gx (K.jD P ro jJ rest jm) P b Y n:=by
 cases b with
 |append=>
  intro D d H hd k e;subst e;unfold vR at h;simp only[H,Rb,hd]at h;cases h
 |cap=>exact(by simpa[vR]using h:n=1)
 |copy=>trivial
 |len=>trivial
 |min=>trivial
 |recover=>trivial
 |unsafeSliceData=>simp[vR]at h;exact⟨h.1,kG h.2⟩
 |unsafeString=>simp[vR]at h;exact⟨h.1,kG h.2⟩
 |_=>simp[vR]at h
theorem Gc{l:Array _}(h:l.all (kD K)=true):∀x∈l,@js (K.jD P ro jJ rest jm) x:=fun x Y=>tY (bF.1 h x Y)
include kG in
theorem On{c:Call}(h:Dr K P c=true):@CV (K.jD P ro jJ rest jm) P c:=by
 unfold Dr at h;simp only[ax]at h;refine⟨Gc h.1,?_⟩;have Y:=h.2;cases H:c.callee with
 |value f=>rw[H]at Y;exact tY Y
 |invoke x name=>rw[H]at Y;simp at Y;exact⟨tY Y.1,Y.2⟩
 |builtin b=>rw[H]at Y;exact Xg kG Y
include kG in
theorem Qr{o:Op}(h:mV K P o=true):@DG (K.jD P ro jJ rest jm) P o:=by
 have Y:=@tY K P ro;have H:=@abn K P ro;cases o with
 |pick c a b=>simp only[mV,ax]at h;exact⟨Y h.1.1,Y h.1.2,Y h.2⟩
 |alloc e=>trivial
 |build t I=>exact fun p D=>Y (bF.1 h p D)
 |buildSlice t n I=>exact fun p D=>Y (bF.1 h p D)
 |store t a x=>simp only[mV,ax]at h;exact⟨Y h.1,Y h.2⟩
 |makeSlice t a x=>simp only[mV,ax]at h;exact⟨Y h.1,Y h.2⟩
 |indexAddr t a x=>simp only[mV,ax]at h;exact⟨Y h.1,Y h.2⟩
 |index t a x=>simp only[mV,ax]at h;exact⟨Y h.1,Y h.2⟩
 |binOp op t x y F=>simp only[mV,ax,cS]at h;exact⟨Y h.1.1,Y h.1.2,h.2.imp id (ac4 kG)⟩
 |convert s d x=>simp only[mV,ax]at h;exact⟨Y h.1,ac5 kG h.2⟩
 |makeFunc fn first cap=>
  cases fn with
  |func f=>simp only[mV,ax]at h;exact⟨⟨f,rfl,h.1.1⟩,Gc h.1.2,Gc h.2⟩
  |_=>simp[mV]at h
 |makeMap t x=>exact H h
 |slice t x U A B=>simp only[mV,ax]at h;exact⟨Y h.1.1.1,H h.1.1.2,H h.1.2,H h.2⟩
 |lookup t x i ok=>simp only[mV,ax]at h;exact⟨Y h.1.1,Y h.1.2,MA h.2⟩
 |mapUpdate t m k x=>simp only[mV,ax]at h;exact⟨Y h.1.1.1,Y h.1.1.2,Y h.1.2,MA h.2⟩
 |typeAssert x C a ok=>
  simp only[mV,ax]at h;refine⟨Y h.1.1,h.1.2,fun ms e=>?_⟩;have:=h.2;simp[Re,e]at this
 |call c=>exact On kG h
 |defer c=>
  simp only[mV,ax]at h;refine⟨On kG h.1,?_⟩;have:=h.2;cases R:c.callee with
  |value f=>exact⟨f,rfl⟩
  |_=>rw[R]at this;simp[Qo]at this
 |_=>first|exact Y h|(simp[mV]at h)
include kG in
theorem Oo{o:Oper}(h:Aj K P rd o=true):@ye (K.jD P ro jJ rest jm) P rd o:=by
 simp[Aj,ax,cS]at h;refine⟨Qr kG h.1,fun hr=>?_⟩;have Y:=h.2.elim (fun x=>by simp_all) id;refine⟨fun c e=>by rw[e]at Y;simp[Ia]at Y,fun c e H=>by rw[e]at Y;simp[Ia,H]at Y⟩
include kG in
theorem vB:∀{c:Code} {rd:Bool},lz K P rd c=true-> @lQ (K.jD P ro jJ rest jm) P rd c:=by
 intro c;induction c with
 |region i ops I=>
  intro rd h;simp only[lz,cS]at h;exact h.imp id fun h o R=>Oo kG (bF.1 h o R)
 |seq a b Y H=>intro rd h;simp only[lz,ax]at h;exact⟨Y h.1,H h.2⟩
 |cond q a b Y H=>intro rd h;simp[lz,ax]at h;exact⟨tY h.1.1,Y h.1.2,H h.2⟩
 |block i d D=>exact fun h=>D h
 |loop d D=>exact fun h=>D h
 |scope d D=>exact fun h=>D h
 |refuse y=>intro rd h;simp[lz]at h;exact h
 |rangeFunc f A aqZ bd Y H=>intro rd h;simp[lz,ax]at h;exact⟨tY h.1.1,h.1.2,h.2⟩
 |_=>intro rd h;trivial
end
def uQ:bC->Bool
 |.float _|.complex _=>false
 |_=>true
theorem Yw{info:au->Option _}{fs:Array Field}{i:aI}(h:bT info fs=some i):∃out,i.desc=.struct out:=by
 unfold bT at h;simp only[bind,ao]at h;have⟨a,_,h⟩:=h;split at h<;>(cases h;exact⟨_,rfl⟩)
theorem reckon_desc{info:au->Option aI}{d:bC}{i:aI}(h:bJ info d=some i):uQ i.desc=true/\∀n u,i.desc≠.named n u:=by
 unfold bJ at h;cases d with
 |pointer e=>
  simp only[bind,ao]at h;have⟨a,_,h⟩:=h;split at h
  ·cases h
  ·split at h
   ·cases h
   ·have⟨_,_,h⟩:=ao.1 h;cases h;exact⟨rfl,fun _ _ x=>by cases x⟩
  ·have⟨_,_,h⟩:=ao.1 h;cases h;exact⟨rfl,fun _ _ x=>by cases x⟩
 |struct fs=>have⟨out,e⟩:=Yw h;rw[e];exact⟨rfl,fun _ _ x=>by cases x⟩
 |slice e=>simp only[bind,ao]at h;have⟨_,_,_,_,h⟩:=h;cases h;exact⟨rfl,fun _ _ x=>by cases x⟩
 |map k e=>simp only[bind,ao]at h;have⟨_,_,_,_,_,_,_,_,h⟩:=h;cases h;exact⟨rfl,fun _ _ x=>by cases x⟩
 |chan dir e=>simp only[bind,ao]at h;have⟨_,_,_,_,h⟩:=h;cases h;exact⟨rfl,fun _ _ x=>by cases x⟩
 |func Y rs v=>simp only[bind,ao]at h;have⟨_,_,h⟩:=h;cases h;exact⟨rfl,fun _ _ x=>by cases x⟩
 |array n e=>simp only[bind,ao]at h;have⟨_,_,_,_,h⟩:=h;cases h;exact⟨rfl,fun _ _ x=>by cases x⟩
 |_=>cases h
theorem Pj{α B:Type}(I:B->Prop)(g:α->B->Option _)(H:∀a s x,I s->g a s=some x->∃s',x=.yield s'/\I s'):∀(l:List α) s s1,I s->forIn l s g=some s1->I s1
 |[],s,s1,Y,h=>by simp_all
 |a::l,s,s1,Y,h=>by
  rw[List.forIn_cons]at h;have⟨x,D,h⟩:=ao.1 h;obtain⟨s',rfl,K⟩:=H a s x Y D;exact Pj I g H l s' s1 K h
section
variable[gm]{r:Rn}
def sa(r:Rn)(z:af):=V r z z
theorem sa.cells{z:af}(h:sa r z):∀x∈z.cells,V r x x:=by
 intro x K;cases z with
 |agg c=>
  cases h with
  |agg _ H=>
   obtain⟨i,Y,rfl⟩:=dI.1 K;exact H i _ _ (bG Y) (bG Y)
 |_=>simp[Value.cells,Array.mem_singleton]at K;rw[K];exact h
theorem Ib{c:Array _}(h:∀x∈c,V r x x):V r (.agg c) (.agg c):=.agg rfl fun i x x' e e'=>by
 obtain rfl:=Option.some.inj (e.symm.trans e');exact h x (bp e)
theorem Yx{info:au->Option aI}(B:∀t i z,info t=some i->i.zero=some z->sa r z){fs:Array Field}{i:aI}(h:bT info fs=some i):∀z,i.zero=some z->sa r z:=by
 unfold bT at h;simp only[bind,ao,pure]at h;have⟨a,D,h⟩:=h;have inv:=Pj (fun s:Array Field×Nat×Nat×Nat×Nat×Bool×Bool×Option (Array af)×String=>∀z,s.2.2.2.2.2.2.2.1=some z->∀x∈z,V r x x) _ ?_ fs.toList _ a ?_ (by rw[Array.forIn_toList];exact D)
 ·have key:∀z,(a.2.2.2.2.2.2.2.1.map Value.agg)=some z->sa r z:=by
   intro z K;obtain⟨c,U,rfl⟩:=bj.1 K;exact Ib (inv c U)
  split at h<;>(cases h;exact key)
 ·intro f s x I Y;have fin:∀(i:aI) (q:Prop) [Decidable q] z,info f.type=some i->(if q then none else s.2.2.2.2.2.2.2.1.bind fun a=>i.zero.bind fun b=>some (a++b.cells))=some z->∀x∈z,V r x x:=by
   intro i q _ z H K;split at K
   ·cases K
   ·simp only[ao]at K;have⟨a,D,b,A,e⟩:=K;cases e;intro x Y;rcases Array.mem_append.1 Y with y|y
    ·exact I a D x y
    ·exact(B _ _ _ H A).cells x y
  have⟨j,R,Y⟩:=ao.1 Y;split at Y
  ·cases Y
  ·split at Y
   ·cases Y
   ·split at Y
    ·simp only[Option.bind_some]at Y;split at Y<;>(cases Y;exact⟨_,rfl,fun z K=>fin j _ z R K⟩)
    ·have⟨C,_,Y⟩:=ao.1 Y;split at Y<;>(cases Y;exact⟨_,rfl,fun z K=>fin j _ z R K⟩)
 ·intro z K x Y;cases K;simp at Y
theorem Yy{info:au->Option aI}(H:∀t i z,info t=some i->i.zero=some z->sa r z){d:bC}{i:aI}(h:bJ info d=some i):∀z,i.zero=some z->sa r z:=by
 unfold bJ at h;cases d with
 |pointer e=>
  simp only[bind,ao]at h;have⟨a,_,h⟩:=h;split at h
  ·cases h
  ·split at h
   ·cases h
   ·have⟨_,_,h⟩:=ao.1 h;cases h;intro z Y;cases Y;exact .nilPtr
  ·have⟨_,_,h⟩:=ao.1 h;cases h;intro z Y;cases Y;exact .nilPtr
 |struct fs=>exact Yx H h
 |slice e=>simp only[bind,ao]at h;have⟨_,_,_,_,h⟩:=h;cases h;intro z Y;cases Y;exact .kQ _ _
 |map k e=>simp only[bind,ao]at h;have⟨_,_,_,_,_,_,_,_,h⟩:=h;cases h;intro z Y;cases Y;exact .om
 |chan dir e=>simp only[bind,ao]at h;have⟨_,_,_,_,h⟩:=h;cases h;intro z Y;cases Y;exact .pK
 |func U rs v=>simp only[bind,ao]at h;have⟨_,_,h⟩:=h;cases h;intro z Y;cases Y;exact .nilFunc
 |array n e=>
  simp only[bind,ao]at h;have⟨j,D,_,_,h⟩:=h;cases h;intro z Y;split at Y
  ·cases Y
  ·split at Y
   ·cases Y;exact Ib fun x K=>by simp_all
   ·obtain⟨y,I,rfl⟩:=bj.1 Y;refine Ib fun x K=>(H _ _ _ D I).cells x ?_;have⟨c,A,R⟩:=Array.mem_flatten.1 K;simp_all
 |_=>cases h
def uw(T:cB):=T.types.all fun i=>uQ i.desc&&match i.zero with|some z=>na 4 z|none=>true
theorem Qs{T:cB}(h:uw T=true){i:aI}(e:T.types[t]?=some i):uQ i.desc=true/\∀z,i.zero=some z->sa r z:=by
 have:=bF.1 h i (bp e);simp at this;refine⟨this.1,fun z K=>?_⟩;have Y:=this.2;rw[K]at Y;exact B0 Y
theorem abo{T:cB}(h:uw T=true):∀f t i,cz T f t=some i->uQ i.desc=true/\∀z,i.zero=some z->sa r z:=by
 intro f;induction f with
 |zero=>intro t i e;cases e
 |succ f Y=>
  intro t i e;unfold cz at e;split at e
  ·exact Qs h e
  ·obtain⟨d,_,e⟩:=ao.1 e;exact⟨(reckon_desc e).1,Yy (fun t i z a b=>(Y t i a).2 z b) e⟩
theorem Ic{T:cB}(h:uw T=true){i:aI}(e:T.info? t=some i):uQ i.desc=true/\∀z,i.zero=some z->sa r z:=by
 unfold ew at e;split at e
 ·exact Qs h e
 ·exact abo h _ _ _ e
theorem ac6{P:Program}(h:uw P.toTables=true):qw P:=fun t i z e Y r=>(Ic h e).2 z Y
theorem Mu{P:Program}(h:uw P.toTables=true){d:bC}(e:P.underlying t=some d):uQ d=true:=by
 have r:Rn:=⟨fun _=>none,(fun _ _ _ x=>by simp),(fun _ _ x=>by cases x)⟩;unfold Program.underlying at e;split at e
 ·obtain⟨i,Y,rfl⟩:=bj.1 e;exact(Ic (r:=r) h Y).1
 ·rename_i i Y;cases e;exact(Ic (r:=r) h Y).1
 ·cases e
theorem ae0{P:Program}(h:uw P.toTables=true):Dz P:=by
 intro d;induction d with
 |zero=>intro u k x e;cases e
 |succ d K=>
  intro u k x e;unfold plainCell at e;split at e
  ·obtain⟨f,_,e⟩:=Array.exists_of_findSome?_eq_some e;split at e
   ·exact K _ _ _ e
   ·cases e
  ·dsimp only at e;split at e
   ·cases e
   ·exact K _ _ _ e
  ·simp_all
  ·split at e<;>cases e;simp_all
  ·rename_i Y;have:=Mu h Y;simp[uQ]at this
  ·rename_i Y;have:=Mu h Y;simp[uQ]at this
  ·cases e
end
theorem Yz{info:au->Option aI}{d:bC}{i:aI}(h:bJ info d=some i):i.methods=#[]:=by
 unfold bJ at h;cases d with
 |pointer e=>
  simp only[bind,ao]at h;have⟨a,_,h⟩:=h;split at h
  ·cases h
  ·split at h
   ·cases h
   ·have⟨_,_,h⟩:=ao.1 h;cases h;rfl
  ·have⟨_,_,h⟩:=ao.1 h;cases h;rfl
 |struct fs=>
  unfold bT at h;simp only[bind,ao]at h;have⟨a,_,h⟩:=h;split at h<;>(cases h;rfl)
 |slice e=>simp only[bind,ao]at h;have⟨_,_,_,_,h⟩:=h;cases h;rfl
 |map k e=>simp only[bind,ao]at h;have⟨_,_,_,_,_,_,_,_,h⟩:=h;cases h;rfl
 |chan dir e=>simp only[bind,ao]at h;have⟨_,_,_,_,h⟩:=h;cases h;rfl
 |func Y rs v=>simp only[bind,ao]at h;have⟨_,_,h⟩:=h;cases h;rfl
 |array n e=>simp only[bind,ao]at h;have⟨_,_,_,_,h⟩:=h;cases h;rfl
 |_=>cases h
def Si(P:Program)(t:au):Bool:=
 match P.underlying t with
 |some (.pointer _)=>false
 |_=>true
def ah5(K:pz)(P:Program)(t:au)(i:aI):=i.methods.all fun m=>!K.uP m.name||(m.path.isEmpty&&(match m.func with
 |some (f,false)=>K.iG f
 |_=>false)&&Si P t)
def z7(K:pz)(P:Program):=(List.range P.types.size).all fun t=>match P.types[t]? with
 |some i=>ah5 K P t i
 |none=>true
theorem ZM{K:pz}{P:Program}{ro:Nat->Prop}{rest:List Item->Prop}{jm:List _->Prop}(h:z7 K P=true){n:String}(F:K.uP n=true):@zV (K.jD P ro jJ rest jm) P n:=by
 intro t i m Y D;have old:∀{i:aI},P.types[t]?=some i->i.methods.find? (·.name==n)=some m->m.path=#[]/\(∃f,m.func=some (f,false)/\K.iG f=true)/\∀e,P.underlying t≠some (.pointer e):=by
  intro i Y D;have J:=(bk.1 Y).1;have B:=cW.1 h t (ef.2 J);simp[Y]at B;have U:=bF.1 B m (Array.mem_of_find?_eq_some D);have R:=by simpa using Array.find?_some D
  simp[R,F,Bool.not_true,Bool.false_or,ax]at U;refine⟨by simp_all,?_,fun e C=>?_⟩
  ·have A:=U.1.2;split at A
   ·simp_all
   ·cases A
  ·have A:=U.2;simp[Si,C]at A
 have I:∀f (i:aI),cz P.toTables f t=some i->i.methods.find? (·.name==n)=some m->P.types[t]?=some i\/False:=by
  intro f i Y D;cases f with
  |zero=>cases Y
  |succ f=>
   unfold cz at Y;split at Y
   ·simp_all
   ·obtain⟨d,_,e⟩:=ao.1 Y;rw[Yz e]at D;simp at D
 have H:=Y;unfold ew at H;split at H
 ·exact old H D
 ·exact old ((I _ i H D).resolve_right id) D
def td(K:pz)(P:Program)(ext:aQ->Bool)(f:aQ):Bool:=match P.funcs[f]? with
 |some fn=>!(fn.name== "runtime.NumGoroutine")&&(match fn.body with
  |some c=>lz K P false c
  |none=>ext f)
 |none=>false
def SM(K:pz)(P:Program)(ro:Nat->Prop)(jJ:Nat->Nat->Prop)(rest:List _->Prop)(jm:List aL->Prop)(fn:Func):=
 letI:=K.jD P ro jJ rest jm
 Extern.findNext fn=none/\∃e,Extern.find fn=some e/\∀r a a',VA r a a'->SR P V r (e a) (e a')
theorem IQ{K:pz}{P:Program}{ro:Nat->Prop}{rest:List _->Prop}{jm:List _->Prop}(kG:K.rz=true->∀b,¬ro b)(ext:aQ->Bool)(C:uw P.toTables=true)(M:z7 K P=true)(B:∀f,K.iG f=true->td K P ext f=true)(F:∀f fn,ext f=true->P.funcs[f]?=some fn->SM K P ro jJ rest jm fn):@lA (K.jD P ro jJ rest jm) P:=by
 letI:=K.jD P ro jJ rest jm
 refine⟨⟨ac6 C,rfl,ae0 C,fun f D=>?_,fun n A=>ZM M A⟩,fun c I=>vB kG I,rfl,fun _=>rfl,fun _=>rfl,fun f fn c D Y H=>?_⟩
 ·have h:=B f D;unfold td at h;split at h
  ·rename_i fn Y;simp only[ax,Bool.not_eq_true']at h;refine⟨fn,Y,h.1,fun H=>?_⟩;have R:=h.2;rw[H]at R;exact F f fn R Y
  ·cases h
 ·have h:=B f D;unfold td at h;simp[Y,H,ax]at h;exact vB kG h.2
def Tw:List Nat:=[0,1,2,3,4,5,6,7,8,9,10,11,12,13,14,15,16,22,37,38,39,60,92,111,122,137,138,140,157,158,159,160,161,168,169,170,171,172,173,174,175,176,177,178,179,180,181,182,183,184,185,186,187,188,199,200,201,202,203,204,205,206,207,214,215,216,217,218,219,220,222,223,224,225,226,227,228,229,230,231,232,233,234,235,236,237,242,243,244,245]
def vb(f:Nat):Bool:=[113,134,156].contains f
def K0:pz:={iG:=fun f=>decide (f<246)&&!Tw.contains f,sd:=fun g=>[0,2,3].contains g,uP:=fun n=>n== "spotter/spotter.told"||n== "spotter/spotter.flag",rz:=true}
theorem GG:uw Tryz.prog.toTables=true:=by decide+kernel
theorem abp:z7 K0 Tryz.prog=true:=by decide+kernel
theorem abq:((List.range 246).all fun f=>!K0.iG f||td K0 Tryz.prog vb f)=true:=by decide+kernel
theorem ac7(f:Nat)(h:K0.iG f=true):td K0 Tryz.prog vb f=true:=by
 have Y:=by
  have:(decide _&&!Tw.contains f)=true:=h;simp only[ax,decide_eq_true_eq]at this;exact this.1
 have:=cW.1 abq f (ef.2 Y);rw[h]at this;simpa using this
theorem Ie(K:pz)(ro:Nat->Prop)(jJ:Nat->Nat->Prop)(rest:List Item->Prop)(jm:List aL->Prop)(f:Nat)(fn:Func)(h:vb f=true)(Y:Tryz.prog.funcs[f]?=some fn):SM K Tryz.prog ro jJ rest jm fn:=by
 letI:=K.jD Tryz.prog ro jJ rest jm
 have:f=113\/f=134\/f=156:=by simpa[vb]using h
 rcases this with rfl|rfl|rfl
 ·rw[c9]at Y;cases Y;exact⟨by decide+kernel,Extern.AbiNoEscape.same,by rfl,fun r a a' h=>Yk h⟩
 ·rw[ey]at Y;cases Y;exact⟨by decide+kernel,Extern.BytealgIndexByte.indexByte,by rfl,fun r a a' h=>XA h⟩
 ·rw[eA]at Y;cases Y;exact⟨by decide+kernel,_,by rfl,fun r a a' h=>Xb _ _ h⟩
def Ak:Nat->Prop:=fun _=>False
def v_:Nat->Nat->Prop:=fun _ _=>False
theorem yz(rest:List Item->Prop)(jm:List aL->Prop):@lA (K0.jD Tryz.prog Ak v_ rest jm) Tryz.prog:=IQ (fun _ _ h=>h) _ GG abp ac7 (Ie K0 _ _ _ jm)
def K2:pz:={iG:=fun _=>false,sd:=fun _=>false,uP:=fun _=>false,rz:=false}
def K3:pz:={iG:=fun f=>[77,139,144,145,150,165].contains f,sd:=fun _=>false,uP:=fun _=>false,rz:=false}
theorem ZN:z7 K3 Tryz.prog=true:=by decide+kernel
theorem ZO:([77,139,144,145,150,165].all fun f=>td K3 Tryz.prog vb f)=true:=by decide+kernel
theorem ac8(f:Nat)(h:K3.iG f=true):td K3 Tryz.prog vb f=true:=by
 have:f∈[77,139,144,145,150,165]:=by
  have:[77,139,144,145,150,165].contains f=true:=h;simpa using this
 exact cW.1 ZO f this
theorem ah6(ro:Nat->Prop)(jJ:Nat->Nat->Prop)(rest:List Item->Prop)(jm:List aL->Prop):@lA (K3.jD Tryz.prog ro jJ rest jm) Tryz.prog:=IQ (fun h=>by cases h) _ GG ZN ac8 (Ie K3 ro jJ _ jm)
end Ren
namespace Ph
open Conc Ren
theorem Tz.inv{P:Program}{U:Nat->Nat->Prop}{D:(Nat->Prop)->(Nat->Prop)->ak->ae->Prop}{X:Nat->Prop}{g:ak}(J:(Nat->Prop)->(Nat->Prop)->ae->Prop)
  (Y:∀S X w w2 w1 es S1 X1,J S X w->gR U S w w2->Did S X w2 w1 es S1 X1->J S1 X1 w1)(h:Tz P main U D S X g w)(j:J S X w):Tz P main U (fun S X g w=>D S X g w/\J S X w) S X g w:=by
 induction h with
 |stop hd=>exact .stop ⟨hd,j⟩
 |step K ex _ H=>exact .step K ex fun w2 g1 w1 es S1 X1 hr e hd=>H w2 g1 w1 es S1 X1 hr e hd (Y _ _ _ _ _ _ _ _ j hr hd.toDid)
theorem Tz.sets{P:Program}{U:Nat->Nat->Prop}{D:(Nat->Prop)->(Nat->Prop)->ak->ae->Prop}{X S':Nat->Prop}{g:ak}(h:Tz P main U D S X g w)(Y:∀a,S a↔S' a)(hX:∀a,X a↔X' a):Tz P main U D S' X' g w:=by
 obtain rfl:S=S':=funext fun a=>propext (Y a);obtain rfl:X=X':=funext fun a=>propext (hX a);exact h
def vd:af->af
 |.pointer (some _)=>.tuple #[]
 |v=>v
def Tx:Obj->Obj
 |.cells c e _=>.cells (c.map vd) e (0,(c.map vd).size)
 |o=>o
def rG(ow:Option Nat)(w:ae):={w with heap:=w.heap.mapIdx fun i o=>if some i=ow then o else Tx o}
theorem z8{b:Nat}{o:Obj}(h:w.heap[b]?=some o):(rG ow w).heap[b]?=some (if some b=ow then o else Tx o):=by
 show(w.heap.mapIdx _)[b]?=_
 simp_all
theorem Hk:(rG ow w).heap.size=w.heap.size:=by
 show(w.heap.mapIdx _).size=_
 simp
structure xt(Fd By Rf Sg Fp k q st:Nat)(X P:e_)(w:ae):Prop where
 b:w.heap[By]?=some (.cells #[.int .i64 (k:Int),.int .i64 (q:Int),.int .i64 (st:Int)] 75)
 r:w.heap[Rf]?=some (.cells #[.string X] 9)
 s:w.heap[Sg]?=some (.cells #[.string P] 9)
 f:w.heap[Fp]?=some (.cells #[ptr Fd] 182)
 low:PR.globals.size<=w.heap.size
def Kp(By Rf Sg Fp b:Nat):=b=By\/b=Rf\/b=Sg\/b=Fp
section
variable{Fd By Rf Sg Fp k q st:Nat}{X P:e_}{w:ae}{ow:Option Nat}
theorem xt.reads(h:xt Fd By Rf Sg Fp k q st X P w)(H:∀b,Kp By Rf Sg Fp b->some b≠ow)(T:Nat->Question->Nat):Reads (tp (rG ow w) T) By Rf Sg k q st X P:=by
 have Y:(tp (rG ow w) T).heap[By]?=_:=(z8 h.b).trans (by rw[if_neg (H By (.inl rfl))]);have K:(tp (rG ow w) T).heap[Rf]?=_:=(z8 h.r).trans (by rw[if_neg (H Rf (.inr (.inl rfl)))]);have D:(tp (rG ow w) T).heap[Sg]?=_:=(z8 h.s).trans (by rw[if_neg (H Sg (.inr (.inr (.inl rfl))))]);exact⟨by rw[aK _ By 0 _ _ _ Y];simp[vd],by rw[aK _ By 1 _ _ _ Y];simp[vd],by rw[aK _ By 2 _ _ _ Y];simp[vd],by rw[aK _ Rf 0 _ _ _ K];simp[vd],by rw[aK _ Sg 0 _ _ _ D];simp[vd]⟩
@[reducible] noncomputable def gl(By Rf Sg Fp:Nat)(kr:List _):=K3.jD PR (Kp By Rf Sg Fp) v_ (fun k=>k=kr) (fun _=>False)
theorem xt.W(kr:List Item)(h:xt Fd By Rf Sg Fp k q st X P w)(B:∀b,Kp By Rf Sg Fp b->some b≠ow)(C:∀g,ow=some g->∃c e,w.heap[g]?=some (.cells c e)/\∀x∈c,∃z:Int,x=.int .i64 z):
  letI:=gl By Rf Sg Fp kr
  Ren.W (qC fun b=>Kp By Rf Sg Fp b\/some b=ow) 0 (rG ow w) w:=by
 letI:=gl By Rf Sg Fp kr
 refine⟨fun b b' e=>?_,by rw[Hk];exact h.low,h.low,fun b I=>?_,fun i q R=>by omega,rfl⟩
 ·obtain⟨hk,rfl⟩:=xZ.1 e;rcases hk with hk|hk
  ·have key:∀(c:Array _) (t:au),w.heap[b]?=some (.cells c t)->VA (qC fun b=>Kp By Rf Sg Fp b\/some b=ow) (c.map vd) c->∃o o',(rG ow w).heap[b]?=some o/\w.heap[b]?=some o'/\OB (qC fun b=>Kp By Rf Sg Fp b\/some b=ow) b o o':=by
    intro c t H D;exact⟨_,_,(z8 H).trans (by rw[if_neg (B b hk)];rfl),H,.ro t hk D fun i R=>absurd R id⟩
   rcases hk with rfl|rfl|rfl|rfl
   ·refine key _ _ h.b ⟨by simp,fun i x x' Y K=>?_⟩;rw[bm,K]at Y;cases Y;have:=by
     have:=bp K;simpa using this
    rcases this with rfl|rfl|rfl<;>exact .int _ _
   ·refine key _ _ h.r ⟨by simp,fun i x x' Y K=>?_⟩;rw[bm,K]at Y;cases Y;have:=by
     have:=bp K;simpa using this
    subst this;exact .string _
   ·refine key _ _ h.s ⟨by simp,fun i x x' Y K=>?_⟩;rw[bm,K]at Y;cases Y;have:=by
     have:=bp K;simpa using this
    subst this;exact .string _
   ·refine key _ _ h.f ⟨by simp,fun i x x' Y K=>?_⟩;rw[bm,K]at Y;cases Y;have:=by
     have:=bp K;simpa using this
    subst this;exact .blank rfl
  ·have⟨c,t,H,D⟩:=C b hk.symm;refine⟨_,_,(z8 H).trans (by simp_all),H,.same (fun y=>B b y hk) (RZ t _ fun x A=>?_)⟩;obtain⟨z,rfl⟩:=D x A;exact .int _ _
 ·rw[Hk];rcases I with rfl|rfl|rfl|rfl
  ·exact bh fun y=>by have:=h.b;simp_all
  ·exact bh fun y=>by have:=h.r;simp_all
  ·exact bh fun y=>by have:=h.s;rw[a_ y]at this;cases this
  ·exact bh fun y=>by have:=h.f;rw[a_ y]at this;cases this
end
noncomputable def nX:List Item:=match Tryz.f138.body with
 |some (.seq _ b)=>[.code b]
 |_=>[]
section
variable{ch Wg By Rf Sg Fp x:Nat}{j:Nat->af}{l:List ah}{T:Array af}
theorem cp0:gu PR 1 (WG ch Wg (kh By Rf Sg Fp) (.int .i64 x) true j).1 l=(⟨138,ni x By Rf Sg Fp (.tuple #[]) (fun _=>.tuple #[]),.code D7::nX,[],.run,.normal,none⟩,l):=by kernel_rfl
theorem cp1:gu PR 1 ⟨138,T,nX,[],.run,.normal,none⟩ l=(⟨138,T,.code ts::tc,[],.run,.normal,none⟩,l):=by kernel_rfl
theorem ae1:lz K3 PR false D7=true:=by decide+kernel
theorem ae2:lz K3 PR false ts=true:=by decide+kernel
theorem ZP:∃c k,nX=.code c::k:=⟨_,_,rfl⟩
theorem ZQ:∃c k,tc=.code c::k:=⟨_,_,rfl⟩
end
section
variable{U:Nat->Nat->Prop}{Fd By Rf Sg Fp k q st:Nat}{X P:e_}{w:ae}{ow:Option Nat}{kr:List Item}{c:Code}
def ah7(U:Nat->Nat->Prop)(By Rf Sg Fp:Nat)(kr:List Item)(r0:@Rn (gl By Rf Sg Fp kr))(R:Array af->ae->Prop)(cs:List ah)(S X S' X':Nat->Prop)(g:ak)(w':ae):Prop:=
 letI:=gl By Rf Sg Fp kr
 ∃(r:Rn) (a' t':Array af) (v:ae),Le r0 r/\Ren.W r 0 v w'/\(∀b,S' b↔Rd r b\/S b)/\(∀b,X' b↔Wr r b\/X b)/\R a' v/\oC U r/\VA r a' t'/\g=G ⟨138,t',kr,[],.run,.normal,none⟩ cs
theorem piece(hk:∃c k,kr=.code c::k)(hc:lz K3 PR false c=true){r0:@Rn (gl By Rf Sg Fp kr)}{v0:ae}(hW:@Ren.W (gl By Rf Sg Fp kr) r0 0 v0 w)
  {R:Array af->ae->Prop}{a t:Array af}(B:∀T,c.wp PR (fun e a' v'=>e=.normal/\a'.defers=[]/\R a'.tmps v') ⟨a,[]⟩ (tp v0 T))
  (H:@VA (gl By Rf Sg Fp kr) r0 a t){cs:List ah}(Y:@oC (gl By Rf Sg Fp kr) U r0)(M:∀b i,U b i->b<w.heap.size){S X':Nat->Prop}(V:∀b,@Rd (gl By Rf Sg Fp kr) r0 b->S b)(hX:∀b,@Wr (gl By Rf Sg Fp kr) r0 b->X' b):
  Tz PR false U (ah7 U By Rf Sg Fp kr r0 R cs S X') S X' (G ⟨138,t,.code c::kr,[],.run,.normal,none⟩ cs) w:=by
 letI:=gl By Rf Sg Fp kr
 have K:lQ PR false c:=vB (fun h=>by cases h) hc;have X:FR PR r0 true (Frame.at ⟨138,#[],[],[],.run,.normal,none⟩ ⟨a,[]⟩ (.code c::ta)) ⟨138,t,.code c::kr,[],.run,.normal,none⟩:=by
  obtain⟨c0,j,A⟩:=hk;refine⟨rfl,H,?_,.nil,.run,rfl,.inl rfl,.none,fun _=>⟨_,Tryz.func138⟩⟩;show IL PR _ false true (.code c::ta) (.code c::kr)
  refine .cons (.code K) ?_;rw[A];exact .rest rfl rfl A.symm rfl
 have Z:=Oh (main:=false) (U:=U) (ah6 (Kp By Rf Sg Fp) v_ (fun k=>k=kr) fun _=>False) (fun ops h=>by cases h) (fun g h=>by cases h) B rfl K X (gS:=cs) hW Y M;refine(Tz.of (SF:=S) (XF:=X') Z (fun b i J=>⟨M b i J,fun h=>?_⟩) fun S1 X1 f l w1 hd=>?_).sets (fun b=>⟨fun h=>h.elim (V b) id,.inr⟩) (fun b=>⟨fun h=>h.elim (hX b) id,.inr⟩)
 ·obtain⟨b0,e⟩:=h;exact(Y b0 b i e J).2
 ·obtain⟨rfl,r,a',v,O,P,L,N,⟨D,Q⟩,E,q,I,f1,f2,C,F,f5,f6⟩:=O8 (kr:=kr) (fun k h=>h) hd;subst L N;refine .stop ⟨r,a'.tmps,f.tmps,v,O,P,fun b=>Iff.rfl,fun b=>Iff.rfl,Q,E,I,?_⟩;obtain⟨fn,tmps,todo,defers,mode,kind,ro⟩:=f;simp only at f1 f2 C F f5 f6;rw[D]at f6;have:defers=[]:=by
   generalize defers=d at f6;cases f6 with
   |nil=>rfl
   |rest _ h=>exact h.elim
  subst this f1 f2 C F f5;rfl
end
inductive VL[gm](r:Rn):List af->List af->Prop
 |nil:VL r [] []
 |cons {x y:af} {l l':List af}:V r x y->VL r l l'->VL r (x::l) (y::l')
theorem VL.va[gm]{r:Rn}{l l':List _}(h:VL r l l'):VA r l.toArray l'.toArray:=by
 have K:l.length=l'.length:=by
  induction h with
  |nil=>rfl
  |cons _ _ Y=>simp[Y]
 refine⟨by omega,fun i x x' e e'=>?_⟩;clear K;induction h generalizing i with
 |nil=>simp at e
 |cons H _ Y=>
  cases i with
  |zero=>simp at e e';simp_all
  |succ i=>exact Y i (by simp_all) (by simp_all)
theorem agF[gm]{r:Rn}{x By Rf Sg Fp:Nat}(Y:r By=some By)(hr:r Rf=some Rf)(B:r Sg=some Sg)(H:r Fp=some Fp):VA r (ni x By Rf Sg Fp (.tuple #[]) (fun _=>.tuple #[])) (ni x By Rf Sg Fp (.tuple #[]) (fun _=>.tuple #[])):=
 VL.va (.cons (.int _ _) (.cons (.ptr ⟨Y,rfl,rfl⟩) (.cons (.ptr ⟨hr,rfl,rfl⟩) (.cons (.ptr ⟨B,rfl,rfl⟩) (.cons (.ptr ⟨H,rfl,rfl⟩) (.cons (.blank rfl) (.cons (.blank rfl) (.cons (.blank rfl) (.cons (.blank rfl) (.cons (.blank rfl) (.cons (.blank rfl) (.cons (.blank rfl) (.cons (.blank rfl) (.cons (.blank rfl) (.cons (.blank rfl) (.cons (.blank rfl) (.cons (.blank rfl) (.cons (.blank rfl) (.cons (.blank rfl) (.cons (.blank rfl) (.cons (.blank rfl) (.cons (.blank rfl) (.cons (.blank rfl) (.cons (.blank rfl) (.cons (.blank rfl) (.cons (.blank rfl) (.cons (.blank rfl) (.cons (.blank rfl) (.cons (.blank rfl) (.cons (.blank rfl) (.cons (.blank rfl) (.cons (.blank rfl) (.cons (.blank rfl) (.cons (.blank rfl) (.cons (.blank rfl) (.cons (.blank rfl) (.cons (.blank rfl) (.cons (.blank rfl) (.cons (.blank rfl) .nil)))))))))))))))))))))))))))))))))))))))
theorem Gd(t p:e_)(k:Nat):∀n,∀h∈kR t p k n,h.1<=n
 |0,h,Y=>by simp[kR]at Y
 |n+1,h,Y=>by
  have H:=Gd t p k n;rw[kR]at Y;split at Y
  ·rcases dZ.1 Y with K|K
   ·have:=H h K;omega
   ·simp_all
  ·have:=H h Y;omega
def kW(X P:e_)(k st x:Nat):=kA (x *st) (k_ (jl X P k st x) P k) (k_ (jl X P k st x) P k).length
def Env.Jw(E:Env)(X P:e_)(k st x:Nat)(a:Option Addr)(n:Nat)(S X':Nat->Prop)(w:ae):=
 n=(kW X P k st x).length/\((a=none/\n=0)\/∃g cur,a=some ⟨g,0,none⟩/\S g/\X' g/\(∀i,¬E.U g i)/\w.heap[g]?=some (.cells cur 173)/\cur.toList.take (n *2)=jM (kW X P k st x))
theorem Env.ae3(E:Env)(X P:e_)(k st:Nat):E.Se (E.Jw X P k st):=by
 refine⟨fun h hr=>?_,fun h C=>?_,fun h B hX=>?_⟩
 ·obtain⟨H,K|⟨g,Y,K,R,I,D,A,U⟩⟩:=h
  ·exact⟨H,.inl K⟩
  ·exact⟨H,.inr ⟨g,Y,K,R,I,D,((hr.kept g R).eq D).trans A,U⟩⟩
 ·obtain⟨H,K|⟨g,Y,K,R,I,D,A,U⟩⟩:=h
  ·exact⟨H,.inl K⟩
  ·exact⟨H,.inr ⟨g,Y,K,R,I,D,(C.heap g fun e=>D 0 ⟨.inl e,by omega⟩).trans A,U⟩⟩
 ·obtain⟨H,K|⟨g,Y,K,R,I,D,A,U⟩⟩:=h
  ·exact⟨H,.inl K⟩
  ·exact⟨H,.inr ⟨g,Y,K,B g R,hX g I,D,A,U⟩⟩
theorem Sj(By Rf Sg Fp:Nat)(Y H:List _):AK (gl By Rf Sg Fp Y) (gl By Rf Sg Fp H):=⟨rfl,fun _ h=>h,fun _ h=>h,fun _ h=>h,fun _=>Iff.rfl,fun _ _ h=>h⟩
theorem Reads.later{By Rf Sg k st B:Nat}{X P:e_}(h:Reads w By Rf Sg k q st X P)(Y:Go.RowKit.Below B w w')(H:By<B)(C:Rf<B)(F:Sg<B)(T:Nat->Question->Nat):Reads (tp w' T) By Rf Sg k q st X P:=
 ⟨(Y.cell H).trans h.c0,(Y.cell H).trans h.c1,(Y.cell H).trans h.c2,(Y.cell C).trans h.x,(Y.cell F).trans h.p⟩
theorem ZR(F:List _):∀x∈jM F,∃z:Int,x=.int .i64 z:=by
 intro x K;simp only[jM,List.mem_flatMap]at K;have⟨h,_,Y⟩:=K;simp at Y;rcases Y with rfl|rfl
 ·exact⟨_,rfl⟩
 ·exact⟨_,rfl⟩
theorem ae4[gm]{r:Rn}{c c':Array _}(h:VA r c c'){m:Nat}{l:List _}(B:∀x∈l,∃z:Int,x=.int .i64 z)(C:l.length=m)(e:c.toList.take m=l):c'.toList.take m=l:=by
 apply List.ext_getElem?;intro i;rcases c7 i m with K|K
 ·have Y:(c.toList.take m)[i]?=l[i]?:=by rw[e]
  rw[cX,if_pos K]at Y;rw[cX,if_pos K];have D:l[i]?=some l[i]:=cy _;rw[D]at Y⊢;obtain⟨z,R⟩:=B _ (List.getElem_mem _);rw[R]at Y⊢;obtain⟨y,I,H⟩:=h.get (by simpa using Y);cases H;simp_all
 ·rw[dX (by simp;omega),dX (by omega)]
theorem XG(F:List _):(jM F).length=F.length *2:=aax F
theorem ah8[gm]{r:Rn}{b:Nat}{y:af}(h:V r (ptr b) y)(e:r b=some b):y=ptr b:=by
 cases h with
 |@ptr a a' k=>
  obtain⟨Y,K,H⟩:=k;obtain⟨b',o',s'⟩:=a';simp only at Y K H;rw[e]at Y;cases Y;subst K H;rfl
section
variable{E:Env}{ch:Nat}{ok:Nat->Prop}{By Rf Sg Fp:Nat}{RO:Nat->Prop}{Fx:ae->Prop}
theorem ae5(X P:e_)(k q st:Nat)(hX:X.size<=200)(hP:P.size<=30)(hk:k<=6)(hs:st<=200)(yY:∀x,ok x->x *st<=X.size/\x<=100000)
  (K:E.wu RO Fx)(hIn:∀w,Fx w->xt E.Fd By Rf Sg Fp k q st X P w)(C:∀b,Kp By Rf Sg Fp b->RO b)(hKU:∀b,Kp By Rf Sg Fp b->∀i,¬E.U b i)(Y:∀w,Fx w->(∀b,RO b->b<w.heap.size)/\E.Mp<w.heap.size):
  Env.Sf E ch ok By Rf Sg Fp RO Fx (E.Jw X P k st):=by
 intro D x S X' j w hx L hF F;obtain⟨rB,sc⟩:=yY x hx;generalize E0:[yW ch E.Wg (kh By Rf Sg Fp) (.int .i64 (x:Int)) j,bot]=cs at F⊢;clear E0;refine Tz.pure 1 fun w1 xr=>?_;rw[cp0];have H:Fx w1:=K.rely S _ _ L.ro hF xr;have G:=hIn w1 H;have yZ:∀w,Fx w->∀b i,E.U b i->b<w.heap.size:=fun w h b i t=>by
  rcases t.1 with rfl|rfl
  ·exact(Y w h).1 _ L.fd
  ·exact(Y w h).1 _ L.wg
 have hJ:∀(S X:Nat->Prop) (w w2 w1:ae) (es:Array Event) (S1 X1:Nat->Prop),((∀a,RO a->S a)/\¬S E.Mp/\¬X E.Mp/\(∀a,RO a->¬X a)/\Fx w)->gR E.U S w w2->Did S X w2 w1 es S1 X1->((∀a,RO a->S1 a)/\¬S1 E.Mp/\¬X1 E.Mp/\(∀a,RO a->¬X1 a)/\Fx w1):=by
  rintro S X w w2 w1 es S1 X1 ⟨j1,j2,j3,j4,j5⟩ hr hd;have B:=K.rely S _ _ j1 j5 hr;refine⟨fun a M=>(hd.held a).2 (.inl (j1 a M)),fun y=>?_,fun y=>?_,fun a M y=>?_,K.rely RO _ _ (fun _ h=>h) B ⟨fun a M=>.inl (hd.kept a ((Y _ B).1 a M) (j4 a M)),hd.grow,hd.env⟩⟩
  ·rcases(hd.held _).1 y with z|z
   ·exact j2 z
   ·have:=(Y _ B).2;omega
  ·rcases(hd.may _).1 y with z|z
   ·exact j3 z
   ·have:=(Y _ B).2;omega
  ·rcases(hd.may _).1 y with z|z
   ·exact j4 a M z
   ·have:=(Y _ B).1 a M;omega
 have s:∀b,Kp By Rf Sg Fp b->some b≠(none:Option Nat):=fun b _ e=>by cases e
 have p1:=piece (U:=E.U) (cs:=cs) (S:=S) (X':=X') ZP ae1 (G.W (ow:=none) nX s (fun g e=>by cases e))
  (R:=fun a' v=>∃T val,a'=ni x By Rf Sg Fp val (uA By k q st x X P (jl X P k st x) val)/\v.ownsRow w1.heap.size 173 2 val (k_ (jl X P k st x) P k).length (jM (k_ (jl X P k st x) P k))/\Go.RowKit.Below w1.heap.size (tp (rG none w1) T) v)
  (fun T=>by
   have m:(tp (rG none w1) T).heap.size=w1.heap.size:=Hk;have h:=af0 x By Rf Sg Fp k q st X P (tp (rG none w1) T) (G.reads s T) hX hP hk hs rB sc;rw[m]at h;refine dL (fun e a w' p=>?_) h;obtain⟨I,val,rfl,O,h3⟩:=p;exact⟨I,rfl,T,val,rfl,O,h3⟩)
  (@agF (gl By Rf Sg Fp nX) _ x By Rf Sg Fp (@uk (gl By Rf Sg Fp nX) _ _ (.inl (.inl rfl))) (@uk (gl By Rf Sg Fp nX) _ _ (.inl (.inr (.inl rfl)))) (@uk (gl By Rf Sg Fp nX) _ _ (.inl (.inr (.inr (.inl rfl))))) (@uk (gl By Rf Sg Fp nX) _ _ (.inl (.inr (.inr (.inr rfl))))))
  (fun b b' i e t=>by
   obtain⟨I,rfl⟩:=(@xZ (gl By Rf Sg Fp nX) _ _ _).1 e;exact absurd t (hKU b (I.resolve_right fun y=>by cases y) i))
  (yZ w1 H)
  (fun b d=>L.ro b (C b (((@CJ (gl By Rf Sg Fp nX) _ _).1 d).resolve_right fun y=>by cases y)))
  (fun b d=>by
   obtain⟨I,O⟩:=(@aen (gl By Rf Sg Fp nX) _ _).1 d;exact absurd (I.resolve_right fun y=>by cases y) O)
 refine(p1.inv _ hJ ⟨L.ro,L.mp,L.mpx,L.mG,H⟩).bind fun S1 X1 g w2 hd=>?_;obtain⟨⟨r,a',t',v,hle,hWr,Un,hX1,⟨T0,val,rfl,V,ajs⟩,Z,hva,rfl⟩,hj⟩:=hd;clear p1;refine Tz.pure 1 fun w3 N=>?_;rw[cp1];have A_:Fx w3:=K.rely S1 _ _ hj.1 hj.2.2.2.2 N;have hW3:=@Ren.W.rely (gl By Rf Sg Fp nX) _ _ _ _ _ _ hWr Z ⟨fun a M=>N.kept a ((Un a).2 (.inl M)),N.grow,N.env⟩;have lB:By<w1.heap.size:=(Y w1 H).1 _ (C _ (.inl rfl));have lR:Rf<w1.heap.size:=(Y w1 H).1 _ (C _ (.inr (.inl rfl)));have lS:Sg<w1.heap.size:=(Y w1 H).1 _ (C _ (.inr (.inr (.inl rfl))));have ga:(jl X P k st x).size<=300:=by unfold jl;rw[dK];omega
 have hL:(k_ (jl X P k st x) P k).length<=1000:=br (BU _ _ _ _) (by omega);have hL2:∀h∈k_ (jl X P k st x) P k,h.1<=1000:=fun h p=>br (Gd _ _ _ _ h p) (by omega);have hgB:∀g,val.ownBlock=some g->g≠By:=fun g hg e=>by
  have:=(V.lt g hg).1;omega
 have p2:=piece (U:=E.U) (cs:=cs) (S:=S1) (X':=X1) ZQ ae2 (I7 (Sj By Rf Sg Fp nX tc) hW3)
  (R:=fun a' v2=>∃u2,a'=ni x By Rf Sg Fp val u2/\v2.ownsRow w1.heap.size 173 2 val (k_ (jl X P k st x) P k).length (jM (kW X P k st x)))
  (fun T=>by
   have h:=af1 x By Rf Sg Fp k q st X P (k_ (jl X P k st x) P k) val (uA By k q st x X P (jl X P k st x) val) w1.heap.size (tp v T) (Reads.later (G.reads s T0) ajs lB lR lS T) hgB hL hL2 (by omega) (by omega) sc V;refine dL (fun e a w' p=>?_) h;obtain⟨I,u2,rfl,O⟩:=p;exact⟨I,rfl,u2,rfl,O⟩)
  (uv (Sj By Rf Sg Fp nX tc) hva) (fun b b' i e t=>Z b b' i e t) (yZ w3 A_) (fun b d=>(Un b).2 (.inl d)) (fun b d=>(hX1 b).2 (.inl d))
 refine(p2.inv _ hJ ⟨hj.1,hj.2.1,hj.2.2.1,hj.2.2.2.1,A_⟩).bind fun S2 X2 g w4 hd=>?_;obtain⟨⟨r2,a2,t2,v2,ajt,aju,hS2,hX2,⟨u2,rfl,u⟩,ah9,J,rfl⟩,A⟩:=hd;clear p2
 letI:=gl By Rf Sg Fp tc
 have Ln:r2 Fp=some Fp:=ajt _ _ (hle _ _ (@uk (gl By Rf Sg Fp nX) _ _ (.inl (.inr (.inr (.inr rfl))))));obtain⟨y4,e4,hv4⟩:=J.get (i:=4) (x:=ptr Fp) rfl;obtain rfl:=ah8 hv4 Ln;obtain⟨y6,e6,Uo⟩:=J.get (i:=6) (x:=val) rfl;have m:t2.size=39:=J.size.symm;have Up:E.yI RO S2 X2:=⟨A.1,A.2.1,A.2.2.1,L.fd,L.wg,A.2.2.2.1⟩;have f:(kW X P k st x).length=(k_ (jl X P k st x) P k).length:=xO _ _ _;have Uq:∀sl,y6=sl->kt 138 39 tc (sA (DN Fp sl)) ⟨138,t2,tc,[],.run,.normal,none⟩:=fun sl e=>by
  subst e;refine⟨rfl,rfl,rfl,rfl,rfl,rfl,m,fun i y hy=>?_⟩;unfold sA DN at hy;by_cases h4:i=4
  ·subst h4;cases hy;show t2.getD 4 ai=_
   rw[dG,e4];rfl
  ·by_cases h6:i=6
   ·subst h6;cases hy;show t2.getD 6 ai=_
    rw[dG,e6];rfl
   ·have b4:(i==4)=false:=by simpa using h4
    have b6:(i==6)=false:=by simpa using h6
    simp[List.lookup,b4,b6]at hy
 rcases u.2 with⟨ev,en⟩|⟨g,cap,cur,ev,hg,p,hnc,JW,E0,y5⟩
 ·subst ev;cases Uo;exact F S2 X2 _ w4 none 0 0 Up A.2.2.2.2 (Uq _ rfl) ⟨by rw[f,en],.inl ⟨rfl,rfl⟩⟩
 ·subst ev;cases Uo with
  |@slice a a' l c ad=>
   obtain⟨I,O,h3⟩:=ad;obtain⟨g',o',s'⟩:=a';simp only at I O h3;subst O h3;obtain⟨o,o',ho,ho',hob⟩:=aju.obj g g' I;have Q:¬Kp By Rf Sg Fp g:=fun y=>by
    have:=(Y w1 H).1 g (C g y);omega
   cases hob with
   |ro e n _ _=>exact absurd n Q
   |same n hO=>
    rw[p]at ho;cases ho;cases hO with
    |cells e fz hv=>
     exact F S2 X2 _ w4 (some ⟨g',0,none⟩) _ cap Up A.2.2.2.2 (Uq _ rfl) ⟨f.symm,.inr ⟨g',_,rfl,(hS2 g').2 (.inl ⟨g,I⟩),(hX2 g').2 (.inl ⟨g,I,Q⟩),fun i t=>(ah9 g g' i I t).2,ho',ae4 hv (ZR _) (by rw[XG,f]) y5⟩⟩
end
section
variable{P:Program}{main:Bool}{U:Nat->Nat->Prop}{D:(Nat->Prop)->(Nat->Prop)->ak->ae->Prop}{S X:Nat->Prop}
abbrev RU(U:Nat->Nat->Prop)(S:Nat->Prop):=gR U S
abbrev DU(U:Nat->Nat->Prop)(S X:Nat->Prop):=fun w w1 es=>j9 U S X w w1 es S X
theorem terms:Terms (RU U S) (DU U S X):=⟨fun _ _ _ h k=>h.trans k,fun w=>jd _ _ _⟩
theorem Tz.SN{Stop:ak->ae->Prop}(k:∀g w,Stop g w->Tz P main U D S X g w):∀n {g:ak} {w:ae},Goes P main (RU U S) (DU U S X) Stop n g w->Tz P main U D S X g w
 |0,g,w,h=>k g w (h w (.refl _ _ _))
 |n+1,g,w,h=>by
  rcases h with h|⟨K,h⟩
  ·exact k g w (h w (.refl _ _ _))
  ·refine Tz.one K fun w2 hr=>?_;have ga:=h w2 hr;revert ga;generalize az P _ g w2=s;intro ga;cases s with
   |go Y w' es=>exact⟨Y,w',es,S,X,rfl,ga.1,Tz.SN k n ga.2⟩
   |_=>exact ga.elim
theorem Tz.wpC{c:Code}{a:Act}{M:Act->ae->Prop}(h:c.wpC P main (RU U S) (DU U S X) fn n (fun e a' w'=>e=.normal/\M a' w') a w){b:ah}(H:b.fn=fn)(hk:b.kind≠.early){k:List _}{cs:List _}
  (cont:∀a' w0 w',M a' w0->gR U S w0 w'->Tz P main U D S X (G (b.at a' k) cs) w'):Tz P main U D S X (G (b.at a (.code c::k)) cs) w:=by
 refine Tz.SN (Stop:=fun g w'=>∃a' w0,g=G (b.at a' k) cs/\M a' w0/\gR U S w0 w') (fun g w' R=>?_) _ (h b k cs _ 0 H hk fun e a' w' A=>?_)
 ·obtain⟨a',w0,rfl,Y,K⟩:=R;exact cont a' w0 w' Y K
 ·obtain⟨rfl,I⟩:=A;exact fun w1 hr=>⟨a',w',rfl,I,hr⟩
end
def jV(Fd b5:Nat)(v1 Y H B:af)(u:Nat->af):=#[.pointer (some ⟨Fd,0,none⟩),v1,u 2,u 3,u 4,.pointer (some ⟨b5,0,none⟩),u 6,u 7,u 8,u 9,u 10,u 11,u 12,u 13,u 14,Y,H,B,u 18,u 19,u 20,u 21,u 22,u 23,u 24,u 25,u 26,u 27,u 28,u 29,u 30,u 31,u 32,u 33,u 34,u 35,u 36,u 37,u 38,u 39,u 40,u 41,u 42,u 43,u 44,u 45,u 46,u 47]
theorem zR(Fd b5:Nat)(v1 Ur Us Ut a2 a3 a4 a6 a7 a8 a9 Y H B C F M N a20 O a22 a23 a24 a25 a26 a27 a28 V G a31 a32 a33 W a35 a36 a37 h Uu a40 a41 Uv Uw a44 Ux a46 Uy:af):#[.pointer (some ⟨Fd,0,none⟩),v1,a2,a3,a4,.pointer (some ⟨b5,0,none⟩),a6,a7,a8,a9,Y,H,B,C,F,Ur,Us,Ut,M,N,a20,O,a22,a23,a24,a25,a26,a27,a28,V,G,a31,a32,a33,W,a35,a36,a37,h,Uu,a40,a41,Uv,Uw,a44,Ux,a46,Uy]=jV Fd b5 v1 Ur Us Ut (fun i=>[.tuple #[],.tuple #[],a2,a3,a4,.tuple #[],a6,a7,a8,a9,Y,H,B,C,F,.tuple #[],.tuple #[],.tuple #[],M,N,a20,O,a22,a23,a24,a25,a26,a27,a28,V,G,a31,a32,a33,W,a35,a36,a37,h,Uu,a40,a41,Uv,Uw,a44,Ux,a46,Uy].getD i (.tuple #[])):=rfl
noncomputable def Lq:=match aP.body with
 |some (.seq _ (.seq _ (.seq _ (.block _ (.loop (.seq _ (.seq _ (.seq (.block _ (.seq _ (.seq Y _))) _))))))))=>Y
 |_=>.skip
structure AF(Fd Mp b5:Nat)(e d:Int)(o:Option Obj)(w:ae):Prop where
 m:w.cell? ⟨Fd,2,none⟩=some (.map (some Mp))
 c0:w.cell? ⟨b5,0,none⟩=some (.int .i64 e)
 c1:w.cell? ⟨b5,1,none⟩=some (.int .i64 d)
 o:w.heap[Mp]?=o
section
variable{U:Nat->Nat->Prop}{S X:Nat->Prop}{Fd Mp b5:Nat}{e d:Int}{o:Option Obj}
theorem sV{es:Array _}(h:∀e∈es,(∃a:Addr,e.loc=.cell a/\e.sync=false/\e.write=false/\S a.block/\¬U a.block a.off)\/∃b,e.loc=.obj b/\e.sync=false/\e.write=false/\S b):DU U S X w w es:=
 ⟨⟨fun _ _ _=>rfl,aH _,fun a=>⟨.inl,fun h=>h.resolve_right fun y=>by omega⟩,fun a=>⟨.inl,fun h=>h.resolve_right fun y=>by omega⟩,fun e R=>by
  rcases h e R with⟨a,Y,K,D,H,I⟩|⟨b,Y,K,D,H⟩
  ·exact .inl ⟨a,Y,K,.inl ⟨H,fun y=>by simp_all⟩⟩
  ·exact .inr (.inl ⟨b,Y,K,.inl ⟨H,fun y=>by simp_all⟩⟩),rfl,.refl _,rfl⟩,fun e R b A=>by
  rcases h e R with⟨a,Y,K,D,H,I⟩|⟨b,Y,K,D,H⟩
  ·simp_all
  ·simp_all⟩
theorem lets:LetsDraw (DU U S X):=fun w=>⟨⟨fun _ _ _=>rfl,aH _,fun a=>⟨.inl,fun h=>h.resolve_right fun y=>by have Y:=y.1;have K:=y.2;exact absurd K (Nat.not_lt.2 Y)⟩,fun a=>⟨.inl,fun h=>h.resolve_right fun y=>by have Y:=y.1;have K:=y.2;exact absurd K (Nat.not_lt.2 Y)⟩,fun e H=>by simp_all,rfl,.refl _,rfl⟩,fun e H=>by simp_all⟩
theorem Ty(w:ae):RU U S w {w with drawn:=w.drawn+1}:=⟨fun a _=>.inl rfl,aH _,.refl _⟩
structure tm(U:Nat->Nat->Prop)(S:Nat->Prop)(Fd Mp b5:Nat):Prop where
 fd:S Fd
 mp:S Mp
 b:S b5
 u2:¬U Fd 2
 ub:∀i,¬U b5 i
 um:∀i,¬U Mp i
theorem qh{w1:ae}{b:Nat}(Y:S b)(B:¬U b i)(h:w.cell? ⟨b,i,none⟩=some v)(r:RU U S w w1):w1.cell? ⟨b,i,none⟩=some v:=by
 rcases r.kept b Y with K|⟨c,c2,t,fz,_,H,D,R,I,_⟩
 ·simp only[aJ]at h⊢;simp_all
 ·simp only[aJ]at h⊢;simp_all
theorem AF.rely(H:tm U S Fd Mp b5){w w1:ae}(h:AF Fd Mp b5 e d o w)(r:RU U S w w1):AF Fd Mp b5 e d o w1:=
 ⟨qh H.fd H.u2 h.m r,qh H.b (H.ub 0) h.c0 r,qh H.b (H.ub 1) h.c1 r,((r.kept Mp H.mp).eq H.um).trans h.o⟩
theorem tk(H:tm U S Fd Mp b5){B:Act->Prop}{P:Program}{md:Region.Mode}{ops:Array _}{Y:Oper}{li:Array _}{a:Act}(M:ops[i]?=some Y)
  (N:eu ops=true)(F:Region.free md ops li i=true)(hr:(Region.ready md ops li).contains i=true)
  (O:YieldsIfC P (DU U S X) fn ops (AF Fd Mp b5 e d o) Y v a)(C:AF Fd Mp b5 e d o w)(h:AnyCH P (RU U S) (DU U S X) fn md ops (fun ex a' w'=>ex=.normal/\B a'/\AF Fd Mp b5 e d o w') (AF Fd Mp b5 e d o) fuel (li.setIfInBounds i true) (a.put Y.dst v) w):
  AnyCH P (RU U S) (DU U S X) fn md ops (fun ex a' w'=>ex=.normal/\B a'/\AF Fd Mp b5 e d o w') (AF Fd Mp b5 e d o) (fuel+1) li a w:=
 anyCH_take terms (fun _ _ h r=>AF.rely H h r) (fun _ _ _ h r=>⟨h.1,h.2.1,AF.rely H h.2.2 r⟩) M N F hr O C h
theorem ah_(H:tm U S Fd Mp b5)(dd:List aL)(v1 C F M:af)(u:Nat->af)(x:Int)(bo:Bool)(O:∀w,AF Fd Mp b5 e d o w->(aT 166 (.map (some Mp)) (.int .i64 e) true).run Tryz.prog w=.ok (.tuple #[.int .i64 x,.bool bo]) w)
  (N:∀w,AF Fd Mp b5 e d o w->∀ev∈aO Tryz.prog (aT 166 (.map (some Mp)) (.int .i64 e) true) w #[],ev.loc=.obj Mp/\ev.sync=false/\ev.write=false):
  ∃k,∀w,AF Fd Mp b5 e d o w->Lq.wpC Tryz.prog false (RU U S) (DU U S X) 140 k (fun ex a' w'=>ex=.normal/\(∃B,B 6=.int .i64 x/\B 7=.bool bo/\a'=⟨jV Fd b5 v1 C F M B,dd⟩)/\AF Fd Mp b5 e d o w') ⟨jV Fd b5 v1 C F M u,dd⟩ w:=by
 have D:∀(t:Array af) (B:Nat->af) (w':ae),t=jV Fd b5 v1 C F M B->B 6=.int .i64 x->B 7=.bool bo->AF Fd Mp b5 e d o w'->(fun(a':Act)=>∃B,B 6=.int .i64 x/\B 7=.bool bo/\a'=⟨jV Fd b5 v1 C F M B,dd⟩) ⟨t,dd⟩:=fun t B w' P Q T _=>⟨B,Q,T,by rw[P]⟩;generalize R:(fun(a':Act)=>∃B,B 6=.int .i64 x/\B 7=.bool bo/\a'=⟨jV Fd b5 v1 C F M B,dd⟩)=L at D;rw[show(fun(ex:Exit) (a':Act) (w':ae)=>ex=.normal/\(∃B,B 6=.int .i64 x/\B 7=.bool bo/\a'=⟨jV Fd b5 v1 C F M B,dd⟩)/\AF Fd Mp b5 e d o w')=fun ex a' w'=>ex=.normal/\L a'/\AF Fd Mp b5 e d o w' by rw[<-R]];clear R
 co_apply Exists.intro
 intro w hF;unfold Lq aP;dsimp only;rw[show jV Fd b5 v1 C F M u=_ from rfl];simp only[jV];have Z:∀{w w1:ae},AF Fd Mp b5 e d o w->RU U S w w1->AF Fd Mp b5 e d o w1:=fun h r=>AF.rely H h r
 co_held (terms (U:=U) (S:=S) (X:=X)) lets Ty (AF Fd Mp b5 e d o) Z hF
 refine tk H (i:=0) (v:=.pointer (some ⟨Fd,0,none⟩)) rfl (by decide+kernel) (by decide+kernel) (by decide+kernel) (.inl ⟨by rfl,fun w2 hw=>⟨aA (fun K Y=>by go_simp;exact Y),by co_quiet (terms (U:=U) (S:=S) (X:=X))⟩⟩) hF ?_;try walk_nrm
 refine tk H (i:=1) (v:=.pointer (some ⟨Fd,0,none⟩)) rfl (by decide+kernel) (by decide+kernel) (by decide+kernel) (.inl ⟨by rfl,fun w2 hw=>⟨aA (fun K Y=>by go_simp;exact Y),by co_quiet (terms (U:=U) (S:=S) (X:=X))⟩⟩) hF ?_;try walk_nrm
 refine tk H (i:=2) (v:=.pointer (some ⟨Fd,2,none⟩)) rfl (by decide+kernel) (by decide+kernel) (by decide+kernel) (.inl ⟨by rfl,fun w2 hw=>⟨aA (fun K Y=>by go_simp;exact Y),by co_quiet (terms (U:=U) (S:=S) (X:=X))⟩⟩) hF ?_;try walk_nrm
 refine tk H (i:=3) (v:=.map (some Mp)) rfl (by decide+kernel) (by decide+kernel) (by decide+kernel) (.inl ⟨by rfl,fun w2 hw=>⟨aA (fun K Y=>by have I:=hw.m;go_simp;exact Y),sV (by have I:=hw.m;co_evs (exact .inl ⟨_,rfl,rfl,rfl,H.fd,H.u2⟩))⟩⟩) hF ?_;try walk_nrm
 refine tk H (i:=4) (v:=.pointer (some ⟨b5,0,none⟩)) rfl (by decide+kernel) (by decide+kernel) (by decide+kernel) (.inl ⟨by rfl,fun w2 hw=>⟨aA (fun K Y=>by go_simp;exact Y),by co_quiet (terms (U:=U) (S:=S) (X:=X))⟩⟩) hF ?_;try walk_nrm
 refine tk H (i:=5) (v:=.int .i64 e) rfl (by decide+kernel) (by decide+kernel) (by decide+kernel) (.inl ⟨by rfl,fun w2 hw=>⟨aA (fun K Y=>by have I:=hw.c0;go_simp;exact Y),sV (by have I:=hw.c0;co_evs (exact .inl ⟨_,rfl,rfl,rfl,H.b,H.ub 0⟩))⟩⟩) hF ?_;try walk_nrm
 refine tk H (i:=6) (v:=.tuple #[.int .i64 x,.bool bo]) rfl (by decide+kernel) (by decide+kernel) (by decide+kernel) (.inl ⟨by rfl,fun w2 hw=>⟨aA (fun K Y=>by have I:=O w2 hw;go_simp;exact Y),sV (by intro ev V;have J:=cM V;simp[go_sem]at J;have A:=N w2 hw ev J;exact .inr ⟨Mp,A.1,A.2.1,A.2.2,H.mp⟩)⟩⟩) hF ?_;try walk_nrm
 refine tk H (i:=7) (v:=.tuple #[.int .i64 x,.bool bo]) rfl (by decide+kernel) (by decide+kernel) (by decide+kernel) (.inl ⟨by rfl,fun w2 hw=>⟨aA (fun K Y=>by go_simp;exact Y),by co_quiet (terms (U:=U) (S:=S) (X:=X))⟩⟩) hF ?_;try walk_nrm
 refine tk H (i:=8) (v:=.int .i64 x) rfl (by decide+kernel) (by decide+kernel) (by decide+kernel) (.inl ⟨by rfl,fun w2 hw=>⟨aA (fun K Y=>by go_simp;exact Y),by co_quiet (terms (U:=U) (S:=S) (X:=X))⟩⟩) hF ?_;try walk_nrm
 refine tk H (i:=9) (v:=.bool bo) rfl (by decide+kernel) (by decide+kernel) (by decide+kernel) (.inl ⟨by rfl,fun w2 hw=>⟨aA (fun K Y=>by go_simp;exact Y),by co_quiet (terms (U:=U) (S:=S) (X:=X))⟩⟩) hF ?_;try walk_nrm
 refine tk H (i:=10) (v:=.int .i64 x) rfl (by decide+kernel) (by decide+kernel) (by decide+kernel) (.inl ⟨by rfl,fun w2 hw=>⟨aA (fun K Y=>by go_simp;exact Y),by co_quiet (terms (U:=U) (S:=S) (X:=X))⟩⟩) hF ?_;try walk_nrm
 refine tk H (i:=11) (v:=.bool bo) rfl (by decide+kernel) (by decide+kernel) (by decide+kernel) (.inl ⟨by rfl,fun w2 hw=>⟨aA (fun K Y=>by go_simp;exact Y),by co_quiet (terms (U:=U) (S:=S) (X:=X))⟩⟩) hF ?_;try walk_nrm
 refine anyCH_done (by first|kernel_rfl|decide+kernel) ?_ _;exact⟨rfl,D _ _ _ (zR Fd b5 v1 C F M _ _ _ _ _ _ _ _ _ _ _ _ _ _ _ _ _ _ _ _ _ _ _ _ _ _ _ _ _ _ _ _ _ _ _ _ _ _ _ _ _ _) rfl rfl hF,hF⟩
end
noncomputable def Lr:=match aP.body with
 |some (.seq _ (.seq _ (.seq _ (.block _ (.loop (.seq _ (.seq _ (.seq (.block _ (.seq _ (.seq _ (.seq _ (.cond _ Y _))))) _))))))))=>Y
 |_=>.skip
structure AG(Fd Mp b5:Nat)(e d:Int)(w:ae):Prop where
 m:w.cell? ⟨Fd,2,none⟩=some (.map (some Mp))
 c0:w.cell? ⟨b5,0,none⟩=some (.int .i64 e)
 c1:w.cell? ⟨b5,1,none⟩=some (.int .i64 d)
section
variable{U:Nat->Nat->Prop}{S X:Nat->Prop}{Fd Mp b5:Nat}{e d:Int}{o:Option Obj}
theorem AG.rely(H:tm U S Fd Mp b5){w w1:ae}(h:AG Fd Mp b5 e d w)(r:RU U S w w1):AG Fd Mp b5 e d w1:=
 ⟨qh H.fd H.u2 h.m r,qh H.b (H.ub 0) h.c0 r,qh H.b (H.ub 1) h.c1 r⟩
theorem vr(H:tm U S Fd Mp b5){B:Act->Prop}{P:Program}{md:Region.Mode}{ops:Array _}{Y:Oper}{li:Array _}{a:Act}(M:ops[i]?=some Y)
  (N:eu ops=true)(F:Region.free md ops li i=true)(hr:(Region.ready md ops li).contains i=true)
  (O:YieldsIfC P (DU U S X) fn ops (AG Fd Mp b5 e d) Y v a)(C:AG Fd Mp b5 e d w)(h:AnyCH P (RU U S) (DU U S X) fn md ops (fun ex a' w'=>ex=.normal/\B a'/\AF Fd Mp b5 e d o w') (AG Fd Mp b5 e d) fuel (li.setIfInBounds i true) (a.put Y.dst v) w):
  AnyCH P (RU U S) (DU U S X) fn md ops (fun ex a' w'=>ex=.normal/\B a'/\AF Fd Mp b5 e d o w') (AG Fd Mp b5 e d) (fuel+1) li a w:=
 anyCH_take terms (fun _ _ h r=>AG.rely H h r) (fun _ _ _ h r=>⟨h.1,h.2.1,AF.rely H h.2.2 r⟩) M N F hr O C h
theorem ac9{P:Program}{R:ae->ae->Prop}{D:ae->ae->Array _->Prop}{ops:Array _}{K:Act->ae->Prop}{a:Act}{o:Oper}(B:ops[i]?=some o)(hw:c8 o (dE ops a.tmps)=true)
  (h:∀w1,R w w1->∀Z:Result _->Prop,(∀w',D w1 w' (listed P fn a o w1)->K (a.put o.dst ai) w'->Z (.ok .skip w'))->Z ((aj a.eval o).run P w1)):OpC P R D fn ops i K a w:=by
 unfold OpC;rw[B];dsimp only;rw[if_pos hw];exact fun w1 hr=>h w1 hr _ fun w' Y H=>⟨Y,H⟩
theorem Hm{w1:ae}{b g:Nat}(h:Env.Eff g w w1)(Y:b≠g):w1.cell? ⟨b,i,none⟩=w.cell? ⟨b,i,none⟩:=by
 simp[aJ];rw[h.heap b Y]
theorem ac_{w1:ae}{es:Array _}(hX:X Mp)(B:S Mp)(h:Env.Eff Mp w w1)(H:∀ev∈es,ev.loc=.obj Mp/\ev.sync=false):DU U S X w w1 es:=
 ⟨⟨fun a _ K=>h.heap a fun e=>K (e▸hX),cZ h.size.symm,fun a=>⟨.inl,fun y=>y.resolve_right fun z=>by have:=h.size;omega⟩,fun a=>⟨.inl,fun y=>y.resolve_right fun z=>by have:=h.size;omega⟩,fun ev Y=>.inr (.inl ⟨Mp,(H ev Y).1,(H ev Y).2,.inl ⟨B,fun _=>hX⟩⟩),h.tape,h.env,h.output⟩,fun ev Y a D=>by simp_all⟩
theorem aia(H:tm U S Fd Mp b5)(hX:X Mp)(V:Fd≠Mp)(O:b5≠Mp)(dd:List aL)(v1 Y B C:af)(u:Nat->af)(o':Option Obj)
  (Ls:∀w,w.heap[Mp]?=o->∃v w',(aM 166 (.map (some Mp)) (.int .i64 e) (.int .i64 d)).run Tryz.prog w=.ok v w'/\Env.Eff Mp w w'/\w'.heap[Mp]?=o')
  (h:∀w,w.heap[Mp]?=o->∀ev∈aO Tryz.prog (aM 166 (.map (some Mp)) (.int .i64 e) (.int .i64 d)) w #[],ev.loc=.obj Mp/\ev.sync=false):
  ∃k,∀w,AF Fd Mp b5 e d o w->Lr.wpC Tryz.prog false (RU U S) (DU U S X) 140 k (fun ex a' w'=>ex=.normal/\(∃F,a'=⟨jV Fd b5 v1 Y B C F,dd⟩)/\AF Fd Mp b5 e d o' w') ⟨jV Fd b5 v1 Y B C u,dd⟩ w:=by
 have A:∀(t:Array af) (F:Nat->af),t=jV Fd b5 v1 Y B C F->(fun(a':Act)=>∃F,a'=⟨jV Fd b5 v1 Y B C F,dd⟩) ⟨t,dd⟩:=fun t F g=>⟨F,by rw[g]⟩;generalize L:(fun(a':Act)=>∃F,a'=⟨jV Fd b5 v1 Y B C F,dd⟩)=f at A;rw[show(fun(ex:Exit) (a':Act) (w':ae)=>ex=.normal/\(∃F,a'=⟨jV Fd b5 v1 Y B C F,dd⟩)/\AF Fd Mp b5 e d o' w')=fun ex a' w'=>ex=.normal/\f a'/\AF Fd Mp b5 e d o' w' by rw[<-L]];clear L
 co_apply Exists.intro
 intro w I;have hF:AG Fd Mp b5 e d w:=⟨I.m,I.c0,I.c1⟩;have M:=I.o;clear I;unfold Lr aP;dsimp only;rw[show jV Fd b5 v1 Y B C u=_ from rfl];simp only[jV]
 co_apply wpC_region_held (terms (U:=U) (S:=S) (X:=X)) lets (S:=AG Fd Mp b5 e d) (by first|kernel_rfl|rfl)
 intro w1 G;replace hF:=AG.rely H (AG.rely H hF G) (Ty w1);replace M:=((G.kept Mp H.mp).eq H.um).trans M;replace M:({w1 with drawn:=w1.drawn+1}:ae).heap[Mp]?=o:=M;generalize({w1 with drawn:=w1.drawn+1}:ae)=r at *;clear G w1;refine vr H (i:=0) (v:=.pointer (some ⟨Fd,0,none⟩)) rfl (by decide+kernel) (by decide+kernel) (by decide+kernel) (.inl ⟨by rfl,fun w2 hw=>⟨aA (fun K D=>by go_simp;exact D),by co_quiet (terms (U:=U) (S:=S) (X:=X))⟩⟩) hF ?_;try walk_nrm
 refine vr H (i:=1) (v:=.pointer (some ⟨Fd,0,none⟩)) rfl (by decide+kernel) (by decide+kernel) (by decide+kernel) (.inl ⟨by rfl,fun w2 hw=>⟨aA (fun K D=>by go_simp;exact D),by co_quiet (terms (U:=U) (S:=S) (X:=X))⟩⟩) hF ?_;try walk_nrm
 refine vr H (i:=2) (v:=.pointer (some ⟨Fd,2,none⟩)) rfl (by decide+kernel) (by decide+kernel) (by decide+kernel) (.inl ⟨by rfl,fun w2 hw=>⟨aA (fun K D=>by go_simp;exact D),by co_quiet (terms (U:=U) (S:=S) (X:=X))⟩⟩) hF ?_;try walk_nrm
 refine vr H (i:=3) (v:=.map (some Mp)) rfl (by decide+kernel) (by decide+kernel) (by decide+kernel) (.inl ⟨by rfl,fun w2 hw=>⟨aA (fun K D=>by have P:=hw.m;go_simp;exact D),sV (by have P:=hw.m;co_evs (exact .inl ⟨_,rfl,rfl,rfl,H.fd,H.u2⟩))⟩⟩) hF ?_;try walk_nrm
 refine vr H (i:=4) (v:=.pointer (some ⟨b5,0,none⟩)) rfl (by decide+kernel) (by decide+kernel) (by decide+kernel) (.inl ⟨by rfl,fun w2 hw=>⟨aA (fun K D=>by go_simp;exact D),by co_quiet (terms (U:=U) (S:=S) (X:=X))⟩⟩) hF ?_;try walk_nrm
 refine vr H (i:=5) (v:=.int .i64 e) rfl (by decide+kernel) (by decide+kernel) (by decide+kernel) (.inl ⟨by rfl,fun w2 hw=>⟨aA (fun K D=>by have P:=hw.c0;go_simp;exact D),sV (by have P:=hw.c0;co_evs (exact .inl ⟨_,rfl,rfl,rfl,H.b,H.ub 0⟩))⟩⟩) hF ?_;try walk_nrm
 refine vr H (i:=6) (v:=.pointer (some ⟨b5,1,none⟩)) rfl (by decide+kernel) (by decide+kernel) (by decide+kernel) (.inl ⟨by rfl,fun w2 hw=>⟨aA (fun K D=>by go_simp;exact D),by co_quiet (terms (U:=U) (S:=S) (X:=X))⟩⟩) hF ?_;try walk_nrm
 refine vr H (i:=7) (v:=.int .i64 d) rfl (by decide+kernel) (by decide+kernel) (by decide+kernel) (.inl ⟨by rfl,fun w2 hw=>⟨aA (fun K D=>by have P:=hw.c1;go_simp;exact D),sV (by have P:=hw.c1;co_evs (exact .inl ⟨_,rfl,rfl,rfl,H.b,H.ub 1⟩))⟩⟩) hF ?_;try walk_nrm
 refine anyCH_all (rs:=[8]) (by decide+kernel) (by simp) fun i j=>?_;simp only[List.mem_singleton]at j;subst j;refine ac9 rfl (by rfl) fun w1 Q Z q=>?_;have N:w1.heap[Mp]?=o:=((Q.kept Mp H.mp).eq H.um).trans M;have J:=AG.rely H hF Q;have⟨v,w',c,R,E⟩:=Ls w1 N;have l:=h w1 N;have T:AG Fd Mp b5 e d w':=⟨(Hm R V).trans J.m,(Hm R O).trans J.c0,(Hm R O).trans J.c1⟩;have W:=q w' (ac_ hX H.mp R fun ev p=>by
  have z:=cM p;simp[go_sem]at z;exact l ev z) ⟨T,anyCH_done (by first|kernel_rfl|decide+kernel) ⟨rfl,A _ _ (zR Fd b5 v1 Y B C _ _ _ _ _ _ _ _ _ _ _ _ _ _ _ _ _ _ _ _ _ _ _ _ _ _ _ _ _ _ _ _ _ _ _ _ _ _ _ _ _ _),T.m,T.c0,T.c1,E⟩ _⟩
 clear q
 go_simp
 exact W
end
noncomputable def Ba:=match aP.body with
 |some (.seq _ (.seq _ (.seq _ (.block _ (.loop (.seq _ (.seq _ (.seq (.block _ (.seq _ (.seq _ (.seq Y _)))) _))))))))=>Y
 |_=>.skip
section
variable{U:Nat->Nat->Prop}{S X:Nat->Prop}{Fd Mp b5:Nat}{e d:Int}{o:Option Obj}
theorem agG(H:tm U S Fd Mp b5)(dd:List aL)(v1 Y B C:af)(u:Nat->af)(M:u 7=.bool false):
  ∃k,∀w,AF Fd Mp b5 e d o w->Ba.wpC Tryz.prog false (RU U S) (DU U S X) 140 k (fun ex a' w'=>ex=.normal/\(∃F,F 38=.bool true/\a'=⟨jV Fd b5 v1 Y B C F,dd⟩)/\AF Fd Mp b5 e d o w') ⟨jV Fd b5 v1 Y B C u,dd⟩ w:=by
 have K:∀(t:Array af) (F:Nat->af) (w':ae),t=jV Fd b5 v1 Y B C F->F 38=.bool true->AF Fd Mp b5 e d o w'->(fun(ex:Exit) (a':Act) w'=>ex=.normal/\(∃F,F 38=.bool true/\a'=⟨jV Fd b5 v1 Y B C F,dd⟩)/\AF Fd Mp b5 e d o w') .normal ⟨t,dd⟩ w':=fun t F w' R I A=>⟨rfl,⟨F,I,by rw[R]⟩,A⟩
 co_apply Exists.intro
 intro w hF;simp only[jV,M];have D:∀{w w1:ae},AF Fd Mp b5 e d o w->RU U S w w1->AF Fd Mp b5 e d o w1:=fun h r=>AF.rely H h r
 co_reg (terms (U:=U) (S:=S) (X:=X))
 co_op D hF (co_quiet (terms (U:=U) (S:=S) (X:=X)))
 co_op D hF (co_quiet (terms (U:=U) (S:=S) (X:=X)))
 co_op D hF (co_quiet (terms (U:=U) (S:=S) (X:=X)))
 co_apply cO (terms (U:=U) (S:=S) (X:=X)) rfl (by rfl)
 co_apply cO (terms (U:=U) (S:=S) (X:=X)) rfl (by rfl)
 co_apply cO (terms (U:=U) (S:=S) (X:=X)) rfl (by rfl)
 try walk_nrm
 co_apply cO (terms (U:=U) (S:=S) (X:=X)) rfl (by rfl)
 co_op D hF (co_quiet (terms (U:=U) (S:=S) (X:=X)))
 co_apply opsC_nil (terms (U:=U))
 exact K _ _ _ (zR Fd b5 v1 Y B C _ _ _ _ _ _ _ _ _ _ _ _ _ _ _ _ _ _ _ _ _ _ _ _ _ _ _ _ _ _ _ _ _ _ _ _ _ _ _ _ _ _) rfl hF
theorem ae6(H:tm U S Fd Mp b5)(dd:List aL)(v1 Y B C:af)(u:Nat->af)(N:u 7=.bool true)(x:Int)(M:u 6=.int .i64 x):
  ∃k,∀w,AF Fd Mp b5 e d o w->Ba.wpC Tryz.prog false (RU U S) (DU U S X) 140 k (fun ex a' w'=>ex=.normal/\(∃F,F 38=.bool (decide (d<x))/\a'=⟨jV Fd b5 v1 Y B C F,dd⟩)/\AF Fd Mp b5 e d o w') ⟨jV Fd b5 v1 Y B C u,dd⟩ w:=by
 have D:∀(t:Array af) (F:Nat->af) (w':ae),t=jV Fd b5 v1 Y B C F->F 38=.bool (decide (d<x))->AF Fd Mp b5 e d o w'->(fun(ex:Exit) (a':Act) (w':ae)=>ex=.normal/\(∃F,F 38=.bool (decide (d<x))/\a'=⟨jV Fd b5 v1 Y B C F,dd⟩)/\AF Fd Mp b5 e d o w') .normal ⟨t,dd⟩ w':=fun t F w' R I A=>⟨rfl,⟨F,I,by rw[R]⟩,A⟩
 co_apply Exists.intro
 intro w hF;unfold Ba aP;dsimp only;simp only[jV,N,M];have K:∀{w w1:ae},AF Fd Mp b5 e d o w->RU U S w w1->AF Fd Mp b5 e d o w1:=fun h r=>AF.rely H h r
 co_reg (terms (U:=U) (S:=S) (X:=X))
 co_op K hF (co_quiet (terms (U:=U) (S:=S) (X:=X)))
 co_op K hF (co_quiet (terms (U:=U) (S:=S) (X:=X)))
 co_op K hF (co_quiet (terms (U:=U) (S:=S) (X:=X)))
 co_op K hF (co_quiet (terms (U:=U) (S:=S) (X:=X)))
 co_opw K hF (have J:=hF.c1) (exact sV (by have J:=hF.c1;co_evs (exact .inl ⟨_,rfl,rfl,rfl,H.b,H.ub 1⟩)))
 co_op K hF (co_quiet (terms (U:=U) (S:=S) (X:=X)))
 co_op K hF (co_quiet (terms (U:=U) (S:=S) (X:=X)))
 co_op K hF (co_quiet (terms (U:=U) (S:=S) (X:=X)))
 co_apply opsC_nil (terms (U:=U) (S:=S) (X:=X))
 exact D _ _ _ (zR Fd b5 v1 Y B C _ _ _ _ _ _ _ _ _ _ _ _ _ _ _ _ _ _ _ _ _ _ _ _ _ _ _ _ _ _ _ _ _ _ _ _ _ _ _ _ _ _) rfl hF
end
section
variable{P:Program}{main:Bool}{U:Nat->Nat->Prop}{D:(Nat->Prop)->(Nat->Prop)->ak->ae->Prop}{S X:Nat->Prop}{b:ah}{a:Act}{k:List Item}{cs:List ah}{w:ae}
theorem Tz.op{ops:Array _}{rest:List Nat}{o:Oper}(B:ops[i]?=some o)(hw:c8 o (dE ops a.tmps)=true)(hk:b.kind≠.early)
  (h:∀w2,gR U S w w2->uponK o a (fun a' w'=>∃S1 X1,j9 U S X w2 w' (listed P b.fn a o w2) S1 X1/\Tz P main U D S1 X1 (G (b.at a' (.inRegion ops rest::k)) cs) w') ((aj a.eval o).run P w2)):
  Tz P main U D S X (G (b.at a (.inRegion ops (i::rest)::k)) cs) w:=by
 refine Tz.one rfl fun w2 hr=>?_;have Y:(az P main (G (b.at a (.inRegion ops (i::rest)::k)) cs) w2).goes fun K w' es=>∃S1 X1,j9 U S X w2 w' es S1 X1/\Tz P main U D S1 X1 K w':=by
  refine goes_oper B hw hk ?_;have:=h w2 hr;revert this;cases(aj _ o).run P w2 with
  |ok x w'=>cases x<;>exact id
  |halt _ _=>exact id
 revert Y;generalize az P _ _ w2=s;intro Y;cases s with
 |go K w' es=>
  have⟨S1,X1,H,R⟩:=Y;exact⟨K,w',es,S1,X1,rfl,H,R⟩
 |_=>exact Y.elim
theorem Tz.xu{ops:Array _}{rest:List Nat}{o:Oper}(Y:ops[i]?=some o)(hw:c8 o (dE ops a.tmps)=true)(hk:b.kind≠.early)
  (h:∀w2,gR U S w w2->∀K,(∀a' w',(∃S1 X1,j9 U S X w2 w' (listed P b.fn a o w2) S1 X1/\Tz P main U D S1 X1 (G (b.at a' (.inRegion ops rest::k)) cs) w')->K a' w')->uponK o a K ((aj a.eval o).run P w2)):
  Tz P main U D S X (G (b.at a (.inRegion ops (i::rest)::k)) cs) w:=
 Tz.op Y hw hk fun w2 hr=>h w2 hr _ fun _ _ x=>x
theorem Tz.quiet{g:ak}(Y:g.status=.running)(e:∀w,az P main g w=.go g1 w #[])(h:∀w2,gR U S w w2->Tz P main U D S X g1 w2):Tz P main U D S X g w:=
 Tz.one Y fun w2 hr=>⟨g1,w2,#[],S,X,e w2,jd _ _ _,h w2 hr⟩
theorem Tz.region{id:Nat}{ops:Array _}(h:∀w2,gR U S w w2->Tz P main U D S X (G (b.at a (.inRegion ops (List.range ops.size)::k)) cs) w2):Tz P main U D S X (G (b.at a (.code (.region id ops false)::k)) cs) w:=
 Tz.quiet rfl (fun w=>stepG_region) h
theorem Tz.GH{ops:Array _}(h:∀w2,gR U S w w2->Tz P main U D S X (G (b.at a k) cs) w2):Tz P main U D S X (G (b.at a (.inRegion ops []::k)) cs) w:=
 Tz.quiet rfl (fun w=>stepG_region_end) h
end
def lY(Fd:Nat)(v1 v5 Y H B:af)(u:Nat->af):=#[.pointer (some ⟨Fd,0,none⟩),v1,u 2,u 3,u 4,v5,u 6,u 7,u 8,u 9,u 10,u 11,u 12,u 13,u 14,Y,H,B,u 18,u 19,u 20,u 21,u 22,u 23,u 24,u 25,u 26,u 27,u 28,u 29,u 30,u 31,u 32,u 33,u 34,u 35,u 36,u 37,u 38,u 39,u 40,u 41,u 42,u 43,u 44,u 45,u 46,u 47]
noncomputable def Lt:=match aP.body with
 |some (.seq _ (.seq _ (.seq _ (.block _ (.loop (.seq _ (.seq _ (.seq (.block _ (.seq Y _)) _))))))))=>Y
 |_=>.skip
section
variable{U:Nat->Nat->Prop}{D:(Nat->Prop)->(Nat->Prop)->ak->ae->Prop}{S X:Nat->Prop}{Fd g:Nat}{e d:Int}
theorem GJ(o:Obj):j9 U S X w (w.alloc o) #[] (fun a=>S a\/a=w.heap.size) (fun a=>X a\/a=w.heap.size):=by
 have H:(w.alloc o).heap.size=w.heap.size+1:=by simp
 refine⟨⟨fun a Y _=>bP w o Y,by omega,fun a=>?_,fun a=>?_,fun e K=>by simp_all,rfl,.refl _,rfl⟩,fun e K=>by simp_all⟩
 ·exact⟨fun h=>h.imp id fun y=>by omega,fun h=>h.imp id fun y=>by omega⟩
 ·exact⟨fun h=>h.imp id fun y=>by omega,fun h=>h.imp id fun y=>by omega⟩
theorem Cf{w1:ae}{b:Nat}{es:Array _}(C:S b)(hX:X b)(F:∀i,¬U b i)(h:Env.Eff b w w1)(B:∀ev∈es,∃a:Addr,ev.loc=.cell a/\ev.sync=false/\a.block=b):j9 U S X w w1 es S X:=
 ⟨⟨fun a _ R=>h.heap a fun e=>R (e▸hX),cZ h.size.symm,fun a=>⟨.inl,fun y=>y.resolve_right fun z=>by have:=h.size;omega⟩,fun a=>⟨.inl,fun y=>y.resolve_right fun z=>by have:=h.size;omega⟩,fun ev K=>by
  have⟨a,H,D,Y⟩:=B ev K;exact .inl ⟨a,H,D,.inl ⟨Y▸C,fun _=>Y▸hX⟩⟩,h.tape,h.env,h.output⟩,fun ev K a I=>by
  have⟨a',H,D,Y⟩:=B ev K;simp_all⟩
theorem nP{b:Nat}(v:af):Env.Eff b w (w.setCell ⟨b,i,none⟩ v):=⟨fun a Y=>heap_setCell_other w _ a v Y,by simp,rfl,.refl _,rfl⟩
theorem rO{w1:ae}{b:Nat}(h:Env.Eff b w w1)(k:Env.Eff b w1 w2):Env.Eff b w w2:=⟨fun a Y=>(k.heap a Y).trans (h.heap a Y),k.size.trans h.size,k.tape.trans h.tape,k.env.trans h.env,k.output.trans h.output⟩
theorem aib{b:ah}{k:List Item}(hb:b.fn=140)(hk:b.kind≠.early)(dd:List aL)(v1 v5 V:af)(u:Nat->af)(i n cap:Nat)(hi:i<n)(W:S g)
  (hc:∀w2,gR U S w w2->w2.cell? ⟨g,i *2,none⟩=some (.int .i64 e)/\w2.cell? ⟨g,i *2+1,none⟩=some (.int .i64 d))(Uz:∀i,¬U g i)(yZ:∀b i,U b i->b<w.heap.size)(h:∀a,S a->a<w.heap.size)
  (cont:∀I w2 u',w.heap.size<=I->(∀i,¬U I i)->w2.cell? ⟨I,0,none⟩=some (.int .i64 e)->w2.cell? ⟨I,1,none⟩=some (.int .i64 d)->I<w2.heap.size->gR U S w w2->
   Tz Tryz.prog false U D (fun a=>S a\/a=I) (fun a=>X a\/a=I) (G (b.at ⟨jV Fd I v1 (.slice (some ⟨g,0,none⟩) n cap) V (.int .i64 (i:Int)) u',dd⟩ k) cs) w2):
  Tz Tryz.prog false U D S X (G (b.at ⟨lY Fd v1 v5 (.slice (some ⟨g,0,none⟩) n cap) V (.int .i64 (i:Int)) u,dd⟩ (.code Lt::k)) cs) w:=by
 have x:(i:Int)<(n:Int):=by omega
 have m:(0:Int)<=(i:Int):=Int.natCast_nonneg _;unfold Lt aP;dsimp only;simp only[lY];refine Tz.region fun w1 J=>?_;refine Tz.xu rfl (by rfl) hk fun w2 L K H=>?_
 go_simp
 refine H _ _ ⟨S,X,?_,?_⟩
 ·rw[cm (by simp[go_sem, *])];exact jd _ _ _
 clear H K;try walk_nrm
 refine Tz.xu rfl (by rfl) hk fun w3 M K H=>?_;have⟨t,e1⟩:=hc w3 ((J.trans L).trans M)
 go_simp
 refine H _ _ ⟨S,X,sV fun ev c=>?_,?_⟩
 ·have T:=cM c;simp[go_sem, *]at T;rcases T with rfl|rfl
  ·exact .inl ⟨_,rfl,rfl,rfl,W,Uz _⟩
  ·exact .inl ⟨_,rfl,rfl,rfl,W,Uz _⟩
 clear H K;try walk_nrm
 refine Tz.xu rfl (by rfl) hk fun w4 Z K H=>?_
 go_simp
 refine H _ _ ⟨_,_,(by rw[cm (by simp[go_sem, *])];exact GJ _),?_⟩;clear H K;try walk_nrm
 have C:∀i,¬U w4.heap.size i:=fun j v=>by
  have E:=yZ _ _ v;have p:=(((J.trans L).trans M).trans Z).grow;omega
 have Q:(w4.alloc (.cells #[.int .i64 0,.int .i64 0] 173)).heap[w4.heap.size]?=some (.cells #[.int .i64 0,.int .i64 0] 173):=ck w4 _;refine Tz.xu rfl (by rfl) hk fun F N K H=>?_;have R:=((N.kept _ (.inr rfl)).eq C).trans Q;have f0:F.cell? ⟨w4.heap.size,0,none⟩=some (.int .i64 0):=by rw[aK _ _ 0 _ _ _ R];rfl
 have f1:F.cell? ⟨w4.heap.size,1,none⟩=some (.int .i64 0):=by rw[aK _ _ 1 _ _ _ R];rfl
 have z0:F.frozen? ⟨w4.heap.size,0,none⟩=false:=cK _ _ 0 _ _ R;have z1:F.frozen? ⟨w4.heap.size,1,none⟩=false:=cK _ _ 1 _ _ R
 go_simp
 try(unfold stored;go_simp)
 have A:Env.Eff w4.heap.size F ((F.setCell ⟨w4.heap.size,0,none⟩ (.int .i64 e)).setCell ⟨w4.heap.size,1,none⟩ (.int .i64 d)):=rO (nP _) (nP _);have z:((F.setCell ⟨w4.heap.size,0,none⟩ (.int .i64 e)).setCell ⟨w4.heap.size,1,none⟩ (.int .i64 d)).heap[w4.heap.size]?=some (.cells #[.int .i64 e,.int .i64 d] 173):=by
  have E:=akj F w4.heap.size 0 _ _ (.int .i64 e) R;rw[akj _ w4.heap.size 1 _ _ (.int .i64 d) E];rfl
 refine H _ _ ⟨_,_,Cf (.inr rfl) (.inr rfl) C A fun ev c=>?_,?_⟩
 ·have T:=cM c;simp[go_sem, *]at T;rcases T with rfl|rfl
  ·exact⟨_,rfl,rfl,rfl⟩
  ·exact⟨_,rfl,rfl,rfl⟩
 clear H K;try walk_nrm
 refine Tz.GH fun q O=>?_;have Y:=((J.trans L).trans M).trans Z;have B:q.heap[w4.heap.size]?=some (.cells #[.int .i64 e,.int .i64 d] 173):=((O.kept _ (.inr rfl)).eq C).trans z;have f:w4.heap.size<q.heap.size:=bh fun y=>by rw[a_ y]at B;cases B
 have l:∀a,S a->a≠w4.heap.size:=fun a P ee=>by
  have E:=h a P;have p:=Y.grow;omega
 have o:gR U S w q:=by
  refine Y.trans ⟨fun a P=>?_,by omega,?_⟩
  ·have r:=N.kept a (.inl P);have s:=O.kept a (.inl P);rw[bP w4 _ (by have E:=h a P;have p:=Y.grow;omega)]at r;rw[A.heap a (l a P)]at s;exact r.trans s
  ·exact O.env.trans (A.env.trans N.env)
 rw[zR Fd w4.heap.size v1 _ V _ _ _ _ _ _ _ _ _ _ _ _ _ _ _ _ _ _ _ _ _ _ _ _ _ _ _ _ _ _ _ _ _ _ _ _ _ _ _ _ _ _ _];exact cont w4.heap.size q _ Y.grow C (by rw[aK _ _ 0 _ _ _ B];rfl) (by rw[aK _ _ 1 _ _ _ B];rfl) f o
end
theorem IU:ko PR (isAgg 214)=some false:=by kernel_rfl
theorem tq:ko PR (isAgg 3)=some false:=by kernel_rfl
theorem yK:(PR.funcs[137]?).any (·.norace)=false:=by kernel_rfl
theorem u213:PR.underlying 213=some (.slice (PR.elem 213)):=by kernel_rfl
theorem z213:(PR.info? (PR.elem 213)).map (·.size)=some 1:=by kernel_rfl
theorem u25:PR.underlying 25=some (.slice (PR.elem 25)):=by kernel_rfl
theorem z25:(PR.info? (PR.elem 25)).map (·.size)=some 1:=by kernel_rfl
theorem y1:yes lG=.code .skip::lG.tail:=by kernel_rfl
theorem n1:no lG=.code (.exit 0)::lG.tail:=by kernel_rfl
theorem y2:yes lO=.code .skip::lO.tail:=by kernel_rfl
theorem n2:no lO=.code (.exit 2)::lO.tail:=by kernel_rfl
theorem y3:yes lP=.code .skip::lP.tail:=by kernel_rfl
theorem n3:no lP=.code (.exit 4)::lP.tail:=by kernel_rfl
theorem t1:lG=.code (.cond (.tmp 18) .skip (.exit 0))::lG.tail:=by kernel_rfl
theorem t2:lO=.code (.cond (.tmp 34) .skip (.exit 2))::lO.tail:=by kernel_rfl
theorem t3:lP=.code (.cond (.tmp 49) .skip (.exit 4))::lP.tail:=by kernel_rfl
theorem agH{b:Option _}{len Gv:Nat}{J:Nat->af}{c:ah}{cs:List _}:gu PR 3 ((dF EN (im (gU b len cap) n work Wg Gv) J).finish unit) (c::cs)=(c.finish unit,cs):=by kernel_rfl
theorem Rg(P:Program):∀n m f l,gu P (n+m) f l=gu P m (gu P n f l).1 (gu P n f l).2
 |0,m,f,l=>by rw[bV];rfl
 |n+1,m,f,l=>by
  rw[show n+1+m=(n+m)+1 by omega];cases e:oc P f l with
  |some x=>
   have⟨f1,l1⟩:=x;have Y:gu P (n+m+1) f l=gu P (n+m) f1 l1:=by simp[gu,e]
   have K:gu P (n+1) f l=gu P n f1 l1:=by simp[gu,e]
   rw[Y,K];exact Rg P n m f1 l1
  |none=>
   cases m with
   |zero=>rfl
   |succ m=>simp[gu,e]
theorem kt.less{site:List _}{s s':Nat->Option _}(h:kt fn n site s f)(Y:∀i v,s' i=some v->s i=some v):kt fn n site s' f:=⟨h.fn,h.todo,h.defers,h.mode,h.kind,h.round,h.size,fun i v e=>h.slot i v (Y i v e)⟩
theorem kt.kA{site uR:List _}{s:Nat->Option _}(h:kt fn n site s f):kt fn n uR s {f with todo:=uR}:=⟨h.fn,rfl,h.defers,h.mode,h.kind,h.round,h.size,h.slot⟩
theorem wa{a b:List _}(h:sA a i=some v):sA (a++b) i=some v:=by
 unfold sA at h⊢;rw[List.lookup_append,h];rfl
def ox(R:List Nat)(n:Nat):=(R.map (fun c=>du (some c))++List.replicate (n-R.length) (du none)).toArray
theorem abr(R:List Nat)(n:Nat)(h:R.length<=n):(ox R n).size=n:=by simp[ox];omega
theorem ada(R:List Nat)(n c:Nat)(h:R.length<n):(ox R n).setIfInBounds R.length (.chan (some c))=ox (R++[c]) n:=by
 unfold ox;rw[show n-R.length=(n-(R++[c]).length)+1 by simp;omega,List.replicate_succ];simp
theorem Ig{c:Nat}(h:R[i]?=some c):(ox R n)[i]?=some (.chan (some c)):=by
 unfold ox;have Y:=(List.getElem?_eq_some_iff.1 h).1;rw[List.getElem?_toArray,List.getElem?_append_left (by simp_all),List.getElem?_map,h];rfl
section
variable(E:Env)(RO:Nat->Prop)(jR:ae)(Gv n:Nat)
def si(w:ae):=gR E.U RO jR w
structure DW(R L:List Nat)(S X:Nat->Prop)(w:ae):Prop where
 ro:∀a,RO a->S a
 mG:∀a,RO a->¬X a
 gs:S Gv
 gx:X Gv
 gv:w.heap[Gv]?=some (.cells (ox R n) 214)
 fx:si E RO jR w
 low:∀a,S a->a<w.heap.size
 vt:∀c∈L,¬S c/\c<w.heap.size
end
section
variable{E:Env}{RO:Nat->Prop}{jR:ae}{Gv n:Nat}{R L:List Nat}{S X:Nat->Prop}{w w2:ae}
theorem DW.rely(H:∀i,¬E.U Gv i)(h:DW E RO jR Gv n R L S X w)(hr:gR E.U S w w2):DW E RO jR Gv n R L S X w2:=
 ⟨h.ro,h.mG,h.gs,h.gx,((hr.kept Gv h.gs).eq H).trans h.gv,gR.trans h.fx ⟨fun a Y=>hr.kept a (h.ro a Y),hr.grow,hr.env⟩,fun a Y=>aB (h.low a Y) hr.grow,fun c K=>⟨(h.vt c K).1,aB (h.vt c K).2 hr.grow⟩⟩
theorem DW.lM(C:Gv≠E.Wg)(h:DW E RO jR Gv n R L S X w){v wt ws v' ij ig:Nat}(H:E.WgAt w v wt ws)(Y:Env.Eff E.Wg w w2)(B:E.WgAt w2 v' ij ig):DW E RO jR Gv n R L S X w2:=
 ⟨h.ro,h.mG,h.gs,h.gx,(Y.heap _ C).trans h.gv,gR.trans h.fx (H9 RO H B Y),fun a K=>by rw[Y.size];exact h.low a K,fun c D=>by rw[Y.size];exact h.vt c D⟩
end
theorem zI{j:Nat}(h:j<1000000000):bI.wrap (j+1)=((j+1:Nat)):=by
 rw[Go.IntWalk.i64_in _ (by omega)];omega
section
variable(E:Env)(RO:Nat->Prop)(jR:ae)(work:af)(c:ah)(cs:List ah)
def TA(ch:Nat)(g:ak)(w:ae):=g=G (H_ ch E.Wg work) []/\si E RO jR w
def TB(S X:Nat->Prop)(g:ak)(w:ae):=∃n f l,g=G f l/\gu PR n f l=(c.finish unit,cs)/\si E RO jR w/\(∀a,RO a->S a)/\(∀a,RO a->¬X a)
end
section
variable{E:Env}{RO:Nat->Prop}{jR:ae}{Gv:Nat}{J:iA}{b:Option Addr}{cap:Nat}{work:af}{c:ah}{cs:List ah}
structure Dl(E:Env)(RO:Nat->Prop)(jR:ae)(Gv:Nat)(J:iA)(b:Option Addr):Prop where
 n0:0<J.n
 n8:J.n<=8
 len:J.gq.length<1000000
 nu:∀i,¬E.U Gv i
 gw:Gv≠E.Wg
 gro:¬RO Gv
 Lu:RO E.Wg
 E1:E.oX jR
 ajv:∀a i,E.U a i->a<jR.heap.size
 num:∀i x:Nat,J.gq[i]?=some x->∃Nb o,b=some ⟨Nb,o,none⟩/\RO Nb/\¬E.U Nb (o+i)/\∀w,si E RO jR w->w.cell? ⟨Nb,o+i,none⟩=some (.int .i64 (x:Int))
abbrev qM(E:Env)(J:iA)(b:Option _)(cap:Nat)(work:af)(Gv:Nat):=im (gU b J.gq.length cap) J.n work E.Wg Gv
abbrev TD(E:Env)(RO:Nat->Prop)(jR:ae)(J:iA)(work:af)(c:ah)(cs:List _)(k:Nat)(d:jq)(S X:Nat->Prop)(f:ah)(w:ae):=
 E.Tree PR true (E.lD PR J (TA E RO jR work) (TB E RO jR c cs) k d) S X (G f (c::cs)) w
theorem aic(D:Dl E RO jR Gv J b)(hL:L.length=J.n):∀(m i:Nat),i+m=J.n->∀(k:Nat) (S X:Nat->Prop) (f:ah) (w:ae),kt 137 55 lP (sA (py (qM E J b cap work Gv) Gv J.n i)) f->f.tmps.getD 49 ai=.bool (decide (i<J.n))->DW E RO jR Gv J.n L L S X w->
  TD E RO jR J work c cs k (J.closes L i) S X f w:=by
 intro m;induction m with
 |zero=>
  intro i hi k S X f w H K hw;have Z:J.closes L i=.kd:=by unfold dx;rw[if_neg (by omega)]
  rw[Z];rw[decide_eq_false (by omega)]at K;refine Tz.one rfl fun w1 F=>⟨_,w1,#[],S,X,vV H.mode H.round (by rw[H.kind];nofun) (H.todo.trans t3) K,jd _ _ _,?_⟩;have U:kt 137 55 (no lP) (sA (py (qM E J b cap work Gv) Gv J.n i)) {f with todo:=.code (.exit 4)::lP.tail}:=by
   have:=H.kA (uR:=.code (.exit 4)::lP.tail);rw[<-n3]at this;rw[<-n3];exact this
  change E.Tree PR true _ S X (G {f with todo:=.code (.exit 4)::lP.tail} (c::cs)) w1;rw[U.eq];generalize(fun i=>({f with todo:=.code (.exit 4)::lP.tail}:ah).tmps.getD i ai)=R;refine ay 60 fun w2 M=>?_;change E.Tree PR true _ S X (G (Ld b J.gq.length cap J.n i E.Wg Gv work R (c::cs)).1 (Ld b J.gq.length cap J.n i E.Wg Gv work R (c::cs)).2) w2;have Y:=jX (rc2 (b:=b) (len:=J.gq.length) (cap:=cap) (n:=J.n) (i:=i) (Wg:=E.Wg) (Gv:=Gv) (work:=work) (J:=R) (l:=c::cs)) rfl;rw[Y.callers,Y.fr.eq];refine Tz.pure 1 fun w3 N=>?_;rw[ahQ];have x:=((hw.rely D.nu F).rely D.nu M).rely D.nu N;refine Env.aeS ⟨fun h hr=>h.rely D.nu hr,fun h=>Env.oX.rely D.E1 D.Lu h.fx,fun h h1 he h2=>h.lM D.gw h1 he h2⟩ (fun q f' l' w' hF hp=>?_) k x;exact⟨q+3,f',l',rfl,by rw[Rg,hp];exact agH,hF.fx,hF.ro,hF.mG⟩
 |succ m ih=>
  intro i hi k S X f w H K hw;have P:i<J.n:=by omega
  have Z:J.closes L i=.close L i:=by unfold dx;rw[if_pos (by omega)]
  rw[Z];rw[decide_eq_true P]at K;obtain⟨ch,A⟩:∃ch,L[i]?=some ch:=⟨L[i],cy (by omega)⟩;refine Tz.one rfl fun w1 F=>⟨_,w1,#[],S,X,vV H.mode H.round (by rw[H.kind];nofun) (H.todo.trans t3) K,jd _ _ _,?_⟩;have U:kt 137 55 (yes lP) (sA (py (qM E J b cap work Gv) Gv J.n i)) {f with todo:=.code .skip::lP.tail}:=by
   have:=H.kA (uR:=.code .skip::lP.tail);rw[<-y3]at this;rw[<-y3];exact this
  change E.Tree PR true _ S X (G {f with todo:=.code .skip::lP.tail} (c::cs)) w1;rw[U.eq];generalize(fun i=>({f with todo:=.code .skip::lP.tail}:ah).tmps.getD i ai)=R;refine ay 60 fun w2 M=>?_;change E.Tree PR true _ S X (G (ET b J.gq.length cap J.n i E.Wg Gv work R (c::cs)).1 (ET b J.gq.length cap J.n i E.Wg Gv work R (c::cs)).2) w2;have Y:=jX (ri5 (b:=b) (len:=J.gq.length) (cap:=cap) (n:=J.n) (i:=i) (Wg:=E.Wg) (Gv:=Gv) (work:=work) (J:=R) (l:=c::cs)) rfl;rw[Y.callers,Y.fr.eq];generalize(fun j=>(ET b J.gq.length cap J.n i E.Wg Gv work R (c::cs)).1.tmps.getD j ai)=T;clear Y;have u:=(hw.rely D.nu F).rely D.nu M;refine Tz.one rfl fun w3 N=>⟨_,w3,#[],S,X,zQ (i:=i) ahX (B:=Gv) (o:=0) (n:=J.n) (cap:=J.n) rfl rfl P u213 z213,jd _ _ _,?_⟩;rw[bV];refine ay 60 fun w4 z=>?_;change E.Tree PR true _ S X (G (EU b J.gq.length cap J.n i E.Wg Gv work T (c::cs)).1 (EU b J.gq.length cap J.n i E.Wg Gv work T (c::cs)).2) w4;have Y:=jX (rl5 (b:=b) (len:=J.gq.length) (cap:=cap) (n:=J.n) (i:=i) (Wg:=E.Wg) (Gv:=Gv) (work:=work) (J:=T) (l:=c::cs)) rfl;have mT:=Y.load;rw[Y.callers];rw[Y.fr.eq]at mT⊢;generalize(fun j=>(EU b J.gq.length cap J.n i E.Wg Gv work T (c::cs)).1.tmps.getD j ai)=V at mT⊢;clear Y;have y:=(u.rely D.nu N).rely D.nu z;refine Tz.one rfl fun w5 d=>?_;have O:=y.rely D.nu d;have I:w5.cell? ⟨Gv,i,none⟩=some (.chan (some ch)):=by
   simp only[aJ,O.gv];exact Ig A
  refine⟨_,w5,_,S,X,qU mT IU I yK,uf O.gs (D.nu _),?_⟩;refine ay 60 fun w6 g=>?_;change E.Tree PR true _ S X (G (EV b J.gq.length cap J.n i E.Wg Gv ch work V (c::cs)).1 (EV b J.gq.length cap J.n i E.Wg Gv ch work V (c::cs)).2) w6;have Y:=jX (rcl (b:=b) (len:=J.gq.length) (cap:=cap) (n:=J.n) (i:=i) (Wg:=E.Wg) (Gv:=Gv) (ch:=ch) (work:=work) (J:=V) (l:=c::cs)) rfl;rw[Y.callers,Y.fr.eq];generalize(fun j=>(EV b J.gq.length cap J.n i E.Wg Gv ch work V (c::cs)).1.tmps.getD j ai)=e;clear Y;have t:=O.rely D.nu g;refine .stop ?_;cases k with
  |zero=>trivial
  |succ k=>
   refine⟨rfl,rfl,acZ SJ,ch,A,fun w7 s p gh=>⟨_,rfl,aeT SJ rfl gh yK,?_⟩⟩;have Q:=t.rely D.nu p;have W:¬S ch:=(Q.vt ch (ec A)).1;have a:DW E RO jR Gv J.n L L S X (w7.setChan ch 0 #[] true s s false):=Q.rely D.nu (vI W);refine ay 60 fun w9 r=>?_;change E.Tree PR true _ S X (G _ (Tu b J.gq.length cap J.n i E.Wg Gv ch work e (c::cs)).2) w9;have Y:=jX (ajn (b:=b) (len:=J.gq.length) (cap:=cap) (n:=J.n) (i:=i) (Wg:=E.Wg) (Gv:=Gv) (ch:=ch) (work:=work) (J:=e) (l:=c::cs)) rfl;have KF:=D.n8;have C:=Y.fr;rw[zI (by omega)]at C;rw[Y.callers];refine ih (i+1) (by omega) k S X _ w9 (C.less fun q v hv=>?_) ((C.slot 49 _ rfl).trans ?_) (a.rely D.nu r)
   ·exact wa (b:=[(49,.bool _)]) hv
   ·simp only[cU]
theorem aid(D:Dl E RO jR Gv J b)(hL:L.length=J.n):∀(m i:Nat),i+m=J.gq.length->∀(k:Nat) (S X:Nat->Prop) (f:ah) (w:ae),kt 137 55 lO (sA (px (qM E J b cap work Gv) (gU b J.gq.length cap) J.gq.length i)) f->f.tmps.getD 34 ai=.bool (decide (i<J.gq.length))->DW E RO jR Gv J.n L L S X w->
  TD E RO jR J work c cs k (J.sends L i) S X f w:=by
 intro m;induction m with
 |zero=>
  intro i hi k S X f w R H hw;have u:J.sends L i=J.closes L 0:=by
   unfold iA.sends dx;rw[if_neg (by omega),if_pos (by rw[hL];exact D.n0)]
  rw[u];rw[decide_eq_false (by omega)]at H;refine Tz.one rfl fun w1 N=>⟨_,w1,#[],S,X,vV R.mode R.round (by rw[R.kind];nofun) (R.todo.trans t2) H,jd _ _ _,?_⟩;have F:kt 137 55 (no lO) (sA (px (qM E J b cap work Gv) (gU b J.gq.length cap) J.gq.length i)) {f with todo:=.code (.exit 2)::lO.tail}:=by
   have:=R.kA (uR:=.code (.exit 2)::lO.tail);rw[<-n2]at this;rw[<-n2];exact this
  change E.Tree PR true _ S X (G {f with todo:=.code (.exit 2)::lO.tail} (c::cs)) w1;rw[F.eq];generalize(fun i=>({f with todo:=.code (.exit 2)::lO.tail}:ah).tmps.getD i ai)=A;refine ay 60 fun w2 O=>?_;change E.Tree PR true _ S X (G _ (Uk b J.gq.length cap J.n i E.Wg Gv work A (c::cs)).2) w2;have Y:=jX (rk3 (b:=b) (len:=J.gq.length) (cap:=cap) (n:=J.n) (i:=i) (Wg:=E.Wg) (Gv:=Gv) (work:=work) (J:=A) (l:=c::cs)) rfl;rw[Y.callers];refine aic (cap:=cap) D hL J.n 0 (by omega) k S X _ w2 (Y.fr.less fun q v hv=>?_) ((Y.fr.slot 49 _ rfl).trans ?_) ((hw.rely D.nu N).rely D.nu O)
  ·exact wa hv
  ·congr 1;simp
 |succ m ih=>
  intro i hi k S X f w R H hw;have I:i<J.gq.length:=by omega
  have u:J.sends L i=.send L i:=by unfold iA.sends;rw[if_pos I]
  rw[u];rw[decide_eq_true I]at H;obtain⟨x,hx⟩:∃x,J.gq[i]?=some x:=⟨J.gq[i],cy I⟩;obtain⟨Nb,o,hb,t,a,y⟩:=D.num i x hx;have V:i%J.n<J.n:=Nat.mod_lt _ D.n0;obtain⟨ch,C⟩:∃ch,L[i%J.n]?=some ch:=⟨L[i%J.n],cy (by omega)⟩;have hlen:=D.len;refine Tz.one rfl fun w1 N=>⟨_,w1,#[],S,X,vV R.mode R.round (by rw[R.kind];nofun) (R.todo.trans t2) H,jd _ _ _,?_⟩;have F:kt 137 55 (yes lO) (sA (px (qM E J b cap work Gv) (gU b J.gq.length cap) J.gq.length i)) {f with todo:=.code .skip::lO.tail}:=by
   have:=R.kA (uR:=.code .skip::lO.tail);rw[<-y2]at this;rw[<-y2];exact this
  change E.Tree PR true _ S X (G {f with todo:=.code .skip::lO.tail} (c::cs)) w1;rw[F.eq];generalize(fun i=>({f with todo:=.code .skip::lO.tail}:ah).tmps.getD i ai)=A;refine ay 60 fun w2 O=>?_;change E.Tree PR true _ S X (G (EO b J.gq.length cap J.n i E.Wg Gv work A (c::cs)).1 (EO b J.gq.length cap J.n i E.Wg Gv work A (c::cs)).2) w2;have Y:=jX (ri3 (b:=b) (len:=J.gq.length) (cap:=cap) (n:=J.n) (i:=i) (Wg:=E.Wg) (Gv:=Gv) (work:=work) (J:=A) (l:=c::cs)) rfl;rw[Y.callers,Y.fr.eq];generalize(fun j=>(EO b J.gq.length cap J.n i E.Wg Gv work A (c::cs)).1.tmps.getD j ai)=T;clear Y;have pj:=(hw.rely D.nu N).rely D.nu O;have W:(dF A3 (A4 (qM E J b cap work Gv) (gU b J.gq.length cap) J.gq.length i) T).eval (.tmp 31)=.slice (some ⟨Nb,o,none⟩) J.gq.length cap:=by
   show gU b J.gq.length cap=_
   rw[hb];rfl
  refine Tz.one rfl fun w3 h=>⟨_,w3,#[],S,X,zQ (i:=i) ahV W rfl I u25 z25,jd _ _ _,?_⟩;refine ay 60 fun w4 e=>?_;change E.Tree PR true _ S X (G (EP b J.gq.length cap J.n i E.Wg Gv ⟨Nb,o+i,none⟩ work T (c::cs)).1 (EP b J.gq.length cap J.n i E.Wg Gv ⟨Nb,o+i,none⟩ work T (c::cs)).2) w4;have Y:=jX (rl3 (b:=b) (len:=J.gq.length) (cap:=cap) (n:=J.n) (i:=i) (Wg:=E.Wg) (Gv:=Gv) (p:=⟨Nb,o+i,none⟩) (work:=work) (J:=T) (l:=c::cs)) rfl;have mT:=Y.load;rw[Y.callers];rw[Y.fr.eq]at mT⊢;generalize(fun j=>(EP b J.gq.length cap J.n i E.Wg Gv ⟨Nb,o+i,none⟩ work T (c::cs)).1.tmps.getD j ai)=z at mT⊢;clear Y;have tG:=(pj.rely D.nu h).rely D.nu e;refine Tz.one rfl fun w5 y7=>?_;have P:=tG.rely D.nu y7;refine⟨_,w5,_,S,X,qU mT tq (y w5 P.fx) yK,uf (P.ro _ t) a,?_⟩;refine ay 60 fun w6 Bb=>?_;change E.Tree PR true _ S X (G (RR b J.gq.length cap J.n i x E.Wg Gv ⟨Nb,o+i,none⟩ work z (c::cs)).1 (RR b J.gq.length cap J.n i x E.Wg Gv ⟨Nb,o+i,none⟩ work z (c::cs)).2) w6;have Y:=jX (rr (b:=b) (len:=J.gq.length) (cap:=cap) (n:=J.n) (i:=i) (x:=x) (Wg:=E.Wg) (Gv:=Gv) (p:=⟨Nb,o+i,none⟩) (work:=work) (J:=z) (l:=c::cs)) rfl;rw[Y.callers,Y.fr.eq];generalize(fun j=>(RR b J.gq.length cap J.n i x E.Wg Gv ⟨Nb,o+i,none⟩ work z (c::cs)).1.tmps.getD j ai)=d;clear Y;have UA:=P.rely D.nu Bb;refine Tz.one rfl fun w7 y8=>⟨_,w7,#[],S,X,acY (i:=i) (n:=J.n) ajo rfl rfl D.n0 (by omega),jd _ _ _,?_⟩;generalize hm:i%J.n=K at C V⊢;refine ay 60 fun w8 tJ=>?_;change E.Tree PR true _ S X (G (ER b J.gq.length cap J.n i x K E.Wg Gv work d (c::cs)).1 (ER b J.gq.length cap J.n i x K E.Wg Gv work d (c::cs)).2) w8;have Y:=jX (ri4 (b:=b) (len:=J.gq.length) (cap:=cap) (n:=J.n) (i:=i) (x:=x) (m:=K) (Wg:=E.Wg) (Gv:=Gv) (work:=work) (J:=d) (l:=c::cs)) rfl;rw[Y.callers,Y.fr.eq];generalize(fun j=>(ER b J.gq.length cap J.n i x K E.Wg Gv work d (c::cs)).1.tmps.getD j ai)=g;clear Y;have Lv:=(UA.rely D.nu y8).rely D.nu tJ;refine Tz.one rfl fun w9 A9=>⟨_,w9,#[],S,X,zQ (i:=K) ahW (B:=Gv) (o:=0) (n:=J.n) (cap:=J.n) rfl rfl V u213 z213,jd _ _ _,?_⟩;rw[bV];refine ay 60 fun wA E2=>?_;change E.Tree PR true _ S X (G (ES b J.gq.length cap J.n i x K E.Wg Gv work g (c::cs)).1 (ES b J.gq.length cap J.n i x K E.Wg Gv work g (c::cs)).2) wA;have Y:=jX (rl4 (b:=b) (len:=J.gq.length) (cap:=cap) (n:=J.n) (i:=i) (x:=x) (m:=K) (Wg:=E.Wg) (Gv:=Gv) (work:=work) (J:=g) (l:=c::cs)) rfl;have mT:=Y.load;rw[Y.callers];rw[Y.fr.eq]at mT⊢;generalize(fun j=>(ES b J.gq.length cap J.n i x K E.Wg Gv work g (c::cs)).1.tmps.getD j ai)=r at mT⊢;clear Y;have hwA:=(Lv.rely D.nu A9).rely D.nu E2;refine Tz.one rfl fun wB E3=>?_;have Q:=hwA.rely D.nu E3;have U:wB.cell? ⟨Gv,K,none⟩=some (.chan (some ch)):=by
   simp only[aJ,Q.gv];exact Ig C
  refine⟨_,wB,_,S,X,qU mT IU U yK,uf Q.gs (D.nu _),?_⟩;refine ay 60 fun wC hrC=>?_;change E.Tree PR true _ S X (G (RS b J.gq.length cap J.n i x K E.Wg Gv ch work r (c::cs)).1 (RS b J.gq.length cap J.n i x K E.Wg Gv ch work r (c::cs)).2) wC;have Y:=jX (rs (b:=b) (len:=J.gq.length) (cap:=cap) (n:=J.n) (i:=i) (x:=x) (m:=K) (Wg:=E.Wg) (Gv:=Gv) (ch:=ch) (work:=work) (J:=r) (l:=c::cs)) rfl;rw[Y.callers,Y.fr.eq];generalize(fun j=>(RS b J.gq.length cap J.n i x K E.Wg Gv ch work r (c::cs)).1.tmps.getD j ai)=J7;clear Y;have Lw:=Q.rely D.nu hrC;refine .stop ?_;cases k with
  |zero=>trivial
  |succ k=>
   refine⟨rfl,rfl,ch,x,by rw[hm];exact C,hx,ai,fun wD s Z gh=>Pb ajl,fun wD Z=>?_⟩;refine ay 60 fun wE yU=>?_;change E.Tree PR true _ S X (G _ (Tt b J.gq.length cap J.n i x E.Wg Gv ch work J7 (c::cs)).2) wE;have Y:=jX (ajm (b:=b) (len:=J.gq.length) (cap:=cap) (n:=J.n) (i:=i) (x:=x) (Wg:=E.Wg) (Gv:=Gv) (ch:=ch) (work:=work) (J:=J7) (l:=c::cs)) rfl;have M:=Y.fr;rw[zI (by omega)]at M;rw[Y.callers];refine ih (i+1) (by omega) k S X _ wE (M.less fun q v hv=>?_) ((M.slot 34 _ rfl).trans ?_) ((Lw.rely D.nu Z).rely D.nu yU)
   ·exact wa (b:=[(34,.bool _)]) hv
   ·simp only[cU]
end
section
variable{E:Env}{RO:Nat->Prop}{jR:ae}{Gv:Nat}{J:iA}{b:Option Addr}{cap:Nat}{work:af}{c:ah}{cs:List ah}
theorem lI{B:Nat}{row:Array _}(h:w.heap[B]?=some (.cells row t)):(w.setCell ⟨B,i,none⟩ v).heap[B]?=some (.cells (row.setIfInBounds i v) t):=Env.zp h
theorem aie(D:Dl E RO jR Gv J b):∀(m:Nat) (L:List Nat),L.length+m=J.n->∀(k:Nat) (S X:Nat->Prop) (f:ah) (w:ae),kt 137 55 lG (sA (oe (qM E J b cap work Gv) J.n L.length)) f->f.tmps.getD 18 ai=.bool (decide (L.length<J.n))->DW E RO jR Gv J.n L L S X w->
  TD E RO jR J work c cs k (J.ky L) S X f w:=by
 intro m;induction m with
 |zero=>
  intro L hL k S X f w M F hw;have e0:J.ky L=J.sends L 0:=by unfold iA.ky;rw[if_neg (by omega)]
  rw[e0];rw[show decide (L.length<J.n)=false from decide_eq_false (by omega)]at F;refine Tz.one rfl fun w1 W=>⟨_,w1,#[],S,X,vV M.mode M.round (by rw[M.kind];nofun) (M.todo.trans t1) F,jd _ _ _,?_⟩;have T:kt 137 55 (no lG) (sA (oe (qM E J b cap work Gv) J.n L.length)) {f with todo:=.code (.exit 0)::lG.tail}:=by
   have:=M.kA (uR:=.code (.exit 0)::lG.tail);rw[<-n1]at this;rw[<-n1];exact this
  change E.Tree PR true _ S X (G {f with todo:=.code (.exit 0)::lG.tail} (c::cs)) w1;rw[T.eq];generalize(fun i=>({f with todo:=.code (.exit 0)::lG.tail}:ah).tmps.getD i ai)=N;refine ay 60 fun w2 d=>?_;change E.Tree PR true _ S X (G _ (Uj b J.gq.length cap J.n L.length E.Wg Gv work N (c::cs)).2) w2;have Y:=jX (rk2 (b:=b) (len:=J.gq.length) (cap:=cap) (n:=J.n) (i:=L.length) (Wg:=E.Wg) (Gv:=Gv) (work:=work) (J:=N) (l:=c::cs)) rfl;rw[Y.callers];refine aid (cap:=cap) D (by omega) J.gq.length 0 (by omega) k S X _ w2 (Y.fr.less fun q v hv=>?_) ((Y.fr.slot 34 _ rfl).trans ?_) ((hw.rely D.nu W).rely D.nu d)
  ·exact wa hv
  ·congr 1;simp
 |succ m ih=>
  intro L hL k S X f w M F hw;have KF:=D.n8;have C:L.length<J.n:=by omega
  have e0:J.ky L=.st L:=by unfold iA.ky;rw[if_pos C]
  rw[e0];rw[show decide (L.length<J.n)=true from decide_eq_true C]at F;refine Tz.one rfl fun w1 W=>⟨_,w1,#[],S,X,vV M.mode M.round (by rw[M.kind];nofun) (M.todo.trans t1) F,jd _ _ _,?_⟩;have T:kt 137 55 (yes lG) (sA (oe (qM E J b cap work Gv) J.n L.length)) {f with todo:=.code .skip::lG.tail}:=by
   have:=M.kA (uR:=.code .skip::lG.tail);rw[<-y1]at this;rw[<-y1];exact this
  change E.Tree PR true _ S X (G {f with todo:=.code .skip::lG.tail} (c::cs)) w1;rw[T.eq];generalize(fun i=>({f with todo:=.code .skip::lG.tail}:ah).tmps.getD i ai)=N;refine ay 60 fun w2 d=>?_;change E.Tree PR true _ S X (G (Ey b J.gq.length cap J.n L.length E.Wg Gv work N (c::cs)).1 (Ey b J.gq.length cap J.n L.length E.Wg Gv work N (c::cs)).2) w2;have Y:=jX (rmk (b:=b) (len:=J.gq.length) (cap:=cap) (n:=J.n) (j:=L.length) (Wg:=E.Wg) (Gv:=Gv) (work:=work) (J:=N) (l:=c::cs)) rfl;rw[Y.callers,Y.fr.eq];generalize(fun j=>(Ey b J.gq.length cap J.n L.length E.Wg Gv work N (c::cs)).1.tmps.getD j ai)=J2;clear Y;have pj:=(hw.rely D.nu W).rely D.nu d;refine Tz.one rfl fun w3 vq=>⟨_,_,#[],_,_,step_mk ahP rfl,GJ _,?_⟩;have K:=pj.rely D.nu vq;generalize u:w3.heap.size=ch;have hcu:∀i,¬E.U ch i:=fun i hu=>by
   have h1:=D.ajv _ _ hu;have h2:=K.fx.grow;omega
  have s:¬S ch:=fun y=>by have:=K.low _ y;omega
  have P:¬RO ch:=fun y=>s (K.ro _ y);have O:ch≠Gv:=fun y=>s (y▸K.gs);have UC:(w3.alloc (.chan 0 #[] false 0 0 false)).heap.size=ch+1:=by simp[u]
  have tG:DW E RO jR Gv J.n L L (fun a=>S a\/a=ch) (fun a=>X a\/a=ch) (w3.alloc (.chan 0 #[] false 0 0 false)):=by
   refine⟨fun a R=>.inl (K.ro a R),fun a R y=>y.elim (K.mG a R) fun e=>P (e▸R),.inl K.gs,.inl K.gx,?_,?_,fun a R=>?_,fun a R=>?_⟩
   ·rw[bP w3 _ (K.low _ K.gs)];exact K.gv
   ·refine gR.trans K.fx ⟨fun a R=>.inl (bP w3 _ (K.low _ (K.ro a R))),by simp,.refl _⟩
   ·rw[UC];rcases R with y|y
    ·have:=K.low a y;omega
    ·omega
   ·have h1:=K.vt a R;refine⟨fun y=>y.elim h1.1 fun e=>?_,by rw[UC];omega⟩;omega
  have Lx:nR (w3.alloc (.chan 0 #[] false 0 0 false)) ch 0:=by
   unfold nR;rw[<-u];exact ck w3 _
  refine ay 60 fun w5 x=>?_;change E.Tree PR true _ _ _ (G (EE b J.gq.length cap J.n L.length E.Wg Gv ch work J2 (c::cs)).1 (EE b J.gq.length cap J.n L.length E.Wg Gv ch work J2 (c::cs)).2) w5;have Y:=jX (ri1 (b:=b) (len:=J.gq.length) (cap:=cap) (n:=J.n) (j:=L.length) (Wg:=E.Wg) (Gv:=Gv) (ch:=ch) (work:=work) (J:=J2) (l:=c::cs)) rfl;rw[Y.callers,Y.fr.eq];generalize(fun j=>(EE b J.gq.length cap J.n L.length E.Wg Gv ch work J2 (c::cs)).1.tmps.getD j ai)=J3;clear Y;have y9:=tG.rely D.nu x;have opn:∀{w w2:ae},nR w ch 0->gR E.U (fun a=>S a\/a=ch) w w2->nR w2 ch 0:=fun h hr=>((hr.kept ch (.inr rfl)).eq hcu).trans h;have ho5:=opn Lx x;refine Tz.one rfl fun w6 t=>⟨_,w6,#[],_,_,zQ (i:=L.length) ahS (B:=Gv) (o:=0) (n:=J.n) (cap:=J.n) rfl rfl C u213 z213,jd _ _ _,?_⟩;rw[bV];refine ay 60 fun w7 y8=>?_;change E.Tree PR true _ _ _ (G (EF b J.gq.length cap J.n L.length E.Wg Gv ch work J3 (c::cs)).1 (EF b J.gq.length cap J.n L.length E.Wg Gv ch work J3 (c::cs)).2) w7;have Y:=jX (qH (b:=b) (len:=J.gq.length) (cap:=cap) (n:=J.n) (j:=L.length) (Wg:=E.Wg) (Gv:=Gv) (ch:=ch) (work:=work) (J:=J3) (l:=c::cs)) rfl;rw[Y.callers,Y.fr.eq];generalize(fun j=>(EF b J.gq.length cap J.n L.length E.Wg Gv ch work J3 (c::cs)).1.tmps.getD j ai)=r;clear Y;have hw7:=(y9.rely D.nu t).rely D.nu y8;have ho7:=opn (opn ho5 t) y8;refine Tz.one rfl fun w8 tJ=>?_;have I:=hw7.rely D.nu tJ;have ho8:=opn ho7 tJ;have ga:=H3 (main:=true) (cs:=c::cs) (w:=w8) (f:=dF AZ (A0 (qM E J b cap work Gv) Gv J.n L.length ch) r) ahT (B:=Gv) (i:=L.length) (v:=some ch) rfl rfl I.gv (by rw[abr _ _ (by omega)];exact C) yK;have H:Env.Eff Gv w8 (w8.setCell ⟨Gv,L.length,none⟩ (.chan (some ch))):=nP _;refine⟨_,_,_,_,_,ga,Cf I.gs I.gx D.nu H (fun ev JY=>by simp_all),?_⟩;have hw9:DW E RO jR Gv J.n (L++[ch]) L (fun a=>S a\/a=ch) (fun a=>X a\/a=ch) (w8.setCell ⟨Gv,L.length,none⟩ (.chan (some ch))):=by
   refine⟨I.ro,I.mG,I.gs,I.gx,?_,gR.trans I.fx ⟨fun a R=>.inl (H.heap a fun e=>D.gro (e▸R)),cZ H.size.symm,H.env⟩,fun a R=>by rw[H.size];exact I.low a R,fun a R=>by rw[H.size];exact I.vt a R⟩;rw[lI I.gv,ada _ _ _ C]
  have ho9:=(H.heap ch O).trans ho8;clear ga H;refine ay 60 fun wA E2=>?_;change E.Tree PR true _ _ _ (G (EG b J.gq.length cap J.n L.length E.Wg Gv ch work r (c::cs)).1 (EG b J.gq.length cap J.n L.length E.Wg Gv ch work r (c::cs)).2) wA;have Y:=jX (rc1 (b:=b) (len:=J.gq.length) (cap:=cap) (n:=J.n) (j:=L.length) (Wg:=E.Wg) (Gv:=Gv) (ch:=ch) (work:=work) (J:=r) (l:=c::cs)) rfl;rw[Y.callers,Y.fr.eq];generalize(fun j=>(EG b J.gq.length cap J.n L.length E.Wg Gv ch work r (c::cs)).1.tmps.getD j ai)=J5;clear Y;refine Tz.pure 1 fun wB E3=>?_;rw[ahR];have hwB:=(hw9.rely D.nu E2).rely D.nu E3;have hoB:=opn (opn ho9 E2) E3;refine Env.aeR (Fx:=fun w=>DW E RO jR Gv J.n (L++[ch]) L (fun a=>S a\/a=ch) (fun a=>X a\/a=ch) w/\nR w ch 0) (ch:=ch) ⟨fun h hr=>⟨h.1.rely D.nu hr,opn h.2 hr⟩,fun h=>Env.oX.rely D.E1 D.Lu h.1.fx,fun h h1 he h2=>⟨h.1.lM D.gw h1 he h2,(he.heap ch fun e=>P (e▸D.Lu)).trans h.2⟩⟩ (by omega) (fun k wC hC=>?_) k ⟨hwB,hoB⟩;obtain⟨Lw,hoC⟩:=hC;refine ay 60 fun wD UD=>?_;change E.Tree PR true _ _ _ (G (EH b J.gq.length cap J.n L.length E.Wg Gv work J5 (c::cs)).1 (EH b J.gq.length cap J.n L.length E.Wg Gv work J5 (c::cs)).2) wD;have Y:=jX (ri2 (b:=b) (len:=J.gq.length) (cap:=cap) (n:=J.n) (j:=L.length) (Wg:=E.Wg) (Gv:=Gv) (work:=work) (J:=J5) (l:=c::cs)) rfl;rw[Y.callers,Y.fr.eq];generalize(fun j=>(EH b J.gq.length cap J.n L.length E.Wg Gv work J5 (c::cs)).1.tmps.getD j ai)=J6;clear Y;have hwD:=Lw.rely D.nu UD;have hoD:=opn hoC UD;refine Tz.one rfl fun wE yU=>⟨_,wE,#[],_,_,zQ (i:=L.length) ahU (B:=Gv) (o:=0) (n:=J.n) (cap:=J.n) rfl rfl C u213 z213,jd _ _ _,?_⟩;rw[bV];refine ay 60 fun wF Et=>?_;change E.Tree PR true _ _ _ (G (EI b J.gq.length cap J.n L.length E.Wg Gv work J6 (c::cs)).1 (EI b J.gq.length cap J.n L.length E.Wg Gv work J6 (c::cs)).2) wF;have Y:=jX (rl2 (b:=b) (len:=J.gq.length) (cap:=cap) (n:=J.n) (j:=L.length) (Wg:=E.Wg) (Gv:=Gv) (work:=work) (J:=J6) (l:=c::cs)) rfl;have mT:=Y.load;rw[Y.callers];rw[Y.fr.eq]at mT⊢;generalize(fun j=>(EI b J.gq.length cap J.n L.length E.Wg Gv work J6 (c::cs)).1.tmps.getD j ai)=J7 at mT⊢;clear Y;have hwF:=(hwD.rely D.nu yU).rely D.nu Et;have hoF:=opn (opn hoD yU) Et;refine Tz.one rfl fun wG Eu=>?_;have p:=hwF.rely D.nu Eu;have hoG:=opn hoF Eu;have Q:wG.cell? ⟨Gv,L.length,none⟩=some (.chan (some ch)):=by
   simp only[aJ,p.gv];exact Ig (by simp)
  refine⟨_,wG,_,_,_,qU mT IU Q yK,uf p.gs (D.nu _),?_⟩;refine ay 60 fun wH Ev=>?_;change E.Tree PR true _ _ _ (G (RG b J.gq.length cap J.n L.length E.Wg Gv ch work J7 (c::cs)).1 (RG b J.gq.length cap J.n L.length E.Wg Gv ch work J7 (c::cs)).2) wH;have Y:=jX (z87 (b:=b) (len:=J.gq.length) (cap:=cap) (n:=J.n) (j:=L.length) (Wg:=E.Wg) (Gv:=Gv) (ch:=ch) (work:=work) (J:=J7) (l:=c::cs)) rfl;rw[Y.callers,Y.fr.eq];generalize(fun j=>(RG b J.gq.length cap J.n L.length E.Wg Gv ch work J7 (c::cs)).1.tmps.getD j ai)=J8;clear Y;have UE:=p.rely D.nu Ev;have hoH:=opn hoG Ev;refine .stop ?_;cases k with
  |zero=>trivial
  |succ k=>
   refine⟨rfl,rfl,.inr rfl,.inr rfl,fun wI g=>⟨opn hoH g,_,_,ZC ajj,⟨rfl,(UE.rely D.nu g).fx⟩,?_⟩⟩;have A:=UE.rely D.nu g;have hwJ:DW E RO jR Gv J.n (L++[ch]) (L++[ch]) (fun a=>(S a\/a=ch)/\a≠ch) (fun a=>(X a\/a=ch)/\a≠ch) wI:=by
    refine⟨fun a R=>⟨A.ro a R,fun e=>P (e▸R)⟩,fun a R y=>A.mG a R y.1,⟨A.gs,fun e=>O e.symm⟩,⟨A.gx,fun e=>O e.symm⟩,A.gv,A.fx,fun a R=>A.low a R.1,fun a R=>?_⟩;have hm:a∈L\/a=ch:=by simpa using R
    rcases hm with y|rfl
    ·exact⟨fun z=>(A.vt a y).1 z.1,(A.vt a y).2⟩
    ·exact⟨fun z=>z.2 rfl,A.low _ (.inr rfl)⟩
   refine ay 60 fun wK hrK=>?_;change E.Tree PR true _ _ _ (G _ (Ts b J.gq.length cap J.n L.length E.Wg Gv ch work J8 (c::cs)).2) wK;have Y:=jX (ajk (b:=b) (len:=J.gq.length) (cap:=cap) (n:=J.n) (j:=L.length) (Wg:=E.Wg) (Gv:=Gv) (ch:=ch) (work:=work) (J:=J8) (l:=c::cs)) rfl;have V:=Y.fr;rw[zI (by omega)]at V;rw[Y.callers];have Z:(L++[ch]).length=L.length+1:=by simp
   refine ih (L++[ch]) (by rw[Z];omega) k _ _ _ wK (V.less fun q v hv=>?_) ((V.slot 18 _ rfl).trans ?_) (hwJ.rely D.nu hrK)
   ·rw[Z]at hv;exact wa (b:=[(18,.bool _)]) hv
   ·rw[Z];simp only[cU]
end
noncomputable def tK:=match aP.body with
 |some (.seq _ (.seq _ (.seq _ (.block _ (.loop c)))))=>c
 |_=>.skip
noncomputable def UF:=match aP.body with
 |some (.seq _ (.seq _ (.seq _ (.block _ (.loop (.seq r3 _))))))=>r3
 |_=>.skip
noncomputable def Ly:=match aP.body with
 |some (.seq _ (.seq _ (.seq _ (.block _ (.loop (.seq _ (.seq _ (.seq _ Y))))))))=>Y
 |_=>.skip
theorem aoJ:Jh=[.code (.block 0 (.loop tK))]:=by kernel_rfl
theorem aoN:tK=.seq UF (.seq (.cond (.tmp 18) .skip (.exit 0)) (.seq (.block 1 (.seq Lt (.seq Lq (.seq Ba (.cond (.tmp 38) Lr .skip))))) Ly)):=by kernel_rfl
section
variable{U:Nat->Nat->Prop}{D:(Nat->Prop)->(Nat->Prop)->ak->ae->Prop}{S X:Nat->Prop}{Fd:Nat}
theorem Ji{b:ah}{k:List _}{cs:List _}(hk:b.kind≠.early)(dd:List _)(v1 v5 Y:af)(u:Nat->af)(i n:Nat)
  (cont:∀w2 B,gR U S w w2->B 18=.bool (decide (i<n))->Tz Tryz.prog false U D S X (G (b.at ⟨lY Fd v1 v5 Y (.int .i64 n) (.int .i64 i) B,dd⟩ k) cs) w2):
  Tz Tryz.prog false U D S X (G (b.at ⟨lY Fd v1 v5 Y (.int .i64 n) (.int .i64 i) u,dd⟩ (.code UF::k)) cs) w:=by
 have key:∀w2,gR U S w w2->Tz _ _ U D S X (G (b.at ⟨lY Fd v1 v5 Y _ _ (fun j=>if j=18 then .bool _ else u j),dd⟩ k) cs) w2:=fun w2 hr=>cont w2 _ hr (if_pos rfl);simp[lY];refine Tz.region fun w1 R=>?_;refine Tz.xu rfl (by rfl) hk fun w2 I K C=>?_;have H:=C _ w2 ⟨S,X,(by rw[cm (by simp[go_sem])];exact jd _ _ _),Tz.GH fun w3 A=>key w3 ((R.trans I).trans A)⟩
 go_simp
 exact H
theorem aif{b:ah}{k:List Item}(hk:b.kind≠.early)(dd:List aL)(v1 v5 Y H:af)(u:Nat->af)(i:Nat)(M:i<=100000)
  (cont:∀w2 F,gR U S w w2->Tz Tryz.prog false U D S X (G (b.at ⟨lY Fd v1 v5 Y H (.int .i64 ((i+1:Nat):Int)) F,dd⟩ k) cs) w2):
  Tz Tryz.prog false U D S X (G (b.at ⟨lY Fd v1 v5 Y H (.int .i64 i) u,dd⟩ (.code Ly::k)) cs) w:=by
 have key:=fun w2 hr=>by
  have h:=cont w2 (fun j=>if j=47 then .int .i64 (i+1)else u j) hr;exact h
 have J:bI.wrap _=i+1:=Go.IntWalk.i64_in _ (by omega);simp only[lY];refine Tz.region fun w1 I=>?_;refine Tz.xu rfl (by rfl) hk fun w2 A K R=>?_
 go_simp
 refine R _ _ ⟨S,X,?_,?_⟩
 ·rw[cm (by simp[go_sem])];exact jd _ _ _
 refine Tz.xu rfl (by rfl) hk fun w3 B K R=>?_;refine R _ _ ⟨S,X,?_,?_⟩
 ·rw[cm (by simp[go_sem])];exact jd _ _ _
 exact Tz.GH fun w4 C=>key w4 (((I.trans A).trans B).trans C)
end
theorem aoP(Fd b5:Nat)(v1 Y H B:af)(u:Nat->af):jV Fd b5 v1 Y H B u=lY Fd v1 (.pointer (some ⟨b5,0,none⟩)) Y H B u:=rfl
section
variable{U:Nat->Nat->Prop}{D:(Nat->Prop)->(Nat->Prop)->ak->ae->Prop}{S X:Nat->Prop}{Fd g Mp:Nat}{e d x:Int}{bo:Bool}{o o':Option Obj}
theorem ae7{b:ah}(hb:b.fn=140)(hk:b.kind≠.early)(dd:List aL)(v1 v5:af)(u:Nat->af)(i n cap:Nat)(hi:i<n)(hn:n<=1000)
  (F:S g)(V:S Fd)(C:S Mp)(hXM:X Mp)(E4:¬U Fd 2)(M:∀i,¬U g i)(UG:∀i,¬U Mp i)(Lz:Fd≠Mp)(yZ:∀b i,U b i->b<w.heap.size)(W:∀a,S a->a<w.heap.size)
  (UH:w.cell? ⟨g,i *2,none⟩=some (.int .i64 e))(UI:w.cell? ⟨g,i *2+1,none⟩=some (.int .i64 d))(hm:w.cell? ⟨Fd,2,none⟩=some (.map (some Mp)))(ho:w.heap[Mp]?=o)
  (LA:∀w,w.heap[Mp]?=o->(aT 166 (.map (some Mp)) (.int .i64 e) true).run Tryz.prog w=.ok (.tuple #[.int .i64 x,.bool bo]) w)
  (ajw:∀w,w.heap[Mp]?=o->∀ev∈aO Tryz.prog (aT 166 (.map (some Mp)) (.int .i64 e) true) w #[],ev.loc=.obj Mp/\ev.sync=false/\ev.write=false)
  (Ls:∀w,w.heap[Mp]?=o->∃v w',(aM 166 (.map (some Mp)) (.int .i64 e) (.int .i64 d)).run Tryz.prog w=.ok v w'/\Env.Eff Mp w w'/\w'.heap[Mp]?=o')
  (ajx:∀w,w.heap[Mp]?=o->∀ev∈aO Tryz.prog (aM 166 (.map (some Mp)) (.int .i64 e) (.int .i64 d)) w #[],ev.loc=.obj Mp/\ev.sync=false)
  (cont:∀I w2 u',w.heap.size<=I->(∀i,¬U I i)->AF Fd Mp I e d (if(!bo||decide (d<x))=true then o' else o) w2->
   Tz Tryz.prog false U D (fun a=>S a\/a=I) (fun a=>X a\/a=I) (G (b.at ⟨lY Fd v1 (.pointer (some ⟨I,0,none⟩)) (.slice (some ⟨g,0,none⟩) n cap) (.int .i64 (n:Int)) (.int .i64 ((i+1:Nat):Int)) u',dd⟩ kk) cs) w2):
  Tz Tryz.prog false U D S X (G (b.at ⟨lY Fd v1 v5 (.slice (some ⟨g,0,none⟩) n cap) (.int .i64 (n:Int)) (.int .i64 (i:Int)) u,dd⟩ (.code tK::kk)) cs) w:=by
 refine Tz.quiet rfl (fun _=>aU) fun w1 xr=>?_;refine Ji hk dd v1 v5 _ u i n fun w2 u2 p9 UJ=>?_;refine Tz.quiet rfl (fun _=>aU) fun w3 vq=>?_;have t:Act.eval ⟨lY Fd v1 v5 (.slice (some ⟨g,0,none⟩) n cap) (.int .i64 n) (.int .i64 i) u2,dd⟩ (.tmp 18)=.bool true:=by
  show u2 18=_
  simp_all
 refine Tz.quiet rfl (fun _=>cP t) fun w4 LB=>?_;refine Tz.quiet rfl (fun _=>stepG_skip) fun w5 y7=>?_;refine Tz.quiet rfl (fun _=>aU) fun w6 Bb=>?_;refine Tz.quiet rfl (fun _=>stepG_block) fun w7 y8=>?_;refine Tz.quiet rfl (fun _=>aU) fun w8 tJ=>?_;have K:=((((((xr.trans p9).trans vq).trans LB).trans y7).trans Bb).trans y8).trans tJ;refine aib hb hk dd v1 v5 _ u2 i n cap hi F (fun wz hr=>⟨qh F (M _) UH (K.trans hr),qh F (M _) UI (K.trans hr)⟩) M (fun b i hu=>aB (yZ b i hu) K.grow) (fun a ha=>aB (W a ha) K.grow) fun I w9 u3 LC B d0 d1 pd A9=>?_;have c:=K.trans A9;have JM:=br K.grow LC;have H:tm U (fun a=>S a\/a=I) Fd Mp I:=⟨.inl V,.inl C,.inr rfl,E4,B,UG⟩;have k:I≠Mp:=fun ee=>by have:=W Mp C;omega
 have s:AF Fd Mp I e d o w9:=⟨qh V E4 hm c,d0,d1,((c.kept Mp C).eq UG).trans ho⟩;refine Tz.quiet rfl (fun _=>aU) fun w10 Q=>?_;have J:=AF.rely H s Q;obtain⟨k5,h5⟩:=ah_ H dd v1 _ _ _ u3 x bo (fun w h=>LA w h.o) (fun w h=>ajw w h.o);refine Tz.wpC (h5 w10 J) hb hk fun a' w0 w11 P T=>?_;obtain⟨⟨u5,h6,h7,rfl⟩,r⟩:=P;have L:=AF.rely H r T;refine Tz.quiet rfl (fun _=>aU) fun w12 Z=>?_;have N:=AF.rely H L Z;have six:∃k6,∀w,AF Fd Mp I e d o w->Ba.wpC Tryz.prog false (RU U fun a=>S a\/a=I) (DU U (fun a=>S a\/a=I) fun a=>X a\/a=I) 140 k6 (fun ex a' w'=>ex=.normal/\(∃u',u' 38=.bool (!bo||decide (d<x))/\a'=⟨jV Fd I v1 (.slice (some ⟨g,0,none⟩) n cap) (.int .i64 n) (.int .i64 i) u',dd⟩)/\AF Fd Mp I e d o w') ⟨jV Fd I v1 (.slice (some ⟨g,0,none⟩) n cap) (.int .i64 n) (.int .i64 i) u5,dd⟩ w:=by
  cases bo with
  |false=>exact agG H dd _ _ _ _ u5 h7
  |true=>exact ae6 H dd _ _ _ _ u5 h7 x h6
 have⟨k6,l⟩:=six;refine Tz.wpC (l w12 N) hb hk fun a' w0 w13 P E=>?_;obtain⟨⟨u6,f,rfl⟩,y⟩:=P;have O:=AF.rely H y E;refine Tz.quiet rfl (fun _=>cP (by exact f)) fun w14 q=>?_;have A:=AF.rely H O q;have last:∀Y u7,AF Fd Mp I e d (if(!bo||decide (d<x))=true then o' else o) Y->Tz Tryz.prog false U D (fun a=>S a\/a=I) (fun a=>X a\/a=I) (G (b.at ⟨jV Fd I v1 (.slice (some ⟨g,0,none⟩) n cap) (.int .i64 n) (.int .i64 i) u7,dd⟩ (.inBlock 1:: .code Ly::kk)) cs) Y:=by
  intro Y u7 hA;refine Tz.quiet rfl (fun _=>stepG_inBlock) fun w16 j=>?_;exact aif hk dd _ _ _ _ u7 i (by omega) fun w17 u8 z=>cont I w17 u8 JM B (AF.rely H (AF.rely H hA j) z)
 cases ht:(!bo||decide (d<x))with
 |true=>
  rw[ht]at last;obtain⟨k7,p⟩:=aia (X:=fun a=>X a\/a=I) H (.inl hXM) Lz k dd v1 _ _ _ u6 o' Ls ajx;refine Tz.wpC (p w14 A) hb hk fun a' w0 Y P R=>?_;obtain⟨⟨u7,rfl⟩,m⟩:=P;exact last Y u7 (AF.rely H m R)
 |false=>
  rw[ht]at last;refine Tz.quiet rfl (fun _=>stepG_skip) fun Y R=>?_;exact last Y u6 (AF.rely H A R)
end
structure LJ(U:Nat->Nat->Prop)(Fd Mp g:Nat)(og:Option Obj)(S X:Nat->Prop)(w:ae):Prop where
 sl:∀a,S a->a<w.heap.size
 ul:∀b i,U b i->b<w.heap.size
 og:w.heap[g]?=og
 sg:S g
 xg:¬X g
 sf:S Fd
 sm:S Mp
 xm:X Mp
theorem LJ.step{U:Nat->Nat->Prop}{Fd Mp g:Nat}{og:Option Obj}{S X S1 X1:Nat->Prop}{w w2 w1:ae}{es:Array _}(H:∀i,¬U g i)(h:LJ U Fd Mp g og S X w)(hr:gR U S w w2)(hd:Did S X w2 w1 es S1 X1):LJ U Fd Mp g og S1 X1 w1:=by
 have Y:=aB (h.sl g h.sg) hr.grow;refine⟨fun a K=>?_,fun b i D=>aB (h.ul b i D) (br hr.grow hd.grow),?_,(hd.held g).2 (.inl h.sg),fun y=>?_,(hd.held Fd).2 (.inl h.sf),(hd.held Mp).2 (.inl h.sm),(hd.may Mp).2 (.inl h.xm)⟩
 ·rcases(hd.held a).1 K with y|y
  ·exact aB (h.sl a y) (br hr.grow hd.grow)
  ·omega
 ·rw[hd.kept g Y h.xg,(hr.kept g h.sg).eq H,h.og]
 ·rcases(hd.may g).1 y with z|z
  ·exact h.xg z
  ·omega
section
variable{U:Nat->Nat->Prop}{D:(Nat->Prop)->(Nat->Prop)->ak->ae->Prop}{Fd g Mp n cap:Nat}{cur:Array af}{E Dd:Nat->Int}
theorem Sk{b:ah}(hb:b.fn=140)(hk:b.kind≠.early)(dd:List aL)(v1:af)(hn:n<=1000)(O:¬U Fd 2)(H:∀i,¬U g i)(B:∀i,¬U Mp i)(V:Fd≠Mp)
  (M:Nat->Option Obj->Prop)(F:∀i,i<n->cur[i *2]?=some (.int .i64 (E i))/\cur[i *2+1]?=some (.int .i64 (Dd i)))
  (C:(Nat->Prop)->(Nat->Prop)->ae->Prop)(W:∀S X w w2 w1 es S1 X1,C S X w->gR U S w w2->Did S X w2 w1 es S1 X1->C S1 X1 w1)(N:∀S X w w2,C S X w->gR U S w w2->C S X w2)
  (h:∀i o,i<n->M i o->∃x bo o',(∀w,w.heap[Mp]?=o->(aT 166 (.map (some Mp)) (.int .i64 (E i)) true).run Tryz.prog w=.ok (.tuple #[.int .i64 x,.bool bo]) w)/\
   (∀w,w.heap[Mp]?=o->∀ev∈aO Tryz.prog (aT 166 (.map (some Mp)) (.int .i64 (E i)) true) w #[],ev.loc=.obj Mp/\ev.sync=false/\ev.write=false)/\
   (∀w,w.heap[Mp]?=o->∃v w',(aM 166 (.map (some Mp)) (.int .i64 (E i)) (.int .i64 (Dd i))).run Tryz.prog w=.ok v w'/\Env.Eff Mp w w'/\w'.heap[Mp]?=o')/\
   (∀w,w.heap[Mp]?=o->∀ev∈aO Tryz.prog (aM 166 (.map (some Mp)) (.int .i64 (E i)) (.int .i64 (Dd i))) w #[],ev.loc=.obj Mp/\ev.sync=false)/\
   M (i+1) (if(!bo||decide (Dd i<x))=true then o' else o))
  (fin:∀S X v5 u w,LJ U Fd Mp g (some (.cells cur 173)) S X w->C S X w->M n (w.heap[Mp]?)->Tz Tryz.prog false U D S X (G (b.at ⟨lY Fd v1 v5 (.slice (some ⟨g,0,none⟩) n cap) (.int .i64 (n:Int)) (.int .i64 (n:Int)) u,dd⟩ k0) cs) w):
  ∀(m i:Nat),i+m=n->∀S X v5 u w,LJ U Fd Mp g (some (.cells cur 173)) S X w->C S X w->w.cell? ⟨Fd,2,none⟩=some (.map (some Mp))->M i (w.heap[Mp]?)->
   Tz Tryz.prog false U D S X (G (b.at ⟨lY Fd v1 v5 (.slice (some ⟨g,0,none⟩) n cap) (.int .i64 (n:Int)) (.int .i64 i) u,dd⟩ (.code tK:: .inLoop tK:: .inBlock 0::k0)) cs) w
 |0,i,t,S,X,v5,u,w,K,d,s,Q=>by
  obtain rfl:i=n:=by omega
  refine Tz.quiet rfl (fun _=>aU) fun w1 q=>?_;refine Ji hk dd v1 v5 _ u i i fun w2 u2 Y P=>?_;refine Tz.quiet rfl (fun _=>aU) fun w3 j=>?_;have T:Act.eval ⟨lY Fd v1 v5 (.slice (some ⟨g,0,none⟩) i cap) (.int .i64 i) (.int .i64 i) u2,dd⟩ (.tmp 18)=.bool false:=by
   show u2 18=_
   rw[P,decide_eq_false (ek i)]
  refine Tz.quiet rfl (fun _=>cP T) fun w4 z=>?_;refine Tz.quiet rfl (fun _=>stepG_exit rfl) fun y c=>?_;have A:=(((q.trans Y).trans j).trans z).trans c;refine fin S X v5 u2 y ?_ (N _ _ _ _ d A) (by rw[(A.kept Mp K.sm).eq B];exact Q);exact LJ.step H K A (jd (U:=U) S X y).toDid
 |m+1,i,t,S,X,v5,u,w,K,d,s,Q=>by
  obtain⟨x,bo,o',l1,l2,a,l4,k⟩:=h i _ (by omega) Q;obtain⟨c0,c1⟩:=F i (by omega);have hr:=ae7 (D:=fun S' X' f w'=>∃I J,w.heap.size<=I/\(∀i,¬U I i)/\AF Fd Mp I _ _ _ w'/\f=G (b.at ⟨lY Fd v1 (.pointer (some ⟨I,0,none⟩)) _ _ _ J,dd⟩ (.inLoop tK:: .inBlock 0::k0)) cs)
   hb hk dd v1 v5 u i n cap (by omega) hn K.sg K.sf K.sm K.xm O H B V K.ul K.sl (by rw[aK _ _ _ _ _ _ K.og];exact c0) (by rw[aK _ _ _ _ _ _ K.og];exact c1) s rfl l1 l2 a l4 (fun I w2 J l p L=>.stop ⟨I,J,l,p,L,rfl⟩)
  refine(Tz.inv (fun S X w=>LJ U Fd Mp g _ S X w/\C S X w) (fun S X w w2 w1 es S1 X1 r hr hd=>⟨r.1.step H hr hd,W _ _ _ _ _ _ _ _ r.2 hr hd⟩) hr ⟨K,d⟩).bind fun S' X' f w' hd=>?_;obtain⟨⟨I,J,l,p,L,rfl⟩,R,Z⟩:=hd;refine Tz.quiet rfl (fun _=>stepG_inLoop) fun w2 Y=>?_;refine Sk hb hk dd v1 hn O H B V M F C W N h fin m _ (by omega) S' X' _ J w2 (LJ.step H R Y (jd (U:=U) S' X' w2).toDid) (N _ _ _ _ Z Y) (qh R.sf O L.m Y) ?_;rw[(Y.kept Mp R.sm).eq B,L.o];exact k
end
section
variable{P:Program}{main:Bool}{U:Nat->Nat->Prop}{D I:(Nat->Prop)->(Nat->Prop)->ak->ae->Prop}{S X SF XF:Nat->Prop}{g:ak}{w:ae}
theorem Tz.more(h:Tz P main U D S X g w)(k:∀S X g w,D S X g w->Tz P main U I (fun a=>S a\/SF a) (fun a=>X a\/XF a) g w):Tz P main U I (fun a=>S a\/SF a) (fun a=>X a\/XF a) g w:=by
 induction h with
 |stop hd=>exact k _ _ _ _ hd
 |@step S X g w R ex _ B=>
  refine Tz.one R fun w2 hr=>?_;have Y:gR U S w w2:=⟨fun a K=>hr.kept a (.inl K),hr.grow,hr.env⟩;obtain⟨g1,w1,es,S1,X1,e,hd⟩:=ex w2 Y;refine⟨g1,w1,es,fun a=>S1 a\/SF a,fun a=>X1 a\/XF a,e,⟨⟨fun a K A=>hd.kept a K fun y=>A (.inl y),hd.grow,fun a=>?_,fun a=>?_,fun e H=>Qa (hd.ev e H),hd.tape,hd.env,hd.output⟩,hd.J_⟩,B w2 g1 w1 es S1 X1 Y e hd⟩
  ·rw[hd.held];constructor
   ·rintro((y|y)|y)
    ·simp_all
    ·exact .inr y
    ·simp_all
   ·rintro((y|y)|y)
    ·simp_all
    ·exact .inr y
    ·omega
  ·rw[hd.may];constructor
   ·rintro((y|y)|y)
    ·simp_all
    ·exact .inr y
    ·exact .inl (.inr y)
   ·rintro((y|y)|y)
    ·simp_all
    ·exact .inr y
    ·omega
end
section
variable{U:Nat->Nat->Prop}{D:(Nat->Prop)->(Nat->Prop)->ak->ae->Prop}{S X:Nat->Prop}{Fd:Nat}
theorem agI{b:ah}{k0:List _}{cs:List _}(hk:b.kind≠.early)(dd:List _)(v1 v5 Y:af)(u:Nat->af)(n:Nat)
  (cont:∀w2 F,gR U S w w2->Tz Tryz.prog false U D S X (G (b.at ⟨lY Fd v1 v5 Y (.int .i64 n) (.int .i64 n) F,dd⟩ k0) cs) w2):
  Tz Tryz.prog false U D S X (G (b.at ⟨lY Fd v1 v5 Y (.int .i64 n) (.int .i64 n) u,dd⟩ (.code tK:: .inLoop tK:: .inBlock 0::k0)) cs) w:=by
 refine Tz.quiet rfl (fun _=>aU) fun w1 H=>?_;refine Ji hk dd v1 v5 _ u n n fun w2 u2 R C=>?_;refine Tz.quiet rfl (fun _=>aU) fun w3 I=>?_;have K:Act.eval ⟨lY Fd v1 v5 Y (.int .i64 n) (.int .i64 n) u2,dd⟩ (.tmp 18)=.bool false:=by
  show u2 18=_
  simp_all
 refine Tz.quiet rfl (fun _=>cP K) fun w4 A=>?_;refine Tz.quiet rfl (fun _=>stepG_exit rfl) fun J B=>?_;exact cont J u2 ((((H.trans R).trans I).trans A).trans B)
end
def E5:Frame:=⟨140,#[],[],[],.run,.normal,none⟩
theorem agJ(Fd:Nat)(v1 Y H B:af)(j:Nat->af):TN 48 (sA [(0,ptr Fd),(1,v1),(15,Y),(16,H),(17,B)]) j=lY Fd v1 (j 5) Y H B j:=by kernel_rfl
theorem IP.eq{a:Option Addr}(h:IP Fd a n cap f):∃v5 u,f=E5.at ⟨lY Fd (.slice a n cap) v5 (.slice a n cap) (.int .i64 (n:Int)) (.int .i64 ((0:Nat):Int)) u,[dcall 161 #[ptr Fd]]⟩ [.code (.block 0 (.loop tK))]:=by
 have⟨fn,tmps,todo,defers,mode,kind,ro⟩:=f;have⟨D,R,I,A,U,B,C,g0,g1,K,H,g17⟩:=h;subst D R I A U B;have F:kt 140 48 [] (sA [(0,ptr Fd),(1,.slice a n cap),(15,.slice a n cap),(16,.int .i64 n),(17,.int .i64 0)]) ⟨140,tmps,[],[],.run,.normal,none⟩:=by
  refine⟨rfl,rfl,rfl,rfl,rfl,rfl,C,fun i v Y=>?_⟩;have:(i,v)∈[(0,ptr Fd),(1,Value.slice a n cap),(15,.slice a n cap),(16,.int .i64 n),(17,.int .i64 0)]:=by
   unfold sA at Y;simp only[List.lookup]at Y
   repeat' split at Y
   all_goals first|(rename_i J;simp_all)
  simp at this;rcases this with⟨rfl,rfl⟩|⟨rfl,rfl⟩|⟨rfl,rfl⟩|⟨rfl,rfl⟩|⟨rfl,rfl⟩<;>assumption
 have e:=congrArg Frame.tmps F.eq;simp only[lq]at e;rw[agJ]at e;refine⟨tmps.getD 5 ai,fun i=>tmps.getD i ai,?_⟩;exact congrArg (fun t=>(⟨140,t,[.code _],[dcall 161 _],.run,.normal,none⟩:ah)) e
def IV(Mp:Nat)(L:List (Nat×Nat))(M:Nat->Option Obj->Prop):Prop:=∀i o,i<L.length->M i o->∃x bo o',
 (∀w,w.heap[Mp]?=o->(aT 166 (.map (some Mp)) (.int .i64 ((L.getD i (0,0)).1:Int)) true).run Tryz.prog w=.ok (.tuple #[.int .i64 x,.bool bo]) w)/\
 (∀w,w.heap[Mp]?=o->∀ev∈aO Tryz.prog (aT 166 (.map (some Mp)) (.int .i64 ((L.getD i (0,0)).1:Int)) true) w #[],ev.loc=.obj Mp/\ev.sync=false/\ev.write=false)/\
 (∀w,w.heap[Mp]?=o->∃v w',(aM 166 (.map (some Mp)) (.int .i64 ((L.getD i (0,0)).1:Int)) (.int .i64 ((L.getD i (0,0)).2:Int))).run Tryz.prog w=.ok v w'/\Env.Eff Mp w w'/\w'.heap[Mp]?=o')/\
 (∀w,w.heap[Mp]?=o->∀ev∈aO Tryz.prog (aM 166 (.map (some Mp)) (.int .i64 ((L.getD i (0,0)).1:Int)) (.int .i64 ((L.getD i (0,0)).2:Int))) w #[],ev.loc=.obj Mp/\ev.sync=false)/\
 M (i+1) (if(!bo||decide (((L.getD i (0,0)).2:Int)<x))=true then o' else o)
theorem ae8(L:List _)(i:Nat)(Y:i<L.length):(jM L)[i *2]?=some (.int .i64 ((L.getD i (0,0)).1))/\(jM L)[i *2+1]?=some (.int .i64 ((L.getD i (0,0)).2)):=by
 induction L generalizing i with
 |nil=>simp at Y
 |cons a L K=>
  cases i with
  |zero=>exact⟨rfl,rfl⟩
  |succ i=>
   rw[show(i+1) *2=i *2+1+1 by omega];exact K i (by simp_all)
section
variable{E:Env}{ok:Nat->Prop}{RO:Nat->Prop}{Fx:ae->Prop}
theorem agK(X P:e_)(k st:Nat)(K:E.wu RO Fx)(Y:∀w,Fx w->(∀b,RO b->b<w.heap.size)/\E.Mp<w.heap.size)(V:RO E.Fd)(hRW:RO E.Wg)(hRM:¬RO E.Mp)(hFm:∀w,Fx w->w.cell? ⟨E.Fd,2,none⟩=some (.map (some E.Mp)))(O:∀i,¬E.U E.Mp i)(Lz:E.Fd≠E.Mp)
  (W:∀x,ok x->(kW X P k st x).length<=1000)(hMc:∀γ c t,¬E.mz γ (some (.cells c t)))
  (law:∀γ x,ok x->∃M:Nat->Option Obj->Prop,(∀o,E.mz γ o->M 0 o)/\(∀o,M (kW X P k st x).length o->E.mz (E.upd γ x) o)/\IV E.Mp (kW X P k st x) M):
  Env.SK E ok RO Fx (E.Jw X P k st):=by
 intro D x γ S X' f l w a n cap hx p hX A v hF r hm hf Z;have⟨M,m0,m1,ml⟩:=law γ x hx;obtain⟨v5,u,rfl⟩:=hf.eq;clear hf;have⟨hn,r⟩:=r;have E4:¬E.U E.Fd 2:=fun h=>by have:=h.2;omega
 refine Tz.quiet rfl (fun _=>stepG_block) fun w1 xr=>?_;refine Tz.quiet rfl (fun _=>stepG_loop) fun w2 p9=>?_;have hr:=xr.trans p9;have H:=K.rely S _ _ p hF hr;have C:E.mz γ (w2.heap[E.Mp]?):=by rw[(hr.kept _ A).eq O];exact hm
 rcases r with⟨rfl,h0⟩|⟨g,J,rfl,Q,hXg,d,hg,y5⟩
 ·subst h0;refine agI (by simp[E5]) _ _ _ _ u 0 fun w3 u' q=>?_;refine Z S X' _ w3 p hX A (K.rely S _ _ p H q) (m1 _ ?_);rw[<-hn,(q.kept _ A).eq O];exact m0 _ C
 ·have B:=((hr.kept g Q).eq d).trans hg;have m:g≠E.Mp:=fun ee=>by
   rw[<-ee,B]at C;exact hMc _ _ _ C
  have hgl:=bh fun y=>by rw[a_ y]at B;cases B
  have F:∀j,j<n *2->J[j]?=(jM _)[j]?:=fun j I=>by
   rw[<-y5,cX,if_pos I];simp
  have N:=Sk (U:=E.U) (D:=fun S1 X1 g1 w1=>(∃T,g1=G (Jv E.Fd T) l)/\(∀a,RO a->¬X1 a)/\Fx w1/\E.mz (E.upd γ x) (w1.heap[E.Mp]?)) (Fd:=E.Fd) (g:=g) (Mp:=E.Mp) (n:=n) (cap:=cap) (cur:=J)
   (b:=E5) (k0:=[]) (cs:=l) rfl (by simp[E5]) _ (.slice (some ⟨g,0,none⟩) n cap) (by rw[hn];exact W x hx) E4 d O Lz M
   (fun i hi=>by
    obtain⟨f1,f2⟩:=ae8 (kW X P k st x) i (by omega);exact⟨(F _ (by omega)).trans f1,(F _ (by omega)).trans f2⟩)
   (fun S1 X1 w1=>(∀a,RO a->S1 a)/\(∀a,RO a->¬X1 a)/\Fx w1)
   (fun S1 X1 w3 w4 w5 es S2 X2 I hr hd=>by
    have⟨j1,j2,j3⟩:=I;have L:=K.rely S1 _ _ j1 j3 hr;refine⟨fun a R=>(hd.held a).2 (.inl (j1 a R)),fun a R y=>?_,K.rely RO _ _ (fun _ h=>h) L ⟨fun a R=>.inl (hd.kept a ((Y _ L).1 a R) (j2 a R)),hd.grow,hd.env⟩⟩;rcases(hd.may _).1 y with z|z
    ·exact j2 a R z
    ·have:=(Y _ L).1 a R;omega)
   (fun S1 X1 w3 w4 I hr=>⟨I.1,I.2.1,K.rely S1 _ _ I.1 I.2.2 hr⟩)
   (fun i o hi s=>ml i o (by omega) s)
   (fun S1 X1 v6 u6 w3 hL I s=>.stop ⟨⟨_,rfl⟩,I.2.1,I.2.2,m1 _ (by rw[<-hn];exact s)⟩)
   n 0 (by omega) (fun a=>RO a\/a=E.Mp\/a=g) (fun a=>a=E.Mp) v5 u w2
   ⟨fun a R=>(by
    rcases R with y|rfl|rfl
    ·simp_all
    ·exact(Y w2 H).2
    ·exact hgl),fun b i hu=>(by
    rcases hu.1 with rfl|rfl
    ·exact(Y w2 H).1 _ V
    ·exact(Y w2 H).1 _ hRW),B,.inr (.inr rfl),m,.inl V,.inr (.inl rfl),rfl⟩
   ⟨fun a R=>.inl R,fun a R e=>hRM (e▸R),H⟩ (hFm w2 H) (m0 _ C)
  refine(Tz.more (SF:=S) (XF:=X') N fun S1 X1 g1 w3 hd=>?_).sets (fun a=>⟨fun h=>h.elim (fun y=>y.elim (p a) fun z=>z.elim (fun e=>e▸A) fun e=>e▸Q) id,.inr⟩) (fun a=>⟨fun h=>h.elim (fun y=>by subst y;exact v) id,.inr⟩);obtain⟨⟨T,rfl⟩,h1,h2,h3⟩:=hd;simp_all
end
end Ph
namespace Ph
open Conc Ren
open WideElems (Fit rd rg rd_val)
open Maps (Keyed IsMap Tidy has)
theorem u166:PR.underlying 166=some (.map 3 3):=by simp
theorem u3:PR.underlying 3=some (.int .i64):=by simp
theorem SP(w:ae):(cQ 3).run PR w=.ok (.int .i64 0) w:=oo (by kernel_rfl) w
theorem Bc:Keyed PR 3:=Go.Maps.int_keyed u3
def zS(l:List cY):=∀x∈l,∃a:Int,x.key=.int .i64 a
theorem B1(e:Int):∀l i,zS l->∃r,bH (.int .i64) (.int .i64 e) l i=some r/\∀j v,r=some (j,v)->i<=j/\∃x,l[j-i]?=some x/\x.key=.int .i64 e
 |[],i,_=>⟨none,rfl,fun j v h=>by cases h⟩
 |x::l,i,h=>by
  obtain⟨a,Y⟩:=h x (by simp);by_cases A:e=a
  ·subst A;refine⟨some (i,x.val),?_,fun j v K=>?_⟩
   ·simp[bH,dU,Y]
   ·simp_all
  ·obtain⟨r,H,D⟩:=B1 e l (i+1) fun y U=>h y (by simp[U]);refine⟨r,?_,fun j v K=>?_⟩
   ·have I:(e==a)=false:=by simp_all
    simp[bH,dU,Y,I,H]
   ·have⟨B,x',C,R⟩:=D j v K;refine⟨by omega,x',?_,R⟩;rw[show j-i=(j-(i+1))+1 by omega];simp_all
def xw(es:Array cY)(clock:Nat)(e d:Int):Obj:=match bH (.int .i64) (.int .i64 e) es.toList 0 with
 |some (some (i,_))=>.map (es.modify i fun x=>{x with key:=.int .i64 e,val:=.int .i64 d}) clock
 |_=>.map (es.push {key:=.int .i64 e,val:=.int .i64 d,born:=clock}) (clock+1)
section
variable{w:ae}{b:Nat}{es:Array cY}{clock:Nat}{e d:Int}
theorem BC(Y:w.heap[b]?=some (.map es clock))(ev:Array _):(getObj b).events PR w ev=ev.push ⟨.obj b,false,false⟩:=by
 simp[getObj,aO,Sem.runT,Y,Obj.isChan,-Sem.runT_eq]
theorem MO(iI:Array _)(c':Nat)(Y:w.heap[b]?=some (.map es clock))(ev:Array _):(setObj b (.map iI c')).events PR w ev=ev.push ⟨.obj b,true,false⟩:=by
 simp[setObj,aO,Sem.runT,Y,Obj.isChan]
theorem x8(Y:Bool):(dO Y 10000 3 (.int .i64 e)).run PR w=.ok () w:=oo (by kernel_rfl) w
theorem C5(Y:Bool)(ev:Array _):(dO Y 10000 3 (.int .i64 e)).events PR w ev=ev:=rY (a:=()) (by kernel_rfl) w ev
theorem ym{r:Option _}(h:bH (.int .i64) (.int .i64 e) es.toList 0=some r):(cT 3 (.int .i64 e) es.toList).run PR w=.ok r w:=MapKept.run_findKey u3 h
theorem Ds{r:Option _}(h:bH (.int .i64) (.int .i64 e) es.toList 0=some r)(ev:Array _):(cT 3 (.int .i64 e) es.toList).events PR w ev=ev:=by
 simp[cT,h]
theorem Rh(hk:zS es.toList)(H:w.heap[b]?=some (.map es clock)):(aM 166 (.map (some b)) (.int .i64 e) (.int .i64 d)).run PR w=.ok () {w with heap:=w.heap.setIfInBounds b (xw es clock e d)}:=by
 obtain⟨r,Y,D⟩:=B1 e _ 0 hk;cases r with
 |none=>simp[aM,bK H,x8,ym Y,eh _ H,xw,Y]
 |some x=>
  have⟨i,v⟩:=x;have⟨_,y,R,I⟩:=D i v rfl;have K:=by simpa using R
  simp[aM,bK H,x8,ym Y,eh _ H,xw,Y,dQ,K,I,dS]
theorem agL(hk:zS es.toList)(H:w.heap[b]?=some (.map es clock)):∀ev∈aO PR (aM 166 (.map (some b)) (.int .i64 e) (.int .i64 d)) w #[],ev.loc=.obj b/\ev.sync=false:=by
 have⟨r,K,R⟩:=B1 e es.toList 0 hk;intro ev Y;cases r with
 |none=>
  simp[aM,bK H,BC H,x8,C5,ym K,Ds K,MO _ _ H]at Y;rcases Y with rfl|rfl<;>exact⟨rfl,rfl⟩
 |some x=>
  have⟨i,v⟩:=x;have⟨_,y,I,A⟩:=R i v rfl;have D:=by simpa using I
  simp[aM,bK H,BC H,x8,C5,ym K,Ds K,MO _ _ H,dQ,D,A,dS]at Y;rcases Y with rfl|rfl<;>exact⟨rfl,rfl⟩
theorem ae9(hk:zS es.toList)(H:w.heap[b]?=some (.map es clock)):∀ev∈aO PR (aT 166 (.map (some b)) (.int .i64 e) true) w #[],ev.loc=.obj b/\ev.sync=false/\ev.write=false:=by
 obtain⟨r,K,D⟩:=B1 e _ 0 hk;intro ev Y;cases r with
 |none=>
  simp[aT,bK H,BC H,x8,C5,ym K,Ds K]at Y;simp_all
 |some x=>
  simp[aT,bK H,BC H,x8,C5,ym K,Ds K]at Y;simp_all
end
abbrev KB:=2000
abbrev mm:=Nat->Option Nat
def better(g:mm)(h:Nat×Nat):mm:=fun e=>if e=h.1 then(match g e with|some d=>some (min d h.2)|none=>some h.2)else g e
structure ve(l:List (Lit×DataW Unit))(g:mm):Prop where
 has:∀e:Nat,has (.map l) (.int .i64 (e:Int))=(g e).isSome
 at_:∀e:Nat,(DataW.map l).atKey (.int .i64 (e:Int)) (.lit (.int .i64 0))=.lit (.int .i64 (((g e).getD 0:Nat):Int))
 keys:∀p∈l,∃e:Nat,e<KB/\p.1=.int .i64 (e:Int)
def mQ(g:mm)(o:Option Obj):Prop:=∃es clock l,o=some (.map es clock)/\Fit PR 3 (dA (H:=Unit) PR 3) es clock/\l=(es.toList.map (rg PR 3 (dA (H:=Unit) PR 3))).foldr DataW.insert []/\ve l g
theorem ZS(g:mm)(c:Array _)(t:au):¬mQ g (some (.cells c t)):=by
 rintro⟨es,clock,l,h,_⟩;cases h
theorem Hn{es:Array _}(F:Fit PR 3 (dA (H:=Unit) PR 3) es clock):zS es.toList:=by
 intro x D;have⟨y,I⟩:=F.reads x D;have:∃K,keyOf PR 3 x.key=some K:=by
  have⟨K,U,_⟩:=ao.1 I;simp_all
 have⟨K,Y⟩:=this;generalize R:x.key=A at Y;unfold keyOf at Y;cases A<;>simp[mapKey]at Y;simp_all
theorem Ho:∀K (l:List Nat),l.Nodup->(∀x∈l,x<K)->l.length<=K
 |0,l,_,h=>by
  cases l with
  |nil=>exact aH _
  |cons a l=>have:=h a (by simp);omega
 |K+1,l,H,h=>by
  by_cases hk:K∈l
  ·have I:=Ho K _ (H.erase K) (fun x Y=>by
    have D:=(List.Nodup.mem_erase_iff H).1 Y;have R:=h x D.2;omega)
   simp_all
  ·have:=Ho K l H (fun x Y=>by
    have R:=h x Y;have:x≠K:=fun e=>hk (e▸Y);omega)
   omega
def Jx:Lit->Nat
 |.int _ a=>a.toNat
 |_=>0
theorem adb{l:List _}{g:mm}(h:ve l g)(B:l.Pairwise fun p q=>p.1≠q.1):l.length<=KB:=by
 have Y:(l.map fun p=>Jx p.1).Nodup:=by
  show List.Pairwise _ _
  rw[List.pairwise_map];refine B.imp_of_mem fun{p q} H U K e=>K ?_;have⟨R,_,Y⟩:=h.keys p H;have⟨F,_,D⟩:=h.keys q U;rw[Y,D]at e;simp[Jx]at e;simp_all
 have D:=Ho KB _ Y (fun x C=>by
  obtain⟨p,H,rfl⟩:=d_.1 C;have⟨R,I,A⟩:=h.keys p H;rw[A];simpa[Jx]using I)
 simp_all
theorem ade:ve [] (fun _=>none):=⟨fun e=>rfl,fun e=>rfl,fun p Y=>by cases Y⟩
theorem TC(e:Nat):WideAt.IsKeyLit (.int .i64 e):=by first|trivial
theorem adf{l:List _}{g:mm}(h:ve l g){e d:Nat}(B:e<KB):ve (ChangeMaps.putKey (.int .i64 e) (.lit (.int .i64 d)) l) (fun x=>if x=e then some d else g x):=by
 have H:IsMap _:=⟨l,rfl⟩;refine⟨fun x=>?_,fun x=>?_,fun p D=>?_⟩
 ·rw[<-dM];by_cases Y:x=e
  ·subst Y;rw[Go.Maps.has_put_same H (TC x),if_pos rfl];rfl
  ·rw[Go.Maps.has_put_other (by intro y;cases y;omega),if_neg Y];exact h.has x
 ·rw[<-dM];by_cases Y:x=e
  ·subst Y;rw[Go.Maps.atKey_put_same H (TC x),if_pos rfl];rfl
  ·rw[Go.Maps.atKey_put_other (by intro y;cases y;omega),if_neg Y];exact h.at_ x
 ·rcases ChangeMaps.mem_insert_iff.1 D with rfl|K
  ·exact⟨e,B,rfl⟩
  ·exact h.keys p (List.mem_filter.1 K).1
theorem z_{e:Nat}(h:e<1000000):(Lit.int .i64 e).wf=true:=by
 simp[Lit.wf,IntKind.min,IntKind.bits,IntKind.signed];omega
theorem adg{g:mm}{es:Array _}{e d:Nat}(h:mQ g (some (.map es clock)))(V:e<KB)(hd:d<1000000):mQ (fun x=>if x=e then some d else g x) (some (xw es clock e d)):=by
 have⟨M,A,l,N,F,C,R⟩:=h;cases N
 let w:={(default:ae)with heap:=#[.map es clock]}
 have B:w.heap[0]?=some _:=rfl;have own:w.ownsMap PR 3 _ 0 _ (.map l):=⟨es,clock,B,F,aH _,by rw[C]⟩;have⟨l1,L,P⟩:=own.tidy Bc;cases L;have D:es.size<maxLen:=by
  have Q:=adb R P;have S:l.length=es.size:=by rw[C,length_sorted];simp
  have T:KB<maxLen:=by decide
  omega
 obtain⟨w',K,I,_⟩:=own.store Bc u166 D (Go.Maps.keyOf_int_mk u3 (z_ (e:=e) (by have:KB=2000:=rfl;omega))) (akk u3 (z_ hd));rw[Rh (Hn F) B]at K;cases K;have⟨iI,Y,H,J,_,O⟩:=I;have U:some (xw es clock e d)=some (Obj.map iI Y):=H.symm.trans H▸(by
  have:(w.heap.setIfInBounds 0 (xw es clock e d))[0]?=some _:=rfl;simp_all)
 rw[U];refine⟨iI,Y,_,rfl,J,(DataW.map.inj O),adf R V⟩
theorem ae_(Mp:Nat)(g:mm)(L:List (Nat×Nat))(V:∀h∈L,h.1<KB/\h.2<1000000):IV Mp L (fun i o=>mQ ((L.take i).foldl better g) o):=by
 intro i o E J;have M:L[i]?=some (L.getD i (0,0)):=by simp_all
 generalize Z:L.getD i (0,0)=h at M;have⟨e,d⟩:=h;obtain⟨S,hd⟩:=V _ (ec M);have K:(L.take (i+1)).foldl better g=better ((L.take i).foldl better g) (e,d):=by rw[List.take_add_one,M,List.foldl_append];rfl
 simp only[K];generalize(L.take i).foldl better g=γ at J⊢;have I:=J;obtain⟨es,clock,l,rfl,F,T,R⟩:=J;have hk:=Hn F;refine⟨(((γ e).getD 0:Nat):Int),(γ e).isSome,some (xw es clock (e:Int) (d:Int)),fun w Y=>?_,fun w Y=>ae9 hk Y,fun w Y=>?_,fun w Y=>agL hk Y,?_⟩
 ·have own:w.ownsMap PR 3 _ Mp es.size (.map l):=⟨es,clock,Y,F,aH _,by rw[T]⟩;obtain⟨v,G,U,X⟩:=own.look_ok Bc u166 (SP w) (akk (H:=Unit) u3 (z_ (e:=0) (by omega))) (Go.Maps.keyOf_int_mk u3 (z_ (e:=e) (by have:KB=2000:=rfl;omega)));obtain⟨c,rfl,Q,_⟩:=plainElem_int_inv u3 X;have N:=congrArg Prod.fst Q;rw[R.at_ e]at N;have O:c=(((γ e).getD 0:Nat):Int):=by simp_all
  rw[U,O,R.has e]
 ·refine⟨(),_,Rh hk Y,⟨fun a P=>?_,by simp,rfl,.refl _,rfl⟩,?_⟩
  ·rw[cn fun y=>P y.symm]
  ·rw[dH (bk.1 Y).1]
 ·have Y:=adg I S hd;cases C:γ e with
  |none=>
   have D:better γ (e,d)=fun x=>if x=e then some d else γ x:=by
    funext x;unfold better;simp_all
   rw[D];exact Y
  |some c=>
   by_cases A:d<c
   ·have D:better γ (e,d)=fun x=>if x=e then some d else γ x:=by
     funext x;unfold better;by_cases B:x=e
     ·subst B;simp[C];omega
     ·simp[B]
    rw[D,if_pos (by simpa using A)];exact Y
   ·have D:better γ (e,d)=γ:=by
     funext x;unfold better;by_cases B:x=e
     ·subst B;simp[C];omega
     ·simp[B]
    rw[D,if_neg (by simpa using A)];exact I
end Ph
namespace Ph
open Conc Ren
open Lock (Word PC)
section
variable{P:Program}{main:Bool}{U:Nat->Nat->Prop}{D:(Nat->Prop)->(Nat->Prop)->ah->List ah->ae->Prop}{S X:Nat->Prop}{f:ah}{l:List ah}{w:ae}
theorem Tr.one(h:∀w2,gR U S w w2->∃f1 l1 w1 es S1 X1,az P main (G f l) w2=.go (G f1 l1) w1 es/\Did S X w2 w1 es S1 X1/\Tr P main U D S1 X1 f1 l1 w1):Tr P main U D S X f l w:=by
 refine .step (fun w2 hr=>?_) fun w2 f1 l1 w1 es S1 X1 hr e hd=>?_
 ·have⟨f1,l1,w1,es,S1,X1,e,hd,_⟩:=h w2 hr;exact⟨f1,l1,w1,es,S1,X1,e,hd⟩
 ·have⟨R,A,B,iI,K,H,e',Y,I⟩:=h w2 hr;rw[e]at e';cases e';obtain⟨rfl,rfl⟩:=hd.same Y;exact I
theorem Tr.pure:∀n {f:ah} {l:List _} {w:ae},(∀w2,gR U S w w2->Tr P main U D S X (gu P n f l).1 (gu P n f l).2 w2)->Tr P main U D S X f l w
 |0,f,l,w,h=>h w (.refl _ _ _)
 |n+1,f,l,w,h=>by
  unfold gu at h;split at h
  ·rename_i f1 l1 e;exact Tr.one fun w2 hr=>⟨_,_,w2,#[],S,X,sD e,(jd (U:=U) S X w2).toDid,Tr.pure n fun w3 Y=>h w3 (hr.trans Y)⟩
  ·exact h w (.refl _ _ _)
end
theorem gd.pure{P:Program}{Q:QT}(n:Nat)(k:∀w',Kept (fun _=>False) (fun _=>False) w w'->gd P Q Z (gu P n f l).1 (gu P n f l).2 w'):gd P Q Z f l w:=by
 refine cL (U:=fun _ _=>False) (S:=fun _=>False) (X:=fun _=>False) (Done:=fun S X f' l' w'=>X=(fun _=>False)/\f'=(gu P n f l).1/\l'=(gu P n f l).2) (Tr.pure n fun w2 hr=>.stop ⟨rfl,rfl,rfl⟩) (fun a h=>h.elim) fun S' X' f' l' w' hd hk=>?_;obtain⟨rfl,rfl,rfl⟩:=hd;exact k w' hk
structure lu(Z:Loc->Prop)(Fd Mp Wg Gv By Rf Sg Fp k q st n:Nat)(X P:e_)(b:Option Addr)(gq:List Nat)(w:ae):Prop where
 cin:xt Fd By Rf Sg Fp k q st X P w
 fd:w.heap[Fd]?=some (.cells #[.int .i32 0,.int .u32 0,.map (some Mp)] 191)
 mp:w.heap[Mp]?=some (.map #[] 0)
 wg:w.heap[Wg]?=some (.cells #[.int .u64 0,.int .u32 0] 212)
 gv:w.heap[Gv]?=some (.cells (ox [] n) 214)
 num:∀i x:Nat,gq[i]?=some x->∃Nb o,b=some ⟨Nb,o,none⟩/\w.cell? ⟨Nb,o+i,none⟩=some (.int .i64 (x:Int))/\Nb≠Mp/\Nb≠Gv/\Nb≠Fd/\Nb≠Wg/\iR Z Nb
 off:∀a,a=Fd\/a=Mp\/a=Wg\/a=Gv\/Kp By Rf Sg Fp a->iR Z a
 fm:Fd≠Mp
 fw:Fd≠Wg
 fg:Fd≠Gv
 mw:Mp≠Wg
 mg:Mp≠Gv
 E6:Gv≠Wg
 kp:∀a,Kp By Rf Sg Fp a->a≠Fd/\a≠Mp/\a≠Wg/\a≠Gv
 n0:0<n
 n8:n<=8
 len:gq.length<1000000
 hX:X.size<=200
 hP:P.size<=30
 hk:k<=6
 ga:st<=200
 ok:∀x∈gq,x *st<=X.size/\x<=100000
def iS(Fd Mp Wg:Nat)(X P:e_)(k st:Nat):Env where
 Fd:=Fd
 Mp:=Mp
 Wg:=Wg
 tF:=191
 tW:=212
 zc:=EX
 Γ:=mm
 upd g x:=(kW X P k st x).foldl better g
 mz:=mQ
def kE(Z:Loc->Prop)(Mp Gv B:Nat)(a:Nat):=a<B/\a≠Mp/\a≠Gv/\iR Z a
theorem j0{a:Nat}{o:Obj}(h:w.heap[a]?=some o):a<w.heap.size:=(bk.1 h).1
section
variable{Z:Loc->Prop}{Fd Mp Wg Gv By Rf Sg Fp k q st n:Nat}{X P:e_}{b:Option Addr}{gq:List Nat}{w:ae}
theorem lu.Jy(h:lu Z Fd Mp Wg Gv By Rf Sg Fp k q st n X P b gq w){a:Nat}(Y:Kp By Rf Sg Fp a):kE Z Mp Gv w.heap.size a:=by
 have⟨D,K,R,H⟩:=h.kp a Y;refine⟨?_,K,H,h.off a (.inr (.inr (.inr (.inr Y))))⟩;rcases Y with rfl|rfl|rfl|rfl
 ·exact j0 h.cin.b
 ·exact j0 h.cin.r
 ·exact j0 h.cin.s
 ·exact j0 h.cin.f
theorem lu.yL(h:lu Z Fd Mp Wg Gv By Rf Sg Fp k q st n X P b gq w):kE Z Mp Gv w.heap.size Fd:=⟨j0 h.fd,h.fm,h.fg,h.off Fd (.inl rfl)⟩
theorem lu.yM(h:lu Z Fd Mp Wg Gv By Rf Sg Fp k q st n X P b gq w):kE Z Mp Gv w.heap.size Wg:=⟨j0 h.wg,fun e=>h.mw e.symm,fun e=>h.E6 e.symm,h.off Wg (.inr (.inr (.inl rfl)))⟩
theorem wv{a:Nat}(Y:a≠Fd)(H:a≠Wg)(i:Nat):¬(iS Fd Mp Wg X P k st).U a i:=fun y=>y.1.elim Y H
theorem lu.same(h:lu Z Fd Mp Wg Gv By Rf Sg Fp k q st n X P b gq w){a:Nat}(B:kE Z Mp Gv w.heap.size a)(Y:a≠Fd)(H:a≠Wg)(C:si (iS Fd Mp Wg X P k st) (kE Z Mp Gv w.heap.size) w w2):w2.heap[a]?=w.heap[a]?:=
 (C.kept a B).eq (wv Y H)
theorem lu.TE(h:lu Z Fd Mp Wg Gv By Rf Sg Fp k q st n X P b gq w)(H:si (iS Fd Mp Wg X P k st) (kE Z Mp Gv w.heap.size) w w2):xt Fd By Rf Sg Fp k q st X P w2:=by
 have s:=fun a Y=>h.same (h.Jy Y) (h.kp a Y).1 (h.kp a Y).2.2.1 H;exact⟨(s _ (.inl rfl)).trans h.cin.b,(s _ (.inr (.inl rfl))).trans h.cin.r,(s _ (.inr (.inr (.inl rfl)))).trans h.cin.s,(s _ (.inr (.inr (.inr rfl)))).trans h.cin.f,br h.cin.low H.grow⟩
theorem lu.known(h:lu Z Fd Mp Wg Gv By Rf Sg Fp k q st n X P b gq w):(iS Fd Mp Wg X P k st).wu (kE Z Mp Gv w.heap.size) (si (iS Fd Mp Wg X P k st) (kE Z Mp Gv w.heap.size) w):=
 ⟨fun S w1 w2 Y hF hr=>gR.trans hF ⟨fun a K=>hr.kept a (Y a K),hr.grow,hr.env⟩,fun w1 hF=>Env.uX.rely ⟨_,_,_,h.fd,rfl⟩ h.yL hF,fun w1 hF=>Env.oX.rely ⟨_,_,_,h.wg,rfl⟩ h.yM hF⟩
theorem Oq(t p:e_)(k:Nat):∀n,∀h∈kR t p k n,h.2<=k
 |0,h,Y=>by simp[kR]at Y
 |n+1,h,Y=>by
  have H:=Oq t p k n;rw[kR]at Y;split at Y
  ·rcases dZ.1 Y with K|K
   ·exact H h K
   ·simp_all
  ·exact H h Y
theorem Pk{x:Nat}(hX:X.size<=200)(hP:P.size<=30)(hk:k<=6)(ga:st<=200)(B:x *st<=X.size/\x<=100000):(kW X P k st x).length<=1000/\∀h∈kW X P k st x,h.1<KB/\h.2<1000000:=by
 have U:(jl X P k st x).size<=300:=by unfold jl;rw[dK];omega
 have A:(kW X P k st x).length=(k_ _ P k).length:=xO _ _ _;have D:(k_ _ P k).length<=(jl X P k st x).size:=BU _ _ _ _;refine⟨by omega,fun h K=>?_⟩;unfold kW kA at K;rw[eg,List.drop_length,List.append_nil]at K;obtain⟨H,Y,rfl⟩:=d_.1 K;have R:=Gd _ _ _ _ H Y;have I:=Oq _ _ _ _ H Y;have:KB=2000:=rfl;omega
theorem lu.ajy(h:lu Z Fd Mp Wg Gv By Rf Sg Fp k q st n X P b gq w)(ch:Nat):Env.GF (iS Fd Mp Wg X P k st) ch (fun x=>x *st<=X.size/\x<=100000) (kh By Rf Sg Fp) (kE Z Mp Gv w.heap.size) (si (iS Fd Mp Wg X P k st) (kE Z Mp Gv w.heap.size) w):=by
 have Y:∀w2,si (iS Fd Mp Wg X P k st) (kE Z Mp Gv w.heap.size) w w2->(∀b,kE Z Mp Gv w.heap.size b->b<w2.heap.size)/\(iS Fd Mp Wg X P k st).Mp<w2.heap.size:=fun w2 J=>⟨fun b H=>aB H.1 J.grow,aB (j0 h.mp) J.grow⟩;have D:¬kE Z Mp Gv w.heap.size (iS Fd Mp Wg X P k st).Mp:=fun y=>y.2.1 rfl;have R:∀i,¬(iS Fd Mp Wg X P k st).U (iS Fd Mp Wg X P k st).Mp i:=wv (fun e=>h.fm e.symm) h.mw;refine Env.ZL R h.known (fun hF L N A=>gR.trans hF (Q9 _ L A N)) (fun hF=>gR.trans hF ⟨fun a _=>.inl rfl,aH _,⟨_,rfl⟩⟩) (Env.ae3 _ X P k st) h.yL h.yM (h.Jy (.inr (.inr (.inr rfl)))) (wv (h.kp Fp (.inr (.inr (.inr rfl)))).1 (h.kp Fp (.inr (.inr (.inr rfl)))).2.2.1 0) (fun w2 hF=>?_) D ?_ ?_
 ·rw[aK _ Fp 0 _ _ _ (h.TE hF).f];rfl
 ·exact ae5 X P k q st h.hX h.hP h.hk h.ga (fun x I=>I) h.known (fun w2 hF=>h.TE hF) (fun b H=>h.Jy H) (fun b H=>wv (h.kp b H).1 (h.kp b H).2.2.1) Y
 ·have C:∀(γ:mm) (x:Nat),(x *st<=X.size/\x<=100000)->∃M:Nat->Option Obj->Prop,(∀o,mQ γ o->M 0 o)/\(∀o,M (kW X P k st x).length o->mQ ((kW X P k st x).foldl better γ) o)/\IV Mp (kW X P k st x) M:=fun γ x I=>
   ⟨fun i o=>mQ (((kW X P k st x).take i).foldl better γ) o,(fun o B=>by show mQ (((kW X P k st x).take 0).foldl better γ) o;rw[List.take_zero];exact B),(fun o B=>by
    have F:mQ (((kW X P k st x).take (kW X P k st x).length).foldl better γ) o:=B;rw[eg]at F;exact F),ae_ Mp γ _ (Pk h.hX h.hP h.hk h.ga I).2⟩
  have K:w.cell? ⟨Fd,2,none⟩=some (.map (some Mp)):=by rw[aK _ Fd 2 _ _ _ h.fd];rfl
  exact agK X P k st h.known Y h.yL h.yM D (fun w2 hF=>qh (U:=(iS Fd Mp Wg X P k st).U) (S:=kE Z Mp Gv w.heap.size) h.yL (fun y=>by have:=y.2;omega) K hF) R h.fm (fun x I=>(Pk h.hX h.hP h.hk h.ga I).1) (fun γ c t=>ZS γ c t) C
end
end Ph
namespace Ph
open Conc Ren
open Lock (Word PC)
open ConcN (sumTo upd sumTo_upd upd_ne upd_same sumTo_le)
theorem Pm{E:Env}{b:Nat}{a:Addr}(h:¬E.U a.block a.off):mL E RO b XX (.cell a)=mC E RO b XX a.block:=by
 simp[mL];simp_all
theorem abt{E:Env}{b:Nat}{a:Addr}(h:E.U a.block a.off):mL E RO b XX (.cell a)=.at:=by
 simp[mL];simp_all
def DT(E:Env)(gT:E.Γ):iE E:=⟨0,[],fun _=>.no,.st [],.run,Word.zero,0,0,0,0,gT,[],none⟩
theorem Hp(n:Nat):sumTo n (fun _=>0)=0:=by
 induction n with
 |zero=>rfl
 |succ n Y=>simp[sumTo,Y]
theorem ci0{E:Env}{J:iA}{gT:E.Γ}(H:0<J.n):CI J gT (DT E gT):=by
 have Y:Lock.Inv (fun _=>PC.out) J.n Word.zero 0:=by
  refine⟨fun i _=>trivial,by rw[mZ _ rfl];rfl,fun _=>⟨by rw[mZ Lock.jw rfl,mZ Lock.iW rfl,mZ Lock.jP rfl];rfl,by rw[mZ Lock.jo rfl,mZ Lock.jP rfl];rfl,mZ _ rfl _,mZ _ rfl _,fun _ _ h=>absurd h (ek 0)⟩,fun h=>by cases h⟩
 refine⟨Nat.zero_le _,rfl,List.nodup_nil,fun _ _=>rfl,fun k hk=>absurd hk (bL _),Y,nofun,nofun,nofun,⟨nofun,nofun,nofun⟩,fun y=>?_,rfl,?_,?_,fun k hk=>hk.elim,⟨rfl,H⟩,nofun,nofun,nofun,nofun⟩
 ·show 0+sumTo J.n (fun _=>0)=(J.gq.take 0).count y
  rw[Hp];simp
 ·show 0+sumTo J.n (fun _=>0)=0+0
  rw[Hp]
 ·show mU (.st []) 0 0 0 (sumTo J.n fun _=>0) (sumTo J.n fun _=>0)
  rw[Hp];exact .inl ⟨rfl,rfl,rfl,rfl,id,nofun⟩
theorem aih{E:Env}{J:iA}{gT:E.Γ}:Calm J (DT E gT):=⟨nofun,nofun,nofun,nofun⟩
theorem YA(g:mm)(Y H:Nat×Nat):better (better g Y) H=better (better g H) Y:=by
 funext e;unfold better;by_cases K:e=Y.1<;>by_cases R:e=H.1<;>simp[K]<;>(try rfl)
 ·subst K;by_cases D:Y.1=H.1
  ·rw[if_pos D,if_pos D];cases g _ with
   |none=>simp;omega
   |some d=>simp;omega
  ·omega
 simp_all
theorem Mo(g:mm):∀(L:List _) h,L.foldl better (better g h)=better (L.foldl better g) h
 |[],h=>rfl
 |a::L,h=>by
  rw[cx,cx,YA g h a];exact Mo _ L h
theorem Ot(g:mm):∀(H Y:List _),Y.foldl better (H.foldl better g)=H.foldl better (Y.foldl better g)
 |[],Y=>rfl
 |a::H,Y=>by
  rw[cx,cx,Ot _ H Y,Mo g Y a]
theorem ZT{f:mm->Nat->mm}(B:∀g x y,f (f g x) y=f (f g y) x)(h:l1.Perm l2):∀g,l1.foldl f g=l2.foldl f g:=by
 induction h with
 |nil=>exact fun _=>rfl
 |cons x _ H=>exact fun g=>H _
 |swap x y l=>exact fun g=>by simp_all
 |trans _ _ Y K=>exact fun g=>(Y g).trans (K g)
def qo(X P:e_)(k st:Nat)(gq:List Nat):=gq.foldl (fun g x=>(kW X P k st x).foldl better g) (fun _=>none)
section
variable{Z:Loc->Prop}{Fd Mp Wg Gv By Rf Sg Fp k q st n:Nat}{X P:e_}{b:Option Addr}{gq:List Nat}{w:ae}
noncomputable def TF (Z:Loc->Prop) (Fd Mp Wg Gv By Rf Sg Fp k st n:Nat) (X P:e_) (gq:List Nat) (w:ae) (c:ah) (cs:List ah) (b:Nat):gy where
 P:=PR
 E:=iS Fd Mp Wg X P k st
 J:=⟨n,gq⟩
 b:=b
 A ch:=Env.AtRecv (iS Fd Mp Wg X P k st) ch (kh By Rf Sg Fp) (kE Z Mp Gv w.heap.size) (si (iS Fd Mp Wg X P k st) (kE Z Mp Gv w.heap.size) w)
 kq:=TA (iS Fd Mp Wg X P k st) (kE Z Mp Gv w.heap.size) w (kh By Rf Sg Fp)
 Fin:=TB (iS Fd Mp Wg X P k st) (kE Z Mp Gv w.heap.size) w c cs
 RO:=kE Z Mp Gv w.heap.size
 jb l:=Z l\/ry (iS Fd Mp Wg X P k st) l
 ok x:=x *st<=X.size/\x<=100000
 gT:=fun _=>none
 w0:=w
theorem lu.ajz(h:lu Z Fd Mp Wg Gv By Rf Sg Fp k q st n X P b gq w)(c:ah)(cs:List _)(I:Nat)(B:0<I):(TF Z Fd Mp Wg Gv By Rf Sg Fp k st n X P gq w c cs I).Laws where
 n0:=h.n0
 n8:=h.n8
 b0:=B
 Kx:=h.ok
 fw:=h.fw
 mf:=fun e=>h.fm e.symm
 mw:=h.mw
 rf:=h.yL
 rw:=h.yM
 rm:=fun y=>y.2.1 rfl
 Ky:=fun l D=>.inr D
 Jc:=fun Y=>Env.Yt Y
 Jd:=fun Y w2=>Env.abl Y
 Js:=fun Y hr R K=>Env.Yu h.known (h.ajy _) Y hr R K
 Sy:=fun Y hr K=>Env.Yv h.known Y hr _ K
 Eg:=fun{ch g w2} H=>by
  obtain⟨rfl,hF⟩:=H;exact Env.aeV h.known ⟨fun _ y=>y,fun y=>y.2.1 rfl,id,h.yL,h.yM,fun _ _ y=>y⟩ hF
theorem lu.dl(h:lu Z Fd Mp Wg Gv By Rf Sg Fp k q st n X P b gq w):Dl (iS Fd Mp Wg X P k st) (kE Z Mp Gv w.heap.size) w Gv ⟨n,gq⟩ b:=by
 refine⟨h.n0,h.n8,h.len,wv (fun e=>h.fg e.symm) h.E6,h.E6,fun y=>y.2.2.1 rfl,h.yM,⟨_,_,_,h.wg,rfl⟩,fun a i B=>?_,fun i x C=>?_⟩
 ·rcases B.1 with e|e
  ·rw[e];exact j0 h.fd
  ·rw[e];exact j0 h.wg
 ·have⟨Nb,o,U,Y,R,I,H,D,A⟩:=h.num i x C;have K:Nb<w.heap.size:=bh fun y=>by
   simp[aJ,a_ y]at Y
  have kG:kE Z Mp Gv _ Nb:=⟨K,R,I,A⟩;refine⟨Nb,o,U,kG,wv H D _,fun w2 hF=>?_⟩;simp[aJ]at Y⊢;rw[h.same kG H D hF];exact Y
theorem lu.mu0(h:lu Z Fd Mp Wg Gv By Rf Sg Fp k q st n X P b gq w):(iS Fd Mp Wg X P k st).MuAt w Word.zero 0:=by
 exact h.fd
theorem lu.E1(h:lu Z Fd Mp Wg Gv By Rf Sg Fp k q st n X P b gq w):(iS Fd Mp Wg X P k st).WgAt w 0 0 0:=by
 exact h.wg
theorem lu.phase(h:lu Z Fd Mp Wg Gv By Rf Sg Fp k q st n X P b gq w){Qq:QT}{c:ah}
  (hf:kt 137 55 lG (sA (oe (qM (iS Fd Mp Wg X P k st) ⟨n,gq⟩ b cap (kh By Rf Sg Fp) Gv) n 0)) f)(UJ:f.tmps.getD 18 ai=.bool (decide (0<n)))
  (kk:∀w',gR (iS Fd Mp Wg X P k st).U (kE Z Mp Gv w.heap.size) w w'->mQ (qo X P k st gq) (w'.heap[Mp]?)->(iS Fd Mp Wg X P k st).MuAt w' Word.zero 0->w'.tape=w.tape->w'.output=w.output->Mp<w'.heap.size->gd PR Qq (fun l=>Z l\/ry (iS Fd Mp Wg X P k st) l) (c.finish unit) cs w'):
  gd PR Qq Z f (c::cs) w:=by
 rintro m t ⟨gs,sl,qq,rfl,H⟩;have B:0<gs.size:=(bk.1 H.g0).1;have hQ:=h.ajz c cs gs.size B
 let R:=TF Z Fd Mp Wg Gv By Rf Sg Fp k st n X P gq w c cs gs.size
 let I:Nat->Prop:=fun a=>kE Z Mp Gv w.heap.size a\/a=Gv
 let A:Nat->Prop:=fun a=>a=Gv
 have hG:Gv<w.heap.size:=j0 h.gv;have hDW:DW (iS Fd Mp Wg X P k st) (kE Z Mp Gv w.heap.size) w Gv n [] [] I A w:=
  ⟨fun a Y=>.inl Y,fun a Y e=>Y.2.2.1 e,.inr rfl,rfl,h.gv,dv _ _ _,fun a Y=>Y.elim (fun y=>y.1) fun e=>e▸hG,nofun⟩
 have ga:(⟨n,gq⟩:iA).ky []=.st []:=by unfold iA.ky;rw[if_pos (show([]:List Nat).length<n from h.n0)]
 have j:∀fu,Tz PR true (iS Fd Mp Wg X P k st).U (R.DS fu (.st [])) I A (G f (c::cs)) w:=by
  intro fu;have:=aie (E:=iS Fd Mp Wg X P k st) (cap:=cap) (work:=kh By Rf Sg Fp) (c:=c) (cs:=cs) h.dl n [] (by simp) fu I A f w hf UJ hDW;rw[ga]at this;exact this
 have p:∀l,R.cls (fun _=>⟨I,A,G f (c::cs),w⟩) 0 [] l≠.no->¬Z l:=by
  have hU:∀l,ry (iS Fd Mp Wg X P k st) l->¬Z l:=by
   intro l K;cases l with
   |cell a=>
    rcases K.1 with e|e
    ·exact h.off Fd (.inl rfl) _ e
    ·exact h.off Wg (.inr (.inr (.inl rfl))) _ e
   |_=>exact K.elim
  have o:∀a,mC (iS Fd Mp Wg X P k st) (kE Z Mp Gv w.heap.size) gs.size (gy.n_ (fun _=>⟨I,A,G f (c::cs),w⟩) 0 []) a≠.no->iR Z a:=by
   intro a Y;unfold mC at Y;split at Y
   ·rename_i y;exact y.2.2.2
   ·split at Y
    ·rename_i y;rw[show a=Mp from y];exact h.off Mp (.inr (.inl rfl))
    ·split at Y
     ·rename_i y;have⟨i,y⟩:=y;rcases y with⟨_,y⟩|⟨_,y⟩
      ·rw[show a=Gv from y];exact h.off Gv (.inr (.inr (.inr (.inl rfl))))
      ·cases y
     ·exact absurd rfl Y
  intro l K;cases l with
  |cell a=>
   by_cases hu:(iS Fd Mp Wg X P k st).U a.block a.off
   ·exact hU (.cell a) hu
   ·refine o _ (fun e=>K ?_) (.cell a) rfl;exact(Pm hu).trans e
  |obj a=>exact o a K (.obj a) rfl
  |output=>exact absurd rfl K
  |goroutines=>exact absurd rfl K
  |mark m=>exact absurd rfl K
 have v:∀l g,R.cls (fun _=>⟨I,A,G f (c::cs),w⟩) 0 [] l=.own g->g=0:=by
  have o:∀a g,mC (iS Fd Mp Wg X P k st) (kE Z Mp Gv w.heap.size) gs.size (gy.n_ (fun _=>⟨I,A,G f (c::cs),w⟩) 0 []) a=.own g->g=0:=by
   intro a g Y;unfold mC at Y;split at Y
   ·cases Y
   ·split at Y
    ·cases Y
    ·split at Y
     ·rename_i y;have hs:=Classical.choose_spec y;have:Classical.choose y=0:=by
       rcases hs with⟨z,_⟩|⟨z,_⟩
       ·omega
       ·exact z
      rw[this]at Y;cases Y;rfl
     ·cases Y
  intro l g K;cases l with
  |cell a=>
   by_cases hu:(iS Fd Mp Wg X P k st).U a.block a.off
   ·have d:=(abt hu).symm.trans K;cases d
   ·exact o _ _ ((Pm hu).symm.trans K)
  |obj a=>exact o a g K
  |output=>cases K
  |goroutines=>cases K
  |mark m=>cases K
 have F:∀a,NoRelease a t:=fun a i M=>by
  have⟨op,ho,he⟩:=bj.1 M;exact H.nr op (bp ho) a he
 have V:∀op∈t,Seen w.heap.size op:=fun op gh=>⟨H.past.seen op gh,H.nr op gh⟩;have hMI:R.MI (DT R.E R.gT) (fun _=>⟨I,A,G f (c::cs),w⟩) (fun _=>mu R.J (DT R.E R.gT)) gs w t qq (fun _=>none):=by
  refine⟨rfl,⟨H.g0,j _⟩,fun kx hk=>absurd hk (bL _),fun i g M _ hg=>H.rV.old i g M hg,fun _ _=>aH _,fun _ _=>dv _ _ _,?_,?_,?_,H.past.hears,fun kx hk=>absurd hk (bL _),fun i M=>H.rV.above i M,fun kx hk=>absurd hk (bL _),fun _ _=>rfl,V⟩
  ·refine⟨fun i i' M AJ yX=>?_,fun i _ a Y=>Y.elim (fun y=>y.1) fun e=>e▸hG,fun i _ a Y=>Y,fun i _ a Y e=>Y.2.2.1 e,fun i _ a e=>.inr e,fun i _ Y=>?_,fun a Y=>Y.1,j0 h.mp,nofun⟩
   ·have d:i=0:=Nat.le_zero.1 M;have h2:i'=0:=Nat.le_zero.1 AJ;exact absurd (d.trans h2.symm) yX
   ·rcases Y with y|y
    ·exact absurd rfl y.2.1
    ·exact absurd y h.mg
  ·refine⟨h.mu0,h.E1,fun _=>?_,fun kx hk=>absurd hk (bL _),fun kx hk=>absurd hk (bL _),rfl,rfl⟩;rw[show w.heap[R.E.Mp]?=some (.map #[] 0)from h.mp];exact⟨#[],0,[],rfl,⟨by simp,Go.MapKept.stamped_empty 0,by simp⟩,rfl,ade⟩
  ·exact PT.init H.past B p v Pf (fun l K=>.inr (Qi K)) (fun l K=>.inl K) ⟨F _,F _⟩
 have⟨N,m',t',ajA,r⟩:=gy.phase (sl:=sl) hQ (ci0 h.n0) aih hMI;obtain⟨ku,w',sl',q',S',X',g',dn,rfl,hg',hF,hL,hP,s,S,KD,hwg,W,u,TG,_,C,hsn⟩:=r;obtain⟨np,f',l',rfl,ajB,D,_,_⟩:=hF;have Q:mQ (qo X P k st gq) (w'.heap[Mp]?):=by
  have e:dn.foldl (fun g x=>(kW X P k st x).foldl better g) (fun _=>none)=qo X P k st gq:=ZT (fun g x y=>Ot g _ _) S _;rw[<-e];exact s
 have O:pV (fun l=>Z l\/ry (iS Fd Mp Wg X P k st) l) w'.heap.size:=by
  intro l K;rcases K with y|y
  ·exact⟨(H.nE l y).1,Loc.low_mono D.grow (H.nE l y).2⟩
  ·cases l with
   |cell a=>
    refine⟨rfl,?_⟩;show a.block<_
    rcases y.1 with e|e
    ·rw[e];exact aB (j0 h.fd) D.grow
    ·rw[e];exact aB (j0 h.wg) D.grow
   |_=>exact y.elim
 have L:gd PR Qq (fun l=>Z l\/ry (iS Fd Mp Wg X P k st) l) f' l' w':=by
  refine gd.pure np fun w2 hk=>?_;rw[ajB];have T:gR (iS Fd Mp Wg X P k st).U (kE Z Mp Gv w.heap.size) w w2:=gR.trans D ⟨fun a Y=>.inl (hk.kept a (aB Y.1 D.grow) id),hk.grow,hk.env⟩;refine kk w2 T ?_ ?_ (hk.tape.trans W) (hk.output.trans u) (aB C hk.grow)
  ·rw[hk.kept Mp C id];exact Q
  ·have d:w'.heap[(iS Fd Mp Wg X P k st).Fd]?=_:=KD;have h2:w2.heap[Fd]?=w'.heap[Fd]?:=hk.kept Fd (j0 d) id;exact h2.trans d
 obtain⟨N2,m2,t2,Z2,f2,l2,w2,p9,hA2,hQ2⟩:=L _ t' ⟨ku,sl',q',rfl,hg',hL,hP,(fun a y=>y.elim),O,fun op gh=>(hsn op gh).2⟩;exact⟨N+N2,m2,t2,Z2,f2,l2,w2,by rw[Go.Proofs.YtdcjnhipenbcfaaGreatDoor.Ren.runNT_add PR N N2 _ _ _ _ ajA];exact p9,hA2,hQ2⟩
end
end Ph
namespace Ph
open Conc Ren
structure ir(Z:Loc->Prop)(w w':ae):Prop where
 old:∀a,a<w.heap.size->iR Z a->w'.heap[a]?=w.heap[a]?
 grow:w.heap.size<=w'.heap.size
 tape:w'.tape=w.tape
 env:nc w'.os w.os
 output:w'.output=w.output
theorem ir.trans{Z:Loc->Prop}{w w1 w2:ae}(h:ir Z w w1)(k:ir Z w1 w2):ir Z w w2:=⟨fun a Y K=>(k.old a (aB Y h.grow) K).trans (h.old a Y K),br h.grow k.grow,k.tape.trans h.tape,k.env.trans h.env,k.output.trans h.output⟩
theorem ir.of(h:Kept (fun _=>False) X' w w'):ir Z w w':=⟨fun a Y _=>h.kept a Y id,h.grow,h.tape,h.env,h.output⟩
section
variable{P:Program}{Q:QT}{Z:Loc->Prop}{f:ah}{l:List ah}{w:ae}
theorem gd.vf(k:pV Z w.heap.size->gd P Q Z f l w):gd P Q Z f l w:=by
 rintro m t ⟨gs,sl,q,rfl,Y⟩;exact k Y.nE _ t ⟨gs,sl,q,rfl,Y⟩
theorem gd.alloc{F:Nat->ah}{o:Obj}(ga:∀w2,az P true (G f l) w2=.go (G (F w2.heap.size) l) (w2.alloc o) #[])
  (k:∀B w',w.heap.size<=B->B<w'.heap.size->w'.heap[B]?=some o->iR Z B->ir Z w w'->gd P Q Z (F B) l w'):gd P Q Z f l w:=by
 refine gd.vf fun Y=>?_;refine cL (U:=fun _ _=>False) (S:=fun _=>False) (X:=fun _=>False) (Done:=fun S X f' l' w'=>∃B,w.heap.size<=B/\B<w'.heap.size/\w'.heap[B]?=some o/\f'=F B/\l'=l) (Tr.one fun w2 hr=>⟨_,_,_,_,_,_,ga w2,(GJ (U:=fun _ _=>False) o).toDid,.stop ⟨w2.heap.size,hr.grow,by simp,ck w2 o,rfl,rfl⟩⟩) (fun a h=>h.elim) fun S' X' f' l' w' hd hk=>?_;obtain⟨B,K,H,D,rfl,rfl⟩:=hd;exact k B w' K H D (Y.off K) (ir.of hk)
theorem gd.read{a:Addr}(ga:∀w2,w2.cell? a=some v->az P true (G f l) w2=.go (G f1 l) w2 #[⟨.cell a,false,false⟩])(Y:w.cell? a=some v)(B:iR Z a.block)(k:∀w',ir Z w w'->gd P Q Z f1 l w'):gd P Q Z f l w:=by
 have H:a.block<w.heap.size:=bh fun y=>by simp[aJ,a_ y]at Y
 refine cL (U:=fun _ _=>False) (S:=fun b=>b=a.block) (X:=fun _=>False) (Done:=fun S X f' l' w'=>X=(fun _=>False)/\f'=f1/\l'=l) (Tr.one fun w2 hr=>?_) (fun b h=>by simp_all) fun S' X' f' l' w' hd hk=>?_
 ·have K:w2.cell? a=some v:=by
   simp[aJ]at Y⊢;rw[(hr.kept _ rfl).eq (fun i y=>y)];exact Y
  exact⟨_,_,_,_,_,_,ga w2 K,(uf (U:=fun _ _=>False) (S:=fun b=>b=a.block) rfl id).toDid,.stop ⟨rfl,rfl,rfl⟩⟩
 ·obtain⟨rfl,rfl,rfl⟩:=hd;exact k w' (ir.of hk)
theorem gd.kU(n:Nat)(k:∀w',ir Z w w'->(∀b,b<w.heap.size->w'.heap[b]?=w.heap[b]?)->gd P Q Z (gZ P n f l).1 (gZ P n f l).2 w'):gd P Q Z f l w:=by
 have tr:∀(n:Nat) (f:ah) (l:List _) (w:ae) (D:(Nat->Prop)->(Nat->Prop)->ah->List _->ae->Prop),(∀w2,gR (fun _ _=>False) (fun _=>False) w w2->Tr P true (fun _ _=>False) D (fun _=>False) (fun _=>False) (gZ P n f l).1 (gZ P n f l).2 w2)->Tr P true (fun _ _=>False) D (fun _=>False) (fun _=>False) f l w:=by
  intro n;induction n with
  |zero=>exact fun f l w D h=>h w (.refl _ _ _)
  |succ n H=>
   intro f l w D h;unfold gZ at h;split at h
   ·exact h w (.refl _ _ _)
   ·split at h
    ·rename_i f1 l1 e;exact Tr.one fun w2 hr=>⟨_,_,w2,#[],_,_,sD e,(jd (U:=fun _ _=>False) _ _ w2).toDid,H f1 l1 w2 D fun w3 Y=>h w3 (hr.trans Y)⟩
    ·exact h w (.refl _ _ _)
 refine cL (Done:=fun S X f' l' w'=>X=(fun _=>False)/\f'=(gZ P n f l).1/\l'=(gZ P n f l).2) (tr n f l w _ fun w2 hr=>.stop ⟨rfl,rfl,rfl⟩) (fun a h=>h.elim) fun S' X' f' l' w' hd hk=>?_;obtain⟨rfl,rfl,rfl⟩:=hd;exact k w' (ir.of hk) fun b K=>hk.kept b K id
end
theorem aii{U:Nat->Nat->Prop}{X:Nat->Prop}(B:∀a,S a->a<w.heap.size/\∀l,Ef a l->Z l->∃ad:Addr,l=.cell ad/\U ad.block ad.off)(C:pV Z w.heap.size)(F:w.heap.size<=u){e:Event}(h:yN S X w u e)(M:∀a,e.loc=.cell a->¬U a.block a.off):EvL Z u e:=by
 have⟨loc,wr,A⟩:=e;rcases h with⟨a,rfl,K,R⟩|⟨a,rfl,K,R⟩|⟨m,rfl,K⟩|rfl
 ·have H:¬Z (.cell a)/\a.block<u:=by
   rcases R with⟨h,_⟩|h
   ·refine⟨fun H=>?_,aB (B _ h).1 F⟩;obtain⟨ad,e,I⟩:=(B _ h).2 (.cell a) rfl H;simp_all
   ·exact⟨C.off h.1 _ rfl,h.2⟩
  refine⟨fun x Y D=>?_,by simp,by simp,?_⟩
  ·simp[bU,cA]at Y;subst Y;simp_all
  ·exact H.2
 ·subst K;have H:¬Z (.obj a)/\a<u:=by
   rcases R with⟨h,_⟩|h
   ·refine⟨fun H=>?_,aB (B _ h).1 F⟩;obtain⟨ad,e,_⟩:=(B _ h).2 (.obj a) rfl H;cases e
   ·exact⟨C.off h.1 _ rfl,h.2⟩
  refine⟨fun x Y D=>?_,by simp,by simp,?_⟩
  ·simp[bU,cA]at Y;subst Y;simp_all
  ·simp[bU];exact H.2
 ·refine⟨fun x Y D=>?_,?_,?_,?_⟩
  ·rcases K with rfl|⟨f,rfl⟩<;>simp[bU,cA]at Y
  ·rcases K with rfl|⟨f,rfl⟩<;>simp
  ·rcases K with rfl|⟨f,rfl⟩<;>simp
  ·rcases K with rfl|⟨f,rfl⟩<;>trivial
 ·refine⟨fun x Y D=>?_,by simp,by simp,trivial⟩;simp[bU,cA]at Y;subst Y;have:=(C _ D).1;cases this
structure x9(P:Program)(Z:Loc->Prop)(U:Nat->Nat->Prop)(S:Nat->Prop)(g:ak)(w:ae)(gs:Array ak)(t:bW)(q:Nat->Nat):Prop where
 g0:gs[0]?=some g
 rV:Leavers P t gs q
 past:Past Z w.heap.size t
 held:∀a,S a->a<w.heap.size/\∀l,Ef a l->Z l->∃ad:Addr,l=.cell ad/\U ad.block ad.off
 nE:pV Z w.heap.size
 nr:∀op∈t,∀a,op.act≠.mark (.release a)
open Go.ConcN (sumTo upd sumTo_upd upd_ne upd_same)
theorem abu{P:Program}{U:Nat->Nat->Prop}{Done:(Nat->Prop)->(Nat->Prop)->ak->ae->Prop}{X:Nat->Prop}{g:ak}(h:Tz P true U Done S X g w):
  ∀(gs:Array ak) (sl:Option (Nat×Nat)) (t:bW) (q:Nat->Nat),x9 P Z U S g w gs t q->
   ∃(N:Nat) (Y:Array ak) (C:ak) (w':ae) (B:Option (Nat×Nat)) (t':bW) (q':Nat->Nat) (S' X':Nat->Prop),
    runNT P N (crowd gs w sl) t=(.next (crowd Y w' B),t')/\Done S' X' C w'/\x9 P Z U S' C w' Y t' q'/\Kept X X' w w':=by
 induction h with
 |stop hd=>exact fun gs sl t q H=>⟨0,gs,_,_,sl,t,q,_,_,rfl,hd,H,Kept.refl _ _⟩
 |@step S X g w hs ex _ ih=>
  have inner:∀(M:Nat) (gs:Array ak) (w0:ae) (sl:Option (Nat×Nat)) (t:bW) (q:Nat->Nat),sumTo gs.size q=M->gR U S w w0->x9 P Z U S g w0 gs t q->
    ∃(N:Nat) (Y:Array ak) (C:ak) (w':ae) (B:Option (Nat×Nat)) (t':bW) (q':Nat->Nat) (S' X':Nat->Prop),
     runNT P N (crowd gs w0 sl) t=(.next (crowd Y w' B),t')/\Done S' X' C w'/\x9 P Z U S' C w' Y t' q'/\Kept X X' w0 w':=by
   intro M;induction M using eo with
   |_ M JZ=>
   intro gs w0 sl t q hM hr H;have o:=H.rV;have r:=H.g0;have J0:∀x∈gs,awake x:=by
    intro x p;obtain⟨i,A,rfl⟩:=dI.1 p;rcases ej i with rfl|R
    ·have:gs[0]=g:=by simpa[bG A]using r
     rw[this];exact awake_of (.inl hs)
    ·exact awake_of ((o.old i _ R (bG A)).status.elim .inl fun x=>.inr (.inr x))
   obtain⟨i,x,d,B,A,p,ga⟩:=crowd_pick (P:=P) (w:=w0) (sl:=sl) J0 ⟨0,_,r,hs⟩;rcases ej i with rfl|R
   ·obtain rfl:x=g:=by rw[r]at A;exact(Option.some.inj A).symm
    have v:=hr.trans (zL U S w0 d);obtain⟨g1,w1,es,S1,X1,s,hd⟩:=ex (w0.at d) v;have D:=akl (P:=P) (sl:=B) (i:=0) A (s);have L:0<gs.size:=(bk.1 r).1;have K:=hd.grow;have Q:x9 P Z U S1 g1 w1 ((gs.map (woken P x g1 w1)).setIfInBounds 0 g1) (t++ei 0 x.frame.fn x.frame.place es) q:=by
     refine⟨by simp[L],⟨fun j y F f=>?_,fun j F=>?_⟩,?_,fun a ha=>?_,H.nE.mono K,CX H.nr (RX hd.ev)⟩
     ·have E:0≠j:=by omega
      rw[cn E,bm]at f;obtain⟨z,n,rfl⟩:=bj.1 f;have G:=o.old j z F n;rw[akm G,cv t (by omega) _ (fun op gh=>Ren.ofEvents_g gh)];exact G
     ·rw[cv t (g':=0) (by simp at F;omega) _ (fun op gh=>Ren.ofEvents_g gh)];exact o.above j (by simpa using F)
     ·exact(H.past.mono K).own fun e he=>aii (w:=w0.at d) H.held H.nE K (hd.ev e he) (hd.J_ e he)
     ·rcases(hd.held a).1 ha with y|y
      ·exact⟨aB (H.held a y).1 K,(H.held a y).2⟩
      ·exact⟨y.2,fun l hl n=>absurd n (H.nE.off y.1 l hl)⟩
    obtain⟨N,Y,C,w',I,t',q',S',X',c,T,O,V⟩:=ih (w0.at d) g1 w1 es S1 X1 v s hd _ B _ q Q;exact⟨N+1,Y,C,w',I,t',q',S',X',by simp only[runNT,ga,D];exact c,T,O,((Kept.at w0 d).trans hd.toDid.toKept).trans V⟩
   ·have G:=o.old i x R A;have AM:(i==0)=false:=by simp;omega
    have L:i<gs.size:=(bk.1 A).1;cases W:q i with
    |zero=>rw[W]at G;rw[G.1]at p;cases p
    |succ k=>
     rw[W]at G;rcases G with⟨hf,_⟩|⟨_,C,es,hm,m,yO⟩
     ·rw[hf]at p;cases p
     have D:=akl (P:=P) (sl:=B) (i:=i) A (by rw[AM];exact m (w0.at d));have AB:((gs.map (woken P x C (w0.at d))).setIfInBounds i C).size=gs.size:=by simp
     have S9:sumTo gs.size (upd q i k)+(k+1)=sumTo gs.size q+k:=by
      have:=sumTo_upd q k id L;simpa[W]using this
     have Q:x9 P Z U S g (w0.at d) ((gs.map (woken P x C (w0.at d))).setIfInBounds i C) (t++ei i x.frame.fn x.frame.place es) (upd q i k):=by
      refine⟨?_,⟨fun j y F f=>?_,fun j F=>?_⟩,H.past.mute (by omega) hm,H.held,H.nE,CX H.nr (Q0 hm)⟩
      ·have E:i≠0:=by omega
       rw[cn E,bm,r];simp[woken_run (b:=g) hs]
      ·by_cases J:i=j
       ·subst J;rw[dH (by simpa using L)]at f;obtain rfl:=Option.some.inj f;rw[upd_same,Deaf_own];exact yO
       ·rw[cn J,bm]at f;obtain⟨z,n,rfl⟩:=bj.1 f;have u:=o.old j z F n;rw[akm u,upd_ne q k (Ne.symm J),cv t J _ (fun op gh=>Ren.ofEvents_g gh)];exact u
      ·rw[cv t (g':=i) (by simp at F;omega) _ (fun op gh=>Ren.ofEvents_g gh)];exact o.above j (by simpa using F)
     obtain⟨N,Y,g'',w',I,t',q',S',X',c,T,O,V⟩:=JZ (sumTo gs.size (upd q i k)) (by omega) _ (w0.at d) B _ (upd q i k) (by rw[AB]) (hr.trans (zL U S w0 d)) Q;exact⟨N+1,Y,g'',w',I,t',q',S',X',by simp only[runNT,ga,D];exact c,T,O,(Kept.at w0 d).trans V⟩
  exact fun gs sl t q H=>inner _ gs w sl t q rfl (dv U S w) H
theorem gd.tz{P:Program}{Q:QT}{U:Nat->Nat->Prop}{Done:(Nat->Prop)->(Nat->Prop)->ak->ae->Prop}{X:Nat->Prop}(h:Tz P true U Done S X (G f l) w)(O:pV Z w.heap.size->∀a,S a->a<w.heap.size/\∀l,Ef a l->Z l->∃ad:Addr,l=.cell ad/\U ad.block ad.off)
  (k:∀S' X' H w',Done S' X' H w'->Kept X X' w w'->∃f' l',H=G f' l'/\gd P Q Z f' l' w'):gd P Q Z f l w:=by
 rintro m t ⟨gs,sl,q,rfl,K⟩;have⟨N,D,H,w',B,t',V,S',X',hr,J,Y,M⟩:=abu (Z:=Z) h gs sl t q ⟨K.g0,K.rV,K.past,O K.nE,K.nE,K.nr⟩;obtain⟨f',l',rfl,L⟩:=k S' X' H w' J M;obtain⟨C,T,t2,F,f2,l2,w2,A,R,I⟩:=L _ t' ⟨D,B,V,rfl,Y.g0,Y.rV,Y.past,(fun a h=>h.elim),Y.nE,Y.nr⟩;exact⟨N+C,T,t2,F,f2,l2,w2,by rw[Go.Proofs.YtdcjnhipenbcfaaGreatDoor.Ren.runNT_add P N C _ _ _ _ hr];exact A,R,I⟩
abbrev eF(site:List _)(al:List (Nat×af))(j:Nat->af):=lq 122 24 site (sA al) j
abbrev jF(k q st:Nat):Value:=.agg #[iv k,iv q,iv st]
def aE(X P:e_)(k q st n:Nat):=[(0,.string X),(1,.string P),(2,jF k q st),(3,iv n)]
def ZE:=aE .empty .empty 0 0 0 1
noncomputable abbrev pX (site:List _) (al:List _) (v:af):=gZ PR 60 ((eF site al fun _=>ai).finish v) []
def Bd(a:List _)(Rf:Nat):=a++[(4,ptr Rf)]
def Be(a:List _)(Rf Sg:Nat):=a++[(4,ptr Rf),(5,ptr Sg)]
def pA(a:List _)(Rf Sg By:Nat):=a++[(4,ptr Rf),(5,ptr Sg),(6,ptr By)]
def E7(Mp:Nat):Value:=.agg #[.int .i32 0,.int .u32 0,.map (some Mp)]
noncomputable def Bf:=(gZ PR 60 (Frame.enter PR 122 #[.string .empty,.string .empty,jF 0 0 0,iv 1] .normal) []).1.todo
noncomputable def Bg:=(pX Bf ZE (ptr 0)).1.todo
noncomputable def Bh:=(pX Bg (Bd ZE 0) (ptr 0)).1.todo
noncomputable def Bi:=(pX Bh (Be ZE 0 0) (ptr 0)).1.todo
noncomputable def Bj:=(pX Bi (pA ZE 0 0 0) (.map (some 0))).1.todo
noncomputable def Bl:=(pX Bj (pA ZE 0 0 0++[(11,E7 0)]) (ptr 0)).1.todo
noncomputable def y_:=(pX Bl (pA ZE 0 0 0++[(12,ptr 0)]) (ptr 0)).1.todo
def jK(a:List _)(Rf Sg By Fp:Nat):=pA a Rf Sg By++[(9,ptr Fp)]
noncomputable def LD:=(pX y_ (jK ZE 0 0 0 0++[(12,ptr 0)]) ai).1.todo
noncomputable def LF:=(pX LD (jK ZE 0 0 0 0) (.string .empty)).1.todo
noncomputable def LG:=(pX LF (jK ZE 0 0 0 0++[(13,.string .empty)]) (.string .empty)).1.todo
noncomputable def xx:=(pX LG (jK ZE 0 0 0 0++[(13,.string .empty),(14,.string .empty)]) (jF 0 0 0)).1.todo
noncomputable def za:=(pX xx (jK ZE 0 0 0 0++[(13,.string .empty),(14,.string .empty),(15,jF 0 0 0)]) (.slice none 0 0)).1.todo
noncomputable def LH:=(pX za (jK ZE 0 0 0 0++[(16,.slice none 0 0),(17,iv 1),(18,kh 0 0 0 0)]) unit).1.todo
noncomputable def LI:=(pX LH (jK ZE 0 0 0 0) (ptr 0)).1.todo
section
variable(X P:e_)(k q st n Rf Sg By Mp Fd Fp:Nat)(v:af)(J:Nat->af)(l:List ah)
noncomputable def UK:=gZ PR 60 (Frame.enter PR 122 #[.string X,.string P,jF k q st,iv n] .normal) l
noncomputable def UL:=gZ PR 60 ((eF Bf (aE X P k q st n) J).finish (ptr Rf)) l
noncomputable def EB2:=gZ PR 60 ((eF Bg (Bd (aE X P k q st n) Rf) J).finish (ptr Sg)) l
noncomputable def EMM:=gZ PR 60 ((eF Bh (Be (aE X P k q st n) Rf Sg) J).finish (ptr By)) l
noncomputable def UM:=gZ PR 60 ((eF Bi (pA (aE X P k q st n) Rf Sg By) J).finish (.map (some Mp))) l
noncomputable def EAL:=gZ PR 60 ((eF Bj (pA (aE X P k q st n) Rf Sg By++[(11,E7 Mp)]) J).finish (ptr Fd)) l
noncomputable def EFS:=gZ PR 60 ((eF Bl (pA (aE X P k q st n) Rf Sg By++[(12,ptr Fd)]) J).finish (ptr Fp)) l
noncomputable def EE1:=gZ PR 60 ((eF y_ (jK (aE X P k q st n) Rf Sg By Fp++[(12,ptr Fd)]) J).finish ai) l
noncomputable def EE2:=gZ PR 60 ((eF LD (jK (aE X P k q st n) Rf Sg By Fp) J).finish (.string X)) l
noncomputable def EE3:=gZ PR 60 ((eF LF (jK (aE X P k q st n) Rf Sg By Fp++[(13,.string X)]) J).finish (.string P)) l
noncomputable def EE4:=gZ PR 60 ((eF LG (jK (aE X P k q st n) Rf Sg By Fp++[(13,.string X),(14,.string P)]) J).finish (jF k q st)) l
noncomputable def EE5:=gZ PR 60 ((eF xx (jK (aE X P k q st n) Rf Sg By Fp++[(13,.string X),(14,.string P),(15,jF k q st)]) J).finish v) l
noncomputable def EE6:=gZ PR 60 ((eF za (jK (aE X P k q st n) Rf Sg By Fp++[(16,v),(17,iv n),(18,kh By Rf Sg Fp)]) J).finish unit) l
noncomputable def UN:=gZ PR 60 ((eF LH (jK (aE X P k q st n) Rf Sg By Fp) J).finish (ptr Fd)) l
end
section
variable{X P:e_}{k q st n Rf Sg By Mp Fd Fp:Nat}{v:af}{J:Nat->af}{l cs:List ah}{c:ah}
theorem eb0:look [0,1,2,3] (UK X P k q st n l)=ik 122 24 l Bf (aE X P k q st n) none none:=by kernel_rfl
theorem eb1:look [0,1,2,3,4] (UL X P k q st n Rf J l)=ik 122 24 l Bg (Bd (aE X P k q st n) Rf) none none:=by kernel_rfl
theorem eb2:look [0,1,2,3,4,5] (EB2 X P k q st n Rf Sg J l)=ik 122 24 l Bh (Be (aE X P k q st n) Rf Sg) none none:=by kernel_rfl
theorem emm:look [0,1,2,3,4,5,6] (EMM X P k q st n Rf Sg By J l)=ik 122 24 l Bi (pA (aE X P k q st n) Rf Sg By) none none:=by kernel_rfl
theorem eb3:look [0,1,2,3,4,5,6,11] (UM X P k q st n Rf Sg By Mp J l)=ik 122 24 l Bj (pA (aE X P k q st n) Rf Sg By++[(11,E7 Mp)]) none none:=by kernel_rfl
theorem eal:look [0,1,2,3,4,5,6,12] (EAL X P k q st n Rf Sg By Mp Fd J l)=ik 122 24 l Bl (pA (aE X P k q st n) Rf Sg By++[(12,ptr Fd)]) none none:=by kernel_rfl
theorem efs:look [0,1,2,3,4,5,6,9,12] (EFS X P k q st n Rf Sg By Fd Fp J l)=ik 122 24 l y_ (jK (aE X P k q st n) Rf Sg By Fp++[(12,ptr Fd)]) none none:=by kernel_rfl
theorem ee1:look [0,1,2,3,4,5,6,9] (EE1 X P k q st n Rf Sg By Fd Fp J l)=ik 122 24 l LD (jK (aE X P k q st n) Rf Sg By Fp) none (some (9,ptr Rf)):=by kernel_rfl
theorem ee2:look [0,1,2,3,4,5,6,9,13] (EE2 X P k q st n Rf Sg By Fp J l)=ik 122 24 l LF (jK (aE X P k q st n) Rf Sg By Fp++[(13,.string X)]) none (some (9,ptr Sg)):=by kernel_rfl
theorem ee3:look [0,1,2,3,4,5,6,9,13,14] (EE3 X P k q st n Rf Sg By Fp J l)=ik 122 24 l LG (jK (aE X P k q st n) Rf Sg By Fp++[(13,.string X),(14,.string P)]) none (some (75,ptr By)):=by kernel_rfl
theorem ee4:look [0,1,2,3,4,5,6,9,13,14,15] (EE4 X P k q st n Rf Sg By Fp J l)=ik 122 24 l xx (jK (aE X P k q st n) Rf Sg By Fp++[(13,.string X),(14,.string P),(15,jF k q st)]) (some (48,#[.string X,.string P,jF k q st])) none:=by kernel_rfl
theorem ee5:look [0,1,2,3,4,5,6,9,16,17,18] (EE5 X P k q st n Rf Sg By Fp v J l)=ik 122 24 l za (jK (aE X P k q st n) Rf Sg By Fp++[(16,v),(17,iv n),(18,kh By Rf Sg Fp)]) (some (137,#[v,iv n,kh By Rf Sg Fp])) none:=by kernel_rfl
theorem ee6:look [0,1,2,3,4,5,6,9] (EE6 X P k q st n Rf Sg By Fp v J l)=ik 122 24 l LH (jK (aE X P k q st n) Rf Sg By Fp) none (some (182,ptr Fp)):=by kernel_rfl
theorem ee7:look [0,1,2,3,4,5,6,9] (UN X P k q st n Rf Sg By Fd Fp J l)=ik 122 24 l LI (jK (aE X P k q st n) Rf Sg By Fp) none (some (166,.pointer (some ⟨Fd,2,none⟩))):=by kernel_rfl
theorem aij:gu PR 1 (eF xx (jK (aE X P k q st n) Rf Sg By Fp++[(13,.string X),(14,.string P),(15,jF k q st)]) J) l=(Frame.enter PR 48 #[.string X,.string P,jF k q st] .normal,eF xx (jK (aE X P k q st n) Rf Sg By Fp++[(13,.string X),(14,.string P),(15,jF k q st)]) J::l):=by kernel_rfl
theorem aik:gu PR 1 (eF za (jK (aE X P k q st n) Rf Sg By Fp++[(16,v),(17,iv n),(18,kh By Rf Sg Fp)]) J) l=(Frame.enter PR 137 #[v,iv n,kh By Rf Sg Fp] .normal,eF za (jK (aE X P k q st n) Rf Sg By Fp++[(16,v),(17,iv n),(18,kh By Rf Sg Fp)]) J::l):=by kernel_rfl
theorem ail:(opAt (eF Bf (aE X P k q st n) J)).map (fun o=>o.op)=some (.box 9 (.tmp 0)):=by kernel_rfl
theorem aim:(opAt (eF Bg (Bd (aE X P k q st n) Rf) J)).map (fun o=>o.op)=some (.box 9 (.tmp 1)):=by kernel_rfl
theorem ain:(opAt (eF Bh (Be (aE X P k q st n) Rf Sg) J)).map (fun o=>o.op)=some (.box 75 (.tmp 2)):=by kernel_rfl
theorem aio:(opAt (eF Bi (pA (aE X P k q st n) Rf Sg By) J)).map (fun o=>o.op)=some (.makeMap 166 none):=by kernel_rfl
theorem aip:(opAt (eF Bj (pA (aE X P k q st n) Rf Sg By++[(11,E7 Mp)]) J)).map (fun o=>o.op)=some (.box 191 (.tmp 11)):=by kernel_rfl
theorem aiq:(opAt (eF Bl (pA (aE X P k q st n) Rf Sg By++[(12,ptr Fd)]) J)).map (fun o=>o.op)=some (.alloc 182):=by kernel_rfl
theorem air:(opAt (eF y_ (jK (aE X P k q st n) Rf Sg By Fp++[(12,ptr Fd)]) J)).map (fun o=>o.op)=some (.store 182 (.tmp 9) (.tmp 12)):=by kernel_rfl
end
noncomputable def Bm:=(gZ PR 60 (Frame.enter PR 137 #[.slice none 0 0,iv 1,ai] .normal) []).1.todo
def Bn(nv:af)(n:Nat)(work:af):=[(0,nv),(1,iv n),(2,work)]
noncomputable def E8:=(o8 Bm (Bn (.slice none 0 0) 1 ai) (ptr 0)).1.todo
def E9(nv:af)(n:Nat)(work:af)(Wg:Nat):=[(0,nv),(1,iv n),(2,work),(6,ptr Wg),(13,iv n)]
section
variable(nv:af)(n Wg Gv:Nat)(work:af)(J:Nat->af)(l:List ah)
noncomputable def UO:=gZ PR 60 (Frame.enter PR 137 #[nv,iv n,work] .normal) l
noncomputable def UQ:=gZ PR 60 ((dF Bm (Bn nv n work) J).finish (ptr Wg)) l
end
section
variable{b:Option Addr}{len cap:Nat}{nv:af}{n Wg Gv:Nat}{work:af}{J:Nat->af}{l:List ah}
noncomputable def TH (b:Option _) (len cap n Wg Gv:Nat) (work:af) (J:Nat->af) (l:List _):=gZ PR 60 ((dF E8 (E9 (gU b len cap) n work Wg) J).finish (qL Gv n)) l
theorem ra0:look [0,1,2] (UO nv n work l)=ik 137 55 l Bm (Bn nv n work) none none:=by kernel_rfl
theorem ra1:look [0,1,2,6,13] (UQ nv n Wg work J l)=ik 137 55 l E8 (E9 nv n work Wg) none none:=by kernel_rfl
theorem ajC:look [0,1,2,6,7,16,17,18] (TH b len cap n Wg Gv work J l)=ik 137 55 l lG (oe (im (gU b len cap) n work Wg Gv) n 0++[(18,.bool (decide ((0:Int)<n)))]) none none:=by kernel_rfl
theorem ais:(opAt (dF Bm (Bn nv n work) J)).map (fun o=>o.op)=some (.alloc 212):=by kernel_rfl
theorem ait:(opAt (dF E8 (E9 nv n work Wg) J)).map (fun o=>o.op)=some (.makeSlice 213 (.tmp 13) (.tmp 13)):=by kernel_rfl
end
section
variable{P:Program}{Q:QT}{Z:Loc->Prop}{f:ah}{l:List ah}{w:ae}
theorem gd.gh(m:Nat)(r:ah×List _)(hr:gZ P m f l=r){site:List _}{al:List _}{call:Option _}{load:Option _}(h:look ks r=ik fn n l site al call load)(hk:al.map (·.1)=ks)
  (k:∀J w',ir Z w w'->(∀b,b<w.heap.size->w'.heap[b]?=w.heap[b]?)->ahead (lq fn n site (sA al) J)=call->pN (lq fn n site (sA al) J)=load->kt fn n site (sA al) (lq fn n site (sA al) J)->gd P Q Z (lq fn n site (sA al) J) l w'):gd P Q Z f l w:=by
 subst hr;refine gd.kU m fun w' R I=>?_;have Y:=jX h hk;have K:=Y.call;have H:=Y.load;have D:=Y.fr;rw[Y.fr.eq]at K H;rw[Y.fr.eq]at D;rw[Y.callers,Y.fr.eq];simp_all
end
section
variable{main:Bool}{f:ah}{cs:List ah}
theorem Cx{x:aN}(h:(opAt f).map (fun o=>o.op)=some (.box t x)){c:Array _}(B:f.eval x=v)(H:v.cells=c)(w:ae):
  az PR main (G f cs) w=.go (G (f.finish (ptr w.heap.size)) cs) (w.alloc (.cells c t)) #[]:=by
 have⟨op,K,gh⟩:=qv h;subst H;have hr:(aj f.eval op).run PR w=.ok (.value (ptr w.heap.size)) (w.alloc (.cells v.cells t)):=by
  unfold aj;simp[gh,B];rfl
 have Y:(aj f.eval op).events PR w #[]=#[]:=by
  unfold aj;simp[gh];simp[go_sem]
 rw[oM K hr,Y,bD]
theorem Hq(h:(opAt f).map (fun o=>o.op)=some (.alloc t)){c:Array af}{z:af}(C:(PR.info? t).map (·.zero)=some (some z))(B:z.cells=c)(w:ae):
  az PR main (G f cs) w=.go (G (f.finish (ptr w.heap.size)) cs) (w.alloc (.cells c t)) #[]:=by
 have⟨op,R,gh⟩:=qv h;subst B;have I:∃Y,PR.info? t=some Y/\Y.zero=some z:=by simp_all
 have⟨Y,K,H⟩:=I;have hr:(aj f.eval op).run PR w=.ok (.value (ptr w.heap.size)) (w.alloc (.cells z.cells t)):=by
  unfold aj;simp only[gh];simp[go_sem,cQ,aZ,K,H];rfl
 have D:(aj f.eval op).events PR w #[]=#[]:=by
  unfold aj;simp only[gh];simp[go_sem,cQ,aZ,K,H]
 rw[oM R hr,D,bD]
theorem afa(h:(opAt f).map (fun o=>o.op)=some (.makeMap t none))(w:ae):
  az PR main (G f cs) w=.go (G (f.finish (.map (some w.heap.size))) cs) (w.alloc (.map #[] 0)) #[]:=by
 have⟨op,K,gh⟩:=qv h;have hr:(aj f.eval op).run PR w=.ok (.value (.map (some w.heap.size))) (w.alloc (.map #[] 0)):=by
  unfold aj;simp[gh];rfl
 have Y:(aj f.eval op).events PR w #[]=#[]:=by
  unfold aj;simp[gh];rfl
 rw[oM K hr,Y,bD]
theorem afb{x:aN}(h:(opAt f).map (fun o=>o.op)=some (.makeSlice 213 x y))(N:n<=8)(B:f.eval x=iv n)(C:f.eval y=iv n)(w:ae):
  az PR main (G f cs) w=.go (G (f.finish (qL w.heap.size n)) cs) (w.alloc (.cells (ox [] n) 214)) #[]:=by
 have⟨op,L,gh⟩:=qv h;have A:PR.underlying 213=some (.slice 214):=by kernel_rfl
 have J:∃Y,PR.info? 214=some Y/\Y.zero=some (.chan none)/\Y.size=1/\Y.bytes=8:=by
  have:(PR.info? 214).map (fun i=>(i.zero,i.size,i.bytes))=some (some (.chan none),1,8):=by kernel_rfl
  simp_all
 have⟨Y,H,D,K,R⟩:=J;have I:=run_makeSlice (P:=PR) w 213 214 Y (.chan none) A H D .i64 .i64 (n:Int) (n:Int) (by omega) (Int.le_refl _) (by rw[K];omega) (by rw[R];omega) (by omega);have U:dz (du none).cells ((n:Int).toNat *Y.size)=ox [] n:=by
  rw[K];apply Array.ext
  ·simp[dz,ox]
  ·intro i I M;simp[dz,ox,Value.cells,Nat.mod_one]
 rw[U]at I;have hr:(aj f.eval op).run PR w=.ok (.value (qL w.heap.size n)) (w.alloc (.cells (ox [] n) 214)):=by
  unfold aj;simp only[gh,B,C];rw[Sem.run_bind];show((dR 213 (.int .i64 (n:Int)) (.int .i64 (n:Int))).run PR w).andThen _=_
  rw[I];rfl
 have F:(aj f.eval op).events PR w #[]=#[]:=by
  unfold aj;simp only[gh,B,C];have:n=0\/n=1\/n=2\/n=3\/n=4\/n=5\/n=6\/n=7\/n=8:=by omega
  rcases this with rfl|rfl|rfl|rfl|rfl|rfl|rfl|rfl|rfl<;>
  simp[go_sem,dR,dB A,underlying,cQ,aZ,bE,H,D,K,R,askRoom,roomBytes]<;>(try decide)
 rw[oM L hr,F,bD]
theorem afc{x:aN}(h:(opAt f).map (fun o=>o.op)=some (.store t x y)){B b:Nat}{row:Array af}(F:f.eval x=.pointer (some ⟨B,i,none⟩))(M:f.eval y=ptr b)(C:w.heap[B]?=some (.cells row t'))(N:i<row.size)(O:(PR.funcs[f.fn]?).any (·.norace)=false)(V:(PR.info? t).map (·.size)=some 1):
  az PR main (G f cs) w=.go (G (f.finish ai) cs) (w.setCell ⟨B,i,none⟩ (ptr b)) #[⟨.cell ⟨B,i,none⟩,true,false⟩]:=by
 have⟨op,A,gh⟩:=qv h;have D:w.cell? ⟨B,i,none⟩=some row[i]:=by simp[aJ,C,N]
 have R:w.frozen? ⟨B,i,none⟩=false:=by simp[aki,C]
 have U:∃Y,PR.info? t=some Y/\Y.size=1:=by simp_all
 have⟨Y,K,H⟩:=U;have hr:(aj f.eval op).run PR w=.ok .skip (w.setCell ⟨B,i,none⟩ (ptr b)):=by
  unfold aj;simp only[gh,F,M];simp[go_sem,storeVar,bE,aZ,K,H,D,R,ptr]
 have I:(aj f.eval op).events PR w #[]=#[⟨.cell ⟨B,i,none⟩,true,false⟩]:=by
  unfold aj;simp only[gh,F,M];simp[go_sem,storeVar,bE,aZ,K,H,D,R,ptr,events_store PR w _ _ (.pointer _) .plain rfl]
 rw[step_skip A hr,I,dD,O];simp[dC]
theorem afd{B:Nat}(h:pN f=some (75,ptr B)){a b c:af}(Y:w.heap[B]?=some (.cells #[a,b,c] t'))(C:(PR.funcs[f.fn]?).any (·.norace)=false):
  az PR main (G f cs) w=.go (G (f.finish (.agg #[a,b,c])) cs) w #[⟨.cell ⟨B,0,none⟩,false,false⟩,⟨.cell ⟨B,1,none⟩,false,false⟩,⟨.cell ⟨B,2,none⟩,false,false⟩]:=by
 have⟨op,x,D,gh,K⟩:=BQ h;have c0:w.cell? ⟨B,0,none⟩=some a:=by simp[aJ,Y]
 have c1:w.cell? ⟨B,1,none⟩=some b:=by simp[aJ,Y]
 have c2:w.cell? ⟨B,2,none⟩=some c:=by simp[aJ,Y]
 have hr:(aj f.eval op).run PR w=.ok (.value (.agg #[a,b,c])) w:=by
  unfold aj;simp only[gh,K,ptr];simp[go_sem,c0,c1,c2]
 have H:(aj f.eval op).events PR w #[]=#[⟨.cell ⟨B,0,none⟩,false,false⟩,⟨.cell ⟨B,1,none⟩,false,false⟩,⟨.cell ⟨B,2,none⟩,false,false⟩]:=by
  unfold aj;simp only[gh,K,ptr];simp[go_sem,c0,c1,c2]
 rw[oM D hr,H,dD,C];simp[dC]
end
end Ph
end Go.Proofs.YtdcjnhipenbcfaaGreatDoor
namespace Go.Proofs
open Shelf
def Tryz.NA:Go.Shelf.Ren:=⟨fun|156=>110|165=>121|166=>63|169=>68|240=>96|241=>136|276=>113|277=>156|n=>n,fun|31=>65|9=>9|3=>3|4=>4|0=>0|20=>20|72=>102|76=>105|70=>100|37=>79|75=>104|127=>139|164=>159|5=>5|80=>108|n=>n,fun|n=>n⟩
theorem Tryz.afe:Go.Proofs.Lays.n156 Tryz.prog Tryz.NA:={
 mixed:=by kernel_rfl
 f156:=Tryz.func110.trans (congrArg some (by kernel_rfl))
 f165:=Tryz.func121.trans (congrArg some (by kernel_rfl))
 f166:=Tryz.func63.trans (congrArg some (by kernel_rfl))
 f169:=Tryz.func68.trans (congrArg some (by kernel_rfl))
 f240:=Tryz.func96.trans (congrArg some (by kernel_rfl))
 f241:=Tryz.func136.trans (congrArg some (by kernel_rfl))
 f276:=c9.trans (congrArg some (by kernel_rfl))
 f277:=eA.trans (congrArg some (by kernel_rfl))
 t0:=bA
 a0:=bt
 z0:=bu
 v0:=bB
 t3:=aX
 a3:=aV
 z3:=aW
 v3:=aY
 t4:=cH
 a4:=cC
 z4:=cE
 v4:=cI
 t9:=bO
 a9:=bY
 z9:=b_
 v9:=cj
 t20:=eS
 a20:=eG
 z20:=eM
 v20:=eY
 t31:=Tryz.underlying65
 a31:=Tryz.isAgg65
 z31:=Tryz.sizeOf65
 v31:=Tryz.zeroValue65
 t37:=bN
 a37:=cD
 z37:=cG
 v37:=cJ
 t70:=bM
 a70:=c_
 z70:=dc
 v70:=dp
 t72:=di
 a72:=da
 z72:=de
 v72:=dq
 t75:=Tryz.underlying104
 a75:=Tryz.isAgg104
 z75:=Tryz.sizeOf104
 v75:=Tryz.zeroValue104
 t76:=Tryz.underlying105
 a76:=Tryz.isAgg105
 z76:=Tryz.sizeOf105
 v76:=Tryz.zeroValue105
 t127:=eO
 a127:=eB
 z127:=eI
 v127:=eU
 t164:=dj
 a164:=Tryz.isAgg159
 z164:=Tryz.sizeOf159
 v164:=Tryz.zeroValue159}
theorem Tryz.Wn:dJ Tryz.prog Tryz.NA:={
 sizeBuilder:=by kernel_rfl
 liesBuilder:=by kernel_rfl
 t5:=cf
 a5:=bX
 z5:=bZ
 v5:=cg
 infoByte:=by kernel_rfl
 cellsByte:=by kernel_rfl
 sizeByte:=by kernel_rfl
 neB5:=by decide}
open Go.RowKit in
theorem Tryz.strings_Join(F o c:Nat)(xs:List ByteArray)(H:ByteArray)(w:ae)(Y:∀(j:Nat) x,xs[j]?=some x->w.cell? ⟨F,o+j,none⟩=some (.string x))(M:F<w.heap.size)(N:xs.length<=140737488355328)(B:xs.length<=c)(C:(Lib.join (xs.map (·.data.toList)) H.data.toList).length<=140737488355328):
  aD Tryz.prog 110 #[.slice (some ⟨F,o,none⟩) xs.length c,.string H] w fun e w'=>e=.returned (.string ⟨(Lib.join (xs.map (·.data.toList)) H.data.toList).toArray⟩)/\ar w.heap.size w w':=Any.strings_Join Tryz.afe Tryz.Wn F o c xs H w Y M N B C
def Tryz.abv:Go.Shelf.Ren:=⟨fun|7=>124|10=>143|n=>n,fun|23=>166|26=>3|3=>3|28=>170|0=>0|27=>169|33=>197|4=>4|n=>n,fun|n=>n⟩
theorem Tryz.SQ:Go.Proofs.SlLaysZI.n7 Tryz.prog Tryz.abv:={
 mixed:=by kernel_rfl
 f7:=⟨Tryz.f124.name,by decide,Tryz.func124.trans (congrArg some (by kernel_rfl))⟩
 f10:=⟨Tryz.f143.name,by decide,Tryz.func143.trans (congrArg some (by kernel_rfl))⟩
 t0:=bA
 a0:=bt
 z0:=bu
 v0:=bB
 t4:=cH
 a4:=cC
 z4:=cE
 v4:=cI
 t23:=Tryz.underlying166
 a23:=Tryz.isAgg166
 z23:=Tryz.sizeOf166
 v23:=Tryz.zeroValue166
 t26:=aX
 a26:=aV
 z26:=aW
 v26:=aY
 t27:=Tryz.underlying169
 a27:=Tryz.isAgg169
 z27:=Tryz.sizeOf169
 v27:=Tryz.zeroValue169
 t28:=eP
 a28:=eC
 z28:=eJ
 v28:=eV
 t33:=Tryz.underlying197
 a33:=Tryz.isAgg197
 z33:=Tryz.sizeOf197
 v33:=Tryz.zeroValue197}
def Tryz.NB:Go.Shelf.Ren:=⟨fun|6=>123|8=>141|9=>142|11=>162|13=>164|12=>163|23=>198|24=>152|14=>189|15=>190|16=>191|17=>192|18=>193|19=>194|20=>195|21=>196|22=>197|25=>208|26=>209|27=>210|28=>211|29=>212|30=>213|31=>221|n=>n,fun|26=>3|28=>170|24=>25|0=>0|3=>3|37=>204|48=>185|50=>176|4=>4|40=>239|39=>238|45=>217|5=>5|9=>9|51=>258|55=>261|57=>264|58=>80|33=>197|n=>n,fun|n=>n⟩
theorem Tryz.aff:Go.Proofs.SlLaysZI.n6 Tryz.prog Tryz.NB:={
 mixed:=by kernel_rfl
 f6:=⟨Tryz.f123.name,by decide,Tryz.func123.trans (congrArg some (by kernel_rfl))⟩
 f8:=⟨Tryz.f141.name,by decide,Tryz.func141.trans (congrArg some (by kernel_rfl))⟩
 f11:=⟨Tryz.f162.name,by decide,Tryz.func162.trans (congrArg some (by kernel_rfl))⟩
 t0:=bA
 a0:=bt
 z0:=bu
 v0:=bB
 t24:=dk
 a24:=db
 z24:=dh
 v24:=dt
 t26:=aX
 a26:=aV
 z26:=aW
 v26:=aY
 t28:=eP
 a28:=eC
 z28:=eJ
 v28:=eV
 i26:=by kernel_rfl}
def Tryz.abw:Go.Shelf.Ren:=⟨fun|5=>142|8=>164|7=>163|19=>198|20=>152|10=>189|11=>190|12=>191|13=>192|14=>193|15=>194|16=>195|17=>196|18=>197|30=>208|31=>209|32=>210|33=>211|34=>212|35=>213|40=>221|n=>n,fun|23=>25|25=>3|3=>3|32=>204|22=>25|0=>0|44=>185|46=>176|4=>4|36=>239|35=>238|41=>217|5=>5|9=>9|53=>258|57=>261|63=>264|64=>80|n=>n,fun|n=>n⟩
theorem Tryz.SU:Go.Proofs.SlLaysM.n5 Tryz.prog Tryz.abw:={
 mixed:=by kernel_rfl
 f5:=⟨Tryz.f142.name,by decide,Tryz.func142.trans (congrArg some (by kernel_rfl))⟩
 f7:=⟨Tryz.f163.name,by decide,Tryz.func163.trans (congrArg some (by kernel_rfl))⟩
 f8:=Tryz.func164.trans (congrArg some (by kernel_rfl))
 f10:=⟨Tryz.f189.name,by decide,Tryz.func189.trans (congrArg some (by kernel_rfl))⟩
 f11:=⟨Tryz.f190.name,by decide,Tryz.func190.trans (congrArg some (by kernel_rfl))⟩
 f12:=⟨Tryz.f191.name,by decide,Tryz.func191.trans (congrArg some (by kernel_rfl))⟩
 f13:=⟨Tryz.f192.name,by decide,Tryz.func192.trans (congrArg some (by kernel_rfl))⟩
 f14:=⟨Tryz.f193.name,by decide,Tryz.func193.trans (congrArg some (by kernel_rfl))⟩
 f15:=⟨Tryz.f194.name,by decide,Tryz.func194.trans (congrArg some (by kernel_rfl))⟩
 f16:=⟨Tryz.f195.name,by decide,Tryz.func195.trans (congrArg some (by kernel_rfl))⟩
 f17:=⟨Tryz.f196.name,by decide,Tryz.func196.trans (congrArg some (by kernel_rfl))⟩
 f18:=⟨Tryz.f197.name,by decide,Tryz.func197.trans (congrArg some (by kernel_rfl))⟩
 f19:=Tryz.func198.trans (congrArg some (by kernel_rfl))
 f20:=ez.trans (congrArg some (by kernel_rfl))
 f30:=⟨Tryz.f208.name,by decide,Tryz.func208.trans (congrArg some (by kernel_rfl))⟩
 f31:=Tryz.func209.trans (congrArg some (by kernel_rfl))
 f32:=Tryz.func210.trans (congrArg some (by kernel_rfl))
 f33:=⟨Tryz.f211.name,by decide,Tryz.func211.trans (congrArg some (by kernel_rfl))⟩
 f34:=⟨Tryz.f212.name,by decide,Tryz.func212.trans (congrArg some (by kernel_rfl))⟩
 f35:=⟨Tryz.f213.name,by decide,Tryz.func213.trans (congrArg some (by kernel_rfl))⟩
 f40:=⟨Tryz.f221.name,by decide,Tryz.func221.trans (congrArg some (by kernel_rfl))⟩
 t0:=bA
 a0:=bt
 z0:=bu
 v0:=bB
 t3:=aX
 a3:=aV
 z3:=aW
 v3:=aY
 t4:=cH
 a4:=cC
 z4:=cE
 v4:=cI
 t5:=cf
 a5:=bX
 z5:=bZ
 v5:=cg
 t9:=bO
 a9:=bY
 z9:=b_
 v9:=cj
 t22:=dk
 a22:=db
 z22:=dh
 v22:=dt
 t23:=dk
 a23:=db
 z23:=dh
 v23:=dt
 t25:=aX
 a25:=aV
 z25:=aW
 v25:=aY
 t32:=eT
 a32:=eH
 z32:=eN
 v32:=eZ
 t35:=Tryz.underlying238
 a35:=Tryz.isAgg238
 z35:=Tryz.sizeOf238
 v35:=Tryz.zeroValue238
 t36:=Tryz.underlying239
 a36:=Tryz.isAgg239
 z36:=Tryz.sizeOf239
 v36:=Tryz.zeroValue239
 t41:=Tryz.underlying217
 a41:=Tryz.isAgg217
 z41:=Tryz.sizeOf217
 v41:=Tryz.zeroValue217
 t44:=eR
 a44:=eE
 z44:=eL
 v44:=eX
 t46:=eQ
 a46:=eD
 z46:=eK
 v46:=eW
 t53:=Tryz.underlying258
 a53:=Tryz.isAgg258
 z53:=Tryz.sizeOf258
 v53:=Tryz.zeroValue258
 t57:=Tryz.underlying261
 a57:=Tryz.isAgg261
 z57:=Tryz.sizeOf261
 v57:=Tryz.zeroValue261
 t63:=Tryz.underlying264
 a63:=Tryz.isAgg264
 z63:=Tryz.sizeOf264
 v63:=Tryz.zeroValue264
 t64:=Tryz.underlying80
 a64:=Tryz.isAgg80
 z64:=Tryz.sizeOf80
 v64:=Tryz.zeroValue80}
def Tryz.YB:Go.Shelf.Ren:=⟨fun|170=>66|n=>n,fun|70=>100|3=>3|0=>0|72=>102|37=>79|5=>5|n=>n,fun|n=>n⟩
theorem Tryz.afg:Go.Proofs.Lays.n170 Tryz.prog Tryz.YB:={
 mixed:=by kernel_rfl
 f170:=Tryz.func66.trans (congrArg some (by kernel_rfl))
 t0:=bA
 a0:=bt
 z0:=bu
 v0:=bB
 t3:=aX
 a3:=aV
 z3:=aW
 v3:=aY
 t37:=bN
 a37:=cD
 z37:=cG
 v37:=cJ
 t70:=bM
 a70:=c_
 z70:=dc
 v70:=dp
 t72:=di
 a72:=da
 z72:=de
 v72:=dq}
open Go.RowKit in
theorem Tryz.Builder_Len(B b:Nat)(bs:List af)(w:ae)(h:bc 102 5 B b bs w):
  aD Tryz.prog 66 #[.pointer (some ⟨b,0,none⟩)] w fun e w'=>e=.returned (.int .i64 bs.length)/\w'=w:=Any.Builder_Len Tryz.afg B b bs w h
def Tryz.NC:Go.Shelf.Ren:=⟨fun|169=>68|n=>n,fun|70=>100|9=>9|0=>0|72=>102|37=>79|127=>139|3=>3|5=>5|n=>n,fun|n=>n⟩
theorem Tryz.afh:Go.Proofs.Lays.n169 Tryz.prog Tryz.NC:={
 mixed:=by kernel_rfl
 f169:=Tryz.func68.trans (congrArg some (by kernel_rfl))
 t0:=bA
 a0:=bt
 z0:=bu
 v0:=bB
 t3:=aX
 a3:=aV
 z3:=aW
 v3:=aY
 t9:=bO
 a9:=bY
 z9:=b_
 v9:=cj
 t37:=bN
 a37:=cD
 z37:=cG
 v37:=cJ
 t70:=bM
 a70:=c_
 z70:=dc
 v70:=dp
 t72:=di
 a72:=da
 z72:=de
 v72:=dq
 t127:=eO
 a127:=eB
 z127:=eI
 v127:=eU}
theorem Tryz.Wo:dJ Tryz.prog Tryz.NC:={
 sizeBuilder:=by kernel_rfl
 liesBuilder:=by kernel_rfl
 t5:=cf
 a5:=bX
 z5:=bZ
 v5:=cg
 infoByte:=by kernel_rfl
 cellsByte:=by kernel_rfl
 sizeByte:=by kernel_rfl
 neB5:=by decide}
open Go.RowKit in
theorem Tryz.Builder_String_any(B b:Nat)(l:List UInt8)(w:ae)(h:bc 102 5 B b (bg l) w)(Y:B<=w.heap.size):
  aD Tryz.prog 68 #[.pointer (some ⟨b,0,none⟩)] w fun e w'=>e=.returned (.string ⟨l.toArray⟩)/\ar B w w':=Any.Builder_String_any Tryz.afh Tryz.Wo B b l w h Y
def Tryz.YC:Go.Shelf.Ren:=⟨fun|137=>99|217=>115|266=>134|n=>n,fun|9=>9|5=>5|3=>3|n=>n,fun|n=>n⟩
theorem Tryz.afi:Go.Proofs.Lays.n137 Tryz.prog Tryz.YC:={
 mixed:=by kernel_rfl
 f137:=Tryz.func99.trans (congrArg some (by kernel_rfl))
 f217:=Tryz.func115.trans (congrArg some (by kernel_rfl))
 f266:=ey.trans (congrArg some (by kernel_rfl))
 t3:=aX
 a3:=aV
 z3:=aW
 v3:=aY
 t5:=cf
 a5:=bX
 z5:=bZ
 v5:=cg
 t9:=bO
 a9:=bY
 z9:=b_
 v9:=cj}
open Go.RowKit in
theorem Tryz.strings_IndexByte(s:ByteArray)(c:Int)(w:ae):
  aD Tryz.prog 99 #[.string s,.int .u8 c] w fun e w'=>e=.returned (.int .i64 (Lib.indexByte s.data.toList c.toNat.toUInt8))/\w'=w:=Any.strings_IndexByte Tryz.afi s c w
def Tryz.XH:Go.Shelf.Ren:=⟨fun|171=>74|243=>98|246=>114|283=>130|284=>131|285=>132|286=>133|129=>152|317=>151|318=>153|319=>154|320=>155|337=>166|338=>167|n=>n,fun|3=>3|9=>9|2=>2|4=>4|171=>175|0=>0|53=>176|37=>79|5=>5|173=>179|212=>202|51=>185|20=>20|213=>203|46=>204|232=>245|233=>246|n=>n,fun|17=>0|18=>2|19=>3|n=>n⟩
theorem Tryz.adh:Go.Proofs.LaysM.n171 Tryz.prog Tryz.XH:={
 mixed:=by kernel_rfl
 f129:=ez.trans (congrArg some (by kernel_rfl))
 f171:=Tryz.func74.trans (congrArg some (by kernel_rfl))
 f243:=Tryz.func98.trans (congrArg some (by kernel_rfl))
 f246:=Tryz.func114.trans (congrArg some (by kernel_rfl))
 f283:=Tryz.func130.trans (congrArg some (by kernel_rfl))
 f284:=Tryz.func131.trans (congrArg some (by kernel_rfl))
 f285:=Tryz.func132.trans (congrArg some (by kernel_rfl))
 f286:=Tryz.func133.trans (congrArg some (by kernel_rfl))
 f317:=Tryz.func151.trans (congrArg some (by kernel_rfl))
 f318:=Tryz.func153.trans (congrArg some (by kernel_rfl))
 f319:=Tryz.func154.trans (congrArg some (by kernel_rfl))
 f320:=Tryz.func155.trans (congrArg some (by kernel_rfl))
 f337:=Tryz.func166.trans (congrArg some (by kernel_rfl))
 f338:=Tryz.func167.trans (congrArg some (by kernel_rfl))
 t0:=bA
 a0:=bt
 z0:=bu
 v0:=bB
 t2:=Tryz.underlying2
 a2:=Tryz.isAgg2
 z2:=Tryz.sizeOf2
 v2:=Tryz.zeroValue2
 t3:=aX
 a3:=aV
 z3:=aW
 v3:=aY
 t4:=cH
 a4:=cC
 z4:=cE
 v4:=cI
 t5:=cf
 a5:=bX
 z5:=bZ
 v5:=cg
 t9:=bO
 a9:=bY
 z9:=b_
 v9:=cj
 t20:=eS
 a20:=eG
 z20:=eM
 v20:=eY
 t37:=bN
 a37:=cD
 z37:=cG
 v37:=cJ
 t46:=eT
 a46:=eH
 z46:=eN
 v46:=eZ
 t51:=eR
 a51:=eE
 z51:=eL
 v51:=eX
 t53:=eQ
 a53:=eD
 z53:=eK
 v53:=eW
 t171:=Tryz.underlying175
 a171:=Tryz.isAgg175
 z171:=Tryz.sizeOf175
 v171:=Tryz.zeroValue175
 t173:=Tryz.underlying179
 a173:=Tryz.isAgg179
 z173:=Tryz.sizeOf179
 v173:=Tryz.zeroValue179
 t212:=Tryz.underlying202
 a212:=Tryz.isAgg202
 z212:=Tryz.sizeOf202
 v212:=Tryz.zeroValue202
 t213:=Tryz.underlying203
 a213:=Tryz.isAgg203
 z213:=Tryz.sizeOf203
 t232:=Tryz.underlying245
 a232:=Tryz.isAgg245
 z232:=Tryz.sizeOf245
 v232:=Tryz.zeroValue245
 t233:=Tryz.underlying246
 a233:=Tryz.isAgg246
 z233:=Tryz.sizeOf246
 v233:=Tryz.zeroValue246
 g17:=by kernel_rfl
 g18:=by kernel_rfl
 g19:=by kernel_rfl
 i0:=by kernel_rfl
 i2:=by kernel_rfl
 i3:=by kernel_rfl
 i4:=by kernel_rfl
 i5:=by kernel_rfl
 i9:=by kernel_rfl
 i20:=by kernel_rfl
 i37:=by kernel_rfl
 i46:=by kernel_rfl
 i51:=by kernel_rfl
 i53:=by kernel_rfl
 i171:=by kernel_rfl
 i173:=by kernel_rfl
 i212:=by kernel_rfl
 i232:=by kernel_rfl
 i233:=by kernel_rfl
 m17:=by kernel_rfl
 m18:=by kernel_rfl
 m19:=by kernel_rfl}
open Go.RowKit Go.Sort Go.Lib in
theorem Tryz.strconv_Itoa(n:Int)(H: -9223372036854775808<=n)(B:n<=9223372036854775807)(w:ae)(Y:Lib.TabIs Tryz.prog w "internal/strconv.uint64pow10" .u64 Lib.pow10Tab):
  aD Tryz.prog 74 #[.int .i64 n] w fun e w'=>e=.returned (.string ⟨(Lib.itoa n).toArray⟩)/\∃k os,w'=grow (w.drewN k) os:=Any.strconv_Itoa Tryz.adh n H B w Y
end Go.Proofs
namespace Go.Proofs.YtdcjnhipenbcfaaGreatDoor
variable {bd main rd:Bool}{NM mk s:e_}{f f1:ah}{fn:aQ}{g1:ak}{z:Int}{cs l:List ah}{k0 kk:List Item}{L R ks l1 l2:List Nat}{Z:Loc->Prop}{Fd Wg cap cc clock fuel i n I q u:Nat}{XX jJ:Nat->Nat->Prop}{RO S X':Nat->Prop}{y:aN}{ow:Option Nat}{t t':au}{v work:af}{w w' w2 wr:ae}
section
open RowKit
theorem SV:(Tryz.prog.info? 102).map (·.size)=some 2:=by kernel_rfl
theorem aiu:liesAt Tryz.prog Tryz.prog.depth 102 (2/Tryz.prog.cellsOf 102) 0 102 1=true:=by kernel_rfl
theorem Dt:(Tryz.prog.info? 5).map (fun i=>(i.zero,i.size,i.bytes))=some (some (.int .u8 0),1,1):=by kernel_rfl
theorem MB(b:Nat)(w:ae)(H:w.cell? ⟨b,0,none⟩=some (.pointer (some ⟨b,0,none⟩))):
  aD Tryz.prog 96 #[.pointer (some ⟨b,0,none⟩)] w fun e w'=>e=.returned (.tuple #[])/\w'=w:=by
 have⟨j,Y,_⟩:=bj.1 SV;go_wp2
 rw[Lib.run_neq_ptr_same w _ bM Y];go_wp2
 go_end0
 exact⟨rfl,rfl⟩
theorem Mw(b:Nat)(w:ae)(C:w.cell? ⟨b,0,none⟩=some (.pointer none))(Y:w.shape? b=some (102,2))(B:w.frozen? ⟨b,0,none⟩=false):
  aD Tryz.prog 96 #[.pointer (some ⟨b,0,none⟩)] w fun e w'=>e=.returned (.tuple #[])/\w'=w.setCell ⟨b,0,none⟩ (.pointer (some ⟨b,0,none⟩)):=by
 have⟨j,H,K⟩:=bj.1 SV;go_wp2
 rw[Lib.run_to_unsafe w ⟨b,0,none⟩ bM dj H (by rw[K];decide) Y (Nat.zero_lt_succ 1)];simp only[Result.andThen];go_wp2
 rw[run_callFunc_extern c9 (by kernel_rfl) (by kernel_rfl) (by kernel_rfl) (by kernel_rfl)];rw[Lib.run_noEscape];simp only[Result.andThen];rw[et];go_wp2
 rw[Lib.run_from_unsafe w ⟨b,0,none⟩ dj bM H Y aiu];simp only[Result.andThen];rw[et];go_wp2
 go_end0
 exact⟨rfl,rfl⟩
theorem MP(B b:Nat)(bs:List _)(w:ae)(h:bc 102 5 B b bs w):
  aD Tryz.prog 96 #[.pointer (some ⟨b,0,none⟩)] w fun e w'=>e=.returned (.tuple #[])/\cV 102 5 B b (.pointer (some ⟨b,0,none⟩)) bs w'/\ar B w w':=by
 rcases h with h|h
 ·refine(Mw b w h.cell0 h.shape h.frozen0).mono ?_;rintro e w' ⟨rfl,rfl⟩;exact⟨rfl,h.used _,(cu B w).setCell h.1 _⟩
 ·refine(MB b w h.cell0).mono ?_;rintro e w' ⟨rfl,rfl⟩;exact⟨rfl,h,cu B _⟩
theorem E_:(102:au)≠5:=by simp
theorem WC(B b:Nat)(bs:List af)(s:e_)(w:ae)(h:bc 102 5 B b bs w)(O:bs.length+s.size<=1000000)(V:B<=w.heap.size):
  aD Tryz.prog 63 #[.pointer (some ⟨b,0,none⟩),.string s] w fun e w'=>e=.returned (.tuple #[.int .i64 (s.size:Int),.nilIface])/\bc 102 5 B b (bs++cw s) w'/\ar B w w':=by
 have⟨i0,S,F,J,L⟩:=dy Dt
 go_enter Tryz.func63,Tryz.ntmps63
 go_wp2_with(go_at_call 96;refine(MP B b bs _ h).mono ?_)
 rintro e w1 ⟨rfl,⟨N,v,H,D,U⟩,R⟩;have c0:w1.cell? ⟨b,0,none⟩=some (.pointer (some ⟨b,0,none⟩)):=by rw[bR H];rfl
 have c1:w1.cell? ⟨b,1,none⟩=some v:=by rw[bR H];rfl
 go_wp2_with(at_builtin;refine Lib.wpList_append_own_string _ rfl _ _ 79 9 rfl B 5 i0 bN bO S F J L _ _ _ rfl D s rfl ?c3 ?c4 ?c5 ?_)
 case c3=>unfold maxLen;omega
 case c4=>omega
 case c5=>have:=R.size;omega
 intro v' w2 K Y _;have A:b<w1.heap.size:=by
  rcases c7 b w1.heap.size with h'|h'
  ·exact h'
  ·simp[a_ h']at H
 have I:w2.heap[b]?=some (.cells #[.pointer (some ⟨b,0,none⟩),v] 102 (0,0)):=by
  rw[Y.block b A (fun e=>U e.symm)];exact H
 have d1:w2.cell? ⟨b,1,none⟩=some v:=by rw[bR I];rfl
 have f1:w2.frozen? ⟨b,1,none⟩=false:=dW I 1;obtain⟨M,P,cap,rfl⟩:∃M P cap,v'=.slice M P cap:=by
  rcases K.2 with⟨C,_⟩|⟨g,cap,Q,C,_⟩
  ·exact⟨_,_,_,C⟩
  ·exact⟨_,_,_,C⟩
 go_wp2
 go_ret2
 refine⟨rfl,.inr ?_,?_⟩
 ·exact dV (T:=102) (e:=5) N I (bs':=bs++cw s) (by simpa[Lib.strCells_length]using K) E_
 ·exact(R.grown Y (by have:=R.size;omega) (fun k hk=>(D.lt k hk).1)).setCell (p:=⟨b,1,none⟩) N _
theorem MQ(B b:Nat)(bs:List af)(c:Int)(w:ae)(h:bc 102 5 B b bs w)(N:bs.length+1<=1000000)(V:B<=w.heap.size):
  aD Tryz.prog 73 #[.pointer (some ⟨b,0,none⟩),.int .u8 c] w fun e w'=>e=.returned .nilIface/\bc 102 5 B b (bs++[.int .u8 c]) w'/\ar B w w':=by
 have⟨i0,Q,F,J,L⟩:=dy Dt
 go_enter Tryz.func73,Tryz.ntmps73
 go_wp2_with(go_at_call 96;refine(MP B b bs _ h).mono ?_)
 rintro e w1 ⟨rfl,⟨M,v,I,D,C⟩,H⟩;have c1:w1.cell? ⟨b,1,none⟩=some v:=by rw[bR I];rfl
 go_wp2_with(at_builtin;refine akn _ rfl _ _ 79 rfl B 5 i0 (.int .u8 0) 1 1 bN Q F J L rfl (by decide) _ _ _ rfl (D.alloc _) ⟨w1.heap.size,0,none⟩ 1 1 [.int .u8 c] rfl rfl ?c1 ?c2 ?c3 ?c4 ?c5 ?_)
 case c1=>
  intro j u A
  match j,A with
  |0,A=>simp at A;subst A;simp[Addr.add]
 case c2=>intro u O;simp at O;subst O;rfl
 case c3=>unfold maxLen;omega
 case c4=>omega
 case c5=>have:=H.size;simp;omega
 intro v' w2 K Y _;have U:b<w1.heap.size:=by
  rcases c7 b w1.heap.size with h'|h'
  ·exact h'
  ·simp[a_ h']at I
 have R:w2.heap[b]?=some (.cells #[.pointer (some ⟨b,0,none⟩),v] 102 (0,0)):=by
  rw[Y.block b (by simp;omega) (fun e=>C e.symm),Lib.alloc_old w1 _ b U];exact I
 have d1:w2.cell? ⟨b,1,none⟩=some v:=by rw[bR R];rfl
 have f1:w2.frozen? ⟨b,1,none⟩=false:=dW R 1;obtain⟨g,cap,rfl⟩:∃g cap,v'=.slice (some ⟨g,0,none⟩) (bs.length+1) cap:=by
  rcases K.2 with⟨_,X⟩|⟨g,cap,P,S,_⟩
  ·omega
  ·exact⟨g,cap,S⟩
 go_wp2
 go_ret
 refine⟨rfl,.inr ?_,?_⟩
 ·exact dV (T:=102) (e:=5) M R (bs':=bs++[.int .u8 c]) (by simpa using K) E_
 ·exact((H.alloc (by have:=H.size;omega) _).grown Y (by have:=H.size;simp;omega) (fun k hk=>(D.lt k hk).1)).setCell (p:=⟨b,1,none⟩) M _
theorem afj(s:e_):je s=hI (kH s 62 0) fun p=>hI (iM s 200 p) (yc s (s.size+1) (jC s 200 p)):=by
 unfold je kH;rw[F6]
theorem abx{o o':Obj}{r:Nat}(h:((w.alloc o).alloc o').grownBy w' (some r))(hr:w.heap.size<=r):ar w.heap.size w w':=
 (((cu _ _).alloc (aH _) _).alloc (by simp) _).grown h (by simp;omega) (by simp_all)
theorem FM(s:e_)(f:Nat)(acc:List _)(st:Nat×Bool)(h:st.2=true):nz s f acc st=(st,acc):=tR (.inl h) rfl
theorem MR(s:e_):∀f acc p,acc≠ []->p<=s.size->(nz s f acc (p,false)).1=yc s f acc.length p
 |0,acc,p,_,_=>rfl
 |f+1,acc,p,D,R=>by
  by_cases h:p<s.size
  ·have I:=zw (f:=f+1) (acc:=acc) (st:=(p,false)) (by omega) rfl (.inr h) rfl;rw[<-I,Nat.add_sub_cancel];simp only[yc];rw[if_neg (by omega)];by_cases K:(iM s (200-acc.length) p).2=true
   ·rw[FM _ _ _ _ K,rP K]
   ·rw[bq]at K;have H:=(rQ s (200-acc.length) p R).2;have Y:(acc++pa s (200-acc.length) p).length=acc.length+jC s (200-acc.length) p:=by rw[bS,CD s _ p R]
    rw[<-Y];have e:iM s (200-acc.length) p=((iM s (200-acc.length) p).1,false):=by rw[<-K]
    rw[e];exact MR s f _ _ (by simp[D]) H
  ·rw[tR (.inr ⟨D,by omega⟩) rfl];simp only[yc];simp_all
theorem vK(s:e_):(iU s).1=je s:=by
 unfold iU;rw[afj];have e:hI _ _=kH s 62 0:=rfl;rw[e];by_cases Y:(kH s 62 0).2=true
 ·rw[FM _ _ _ _ Y,rP Y]
 ·rw[bq]at Y;rw[oP Y];have H:=(t_ s 62 0 (by omega)).2;generalize kH s 62 0=st at *;have⟨p,b⟩:=st;subst Y;have R:=zw (s:=s) (f:=s.size+2) (st:=(p,false)) (by omega) rfl (.inl rfl) rfl;rw[<-R];simp at *;by_cases Y:(iM s 200 p).2=true
  ·rw[FM _ _ _ _ Y,rP Y]
  ·rw[bq]at Y;have I:=vz s 200 p Y;have K:=CD s 200 p H;have D:iM s 200 p=((iM s 200 p).1,false):=by rw[<-Y]
   rw[D,<-K];refine MR s _ _ _ ?_ (rQ s 200 p H).2;intro h;rw[h]at K;simp at K;omega
theorem FN{R:Nat×Bool}(h:R.2=true):placeOf R=(R.1):=if_pos h
theorem zq{R:Nat×Bool}(h:R.2=false):placeOf R= -1:=if_neg (by simp[h])
abbrev ie(B:Nat)(acc:List _)(w:ae):=bc 102 5 B B (bg acc) w
theorem Ou{p:af}{B r:Nat}{bs:List _}(h:cV 102 5 B B p bs w)(C:w.grownBy w' (some r))(hr:r<B):cV 102 5 B B p bs w':=by
 have⟨D,v,R,Y,K⟩:=h;have H:=Lib.BuilderAt.lt ⟨D,v,R,Y,K⟩;refine⟨D,v,?_,Y.kept C (.inr ?_),K⟩
 ·rw[C.block B H (by intro e;simp_all)];exact R
 ·intro e;have:=(Y.lt r e).1;omega
theorem ie.kept{B r:Nat}{acc:List _}(h:ie B acc w)(Y:w.grownBy w' (some r))(hr:r<B):ie B acc w':=
 h.imp (fun h=>Ou h Y hr) (fun h=>Ou h Y hr)
theorem ie.drewN{B:Nat}{acc:List _}(h:ie B acc w)(m:Nat):ie B acc (w.drewN m):=h
theorem ie.lt{B:Nat}{acc:List _}(h:ie B acc w):B<w.heap.size:=by
 rcases h with h|h<;>exact h.lt
theorem ie.new(w:ae):ie w.heap.size [] (w.alloc (.cells #[.pointer none,.slice none 0 0] 102)):=Lib.fresh_isBuilder 102 5 w
theorem agM(B:Nat)(acc:List _)(w:ae)(h:ie B acc w):
  aD Tryz.prog 66 #[.pointer (some ⟨B,0,none⟩)] w fun e w'=>e=.returned (.int .i64 acc.length)/\w'=w:=by
 have:=Tryz.Builder_Len B B _ w h
 rwa [show(bg acc).length=acc.length by simp[bg]]at this
theorem xR(B:Nat)(acc:List _)(w:ae)(h:ie B acc w):
  aD Tryz.prog 68 #[.pointer (some ⟨B,0,none⟩)] w fun e w'=>e=.returned (.string (str acc))/\ar B w w':=Tryz.Builder_String_any B B acc w h (by have:=h.lt;omega)
theorem Pn(acc:List _)(x:e_):bg acc++cw x=bg (acc++x.data.toList):=by
 simp[bg,cw]
theorem x5(B:Nat)(acc:List _)(x:e_)(w:ae)(h:ie B acc w)(C:acc.length+x.size<=1000000):
  aD Tryz.prog 63 #[.pointer (some ⟨B,0,none⟩),.string x] w fun e w'=>e=.returned (.tuple #[.int .i64 x.size,.nilIface])/\ie B (acc++x.data.toList) w'/\ar B w w':=by
 refine(WC B B _ x w h (by simp[bg];omega) (by have:=h.lt;omega)).mono ?_;rintro e w' ⟨H,Y,K⟩;rw[Pn]at Y;simp_all
def C6(NM:e_)(w:ae)(R:(Nat×Bool)×List UInt8)(e:Ending)(w':ae):Prop:=
 (R.1.2=false->e=.returned (.agg #[.string NM,.string (str R.2)]))/\(R.1.2=true->e=.panicked (m_ 2 (R.1.1:Int)))/\ar w.heap.size w w'
theorem Ge{w1:ae}{st:Nat×Bool}{l:List _}{R:(Nat×Bool)×List _}(Y:R=(st,l))(ga:st.2=true)(H:ar w.heap.size w w1):C6 NM w R (.panicked (m_ 2 (st.1))) w1:=by
 subst Y;exact⟨fun h=>by simp_all,fun _=>rfl,H⟩
theorem YD{w1:ae}{l:List _}{p:Nat}{R:(Nat×Bool)×List _}(Y:R=((p,false),l))(H:ar w.heap.size w w1):C6 NM w R (.returned (.agg #[.string NM,.string (str l)])) w1:=by
 subst Y;exact⟨fun _=>rfl,fun h=>cR h,H⟩
theorem Qt(s:e_)(m p:Nat)(Y:p<=s.size):(nV s m p).data.toList.map gb=pa s m p:=by
 unfold pa nV;simp only[rest];simp
theorem adi(l:List _):(str l).data.toList=l:=by simp[str]
def nk(s:e_):=tu s (gW s 62 0).1
theorem WT{o o':Obj}{r:Nat}(Y:((w.alloc o).alloc o').grownBy w' (some r))(hr:r≠w.heap.size):w'.heap[w.heap.size]?=some o:=by
 rw[Y.block _ (by simp;omega) (by simpa using fun h=>hr h.symm),bP _ _ (by simp),ck]
theorem Wp(s:e_)(w:ae)(hs:s.size<=1000):
  aD Tryz.prog 43 #[.string s] w fun e w'=>C6 (nk s) w (iU s) e w':=by
 generalize hR:iU s=R;have HR:=laid (show nz s (s.size+2) [] (kH s 62 0)=R from hR);clear hR;generalize hM:nk s=r;have HM:=laid (show tu s (gW s 62 0).1=r from hM);clear hM
 go_enter Tryz.func43,Tryz.ntmps43
 go_wp2_with fail
 have N:=xX (w.alloc (.cells #[.string ⟨#[]⟩,.string ⟨#[]⟩] 68)) s 0 2;have g:(w.alloc (.cells #[.string ⟨#[]⟩,.string ⟨#[]⟩] 68)).heap.size=w.heap.size+1:=by simp
 rw[g]at N;refine(MW _ _ s 0 2 _ 62 rfl N hs (by omega)).mono ?_;rw[HM.out];clear HM;rintro e w1 ⟨j,z,t,n⟩;have L:=t_ s 62 0 (by omega);have O:=WT n (by omega);have F:ar w.heap.size w w1:=abx n (by omega);clear n N g;generalize hQ:w.heap.size+1=Q at *;by_cases ga:(kH s 62 0).2=true
 ·obtain rfl:=z ga;exact⟨rfl,Ge (tR (.inl ga) HR.out) ga F⟩
 ·rw[bq]at ga;obtain rfl:=j ga;clear j z;have o:=laid (zw (by omega) ga (.inl rfl) HR.out);generalize(kH s 62 0).1=U at *;clear ga HR;have q:=t.lt;go_wp2_with fail
  refine(FF _ _ s U 2 _ 200 rfl (by omega) (t.alloc _) hs L.2).mono ?_;rintro e w2 ⟨j,z,p9,G⟩;have UR:=(ie.new w1).kept G q;have D:=G.block w.heap.size (by simp;omega) (by simp;omega);rw[bP _ _ (by omega),O]at D;have x:ar w.heap.size w w2:=(F.alloc F.size _).grown G (by simp;have:=F.size;omega) (by intro k hk;cases hk;omega);clear G t F O;have LK:=rQ s 200 U L.2;by_cases ga:(iM s 200 U).2=true
  ·obtain rfl:=z ga;exact⟨rfl,Ge (tR (.inl ga) o.out) ga x⟩
  ·rw[bq]at ga;obtain rfl:=j ga;clear j z;have H:=vz s 200 U ga;have b:=vN s 200 U;have i:=F3 s 200 U L.2;have T:=Qt s 200 U L.2;have Ec:Hid (s.size-(iM s 200 U).1<s.size+1/\nz s (s.size+1) ((nV s 200 U).data.toList.map gb) ((iM s 200 U).1,false)=R):=laid ⟨by omega,by
    have:=o.out;rw[show s.size+2-1=s.size+1 by omega]at this;rw[T,<-ga];exact this⟩
   clear o T;have AD:1<=(nV s 200 U).size/\(nV s 200 U).size<=200:=by omega
   generalize nV s 200 U=X at *;generalize(iM s 200 U).1=p2 at *;clear ga H b i L;generalize w1.heap.size=B at *;go_wp2_with fail
   refine(x5 B [] X _ UR (by simp;omega)).mono ?_;rintro e w3 ⟨rfl,u,Y⟩;have vq:=p9.below Y q;have I:=Y.block w.heap.size (by omega);rw[D]at I;have US:ar w.heap.size w w3:=x.trans (Y.mono (by omega));clear Y p9 x UR D;rw[List.nil_append]at u;go_wp2
   go_loopw [] (fun wr=>∃(acc:List UInt8) (p fuel:Nat),1<=acc.length/\acc.length<=200/\p<=s.size/\RD wr Q s p 2/\ie B acc wr/\wr.heap[w.heap.size]?=some (.cells #[.string ⟨#[]⟩,.string ⟨#[]⟩] 68)/\ar w.heap.size w wr/\Hid (s.size-p<fuel/\nz s fuel (acc.map gb) (p,false)=R)) (fun wr=>s.size-jW wr Q)
   case atStart=>exact⟨X.data.toList,p2,s.size+1,by simp;omega,by simp;omega,LK.2,vq,u,I,US,Ec⟩
   case round=>
    have⟨acc,p,fuel,T3,ha2,hp,C,m,f,J,HF⟩:=hrel;clear Ec vq u US LK AD I;by_cases c:p<s.size
    ·have HL:=laid (zw (by have:=HF.out.1;omega) rfl (.inr c) HF.out.2);go_wp2_with fail
     refine(Cn _ _ s p 2 C c).mono ?_;rintro e w4 ⟨rfl,mq,rfl⟩;go_wp2_with fail
     refine(agM B acc _ (m.drewN mq)).mono ?_;rintro e w4 ⟨rfl,rfl⟩;go_wp2_with fail
     refine(FF _ _ s p 2 _ (200-acc.length) (by omega) (by omega) (C.drewN mq) hs hp).mono ?_;rintro e w4 ⟨j,z,a,W⟩;have UT:=(m.drewN mq).kept W q;have P:=W.block w.heap.size (by have:=C.lt;simp;omega) (by simp;omega);have y:ar w.heap.size w w4:=(Go.below_drewN J mq).grown W (by have:=J.size;simpa using this) (by intro k hk;cases hk;omega);have LM:=rQ s (200-acc.length) p hp;have Z:=HL.out;rw[dY]at Z;by_cases ga:(iM s (200-acc.length) p).2=true
     ·obtain rfl:=z ga;exact⟨rfl,Ge (tR (.inl ga) Z) ga y⟩
     ·rw[bq]at ga;obtain rfl:=j ga;clear j z W;have A:w4.heap[w.heap.size]?=some (.cells #[.string ⟨#[]⟩,.string ⟨#[]⟩] 68):=P.trans f;clear P;have H:=vz s (200-acc.length) p ga;have b:=vN s (200-acc.length) p;have i:=F3 s (200-acc.length) p hp;have T:=Qt s (200-acc.length) p hp;have HL1:Hid (s.size-(iM s (200-acc.length) p).1<fuel-1/\nz s (fuel-1) ((acc++(nV s (200-acc.length) p).data.toList).map gb) ((iM s (200-acc.length) p).1,false)=R):=laid ⟨by have:=HF.out.1;omega,by
       rw[List.map_append,T,<-ga];exact Z⟩
      clear HL Z HF T;have AD:(nV s (200-acc.length) p).size+acc.length<=200:=by omega
      have hpm:p<(iM s (200-acc.length) p).1:=by omega
      have Bo:=laid C.jW;have aoU:=laid a.jW;generalize nV s (200-acc.length) p=X at *;generalize(iM s (200-acc.length) p).1=p4 at *;clear ga H b i;go_wp2_with fail
      refine(x5 B acc X _ UT (by omega)).mono ?_;rintro e w5 ⟨rfl,hB5,Y⟩;have y7:=a.below Y q;have S:=Y.block w.heap.size (by omega);rw[A]at S;have E:ar w.heap.size w w5:=y.trans (Y.mono (by omega));have ajD:=laid y7.jW;clear Y a y UT A;go_wp2
      go_roundw
      case rel=>go_light;exact⟨acc++X.data.toList,p4,fuel-1,by simp;omega,by simp;omega,LM.2,y7,hB5,S,E,HL1⟩
      case measure=>go_light;rw[Bo.out,ajD.out];omega
    ·have UU:s.size=p:=by omega
     have HPE:=laid UU;have d:=tR (.inr ⟨by intro h;have h0:=congrArg List.length h;rw[dY,List.length_nil]at h0;omega,by simp only;omega⟩) HF.out.2;have ajE:=laid d;clear d UU HF;go_wp2_with fail
     refine(Gq _ _ s p 2 C HPE.out).mono ?_;rintro e w4 ⟨rfl,mq,rfl⟩;go_wp2_with fail
     refine(xR B acc _ (m.drewN mq)).mono ?_;rintro e w5 ⟨rfl,Y⟩;go_wp2_with fail
     refine(Fv (str acc) _ (by rw[h_];omega)).mono ?_;rintro e l ⟨rfl,UW⟩;have E:ar w.heap.size w w5:=(Go.below_drewN J mq).trans (Y.mono (by omega));have UX:ar w.heap.size w l:=E.trans (UW.mono E.size);have K:l.heap[w.heap.size]?=some (.cells #[.string ⟨#[]⟩,.string ⟨#[]⟩] 68):=by
      have y9:=Y.size;have hrl:=C.lt;simp at y9;rw[UW.block w.heap.size (by omega),Y.block w.heap.size (by omega)];exact f
     have n0:l.cell? ⟨w.heap.size,0,none⟩=some (.string ⟨#[]⟩):=by rw[aK _ _ _ _ _ _ K];rfl
     have n1:l.cell? ⟨w.heap.size,1,none⟩=some (.string ⟨#[]⟩):=by rw[aK _ _ _ _ _ _ K];rfl
     have z0:l.frozen? ⟨w.heap.size,0,none⟩=false:=cK _ _ _ _ _ K;have z1:l.frozen? ⟨w.heap.size,1,none⟩=false:=cK _ _ _ _ _ K;have M:str ((str acc).data.toList.map gb)=str (acc.map gb):=by rw[adi]
     rw[M];generalize ajF:acc.map gb=V at *;have⟨m0,m1,UY⟩:=pJ (.string r) (.string (str V)) n0 n1;have Fa:ar w.heap.size w ((l.setCell ⟨w.heap.size,0,none⟩ (.string r)).setCell ⟨w.heap.size,1,none⟩ (.string (str V))):=UX.grown UY UX.size (by intro k hk;cases hk;exact aH _);have HG:=laid (YD (NM:=r) ajE.out Fa);clear ajF M K UY;go_wp2
     generalize(l.setCell ⟨w.heap.size,0,none⟩ (.string r)).setCell ⟨w.heap.size,1,none⟩ (.string (str V))=w8 at *;refine bodyPost_ret (v:=.agg #[.string r,.string (str V)]) ?_ rfl HG.out;simp[results,Tryz.results43,go_sem,m0,m1]
theorem xD(s:e_)(w:ae)(Y:s.size<=1000):
  aD Tryz.prog 43 #[.string s] w fun e w'=>((je s).2=false->e=.returned (.agg #[.string (nk s),.string (str (iU s).2)]))/\((je s).2=true->e=.panicked (m_ 2 ((je s).1)))/\ar w.heap.size w w':=by
 have:=Wp s w Y;unfold C6 at this
 rwa [vK]at this
theorem ND{k p:Nat}{R:Nat×Bool}(hk:k<5)(Y:p<s.size)(h:jB s (5-k) p=R):hI (lh s p) (jB s (5-(k+1)))=R:=by
 rw[<-h,show 5-k=(5-(k+1))+1 by omega];simp only[jB];rw[if_neg (by omega)]
theorem Gf{k p:Nat}{R:Nat×Bool}(Y:s.size=p)(h:jB s (5-k) p=R):R=(p,false):=by
 rw[<-h];generalize 5-k=m;cases m with
 |zero=>simp[jB];simp_all
 |succ m=>simp[jB];simp_all
theorem YE{p:Nat}{R:Nat×Bool}(Y:p<s.size)(h:jB s (5-5) p=R):(p,true)=R:=by
 rw[<-h];simp[jB,ep];simp_all
theorem Ov(s:e_)(p:Nat)(h:(lh s p).2=false)(M:p<=s.size):p<(lh s p).1:=by
 unfold lh at *;have⟨R,J⟩:=su h;rw[oP R];have L:=N7 s 64 p R;have I:(gW s 64 p).1<=s.size:=by omega
 have:=ny (G7 s _ I) fun q A=>ny (rQ s 30 q A) fun U Y=>ny (nO s 43 U Y) fun B K=>ny (nO s 10 B K) fun C H=>ny (vM s iQ (jC s 30 q) (jC s 30 q) C H) fun F D=>nO s 10 F D;omega
theorem agN:(Tryz.prog.info? 131).map (fun i=>(i.zero,i.size,i.bytes))=some (some (.agg #[.string ⟨#[]⟩,.string ⟨#[]⟩,.string ⟨#[]⟩]),3,48):=by kernel_rfl
def Ih(w:ae)(R:Nat×Bool)(Y:List (e_×e_×e_))(e:Ending)(w':ae):Prop:=
 (R.2=false->∃V,e=.returned V/\w'.ownsRow (w.heap.size+1) 131 3 V Y.length (jY Y))/\(R.2=true->e=.panicked (m_ 3 (R.1:Int)))/\ar w.heap.size w w'
theorem NG{w1:ae}{st R:Nat×Bool}{Y:List _}(H:st=R)(ga:st.2=true)(B:ar w.heap.size w w1):Ih w R Y (.panicked (m_ 3 (st.1))) w1:=by
 subst H;exact⟨fun h=>by simp_all,fun _=>rfl,B⟩
theorem M8{w1:ae}{R:Nat×Bool}{L Y:List _}{V:af}(F:R.2=false)(H:L=Y)(C:w1.ownsRow (w.heap.size+1) 131 3 V L.length (jY L))(B:ar w.heap.size w w1):Ih w R Y (.returned V) w1:=by
 subst H;exact⟨fun _=>⟨V,rfl,C⟩,fun h=>by simp_all,B⟩
theorem XI{k p:Nat}{L Y:List _}(hk:k<5)(H:p<s.size)(ga:(lh s p).2=false)(h:L++iF s (5-k) p=Y):(L++[(xh s p,xi s p,xj s p)])++iF s (5-(k+1)) (lh s p).1=Y:=by
 rw[<-h,show 5-k=(5-(k+1))+1 by omega];simp only[iF];rw[if_neg (by omega),if_neg (by simp_all),af4 s p (by omega) ga,List.append_assoc];rfl
theorem NH{k p:Nat}{L Y:List _}(H:s.size<=p)(h:L++iF s k p=Y):L=Y:=by
 rw[<-h];cases k with
 |zero=>simp[iF]
 |succ k=>simp[iF];simp_all
theorem Aa{b:Nat}{e:au}{k:Nat}{xs:List _}(h:wr.ownsRow b e k v n xs)(r:Nat)(hr:r<b\/wr.heap.size<=r):v.ownBlock=none\/v.ownBlock≠some r:=by
 cases Y:v.ownBlock with
 |none=>exact .inl rfl
 |some g=>
  right;have:=h.lt g Y;intro K;cases K;omega
theorem GK{B B':Nat}{e:au}{k:Nat}{xs:List _}(h:w.ownsRow B e k v n xs)(C:B'<=B):w.ownsRow B' e k v n xs:=by
 refine⟨h.1,?_⟩;rcases h.2 with h'|⟨g,cap,Y,K,D,H⟩
 ·simp_all
 ·exact .inr ⟨g,cap,Y,K,by omega,H⟩
theorem MS(s:e_)(w:ae)(hs:s.size<=1000):
  aD Tryz.prog 90 #[.string s] w fun e w'=>Ih w (jB s 5 0) (iF s 5 0) e w':=by
 have⟨i0,hi,hz,hsi,hby⟩:=dy agN;generalize hR:jB s 5 0=R;have HR:=laid hR;clear hR;generalize d:iF s 5 0=LR;have q:=laid (show []++iF s 5 0=LR from d);clear d
 go_enter Tryz.func90,Tryz.ntmps90
 go_wp2
 go_loopw [4] (fun v wr=>∃(L:List (e_×e_×e_)) (p:Nat),L.length<=5/\p<=s.size/\RD wr w.heap.size s p 3/\wr.ownsRow (w.heap.size+1) 131 3 v L.length (jY L)/\ar w.heap.size w wr/\Hid (jB s (5-L.length) p=R)/\Hid (L++iF s (5-L.length) p=LR)) (fun _ wr=>s.size-jW wr w.heap.size)
 case atStart=>exact⟨[],0,by simp,by omega,xX w s 0 3,World.ownsRow_nil _ _ _ _,(cu _ _).alloc (aH _) _,HR,q⟩
 case round=>
  have⟨L,p,hk,hp,F,A,H,O,b⟩:=hrel;clear HR q;obtain⟨av,cap,rfl⟩:∃a cap,u4=.slice a L.length cap:=by
   rcases A.2 with⟨G,t⟩|⟨g,cap,cur,G,_⟩
   ·exact⟨none,0,by rw[G,t]⟩
   ·exact⟨_,cap,G⟩
  generalize hn:L.length=n at *;have E:=laid hn;clear hn;by_cases l:n<5
  ·by_cases D:p<s.size
   ·have z:=laid (ND l D O.out);clear O;go_wp2_with fail
    refine(Cn _ _ s p 3 F D).mono ?_;rintro e w3 ⟨rfl,m,rfl⟩;go_wp2_with fail
    refine(X8 _ _ s p 3 (F.drewN m) hs hp).mono ?_;rintro e w4 ⟨G,t,x,X⟩;have K:=World.ownsRow.kept (w:=wr.drewN m) A X (Aa A _ (.inl (by omega)));have Y:ar w.heap.size w w4:=(Go.below_drewN H m).grown X (by have:=H.size;simpa using this) (by intro k hk;cases hk;exact aH _);have LM:=PY s p hp;by_cases ga:(lh s p).2=true
    ·obtain rfl:=t ga;exact⟨rfl,NG (sz z.out ga) ga Y⟩
    ·rw[bq]at ga;obtain rfl:=G ga;clear G t;have c:=laid (sO z.out ga);have W:=laid (XI l D ga b.out);have hmo:=Ov s p ga hp;have Bo:=laid F.jW;unfold oB;generalize(lh s p).1=p4 at *;generalize xh s p=S at *;generalize xi s p=P at *;generalize xj s p=Q at *;clear ga z b X;have aoV:=x.lt;go_wp2_with(first
      |(at_builtin;refine akn _ rfl _ _ 90 rfl (w.heap.size+1) 131 i0 (.agg #[.string ⟨#[]⟩,.string ⟨#[]⟩,.string ⟨#[]⟩]) 3 48 Tryz.underlying90 hi hz hsi hby rfl (by decide) _ _ _ rfl (K.alloc _) ⟨w4.heap.size,0,none⟩ 1 1 [.string S,.string P,.string Q] rfl rfl ?c1 ?c2 ?c3 ?c4 ?c5 ?_)
      |go_in)
     case c1=>
      intro j u M
      match j,M with
      |0,M=>simp at M;subst M;simp[Addr.add,go_sem]
      |1,M=>simp at M;subst M;simp[Addr.add,go_sem]
      |2,M=>simp at M;subst M;simp[Addr.add,go_sem]
     case c2=>intro u hu;simp at hu;rcases hu with rfl|rfl|rfl<;>rfl
     case c3=>unfold maxLen;omega
     case c4=>omega
     case c5=>simp;omega
     intro v' w7 B U _;have o:=Aa K w.heap.size (.inl (by omega));have y:RD w7 w.heap.size s p4 3:=by
      have ha:=x.alloc (.cells #[.string S,.string P,.string Q] 131);unfold RD at *;rw[U.block _ (by simp;omega) (by rcases o with h|h<;>simp_all;exact fun h'=>h h'.symm)];exact ha
     have V:ar w.heap.size w w7:=(Y.alloc Y.size _).grown U (by simp;have:=Y.size;omega) (fun k hk=>by have:=K.lt k hk;omega);have Z:w7.ownsRow (w.heap.size+1) 131 3 v' (L++[(S,P,Q)]).length (jY (L++[(S,P,Q)])):=by
      rw[N_,bS,E.out];exact B
     have r:=laid y.jW;have HS2:Hid (jB s (5-(L++[(S,P,Q)]).length) p4=R):=laid (by rw[bS,E.out];exact c.out);have HL2:Hid ((L++[(S,P,Q)])++iF s (5-(L++[(S,P,Q)]).length) p4=LR):=laid (by rw[bS,E.out];exact W.out);obtain⟨g,DV,n',rfl⟩:∃g cap n',v'=.slice (some ⟨g,0,none⟩) n' cap:=by
      rcases B.2 with⟨_,h0⟩|⟨g,cap,cur,hv,_⟩
      ·omega
      ·exact⟨g,cap,_,hv⟩
     clear B U o K c W;go_wp2
     go_roundw
     case rel=>go_light;exact⟨L++[(S,P,Q)],p4,by rw[bS,E.out];simp;omega,LM.2,y,Z,V,HS2,HL2⟩
     case measure=>go_light;rw[Bo.out,r.out];omega
   ·have C:s.size=p:=by omega
    have N:=laid C;have I:=Gf C O.out;have J:=laid (show R.2=false by rw[I]);have T:=laid (NH (by omega) b.out);clear I C O;go_wp2_with fail
    refine(Gq _ _ s p 3 F N.out).mono ?_;rintro e w3 ⟨rfl,m,rfl⟩;go_wp2_with fail
    refine(FG _ _ s p 3 (F.drewN m) (by rw[N.out])).mono ?_;rintro e w4 ⟨rfl,i,rfl⟩;go_wp2
    go_ret
    exact M8 J.out T.out (by rw[E.out];exact A) (Go.below_drewN H _)
  ·have f:n=5:=by omega
   have HK:=laid f;clear f;by_cases D:p<s.size
   ·have z:=laid (YE D (HK.out▸O.out));clear O;go_wp2_with fail
    refine(MG _ _ s p 3 F (by omega)).mono ?_;rintro e w4 ⟨rfl,i,rfl⟩;exact⟨rfl,NG (st:=(p,true)) z.out rfl (Go.below_drewN H i)⟩
   ·have C:s.size=p:=by omega
    have N:=laid C;have I:=Gf C O.out;have J:=laid (show R.2=false by rw[I]);have T:=laid (NH (by omega) b.out);clear I C O;go_wp2_with fail
    refine(FG _ _ s p 3 F (by rw[N.out])).mono ?_;rintro e w4 ⟨rfl,i,rfl⟩;go_wp2
    go_ret
    exact M8 J.out T.out (by rw[E.out];exact A) (Go.below_drewN H i)
def qj(w:ae)(s:e_)(st:Nat×Bool)(v:af)(L:List (e_×e_×e_))(wr:ae):=
 RF wr w.heap.size s st.1 st.2/\ar w.heap.size w wr/\wr.ownsRow (w.heap.size+1) 118 3 v L.length (jY L)
theorem Sl{b:Nat}{e:au}{k:Nat}{xs:List _}(h:wr.ownsRow b e k v n xs)(r:Nat)(hr:r<b\/wr.heap.size<=r):v.ownBlock=none\/v.ownBlock≠some r:=by
 cases Y:v.ownBlock with
 |none=>exact .inl rfl
 |some g=>
  right;have:=h.lt g Y;intro K;cases K;omega
theorem qj.step{w:ae}{s:e_}{st Y:Nat×Bool}{v:af}{L:List _}{wr w':ae}(h:qj w s st v L wr)(B:oQ wr w.heap.size s Y w'):qj w s Y v L w':=by
 have⟨I,K,H⟩:=h;have⟨R,D⟩:=B;exact⟨R,K.grown D K.size (by simp),H.kept D (Sl H _ (.inl (by omega)))⟩
def ma(w:ae)(s:e_)(x:Nat)(st:Nat×Bool)(v:af)(L:List (e_×e_×e_))(n b m:e_)(wr:ae):=
 qj w s st v L wr/\XR wr x n b m/\w.heap.size<x/\(v.ownBlock=none\/v.ownBlock≠some x)
theorem ma.step{w:ae}{s:e_}{x:Nat}{st Y:Nat×Bool}{v:af}{L:List _}{n b m:e_}{wr w':ae}(h:ma w s x st v L n b m wr)(H:oQ wr w.heap.size s Y w'):ma w s x Y v L n b m w':=
 ⟨h.1.step H,h.2.1.grown H.2 (by have:=h.2.2.1;omega),h.2.2.1,h.2.2.2⟩
theorem qj.set{x:Nat}{st:Nat×Bool}{L:List _}(h:qj w s st v L wr)(H:w.heap.size<x)(Y:v.ownBlock=none\/v.ownBlock≠some x)(j:Nat)(u:af):qj w s st v L (wr.setCell ⟨x,j,none⟩ u):=
 ⟨h.1.set _ (by simp;omega),h.2.1.setCell (by simp;omega) _,h.2.2.kept (jH wr x j u) Y⟩
theorem ma.yF{x:Nat}{st:Nat×Bool}{L:List _}{n b m:e_}(h:ma w s x st v L n b m wr)(u:e_):ma w s x st v L u b m (wr.setCell ⟨x,0,none⟩ (.string u)):=
 ⟨h.1.set h.2.2.1 h.2.2.2 _ _,h.2.1.yF u,h.2.2⟩
theorem ma.yG{x:Nat}{st:Nat×Bool}{L:List _}{n b m:e_}(h:ma w s x st v L n b m wr)(u:e_):ma w s x st v L n u m (wr.setCell ⟨x,1,none⟩ (.string u)):=
 ⟨h.1.set h.2.2.1 h.2.2.2 _ _,h.2.1.yG u,h.2.2⟩
theorem ma.Aq{x:Nat}{st:Nat×Bool}{L:List _}{n b m:e_}(h:ma w s x st v L n b m wr)(u:e_):ma w s x st v L n b u (wr.setCell ⟨x,2,none⟩ (.string u)):=
 ⟨h.1.set h.2.2.1 h.2.2.2 _ _,h.2.1.Aq u,h.2.2⟩
theorem qj.agO{st:Nat×Bool}{L:List _}(h:qj w s st v L wr):
  ma w s wr.heap.size st v L ⟨#[]⟩ ⟨#[]⟩ ⟨#[]⟩ (wr.alloc (.cells #[.string ⟨#[]⟩,.string ⟨#[]⟩,.string ⟨#[]⟩] 118)):=by
 have⟨Y,K,H⟩:=h;have D:=by have:=block_lt_of_cell Y.c0;omega
 refine⟨⟨?_,K.alloc K.size _,H.alloc _⟩,ck wr _,D,Sl H _ (.inr (aH _))⟩;unfold RF at *;rw[Below.heap_alloc _ _ _ D];exact Y
def ug(s:e_)(I:Nat)(st:Nat×Bool)(q:Nat)(bd:Bool)(mk:e_):=
 (st.2=true/\(q,bd)=st/\mk=⟨#[]⟩)\/
 (st.2=false/\st.1<=q/\q<=st.1+hD iQ (rest s st.1) I/\mk=cut s st.1 q/\(bd=true->q=st.1+hD iQ (rest s st.1) I/\hD iQ (rest s st.1) I<I))
theorem YF(s:e_)(I:Nat)(st:Nat×Bool):ug s I st st.1 st.2 ⟨#[]⟩:=by
 have⟨p,b⟩:=st;cases b with
 |true=>exact .inl ⟨rfl,rfl,rfl⟩
 |false=>exact .inr ⟨rfl,aH _,by simp,by unfold cut;rw[ep];rfl,fun h=>cR h⟩
theorem ZU{st:Nat×Bool}(h:ug s I st q bd mk)(H:st.1<=s.size):mk.size<=I/\q<=s.size:=by
 rcases h with⟨_,Y,rfl⟩|⟨_,Y,K,rfl,_⟩
 ·rw[<-Y]at H;exact⟨Nat.zero_le _,H⟩
 ·have:=nN iQ (rest s st.1) I;rw[j6]at this;rw[xV _ _ _ (by omega)];omega
theorem Ow{st:Nat×Bool}(h:ug s I st q bd mk)(B:st.1<=s.size)(hd:bd=true\/¬mk.size<I):
  (q,bd)=hI st (jN s iQ I I)/\mk=r6 s I st:=by
 rcases h with⟨Y,H,rfl⟩|⟨Y,H,A,rfl,R⟩
 ·rw[rP Y];exact⟨H,by unfold r6;simp_all⟩
 ·have hr:=nN iQ (rest s st.1) I;rw[j6]at hr;have D:q=st.1+hD iQ (rest s st.1) I/\(bd=true↔hD iQ (rest s st.1) I<I):=by
   rcases hd with hd|hd
   ·simp_all
   ·rw[xV _ _ _ (by omega)]at hd;refine⟨by omega,fun K=>(R K).2,fun K=>?_⟩;omega
  rw[oP Y];refine⟨?_,by unfold r6;simp_all⟩;unfold jN;rw[<-D.1];cases bd with
  |true=>rw[decide_eq_true (D.2.1 rfl)]
  |false=>rw[decide_eq_false (fun K=>by simp_all)]
theorem GN{st:Nat×Bool}(h:ug s I st q false mk)(F:st.1<=s.size)(H:mk.size<I)(C:∀B,iQ s[q]=false):ug s I st q true mk:=by
 rcases h with⟨K,Y,rfl⟩|⟨K,Y,R,rfl,A⟩
 ·rw[<-Y]at K;simp_all
 ·have hr:=nN iQ (rest s st.1) I;rw[j6]at hr;rw[xV _ _ _ (by omega)]at H;have B:hD iQ (rest s st.1) I=q-st.1:=by
   by_cases D:q<s.size
   ·exact vx iQ _ I _ _ (by omega) (by rw[oO s _ q Y D];simp_all)
   ·omega
  exact .inr ⟨K,Y,R,rfl,fun _=>⟨by omega,by omega⟩⟩
theorem ZV{st:Nat×Bool}(h:ug s I st q false mk)(F:st.1<=s.size)(H:mk.size<I)(B:q<s.size)(C:iQ s[q]=true):
  ug s I st (q+1) false (mk++⟨#[s[q]]⟩):=by
 rcases h with⟨K,Y,rfl⟩|⟨K,Y,D,rfl,R⟩
 ·rw[<-Y]at K;simp_all
 ·rw[xV _ _ _ (by omega)]at H;have:=vw iQ (rest s st.1) I (q-st.1) _ (by omega) (by omega) (by rw[oO s _ q Y B];exact C);refine .inr ⟨K,by omega,by omega,?_,fun h=>cR h⟩;have e:=PU s _ q Y B
  rwa [BO s q B]at e
end
end Go.Proofs.YtdcjnhipenbcfaaGreatDoor
