/-
  Own text. Part 7 of what the claim rests on.
-/
import Derived.Shelf.Strings.OnBuilder
import Derived.Shelf.SlIterI.Nil
import Derived.Shelf.SortM.Plain
import Derived.Shelf.SortM.SortNone
import Derived.Ground.GgzProg
import Derived.Ground.SlgmProg
import Derived.Test.YtdcjnhipenbcfaaGreatDoorProg
import Derived.Shelf.Strings.Builder1
import Derived.Shelf.Small.Strs
import Derived.Shelf.LaysM
import Derived.Shelf.Strconv.Itoa3
import Derived.OwnWalk
import Derived.Deep.RegionHeld3
import Derived.Laws.BytesString
import Derived.Maps.RangeWalk
import Derived.Maps.OwnOps
import Derived.Maps.Views
import Derived.Lib.MinMax
import Derived.Sort.KeysCollected
import Derived.Test.YtdcjnhipenbcfaaGreatDoorPk6
set_option linter.unusedVariables false
set_option linter.unusedSectionVars false
set_option linter.unusedSimpArgs false
set_option maxRecDepth 100000
set_option maxHeartbeats 16000000
open Array renaming getElem?_eq_getElem->af8,getElem?_eq_some_iff->agy,getElem_setIfInBounds_self->agK,getElem_setIfInBounds_ne->agS,replicate->agT,length_toList->agV,getElem?_eq_none->ahg,getElem_append->ahm,getD->ahX
open Bool renaming not_eq_true->agc,not_eq_false'->ahD
open ByteArray renaming size_extract->agG
open Go.Instr renaming makeSlice->ahV
open Go.IntKind renaming i64->ahQ
open Go.IntWalk renaming i64_in->ahk,wrap64_in->ahN
open Go.Lib renaming IsBuilder->agn,byteCells->ago,indexByte->agq,cell_of_heap->agu,strCells->ahb,BuilderAt->ahq,frozen_of_heap->ahz
open Go.Lib.BuilderAt renaming put->ahK
open Go.Oper renaming upon_value->ahW
open Go.Proofs.Tryz renaming underlying3->af7,underlying9->af9,underlying79->agd,zeroValue3->age,underlying0->agf,underlying5->agh,sizeOf3->agi,underlying100->agj,zeroValue0->agk,isAgg3->agp,sizeOf0->ags,ntmps45->agt,isAgg0->agz,func45->agB,zeroValue9->agC,zeroValue5->agD,underlying113->agE,underlying4->agH,zeroValue79->agJ,zeroValue4->agN,sizeOf9->agO,sizeOf5->agP,isAgg9->agX,isAgg5->agY,underlying102->ag0,underlying159->ag1,sizeOf79->ag3,zeroValue100->ag4,zeroValue102->ag5,underlying25->ag7,sizeOf4->ag9,isAgg79->ag_,zeroValue25->aha,isAgg4->ahe,sizeOf100->ahh,sizeOf102->ahi,results58->ahj,isAgg100->ahn,isAgg102->aho,sizeOf25->ahp,underlying139->ahs,underlying170->aht,isAgg25->ahu,underlying204->ahv,underlying185->ahw,underlying176->ahx,ntmps89->ahB,ntmps58->ahC,underlying20->ahE,zeroValue139->ahF,zeroValue170->ahG,zeroValue204->ahH,zeroValue185->ahI,zeroValue176->ahJ,func89->ahO,func58->ahP,zeroValue20->ahS
open Go.RowKit.Below renaming refl->aga,heap_alloc->ahT
open Go.Value renaming int->ah1
open Go.World renaming cell?_alloc_past->agr,cell?->agW
open Int renaming toNat_of_nonneg->ahr,natCast_emod->ahU
open List renaming length_append->af6,getElem?_eq_getElem->af_,countP_append->agb,nil_append->agl,length_nil->agm,length_cons->agw,getD_eq_getElem?_getD->agx,cons_append->agL,length_singleton->agM,length_map->agQ,mem_of_getElem?->agU,mem_singleton->ag2,drop_eq_getElem_cons->ag8,length_take->ahc,contains_iff_mem->ahl,append_assoc->ahL,take_add_one->ahM,mem_append->ahY,take_left'->ahZ,range_succ->ah0
open Nat renaming le_refl->af5,zero_le->agZ,add_sub_cancel_left->ahd,lt_or_ge->ahy,add_sub_cancel->ahA
open Option renaming map_eq_some_iff->ahf
open UInt8 renaming ofNat->ahR
namespace Go.Proofs.YtdcjnhipenbcfaaGreatDoor
variable {a ref s:ByteArray}{fn:FuncId}{ks:List Nat}{g i k m n q r y z:Nat}{o o':Obj}{e t t':TypeId}{v:Value}{w w' wr:World}
namespace Ph
open Conc Ren
abbrev eF(site:List _)(al:List (Nat×Value))(j:Nat->Value):=ru 122 24 site (sA al) j
abbrev lT(k q st:Nat):Value:=.agg #[iv k,iv q,iv st]
def aE(X P:ByteArray)(k q st n:Nat):=[(0,.string X),(1,.string P),(2,lT k q st),(3,iv n)]
def ZE:=aE .empty .empty 0 0 0 1
noncomputable abbrev qG (site:List _) (al:List _) (v:Value):=aY PR 60 ((eF site al fun _=>undef).finish v) []
def VQ(a:List _)(Rf:Nat):=a++[(4,ptr Rf)]
def VS(a:List _)(Rf Sg:Nat):=a++[(4,ptr Rf),(5,ptr Sg)]
def F3(a:List _)(Rf Sg By:Nat):=a++[(4,ptr Rf),(5,ptr Sg),(6,ptr By)]
def X8(Mp:Nat):Value:=.agg #[.int .i32 0,.int .u32 0,.map (some Mp)]
noncomputable def VT:=(aY PR 60 (Frame.enter PR 122 #[.string .empty,.string .empty,lT 0 0 0,iv 1] .normal) []).1.todo
noncomputable def VU:=(qG VT ZE (ptr 0)).1.todo
noncomputable def VV:=(qG VU (VQ ZE 0) (ptr 0)).1.todo
noncomputable def VX:=(qG VV (VS ZE 0 0) (ptr 0)).1.todo
noncomputable def VY:=(qG VX (F3 ZE 0 0 0) (.map (some 0))).1.todo
noncomputable def VZ:=(qG VY (F3 ZE 0 0 0++[(11,X8 0)]) (ptr 0)).1.todo
noncomputable def TJ:=(qG VZ (F3 ZE 0 0 0++[(12,ptr 0)]) (ptr 0)).1.todo
def mT(a:List _)(Rf Sg By Fp:Nat):=F3 a Rf Sg By++[(9,ptr Fp)]
noncomputable def sE1:=(qG TJ (mT ZE 0 0 0 0++[(12,ptr 0)]) undef).1.todo
noncomputable def sE2:=(qG sE1 (mT ZE 0 0 0 0) (.string .empty)).1.todo
noncomputable def sE3:=(qG sE2 (mT ZE 0 0 0 0++[(13,.string .empty)]) (.string .empty)).1.todo
noncomputable def Se:=(qG sE3 (mT ZE 0 0 0 0++[(13,.string .empty),(14,.string .empty)]) (lT 0 0 0)).1.todo
noncomputable def TK:=(qG Se (mT ZE 0 0 0 0++[(13,.string .empty),(14,.string .empty),(15,lT 0 0 0)]) (.slice none 0 0)).1.todo
noncomputable def sE6:=(qG TK (mT ZE 0 0 0 0++[(16,.slice none 0 0),(17,iv 1),(18,cM 0 0 0 0)]) unit).1.todo
noncomputable def sE7:=(qG sE6 (mT ZE 0 0 0 0) (ptr 0)).1.todo
section
variable(X P:ByteArray)(k q st n Rf Sg By Mp Fd Fp:Nat)(v:Value)(J:Nat->Value)(l:List Frame)
noncomputable def EB0:=aY PR 60 (Frame.enter PR 122 #[.string X,.string P,lT k q st,iv n] .normal) l
noncomputable def EB1:=aY PR 60 ((eF VT (aE X P k q st n) J).finish (ptr Rf)) l
noncomputable def EB2:=aY PR 60 ((eF VU (VQ (aE X P k q st n) Rf) J).finish (ptr Sg)) l
noncomputable def EMM:=aY PR 60 ((eF VV (VS (aE X P k q st n) Rf Sg) J).finish (ptr By)) l
noncomputable def EB3:=aY PR 60 ((eF VX (F3 (aE X P k q st n) Rf Sg By) J).finish (.map (some Mp))) l
noncomputable def EAL:=aY PR 60 ((eF VY (F3 (aE X P k q st n) Rf Sg By++[(11,X8 Mp)]) J).finish (ptr Fd)) l
noncomputable def EFS:=aY PR 60 ((eF VZ (F3 (aE X P k q st n) Rf Sg By++[(12,ptr Fd)]) J).finish (ptr Fp)) l
noncomputable def EE1:=aY PR 60 ((eF TJ (mT (aE X P k q st n) Rf Sg By Fp++[(12,ptr Fd)]) J).finish undef) l
noncomputable def EE2:=aY PR 60 ((eF sE1 (mT (aE X P k q st n) Rf Sg By Fp) J).finish (.string X)) l
noncomputable def EE3:=aY PR 60 ((eF sE2 (mT (aE X P k q st n) Rf Sg By Fp++[(13,.string X)]) J).finish (.string P)) l
noncomputable def EE4:=aY PR 60 ((eF sE3 (mT (aE X P k q st n) Rf Sg By Fp++[(13,.string X),(14,.string P)]) J).finish (lT k q st)) l
noncomputable def EE5:=aY PR 60 ((eF Se (mT (aE X P k q st n) Rf Sg By Fp++[(13,.string X),(14,.string P),(15,lT k q st)]) J).finish v) l
noncomputable def EE6:=aY PR 60 ((eF TK (mT (aE X P k q st n) Rf Sg By Fp++[(16,v),(17,iv n),(18,cM By Rf Sg Fp)]) J).finish unit) l
noncomputable def EE7:=aY PR 60 ((eF sE6 (mT (aE X P k q st n) Rf Sg By Fp) J).finish (ptr Fd)) l
end
section
variable{X P:ByteArray}{k q st n Rf Sg By Mp Fd Fp:Nat}{v:Value}{J:Nat->Value}{l cs:List Frame}{c:Frame}
theorem eb0:look [0,1,2,3] (EB0 X P k q st n l)=aP 122 24 l VT (aE X P k q st n) none none:=by kernel_rfl
theorem eb1:look [0,1,2,3,4] (EB1 X P k q st n Rf J l)=aP 122 24 l VU (VQ (aE X P k q st n) Rf) none none:=by kernel_rfl
theorem eb2:look [0,1,2,3,4,5] (EB2 X P k q st n Rf Sg J l)=aP 122 24 l VV (VS (aE X P k q st n) Rf Sg) none none:=by kernel_rfl
theorem emm:look [0,1,2,3,4,5,6] (EMM X P k q st n Rf Sg By J l)=aP 122 24 l VX (F3 (aE X P k q st n) Rf Sg By) none none:=by kernel_rfl
theorem eb3:look [0,1,2,3,4,5,6,11] (EB3 X P k q st n Rf Sg By Mp J l)=aP 122 24 l VY (F3 (aE X P k q st n) Rf Sg By++[(11,X8 Mp)]) none none:=by kernel_rfl
theorem eal:look [0,1,2,3,4,5,6,12] (EAL X P k q st n Rf Sg By Mp Fd J l)=aP 122 24 l VZ (F3 (aE X P k q st n) Rf Sg By++[(12,ptr Fd)]) none none:=by kernel_rfl
theorem efs:look [0,1,2,3,4,5,6,9,12] (EFS X P k q st n Rf Sg By Fd Fp J l)=aP 122 24 l TJ (mT (aE X P k q st n) Rf Sg By Fp++[(12,ptr Fd)]) none none:=by kernel_rfl
theorem ee1:look [0,1,2,3,4,5,6,9] (EE1 X P k q st n Rf Sg By Fd Fp J l)=aP 122 24 l sE1 (mT (aE X P k q st n) Rf Sg By Fp) none (some (9,ptr Rf)):=by kernel_rfl
theorem ee2:look [0,1,2,3,4,5,6,9,13] (EE2 X P k q st n Rf Sg By Fp J l)=aP 122 24 l sE2 (mT (aE X P k q st n) Rf Sg By Fp++[(13,.string X)]) none (some (9,ptr Sg)):=by kernel_rfl
theorem ee3:look [0,1,2,3,4,5,6,9,13,14] (EE3 X P k q st n Rf Sg By Fp J l)=aP 122 24 l sE3 (mT (aE X P k q st n) Rf Sg By Fp++[(13,.string X),(14,.string P)]) none (some (75,ptr By)):=by kernel_rfl
theorem ee4:look [0,1,2,3,4,5,6,9,13,14,15] (EE4 X P k q st n Rf Sg By Fp J l)=aP 122 24 l Se (mT (aE X P k q st n) Rf Sg By Fp++[(13,.string X),(14,.string P),(15,lT k q st)]) (some (48,#[.string X,.string P,lT k q st])) none:=by kernel_rfl
theorem ee5:look [0,1,2,3,4,5,6,9,16,17,18] (EE5 X P k q st n Rf Sg By Fp v J l)=aP 122 24 l TK (mT (aE X P k q st n) Rf Sg By Fp++[(16,v),(17,iv n),(18,cM By Rf Sg Fp)]) (some (137,#[v,iv n,cM By Rf Sg Fp])) none:=by kernel_rfl
theorem ee6:look [0,1,2,3,4,5,6,9] (EE6 X P k q st n Rf Sg By Fp v J l)=aP 122 24 l sE6 (mT (aE X P k q st n) Rf Sg By Fp) none (some (182,ptr Fp)):=by kernel_rfl
theorem ee7:look [0,1,2,3,4,5,6,9] (EE7 X P k q st n Rf Sg By Fd Fp J l)=aP 122 24 l sE7 (mT (aE X P k q st n) Rf Sg By Fp) none (some (166,.pointer (some ⟨Fd,2,none⟩))):=by kernel_rfl
theorem V0:aQ PR 1 (eF Se (mT (aE X P k q st n) Rf Sg By Fp++[(13,.string X),(14,.string P),(15,lT k q st)]) J) l=(Frame.enter PR 48 #[.string X,.string P,lT k q st] .normal,eF Se (mT (aE X P k q st n) Rf Sg By Fp++[(13,.string X),(14,.string P),(15,lT k q st)]) J::l):=by kernel_rfl
theorem V1:aQ PR 1 (eF TK (mT (aE X P k q st n) Rf Sg By Fp++[(16,v),(17,iv n),(18,cM By Rf Sg Fp)]) J) l=(Frame.enter PR 137 #[v,iv n,cM By Rf Sg Fp] .normal,eF TK (mT (aE X P k q st n) Rf Sg By Fp++[(16,v),(17,iv n),(18,cM By Rf Sg Fp)]) J::l):=by kernel_rfl
theorem V2:(opAt (eF VT (aE X P k q st n) J)).map (fun o=>o.op)=some (.box 9 (.tmp 0)):=by kernel_rfl
theorem V3:(opAt (eF VU (VQ (aE X P k q st n) Rf) J)).map (fun o=>o.op)=some (.box 9 (.tmp 1)):=by kernel_rfl
theorem V4:(opAt (eF VV (VS (aE X P k q st n) Rf Sg) J)).map (fun o=>o.op)=some (.box 75 (.tmp 2)):=by kernel_rfl
theorem V5:(opAt (eF VX (F3 (aE X P k q st n) Rf Sg By) J)).map (fun o=>o.op)=some (.makeMap 166 none):=by kernel_rfl
theorem V6:(opAt (eF VY (F3 (aE X P k q st n) Rf Sg By++[(11,X8 Mp)]) J)).map (fun o=>o.op)=some (.box 191 (.tmp 11)):=by kernel_rfl
theorem V7:(opAt (eF VZ (F3 (aE X P k q st n) Rf Sg By++[(12,ptr Fd)]) J)).map (fun o=>o.op)=some (.alloc 182):=by kernel_rfl
theorem V8:(opAt (eF TJ (mT (aE X P k q st n) Rf Sg By Fp++[(12,ptr Fd)]) J)).map (fun o=>o.op)=some (.store 182 (.tmp 9) (.tmp 12)):=by kernel_rfl
end
noncomputable def V9:=(aY PR 60 (Frame.enter PR 137 #[.slice none 0 0,iv 1,undef] .normal) []).1.todo
def V_(nv:Value)(n:Nat)(work:Value):=[(0,nv),(1,iv n),(2,work)]
noncomputable def X9:=(po V9 (V_ (.slice none 0 0) 1 undef) (ptr 0)).1.todo
def X_(nv:Value)(n:Nat)(work:Value)(Wg:Nat):=[(0,nv),(1,iv n),(2,work),(6,ptr Wg),(13,iv n)]
section
variable(nv:Value)(n Wg Gv:Nat)(work:Value)(J:Nat->Value)(l:List Frame)
noncomputable def RA0:=aY PR 60 (Frame.enter PR 137 #[nv,iv n,work] .normal) l
noncomputable def RA1:=aY PR 60 ((dF V9 (V_ nv n work) J).finish (ptr Wg)) l
end
section
variable{b:Option Addr}{len cap:Nat}{nv:Value}{n Wg Gv:Nat}{work:Value}{J:Nat->Value}{l:List Frame}
noncomputable def Wa (b:Option _) (len cap n Wg Gv:Nat) (work:Value) (J:Nat->Value) (l:List _):=aY PR 60 ((dF X9 (X_ (bZ b len cap) n work Wg) J).finish (IV Gv n)) l
theorem ra0:look [0,1,2] (RA0 nv n work l)=aP 137 55 l V9 (V_ nv n work) none none:=by kernel_rfl
theorem ra1:look [0,1,2,6,13] (RA1 nv n Wg work J l)=aP 137 55 l X9 (X_ nv n work Wg) none none:=by kernel_rfl
theorem aap:look [0,1,2,6,7,16,17,18] (Wa b len cap n Wg Gv work J l)=aP 137 55 l sD (Cs (eS (bZ b len cap) n work Wg Gv) n 0++[(18,.bool (decide ((0:Int)<n)))]) none none:=by kernel_rfl
theorem Wb:(opAt (dF V9 (V_ nv n work) J)).map (fun o=>o.op)=some (.alloc 212):=by kernel_rfl
theorem Wc:(opAt (dF X9 (X_ nv n work Wg) J)).map (fun o=>o.op)=some (.makeSlice 213 (.tmp 13) (.tmp 13)):=by kernel_rfl
end
section
variable{P:Program}{Q:QT}{Z:Loc->Prop}{f:Frame}{l:List Frame}{w:World}
theorem aH.aM(m:Nat)(r:Frame×List _)(hr:aY P m f l=r){site:List _}{al:List _}{call:Option _}{load:Option _}(h:look ks r=aP fn n l site al call load)(hk:al.map (·.1)=ks)
  (k:∀J w',aZ Z w w'->(∀b,b<w.heap.size->w'.heap[b]?=w.heap[b]?)->ahead (ru fn n site (sA al) J)=call->gS (ru fn n site (sA al) J)=load->pY fn n site (sA al) (ru fn n site (sA al) J)->aH P Q Z (ru fn n site (sA al) J) l w'):aH P Q Z f l w:=by
 subst hr;refine aH.dt m fun w' H D=>?_;have Y:=bt h hk;have h1:=Y.call;have h2:=Y.load;have K:=Y.fr;rw[Y.fr.eq]at h1 h2;rw[Y.fr.eq]at K;rw[Y.callers,Y.fr.eq];simp_all
end
section
variable{main:Bool}{f:Frame}{cs:List Frame}
theorem iM{x:Operand}(h:(opAt f).map (fun o=>o.op)=some (.box t x)){c:Array _}(hx:f.eval x=v)(K:v.cells=c)(w:World):
  stepG PR main (G f cs) w=.go (G (f.finish (ptr w.heap.size)) cs) (w.alloc (.cells c t)) #[]:=by
 obtain⟨op,Y,aM⟩:=ny h;subst K;have hr:(execOp f.eval op).run PR w=.ok (.value (ptr w.heap.size)) (w.alloc (.cells v.cells t)):=by
  unfold execOp;simp[aM,hx];rfl
 have he:(execOp f.eval op).events PR w #[]=#[]:=by
  unfold execOp;simp[aM];simp[go_sem]
 rw[bG Y hr,he,seen_none]
theorem BB(h:(opAt f).map (fun o=>o.op)=some (.alloc t)){c:Array Value}{z:Value}(I:(PR.info? t).map (·.zero)=some (some z))(R:z.cells=c)(w:World):
  stepG PR main (G f cs) w=.go (G (f.finish (ptr w.heap.size)) cs) (w.alloc (.cells c t)) #[]:=by
 obtain⟨op,H,aM⟩:=ny h;subst R;have D:∃inf,PR.info? t=some inf/\inf.zero=some z:=by simp_all
 obtain⟨inf,Y,K⟩:=D;have hr:(execOp f.eval op).run PR w=.ok (.value (ptr w.heap.size)) (w.alloc (.cells z.cells t)):=by
  unfold execOp;simp only[aM];simp[go_sem,zeroValue,typeInfo,Y,K];rfl
 have he:(execOp f.eval op).events PR w #[]=#[]:=by
  unfold execOp;simp only[aM];simp[go_sem,zeroValue,typeInfo,Y,K]
 rw[bG H hr,he,seen_none]
theorem Og(h:(opAt f).map (fun o=>o.op)=some (.makeMap t none))(w:World):
  stepG PR main (G f cs) w=.go (G (f.finish (.map (some w.heap.size))) cs) (w.alloc (.map #[] 0)) #[]:=by
 obtain⟨op,Y,aM⟩:=ny h;have hr:(execOp f.eval op).run PR w=.ok (.value (.map (some w.heap.size))) (w.alloc (.map #[] 0)):=by
  unfold execOp;simp[aM];rfl
 have he:(execOp f.eval op).events PR w #[]=#[]:=by
  unfold execOp;simp[aM];rfl
 rw[bG Y hr,he,seen_none]
theorem Oh{x y:Operand}(h:(opAt f).map (fun o=>o.op)=some (.makeSlice 213 x y))(B:n<=8)(hx:f.eval x=iv n)(R:f.eval y=iv n)(w:World):
  stepG PR main (G f cs) w=.go (G (f.finish (IV w.heap.size n)) cs) (w.alloc (.cells (oj [] n) 214)) #[]:=by
 obtain⟨op,U,aM⟩:=ny h;have hu:PR.underlying 213=some (.slice 214):=by kernel_rfl
 have A:∃inf,PR.info? 214=some inf/\inf.zero=some (.chan none)/\inf.size=1/\inf.bytes=8:=by
  have:(PR.info? 214).map (fun i=>(i.zero,i.size,i.bytes))=some (some (.chan none),1,8):=by kernel_rfl
  simp_all
 obtain⟨inf,K,H,Y,D⟩:=A;have h1:=run_makeSlice (P:=PR) w 213 214 inf (.chan none) hu K H .i64 .i64 (n:Int) (n:Int) (by omega) (Int.le_refl _) (by rw[Y];omega) (by rw[D];omega) (by omega);have I:madeCells (Value.chan none).cells ((n:Int).toNat *inf.size)=oj [] n:=by
  rw[Y];apply Array.ext
  ·simp[madeCells,oj]
  ·intro i h1 h2;simp[madeCells,oj,Value.cells,Nat.mod_one]
 rw[I]at h1;have hr:(execOp f.eval op).run PR w=.ok (.value (IV w.heap.size n)) (w.alloc (.cells (oj [] n) 214)):=by
  unfold execOp;simp only[aM,hx,R];rw[Sem.run_bind];show((ahV 213 (.int .i64 (n:Int)) (.int .i64 (n:Int))).run PR w).andThen _=_
  rw[h1];rfl
 have he:(execOp f.eval op).events PR w #[]=#[]:=by
  unfold execOp;simp only[aM,hx,R];have:n=0\/n=1\/n=2\/n=3\/n=4\/n=5\/n=6\/n=7\/n=8:=by omega
  rcases this with rfl|rfl|rfl|rfl|rfl|rfl|rfl|rfl|rfl<;>
  simp[go_sem,ahV,run_underlying hu,underlying,zeroValue,typeInfo,sizeOf,K,H,Y,D,askRoom,roomBytes]<;>(try decide)
 rw[bG U hr,he,seen_none]
theorem Oi{x y:Operand}(h:(opAt f).map (fun o=>o.op)=some (.store t x y)){B b:Nat}{row:Array Value}(hx:f.eval x=.pointer (some ⟨B,i,none⟩))(R:f.eval y=ptr b)(D:w.heap[B]?=some (.cells row t'))(A:i<row.size)(C:(PR.funcs[f.fn]?).any (·.norace)=false)(L:(PR.info? t).map (·.size)=some 1):
  stepG PR main (G f cs) w=.go (G (f.finish undef) cs) (w.setCell ⟨B,i,none⟩ (ptr b)) #[⟨.cell ⟨B,i,none⟩,true,false⟩]:=by
 obtain⟨op,U,aM⟩:=ny h;have H:w.cell? ⟨B,i,none⟩=some row[i]:=by simp[agW,D,A]
 have I:w.frozen? ⟨B,i,none⟩=false:=by simp[World.frozen?,D]
 have F:∃inf,PR.info? t=some inf/\inf.size=1:=by simp_all
 obtain⟨inf,Y,K⟩:=F;have hr:(execOp f.eval op).run PR w=.ok .skip (w.setCell ⟨B,i,none⟩ (ptr b)):=by
  unfold execOp;simp only[aM,hx,R];simp[go_sem,storeVar,sizeOf,typeInfo,Y,K,H,I,ptr]
 have he:(execOp f.eval op).events PR w #[]=#[⟨.cell ⟨B,i,none⟩,true,false⟩]:=by
  unfold execOp;simp only[aM,hx,R];simp[go_sem,storeVar,sizeOf,typeInfo,Y,K,H,I,ptr,events_store PR w _ _ (.pointer _) .plain rfl]
 rw[step_skip U hr,he,seen_def,C];simp[seenStep]
theorem Oj{B:Nat}(h:gS f=some (75,ptr B)){a b c:Value}(K:w.heap[B]?=some (.cells #[a,b,c] t'))(D:(PR.funcs[f.fn]?).any (·.norace)=false):
  stepG PR main (G f cs) w=.go (G (f.finish (.agg #[a,b,c])) cs) w #[⟨.cell ⟨B,0,none⟩,false,false⟩,⟨.cell ⟨B,1,none⟩,false,false⟩,⟨.cell ⟨B,2,none⟩,false,false⟩]:=by
 obtain⟨op,x,Y,aM,hx⟩:=lI h;have c0:w.cell? ⟨B,0,none⟩=some a:=by simp[agW,K]
 have c1:w.cell? ⟨B,1,none⟩=some b:=by simp[agW,K]
 have c2:w.cell? ⟨B,2,none⟩=some c:=by simp[agW,K]
 have hr:(execOp f.eval op).run PR w=.ok (.value (.agg #[a,b,c])) w:=by
  unfold execOp;simp only[aM,hx,ptr];simp[go_sem,c0,c1,c2]
 have he:(execOp f.eval op).events PR w #[]=#[⟨.cell ⟨B,0,none⟩,false,false⟩,⟨.cell ⟨B,1,none⟩,false,false⟩,⟨.cell ⟨B,2,none⟩,false,false⟩]:=by
  unfold execOp;simp only[aM,hx,ptr];simp[go_sem,c0,c1,c2]
 rw[bG Y hr,he,seen_def,D];simp[seenStep]
end
end Ph
end Go.Proofs.YtdcjnhipenbcfaaGreatDoor
namespace Go.Proofs
open Shelf
def Tryz.rE:Go.Shelf.Ren:=⟨fun|156=>110|165=>121|166=>63|169=>68|240=>96|241=>136|276=>113|277=>156|n=>n,fun|31=>65|9=>9|3=>3|4=>4|0=>0|20=>20|72=>102|76=>105|70=>100|37=>79|75=>104|127=>139|164=>159|5=>5|80=>108|n=>n,fun|n=>n⟩
theorem Tryz.Ol:Go.Proofs.Lays.n156 Tryz.prog Tryz.rE:={
 mixed:=by kernel_rfl
 f156:=Tryz.func110.trans (congrArg some (by kernel_rfl))
 f165:=Tryz.func121.trans (congrArg some (by kernel_rfl))
 f166:=Tryz.func63.trans (congrArg some (by kernel_rfl))
 f169:=Tryz.func68.trans (congrArg some (by kernel_rfl))
 f240:=Tryz.func96.trans (congrArg some (by kernel_rfl))
 f241:=Tryz.func136.trans (congrArg some (by kernel_rfl))
 f276:=Tryz.func113.trans (congrArg some (by kernel_rfl))
 f277:=Tryz.func156.trans (congrArg some (by kernel_rfl))
 t0:=agf
 a0:=agz
 z0:=ags
 v0:=agk
 t3:=af7
 a3:=agp
 z3:=agi
 v3:=age
 t4:=agH
 a4:=ahe
 z4:=ag9
 v4:=agN
 t9:=af9
 a9:=agX
 z9:=agO
 v9:=agC
 t20:=ahE
 a20:=Tryz.isAgg20
 z20:=Tryz.sizeOf20
 v20:=ahS
 t31:=Tryz.underlying65
 a31:=Tryz.isAgg65
 z31:=Tryz.sizeOf65
 v31:=Tryz.zeroValue65
 t37:=agd
 a37:=ag_
 z37:=ag3
 v37:=agJ
 t70:=agj
 a70:=ahn
 z70:=ahh
 v70:=ag4
 t72:=ag0
 a72:=aho
 z72:=ahi
 v72:=ag5
 t75:=Tryz.underlying104
 a75:=Tryz.isAgg104
 z75:=Tryz.sizeOf104
 v75:=Tryz.zeroValue104
 t76:=Tryz.underlying105
 a76:=Tryz.isAgg105
 z76:=Tryz.sizeOf105
 v76:=Tryz.zeroValue105
 t127:=ahs
 a127:=Tryz.isAgg139
 z127:=Tryz.sizeOf139
 v127:=ahF
 t164:=ag1
 a164:=Tryz.isAgg159
 z164:=Tryz.sizeOf159
 v164:=Tryz.zeroValue159}
theorem Tryz.pz:Builder.Extra Tryz.prog Tryz.rE:={
 sizeBuilder:=by kernel_rfl
 liesBuilder:=by kernel_rfl
 t5:=agh
 a5:=agY
 z5:=agP
 v5:=agD
 infoByte:=by kernel_rfl
 cellsByte:=by kernel_rfl
 sizeByte:=by kernel_rfl
 neB5:=by decide}
open Go.RowKit in
theorem Tryz.strings_Join(R o c:Nat)(xs:List ByteArray)(sep:ByteArray)(w:World)(K:∀(j:Nat) x,xs[j]?=some x->w.cell? ⟨R,o+j,none⟩=some (.string x))(I:R<w.heap.size)(A:xs.length<=140737488355328)(D:xs.length<=c)(hlen:(Lib.join (xs.map (·.data.toList)) sep.data.toList).length<=140737488355328):
  Calls Tryz.prog 110 #[.slice (some ⟨R,o,none⟩) xs.length c,.string sep] w fun e w'=>e=.returned (.string ⟨(Lib.join (xs.map (·.data.toList)) sep.data.toList).toArray⟩)/\Below w.heap.size w w':=Any.strings_Join Tryz.Ol Tryz.pz R o c xs sep w K I A D hlen
def Tryz.HY:Go.Shelf.Ren:=⟨fun|7=>124|10=>143|n=>n,fun|23=>166|26=>3|3=>3|28=>170|0=>0|27=>169|33=>197|4=>4|n=>n,fun|n=>n⟩
theorem Tryz.Qg:Go.Proofs.SlLaysZI.n7 Tryz.prog Tryz.HY:={
 mixed:=by kernel_rfl
 f7:=⟨Tryz.f124.name,by decide,Tryz.func124.trans (congrArg some (by kernel_rfl))⟩
 f10:=⟨Tryz.f143.name,by decide,Tryz.func143.trans (congrArg some (by kernel_rfl))⟩
 t0:=agf
 a0:=agz
 z0:=ags
 v0:=agk
 t4:=agH
 a4:=ahe
 z4:=ag9
 v4:=agN
 t23:=Tryz.underlying166
 a23:=Tryz.isAgg166
 z23:=Tryz.sizeOf166
 v23:=Tryz.zeroValue166
 t26:=af7
 a26:=agp
 z26:=agi
 v26:=age
 t27:=Tryz.underlying169
 a27:=Tryz.isAgg169
 z27:=Tryz.sizeOf169
 v27:=Tryz.zeroValue169
 t28:=aht
 a28:=Tryz.isAgg170
 z28:=Tryz.sizeOf170
 v28:=ahG
 t33:=Tryz.underlying197
 a33:=Tryz.isAgg197
 z33:=Tryz.sizeOf197
 v33:=Tryz.zeroValue197}
def Tryz.rF:Go.Shelf.Ren:=⟨fun|6=>123|8=>141|9=>142|11=>162|13=>164|12=>163|23=>198|24=>152|14=>189|15=>190|16=>191|17=>192|18=>193|19=>194|20=>195|21=>196|22=>197|25=>208|26=>209|27=>210|28=>211|29=>212|30=>213|31=>221|n=>n,fun|26=>3|28=>170|24=>25|0=>0|3=>3|37=>204|48=>185|50=>176|4=>4|40=>239|39=>238|45=>217|5=>5|9=>9|51=>258|55=>261|57=>264|58=>80|33=>197|n=>n,fun|n=>n⟩
theorem Tryz.Om:Go.Proofs.SlLaysZI.n6 Tryz.prog Tryz.rF:={
 mixed:=by kernel_rfl
 f6:=⟨Tryz.f123.name,by decide,Tryz.func123.trans (congrArg some (by kernel_rfl))⟩
 f8:=⟨Tryz.f141.name,by decide,Tryz.func141.trans (congrArg some (by kernel_rfl))⟩
 f11:=⟨Tryz.f162.name,by decide,Tryz.func162.trans (congrArg some (by kernel_rfl))⟩
 t0:=agf
 a0:=agz
 z0:=ags
 v0:=agk
 t24:=ag7
 a24:=ahu
 z24:=ahp
 v24:=aha
 t26:=af7
 a26:=agp
 z26:=agi
 v26:=age
 t28:=aht
 a28:=Tryz.isAgg170
 z28:=Tryz.sizeOf170
 v28:=ahG
 i26:=by kernel_rfl}
def Tryz.HZ:Go.Shelf.Ren:=⟨fun|5=>142|8=>164|7=>163|19=>198|20=>152|10=>189|11=>190|12=>191|13=>192|14=>193|15=>194|16=>195|17=>196|18=>197|30=>208|31=>209|32=>210|33=>211|34=>212|35=>213|40=>221|n=>n,fun|23=>25|25=>3|3=>3|32=>204|22=>25|0=>0|44=>185|46=>176|4=>4|36=>239|35=>238|41=>217|5=>5|9=>9|53=>258|57=>261|63=>264|64=>80|n=>n,fun|n=>n⟩
theorem Tryz.Qh:Go.Proofs.SlLaysM.n5 Tryz.prog Tryz.HZ:={
 mixed:=by kernel_rfl
 f5:=⟨Tryz.f142.name,by decide,Tryz.func142.trans (congrArg some (by kernel_rfl))⟩
 f7:=⟨Tryz.f163.name,by decide,Tryz.func163.trans (congrArg some (by kernel_rfl))⟩
 f8:=Tryz.func164.trans (congrArg some (by kernel_rfl))
 f10:=⟨Tryz.f189.name,by decide,Tryz.func189.trans (congrArg some (by kernel_rfl))⟩
 f11:=⟨Tryz.f190.name,by decide,Tryz.func190.trans (congrArg some (by kernel_rfl))⟩
 f12:=⟨Tryz.f191.name,by decide,Tryz.func191.trans (congrArg some (by kernel_rfl))⟩
 f13:=⟨Tryz.f192.name,by decide,Tryz.func192.trans (congrArg some (by kernel_rfl))⟩
 f14:=⟨Tryz.f193.name,by decide,Tryz.func193.trans (congrArg some (by kernel_rfl))⟩
 f15:=⟨Tryz.f194.name,by decide,Tryz.func194.trans (congrArg some (by kernel_rfl))⟩
 f16:=⟨Tryz.f195.name,by decide,Tryz.func195.trans (congrArg some (by kernel_rfl))⟩
 f17:=⟨Tryz.f196.name,by decide,Tryz.func196.trans (congrArg some (by kernel_rfl))⟩
 f18:=⟨Tryz.f197.name,by decide,Tryz.func197.trans (congrArg some (by kernel_rfl))⟩
 f19:=Tryz.func198.trans (congrArg some (by kernel_rfl))
 f20:=Tryz.func152.trans (congrArg some (by kernel_rfl))
 f30:=⟨Tryz.f208.name,by decide,Tryz.func208.trans (congrArg some (by kernel_rfl))⟩
 f31:=Tryz.func209.trans (congrArg some (by kernel_rfl))
 f32:=Tryz.func210.trans (congrArg some (by kernel_rfl))
 f33:=⟨Tryz.f211.name,by decide,Tryz.func211.trans (congrArg some (by kernel_rfl))⟩
 f34:=⟨Tryz.f212.name,by decide,Tryz.func212.trans (congrArg some (by kernel_rfl))⟩
 f35:=⟨Tryz.f213.name,by decide,Tryz.func213.trans (congrArg some (by kernel_rfl))⟩
 f40:=⟨Tryz.f221.name,by decide,Tryz.func221.trans (congrArg some (by kernel_rfl))⟩
 t0:=agf
 a0:=agz
 z0:=ags
 v0:=agk
 t3:=af7
 a3:=agp
 z3:=agi
 v3:=age
 t4:=agH
 a4:=ahe
 z4:=ag9
 v4:=agN
 t5:=agh
 a5:=agY
 z5:=agP
 v5:=agD
 t9:=af9
 a9:=agX
 z9:=agO
 v9:=agC
 t22:=ag7
 a22:=ahu
 z22:=ahp
 v22:=aha
 t23:=ag7
 a23:=ahu
 z23:=ahp
 v23:=aha
 t25:=af7
 a25:=agp
 z25:=agi
 v25:=age
 t32:=ahv
 a32:=Tryz.isAgg204
 z32:=Tryz.sizeOf204
 v32:=ahH
 t35:=Tryz.underlying238
 a35:=Tryz.isAgg238
 z35:=Tryz.sizeOf238
 v35:=Tryz.zeroValue238
 t36:=Tryz.underlying239
 a36:=Tryz.isAgg239
 z36:=Tryz.sizeOf239
 v36:=Tryz.zeroValue239
 t41:=Tryz.underlying217
 a41:=Tryz.isAgg217
 z41:=Tryz.sizeOf217
 v41:=Tryz.zeroValue217
 t44:=ahw
 a44:=Tryz.isAgg185
 z44:=Tryz.sizeOf185
 v44:=ahI
 t46:=ahx
 a46:=Tryz.isAgg176
 z46:=Tryz.sizeOf176
 v46:=ahJ
 t53:=Tryz.underlying258
 a53:=Tryz.isAgg258
 z53:=Tryz.sizeOf258
 v53:=Tryz.zeroValue258
 t57:=Tryz.underlying261
 a57:=Tryz.isAgg261
 z57:=Tryz.sizeOf261
 v57:=Tryz.zeroValue261
 t63:=Tryz.underlying264
 a63:=Tryz.isAgg264
 z63:=Tryz.sizeOf264
 v63:=Tryz.zeroValue264
 t64:=Tryz.underlying80
 a64:=Tryz.isAgg80
 z64:=Tryz.sizeOf80
 v64:=Tryz.zeroValue80}
def Tryz.BC:Go.Shelf.Ren:=⟨fun|170=>66|n=>n,fun|70=>100|3=>3|0=>0|72=>102|37=>79|5=>5|n=>n,fun|n=>n⟩
theorem Tryz.On:Go.Proofs.Lays.n170 Tryz.prog Tryz.BC:={
 mixed:=by kernel_rfl
 f170:=Tryz.func66.trans (congrArg some (by kernel_rfl))
 t0:=agf
 a0:=agz
 z0:=ags
 v0:=agk
 t3:=af7
 a3:=agp
 z3:=agi
 v3:=age
 t37:=agd
 a37:=ag_
 z37:=ag3
 v37:=agJ
 t70:=agj
 a70:=ahn
 z70:=ahh
 v70:=ag4
 t72:=ag0
 a72:=aho
 z72:=ahi
 v72:=ag5}
open Go.RowKit in
theorem Tryz.Builder_Len(B b:Nat)(bs:List Value)(w:World)(h:agn 102 5 B b bs w):
  Calls Tryz.prog 66 #[.pointer (some ⟨b,0,none⟩)] w fun e w'=>e=.returned (.int .i64 bs.length)/\w'=w:=Any.Builder_Len Tryz.On B b bs w h
def Tryz.rG:Go.Shelf.Ren:=⟨fun|169=>68|n=>n,fun|70=>100|9=>9|0=>0|72=>102|37=>79|127=>139|3=>3|5=>5|n=>n,fun|n=>n⟩
theorem Tryz.Oo:Go.Proofs.Lays.n169 Tryz.prog Tryz.rG:={
 mixed:=by kernel_rfl
 f169:=Tryz.func68.trans (congrArg some (by kernel_rfl))
 t0:=agf
 a0:=agz
 z0:=ags
 v0:=agk
 t3:=af7
 a3:=agp
 z3:=agi
 v3:=age
 t9:=af9
 a9:=agX
 z9:=agO
 v9:=agC
 t37:=agd
 a37:=ag_
 z37:=ag3
 v37:=agJ
 t70:=agj
 a70:=ahn
 z70:=ahh
 v70:=ag4
 t72:=ag0
 a72:=aho
 z72:=ahi
 v72:=ag5
 t127:=ahs
 a127:=Tryz.isAgg139
 z127:=Tryz.sizeOf139
 v127:=ahF}
theorem Tryz.pA:Builder.Extra Tryz.prog Tryz.rG:={
 sizeBuilder:=by kernel_rfl
 liesBuilder:=by kernel_rfl
 t5:=agh
 a5:=agY
 z5:=agP
 v5:=agD
 infoByte:=by kernel_rfl
 cellsByte:=by kernel_rfl
 sizeByte:=by kernel_rfl
 neB5:=by decide}
open Go.RowKit in
theorem Tryz.Builder_String_any(B b:Nat)(l:List UInt8)(w:World)(h:agn 102 5 B b (ago l) w)(K:B<=w.heap.size):
  Calls Tryz.prog 68 #[.pointer (some ⟨b,0,none⟩)] w fun e w'=>e=.returned (.string ⟨l.toArray⟩)/\Below B w w':=Any.Builder_String_any Tryz.Oo Tryz.pA B b l w h K
def Tryz.BD:Go.Shelf.Ren:=⟨fun|137=>99|217=>115|266=>134|n=>n,fun|9=>9|5=>5|3=>3|n=>n,fun|n=>n⟩
theorem Tryz.Oq:Go.Proofs.Lays.n137 Tryz.prog Tryz.BD:={
 mixed:=by kernel_rfl
 f137:=Tryz.func99.trans (congrArg some (by kernel_rfl))
 f217:=Tryz.func115.trans (congrArg some (by kernel_rfl))
 f266:=Tryz.func134.trans (congrArg some (by kernel_rfl))
 t3:=af7
 a3:=agp
 z3:=agi
 v3:=age
 t5:=agh
 a5:=agY
 z5:=agP
 v5:=agD
 t9:=af9
 a9:=agX
 z9:=agO
 v9:=agC}
open Go.RowKit in
theorem Tryz.strings_IndexByte(s:ByteArray)(c:Int)(w:World):
  Calls Tryz.prog 99 #[.string s,.int .u8 c] w fun e w'=>e=.returned (.int .i64 (agq s.data.toList c.toNat.toUInt8))/\w'=w:=Any.strings_IndexByte Tryz.Oq s c w
def Tryz.zj:Go.Shelf.Ren:=⟨fun|171=>74|243=>98|246=>114|283=>130|284=>131|285=>132|286=>133|129=>152|317=>151|318=>153|319=>154|320=>155|337=>166|338=>167|n=>n,fun|3=>3|9=>9|2=>2|4=>4|171=>175|0=>0|53=>176|37=>79|5=>5|173=>179|212=>202|51=>185|20=>20|213=>203|46=>204|232=>245|233=>246|n=>n,fun|17=>0|18=>2|19=>3|n=>n⟩
theorem Tryz.Li:Go.Proofs.LaysM.n171 Tryz.prog Tryz.zj:={
 mixed:=by kernel_rfl
 f129:=Tryz.func152.trans (congrArg some (by kernel_rfl))
 f171:=Tryz.func74.trans (congrArg some (by kernel_rfl))
 f243:=Tryz.func98.trans (congrArg some (by kernel_rfl))
 f246:=Tryz.func114.trans (congrArg some (by kernel_rfl))
 f283:=Tryz.func130.trans (congrArg some (by kernel_rfl))
 f284:=Tryz.func131.trans (congrArg some (by kernel_rfl))
 f285:=Tryz.func132.trans (congrArg some (by kernel_rfl))
 f286:=Tryz.func133.trans (congrArg some (by kernel_rfl))
 f317:=Tryz.func151.trans (congrArg some (by kernel_rfl))
 f318:=Tryz.func153.trans (congrArg some (by kernel_rfl))
 f319:=Tryz.func154.trans (congrArg some (by kernel_rfl))
 f320:=Tryz.func155.trans (congrArg some (by kernel_rfl))
 f337:=Tryz.func166.trans (congrArg some (by kernel_rfl))
 f338:=Tryz.func167.trans (congrArg some (by kernel_rfl))
 t0:=agf
 a0:=agz
 z0:=ags
 v0:=agk
 t2:=Tryz.underlying2
 a2:=Tryz.isAgg2
 z2:=Tryz.sizeOf2
 v2:=Tryz.zeroValue2
 t3:=af7
 a3:=agp
 z3:=agi
 v3:=age
 t4:=agH
 a4:=ahe
 z4:=ag9
 v4:=agN
 t5:=agh
 a5:=agY
 z5:=agP
 v5:=agD
 t9:=af9
 a9:=agX
 z9:=agO
 v9:=agC
 t20:=ahE
 a20:=Tryz.isAgg20
 z20:=Tryz.sizeOf20
 v20:=ahS
 t37:=agd
 a37:=ag_
 z37:=ag3
 v37:=agJ
 t46:=ahv
 a46:=Tryz.isAgg204
 z46:=Tryz.sizeOf204
 v46:=ahH
 t51:=ahw
 a51:=Tryz.isAgg185
 z51:=Tryz.sizeOf185
 v51:=ahI
 t53:=ahx
 a53:=Tryz.isAgg176
 z53:=Tryz.sizeOf176
 v53:=ahJ
 t171:=Tryz.underlying175
 a171:=Tryz.isAgg175
 z171:=Tryz.sizeOf175
 v171:=Tryz.zeroValue175
 t173:=Tryz.underlying179
 a173:=Tryz.isAgg179
 z173:=Tryz.sizeOf179
 v173:=Tryz.zeroValue179
 t212:=Tryz.underlying202
 a212:=Tryz.isAgg202
 z212:=Tryz.sizeOf202
 v212:=Tryz.zeroValue202
 t213:=Tryz.underlying203
 a213:=Tryz.isAgg203
 z213:=Tryz.sizeOf203
 t232:=Tryz.underlying245
 a232:=Tryz.isAgg245
 z232:=Tryz.sizeOf245
 v232:=Tryz.zeroValue245
 t233:=Tryz.underlying246
 a233:=Tryz.isAgg246
 z233:=Tryz.sizeOf246
 v233:=Tryz.zeroValue246
 g17:=by kernel_rfl
 g18:=by kernel_rfl
 g19:=by kernel_rfl
 i0:=by kernel_rfl
 i2:=by kernel_rfl
 i3:=by kernel_rfl
 i4:=by kernel_rfl
 i5:=by kernel_rfl
 i9:=by kernel_rfl
 i20:=by kernel_rfl
 i37:=by kernel_rfl
 i46:=by kernel_rfl
 i51:=by kernel_rfl
 i53:=by kernel_rfl
 i171:=by kernel_rfl
 i173:=by kernel_rfl
 i212:=by kernel_rfl
 i232:=by kernel_rfl
 i233:=by kernel_rfl
 m17:=by kernel_rfl
 m18:=by kernel_rfl
 m19:=by kernel_rfl}
open Go.RowKit Go.Sort Go.Lib in
theorem Tryz.strconv_Itoa(n:Int)(D: -9223372036854775808<=n)(h1:n<=9223372036854775807)(w:World)(K:Lib.TabIs Tryz.prog w "internal/strconv.uint64pow10" .u64 Lib.pow10Tab):
  Calls Tryz.prog 74 #[.int .i64 n] w fun e w'=>e=.returned (.string ⟨(Lib.itoa n).toArray⟩)/\∃k os,w'=grow (w.drewN k) os:=Any.strconv_Itoa Tryz.Li n D h1 w K
end Go.Proofs
namespace Go.Proofs.YtdcjnhipenbcfaaGreatDoor
variable {a ref s:ByteArray}{fn:FuncId}{ks:List Nat}{g i k m n q r y z:Nat}{o o':Obj}{e t t':TypeId}{v:Value}{w w' wr:World}
section
open RowKit
theorem Qi:(Tryz.prog.info? 102).map (·.size)=some 2:=by kernel_rfl
theorem We:liesAt Tryz.prog Tryz.prog.depth 102 (2/Tryz.prog.cellsOf 102) 0 102 1=true:=by kernel_rfl
theorem F4:(Tryz.prog.info? 5).map (fun i=>(i.zero,i.size,i.bytes))=some (some (.int .u8 0),1,1):=by kernel_rfl
theorem lU(b:Nat)(w:World)(K:w.cell? ⟨b,0,none⟩=some (.pointer (some ⟨b,0,none⟩))):
  Calls Tryz.prog 96 #[.pointer (some ⟨b,0,none⟩)] w fun e w'=>e=.returned (.tuple #[])/\w'=w:=by
 obtain⟨j,Y,_⟩:=ahf.1 Qi;go_wp2
 rw[Lib.run_neq_ptr_same w _ agj Y];go_wp2
 go_end0
 exact⟨rfl,rfl⟩
theorem k4(b:Nat)(w:World)(R:w.cell? ⟨b,0,none⟩=some (.pointer none))(K:w.shape? b=some (102,2))(D:w.frozen? ⟨b,0,none⟩=false):
  Calls Tryz.prog 96 #[.pointer (some ⟨b,0,none⟩)] w fun e w'=>e=.returned (.tuple #[])/\w'=w.setCell ⟨b,0,none⟩ (.pointer (some ⟨b,0,none⟩)):=by
 obtain⟨j,H,Y⟩:=ahf.1 Qi;go_wp2
 rw[Lib.run_to_unsafe w ⟨b,0,none⟩ agj ag1 H (by rw[Y];decide) K (Nat.zero_lt_succ 1)];simp only[Result.andThen];go_wp2
 rw[run_callFunc_extern Tryz.func113 (by kernel_rfl) (by kernel_rfl) (by kernel_rfl) (by kernel_rfl)];rw[Lib.run_noEscape];simp only[Result.andThen];rw[ahW];go_wp2
 rw[Lib.run_from_unsafe w ⟨b,0,none⟩ ag1 agj H K We];simp only[Result.andThen];rw[ahW];go_wp2
 go_end0
 exact⟨rfl,rfl⟩
theorem nB(B b:Nat)(bs:List _)(w:World)(h:agn 102 5 B b bs w):
  Calls Tryz.prog 96 #[.pointer (some ⟨b,0,none⟩)] w fun e w'=>e=.returned (.tuple #[])/\ahq 102 5 B b (.pointer (some ⟨b,0,none⟩)) bs w'/\Below B w w':=by
 rcases h with h|h
 ·refine(k4 b w h.cell0 h.shape h.frozen0).mono ?_;rintro e w' ⟨rfl,rfl⟩;exact⟨rfl,h.used _,(aga B w).setCell h.1 _⟩
 ·refine(lU b w h.cell0).mono ?_;rintro e w' ⟨rfl,rfl⟩;exact⟨rfl,h,aga B _⟩
theorem Ya:(102:TypeId)≠5:=by simp
theorem sb(B b:Nat)(bs:List Value)(s:ByteArray)(w:World)(h:agn 102 5 B b bs w)(hlen:bs.length+s.size<=1000000)(S:B<=w.heap.size):
  Calls Tryz.prog 63 #[.pointer (some ⟨b,0,none⟩),.string s] w fun e w'=>e=.returned (.tuple #[.int .i64 (s.size:Int),.nilIface])/\agn 102 5 B b (bs++ahb s) w'/\Below B w w':=by
 obtain⟨i0,P,F,J,L⟩:=info_parts F4
 go_enter Tryz.func63,Tryz.ntmps63
 go_wp2_with(go_at_call 96;refine(nB B b bs _ h).mono ?_)
 rintro e w1 ⟨rfl,⟨N,v,H,D,U⟩,R⟩;have c0:w1.cell? ⟨b,0,none⟩=some (.pointer (some ⟨b,0,none⟩)):=by rw[agu H];rfl
 have c1:w1.cell? ⟨b,1,none⟩=some v:=by rw[agu H];rfl
 go_wp2_with(at_builtin;refine Lib.wpList_append_own_string _ rfl _ _ 79 9 rfl B 5 i0 agd af9 P F J L _ _ _ rfl D s rfl ?c3 ?c4 ?c5 ?_)
 case c3=>unfold maxLen;omega
 case c4=>omega
 case c5=>have:=R.size;omega
 intro v' w2 K Y _;have A:b<w1.heap.size:=by
  rcases ahy b w1.heap.size with h'|h'
  ·exact h'
  ·simp[ahg h']at H
 have I:w2.heap[b]?=some (.cells #[.pointer (some ⟨b,0,none⟩),v] 102 (0,0)):=by
  rw[Y.block b A (fun e=>U e.symm)];exact H
 have d1:w2.cell? ⟨b,1,none⟩=some v:=by rw[agu I];rfl
 have f1:w2.frozen? ⟨b,1,none⟩=false:=ahz I 1;obtain⟨M,O,cap,rfl⟩:∃M O cap,v'=.slice M O cap:=by
  rcases K.2 with⟨C,_⟩|⟨g,cap,cur,C,_⟩
  ·exact⟨_,_,_,C⟩
  ·exact⟨_,_,_,C⟩
 go_wp2
 go_ret2
 refine⟨rfl,.inr ?_,?_⟩
 ·exact ahK (T:=102) (e:=5) N I (bs':=bs++ahb s) (by simpa[Lib.strCells_length]using K) Ya
 ·exact(R.grown Y (by have:=R.size;omega) (fun k hk=>(D.lt k hk).1)).setCell (p:=⟨b,1,none⟩) N _
theorem wv(B b:Nat)(bs:List Value)(c:Int)(w:World)(h:agn 102 5 B b bs w)(hlen:bs.length+1<=1000000)(N:B<=w.heap.size):
  Calls Tryz.prog 73 #[.pointer (some ⟨b,0,none⟩),.int .u8 c] w fun e w'=>e=.returned .nilIface/\agn 102 5 B b (bs++[.int .u8 c]) w'/\Below B w w':=by
 obtain⟨i0,O,F,J,L⟩:=info_parts F4
 go_enter Tryz.func73,Tryz.ntmps73
 go_wp2_with(go_at_call 96;refine(nB B b bs _ h).mono ?_)
 rintro e w1 ⟨rfl,⟨M,v,I,D,C⟩,H⟩;have c1:w1.cell? ⟨b,1,none⟩=some v:=by rw[agu I];rfl
 go_wp2_with(at_builtin;refine wpList_append_own _ rfl _ _ 79 rfl B 5 i0 (.int .u8 0) 1 1 agd O F J L rfl (by decide) _ _ _ rfl (D.alloc _) ⟨w1.heap.size,0,none⟩ 1 1 [.int .u8 c] rfl rfl ?c1 ?c2 ?c3 ?c4 ?c5 ?_)
 case c1=>
  intro j u A
  match j,A with
  |0,A=>simp at A;subst A;simp[Addr.add]
 case c2=>intro u hu;simp at hu;subst hu;rfl
 case c3=>unfold maxLen;omega
 case c4=>omega
 case c5=>have:=H.size;simp;omega
 intro v' w2 K Y _;have U:b<w1.heap.size:=by
  rcases ahy b w1.heap.size with h'|h'
  ·exact h'
  ·simp[ahg h']at I
 have R:w2.heap[b]?=some (.cells #[.pointer (some ⟨b,0,none⟩),v] 102 (0,0)):=by
  rw[Y.block b (by simp;omega) (fun e=>C e.symm),Lib.alloc_old w1 _ b U];exact I
 have d1:w2.cell? ⟨b,1,none⟩=some v:=by rw[agu R];rfl
 have f1:w2.frozen? ⟨b,1,none⟩=false:=ahz R 1;obtain⟨g,cap,rfl⟩:∃g cap,v'=.slice (some ⟨g,0,none⟩) (bs.length+1) cap:=by
  rcases K.2 with⟨_,Q⟩|⟨g,cap,cur,P,_⟩
  ·omega
  ·exact⟨g,cap,P⟩
 go_wp2
 go_ret
 refine⟨rfl,.inr ?_,?_⟩
 ·exact ahK (T:=102) (e:=5) M R (bs':=bs++[.int .u8 c]) (by simpa using K) Ya
 ·exact((H.alloc (by have:=H.size;omega) _).grown Y (by have:=H.size;simp;omega) (fun k hk=>(D.lt k hk).1)).setCell (p:=⟨b,1,none⟩) M _
theorem Ot(s:ByteArray):ji s=bY (c7 s 62 0) fun p=>bY (bD s 200 p) (nP s (s.size+1) (cv s 200 p)):=by
 unfold ji c7;rw[nT]
theorem H0(h:((w.alloc o).alloc o').grownBy w' (some r))(hr:w.heap.size<=r):Below w.heap.size w w':=
 (((aga _ _).alloc (af5 _) _).alloc (by simp) _).grown h (by simp;omega) (by simp_all)
theorem lV(s:ByteArray)(f:Nat)(acc:List _)(st:Nat×Bool)(h:st.2=true):cL s f acc st=(st,acc):=eU (.inl h) rfl
theorem nC(s:ByteArray):∀f acc p,acc≠ []->p<=s.size->(cL s f acc (p,false)).1=nP s f acc.length p
 |0,acc,p,_,_=>rfl
 |f+1,acc,p,Y,K=>by
  by_cases h:p<s.size
  ·have h1:=jV (f:=f+1) (acc:=acc) (st:=(p,false)) (by omega) rfl (.inr h) rfl;rw[<-h1,ahA];simp only[nP];rw[if_neg (by omega)];by_cases hb:(bD s (200-acc.length) p).2=true
   ·rw[lV _ _ _ _ hb,iw hb]
   ·rw[agc]at hb;have hle:=(gE s (200-acc.length) p K).2;have hlen:(acc++Mt s (200-acc.length) p).length=acc.length+cv s (200-acc.length) p:=by rw[af6,yu s _ p K]
    rw[<-hlen];have e:bD s (200-acc.length) p=((bD s (200-acc.length) p).1,false):=by rw[<-hb]
    rw[e];exact nC s f _ _ (by simp[Y]) hle
  ·rw[eU (.inr ⟨Y,by omega⟩) rfl];simp only[nP];simp_all
theorem H2(s:ByteArray):(dy s).1=ji s:=by
 unfold dy;rw[Ot];have e:bY _ _=c7 s 62 0:=rfl;rw[e];by_cases hb:(c7 s 62 0).2=true
 ·rw[lV _ _ _ _ hb,iw hb]
 ·rw[agc]at hb;rw[aX hb];have hle:=(iA s 62 0 (by omega)).2;generalize c7 s 62 0=st at *;obtain⟨p,b⟩:=st;subst hb;have h1:=jV (s:=s) (f:=s.size+2) (st:=(p,false)) (by omega) rfl (.inl rfl) rfl;rw[<-h1];simp at *;by_cases hb:(bD s 200 p).2=true
  ·rw[lV _ _ _ _ hb,iw hb]
  ·rw[agc]at hb;have hm:=nQ s 200 p hb;have hlen:=yu s 200 p hle;have Y:bD s 200 p=((bD s 200 p).1,false):=by rw[<-hb]
   rw[Y,<-hlen];refine nC s _ _ _ ?_ (gE s 200 p hle).2;intro h;rw[h]at hlen;simp at hlen;omega
abbrev eP(B:Nat)(acc:List _)(w:World):=agn 102 5 B B (ago acc) w
theorem uw{p:Value}{B:Nat}{bs:List _}(h:ahq 102 5 B B p bs w)(R:w.grownBy w' (some r))(hr:r<B):ahq 102 5 B B p bs w':=by
 obtain⟨D,v,hb,Y,K⟩:=h;have H:=Lib.BuilderAt.lt ⟨D,v,hb,Y,K⟩;refine⟨D,v,?_,Y.kept R (.inr ?_),K⟩
 ·rw[R.block B H (by intro e;simp_all)];exact hb
 ·intro e;have:=(Y.lt r e).1;omega
theorem eP.kept{B:Nat}{acc:List _}(h:eP B acc w)(K:w.grownBy w' (some r))(hr:r<B):eP B acc w':=
 h.imp (fun h=>uw h K hr) (fun h=>uw h K hr)
theorem eP.drewN{B:Nat}{acc:List _}(h:eP B acc w)(m:Nat):eP B acc (w.drewN m):=h
theorem eP.lt{B:Nat}{acc:List _}(h:eP B acc w):B<w.heap.size:=by
 rcases h with h|h<;>exact h.lt
theorem eP.new(w:World):eP w.heap.size [] (w.alloc (.cells #[.pointer none,.slice none 0 0] 102)):=Lib.fresh_isBuilder 102 5 w
theorem Sf(B:Nat)(acc:List _)(w:World)(h:eP B acc w):
  Calls Tryz.prog 66 #[.pointer (some ⟨B,0,none⟩)] w fun e w'=>e=.returned (.int .i64 acc.length)/\w'=w:=by
 have:=Tryz.Builder_Len B B _ w h
 rwa [show(ago acc).length=acc.length by simp[ago]]at this
theorem mU(B:Nat)(acc:List _)(w:World)(h:eP B acc w):
  Calls Tryz.prog 68 #[.pointer (some ⟨B,0,none⟩)] w fun e w'=>e=.returned (.string (str acc))/\Below B w w':=Tryz.Builder_String_any B B acc w h (by have:=h.lt;omega)
theorem xQ(acc:List _)(x:ByteArray):ago acc++ahb x=ago (acc++x.data.toList):=by
 simp[ago,ahb]
theorem pB(B:Nat)(acc:List _)(x:ByteArray)(w:World)(h:eP B acc w)(K:acc.length+x.size<=1000000):
  Calls Tryz.prog 63 #[.pointer (some ⟨B,0,none⟩),.string x] w fun e w'=>e=.returned (.tuple #[.int .i64 x.size,.nilIface])/\eP B (acc++x.data.toList) w'/\Below B w w':=by
 refine(sb B B _ x w h (by simp[ago];omega) (by have:=h.lt;omega)).mono ?_;rintro e w' ⟨he,h1,h2⟩;rw[xQ]at h1;simp_all
def zk(NM:ByteArray)(w:World)(R:(Nat×Bool)×List UInt8)(e:Ending)(w':World):Prop:=
 (R.1.2=false->e=.returned (.agg #[.string NM,.string (str R.2)]))/\(R.1.2=true->e=.panicked (kO 2 (R.1.1:Int)))/\Below w.heap.size w w'
theorem om{NM:ByteArray}{w1:World}{st:Nat×Bool}{l:List _}{R:(Nat×Bool)×List _}(K:R=(st,l))(au:st.2=true)(hb:Below w.heap.size w w1):zk NM w R (.panicked (kO 2 (st.1))) w1:=by
 subst K;exact⟨fun h=>by simp_all,fun _=>rfl,hb⟩
theorem BE{NM:ByteArray}{w1:World}{l:List _}{p:Nat}{R:(Nat×Bool)×List _}(K:R=((p,false),l))(hb:Below w.heap.size w w1):zk NM w R (.returned (.agg #[.string NM,.string (str l)])) w1:=by
 subst K;exact⟨fun _=>rfl,fun h=>Bool.noConfusion h,hb⟩
theorem BF(s:ByteArray)(m p:Nat)(K:p<=s.size):(gZ s m p).data.toList.map gb=Mt s m p:=by
 unfold Mt gZ;simp only[rest];simp
theorem Lj(l:List _):(str l).data.toList=l:=by simp[str]
def H3(s:ByteArray):=MQ s (aI s 62 0).1
theorem uy(K:((w.alloc o).alloc o').grownBy w' (some r))(hr:r≠w.heap.size):w'.heap[w.heap.size]?=some o:=by
 rw[K.block _ (by simp;omega) (by simpa using fun h=>hr h.symm),heap_alloc_old _ _ (by simp),heap_alloc_new]
theorem pC(s:ByteArray)(w:World)(hs:s.size<=1000):
  Calls Tryz.prog 43 #[.string s] w fun e w'=>zk (H3 s) w (dy s) e w':=by
 generalize hR:dy s=R;have HR:=laid (show cL s (s.size+2) [] (c7 s 62 0)=R from hR);clear hR;generalize hM:H3 s=l;have HM:=laid (show MQ s (aI s 62 0).1=l from hM);clear hM
 go_enter Tryz.func43,Tryz.ntmps43
 go_wp2_with fail
 have N:=Aa (w.alloc (.cells #[.string ⟨#[]⟩,.string ⟨#[]⟩] 68)) s 0 2;have d:(w.alloc (.cells #[.string ⟨#[]⟩,.string ⟨#[]⟩] 68)).heap.size=w.heap.size+1:=by simp
 rw[d]at N;refine(oI _ _ s 0 2 _ 62 rfl N hs (by omega)).mono ?_;rw[HM.out];clear HM;rintro e w1 ⟨h1,h2,n,y⟩;have L:=iA s 62 0 (by omega);have O:=uy y (by omega);have F:Below w.heap.size w w1:=H0 y (by omega);clear y N d;generalize hQ:w.heap.size+1=Q at *;by_cases au:(c7 s 62 0).2=true
 ·obtain rfl:=h2 au;exact⟨rfl,om (eU (.inl au) HR.out) au F⟩
 ·rw[agc]at au;obtain rfl:=h1 au;clear h1 h2;have g:=laid (jV (by omega) au (.inl rfl) HR.out);generalize(c7 s 62 0).1=U at *;clear au HR;have q:=n.lt;go_wp2_with fail
  refine(jX _ _ s U 2 _ 200 rfl (by omega) (n.alloc _) hs L.2).mono ?_;rintro e w2 ⟨h1,h2,G6,G⟩;have hB2:=(eP.new w1).kept G q;have D:=G.block w.heap.size (by simp;omega) (by simp;omega);rw[heap_alloc_old _ _ (by omega),O]at D;have r:Below w.heap.size w w2:=(F.alloc F.size _).grown G (by simp;have:=F.size;omega) (by intro k hk;cases hk;omega);clear G n F O;have hl2:=gE s 200 U L.2;by_cases au:(bD s 200 U).2=true
  ·obtain rfl:=h2 au;exact⟨rfl,om (eU (.inl au) g.out) au r⟩
  ·rw[agc]at au;obtain rfl:=h1 au;clear h1 h2;have H:=nQ s 200 U au;have m:=lz s 200 U;have t:=nS s 200 U L.2;have T:=BF s 200 U L.2;have HR2:Hid (s.size-(bD s 200 U).1<s.size+1/\cL s (s.size+1) ((gZ s 200 U).data.toList.map gb) ((bD s 200 U).1,false)=R):=laid ⟨by omega,by
    have:=g.out;rw[show s.size+2-1=s.size+1 by omega]at this;rw[T,<-au];exact this⟩
   clear g T;have Xb:1<=(gZ s 200 U).size/\(gZ s 200 U).size<=200:=by omega
   generalize gZ s 200 U=X at *;generalize(bD s 200 U).1=p2 at *;clear au H m t L;generalize w1.heap.size=B at *;go_wp2_with fail
   refine(pB B [] X _ hB2 (by simp;omega)).mono ?_;rintro e w3 ⟨rfl,o,Y⟩;have Qa:=G6.below Y q;have I:=Y.block w.heap.size (by omega);rw[D]at I;have hb3:Below w.heap.size w w3:=r.trans (Y.mono (by omega));clear Y G6 r hB2 D;rw[agl]at o;go_wp2
   go_loopw [] (fun wr=>∃(acc:List UInt8) (p fuel:Nat),1<=acc.length/\acc.length<=200/\p<=s.size/\RD wr Q s p 2/\eP B acc wr/\wr.heap[w.heap.size]?=some (.cells #[.string ⟨#[]⟩,.string ⟨#[]⟩] 68)/\Below w.heap.size w wr/\Hid (s.size-p<fuel/\cL s fuel (acc.map gb) (p,false)=R)) (fun wr=>s.size-dx wr Q)
   case atStart=>exact⟨X.data.toList,p2,s.size+1,by simp;omega,by simp;omega,hl2.2,Qa,o,I,hb3,HR2⟩
   case round=>
    obtain⟨acc,p,fuel,ha1,ha2,hp,C,x,c,J,i⟩:=hrel;clear HR2 Qa o hb3 hl2 Xb I;by_cases j:p<s.size
    ·have HL:=laid (jV (by have:=i.out.1;omega) rfl (.inr j) i.out.2);go_wp2_with fail
     refine(oH _ _ s p 2 C j).mono ?_;rintro e w4 ⟨rfl,a,rfl⟩;go_wp2_with fail
     refine(Sf B acc _ (x.drewN a)).mono ?_;rintro e w4 ⟨rfl,rfl⟩;go_wp2_with fail
     refine(jX _ _ s p 2 _ (200-acc.length) (by omega) (by omega) (C.drewN a) hs hp).mono ?_;rintro e w4 ⟨h1,h2,b,W⟩;have hB4:=(x.drewN a).kept W q;have P:=W.block w.heap.size (by have:=C.lt;simp;omega) (by simp;omega);have u:Below w.heap.size w w4:=(Go.below_drewN J a).grown W (by have:=J.size;simpa using this) (by intro k hk;cases hk;omega);have hl4:=gE s (200-acc.length) p hp;have Z:=HL.out;rw[agQ]at Z;by_cases au:(bD s (200-acc.length) p).2=true
     ·obtain rfl:=h2 au;exact⟨rfl,om (eU (.inl au) Z) au u⟩
     ·rw[agc]at au;obtain rfl:=h1 au;clear h1 h2 W;have A:w4.heap[w.heap.size]?=some (.cells #[.string ⟨#[]⟩,.string ⟨#[]⟩] 68):=P.trans c;clear P;have H:=nQ s (200-acc.length) p au;have m:=lz s (200-acc.length) p;have t:=nS s (200-acc.length) p hp;have T:=BF s (200-acc.length) p hp;have HL1:Hid (s.size-(bD s (200-acc.length) p).1<fuel-1/\cL s (fuel-1) ((acc++(gZ s (200-acc.length) p).data.toList).map gb) ((bD s (200-acc.length) p).1,false)=R):=laid ⟨by have:=i.out.1;omega,by
       rw[List.map_append,T,<-au];exact Z⟩
      clear HL Z i T;have Xb:(gZ s (200-acc.length) p).size+acc.length<=200:=by omega
      have hpm:p<(bD s (200-acc.length) p).1:=by omega
      have Yb:=laid C.dx;have agv:=laid b.dx;generalize gZ s (200-acc.length) p=X at *;generalize(bD s (200-acc.length) p).1=p4 at *;clear au H m t;go_wp2_with fail
      refine(pB B acc X _ hB4 (by omega)).mono ?_;rintro e w5 ⟨rfl,hB5,Y⟩;have TF:=b.below Y q;have S:=Y.block w.heap.size (by omega);rw[A]at S;have E:Below w.heap.size w w5:=u.trans (Y.mono (by omega));have aas:=laid TF.dx;clear Y b u hB4 A;go_wp2
      go_roundw
      case rel=>go_light;exact⟨acc++X.data.toList,p4,fuel-1,by simp;omega,by simp;omega,hl4.2,TF,hB5,S,E,HL1⟩
      case measure=>go_light;rw[Yb.out,aas.out];omega
    ·have hpe:s.size=p:=by omega
     have HPE:=laid hpe;have z:=eU (.inr ⟨by intro h;have h0:=congrArg List.length h;rw[agQ,agm]at h0;omega,by simp only;omega⟩) i.out.2;have aat:=laid z;clear z hpe i;go_wp2_with fail
     refine(p0 _ _ s p 2 C HPE.out).mono ?_;rintro e w4 ⟨rfl,a,rfl⟩;go_wp2_with fail
     refine(mU B acc _ (x.drewN a)).mono ?_;rintro e w5 ⟨rfl,Y⟩;go_wp2_with fail
     refine(ju (str acc) _ (by rw[ak];omega)).mono ?_;rintro e f ⟨rfl,hb6⟩;have E:Below w.heap.size w w5:=(Go.below_drewN J a).trans (Y.mono (by omega));have hb7:Below w.heap.size w f:=E.trans (hb6.mono E.size);have K:f.heap[w.heap.size]?=some (.cells #[.string ⟨#[]⟩,.string ⟨#[]⟩] 68):=by
      have TI:=Y.size;have hrl:=C.lt;simp at TI;rw[hb6.block w.heap.size (by omega),Y.block w.heap.size (by omega)];exact c
     have n0:f.cell? ⟨w.heap.size,0,none⟩=some (.string ⟨#[]⟩):=by rw[cell_of_row _ _ _ _ _ _ K];rfl
     have n1:f.cell? ⟨w.heap.size,1,none⟩=some (.string ⟨#[]⟩):=by rw[cell_of_row _ _ _ _ _ _ K];rfl
     have z0:f.frozen? ⟨w.heap.size,0,none⟩=false:=frozen_of_row _ _ _ _ _ K;have z1:f.frozen? ⟨w.heap.size,1,none⟩=false:=frozen_of_row _ _ _ _ _ K;have M:str ((str acc).data.toList.map gb)=str (acc.map gb):=by rw[Lj]
     rw[M];generalize aau:acc.map gb=V at *;obtain⟨m0,m1,hg8⟩:=jY (.string l) (.string (str V)) n0 n1;have Yc:Below w.heap.size w ((f.setCell ⟨w.heap.size,0,none⟩ (.string l)).setCell ⟨w.heap.size,1,none⟩ (.string (str V))):=hb7.grown hg8 hb7.size (by intro k hk;cases hk;exact af5 _);have HG:=laid (BE (NM:=l) aat.out Yc);clear aau M K hg8;go_wp2
     generalize(f.setCell ⟨w.heap.size,0,none⟩ (.string l)).setCell ⟨w.heap.size,1,none⟩ (.string (str V))=w8 at *;refine bodyPost_ret (v:=.agg #[.string l,.string (str V)]) ?_ rfl HG.out;simp[results,Tryz.results43,go_sem,m0,m1]
theorem gY(s:ByteArray)(w:World)(K:s.size<=1000):
  Calls Tryz.prog 43 #[.string s] w fun e w'=>((ji s).2=false->e=.returned (.agg #[.string (H3 s),.string (str (dy s).2)]))/\((ji s).2=true->e=.panicked (kO 2 ((ji s).1)))/\Below w.heap.size w w':=by
 have:=pC s w K;unfold zk at this
 rwa [H2]at this
theorem BG{p:Nat}{R:Nat×Bool}(hk:k<5)(K:p<s.size)(h:bq s (5-k) p=R):bY (eB s p) (bq s (5-(k+1)))=R:=by
 rw[<-h,show 5-k=(5-(k+1))+1 by omega];simp only[bq];rw[if_neg (by omega)]
theorem uz{p:Nat}{R:Nat×Bool}(K:s.size=p)(h:bq s (5-k) p=R):R=(p,false):=by
 rw[<-h];generalize 5-k=m;cases m with
 |zero=>simp[bq];simp_all
 |succ m=>simp[bq];simp_all
theorem BH{p:Nat}{R:Nat×Bool}(K:p<s.size)(h:bq s (5-5) p=R):(p,true)=R:=by
 rw[<-h];simp[bq,Nat.sub_self];simp_all
theorem Em(s:ByteArray)(p:Nat)(h:(eB s p).2=false)(F:p<=s.size):p<(eB s p).1:=by
 unfold eB at *;obtain⟨h1,h2⟩:=cR h;rw[aX h1];have hm:=sP s 64 p h1;have R:(aI s 64 p).1<=s.size:=by omega
 have:=ej (z8 s _ R) fun q I=>ej (gE s 30 q I) fun A Y=>ej (dG s 43 A Y) fun U K=>ej (dG s 10 U K) fun B H=>ej (iy s pV (cv s 30 q) (cv s 30 q) B H) fun C D=>dG s 10 C D;omega
theorem Si:(Tryz.prog.info? 131).map (fun i=>(i.zero,i.size,i.bytes))=some (some (.agg #[.string ⟨#[]⟩,.string ⟨#[]⟩,.string ⟨#[]⟩]),3,48):=by kernel_rfl
def zl(w:World)(R:Nat×Bool)(K:List (ByteArray×ByteArray×ByteArray))(e:Ending)(w':World):Prop:=
 (R.2=false->∃V,e=.returned V/\w'.ownsRow (w.heap.size+1) 131 3 V K.length (dX K))/\(R.2=true->e=.panicked (kO 3 (R.1:Int)))/\Below w.heap.size w w'
theorem rH{w1:World}{st R:Nat×Bool}{K:List _}(D:st=R)(au:st.2=true)(hb:Below w.heap.size w w1):zl w R K (.panicked (kO 3 (st.1))) w1:=by
 subst D;exact⟨fun h=>by simp_all,fun _=>rfl,hb⟩
theorem pD{w1:World}{R:Nat×Bool}{L K:List _}{V:Value}(A:R.2=false)(D:L=K)(I:w1.ownsRow (w.heap.size+1) 131 3 V L.length (dX L))(hb:Below w.heap.size w w1):zl w R K (.returned V) w1:=by
 subst D;exact⟨fun _=>⟨V,rfl,I⟩,fun h=>by simp_all,hb⟩
theorem zn{p:Nat}{L K:List _}(hk:k<5)(D:p<s.size)(au:(eB s p).2=false)(h:L++ai s (5-k) p=K):(L++[(QI s p,QJ s p,QK s p)])++ai s (5-(k+1)) (eB s p).1=K:=by
 rw[<-h,show 5-k=(5-(k+1))+1 by omega];simp only[ai];rw[if_neg (by omega),if_neg (by simp_all),QN s p (by omega) au,ahL];rfl
theorem rI{p:Nat}{L K:List _}(D:s.size<=p)(h:L++ai s k p=K):L=K:=by
 rw[<-h];cases k with
 |zero=>simp[ai]
 |succ k=>simp[ai];simp_all
theorem uB{b:Nat}{xs:List _}(h:wr.ownsRow b e k v n xs)(r:Nat)(hr:r<b\/wr.heap.size<=r):v.ownBlock=none\/v.ownBlock≠some r:=by
 cases hb:v.ownBlock with
 |none=>exact .inl rfl
 |some g=>
  right;have:=h.lt g hb;intro Y;cases Y;omega
theorem qH{B D:Nat}{xs:List _}(h:w.ownsRow B e k v n xs)(K:D<=B):w.ownsRow D e k v n xs:=by
 refine⟨h.1,?_⟩;rcases h.2 with h'|⟨g,cap,cur,h1,h2,Y⟩
 ·simp_all
 ·exact .inr ⟨g,cap,cur,h1,by omega,Y⟩
theorem nD(s:ByteArray)(w:World)(hs:s.size<=1000):
  Calls Tryz.prog 90 #[.string s] w fun e w'=>zl w (bq s 5 0) (ai s 5 0) e w':=by
 obtain⟨i0,hi,hz,hsi,hby⟩:=info_parts Si;generalize hR:bq s 5 0=R;have HR:=laid hR;clear hR;generalize c:ai s 5 0=LR;have W:=laid (show []++ai s 5 0=LR from c);clear c
 go_enter Tryz.func90,Tryz.ntmps90
 go_wp2
 go_loopw [4] (fun v wr=>∃(L:List (ByteArray×ByteArray×ByteArray)) (p:Nat),L.length<=5/\p<=s.size/\RD wr w.heap.size s p 3/\wr.ownsRow (w.heap.size+1) 131 3 v L.length (dX L)/\Below w.heap.size w wr/\Hid (bq s (5-L.length) p=R)/\Hid (L++ai s (5-L.length) p=LR)) (fun _ wr=>s.size-dx wr w.heap.size)
 case atStart=>exact⟨[],0,by simp,by omega,Aa w s 0 3,World.ownsRow_nil _ _ _ _,(aga _ _).alloc (af5 _) _,HR,W⟩
 case round=>
  obtain⟨L,p,hk,hp,F,A,H,O,m⟩:=hrel;clear HR W;obtain⟨av,cap,rfl⟩:∃a cap,u4=.slice a L.length cap:=by
   rcases A.2 with⟨h1,h2⟩|⟨g,cap,cur,h1,_⟩
   ·exact⟨none,0,by rw[h1,h2]⟩
   ·exact⟨_,cap,h1⟩
  generalize hn:L.length=n at *;have E:=laid hn;clear hn;by_cases f:n<5
  ·by_cases D:p<s.size
   ·have q:=laid (BG f D O.out);clear O;go_wp2_with fail
    refine(oH _ _ s p 3 F D).mono ?_;rintro e w3 ⟨rfl,y,rfl⟩;go_wp2_with fail
    refine(Ab _ _ s p 3 (F.drewN y) hs hp).mono ?_;rintro e w4 ⟨h1,h2,r,X⟩;have K:=World.ownsRow.kept (w:=wr.drewN y) A X (uB A _ (.inl (by omega)));have Y:Below w.heap.size w w4:=(Go.below_drewN H y).grown X (by have:=H.size;simpa using this) (by intro k hk;cases hk;exact af5 _);have hl4:=I8 s p hp;by_cases au:(eB s p).2=true
    ·obtain rfl:=h2 au;exact⟨rfl,rH (ek q.out au) au Y⟩
    ·rw[agc]at au;obtain rfl:=h1 au;clear h1 h2;have z:=laid (hD q.out au);have G:=laid (zn f D au m.out);have hmo:=Em s p au hp;have Yb:=laid F.dx;unfold CK;generalize(eB s p).1=p4 at *;generalize QI s p=S at *;generalize QJ s p=P at *;generalize QK s p=Q at *;clear au q m X;have agA:=r.lt;go_wp2_with(first
      |(at_builtin;refine wpList_append_own _ rfl _ _ 90 rfl (w.heap.size+1) 131 i0 (.agg #[.string ⟨#[]⟩,.string ⟨#[]⟩,.string ⟨#[]⟩]) 3 48 Tryz.underlying90 hi hz hsi hby rfl (by decide) _ _ _ rfl (K.alloc _) ⟨w4.heap.size,0,none⟩ 1 1 [.string S,.string P,.string Q] rfl rfl ?c1 ?c2 ?c3 ?c4 ?c5 ?_)
      |go_in)
     case c1=>
      intro j u M
      match j,M with
      |0,M=>simp at M;subst M;simp[Addr.add,go_sem]
      |1,M=>simp at M;subst M;simp[Addr.add,go_sem]
      |2,M=>simp at M;subst M;simp[Addr.add,go_sem]
     case c2=>intro u hu;simp at hu;rcases hu with rfl|rfl|rfl<;>rfl
     case c3=>unfold maxLen;omega
     case c4=>omega
     case c5=>simp;omega
     intro v' w7 B U _;have l:=uB K w.heap.size (.inl (by omega));have x:RD w7 w.heap.size s p4 3:=by
      have ha:=r.alloc (.cells #[.string S,.string P,.string Q] 131);unfold RD at *;rw[U.block _ (by simp;omega) (by rcases l with h|h<;>simp_all;exact fun h'=>h h'.symm)];exact ha
     have V:Below w.heap.size w w7:=(Y.alloc Y.size _).grown U (by simp;have:=Y.size;omega) (fun k hk=>by have:=K.lt k hk;omega);have Z:w7.ownsRow (w.heap.size+1) 131 3 v' (L++[(S,P,Q)]).length (dX (L++[(S,P,Q)])):=by
      rw[CM,af6,E.out];exact B
     have o:=laid x.dx;have i:Hid (bq s (5-(L++[(S,P,Q)]).length) p4=R):=laid (by rw[af6,E.out];exact z.out);have t:Hid ((L++[(S,P,Q)])++ai s (5-(L++[(S,P,Q)]).length) p4=LR):=laid (by rw[af6,E.out];exact G.out);obtain⟨g,Ou,n',rfl⟩:∃g cap n',v'=.slice (some ⟨g,0,none⟩) n' cap:=by
      rcases B.2 with⟨_,h0⟩|⟨g,cap,cur,hv,_⟩
      ·omega
      ·exact⟨g,cap,_,hv⟩
     clear B U l K z G;go_wp2
     go_roundw
     case rel=>go_light;exact⟨L++[(S,P,Q)],p4,by rw[af6,E.out];simp;omega,hl4.2,x,Z,V,i,t⟩
     case measure=>go_light;rw[Yb.out,o.out];omega
   ·have C:s.size=p:=by omega
    have N:=laid C;have I:=uz C O.out;have J:=laid (show R.2=false by rw[I]);have T:=laid (rI (by omega) m.out);clear I C O;go_wp2_with fail
    refine(p0 _ _ s p 3 F N.out).mono ?_;rintro e w3 ⟨rfl,y,rfl⟩;go_wp2_with fail
    refine(oJ _ _ s p 3 (F.drewN y) (by rw[N.out])).mono ?_;rintro e w4 ⟨rfl,b,rfl⟩;go_wp2
    go_ret
    exact pD J.out T.out (by rw[E.out];exact A) (Go.below_drewN H _)
  ·have d:n=5:=by omega
   have HK:=laid d;clear d;by_cases D:p<s.size
   ·have q:=laid (BH D (HK.out▸O.out));clear O;go_wp2_with fail
    refine(vz _ _ s p 3 F (by omega)).mono ?_;rintro e w4 ⟨rfl,b,rfl⟩;exact⟨rfl,rH (st:=(p,true)) q.out rfl (Go.below_drewN H b)⟩
   ·have C:s.size=p:=by omega
    have N:=laid C;have I:=uz C O.out;have J:=laid (show R.2=false by rw[I]);have T:=laid (rI (by omega) m.out);clear I C O;go_wp2_with fail
    refine(oJ _ _ s p 3 F (by rw[N.out])).mono ?_;rintro e w4 ⟨rfl,b,rfl⟩;go_wp2
    go_ret
    exact pD J.out T.out (by rw[E.out];exact A) (Go.below_drewN H b)
structure eN(w w':World)(y z:Nat):Prop where
 os:w'.os=w.os
 tape:w'.tape=w.tape
 output:w'.output=w.output
 size:w.heap.size<=w'.heap.size
 block:∀k,k<w.heap.size->k≠y->k≠z->w'.heap[k]?=w.heap[k]?
theorem eN.of{D:World}(h1:w.grownBy D (some y))(h2:D.grownBy w' (some z)):eN w w' y z:=
 ⟨h2.os.trans h1.os,h2.tape.trans h1.tape,h2.output.trans h1.output,Nat.le_trans h1.size h2.size,fun k hk Y K=>by
  rw[h2.block k (by have:=h1.size;omega) (by simp_all),h1.block k hk (by simp_all)]⟩
theorem eN.below{B:Nat}(h:eN w w' y z)(K:B<=w.heap.size)(D:B<=y)(R:B<=z):Below B w w':=
 ⟨h.os,h.tape,h.output,h.size,fun k hk=>h.block k (by omega) (by omega) (by omega)⟩
theorem eN.new{w w1 w2:World}{o:Obj}{y z:Nat}(K:eN (w.alloc o) w1 y z)(h2:w1.grownBy w2 (some w.heap.size)):eN w w2 y z:=by
 refine⟨h2.os.trans K.os,h2.tape.trans K.tape,h2.output.trans K.output,?_,fun k hk H D=>?_⟩
 ·have:=K.size;have:=h2.size;simp at *;omega
 ·have Y:=K.size;simp at Y;rw[h2.block k (by omega) (by simp;omega),K.block k (by simp;omega) H D,ahT w o k hk]
theorem eN.alloc{w1:World}(K:eN w w1 y z)(o:Obj):eN w (w1.alloc o) y z:=
 ⟨K.os,K.tape,K.output,by have:=K.size;simp;omega,fun k hk Y H=>by
  have:=K.size;rw[ahT w1 o k (by omega)];exact K.block k hk Y H⟩
theorem uC(h:Below w.heap.size w w')(y z:Nat):eN w w' y z:=⟨h.os,h.tape,h.output,h.size,fun k hk _ _=>h.block k hk⟩
def oo(ref reads:ByteArray):=
 if(ji ref).2=true then(2,(ji ref).1)else if(bq reads 5 0).2=true then(3,(bq reads 5 0).1)else(0,0)
def bV(ref reads:ByteArray):Int:=if 400<ref.size\/600<reads.size then 1 else((oo ref reads).1:Int)
def qI(ref reads:ByteArray):Int:=if 400<ref.size\/600<reads.size then 0 else((oo ref reads).2:Int)
def RB(w:World)(y:Nat)(a b:ByteArray):=w.heap[y]?=some (.cells #[.string a,.string b] 68 (0,0))
def ZB(w:World)(z:Nat)(v:Value):=w.heap[z]?=some (.cells #[v] 90 (0,0))
def FB(w:World)(m:Nat)(c p:Int):=w.heap[m]?=some (.cells #[.int .i64 c,.int .i64 p] 70 (0,0))
theorem RB.c0{b:ByteArray}(h:RB w y a b):w.cell? ⟨y,0,none⟩=some (.string a):=by rw[cell_of_row w y 0 _ _ _ h];rfl
theorem RB.c1{b:ByteArray}(h:RB w y a b):w.cell? ⟨y,1,none⟩=some (.string b):=by rw[cell_of_row w y 1 _ _ _ h];rfl
theorem RB.fz{b:ByteArray}(h:RB w y a b)(j:Nat):w.frozen? ⟨y,j,none⟩=false:=frozen_of_row w y j _ _ h
theorem RB.lt{b:ByteArray}(h:RB w y a b):y<w.heap.size:=by have:=block_lt_of_cell h.c0;omega
theorem RB.put{b:ByteArray}(h:RB w y a b)(a' b':ByteArray):RB ((w.setCell ⟨y,0,none⟩ (.string a')).setCell ⟨y,1,none⟩ (.string b')) y a' b':=by
 have h1:RB (w.setCell ⟨y,0,none⟩ (.string a')) y a' b:=by unfold RB at *;rw[heap_setCell_same w y 0 _ _ _ h];rfl
 unfold RB at *;rw[heap_setCell_same _ y 1 _ _ _ h1];rfl
theorem RB.at{b:ByteArray}(h:RB w y a b)(he:w'.heap[y]?=w.heap[y]?):RB w' y a b:=by unfold RB at *;simp_all
theorem ZB.c0(h:ZB w z v):w.cell? ⟨z,0,none⟩=some v:=by rw[cell_of_row w z 0 _ _ _ h];rfl
theorem ZB.fz(h:ZB w z v)(j:Nat):w.frozen? ⟨z,j,none⟩=false:=frozen_of_row w z j _ _ h
theorem ZB.lt(h:ZB w z v):z<w.heap.size:=by have:=block_lt_of_cell h.c0;omega
theorem ZB.put(h:ZB w z v)(v':Value):ZB (w.setCell ⟨z,0,none⟩ v') z v':=by
 unfold ZB at *;rw[heap_setCell_same w z 0 _ _ v' h];rfl
theorem ZB.at(h:ZB w z v)(he:w'.heap[z]?=w.heap[z]?):ZB w' z v:=by unfold ZB at *;simp_all
theorem FB.c0{c p:Int}(h:FB w m c p):w.cell? ⟨m,0,none⟩=some (.int .i64 c):=by rw[cell_of_row w m 0 _ _ _ h];rfl
theorem FB.c1{c p:Int}(h:FB w m c p):w.cell? ⟨m,1,none⟩=some (.int .i64 p):=by rw[cell_of_row w m 1 _ _ _ h];rfl
theorem FB.fz{c p:Int}(h:FB w m c p)(j:Nat):w.frozen? ⟨m,j,none⟩=false:=frozen_of_row w m j _ _ h
theorem FB.lt{c p:Int}(h:FB w m c p):m<w.heap.size:=by have:=block_lt_of_cell h.c0;omega
theorem Eo(ref reads:ByteArray)(x y u z:Nat)(a b:ByteArray)(v:Value)(w:World)(h1:ref.size<=400)(h2:reads.size<=600)
  (hx:w.cell? ⟨x,0,none⟩=some (.string ref))(hu:w.cell? ⟨u,0,none⟩=some (.string reads))(r:RB w y a b)(s:ZB w z v)(t:u≠y)(M:z≠y)(o:(ji ref).2=false)(hb:(bq reads 5 0).2=false):
  Calls Tryz.prog 89 #[.pointer (some ⟨x,0,none⟩),.pointer (some ⟨y,0,none⟩),.pointer (some ⟨u,0,none⟩),.pointer (some ⟨z,0,none⟩)] w fun e w'=>
   e=.returned (.tuple #[])/\RB w' y (H3 ref) (str (dy ref).2)/\(∃V,ZB w' z V/\w'.ownsRow w.heap.size 131 3 V (ai reads 5 0).length (dX (ai reads 5 0)))/\eN w w' y z:=by
 have G:=laid o;have W:=laid hb;clear o hb;have Q:=r.lt;have Z:=s.lt;have O:u<w.heap.size:=by have:=block_lt_of_cell hu;simpa using this
 generalize hX:str (dy ref).2=X;generalize f:H3 ref=Y;have j:=laid hX;have c:=laid f;clear hX f;generalize d:ai reads 5 0=A;have q:=laid d;clear d
 go_enter ahO,ahB
 go_wp2_with fail
 refine(gY ref _ (by omega)).mono ?_;rintro e w1 ⟨k1,E,D⟩;rw[j.out,c.out]at k1;obtain rfl:=k1 G.out;clear k1 E G j c;have R:RB w1 y a b:=r.at (D.block y Q);have S:ZB w1 z v:=s.at (D.block z Z);have m:w1.cell? ⟨u,0,none⟩=some (.string reads):=by rw[(PI D).1 u 0 O];exact hu
 have c0:=R.c0;have c1:=R.c1;have f0:=R.fz 0;have f1:=R.fz 1;have J:=R.put Y X;obtain⟨_,_,K⟩:=jY (.string Y) (.string X) c0 c1;have l:=D.size;have B:=S.at (K.block z (by omega) (by simpa using M));have F:=ah (cy D _) K;clear D K;go_wp2_with fail
 generalize(w1.setCell ⟨y,0,none⟩ (.string Y)).setCell ⟨y,1,none⟩ (.string X)=w2 at *;refine(nD reads _ (by omega)).mono ?_;rintro e w3 ⟨k1,E,I⟩;rw[q.out]at k1;obtain⟨V,rfl,H⟩:=k1 W.out;clear k1 E W q;obtain⟨va,cap,rfl⟩:∃va cap,V=.slice va A.length cap:=by
  rcases H.2 with⟨h1,h2⟩|⟨g,cap,cur,h1,_⟩
  ·exact⟨none,0,by rw[h1,h2]⟩
  ·exact⟨_,cap,h1⟩
 have L:RB w3 y Y X:=J.at (I.block y J.lt);have C:ZB w3 z v:=B.at (I.block z B.lt);have c0:=C.c0;have f0:=C.fz 0;have T:=C.put (.slice va A.length cap);have K:=bJ w3 z 0 (.slice va A.length cap);have P:=L.at (K.block y L.lt (by simpa using fun h=>M h.symm));have N:=ah (cy I _) K;have p:=F.size;have U:(w3.setCell ⟨z,0,none⟩ (.slice va A.length cap)).ownsRow w.heap.size 131 3 (.slice va A.length cap) A.length (dX A):=
  qH (H.kept K (uB H z (.inl (by have:=B.lt;omega)))) (by omega)
 clear K I H;go_wp2
 go_end0
 exact⟨rfl,P,⟨_,T,U⟩,eN.of F N⟩
theorem BI(ref reads:ByteArray)(x y u z:Nat)(a b:ByteArray)(v:Value)(w:World)(h1:ref.size<=400)(h2:reads.size<=600)
  (hx:w.cell? ⟨x,0,none⟩=some (.string ref))(hu:w.cell? ⟨u,0,none⟩=some (.string reads))(S:RB w y a b)(T:ZB w z v)(G:u≠y)(V:z≠y)(D:(ji ref).2=true\/(bq reads 5 0).2=true):
  Calls Tryz.prog 89 #[.pointer (some ⟨x,0,none⟩),.pointer (some ⟨y,0,none⟩),.pointer (some ⟨u,0,none⟩),.pointer (some ⟨z,0,none⟩)] w fun e w'=>
   e=.panicked (kO ((oo ref reads).1:Int) ((oo ref reads).2:Int))/\(∃a' b',RB w' y a' b')/\ZB w' z v/\eN w w' y z:=by
 have C:=S.lt;have J:=T.lt;have O:u<w.heap.size:=by have:=block_lt_of_cell hu;simpa using this
 by_cases R:(ji ref).2=true
 ·have U:oo ref reads=(2,(ji ref).1):=if_pos R;rw[U];have M:=laid R;clear D U R
  go_enter ahO,ahB
  go_wp2_with fail
  refine(gY ref _ (by omega)).mono ?_;rintro e w1 ⟨k1,L,K⟩;obtain rfl:=L M.out;exact⟨rfl,rfl,⟨a,b,S.at (K.block y C)⟩,T.at (K.block z J),uC K _ _⟩
 ·have hb:=D.resolve_left R;have U:oo ref reads=(3,(bq reads 5 0).1):=by unfold oo;rw[if_neg R,if_pos hb]
  rw[U];rw[agc]at R;have M:=laid R;have Z:=laid hb;clear D U R hb
  go_enter ahO,ahB
  go_wp2_with fail
  refine(gY ref _ (by omega)).mono ?_;rintro e w1 ⟨k1,L,K⟩;generalize str (dy ref).2=X at *;generalize H3 ref=Y at *;obtain rfl:=k1 M.out;clear k1 L M;have H:RB w1 y a b:=S.at (K.block y C);have P:ZB w1 z v:=T.at (K.block z J);have E:w1.cell? ⟨u,0,none⟩=some (.string reads):=by rw[(PI K).1 u 0 O];exact hu
  have c0:=H.c0;have c1:=H.c1;have f0:=H.fz 0;have f1:=H.fz 1;have B:=H.put Y X;obtain⟨_,_,A⟩:=jY (.string Y) (.string X) c0 c1;have Q:=K.size;have F:=P.at (A.block z (by omega) (by simpa using V));have N:=ah (cy K _) A;clear K A;go_wp2_with fail
  refine(nD reads _ (by omega)).mono ?_;rintro e w3 ⟨k1,L,I⟩;obtain rfl:=L Z.out;exact⟨rfl,rfl,⟨Y,X,B.at (I.block y B.lt)⟩,F.at (I.block z F.lt),eN.of N (cy I _)⟩
theorem uD(ref reads:ByteArray)(x y u z:Nat)(a b:ByteArray)(v:Value)(w:World)(h1:ref.size<=400)(h2:reads.size<=600)
  (hx:w.cell? ⟨x,0,none⟩=some (.string ref))(hu:w.cell? ⟨u,0,none⟩=some (.string reads))(T:RB w y a b)(E:ZB w z v)(L:u≠y)(O:z≠y)(S:(ji ref).2=false)(hb:(bq reads 5 0).2=false):
  Calls Tryz.prog 41 #[.func (.func 89) #[] #[.pointer (some ⟨x,0,none⟩),.pointer (some ⟨y,0,none⟩),.pointer (some ⟨u,0,none⟩),.pointer (some ⟨z,0,none⟩)]] w fun e w'=>
   e=.returned (.agg #[.int .i64 0,.int .i64 0])/\RB w' y (H3 ref) (str (dy ref).2)/\(∃V,ZB w' z V/\w'.ownsRow w.heap.size 131 3 V (ai reads 5 0).length (dX (ai reads 5 0)))/\eN w w' y z:=by
 have P:=laid S;have Q:=laid hb;clear S hb;have J:x<w.heap.size:=by have:=block_lt_of_cell hx;simpa using this
 have F:u<w.heap.size:=by have:=block_lt_of_cell hu;simpa using this
 have M:=T.lt;have N:=E.lt
 go_enter_defers Tryz.func41,Tryz.ntmps41
 go_wp2_with fail
 refine(Eo ref reads x y u z a b v _ h1 h2 ?_ ?_ (T.at (heap_alloc_old _ _ M)) (E.at (heap_alloc_old _ _ N)) L O P.out Q.out).mono ?_
 ·rw[agr _ _ _ J];exact hx
 ·rw[agr _ _ _ F];exact hu
 rintro e w1 ⟨rfl,H,⟨V,D,K⟩,B⟩;have I:=B.block w.heap.size (by simp) (by omega) (by omega);rw[heap_alloc_new]at I;have n0:w1.cell? ⟨w.heap.size,0,none⟩=some (.int .i64 0):=by rw[cell_of_row _ _ _ _ _ _ I];rfl
 have n1:w1.cell? ⟨w.heap.size,1,none⟩=some (.int .i64 0):=by rw[cell_of_row _ _ _ _ _ _ I];rfl
 have z0:w1.frozen? ⟨w.heap.size,0,none⟩=false:=frozen_of_row _ _ _ _ _ I;have Z:w1.frozen? ⟨w.heap.size,1,none⟩=false:=frozen_of_row _ _ _ _ _ I;go_wp2
 obtain⟨m0,m1,Y⟩:=jY (.int .i64 0) (.int .i64 0) n0 n1;have A:=H.at (Y.block y H.lt (by simp;omega));have U:=D.at (Y.block z D.lt (by simp;omega));have R:=qH (K.kept Y (uB K w.heap.size (.inl (by simp)))) (show w.heap.size<=_ by simp);have C:=eN.new B Y;clear H D I n0 n1 z0 Z B Y K;refine leaves_cons (f:=61) (args:=#[.pointer (some ⟨w.heap.size,0,none⟩)]) (by simp) (by simp[go_sem]) ?_;refine(CJ _ _).mono ?_;rintro e G X ⟨rfl,rfl,rfl⟩;refine⟨.agg #[.int .i64 0,.int .i64 0],?_,rfl,A,⟨V,U,R⟩,C⟩;simp[results,Tryz.results41,go_sem,m0,m1]
theorem sc(ref reads:ByteArray)(x y u z:Nat)(a b:ByteArray)(v:Value)(w:World)(h1:ref.size<=400)(h2:reads.size<=600)
  (hx:w.cell? ⟨x,0,none⟩=some (.string ref))(hu:w.cell? ⟨u,0,none⟩=some (.string reads))(S:RB w y a b)(T:ZB w z v)(F:u≠y)(N:z≠y)(K:(ji ref).2=true\/(bq reads 5 0).2=true):
  Calls Tryz.prog 41 #[.func (.func 89) #[] #[.pointer (some ⟨x,0,none⟩),.pointer (some ⟨y,0,none⟩),.pointer (some ⟨u,0,none⟩),.pointer (some ⟨z,0,none⟩)]] w fun e w'=>
   e=.returned (.agg #[.int .i64 ((oo ref reads).1:Int),.int .i64 ((oo ref reads).2:Int)])/\(∃a' b',RB w' y a' b')/\ZB w' z v/\eN w w' y z:=by
 have P:=laid K;clear K;have J:x<w.heap.size:=by have:=block_lt_of_cell hx;simpa using this
 have C:u<w.heap.size:=by have:=block_lt_of_cell hu;simpa using this
 have L:=S.lt;have M:=T.lt
 go_enter_defers Tryz.func41,Tryz.ntmps41
 go_wp2_with fail
 refine(BI ref reads x y u z a b v _ h1 h2 ?_ ?_ (S.at (heap_alloc_old _ _ L)) (T.at (heap_alloc_old _ _ M)) F N P.out).mono ?_
 ·rw[agr _ _ _ J];exact hx
 ·rw[agr _ _ _ C];exact hu
 rintro e w1 ⟨rfl,⟨a',b',I⟩,A,O⟩;have R:=O.block w.heap.size (by simp) (by omega) (by omega);rw[heap_alloc_new]at R;have n0:w1.cell? ⟨w.heap.size,0,none⟩=some (.int .i64 0):=by rw[cell_of_row _ _ _ _ _ _ R];rfl
 have n1:w1.cell? ⟨w.heap.size,1,none⟩=some (.int .i64 0):=by rw[cell_of_row _ _ _ _ _ _ R];rfl
 have z0:w1.frozen? ⟨w.heap.size,0,none⟩=false:=frozen_of_row _ _ _ _ _ R;have X:w1.frozen? ⟨w.heap.size,1,none⟩=false:=frozen_of_row _ _ _ _ _ R;refine leaves_cons (f:=61) (args:=#[.pointer (some ⟨w.heap.size,0,none⟩)]) (by simp) (by simp[go_sem]) ?_;refine(CH _ _ _ _ _ [] _ n0 n1 z0 X).mono ?_;rintro e Z V ⟨rfl,rfl,rfl⟩;have Q:w.heap.size<w1.heap.size:=by have:=block_lt_of_cell n0;simpa using this
 obtain⟨m0,m1,Y⟩:=jY (.int .i64 ((oo ref reads).1:Int)) (.int .i64 ((oo ref reads).2:Int)) n0 n1;have H:=I.at (Y.block y I.lt (by simp;omega));have D:=A.at (Y.block z A.lt (by simp;omega));have U:=eN.new O Y;generalize hW:(w1.setCell ⟨w.heap.size,0,none⟩ (.int .i64 ((oo ref reads).1:Int))).setCell ⟨w.heap.size,1,none⟩ (.int .i64 ((oo ref reads).2:Int))=w2 at *;have B:w.heap.size<w2.heap.size:=by have:=Y.size;omega
 refine⟨.agg #[.int .i64 ((oo ref reads).1:Int),.int .i64 ((oo ref reads).2:Int)],?_,rfl,⟨a',b',H.at (heap_alloc_old _ _ H.lt)⟩,D.at (heap_alloc_old _ _ D.lt),U.alloc _⟩;simp[results,Tryz.results41,go_sem,m0,m1,B]
def uE(w:World)(ref reads:ByteArray)(E P:Int)(K:List (ByteArray×ByteArray×ByteArray))(e:Ending)(w':World):=
 ∃a b V,e=.returned (.tuple #[.agg #[.string a,.string b],V,.agg #[.int .i64 E,.int .i64 P]])/\(∃va n cap,V=.slice va n cap)/\Below w.heap.size w w'/\
  (E=0->a=H3 ref/\b=str (dy ref).2/\w'.ownsRow w.heap.size 131 3 V K.length (dX K))
theorem FB.put{c p:Int}(h:FB w m c p)(c' p':Int):FB ((w.setCell ⟨m,0,none⟩ (.int .i64 c')).setCell ⟨m,1,none⟩ (.int .i64 p')) m c' p':=by
 have h1:FB (w.setCell ⟨m,0,none⟩ (.int .i64 c')) m c' p:=by unfold FB at *;rw[heap_setCell_same w m 0 _ _ _ h];rfl
 unfold FB at *;rw[heap_setCell_same _ m 1 _ _ _ h1];rfl
theorem Sj{w1:World}{K o1 o2 o3 o4:Obj}(h:eN (((((w.alloc K).alloc o1).alloc o2).alloc o3).alloc o4) w1 (w.heap.size+1+1) (w.heap.size+1+1+1)):Below w.heap.size w w1/\w1.heap[w.heap.size+1+1+1+1]?=some o4/\w.heap.size+5<=w1.heap.size:=by
 have hb:=h.below (B:=w.heap.size) (by simp;omega) (by omega) (by omega);refine⟨((((((aga _ _).alloc (af5 _) K).alloc (by simp) o1).alloc (by simp;omega) o2).alloc (by simp;omega) o3).alloc (by simp;omega) o4).trans hb,?_,by have:=h.size;simp_all⟩;rw[h.block _ (by simp) (by omega) (by omega)];have e:w.heap.size+1+1+1+1=((((w.alloc K).alloc o1).alloc o2).alloc o3).heap.size:=by simp
 rw[e,heap_alloc_new]
theorem Lk(w:World)(K o1:Obj)(o3 o4:Obj):RB (((((w.alloc K).alloc o1).alloc (.cells #[.string ⟨#[]⟩,.string ⟨#[]⟩] 68)).alloc o3).alloc o4) (w.heap.size+1+1) ⟨#[]⟩ ⟨#[]⟩:=by
 unfold RB;rw[heap_alloc_old _ _ (by simp),heap_alloc_old _ _ (by simp)];have e:w.heap.size+1+1=((w.alloc K).alloc o1).heap.size:=by simp
 rw[e,heap_alloc_new]
theorem Ll(w:World)(K o1 o2:Obj)(o4:Obj)(v:Value):ZB (((((w.alloc K).alloc o1).alloc o2).alloc (.cells #[v] 90)).alloc o4) (w.heap.size+1+1+1) v:=by
 unfold ZB;rw[heap_alloc_old _ _ (by simp)];have e:w.heap.size+1+1+1=(((w.alloc K).alloc o1).alloc o2).heap.size:=by simp
 rw[e,heap_alloc_new]
theorem uF{a:Addr}(h:w.cell? a=some v):w.setCell a v=w:=by
 have e:(w.heap.modify a.block fun
   |.cells c elem frozen=>.cells (if a.spot.isSome then c else c.setIfInBounds a.off v) elem frozen
   |o=>o)=w.heap:=by
  apply Array.ext
  ·simp
  ·intro i h1 h2;rw[Array.getElem_modify];split
   ·rename_i he;subst he;unfold agW at h;rw[af8 h2]at h;generalize w.heap[a.block]=o at *;cases o with
    |cells c elem frozen=>
     simp only at h⊢;split at h
     ·simp at h
     ·rename_i Y;rw[if_neg Y];congr 1;apply Array.ext
      ·simp
      ·intro j k1 K;rw[Array.getElem_setIfInBounds];split
       ·simp_all
       ·rfl
    |_=>simp at h
   ·rfl
 exact congrArg (fun h=>({w with heap:=h})) e
theorem Lm{B:Nat}{xs:List _}(h:w.ownsRow B e k v n xs):w.drew.ownsRow B e k v n xs:=h
theorem uG(ref reads:ByteArray)(w:World)(h1:ref.size<=400)(h2:reads.size<=600):
  Calls Tryz.prog 58 #[.string ref,.string reads] w fun e w'=>uE w ref reads ((oo ref reads).1:Int) ((oo ref reads).2:Int) (ai reads 5 0) e w':=by
 have f:∀(fn:Fn) (first cap:Array Value) (w:World),(Instr.makeFunc fn first cap).run Tryz.prog w=.ok (.func fn first cap) w:=fun _ _ _ _=>rfl;have M:∀W:World,W.cell? ⟨w.heap.size,0,none⟩=some (.string ref)->W.cell? ⟨w.heap.size+1,0,none⟩=some (.string reads)->RB W (w.heap.size+1+1) ⟨#[]⟩ ⟨#[]⟩->ZB W (w.heap.size+1+1+1) (.slice none 0 0)->w.heap.size<=W.heap.size->
   Calls Tryz.prog 41 #[.func (.func 89) #[] #[.pointer (some ⟨w.heap.size,0,none⟩),.pointer (some ⟨w.heap.size+1+1,0,none⟩),.pointer (some ⟨w.heap.size+1,0,none⟩),.pointer (some ⟨w.heap.size+1+1+1,0,none⟩)]] W fun e w'=>
    e=.returned (.agg #[.int .i64 ((oo ref reads).1:Int),.int .i64 ((oo ref reads).2:Int)])/\eN W w' (w.heap.size+1+1) (w.heap.size+1+1+1)/\
    ∃a b V,RB w' (w.heap.size+1+1) a b/\ZB w' (w.heap.size+1+1+1) V/\(∃va n cap,V=.slice va n cap)/\(((oo ref reads).1:Int)=0->a=H3 ref/\b=str (dy ref).2/\w'.ownsRow W.heap.size 131 3 V (ai reads 5 0).length (dX (ai reads 5 0))):=by
  intro W c0 c1 F J hW;by_cases Y:(ji ref).2=true\/(bq reads 5 0).2=true
  ·refine(sc ref reads _ _ _ _ _ _ _ W h1 h2 c0 c1 F J (by omega) (by omega) Y).mono ?_;rintro e w' ⟨rfl,⟨a,b,k1⟩,Z,Q⟩;refine⟨rfl,Q,a,b,_,k1,Z,⟨_,_,_,rfl⟩,fun h=>?_⟩;exfalso;unfold oo at h;by_cases B:(ji ref).2=true
   ·rw[if_pos B]at h;simp at h
   ·rw[if_neg B,if_pos (Y.resolve_left B)]at h;simp at h
  ·have B:(ji ref).2=false:=by simpa using fun h=>Y (.inl h)
   have hb:(bq reads 5 0).2=false:=by simpa using fun h=>Y (.inr h)
   have c:oo ref reads=(0,0):=by unfold oo;rw[B,hb];rfl
   rw[c];refine(uD ref reads _ _ _ _ _ _ _ W h1 h2 c0 c1 F J (by omega) (by omega) B hb).mono ?_;rintro e w' ⟨rfl,k1,⟨V,Z,Q⟩,o⟩;refine⟨rfl,o,_,_,V,k1,Z,?_,fun _=>⟨rfl,rfl,Q⟩⟩;rcases Q.2 with⟨h1,h2⟩|⟨g,cap,cur,h1,_⟩
   ·exact⟨none,0,0,h1⟩
   ·exact⟨_,_,cap,h1⟩
 have L:=laid M;clear M;generalize j:((oo ref reads).1:Int)=E at *;generalize hP:((oo ref reads).2:Int)=P at *;generalize z:ai reads 5 0=O at *;clear j hP z
 go_enter ahP,ahC
 go_wp2_with fail
 refine(L.out _ (by simp[go_sem]) (by simp[go_sem]) (Lk w _ _ _ _) (Ll w _ _ _ _ _) (by simp;omega)).mono ?_;rintro e w1 ⟨rfl,N,a,b,V,F,J,⟨va,n,cap,rfl⟩,R⟩;obtain⟨D,hm,l⟩:=Sj N;have C:FB w1 (w.heap.size+1+1+1+1) 0 0:=hm;have G:Hid (E=0->a=H3 ref/\b=str (dy ref).2/\w1.ownsRow (w.heap.size+5) 131 3 (.slice va n cap) O.length (dX O)):=laid fun h=>by
  obtain⟨g1,g2,g3⟩:=R h;refine⟨g1,g2,?_⟩;simpa using g3
 clear N hm R L;have f0:=C.c0;have f1:=C.c1;have T:=C.fz 0;have X:=C.fz 1;have K:=C.put E P;obtain⟨_,_,H⟩:=jY (.int .i64 E) (.int .i64 P) f0 f1;have I:=F.at (H.block _ F.lt (by simp));have U:=J.at (H.block _ J.lt (by simp));have A:=D.grown H D.size (by intro k hk;cases hk;omega);have S:Hid (E=0->a=H3 ref/\b=str (dy ref).2/\((w1.setCell ⟨w.heap.size+1+1+1+1,0,none⟩ (.int .i64 E)).setCell ⟨w.heap.size+1+1+1+1,1,none⟩ (.int .i64 P)).ownsRow (w.heap.size+5) 131 3 (.slice va n cap) O.length (dX O)):=laid fun h=>by
  obtain⟨g1,g2,g3⟩:=G.out h;exact⟨g1,g2,g3.kept H (uB g3 _ (.inl (by omega)))⟩
 have q:=H.size;clear H D G;go_wp2_with fail
 generalize(w1.setCell ⟨w.heap.size+1+1+1+1,0,none⟩ (.int .i64 E)).setCell ⟨w.heap.size+1+1+1+1,1,none⟩ (.int .i64 P)=w2 at *;clear f0 f1 T X;have a0:=I.c0;have a1:=I.c1;have b0:=U.c0;have c0:=K.c0;have c1:=K.c1;have p:=I.fz 0;have r:=I.fz 1;have s:=U.fz 0;have XV:=K.fz 0;have u:=K.fz 1;have s1:=uF a0;have s2:=uF a1;have x:=uF b0;have y:=uF c0;have m:=uF c1;have d:=K.lt;clear F J C I U K
 go_region
 all_goals
  go_wp2
  refine bodyPost_ret (v:=.tuple #[.agg #[.string a,.string b],.slice va n cap,.agg #[.int .i64 E,.int .i64 P]]) ?_ rfl ?_
  ·simp[results,ahj,go_sem,a0,a1,b0,c0,c1]
  ·exact⟨a,b,.slice va n cap,rfl,⟨_,_,_,rfl⟩,A.drew,fun h=>by
    obtain⟨g1,g2,g3⟩:=S.out h;exact⟨g1,g2,qH (Lm g3) (by omega)⟩⟩
theorem wy(ref reads:ByteArray)(w:World)(h1:ref.size<=maxLen)(h2:reads.size<=maxLen)(K:400<ref.size\/600<reads.size):
  Calls Tryz.prog 58 #[.string ref,.string reads] w fun e w'=>uE w ref reads 1 0 (ai reads 5 0) e w':=by
 have D:∀(fn:Fn) (first cap:Array Value) (w:World),(Instr.makeFunc fn first cap).run Tryz.prog w=.ok (.func fn first cap) w:=fun _ _ _ _=>rfl;unfold maxLen at h1 h2;generalize Y:ai reads 5 0=R at *;clear Y;by_cases H:400<ref.size
 ·clear K
  go_enter ahP,ahC
  go_wp2
  refine bodyPost_ret (v:=.tuple #[.agg #[.string ⟨#[]⟩,.string ⟨#[]⟩],.slice none 0 0,.agg #[.int .i64 1,.int .i64 0]]) ?_ rfl ?_
  ·simp[results,ahj,go_sem]
  ·refine⟨_,_,_,rfl,⟨_,_,_,rfl⟩,?_,fun h=>by simp at h⟩;exact((((((aga _ _).alloc (af5 _) _).alloc (by simp) _).alloc (by simp;omega) _).alloc (by simp;omega) _).alloc (by simp;omega) _)
 ·have hb:=K.resolve_left H;clear K
  go_enter ahP,ahC
  go_wp2
  refine bodyPost_ret (v:=.tuple #[.agg #[.string ⟨#[]⟩,.string ⟨#[]⟩],.slice none 0 0,.agg #[.int .i64 1,.int .i64 0]]) ?_ rfl ?_
  ·simp[results,ahj,go_sem]
  ·refine⟨_,_,_,rfl,⟨_,_,_,rfl⟩,?_,fun h=>by simp at h⟩;exact((((((aga _ _).alloc (af5 _) _).alloc (by simp) _).alloc (by simp;omega) _).alloc (by simp;omega) _).alloc (by simp;omega) _)
theorem zo(ref reads:ByteArray)(w:World)(h1:ref.size<=maxLen)(h2:reads.size<=maxLen):
  Calls Tryz.prog 58 #[.string ref,.string reads] w fun e w'=>uE w ref reads (bV ref reads) (qI ref reads) (ai reads 5 0) e w':=by
 by_cases Y:400<ref.size\/600<reads.size
 ·have K:bV ref _=1:=if_pos Y;have H:qI ref _=0:=if_pos Y;rw[K,H];exact wy ref _ w h1 h2 Y
 ·have K:bV ref _=((oo ref _).1):=if_neg Y;have H:qI ref _=((oo ref _).2):=if_neg Y;rw[K,H];exact uG ref _ w (by omega) (by omega)
def pE(len X k st b:Nat):=min (b *st+st+len+k) X
def looked(P X:ByteArray)(k q st:Nat)(t:Int)(b:Nat):Bool:=decide (t<=0)||decide (t<=(vv P (X.extract (b *st) (pE P.size X.size k st b)) q:Int))
theorem cC(n:Nat)(h:n<=9999):1<=(br n).length/\(br n).length<=4:=by
 by_cases h1:n<=9
 ·rw[iz n h1];simp
 rw[oG n h1];by_cases h2:n/10<=9
 ·rw[iz _ h2];simp
 rw[oG _ h2];by_cases Y:n/10/10<=9
 ·rw[iz _ Y];simp
 rw[oG _ Y,iz _ (by omega)];simp
def stretches(X st:Nat):=(X+st-1)/st
theorem ie(X st b:Nat)(K:1<=st):b *st<X↔b<stretches X st:=by
 unfold stretches;rw[Nat.lt_div_iff_mul_lt (by omega)];omega
def Ep(len k q:Nat):Int:=(len:Int)-(q:Int)+1-((k *q:Nat):Int)
theorem rJ(s:ByteArray):∀f acc st,acc.length<=200->st.1<=s.size->(cL s f acc st).2.length<=200
 |0,acc,st,h,_=>h
 |f+1,acc,st,h,Y=>by
  simp[cL];split
  ·refine rJ s f _ _ ?_ (gE s _ _ Y).2;have:=yu s (200-acc.length) _ Y;have:=lz s (200-acc.length) st.1;rw[af6];omega
  omega
theorem Er(s:ByteArray):(dy s).2.length<=200:=rJ s _ _ _ (by simp) (iA s 62 0 (by omega)).2
def eI(s:ByteArray)
 |0=>([],0)
 |i+1=>if i+1=s.size\/at8 s (i+1)≠at8 s i then((eI s i).1++br ((eI s i).2+1)++[at8 s i],0)else((eI s i).1,(eI s i).2+1)
def nE(s:ByteArray):=(eI s s.size).1
theorem zp(s:ByteArray):∀i,i<=9000->(eI s i).2<=i/\(eI s i).1.length<=5 *i
 |0,_=>by simp[eI]
 |i+1,h=>by
  have Y:=zp s i (by omega);have hd:=cC ((eI s i).2+1) (by omega);rw[eI];split
  ·simp;omega
  ·simp only;omega
theorem Ln{s:ByteArray}{i:Nat}(h:i+1=s.size\/at8 s (i+1)≠at8 s i):eI s (i+1)=((eI s i).1++br ((eI s i).2+1)++[at8 s i],0):=by rw[eI,if_pos h]
theorem Ov{s:ByteArray}{i:Nat}(h:¬(i+1=s.size\/at8 s (i+1)≠at8 s i)):eI s (i+1)=((eI s i).1,(eI s i).2+1):=by rw[eI,if_neg h]
theorem toNat_ne{a b:UInt8}(h:a≠b):(a.toNat != (b.toNat:Int))=true:=by
 rw[bne_iff_ne];intro Y;exact h (UInt8.toNat.inj (by omega))
theorem toNat_eq{a b:UInt8}(h:a=b):((a.toNat:Int) != b.toNat)=false:=by simp_all
structure Df where
 o:List UInt8
 i:Nat
 j:Nat
 n:Nat
def oq(p t s:ByteArray)(x:Nat)(st:Df):Df:=
 if at8 s x=77 then(if ag (at8 p st.i) (at8 t st.j)=true then⟨st.o,st.i+1,st.j+1,st.n+1⟩else⟨st.o++br st.n++[at8 t st.j],st.i+1,st.j+1,0⟩)
 else if at8 s x=73 then⟨st.o,st.i+1,st.j,st.n⟩
 else if x=0\/at8 s (x-1)≠68 then⟨st.o++br st.n++[94]++[at8 t st.j],st.i,st.j+1,0⟩else⟨st.o++[at8 t st.j],st.i,st.j+1,st.n⟩
def dH(p t s:ByteArray):Nat->Df
 |0=>⟨[],0,0,0⟩
 |x+1=>oq p t s x (dH p t s x)
def uH(p t s:ByteArray):=(dH p t s s.size).o++br (dH p t s s.size).n
theorem zq(p t s:ByteArray):∀x,x<=9000->(dH p t s x).i<=x/\(dH p t s x).j<=x/\(dH p t s x).n<=x/\(dH p t s x).o.length<=6 *x
 |0,_=>by simp[dH]
 |x+1,h=>by
  have Y:=zq p t s x (by omega);have hd:=cC (dH p t s x).n (by omega);simp only[dH,oq];split
  ·split
   ·simp only;omega
   ·simp;omega
  ·split
   ·simp only;omega
   ·split
    ·simp;omega
    ·simp only[af6,agw,agm];omega
def Fits(p t s:ByteArray):=∀x,x<s.size->(at8 s x=77->(dH p t s x).i<p.size/\(dH p t s x).j<t.size)/\(at8 s x≠77->at8 s x≠73->(dH p t s x).j<t.size)
def Lo(c:UInt8):=c==77||c==73
def H4(c:UInt8):=c != 73
theorem Ow(l:List _)(x:Nat):at8 (str l) x=l.getD x 0:=rfl
theorem F5(s:ByteArray)(x:Nat)(h:x<s.size):s.data.toList.take (x+1)=s.data.toList.take x++[at8 s x]:=by
 have Y:x<s.data.toList.length:=by simpa using h
 rw[ahM,af_ Y];unfold at8;rw[agx,af_ Y];rfl
theorem F6(p t s:ByteArray):∀x,x<=s.size->(dH p t s x).i=(s.data.toList.take x).countP Lo/\(dH p t s x).j=(s.data.toList.take x).countP H4
 |0,_=>by simp[dH]
 |x+1,h=>by
  have R:=F6 p t s x (by omega);rw[F5 s x (by omega),agb,agb];simp only[dH,oq];by_cases K:at8 s x=77
  ·rw[if_pos K];have H:[at8 s x].countP Lo=1:=by rw[K];rfl
   have D:[at8 s x].countP H4=1:=by rw[K];rfl
   split<;>simp only<;>omega
  ·rw[if_neg K];by_cases Y:at8 s x=73
   ·rw[if_pos Y];have H:[at8 s x].countP Lo=1:=by rw[Y];rfl
    have D:[at8 s x].countP H4=0:=by rw[Y];rfl
    simp_all
   ·rw[if_neg Y];have H:[at8 s x].countP Lo=0:=by simp[Lo,K,Y]
    have D:[at8 s x].countP H4=1:=by simp[H4,Y]
    split<;>simp only<;>omega
theorem kt(p t:ByteArray):∀(f i j:Nat),i+j<=f->(cV p t f i j).countP Lo=i/\(cV p t f i j).countP H4=j
 |0,i,j,h=>by
  have h1:i=0:=by omega
  have h2:j=0:=by omega
  subst h1 h2;simp[cV]
 |f+1,i,j,h=>by
  rw[cV];by_cases I:i=0/\j=0
  ·simp_all
  ·rw[if_neg I];by_cases H:E_ p t i j=true
   ·rw[if_pos H];have A:=ss H;have Y:=kt p t f (i-1) (j-1) (by omega);rw[agb,agb,Y.1,Y.2];have D:[(77:UInt8)].countP Lo=1:=rfl;have R:[(77:UInt8)].countP H4=1:=rfl;omega
   ·rw[if_neg H];by_cases K:Cp p t i j=true
    ·rw[if_pos K];have A:=su K;have Y:=kt p t f (i-1) j (by omega);rw[agb,agb,Y.1,Y.2];have D:[(73:UInt8)].countP Lo=1:=rfl;have R:[(73:UInt8)].countP H4=0:=rfl;omega
    ·rw[if_neg K];have A:=oK (by simpa using K) I;have Y:=kt p t f i (j-1) (by omega);rw[agb,agb,Y.1,Y.2];have D:[(68:UInt8)].countP Lo=0:=rfl;have R:[68].countP H4=1:=rfl;omega
theorem H7(p t:ByteArray):Fits p t (str (cu p t)):=by
 intro x hx;have U:=kt p t _ p.size t.size (af5 _);have H:=F6 p t (str (cu p t)) x (by omega);have Y:=F5 _ x hx;have hle:∀f,((str (cu p t)).data.toList.take (x+1)).countP f<=(cu p t).countP f:=fun f=>(List.take_sublist _ _).countP_le;have h1:=hle Lo;have h2:=hle H4;have R:cu p t=cV p t _ _ _:=rfl;rw[Y,agb]at h1 h2;rw[R]at h1 h2;rw[H.1,H.2];rw[R]at *;refine⟨fun K=>?_,fun K D=>?_⟩
 ·rw[K]at h1 h2;have A:[77].countP Lo=1:=rfl;have I:[77].countP H4=1:=rfl;omega
 ·have I:[at8 (str (cV p t (p.size+t.size) p.size t.size)) x].countP H4=1:=by simp[H4,D]
  omega
def Es(s:ByteArray)
 |0=>[]
 |x+1=>Es s x++[at8 s (s.size-1-x)]
def cU(s:ByteArray):=Es s s.size
theorem BJ(s:ByteArray):∀x,(Es s x).length=x
 |0=>rfl
 |x+1=>by rw[Es,af6,BJ s x];rfl
theorem BK(s:ByteArray):∀x,x<=s.size->Es s x=(s.data.toList.drop (s.size-x)).reverse
 |0,_=>by simp[Es]
 |x+1,h=>by
  rw[Es,BK s x (by omega)];have Y:s.size-(x+1)<s.data.toList.length:=by simp;omega
  rw[ag8 Y,List.reverse_cons,show s.size-(x+1)+1=s.size-x by omega];unfold at8;rw[show s.size-1-x=s.size-(x+1) by omega,agx,af_ Y];rfl
theorem pF(s:ByteArray):cU s=s.data.toList.reverse:=by
 unfold cU;rw[BK s _ (af5 _)];simp
def F7(C:Array _)(n k:Nat):=(Array.range C.size).map fun x=>if x<n/\(x<k\/n<=x+k)then C.getD (n-1-x) undef else C.getD x undef
theorem fJ(C:Array _)(n k:Nat):(F7 C n k).size=C.size:=by simp[F7]
theorem ku(C:Array _)(n k x:Nat)(h:x<C.size):(F7 C n k)[x]?=some (if x<n/\(x<k\/n<=x+k)then C.getD (n-1-x) undef else C.getD x undef):=by
 simp[F7,h]
theorem Lq(C:Array _)(n:Nat):F7 C n 0=C:=by
 apply Array.ext
 ·exact fJ C n 0
 ·intro i h1 h2;have:=ku C n 0 i h2;rw[af8 h1]at this;rw[Option.some.inj this,if_neg (by omega)];simp[h2]
theorem Lr(C:Array Value)(n k:Nat)(D:n<=C.size)(hk:k+1+k<n):((F7 C n k).setIfInBounds k (C.getD (n-1-k) undef)).setIfInBounds (n-1-k) (C.getD k undef)=F7 C n (k+1):=by
 apply Array.ext
 ·simp[fJ]
 ·intro i h1 h2;have Y:i<C.size:=by rw[fJ]at h2;exact h2
  have H:=ku C n (k+1) i Y;rw[af8 h2]at H;rw[Option.some.inj H];have K:=ku C n k i Y;by_cases a1:i=n-1-k
  ·subst a1;rw[agK,if_pos (by omega),show n-1-(n-1-k)=k by omega]
  ·rw[agS (by simp_all) (fun h=>a1 h.symm)];by_cases a2:i=k
   ·subst a2;rw[agK,if_pos (by omega)]
   ·rw[agS (by rw[fJ];exact Y) (fun h=>a2 h.symm)];rw[af8 (by rw[fJ];exact Y)]at K;rw[Option.some.inj K];by_cases c:i<n/\(i<k\/n<=i+k)
    ·rw[if_pos c,if_pos (by omega)]
    ·rw[if_neg c,if_neg (by omega)]
theorem gd{c:Array _}{fz:Nat×Nat}(v:Value)(h:w.heap[g]?=some (.cells c e fz)):(w.setCell ⟨g,k,none⟩ v).heap[g]?=some (.cells (c.setIfInBounds k v) e fz):=by
 have Y:=(agy.1 h).1;have he:w.heap[g]=.cells c e fz:=by simp_all
 simp only[World.setCell];rw[af8 (by simp_all),Array.getElem_modify_self,he];rfl
theorem iu{c:Array _}{fz:Nat×Nat}(h:w.heap[g]?=some (.cells c e fz))(hk:¬(fz.1<=k/\k<fz.2)):w.frozen? ⟨g,k,none⟩=false:=by
 simp[World.frozen?,h];omega
theorem rK(C:Array Value)(g n cap:Nat)(fz:Nat×Nat)(w:World)(E:n<=1000)(hC:n<=C.size)(D:∀k,k<n->¬(fz.1<=k/\k<fz.2))(hb:∀x,x<n->∃z:Int,C.getD x undef=.int .u8 z)(hw:w.heap[g]?=some (.cells C 5 fz)):
  Calls Tryz.prog 148 #[.slice (some ⟨g,0,none⟩) n cap] w fun e w'=>(∃v,e=.returned v)/\w'.heap[g]?=some (.cells (F7 C n n) 5 fz)/\w.grownBy w' (some g):=by
 have B:=laid hb;have F:=laid D;clear D;have A:Hid (∀(W:World) (k:Nat),n<=k+1+k->W.heap[g]?=some (.cells (F7 C n k) 5 fz)->W.heap[g]?=some (.cells (F7 C n n) 5 fz)):=laid fun W k hk h=>by
  rw[h];congr 2;apply Array.ext
  ·simp[fJ]
  ·intro i h1 h2;have M:i<C.size:=by rw[fJ]at h2;exact h2
   have J:=ku C n k i M;have L:=ku C n n i M;rw[af8 h1]at J;rw[af8 h2]at L;rw[Option.some.inj J,Option.some.inj L];by_cases c:i<n
   ·by_cases c2:i<k\/n<=i+k
    ·rw[if_pos ⟨c,c2⟩,if_pos ⟨c,.inl c⟩]
    ·rw[if_neg (by omega),if_pos ⟨c,.inl c⟩,show n-1-i=i by omega]
   ·rw[if_neg (by omega),if_neg (by omega)]
 have P:=laid hw;clear hb hw
 go_enter Tryz.func148,Tryz.ntmps148
 go_wp2
 go_loopw [2,3] (fun iv V wr=>∃k:Nat,iv=.int .i64 (k:Int)/\V=.int .i64 ((n:Int)-1-(k:Int))/\k<=n/\wr.heap[g]?=some (.cells (F7 C n k) 5 fz)/\w.grownBy wr (some g)) (fun iv _ _=>n-(intOf iv).toNat)
 case atStart=>exact⟨0,rfl,by go_num,agZ _,by rw[Lq];exact P.out,World.grownBy.refl _ _⟩
 case round=>
  obtain⟨k,rfl,rfl,T,K,R⟩:=hrel;by_cases U:k+1+k<n
  ·have c1:(k:Int)<(n:Int)-1-(k:Int):=by omega
   obtain⟨m,hm⟩:∃m:Nat,m=n-1-k:=⟨_,rfl⟩;have H:(n:Int)-1-(k:Int)=(m:Int):=by omega
   rw[H];rw[H]at c1;have s1:wr.cell? ⟨g,k,none⟩=some (C.getD k undef):=by
    rw[cell_of_row wr g k _ _ _ K,ku C n k k (by omega),if_neg (by omega)]
   have s2:wr.cell? ⟨g,m,none⟩=some (C.getD m undef):=by
    rw[cell_of_row wr g m _ _ _ K,ku C n k m (by omega),if_neg (by omega)]
   have G:wr.frozen? ⟨g,k,none⟩=false:=iu K (F.out k (by omega));have z2:wr.frozen? ⟨g,m,none⟩=false:=iu K (F.out m (by omega));have b1:(k:Int)<(n:Int):=by omega
   have b2:(m:Int)<(n:Int):=by omega
   have Z:ahQ.wrap ((m:Int)-1)=(m:Int)-1:=ahk _ (by omega);obtain⟨X,hX⟩:=B.out k (by omega);obtain⟨Y,I⟩:=B.out m (by omega);have O:Hid ((((wr.setCell ⟨g,k,none⟩ (.int .u8 Y)).setCell ⟨g,m,none⟩ (.int .u8 X)).drew).heap[g]?=some (.cells (F7 C n (k+1)) 5 fz)):=laid (by
    have h1:=gd (k:=m) (.int .u8 X) (gd (k:=k) (.int .u8 Y) K);rw[<-hX,<-I,hm,Lr C n k hC U]at h1;rw[<-hX,<-I,hm];exact h1)
   rw[hX]at s1;rw[I]at s2;have N:=laid hm;have S:k≠m:=by omega
   clear hm H hX I K A;go_wp2_with fail
   go_region
   go_wp2
   go_roundw
   case rel=>go_light;exact⟨k+1,by go_num,by have:=N.out;congr 1;omega,by omega,O.out,ah R (ah (ah (bJ wr g k _) (bJ _ g m _)) (aJ _ 1 _))⟩
   case measure=>go_light;simp[intOf];omega
  ·have c1:¬(k:Int)<(n:Int)-1-(k:Int):=by omega
   have Q:=laid (A.out wr k (by omega) K);clear A K;go_wp2
   go_end0
   exact⟨⟨_,rfl⟩,Q.out,R⟩
theorem H8(l:List UInt8)(m:Nat):F7 ((l.map bv).toArray++agT m (.int .u8 0)) l.length l.length=(l.reverse.map bv).toArray++agT m (.int .u8 0):=by
 apply Array.ext
 ·simp[fJ]
 ·intro i h1 h2;have K:=by rw[fJ]at h1;exact h1
  have Y:=ku _ l.length l.length i K;rw[af8 h1]at Y;rw[Option.some.inj Y];by_cases c:i<l.length
  ·rw[if_pos ⟨c,.inl c⟩];simp[ahX,c,show l.length-1-i<l.length by omega];omega
  ·rw[if_neg (by omega)];rw[ahX,dif_pos K];simp[ahm,c]
theorem nF(s:ByteArray)(w:World)(L:s.size<=1000):
  Calls Tryz.prog 129 #[.string s] w fun e w'=>e=.returned (.string (str (cU s)))/\Below w.heap.size w w':=by
 have C:=fun w:World=>run_bytes_of_string (P:=Tryz.prog) w 9 79 5 s af9 agd agh
 go_enter Tryz.func129,Tryz.ntmps129
 go_wp2_with fail
 have D:bytesRow s (grownCap w s.size 0 5)=(s.data.toList.map bv).toArray++agT (grownCap w s.size 0 5-s.size) (ah1 .u8 0):=by
  unfold bytesRow;congr 1;apply Array.ext<;>simp[bv]
 have hlen:s.data.toList.length=s.size:=by simp
 rw[D];have H:=fun o=>heap_alloc_new w.drew o;refine(rK _ w.heap.size s.size _ _ _ L (by simp) (fun k hk=>by simp;omega) (fun x hx=>?_) (H _)).mono ?_
 ·have A:x<s.data.size:=hx;have F:x<((s.data.toList.map bv).toArray++agT (grownCap w s.size 0 5-s.size) (ah1 .u8 0)).size:=by simp;omega
  rw[ahX,dif_pos F];simp[ahm,hx,A,bv]
 rintro e w2 ⟨⟨v,rfl⟩,h2,I⟩;rw[<-hlen,H8]at h2;have R:=by
  have:=run_convert_bytes_back (P:=Tryz.prog) w2 79 9 5 ⟨w.heap.size,0,none⟩ (grownCap w s.size 0 5) (cU s) agd agh af9 (fun j U=>?_)
  ·rw[show(cU s).length=s.size by rw[pF];simp]at this;exact this
  ·rw[pF]at U;have B:(⟨w.heap.size,0,none⟩:Addr).add j=⟨w.heap.size,j,none⟩:=by unfold Addr.add;split<;>simp_all
   rw[B,cell_of_row w2 w.heap.size j _ _ _ h2];have K:=U;rw[Array.getElem?_append_left (by simpa using K),List.getElem?_toArray,List.getElem?_map,af_ K];simp only[Option.map_some,bv];congr 4;simp only[pF]
 have Y:Below w.heap.size w w2:=by
  refine Below.grown ((Go.below_drewN (aga _ _) 1).alloc (af5 _) _) I (by simp) ?_;intro k e;cases e;exact af5 _
 go_wp2
 go_ret
 exact⟨rfl,Y⟩
theorem Et:(Tryz.prog.info? 131).map (·.size)=some 3:=by kernel_rfl
theorem Eu(rn rb rm:ByteArray)(w:World)(hb:rb.size<=200)(hm:rm.size<=1000):
  Calls Tryz.prog 112 #[.agg #[.string rn,.string rb,.string rm]] w fun e w'=>e=.returned (.agg #[.string rn,.string (bL rb 0),.string (str (cU rm))])/\Below w.heap.size w w':=by
 have O:=laid (fun W:World=>I2 rb W hb);have N:=laid (fun W:World=>nF rm W hm);generalize bL rb 0=OB at *;generalize str (cU rm)=M at *
 go_enter Tryz.func112,Tryz.ntmps112
 go_wp2_with fail
 obtain⟨w0,D,P⟩:∃w0:World,((w.alloc (.cells #[.string rn,.string rb,.string rm] 131)).alloc (.cells #[.string ⟨#[]⟩,.string ⟨#[]⟩,.string ⟨#[]⟩] 131))=w0/\w0.heap.size=w.heap.size+2:=⟨_,rfl,by simp⟩;have B:w0.heap[w.heap.size]?=some (.cells #[.string rn,.string rb,.string rm] 131 (0,0)):=by
  rw[<-D,heap_alloc_old _ _ (by simp)];exact heap_alloc_new w _
 have hC:w0.heap[w.heap.size+1]?=some (.cells #[.string ⟨#[]⟩,.string ⟨#[]⟩,.string ⟨#[]⟩] 131 (0,0)):=by
  rw[<-D];have:=heap_alloc_new (w.alloc (.cells #[.string rn,.string rb,.string rm] 131)) (.cells #[.string ⟨#[]⟩,.string ⟨#[]⟩,.string ⟨#[]⟩] 131);simpa using this
 have J:Below w.heap.size w w0:=by rw[<-D];exact((aga _ _).alloc (af5 _) _).alloc (by simp) _
 rw[D];clear D;have a0:w0.cell? ⟨w.heap.size,0,none⟩=some (.string rn):=by rw[cell_of_row w0 _ 0 _ _ _ B];rfl
 have a1:w0.cell? ⟨w.heap.size,1,none⟩=some (.string rb):=by rw[cell_of_row w0 _ 1 _ _ _ B];rfl
 have a2:w0.cell? ⟨w.heap.size,2,none⟩=some (.string rm):=by rw[cell_of_row w0 _ 2 _ _ _ B];rfl
 have c0:w0.cell? ⟨w.heap.size+1,0,none⟩=some (.string ⟨#[]⟩):=by rw[cell_of_row w0 _ 0 _ _ _ hC];rfl
 have c1:w0.cell? ⟨w.heap.size+1,1,none⟩=some (.string ⟨#[]⟩):=by rw[cell_of_row w0 _ 1 _ _ _ hC];rfl
 have c2:w0.cell? ⟨w.heap.size+1,2,none⟩=some (.string ⟨#[]⟩):=by rw[cell_of_row w0 _ 2 _ _ _ hC];rfl
 have f0:w0.frozen? ⟨w.heap.size+1,0,none⟩=false:=iu hC (by simp);have f1:w0.frozen? ⟨w.heap.size+1,1,none⟩=false:=iu hC (by simp);have f2:w0.frozen? ⟨w.heap.size+1,2,none⟩=false:=iu hC (by simp);have I:w.heap.size<w0.heap.size:=by omega
 have K:w.heap.size+1<w0.heap.size:=by omega
 have R:Hid (∀W:World,Below w0.drew.heap.size w0.drew W->W.heap[w.heap.size+1]?=some (.cells #[.string ⟨#[]⟩,.string ⟨#[]⟩,.string ⟨#[]⟩] 131 (0,0))):=laid fun W hW=>by rw[hW.block _ K];exact hC
 clear B hC;have C:Hid (∀W:World,Below w0.drew.heap.size w0.drew W->W.cell? ⟨w.heap.size,0,none⟩=some (.string rn)/\W.cell? ⟨w.heap.size,1,none⟩=some (.string rb)/\W.cell? ⟨w.heap.size,2,none⟩=some (.string rm)):=laid fun W hW=>⟨by rw[hW.cell (p:=⟨w.heap.size,0,none⟩) I];exact a0,by rw[hW.cell (p:=⟨w.heap.size,1,none⟩) I];exact a1,by rw[hW.cell (p:=⟨w.heap.size,2,none⟩) I];exact a2⟩;have A:Hid (∀W:World,Below w0.drew.heap.size w0.drew W->W.cell? ⟨w.heap.size+1,0,none⟩=some (.string ⟨#[]⟩)/\W.cell? ⟨w.heap.size+1,1,none⟩=some (.string ⟨#[]⟩)/\W.cell? ⟨w.heap.size+1,2,none⟩=some (.string ⟨#[]⟩)/\W.frozen? ⟨w.heap.size+1,0,none⟩=false/\W.frozen? ⟨w.heap.size+1,1,none⟩=false/\W.frozen? ⟨w.heap.size+1,2,none⟩=false):=laid fun W hW=>⟨by rw[hW.cell (p:=⟨w.heap.size+1,0,none⟩) K];exact c0,by rw[hW.cell (p:=⟨w.heap.size+1,1,none⟩) K];exact c1,by rw[hW.cell (p:=⟨w.heap.size+1,2,none⟩) K];exact c2,by rw[hW.frozen (p:=⟨w.heap.size+1,0,none⟩) K];exact f0,by rw[hW.frozen (p:=⟨w.heap.size+1,1,none⟩) K];exact f1,by rw[hW.frozen (p:=⟨w.heap.size+1,2,none⟩) K];exact f2⟩;clear c0 c1 c2 f0 f1 f2
 go_region_law
  (first
   |(go_simp;go_at_call 51;refine(O.out _).mono ?_;rintro e w' ⟨rfl,Y⟩;obtain⟨d0,d1,d2⟩:=C.out _ Y)
   |(go_simp;go_at_call 129;refine(N.out _).mono ?_;rintro e L ⟨rfl,H⟩;obtain⟨g0,g1,g2,g3,g4,g5⟩:=A.out _ (Y.trans (H.mono Y.size));obtain⟨Q,k1,S⟩:=C.out _ (Y.trans (H.mono Y.size))))
 all_goals
  have F:Hid (Below w.heap.size w (((L.setCell ⟨w.heap.size+1,0,none⟩ (.string rn)).setCell ⟨w.heap.size+1,1,none⟩ (.string OB)).setCell ⟨w.heap.size+1,2,none⟩ (.string M))):=laid (((((Go.below_drewN J 1).trans (Y.mono (by simp;omega))).trans (H.mono (by have:=Y.size;simp at this;omega))).setCell (p:=⟨w.heap.size+1,0,none⟩) (by simp) _|>.setCell (p:=⟨w.heap.size+1,1,none⟩) (by simp) _).setCell (p:=⟨w.heap.size+1,2,none⟩) (by simp) _);have U:=gd (k:=2) (.string M) (gd (k:=1) (.string OB) (gd (k:=0) (.string rn) (R.out _ (Y.trans (H.mono Y.size)))));clear O N C A R Y H;go_wp2
  (try simp only[Exit.inBlock,Exit.then])
  refine bodyPost_ret (results_cell_row rfl _ _ (w.heap.size+1) _ _ _ _ rfl U Tryz.underlying131 rfl Et) rfl ?_;exact⟨rfl,F.out⟩
theorem F8(p t:ByteArray)(k:Nat):∀n,n<=t.size+1->∀h∈c8 p t k n,h.1<=h.2.1/\h.2.1<=t.size/\h.2.2<=k
 |0,_,h,hm=>by simp[c8]at hm
 |e+1,K,h,hm=>by
  have Y:=F8 p t k e (by omega);rw[c8]at hm;split at hm
  ·rename_i hb;rw[ahY,ag2]at hm;rcases hm with hm|hm
   ·exact Y h hm
   ·subst hm;have:=jZ p t k e (tries p k e);exact⟨this,by simp_all,hb⟩
  ·exact Y h hm
def Ls(K rn p mk t steps:ByteArray)(n s d:Nat):=
 rn.data.toList++[9]++br n++[9]++K.data.toList++[9]++br (s+1)++[9]++nE steps++[9]++br d++[9]++uH p t steps++[9]++p.data.toList++[9]++mk.data.toList++[10]
def pG(D K rn p mk:ByteArray)(n:Nat)(h:Nat×Nat×Nat):=
 Ls D rn p mk (K.extract h.1 h.2.1) (str (cu p (K.extract h.1 h.2.1))) n h.1 h.2.2
def BL(add:Nat)(more:Bool)(i:Nat):=if more=true\/0<i then add+256 else add
def uI(D K rn p mk:ByteArray)(add:Nat)(more:Bool)(L:List (Nat×Nat×Nat)):Nat->List UInt8
 |0=>[]
 |i+1=>uI D K rn p mk add more L i++pG D K rn p mk (BL add more i) (L.getD i (0,0,0))
def kv(D K rn p mk:ByteArray)(add k:Nat)(more:Bool):=uI D K rn p mk add more (iB p K k) (iB p K k).length
theorem xR(s:ByteArray)(h:s.size<=9000):(nE s).length<=5 *s.size:=(zp s _ h).2
theorem BM(p t s:ByteArray)(h:s.size<=9000):(uH p t s).length<=6 *s.size+4:=by
 have h1:=zq p t s _ h;have h2:=cC (dH p t s s.size).n (by omega);unfold uH;rw[af6];omega
theorem BN(D K rn p mk:ByteArray)(add:Nat)(more:Bool)(L:List (Nat×Nat×Nat))(U:D.size<=1000)(A:K.size<=300)(I:rn.size<=1000)(F:p.size<=100)(R:mk.size<=1000)(C:add<=1000)
  (B:∀h∈L,h.1<=h.2.1/\h.2.1<=K.size/\h.2.2<=1000):∀i,i<=L.length->(uI D K rn p mk add more L i).length<=20000 *i
 |0,_=>by simp[uI]
 |i+1,T=>by
  have V:=BN D K rn p mk add more L U A I F R C B i (by omega);rw[uI,af6];have S:=B (L.getD i (0,0,0)) (by rw[agx,af_ (by omega)];exact List.getElem_mem _);generalize L.getD i _=h at *;have M:(K.extract h.1 h.2.1).size<=300:=by rw[agG];omega
  have au:=sW p (K.extract h.1 h.2.1);have J:(str _).size=(cu p (K.extract h.1 h.2.1)).length:=ak _;have H:=xR (str (cu p (K.extract h.1 h.2.1))) (by omega);have Y:=BM p (K.extract h.1 h.2.1) (str (cu p (K.extract h.1 h.2.1))) (by omega);have d1:=cC (BL add more i) (by unfold BL;split<;>omega);have d2:=cC (h.1+1) (by omega);have d3:=cC h.2.2 (by omega);unfold pG Ls;simp;have N:rn.data.size=rn.size:=rfl;have O:D.data.size=D.size:=rfl;have P:p.data.size=p.size:=rfl;have Q:mk.data.size=mk.size:=rfl;omega
abbrev ky:=ByteArray×ByteArray×ByteArray
def nG(D K:ByteArray)(k:Nat)(r:ky):=kv D K r.1 r.2.1 r.2.2 0 k false
def rL(D K:ByteArray)(k:Nat)(r:ky):=kv D K r.1 (bL r.2.1 0) (str (cU r.2.2)) 16 k (decide (nG D K k r≠ []))
def xS(r:ky):=r.1.data.toList++[9,52,9,42,9,48,9,42,9,45,9,45,9]++r.2.1.data.toList++[9]++r.2.2.data.toList++[10]
def cO(D K:ByteArray)(k:Nat)(r:ky):=
 (if nG D K k r=[]/\rL D K k r=[]then xS r else nG D K k r)++rL D K k r
def eA(D K:ByteArray):=[64]++D.data.toList++[9]++br K.size++[10]
def fQ(D K:ByteArray)(k:Nat)(L:List ky)
 |0=>eA D K
 |i+1=>fQ D K k L i++cO D K k (L.getD i (⟨#[]⟩,⟨#[]⟩,⟨#[]⟩))
def fK(ref reads:ByteArray)(k:Nat):=
 fQ (jU ref) (str (dy ref).2) k (ai reads 5 0) (ai reads 5 0).length
def fewer(L:List ky)(k:Int):Bool:=L.all fun r=>decide (k<(r.2.1.size:Int))
def jq(ref reads:ByteArray)(k q step wk:Int):=
 if bV ref reads≠0 then bV ref reads else if jW k 30 q step=false\/wk<1\/8<wk then 4 else if fewer (ai reads 5 0) k=false then 4 else 0
def ot(ref reads:ByteArray)(k q step wk:Int):=if jq ref reads k q step wk=0 then str (fK ref reads k.toNat)else⟨#[]⟩
def BO(ref reads:ByteArray):=if bV ref reads≠0 then qI ref reads else 0
theorem xT(s:ByteArray)(st:Nat×Bool):(vt s st).size<=10:=by
 unfold vt;split
 ·decide
 ·unfold cut;have:=(dJ qZ (rest s st.1) 10).1;rw[ak,ahc];omega
theorem zr(s:ByteArray)(m p:Nat):(vu s m p).size<=m:=by
 unfold vu GG;have:=lz s m p;rw[ak,agQ,ahc];omega
theorem H9(s:ByteArray)(st:Nat×Bool):(GL s 30 st).size<=30:=by
 unfold GL;split
 ·decide
 ·exact zr s 30 _
theorem H_(s:ByteArray)(K:Nat)(st:Nat×Bool):(CL s K st).size<=K:=by
 unfold CL;split
 ·exact agZ _
 ·unfold cut;have:=(dJ pV (rest s st.1) K).1;rw[ak,ahc];omega
theorem Ev(s:ByteArray)(p:Nat):(q6 s p).1.size<=10/\(q6 s p).2.1.size<=30/\(q6 s p).2.2.size<=30:=by
 have h2:(zO s p).size<=30:=H9 s _;refine⟨xT s _,h2,?_⟩;have:=H_ s (zO s p).size (Mu s p);show(CL s _ _).size<=30
 omega
theorem lW(s:ByteArray):∀n p,∀r∈ai s n p,r.1.size<=10/\r.2.1.size<=30/\r.2.2.size<=30
 |0,_,r,h=>by simp[ai]at h
 |n+1,p,r,h=>by
  rw[ai]at h;split at h
  ·simp at h
  ·rw[List.mem_cons]at h;rcases h with rfl|h
   ·exact Ev s p
   ·split at h
    ·simp at h
    ·exact lW s n _ r h
theorem nH(s:ByteArray):∀n p,(ai s n p).length<=n
 |0,_=>by simp[ai]
 |n+1,p=>by
  rw[ai];split
  ·simp
  ·rw[agw];split
   ·simp
   ·have:=nH s n (eB s p).1;omega
theorem uJ(U K rn p mk:ByteArray)(add k:Nat)(more:Bool)(A:U.size<=1000)(I:K.size<=300)(R:rn.size<=1000)(C:p.size<=100)(D:mk.size<=1000)(B:add<=1000)(hk:k<=1000):(kv U K rn p mk add k more).length<=7000000:=by
 have h1:(iB p K k).length<=301:=by have:=sV p K k (K.size+1);unfold iB;omega
 have h2:=BN U K rn p mk add more (iB p K k) A I R C D B (fun h hm=>by have:=F8 p K k _ (af5 _) h hm;omega) _ (af5 _);unfold kv;omega
theorem Sk{reads:ByteArray}(h:bV ref reads=0):ref.size<=400/\reads.size<=600/\(ji ref).2=false/\(bq reads 5 0).2=false:=by
 unfold bV at h;split at h
 ·omega
 ·unfold oo at h;split at h
  ·omega
  ·split at h
   ·omega
   ·simp_all
theorem Lt{L:List ky}(K:i<L.length):L.getD i (⟨#[]⟩,⟨#[]⟩,⟨#[]⟩)∈L:=by simp_all
theorem Ia(I R:ByteArray)(k:Nat)(r:ky)(D:I.size<=1000)(K:R.size<=300)(hr:r.1.size<=10/\r.2.1.size<=30/\r.2.2.size<=30)(hk:k<=100):(nG I R k r).length<=7000000:=
 uJ I R r.1 _ _ 0 k _ D K (by omega) (by omega) (by omega) (by omega) (by omega)
theorem xU(s:ByteArray):(str (cU s)).size=s.size:=by rw[ak,cU,BJ]
theorem Ib(I R:ByteArray)(k:Nat)(r:ky)(D:I.size<=1000)(K:R.size<=300)(hr:r.1.size<=10/\r.2.1.size<=30/\r.2.2.size<=30)(hk:k<=100):(rL I R k r).length<=7000000:=
 uJ I R r.1 _ _ 16 k _ D K (by omega) (by have:=nM r.2.1 0;omega) (by rw[xU];omega) (by omega) (by omega)
theorem Ic(r:ky)(hr:r.1.size<=10/\r.2.1.size<=30/\r.2.2.size<=30):(xS r).length<=1000:=by
 unfold xS;have Y:r.1.data.size=r.1.size:=rfl;have K:r.2.1.data.size=r.2.1.size:=rfl;have H:r.2.2.data.size=r.2.2.size:=rfl;simp only[af6,agw,agm,agV];omega
theorem kz(I R:ByteArray)(k:Nat)(r:ky)(D:I.size<=1000)(K:R.size<=300)(hr:r.1.size<=10/\r.2.1.size<=30/\r.2.2.size<=30)(hk:k<=100):(cO I R k r).length<=15000000:=by
 have h1:=Ia I R k r D K hr hk;have h2:=Ib I R k r D K hr hk;have Y:=Ic r hr;unfold cO;rw[af6];split<;>omega
theorem qJ(K I:ByteArray)(k:Nat)(L:List ky)(R:K.size<=1000)(D:I.size<=300)(A:∀r∈L,r.1.size<=10/\r.2.1.size<=30/\r.2.2.size<=30)(hk:k<=100):∀i,i<=L.length->(fQ K I k L i).length<=2000+15000000 *i
 |0,_=>by
  have:=cC I.size (by omega);have e:K.data.size=K.size:=rfl;simp only[fQ,eA,af6,agw,agm,agV];omega
 |i+1,h=>by
  have Y:=qJ K I k L R D A hk i (by omega);have hr:=kz K I k (L.getD i _) R D (A _ (Lt (by omega))) hk;rw[fQ,af6];omega
def ei(c:UInt8):Prop:=rY c=true/\gb c=c
def cP(x:List UInt8):List UInt8:=[62,114,10]++x++[10]
def dR(n:Nat):List UInt8:=(List.range n).map fun i=>ahR (33+i)
def aO(b:List UInt8):List UInt8:=[64,97,10]++b++[10,43,10]++dR b.length++[10]
theorem bW(n:Nat):(dR n).length=n:=by simp[dR]
theorem F9(h:n<=30):∀c∈dR n,pV c=true:=by
 intro c Y;obtain⟨i,K,rfl⟩:=List.mem_map.1 Y;have:i<n:=by simpa using K
 have e:(33+i)%256=33+i:=by omega
 simp only[pV,MP,UInt8.toNat_ofNat',e,decide_eq_true_eq];omega
theorem iN(A B:List UInt8):rest (str (A++B)) A.length=B:=by simp[rest,str]
theorem fc(A B:List UInt8)(c:UInt8):aI (str (A++c::B)) c A.length=(A.length+1,false):=by
 have h:A.length<(str (A++c::B)).size:=by rw[ak];simp
 have e:(str (A++c::B))[A.length]=c:=by simp[ByteArray.getElem_eq_getElem_data,str]
 rw[aI,dif_pos h,if_pos e]
theorem iO(f:UInt8->Bool):∀(x:List UInt8) (B:List UInt8) (m:Nat),(∀c∈x,f c=true)->x.length<=m->(∀c K,B=c::K->f c=true->x.length=m)->aN f (x++B) m=x.length
 |[],B,m,_,_,Y=>by
  cases B with
  |nil=>rw[agl,sO];rfl
  |cons c K=>
   cases m with
   |zero=>rw[ly];rfl
   |succ m=>
    rw[agl,dV];split
    ·rename_i h;have:=Y c K rfl h;simp at this
    ·rfl
 |y::x,B,0,_,hm,_=>by simp at hm
 |y::x,B,m+1,hx,hm,Y=>by
  rw[agL,dV,if_pos (hx y (by simp)),iO f x B m (fun c H=>hx c (by simp[H])) (by simpa using hm) (fun c K e h=>by have:=Y c K e h;simpa using this)];rfl
theorem qK(f:UInt8->Bool)(A x B:List UInt8)(l m:Nat)(hx:∀c∈x,f c=true)(h1:l<=x.length)(h2:x.length<=m)(D:∀c K,B=c::K->f c=true->x.length=m):dW (str (A++(x++B))) f l m A.length=(A.length+x.length,false):=by
 rw[dW,iN,iO f x B m hx h2 D];simp;omega
theorem Sl:rY 10=false:=by decide
theorem Sm:qZ 10=false:=by decide
theorem qL(A x B:List UInt8)(m:Nat)(hx:∀c∈x,ei c)(h1:1<=x.length)(h2:x.length<=m):bD (str (A++(x++10::B))) m A.length=(A.length+x.length+1,false)/\cv (str (A++(x++10::B))) m A.length=x.length/\Mt (str (A++(x++10::B))) m A.length=x:=by
 have hb:∀c K,10::B=c::K->rY c=true->x.length=m:=fun c K e h=>by cases e;rw[Sl]at h;cases h
 have H:cv (str (A++(x++10::B))) m A.length=x.length:=by rw[cv,iN,iO rY x _ m (fun c Y=>(hx c Y).1) h2 hb]
 refine⟨?_,H,?_⟩
 ·rw[bD,qK rY A x _ 1 m (fun c Y=>(hx c Y).1) h1 h2 hb,aX rfl];have:=fc (A++x) B 10;rw[ahL,af6]at this;exact this
 ·rw[Mt,iN,H,ahZ]
  ·exact(List.map_congr_left fun c Y=>(hx c Y).2).trans (List.map_id _)
  ·rfl
theorem qM(A B:List UInt8)(c:UInt8)(K:qZ c=true):kQ (str (A++c::10::B)) A.length=(A.length+2,false)/\aN qZ (rest (str (A++c::10::B)) A.length) 10=1:=by
 have hb:∀d Y,10::B=d::Y->qZ d=true->[c].length=10:=fun d Y e h=>by cases e;rw[Sm]at h;cases h
 have hx:∀d∈[c],qZ d=true:=by simpa using K
 refine⟨?_,?_⟩
 ·have h:=qK qZ A [c] (10::B) 1 10 hx (by simp) (by simp) hb;rw[kQ];simp only[agL,agl,agM]at h;rw[h,aX rfl];have:=fc (A++[c]) B 10;simpa using this
 ·rw[iN];exact iO qZ [c] (10::B) 10 hx (by simp) hb
section
variable{x:List UInt8}(hx:∀c∈x,ei c)(h1:1<=x.length)(h2:x.length<=200)
theorem F_(x:List UInt8):cP x=[62,114,10]++(x++10:: []):=by simp[cP]
include hx h1 h2
theorem xV:bY (aI (str (cP x)) 62 0) (kQ (str (cP x)))=(3,false):=by
 have a:=fc [] (114::10::(x++[10])) 62;have b:=(qM [62] (x++[10]) 114 (by decide)).1;simp only[agl,agm,agL,agM]at a b;rw[show cP x=62::114::10::(x++[10]) by simp[cP],a,aX rfl];exact b
theorem ou:dy (str (cP x))=((x.length+4,false),x):=by
 obtain⟨l1,_,K⟩:=qL [62,114,10] x [] 200 hx h1 h2;have Y:(str (cP x)).size=x.length+4:=by rw[ak];simp[cP]
 rw[dy,Y,xV hx h1 h2,cL,if_pos ⟨rfl,.inl rfl⟩];simp only[agm,Nat.sub_zero,agl];rw[F_]at Y⊢;have H:([62,114,10]:List UInt8).length=3:=rfl;rw[H]at l1 K;rw[l1,K,cL,if_neg]
 ·simp;omega
 ·rintro⟨_,h|h⟩
  ·rw[h]at h1;simp at h1
  ·rw[Y]at h;simp at h;omega
theorem uK:(ji (str (cP x))).2=false:=by
 obtain⟨l1,l2,_⟩:=qL [62,114,10] x [] 200 hx h1 h2;have H:([62,114,10]:List UInt8).length=3:=rfl;have Y:=xV hx h1 h2;obtain⟨m1,m2⟩:=cR (by rw[Y]:(bY (aI (str (cP x)) 62 0) (kQ (str (cP x)))).2=false);rw[aX m1]at Y;have K:(str (cP x)).size=x.length+4:=by rw[ak];simp[cP]
 rw[ji,aX m1,aX m2,Y,K];rw[F_]at K⊢;rw[H]at l1 l2;rw[l1,l2,aX rfl,nP,if_pos (by rw[K];simp;omega)]
theorem lX:jU (str (cP x))=⟨#[114]⟩:=by
 have a:=fc [] (114::10::(x++[10])) 62;have b:=(qM [62] (x++[10]) 114 (by decide)).2;have c:=iN [62] (114::10::(x++[10]));simp only[agl,agm,agL,agM]at a b c;rw[show cP x=62::114::10::(x++[10]) by simp[cP],jU,vt,a,if_neg (by simp),cut];simp only[Nat.zero_add];rw[b,c];rfl
end
section
variable{b:List UInt8}(hb:∀c∈b,ei c)(h1:1<=b.length)(h2:b.length<=30)
include hb h1 h2
theorem uL(A B:List UInt8):eB (str (A++(aO b++B))) A.length=(A.length+(aO b).length,false)/\q6 (str (A++(aO b++B))) A.length=(⟨#[97]⟩,str b,str (dR b.length)):=by
 obtain⟨s,Y⟩:∃s,s=str (A++(aO b++B)):=⟨_,rfl⟩;have f1:s=str (A++64::(97::10::(b++10::43::10::(dR b.length++10::B)))):=by rw[Y];simp[aO]
 have f2:s=str ((A++[64])++97::10::(b++10::43::10::(dR b.length++10::B))):=by rw[Y];simp[aO]
 have f3:s=str ((A++[64,97,10])++(b++10::(43::10::(dR b.length++10::B)))):=by rw[Y];simp[aO]
 have f4:s=str ((A++[64,97,10]++b++[10])++43::(10::(dR b.length++10::B))):=by rw[Y];simp[aO]
 have f5:s=str ((A++[64,97,10]++b++[10,43])++10::(dR b.length++10::B)):=by rw[Y];simp[aO]
 have f6:s=str ((A++[64,97,10]++b++[10,43,10])++(dR b.length++10::B)):=by rw[Y];simp[aO]
 have f7:s=str ((A++[64,97,10]++b++[10,43,10]++dR b.length)++10::B):=by rw[Y];simp[aO]
 have g1:=fc A (97::10::(b++10::43::10::(dR b.length++10::B))) 64;have g2:=qM (A++[64]) (b++10::43::10::(dR b.length++10::B)) 97 (by decide);have K:=iN (A++[64]) (97::10::(b++10::43::10::(dR b.length++10::B)));have g3:=qL (A++[64,97,10]) b (43::10::(dR b.length++10::B)) 30 hb h1 h2;have g4:=fc (A++[64,97,10]++b++[10]) (10::(dR b.length++10::B)) 43;have g5:=fc (A++[64,97,10]++b++[10,43]) (dR b.length++10::B) 10;have g6:=qK pV (A++[64,97,10]++b++[10,43,10]) (dR b.length) (10::B) b.length b.length (F9 h2) (by rw[bW];exact af5 _) (by rw[bW];exact af5 _) (fun _ _ _ _=>bW _);have H:=iN (A++[64,97,10]++b++[10,43,10]) (dR b.length++10::B);have g7:=fc (A++[64,97,10]++b++[10,43,10]++dR b.length) B 10;rw[<-f1]at g1;rw[<-f2]at g2 K;rw[<-f3]at g3;rw[<-f4]at g4;rw[<-f5]at g5;rw[<-f6]at g6 H;rw[<-f7]at g7;rw[<-Y];have n1:(A++[64]).length=A.length+1:=by simp
 have n3:(A++[64,97,10]).length=A.length+1+2:=by simp
 have n4:(A++[64,97,10]++b++[10]).length=A.length+1+2+b.length+1:=by simp;omega
 have n5:(A++[64,97,10]++b++[10,43]).length=A.length+1+2+b.length+1+1:=by simp;omega
 have n6:(A++[64,97,10]++b++[10,43,10]).length=A.length+1+2+b.length+1+1+1:=by simp;omega
 have n7:(A++[64,97,10]++b++[10,43,10]++dR b.length).length=A.length+1+2+b.length+1+1+1+b.length:=by simp[bW];omega
 rw[n1]at g2 K;rw[n3]at g3;rw[n4]at g4;rw[n5]at g5;rw[n6,bW]at g6;rw[n6]at H;rw[n7]at g7;have r2:yy s A.length=(A.length+1+2,false):=by rw[yy,PJ,g1,aX rfl,g2.1]
 have D:zO s A.length=str b:=by rw[zO,GL,r2,if_neg (by simp),E8,g3.2.2]
 have U:Mu s A.length=(A.length+1+2+b.length+1+1+1,false):=by
  have r3:PK s A.length=(A.length+1+2+b.length+1,false):=by rw[PK,r2,aX rfl,g3.1]
  have I:PM s A.length=(A.length+1+2+b.length+1+1,false):=by rw[PM,r3,aX rfl,g4]
  rw[Mu,I,aX rfl,g5]
 refine⟨?_,?_⟩
 ·have R:(aO b).length=1+2+b.length+1+1+1+b.length+1:=by simp[aO,bW];omega
  rw[eB,g1,aX rfl,g2.1,aX rfl,g3.1,aX rfl,g4,aX rfl,g5,aX rfl,g3.2.1,g6,aX rfl,g7,R];simp;omega
 ·rw[q6,D,vt,CL,PJ,g1,U,if_neg (by simp),if_neg (by simp),cut,cut];simp only;rw[g2.2,K,ak,H,iO pV (dR b.length) (10::B) b.length (F9 h2) (by rw[bW];exact af5 _) (fun _ _ _ _=>bW _),bW,ahd,ahd,ahZ (bW _)];rfl
end
def cD(c:Int)(n:Nat):Nat:=(if c<0 then-(c+1)else c).toNat%n
theorem jL(c:Int)(h:0<n):cD c n<n:=Nat.mod_lt _ h
def du(c:Int):Prop:= -9223372036854775808<=c/\c<=9223372036854775807
theorem Lu{c:Int}(h:c<0): -(c+1).tmod (n:Int)=(cD c n:Nat):=by
 unfold cD;rw[if_pos h,<-Int.neg_tmod,Int.tmod_eq_emod_of_nonneg (by omega),ahU,ahr (by omega)]
theorem Lv{c:Int}(h:0<=c):c%(n:Int)=(cD c n:Nat):=by
 unfold cD;rw[if_neg (by omega),ahU,ahr h]
theorem Lw(c:Int)(n:Nat)(w:World)(K:du c)(h1:1<=n)(h2:n<=1000):
  Calls Tryz.prog 19 #[.int .i64 c,.int .i64 n] w fun e w'=>e=.returned (.int .i64 (cD c n:Nat))/\w'=w:=by
 obtain⟨c1,c2⟩:=K;by_cases h:c<0
 ·go_enter Tryz.func19,Tryz.ntmps19
  go_wp2
  go_ret
  exact⟨congrArg Ending.returned (bg (Lu h)),rfl⟩
 ·go_enter Tryz.func19,Tryz.ntmps19
  go_wp2
  go_ret
  exact⟨congrArg Ending.returned (bg (Lv h)),rfl⟩
theorem Ox(x:List UInt8)(w:World)(hx:x.length<=1000):
  Calls Tryz.prog 23 #[.string (str x)] w fun e w'=>e=.returned (.string (str (cP x)))/\w'=w:=by
 have Y:(str x).size<=1000:=hx
 go_enter Tryz.func23,Tryz.ntmps23
 go_wp2
 go_ret
 refine⟨congrArg Ending.returned (yk ?_),rfl⟩;exact(congrArg (· ++str [10]) (bp [62,114,10] x)).trans (bp _ _)
theorem Lx(w:World)(c:Int):(convert 79 9 (.slice (some ⟨w.heap.size,0,none⟩) 1 1)).run Tryz.prog (w.alloc (.cells #[.int .u8 c] 5))=.ok (.string ⟨#[ahR c.toNat]⟩) (w.alloc (.cells #[.int .u8 c] 5)):=by
 rw[run_convert_bytes_string _ _ _ 5 _ _ _ (by kernel_rfl) (by kernel_rfl) (by kernel_rfl),run_bytesToString _ _ _ _ [c]]
 ·rfl
 ·have h:(w.alloc (.cells #[.int .u8 c] 5)).cell? ⟨w.heap.size,0,none⟩=some (.int .u8 c):=by rw[cell_of_row _ _ 0 _ _ _ (heap_alloc_new w _)];rfl
  simp[loadCells,go_sem,h]
theorem Ie(n:Nat):dR (n+1)=dR n++[ahR (33+n)]:=by simp[dR,ah0]
theorem Ig(n:Nat)(w:World)(D:n<=60):
  Calls Tryz.prog 30 #[.int .i64 n] w fun e w'=>e=.returned (.string (str (dR n)))/\Below w.heap.size w w':=by
 go_enter Tryz.func30,Tryz.ntmps30
 go_wp2
 go_loopw [3,4] (fun t i wr=>∃k:Nat,k<=n/\i=.int .i64 k/\t=.string (str (dR k))/\Below w.heap.size w wr) (fun _ i _=>n-(intOf i).toNat)
 case atStart=>exact⟨0,agZ _,rfl,rfl,aga _ _⟩
 case round=>
  obtain⟨k,hk,rfl,rfl,Y⟩:=hrel;have H:(str (dR k)).size<=60:=by rw[ak,bW];omega
  by_cases K:k<n
  ·have h1:=Lx wr (33+(k:Int));have h2:∀o,Below w.heap.size w (wr.alloc o):=fun o=>Y.alloc Y.size o;go_wp2
   go_roundw
   case rel=>go_light;exact⟨k+1,by omega,by go_num,yk (by rw[Ie,<-zU,UInt8.ofNat_add];rfl),h2 _⟩
   case measure=>go_light;simp[intOf];omega
  ·go_wp2
   go_ret
   obtain rfl:k=n:=by omega
   exact⟨rfl,Y⟩
theorem Ly(b:List UInt8)(w:World)(hb:b.length<=60):
  Calls Tryz.prog 24 #[.string (str b)] w fun e w'=>e=.returned (.string (str (aO b)))/\Below w.heap.size w w':=by
 have D:(str b).size=b.length:=rfl;have hm:(str (dR b.length)).size=b.length:=by rw[ak,bW]
 go_enter Tryz.func24,Tryz.ntmps24
 go_wp2_with fail
 refine(Ig b.length _ hb).mono ?_;rintro e w1 ⟨rfl,Y⟩;go_wp2
 go_ret
 refine⟨congrArg Ending.returned (yk ?_),Y⟩;have h1:=bp [64,97,10] b;have h2:=bp ([64,97,10]++b) [10,43,10];have H:=bp ([64,97,10]++b++[10,43,10]) (dR b.length);have K:=bp ([64,97,10]++b++[10,43,10]++dR b.length) [10];rw[<-H,<-h2,<-h1]at K;exact K
def BP(z:Int):UInt8:=if cD z 25=24 then 78 else [65,67,71,84].getD (cD z 25%4) 0
def bB(zs:Nat->Int)(n:Nat):List UInt8:=(List.range n).map fun i=>BP (zs i)
theorem dj(zs:Nat->Int)(n:Nat):(bB zs n).length=n:=by simp[bB]
theorem Ew(zs:Nat->Int)(n:Nat):bB zs (n+1)=bB zs n++[BP (zs n)]:=by simp[bB,ah0]
theorem Lz(z:Int):ei (BP z):=by
 unfold BP;split
 ·exact⟨by decide,by decide⟩
 ·have:=Nat.mod_lt (cD z 25) (show 0<4 by decide);generalize cD z 25%4=j at this;have:j=0\/j=1\/j=2\/j=3:=by omega
  rcases this with rfl|rfl|rfl|rfl<;>exact⟨by decide,by decide⟩
theorem uN(zs:Nat->Int)(n:Nat):∀c∈bB zs n,ei c:=by
 intro c Y;obtain⟨i,_,rfl⟩:=List.mem_map.1 Y;exact Lz _
def kC(w:World)(a:Option Addr)(len:Nat)(zs:Nat->Int):Prop:=
 len=0\/∃b off,a=some ⟨b,off,none⟩/\len<=maxLen/\∀i,i<len->w.cell? ⟨b,off+i,none⟩=some (.int .i64 (zs i))/\du (zs i)
def Wh(p t:ByteArray)(i:Nat)(r:Nat->Nat):Nat->Nat
 |0=>i+1
 |j+1=>min (min (r j+cost p t i j) (r (j+1)+1)) (Wh p t i r j+1)
def dS(p t:ByteArray):Nat->Nat->Nat
 |0=>fun j=>j
 |i+1=>Wh p t i (dS p t i)
theorem uO(p t:ByteArray):∀i j,dT p t i j=dS p t i j
 |0,j=>by rw[dT];rfl
 |i+1,0=>by rw[dT];rfl
 |i+1,j+1=>by
  rw[dT,uO p t i j,uO p t i (j+1),uO p t (i+1) j];rfl
def LA(p t:ByteArray):Nat:=dS p t p.size t.size
def uP(p t:ByteArray)(k e:Nat):Nat->Nat×Nat
 |0=>(k+1,0)
 |c+1=>if LA p (t.extract (e-c) e)<(uP p t k e c).1 then(LA p (t.extract (e-c) e),e-c)else uP p t k e c
def xW(p t:ByteArray)(k:Nat):Nat->List (Nat×Nat×Nat)
 |0=>[]
 |e+1=>if(uP p t k e (tries p k e)).1<=k then xW p t k e++[((uP p t k e (tries p k e)).2,e,(uP p t k e (tries p k e)).1)]else xW p t k e
def Ex(p t:ByteArray):Nat->Nat->Nat->List UInt8
 |0,_,_=>[]
 |f+1,i,j=>if i=0/\j=0 then []else if(decide (0<i)&&decide (0<j)&&decide (dS p t i j=dS p t (i-1) (j-1)+cost p t (i-1) (j-1)))=true then Ex p t f (i-1) (j-1)++[77]else if(decide (0<i)&&decide (dS p t i j=dS p t (i-1) j+1))=true then Ex p t f (i-1) j++[73]else Ex p t f i (j-1)++[68]
theorem Sn(p t:ByteArray):bM p t=LA p t:=uO p t _ _
theorem LB(p t:ByteArray)(k e:Nat):∀c,dO p t k e c=uP p t k e c
 |0=>rfl
 |c+1=>by rw[dO,uP,LB p t k e c,Sn]
theorem LC(p t:ByteArray)(k:Nat):∀e,c8 p t k e=xW p t k e
 |0=>rfl
 |e+1=>by rw[c8,xW,LC p t k e,bA,LB]
theorem Gb(p t:ByteArray):∀f i j,cV p t f i j=Ex p t f i j
 |0,_,_=>rfl
 |f+1,i,j=>by rw[cV,Ex,Gb p t f,Gb p t f,Gb p t f,E_,Cp,uO,uO,uO]
section
variable(H:ByteArray->ByteArray->Nat->List (Nat×Nat×Nat))(Y:ByteArray->ByteArray->List UInt8)
def Yd(D K rn p mk:ByteArray)(add:Nat)(more:Bool)(L:List (Nat×Nat×Nat)):Nat->List UInt8
 |0=>[]
 |i+1=>Yd D K rn p mk add more L i++Ls D rn p mk (K.extract (L.getD i (0,0,0)).1 (L.getD i (0,0,0)).2.1) (str (Y p (K.extract (L.getD i (0,0,0)).1 (L.getD i (0,0,0)).2.1))) (BL add more i) (L.getD i (0,0,0)).1 (L.getD i (0,0,0)).2.2
def Ey(D K rn p mk:ByteArray)(add k:Nat)(more:Bool):List UInt8:=Yd Y D K rn p mk add more (H p K k) (H p K k).length
def LD(D K:ByteArray)(k:Nat)(r:ky):List UInt8:=
 let a:=Ey H Y D K r.1 r.2.1 r.2.2 0 k false
 let b:=Ey H Y D K r.1 (bL r.2.1 0) (str (cU r.2.2)) 16 k (decide (a≠ []))
 (if a=[]/\b=[]then xS r else a)++b
def Oy(D K:ByteArray)(k:Nat)(L:List ky):Nat->List UInt8
 |0=>eA D K
 |i+1=>Oy D K k L i++LD H Y D K k (L.getD i (⟨#[]⟩,⟨#[]⟩,⟨#[]⟩))
end
theorem Wi(D K rn p mk:ByteArray)(add:Nat)(more:Bool)(L:List (Nat×Nat×Nat)):∀i,uI D K rn p mk add more L i=Yd cu D K rn p mk add more L i
 |0=>rfl
 |i+1=>by rw[uI,Yd,Wi D K rn p mk add more L i];rfl
theorem Oz(D K rn p mk:ByteArray)(add k:Nat)(more:Bool):kv D K rn p mk add k more=Ey iB cu D K rn p mk add k more:=Wi ..
theorem Sp(D K:ByteArray)(k:Nat)(r:ky):cO D K k r=LD iB cu D K k r:=by
 simp only[cO,LD,rL,nG,Oz]
theorem Qj(D K:ByteArray)(k:Nat)(L:List ky):∀i,fQ D K k L i=Oy iB cu D K k L i
 |0=>rfl
 |i+1=>by rw[fQ,Oy,Qj D K k L i,Sp]
theorem OA:iB=fun p t k=>xW p t k (t.size+1):=by funext p t k;exact LC p t k _
theorem Sq:cu=fun p t=>Ex p t (p.size+t.size) p.size t.size:=by funext p t;exact Gb p t _ _ _
theorem BQ(ref reads:ByteArray)(k:Nat):fK ref reads k=Oy (fun p t k=>xW p t k (t.size+1)) (fun p t=>Ex p t (p.size+t.size) p.size t.size) (jU ref) (str (dy ref).2) k (ai reads 5 0) (ai reads 5 0).length:=by
 rw[fK,Qj,OA,Sq]
def Qk:ByteArray:=⟨#[62,114,10,65,67,71,84,65,67,71,84,84,84,10]⟩
def Ye:ByteArray:=⟨#[64,97,10,71,84,65,10,43,10,49,50,51,10]⟩
def OC:ByteArray:=⟨#[64,97,10,71,71,84,65,10,43,10,49,50,51,52,10]⟩
abbrev exS:ByteArray:={data:=#[64,114,9,49,48,10,97,9,48,9,114,9,51,9,51,77,9,48,9,51,9,71,84,65,9,49,50,51,10,97,9,50,55,50,9,114,9,52,9,51,77,9,48,9,51,9,84,65,67,9,51,50,49,10]}
abbrev exT:ByteArray:={data:=([64,114,9,49,48,10,97,9,48,9,114,9,51,9,49,73,51,77,9,49,9,51,9,71,71,84,65,9,49,50,51,52,10,97,9,50,55,50,9,114,9,52,9,50,77,49].append [73,49,77,9,49,9,51,9,84,65,67,67,9,52,51,50,49,10,97,9,50,55,50,9,114,9,52,9,52,77,9,49,9,51,71,48,9,84,65,67,67,9,52,51,50,49,10]).toArray}
theorem Wj:jq Qk Ye 0 2 4 3=0:=by kernel_rfl
theorem Wk:jq Qk OC 1 1 3 2=0:=by kernel_rfl
theorem aax:ot Qk Ye 0 2 4 3=exS:=by
 rw[ot,if_pos Wj,BQ];kernel_rfl
theorem aay:ot Qk OC 1 1 3 2=exT:=by
 rw[ot,if_pos Wk,BQ];kernel_rfl
end
section
open RowKit Maps
def fN(s:ByteArray)(q i:Nat):=(s.extract i (i+q)).data.toList
def sE(x:List UInt8):=!x.contains 78
def bm(s:ByteArray)(q:Nat)(x:List _)
 |0=>0
 |k+1=>bm s q x k+(if fN s q k=x/\sE x=true then 1 else 0)
theorem uQ(s:ByteArray)(q:Nat)(x:List _):∀k,bm s q x k<=k
 |0=>af5 _
 |k+1=>by have:=uQ s q x k;simp[bm];split<;>omega
def jr(s:ByteArray)(q:Nat)(x:List _):=bm s q x (s.size+1-q)
theorem zt(s:ByteArray)(q:Nat)(x:List _):jr s q x<=s.size+1:=by
 have:=uQ s q x (s.size+1-q);unfold jr;omega
theorem uR(K:sE (fN s q k)=true):bm s q (fN s q k) (k+1)=bm s q (fN s q k) k+1:=by
 rw[bm,if_pos ⟨rfl,K⟩]
theorem lY{x:List _}(hx:¬(fN s q k=x/\sE x=true)):bm s q x (k+1)=bm s q x k:=by
 simp[bm];simp_all
def iP(D:DataW Unit)(f:List UInt8->Nat):Prop:=
 IsMap D/\(∀x,D.atKey (.string x) (.lit (.int .i64 0))=.lit (.int .i64 (f x:Int)))/\∀x,has D (.string x)=true↔0<f x
theorem zu(s:ByteArray)(q:Nat):iP (.map []) (fun x=>bm s q x 0):=⟨isMap_empty,fun x=>rfl,fun x=>by rw[has_eq];simp[bm]⟩
theorem BR{D:DataW _}(h:iP D (fun x=>bm s q x k))(K:sE (fN s q k)=false):iP D (fun x=>bm s q x (k+1)):=by
 have e:(fun x=>bm s q x (k+1))=fun x=>bm s q x k:=by
  funext x;exact lY (by rintro⟨rfl,h⟩;simp_all)
 simp_all
theorem Ez{D:DataW _}{c:Int}(h:iP D (fun x=>bm s q x k))(R:sE (fN s q k)=true)
  (I:D.atKey (.string (fN s q k)) (.lit (.int .i64 0))=.lit (.int .i64 c)):iP (D.put (.string (fN s q k)) (.lit (.int .i64 (c+1)))) (fun x=>bm s q x (k+1)):=by
 have h1:=h.2.1 (fN s q k);rw[I]at h1;have K:=by simpa using h1
 have Y:WideAt.IsKeyLit (.string (fN s q k)):=by first|trivial
 refine⟨h.1.put _ _,fun x=>?_,fun x=>?_⟩
 ·by_cases hx:x=fN s q k
  ·subst hx;rw[atKey_put_same h.1 Y];show _=DataW.lit (.int .i64 ((bm s q _ _)))
   rw[uR R,K];simp
  ·rw[atKey_put_other (by simp_all),h.2.1 x];show _=DataW.lit (.int .i64 ((bm s q x _)))
   rw[lY (by rintro⟨e,_⟩;simp_all)]
 ·by_cases hx:x=fN s q k
  ·subst hx;rw[has_put_same h.1 Y];show _↔0<bm s q _ (k+1)
   rw[uR R];simp
  ·rw[has_put_other (by simp_all),h.2.2 x];show _↔0<bm s q x (k+1)
   rw[lY (by rintro⟨e,_⟩;simp_all)]
theorem uS{D:DataW _}{f:List _->Nat}{x:List _}{c:Int}(h:iP D f)(K:D.atKey (.string x) (.lit (.int .i64 0))=.lit (.int .i64 c)):c=(f x):=by
 have h1:=h.2.1 x;simp_all
theorem Sr(l:List _):agq l 78<0↔sE l=true:=by
 unfold sE;induction l with
 |nil=>simp[agq]
 |cons a l K=>
  simp only[agq];by_cases Y:a=78
  ·simp_all
  ·have h1:¬(a==78)=true:=by simp_all
   have h2:(List.contains (a::l) 78)=l.contains 78:=by
    rw[List.contains_cons];have:(78==a)=false:=by simpa using fun e=>Y e.symm
    simp_all
   rw[h2,if_neg h1,<-K];by_cases H:agq l 78= -1
   ·simp_all
   ·rw[if_neg (by simp_all)];omega
theorem LF:Keyed Tryz.prog 9:=string_keyed af9
theorem Ql(w:World):(zeroValue 3).run Tryz.prog w=.ok (.int .i64 0) w:=by simp
abbrev pH(w:World)(b n:Nat)(D:DataW Unit):=w.ownsMap Tryz.prog 9 (plainElem Tryz.prog 3) b n D
theorem uT(s:ByteArray)(w:World):
  Calls Tryz.prog 99 #[.string s,.int .u8 78] w fun e w'=>e=.returned (.int .i64 (agq s.data.toList 78))/\w'=w:=Tryz.strings_IndexByte s 78 w
theorem nI(s:ByteArray)(q:Nat)(w:World)(p:s.size<=1000)(o:1<=q)(d:q<=1000):
  Calls Tryz.prog 76 #[.string s,.int .i64 (q:Int)] w fun e w'=>e=.returned (.map (some w.heap.size))/\(∃(n:Nat) (D:DataW Unit),n<=1001/\pH w' w.heap.size n D/\iP D (jr s q))/\Below w.heap.size w w':=by
 have z:=@run_makeMap Tryz.prog
 go_enter Tryz.func76,Tryz.ntmps76
 go_wp2
 go_loopw [6] (fun ev wr=>∃(k:Nat) (D:DataW Unit),k<=s.size+1-q/\ev=.int .i64 ((q:Int)+(k:Int))/\pH wr w.heap.size k D/\Hid (iP D (fun x=>bm s q x k))/\Below w.heap.size w wr) (fun ev _=>s.size+1-(intOf ev).toNat)
 case atStart=>exact⟨0,.map [],agZ _,by simp,World.ownsMap_made _ _ _ _,laid (zu s q),(aga _ _).alloc (af5 _) _⟩
 case round=>
  obtain⟨k,D,hk,rfl,K,J,Y⟩:=hrel;by_cases W:q+k<=s.size
  ·have f:ahQ.wrap ((q:Int)+(k:Int)-(q:Int))=(k:Int):=by rw[show(q:Int)+(k:Int)-(q:Int)=(k:Int) by omega];exact ahk _ (by omega)
   have hX:(s.extract k (q+k)).data.toList=fN s q k:=by unfold fN;rw[Nat.add_comm q k]
   have O:(s.extract k (q+k)).size<=maxLen:=by rw[agG];unfold maxLen;omega
   have S:=laid hX;clear hX;have L:=laid (Sr (fN s q k));have E:=uQ s q (fN s q k) k;go_wp2_with fail
   refine(uT _ _).mono ?_;rintro e w' ⟨rfl,rfl⟩;rw[S.out];generalize agq (fN s q k) 78=ix at *;by_cases C:ix<0
   ·have H:=L.out.1 C;have N:=laid H;have U:keyOf Tryz.prog 9 (.string (s.extract k (q+k)))=some (.string (fN s q k)):=by rw[<-S.out];exact WideMaps.keyOf_string_mk af9 O
    have Q:=laid U;clear H U L;generalize s.extract k (q+k)=X at *;go_wp2_with(first
     |(at_lookup;refine wpList_lookup_own_int _ rfl _ _ 113 rfl 9 3 .i64 LF agE af7 (Ql _) w.heap.size k D rfl K _ _ rfl Q.out ?_;intro c B g)
     |(at_mapUpdate;refine wpList_mapUpdate_own _ rfl _ _ _ 113 rfl 9 3 LF agE _ w.heap.size k D rfl K (by unfold maxLen;omega) _ _ _ rfl rfl Q.out _ [] (plainElem_int af7 (wrap64_wf _)) ?_;intro w1 R A)
     |go_in)
    have Z:=uS J.out B;have V:wrap64 (c+1)=c+1:=ahN (c+1) (by omega);rw[V]at R;have I:=Ez J.out N.out B;have P:Below w.heap.size w w1:=Y.grown A Y.size (fun j G=>by cases G;exact af5 _)
    go_roundw
    case rel=>go_light;exact⟨k+1,_,by omega,bg (by omega),R,laid I,P⟩
    case measure=>go_light;simp[intOf];omega
   ·have H:sE (fN s q k)=false:=by
     rw[<-agc,<-L.out];exact C
    have I:=BR J.out H;have M:=laid I;clear H I L;generalize s.extract k (q+k)=X at *;go_wp2
    go_roundw
    case rel=>go_light;exact⟨k+1,D,by omega,bg (by omega),K.mono (by omega),M,Y⟩
    case measure=>go_light;simp[intOf];omega
  ·have F:k=s.size+1-q:=by omega
   have T:Hid (iP D (jr s q)):=laid (by have:=J.out;unfold jr;rw[<-F];exact this);clear F;go_wp2
   go_ret
   exact⟨rfl,⟨k,D,by omega,K,T.out⟩,Y⟩
theorem mV{b:ByteArray}:a.data.toList=b.data.toList↔a=b:=⟨fun h=>ByteArray.ext (Array.ext' h),fun h=>by rw[h]⟩
theorem sF(r s:ByteArray)(K:sE r.data.toList=true):∀k,sQ r s k=bm s r.size r.data.toList k
 |0=>rfl
 |k+1=>by
  simp[sQ,bm];rw[sF r s K k];by_cases h:s.extract k (k+r.size)=r
  ·rw[if_pos ((sr _ _).2 h),if_pos ⟨by unfold fN;rw[h],K⟩]
  ·rw[if_neg (by rw[sr];exact h),if_neg (by rintro⟨e,_⟩;exact h (mV.1 e))]
theorem xX(r s:ByteArray):∀k,0<sQ r s k↔∃j,j<k/\s.extract j (j+r.size)=r
 |0=>by simp[sQ]
 |k+1=>by
  simp[sQ];have K:=xX r s k;by_cases h:s.extract k (k+r.size)=r
  ·rw[if_pos ((sr _ _).2 h)];exact⟨fun _=>⟨k,by omega,h⟩,fun _=>by omega⟩
  ·rw[if_neg (by rw[sr];exact h),Nat.add_zero,K];constructor
   ·rintro⟨j,Y,e⟩;exact⟨j,by omega,e⟩
   ·rintro⟨j,Y,e⟩;rcases ahy j k with h1|h1
    ·exact⟨j,h1,e⟩
    ·obtain rfl:j=k:=by omega
     simp_all
theorem Wm(r:ByteArray):0<oF ⟨#[78]⟩ r↔sE r.data.toList=false:=by
 have K:(⟨#[78]⟩:ByteArray).size=1:=rfl;unfold oF;rw[xX,K,ahA];have key:∀j,j<r.size->(r.extract j (j+1)=⟨#[78]⟩↔r.data.toList[j]?=some 78):=by
  intro j Y;rw[<-mV];have h1:(r.extract j (j+1)).data.toList=(r.data.toList.drop j).take 1:=by simp
  have H:=by simpa using Y
  rw[h1,ag8 H,af_ H];simp
 unfold sE;constructor
 ·rintro⟨j,Y,e⟩;have:=(key j Y).1 e;simp only[ahD,ahl];exact agU this
 ·intro h;simp only[ahD,ahl]at h;obtain⟨j,Y,e⟩:=List.getElem_of_mem h;exact⟨j,by simpa using Y,(key j (by simpa using Y)).2 (by rw[af_ Y,e])⟩
theorem qN(p:ByteArray)(n j q:Nat)(h:j+q<=n):(p.extract 0 n).extract j (j+q)=p.extract j (j+q):=by
 rw[<-mV];simp_all
theorem Gc(p:ByteArray)(q n:Nat)(x:List _):∀k,k+q<=n+1->bm (p.extract 0 n) q x k=bm p q x k
 |0,_=>rfl
 |k+1,h=>by
  simp[bm];rw[Gc p q n x k (by omega)];unfold fN;rw[qN p n k q (by omega)]
theorem LG(p:ByteArray)(q k:Nat)(h:k+q<=p.size):(p.extract k (k+q)).size=q:=by simp_all
def eJ(P S:ByteArray)(q:Nat)(x:List _):=min (jr P q x) (jr S q x)
theorem OD(P S:ByteArray)(q k:Nat)(A:1<=q)(h:k+q<=P.size):
  QH P S q k=if bm P q (fN P q k) k=0/\sE (fN P q k)=true then eJ P S q (fN P q k)else 0:=by
 have Y:=LG P q k h;unfold QH;by_cases K:sE (fN P q k)=true
 ·have I:¬0<oF ⟨#[78]⟩ (P.extract k (k+q)):=by rw[Wm];show¬sE (fN P q k)=false;simp_all
  have D:oF (P.extract k (k+q)) (P.extract 0 (k+q-1))=bm P q (fN P q k) k:=by
   unfold oF;rw[sF _ _ K,Y,agG,show min _ P.size-0+1-q=k by omega];exact Gc P q _ _ k (by omega)
  have R:oF (P.extract k (k+q)) P=jr P q (fN P q k):=by
   unfold oF;rw[sF _ _ K,Y];rfl
  have hC:oF (P.extract k (k+q)) S=jr S q (fN P q k):=by
   unfold oF;rw[sF _ _ K,Y];rfl
  rw[D,R,hC];by_cases H:bm P q (fN P q k) k=0
  ·rw[if_neg (by omega),if_pos ⟨H,K⟩];rfl
  ·simp_all
 ·have I:0<oF ⟨#[78]⟩ (P.extract k (k+q)):=by rw[Wm];show sE (fN P q k)=false;simpa using K
  simp_all
def kE(P:ByteArray)(q:Nat)
 |0=>[]
 |k+1=>if bm P q (fN P q k) k=0/\sE (fN P q k)=true then kE P q k++[fN P q k]else kE P q k
theorem kF(P:ByteArray)(q:Nat)(x:List _):∀k,x∈kE P q k↔0<bm P q x k
 |0=>by simp[kE,bm]
 |k+1=>by
  have Y:=kF P q x k;simp[kE,bm];by_cases h:bm P q (fN P q k) k=0/\sE (fN P q k)=true
  ·rw[if_pos h,ahY,ag2,Y];by_cases hx:fN P q k=x
   ·simp_all
   ·rw[if_neg (fun e=>hx e.1)];exact⟨fun e=>e.elim (fun e=>by omega) (fun e=>absurd e.symm hx),fun e=>.inl (by omega)⟩
  ·rw[if_neg h,Y];by_cases hx:fN P q k=x/\sE x=true
   ·have K:¬bm P q x k=0:=fun e=>h (by simp_all);omega
   ·rw[if_neg hx];omega
theorem ig(P:ByteArray)(q:Nat):∀k,(kE P q k).Nodup
 |0=>List.nodup_nil
 |k+1=>by
  simp[kE];split
  ·refine List.nodup_append.2 ⟨ig P q k,by simp,?_⟩;intro a Y b hb e;rw[ag2]at hb;subst hb;subst e;have:=(kF P q _ k).1 Y;omega
  ·exact ig P q k
def eK(f:List UInt8->Nat)(l:List _):=(l.map f).sum
theorem xY(f:List _->Nat)(l:List _)(x:List _):eK f (l++[x])=eK f l+f x:=by simp[eK]
theorem Ih(f:List _->Nat){l l':List _}(h:l.Perm l'):eK f l=eK f l':=(h.map f).sum_nat
theorem BS(P S:ByteArray)(q:Nat)(K:1<=q):∀k,k+q<=P.size+1->E9 P S q k=eK (eJ P S q) (kE P q k)
 |0,_=>rfl
 |k+1,h=>by
  simp[E9,kE];rw[BS P S q K k (by omega),OD P S q k K (by omega)];split
  ·rw[xY]
  ·simp
theorem uU(P S:ByteArray)(q:Nat)(R:1<=q)(K:List _)(D:K.Nodup)(hm:∀x,x∈K↔0<jr P q x):eK (eJ P S q) K=vv P S q:=by
 unfold vv;by_cases h:q<=P.size+1
 ·rw[BS P S q R _ (by omega)];exact Ih _ ((List.perm_ext_iff_of_nodup D (ig P q _)).2 fun x=>(hm x).trans (kF P q x _).symm)
 ·have e:P.size+1-q=0:=by omega
  rw[e];have:K=[]:=by
   cases K with
   |nil=>rfl
   |cons a l=>
    have:=(hm a).1 (by simp);unfold jr at this;rw[e]at this;simp[bm]at this
  rw[this];rfl
theorem Gd(P S:ByteArray)(q:Nat):∀l,eK (eJ P S q) l<=l.length *(S.size+1)
 |[]=>by simp[eK]
 |x::l=>by
  have Y:=Gd P S q l;have h1:eJ P S q x<=S.size+1:=Nat.le_trans (Nat.min_le_right _ _) (zt S q x);have e:eK (eJ P S q) (x::l)=eJ P S q x+eK (eJ P S q) l:=by simp[eK]
  rw[e,agw,Nat.succ_mul];omega
end
section
open RowKit Maps
open Proofs (encStr)
theorem EB{b:Nat}{D:DataW _}(h:pH w b n D):Maps.size D<=n:=by
 obtain⟨es,clock,_,_,Y,rfl⟩:=h;rw[size_eq,length_sorted,agQ,agV];exact Y
theorem EC(P S:ByteArray)(q b1 n1 b2 n2:Nat)(L M:DataW Unit)(w:World)(hq:1<=q)(hs:S.size<=1000)(hn1:n1<=1001)
  (D:pH w b1 n1 L)(R:pH w b2 n2 M)(T:iP L (jr P q))(I:iP M (jr S q)):
  Calls Tryz.prog 78 #[.map (some b1),.map (some b2)] w fun e w'=>e=.returned (.int .i64 (vv P S q:Int))/\Below w.heap.size w w':=by
 have J:=laid T;have g:=laid I;clear T I;have hl2:=R.lt;have hsz:=EB D
 go_enter Tryz.func78,Tryz.ntmps78
 go_wp2_with(first
  |(at_range;refine wpList_range_own _ rfl _ 113 rfl 9 3 LF agE _ b1 n1 _ rfl D ?_;intro w0 G V m)
  |go_in)
 clear m
 go_frame
 go_loopw [5] (fun sv wr=>∃(left:Lit->Bool) (cnt:Nat) (Y:List (List UInt8)),wr.ranges Tryz.prog 9 (plainElem Tryz.prog 3) b1 w.heap.size n1 L left cnt/\pH wr b2 n2 M/\Hid (Collected L left Y)/\Y.length+cnt<=Maps.size L/\sv=.int .i64 (eK (eJ P S q) Y:Int)/\Below w.heap.size w wr)
  (fun _ wr=>wr.rangeLeft b1 w.heap.size)
 case atStart=>exact⟨_,_,[],G,R.kept V (by simp),laid (Collected.start L),by simp,rfl,(aga _ _).grown V (af5 _) (fun j p=>by cases p)⟩
 case round=>
  obtain⟨left,cnt,Y,E,how,f,ZX,rfl,K⟩:=hrel;have i:eK (eJ P S q) Y<=1002001:=by
   have h1:=Gd P S q Y;have h2:Y.length *(S.size+1)<=1001 *1001:=Nat.mul_le_mul (by omega) (by omega);omega
  go_wp2_with(first
   |(at_next;refine wpList_next_ranges _ rfl _ rfl 9 LF (plainElem Tryz.prog 3) encStr (ah1 .i64) (fun key kl hk=>by obtain⟨x,hx,_⟩:=Maps.keyOf_str af9 hk;exact⟨x,hx⟩) (fun v y d=>by obtain⟨c,rfl,_⟩:=plainElem_int_inv af7 d;exact⟨c,rfl⟩) b1 w.heap.size n1 _ _ _ rfl E ?_ ?_)
   |go_in)
  ·intro hc0 r;have A:eK (eJ P S q) Y=vv P S q:=uU P S q hq Y f.out.1 fun x=>by
    rw[f.out.2 x,r,J.out.2.2 x];simp
   have N:=laid A;clear A;go_wp2
   go_ret
   exact⟨mj (by rw[N.out]),K⟩
  ·intro x c kl yd yp w2 O H Z d C B s X n hen;obtain⟨x',ex,rfl,_⟩:=Maps.keyOf_str af9 H;obtain rfl:x=x':=encStr_inj ex;obtain⟨c',b,t,_⟩:=plainElem_int_inv af7 d;obtain rfl:c=c':=by simpa using b
   have z:yd=.lit (.int .i64 c):=congrArg Prod.fst t;have hcc:c=(jr P q x:Int):=uS J.out (by rw[C];exact z);have l:=laid (f.out.step Z C);clear n d b t C z ex;have U:pH w2 b2 n2 M:=how.kept X (by intro e;cases e;omega);have o:Below w.heap.size w w2:=K.grown X K.size (fun j p=>by cases p;exact af5 _);have a:=zt P q x;have k:=zt S q x;have HK:=laid H;have u:=laid B.left_eq;have W:=laid E.left_eq;clear H Z;go_wp2_with(first
    |(at_lookup;refine wpList_lookup_own_int _ rfl _ _ 113 rfl 9 3 .i64 LF agE af7 (Ql _) b2 n2 M rfl U _ _ rfl HK.out ?_;intro c2 Q h)
    |go_in)
   have I:=uS g.out Q;have F:wrap64 ((eK (eJ P S q) Y:Int)+min (jr P q x:Int) c2)=(eK (eJ P S q) (Y++[x]):Int):=by
    rw[xY,I];have e:min (jr P q x:Int) (jr S q x:Int)=((eJ P S q x:Nat):Int):=by unfold eJ;omega
    rw[e,ahN _ (by omega)];omega
   go_roundw
   case rel=>go_light;exact⟨_,O,Y++[x],B,U,l,by rw[af6];simp;omega,bg F,o⟩
   case measure=>go_light;rw[u.out,W.out];exact s
end
section
open RowKit
def ov(k q st:Int):Bool:=decide (0<=k/\k<=6/\1<=q/\q<=8/\1<=st/\st<=200)
theorem xZ(k m q st:Int):jW k m q st=(ov k q st&&decide (k<m)):=by
 unfold jW ov;rw[Bool.eq_iff_iff];simp;omega
theorem Ii(k q st:Int)(w:World):
  Calls Tryz.prog 45 #[.agg #[.int .i64 k,.int .i64 q,.int .i64 st]] w fun e w'=>e=.returned (.bool (ov k q st))/\Below w.heap.size w w':=by
 have hb:∀o,Below w.heap.size w (w.alloc o):=fun o=>(aga _ _).alloc (af5 _) o;by_cases h1:0<=k
 case neg=>
  go_enter agB,agt
  go_wp2
  go_ret
  exact⟨cJ (by unfold ov;rw[decide_eq_false (by omega)]),hb _⟩
 by_cases h2:k<=6
 case neg=>
  go_enter agB,agt
  go_wp2
  go_ret
  exact⟨cJ (by unfold ov;rw[decide_eq_false (by omega)]),hb _⟩
 by_cases Y:1<=q
 case neg=>
  go_enter agB,agt
  go_wp2
  go_ret
  exact⟨cJ (by unfold ov;rw[decide_eq_false (by omega)]),hb _⟩
 by_cases K:q<=8
 case neg=>
  go_enter agB,agt
  go_wp2
  go_ret
  exact⟨cJ (by unfold ov;rw[decide_eq_false (by omega)]),hb _⟩
 by_cases H:1<=st
 case neg=>
  go_enter agB,agt
  go_wp2
  go_ret
  exact⟨cJ (by unfold ov;rw[decide_eq_false (by omega)]),hb _⟩
 by_cases D:st<=200
 case neg=>
  go_enter agB,agt
  go_wp2
  go_ret
  exact⟨cJ (by unfold ov;rw[decide_eq_false (by omega)]),hb _⟩
 go_enter agB,agt
 go_wp2
 go_ret
 exact⟨cJ (by unfold ov;rw[decide_eq_true (by omega)]),hb _⟩
theorem zv(k q st:Int)(S:ByteArray)(w:World)(K:S.size<=1000):
  Calls Tryz.prog 46 #[.agg #[.int .i64 k,.int .i64 q,.int .i64 st],.string S] w fun e w'=>e=.returned (.bool (decide (k<(S.size:Int))))/\Below w.heap.size w w':=by
 go_wp2
 go_ret
 exact⟨rfl,(aga _ _).alloc (af5 _) _⟩
theorem Ss(len k q m:Nat)(hm:(k:Int) *(q:Int)=(m:Int)):Ep len k q=(len:Int)-(q:Int)+1-(m:Int):=by
 unfold Ep;have:k *q=m:=by omega
 rw[this]
theorem ED(k q st len:Nat)(w:World)(hk:k<=6)(K:q<=8)(D:len<=1000):
  Calls Tryz.prog 75 #[.agg #[.int .i64 (k:Int),.int .i64 (q:Int),.int .i64 (st:Int)],.int .i64 (len:Int)] w fun e w'=>e=.returned (.int .i64 (Ep len k q))/\Below w.heap.size w w':=by
 obtain⟨m,hm,Y⟩:∃m:Nat,(k:Int) *(q:Int)=(m:Int)/\m<=48:=⟨k *q,by simp,by have:=Nat.mul_le_mul hk K;omega⟩;rw[Ss len k q m hm];go_wp2
 go_ret
 exact⟨rfl,(aga _ _).alloc (af5 _) _⟩
theorem BT(X:ByteArray)(k q st len b:Nat)(w:World)(hX:X.size<=1000)(hk:k<=6)(I:st<=200)(R:len<=1000)(hb:b *st<=X.size)(D:b<=100000):
  Calls Tryz.prog 77 #[.agg #[.int .i64 (k:Int),.int .i64 (q:Int),.int .i64 (st:Int)],.string X,.int .i64 (len:Int),.int .i64 (b:Int)] w fun e w'=>e=.returned (.string (X.extract (b *st) (pE len X.size k st b)))/\Below w.heap.size w w':=by
 have Y:pE len X.size k st b=min (b *st+st+len+k) X.size:=rfl;rw[Y];obtain⟨m,K,hm⟩:∃m:Nat,b *st=m/\(b:Int) *(st:Int)=(m:Int):=⟨b *st,rfl,by simp⟩;rw[K]at hb⊢;clear K Y;have H:min ((m:Int)+(st:Int)+(len:Int)+(k:Int)) (X.size:Int)=((min (m+st+len+k) X.size:Nat):Int):=by omega
 go_wp2
 go_ret
 exact⟨rfl,(aga _ _).alloc (af5 _) _⟩
theorem BU(L:List _)(i:Nat)(r:ByteArray×ByteArray×ByteArray)(h:L[i]?=some r):(dX L)[i *3]?=some (.string r.1)/\(dX L)[i *3+1]?=some (.string r.2.1)/\(dX L)[i *3+2]?=some (.string r.2.2):=by
 induction L generalizing i with
 |nil=>simp at h
 |cons a L Y=>
  cases i with
  |zero=>simp at h;subst h;exact⟨rfl,rfl,rfl⟩
  |succ i=>
   have:=Y i (by simp_all);rw[show(i+1) *3=i *3+1+1+1 by omega];exact this
def Yf(w:World)(b:Nat)(k q st:Int):=w.heap[b]?=some (.cells #[.int .i64 k,.int .i64 q,.int .i64 st] 75 (0,0))
def b_(k:Int)(L:List (ByteArray×ByteArray×ByteArray)):Bool:=L.all fun r=>decide (k<(r.2.1.size:Int))
theorem sd(k q st:Int)(L:List (ByteArray×ByteArray×ByteArray))(v:Value)(B:Nat)(w:World)(I:w.ownsRow B 131 3 v L.length (dX L))(t:L.length<=1000)(j:∀r∈L,r.2.1.size<=1000):
  Calls Tryz.prog 59 #[.agg #[.int .i64 k,.int .i64 q,.int .i64 st],v] w fun e w'=>e=.returned (.bool (b_ k L))/\Below w.heap.size w w':=by
 obtain⟨p,c,m,U⟩:∃(p:Option Addr) (c:Nat),v=.slice p L.length c/\Hid (∀i (r:ByteArray×ByteArray×ByteArray),L[i]?=some r->∃g,p=some ⟨g,0,none⟩/\g<w.heap.size/\w.cell? ⟨g,i *3,none⟩=some (.string r.1)/\w.cell? ⟨g,i *3+1,none⟩=some (.string r.2.1)/\w.cell? ⟨g,i *3+2,none⟩=some (.string r.2.2)):=by
  rcases I.2 with⟨rfl,O⟩|⟨g,cap,cur,rfl,b,J,l,o,s,u⟩
  ·refine⟨none,0,by rw[O],laid fun i r hr=>?_⟩;have:L=[]:=List.length_eq_zero_iff.1 O;subst this;simp at hr
  ·refine⟨some ⟨g,0,none⟩,cap,rfl,laid fun i r hr=>⟨g,rfl,(agy.1 J).1,?_⟩⟩;have h:=BU L i r hr;have f:=I.cells (g:=g) rfl;have f0:=f _ _ h.1;have f1:=f _ _ h.2.1;have f2:=f _ _ h.2.2;rw[jy]at f0 f1 f2;exact⟨f0,f1,f2⟩
 subst m;have z:=laid j;have T:=laid (fun(S:ByteArray) (W:World) (h:S.size<=1000)=>zv k q st S W h);clear I j
 go_enter Tryz.func59,Tryz.ntmps59
 go_wp2
 have O:Hid (Yf (w.alloc (.cells #[.int .i64 k,.int .i64 q,.int .i64 st] 75)) w.heap.size k q st):=laid (heap_alloc_new w _)
 go_loopw [9] (fun iv wr=>∃i:Nat,iv=.int .i64 (i:Int)/\i<=L.length/\Hid (b_ k (L.take i)=true)/\Yf wr w.heap.size k q st/\Below w.heap.size w wr) (fun iv _=>L.length-(intOf iv).toNat)
 case atStart=>exact⟨0,rfl,agZ _,laid rfl,O.out,(aga _ _).alloc (af5 _) _⟩
 case round=>
  obtain⟨i,rfl,y,M,C,Y⟩:=hrel;clear O;by_cases Z:i<L.length
  ·obtain⟨r,hr⟩:∃r,L[i]?=some r:=⟨L[i],af_ Z⟩;obtain⟨g,rfl,J,E,k1,G⟩:=U.out i r hr;have Q:=z.out r (agU hr);have A:Hid (L.take (i+1)=L.take i++[r]):=laid (by rw[ahM,hr];rfl);have K:=laid (agU hr);obtain⟨n,rb,rc⟩:=r;simp only at E k1 G Q;have c0:wr.cell? ⟨g,i *3,none⟩=some (.string n):=by rw[Y.cell (p:=⟨g,i *3,none⟩) J];exact E
   have c1:wr.cell? ⟨g,i *3+1,none⟩=some (.string rb):=by rw[Y.cell (p:=⟨g,i *3+1,none⟩) J];exact k1
   have c2:wr.cell? ⟨g,i *3+2,none⟩=some (.string rc):=by rw[Y.cell (p:=⟨g,i *3+2,none⟩) J];exact G
   have x:g<wr.heap.size:=Nat.lt_of_lt_of_le J Y.size;have X:w.heap.size<wr.heap.size:=(agy.1 C).1;have z0:wr.cell? ⟨w.heap.size,0,none⟩=some (.int .i64 k):=by rw[cell_of_row wr _ 0 _ _ _ C];rfl
   have z1:wr.cell? ⟨w.heap.size,1,none⟩=some (.int .i64 q):=by rw[cell_of_row wr _ 1 _ _ _ C];rfl
   have z2:wr.cell? ⟨w.heap.size,2,none⟩=some (.int .i64 st):=by rw[cell_of_row wr _ 2 _ _ _ C];rfl
   have b1:(i:Int)<(L.length:Int):=by omega
   have b2:(0:Int)<=(i:Int):=by omega
   have a:ahQ.wrap ((i:Int)+1)=(i:Int)+1:=ahk _ (by omega);have d:=laid C;clear hr E k1 G C;go_wp2_with fail
   refine(T.out rb _ Q).mono ?_;rintro e w2 ⟨rfl,P⟩;have H:Below wr.heap.size wr w2:=((aga _ _).alloc (af5 _) _).trans (P.mono (by simp));have F:Yf w2 w.heap.size k q st:=by unfold Yf;rw[H.block _ X];exact d.out
   have D:Below w.heap.size w w2:=Y.trans (H.mono Y.size);clear P H;by_cases R:k<(rb.size:Int)
   ·have N:Hid (b_ k (L.take (i+1))=true):=laid (by
     rw[A.out];unfold b_;rw[List.all_append];have:=M.out;unfold b_ at this;rw[this];simp[R])
    have V:=laid F;rw[decide_eq_true R];clear F A K M;go_wp2
    go_roundw
    case rel=>go_light;exact⟨i+1,by go_num,by omega,N,V.out,D⟩
    case measure=>go_light;simp[intOf];omega
   ·have N:Hid (b_ k L=false):=laid (by
     unfold b_;rw[List.all_eq_false];exact⟨_,K.out,by simpa using R⟩)
    rw[decide_eq_false R];clear F A K M R;go_wp2
    go_ret
    exact⟨cJ N.out.symm,D⟩
  ·have N:Hid (b_ k L=true):=laid (by
    have:=M.out;rw[List.take_of_length_le (by omega)]at this;exact this)
   clear M C;go_wp2
   go_ret
   exact⟨cJ N.out.symm,Y⟩
end
end Go.Proofs.YtdcjnhipenbcfaaGreatDoor
