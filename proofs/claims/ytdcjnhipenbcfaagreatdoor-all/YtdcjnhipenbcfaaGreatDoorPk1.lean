/-
  Own text. Part 1 of what the claim rests on.
-/
import Derived.Test.YtdcjnhipenbcfaaGreatDoorProg
import Derived.WalkKit
import Derived.WalkSpells
import Derived.WalkLawsBesides
import Derived.Deep.Light
import Derived.Lib.LaidTab
import Derived.Lib.ItoaNum
import Derived.Below
import Derived.Laws.MakeOwn
import Derived.Laws.OwnMore
import Derived.Laws.IdiomStrings
import Derived.Deep.RegionHeld3
import Derived.Deep.QuietTactic
import Derived.BigQuiet
import Derived.RegionTactic
import Derived.Lib.Builder
import Derived.OwnWalk
import Derived.Lib.MinMax
import Derived.ChangeAlike
import Derived.RegionDies
import Derived.Defers
import Derived.Recover
import Derived.Handy
import Derived.Test.YtdcjnhipenbcfaaGreatDoorRows
import Derived.ProofKit
import Derived.LaidMore
import Derived.Stop.Joined
import Derived.Lib.LaidU8
import Derived.OpenShut
import Derived.ShutString
import Derived.ChangeOld
import Derived.Deep.Slices
import GoSem.Step
import Derived.Laws.Sem
import Derived.StepT
import GoSem.Dispatch
set_option linter.unusedVariables false
set_option linter.unusedSectionVars false
set_option linter.unusedSimpArgs false
set_option maxRecDepth 100000
set_option maxHeartbeats 16000000
open Array renaming getElem?_eq_some_iff->bp,getElem?_push->bJ,replicate->bK,toList_extract->cv,getElem?_eq_none->c_,mem_append->da,mem_map->db
open Bool renaming not_eq_true->ar,false_eq_true->br,noConfusion->bt,and_eq_true->cw,not_true->cx,true_and->dc
open ByteArray renaming size_extract->bu,data_extract->cC
open Except.ok renaming injEq->cE
open Go renaming World->ae,Calls->af,Value->ah,TypeId->aj,undef->ao,cell_of_row->ay,maxLen->aH,Deferred->aM,Event->aN,block_lt_of_cell->aO,frozen_of_row->aQ,heap_alloc_new->aT,heap_setCell_same->aW,bodyPost_ret->bg,boundsPanic->bk,seenCells->bm,IntKind->bB,askRoom->bI,Ending->bN,heap_alloc_old->cg,madeCells->cj,newObj->ck,results_none->cm,storeCells->cn,wpList_append_own->cu,BoundsCode->cy,MapEntry->cL,heap_setCell_other->c7,info_parts->c8,plainCell->c9,RuntimeError->dU,callsD_of_wpS->eI,loadCellsFrom->eJ,run_makeSlice->eK,runtimePanic->eL,toList_madeCells_one->eM
open Go.Builtin renaming firstCells->bL,lenOf->bM,copy_->cz,len_->cA,zeroCells->cB,holdsCells->de,mayShare->dh,min_->di
open Go.ByteArray renaming toList_eq->cD
open Go.Calls renaming quiet_of_same->aA,quiet_of->aD
open Go.Conv renaming stringToBytes->dj
open Go.DataW renaming trod_int->bA,trod_string->dk
open Go.Instr renaming makeSlice->aX,sliceBound->bO,fieldAt->dp,indexAt->dq,loadAt->dt,makeFunc->du,makeInterface->dv,makeMap->dx,sliceAt->dy,sliceBounds->dz,storeAt->dA,sureAddr->dB
open Go.IntKind renaming i64->au
open Go.IntWalk renaming i64_in->ax
open Go.Lib renaming TabIs->cG,pow10Tab->dC
open Go.Op renaming intArith->cM,intCmp->cO,stringOp->cP
open Go.Program renaming globalNamed->dS
open Go.Proofs.Tryz renaming func84->a_,ntmps84->bc,f138->bE,underlying3->bF,func100->bW,func44->bX,ntmps100->bY,ntmps44->bZ,func70->cT,func94->cU,ntmps70->cV,ntmps94->cW,underlying9->cX,func101->dW,func165->dX,ntmps101->dY,ntmps165->dZ,ntmps35->d_,ntmps41->ec,ntmps50->ef,ntmps55->eg,ntmps61->eh,ntmps72->ei,ntmps82->ej,results41->ek,results61->eo,results80->ep,underlying145->et,underlying79->eu
open Go.Result renaming andThen_ok->cR
open Go.RowKit renaming Below->ak
open Go.RowKit.Below renaming refl->aI,heap_alloc->bq
open Go.Sem renaming runT->aU,run_bind->cS,run_pure->dV
open Go.Value renaming int->aJ,ofBytes->cY,nilIface->ey
open Go.World renaming drewN_drewN->az,cell?_setCell_other->aK,cell?_alloc_past->aV,cell?->bG,cell?_alloc_at->bH,cell?_setCell_same->cf,viewStore->cZ,farStore->ez,freeze->eA,frozen?->eB,frozen?_alloc_at->eC,noCell->eD,ownsRow_nil->eE,setCell_alloc_at->eG,viewLoad->eH
open Int renaming natCast_nonneg->bh
open List renaming length_cons->aP,append_assoc->bC,getElem?_eq_getElem->bP,length_append->bQ,map_append->bR,take_of_length_le->bS,take_succ_eq_append_getElem->bT,drop_eq_getElem_cons->cH,getElem?_range->cI,range_succ->cJ,replicate->cK,drop_of_length_le->dD,extract_eq_take_drop->dE,flatMap_cons->dG,getD_eq_getElem?_getD->dH,getElem?_map->dI,getElem_mem->dJ,length_take->dK,mem_map->dL,mem_toArray->dM,replicate_succ->dO
open MonadExcept renaming throw->bU
open MonadExceptOf renaming throw->bV
open Nat renaming le_refl->ai,zero_le->aB,le_trans->aL,lt_of_lt_of_le->aY,lt_or_ge->aZ,sub_self->bj,eq_zero_or_pos->bD,add_assoc->dP,le_of_eq->dQ,lt_succ_self->dR
open Option.some renaming injEq->cQ
open UInt8 renaming ofNat->b_,toNat_ofNat'->ew
namespace Go.Proofs.YtdcjnhipenbcfaaGreatDoor
abbrev e9:=ByteArray
variable {a a' at_:Addr}{cs gS:Array ah}{m nm s t:e9}{d':aM}{least:Int}{k:bB}{l:List Addr}{L:List UInt8}{B G H b b' base d i j n p q u z:Nat}{g:Nat->Nat}{o o':Obj}{P:Program}{T:aj}{like u0 u1 v' x x' y I:ah}{v1 w w':ae}
section
open RowKit
theorem qW{a b:Int}(h:a=b):Ending.returned (.int k a)=.returned (.int k b):=by rw[h]
theorem lx{a b:Bool}(h:a=b):Ending.returned (.bool a)=.returned (.bool b):=by rw[h]
def nH(n:Int):=if 97<=n/\n<=122 then n-32 else n
def Ap(n:Int):=decide (nH n=65)||decide (nH n=67)||decide (nH n=71)||decide (nH n=84)||decide (nH n=78)
def pU(n:Int):Int:=if n=65 then 84 else if n=84 then 65 else if n=67 then 71 else if n=71 then 67 else 78
theorem OM(n:Int)(D:0<=n)(R:n<=255)(w:ae):
  af Tryz.prog 97 #[.int .u8 n] w fun e w'=>e=.returned (.int .u8 (nH n))/\w'=w:=by
 by_cases Y:97<=n
 ·by_cases K:n<=122
  ·go_wp2
   go_ret
   exact⟨qW (by unfold nH;rw[if_pos ⟨Y,K⟩];omega),rfl⟩
  ·go_wp2
   go_ret
   exact⟨qW (by unfold nH;rw[if_neg (by omega)]),rfl⟩
 ·go_enter Tryz.func97,Tryz.ntmps97
  go_wp2
  go_ret
  exact⟨qW (by unfold nH;rw[if_neg (by omega)]),rfl⟩
theorem YZ(n:Int)(Y:0<=n)(K:n<=255)(w:ae):
  af Tryz.prog 71 #[.int .u8 n] w fun e w'=>e=.returned (.bool (Ap n))/\w'=w:=by
 go_enter Tryz.func71,Tryz.ntmps71
 go_wp2_with(refine(OM _ Y K _).mono ?_;rintro e w' ⟨rfl,rfl⟩)
 all_goals go_ret
 all_goals(exact⟨lx (by simp_all[Ap]),rfl⟩)
theorem XZ(n:Int)(Y:0<=n)(K:n<=255)(w:ae):
  af Tryz.prog 79 #[.int .u8 n] w fun e w'=>e=.returned (.int .u8 (pU n))/\w'=w:=by
 go_wp2
 all_goals go_ret
 all_goals(exact⟨qW (by simp_all[pU]),rfl⟩)
theorem CC(n:Int)(w:ae):
  af Tryz.prog 54 #[.int .i64 n] w fun e w'=>e=.returned (.int .i64 n)/\w'=w:=by
 go_wp2
 go_ret
 simp_all
def D6(n:Int):e9:=
 if n=65\/n=97 then⟨#[65]⟩else if n=67\/n=99 then⟨#[67]⟩else if n=71\/n=103 then⟨#[71]⟩else if n=84\/n=116 then⟨#[84]⟩else if n=78\/n=110 then⟨#[78]⟩else⟨#[]⟩
theorem lZ{a b:e9}(h:a=b):Ending.returned (.string a)=.returned (.string b):=by rw[h]
theorem PI(n:Int)(Y:0<=n)(K:n<=255)(w:ae):
  af Tryz.prog 103 #[.int .u8 n] w fun e w'=>e=.returned (.string (D6 n))/\w'=w:=by
 go_wp2
 all_goals go_ret
 all_goals(go_light;exact⟨lZ (by simp_all[D6]),rfl⟩)
def gb(b:UInt8):=b_ (nH b.toNat).toNat
def g_(b:UInt8):=Ap b.toNat
def pb(b:UInt8):=b_ (pU b.toNat).toNat
theorem RE(n:Int)(U:0<=n)(C:n<=255):D6 n=if Ap n then⟨#[b_ (nH n).toNat]⟩else⟨#[]⟩:=by
 unfold D6 Ap nH;by_cases a:97<=n/\n<=122
 ·by_cases Y:n=97
  ·subst Y;decide
  by_cases K:n=99
  ·subst K;decide
  by_cases H:n=103
  ·subst H;decide
  by_cases D:n=116
  ·subst D;decide
  by_cases R:n=110
  ·subst R;decide
  rw[if_neg (by omega),if_neg (by omega),if_neg (by omega),if_neg (by omega),if_neg (by omega),if_neg];simp;omega
 ·by_cases Y:n=65
  ·subst Y;decide
  by_cases K:n=67
  ·subst K;decide
  by_cases H:n=71
  ·subst H;decide
  by_cases D:n=84
  ·subst D;decide
  by_cases R:n=78
  ·subst R;decide
  rw[if_neg (by omega),if_neg (by omega),if_neg (by omega),if_neg (by omega),if_neg (by omega),if_neg];simp;omega
theorem rS(b:UInt8):0<=(b.toNat:Int):=by omega
theorem qX(b:UInt8):(b.toNat:Int)<=255:=by have:=b.toNat_lt;omega
theorem laid{p:Prop}(h:p):Hid p:=h
theorem G5(b:UInt8)(Y:g_ b=true)(w:ae):
  af Tryz.prog 103 #[.int .u8 b.toNat] w fun e w'=>e=.returned (.string ⟨#[gb b]⟩)/\w'=w:=by
 have h:=PI _ (rS b) (qX b) w;rw[RE _ (rS b) (qX b)]at h;unfold g_ at Y;simpa only[Y,if_true,gb]using h
theorem QO(b:UInt8)(Y:g_ b=false)(w:ae):
  af Tryz.prog 103 #[.int .u8 b.toNat] w fun e w'=>e=.returned (.string ⟨#[]⟩)/\w'=w:=by
 have h:=PI _ (rS b) (qX b) w;rw[RE _ (rS b) (qX b)]at h;unfold g_ at Y;simp_all
structure jZ where
 kind:Int
 k:Int
 q:Int
 step:Int
 workers:Int
 ref:e9
 s:e9
def jZ.val(o:jZ):Value:=.agg #[.int .i64 o.kind,.int .i64 o.k,.int .i64 o.q,.int .i64 o.step,.int .i64 o.workers,.string o.ref,.string o.s]
def oW(w:ae)(b off:Nat)(o:jZ):=
 w.cell? ⟨b,off,none⟩=some (.int .i64 o.kind)/\w.cell? ⟨b,off+1,none⟩=some (.int .i64 o.k)/\w.cell? ⟨b,off+2,none⟩=some (.int .i64 o.q)/\
 w.cell? ⟨b,off+3,none⟩=some (.int .i64 o.step)/\w.cell? ⟨b,off+4,none⟩=some (.int .i64 o.workers)/\
 w.cell? ⟨b,off+5,none⟩=some (.string o.ref)/\w.cell? ⟨b,off+6,none⟩=some (.string o.s)
def iK(w:ae):=cG Tryz.prog w "internal/strconv.uint64pow10" .u64 dC
theorem iK.on(h:iK w)(D:ak w.heap.size w w'):iK w':=by
 unfold iK cG World.var? at *;cases K:dS _ _ with
 |none=>simp[K]at h
 |some g=>
  simp[K,Option.bind_some]at h⊢;have Y:g<w.heap.size:=by
   rcases aZ g _ with h'|h'
   ·omega
   ·simp_all
  rw[D.block g Y];exact h
def wh(w:ae)(a:Option Addr)(len cap:Nat)(os:Nat->jZ):=
 len=0\/∃b off,a=some ⟨b,off,none⟩/\len<=aH/\(∀i,i<len->oW w b (off+i *7) (os i))/\∀i,i<len->(os i).ref.size<=aH/\(os i).s.size<=aH
def str(l:List UInt8):e9:=⟨l.toArray⟩
theorem h_(l:List _):(str l).size=l.length:=rfl
theorem kX(l m:List _):str l++str m=str (l++m):=by
 apply ByteArray.ext;simp[str]
theorem tZ(l:List _)(b:UInt8):str l++⟨#[b]⟩=str (l++[b]):=kX l [b]
theorem Gj(s:e9):s.data.toList.length=s.size:=by simp
theorem B7(s:e9)(k:Nat)(h:k<s.size):s.data.toList.take (k+1)=s.data.toList.take k++[s[k]]:=by
 rw[bT _];rfl
theorem aar(s:e9)(k:Nat)(h:k<s.size):s[k]∈s.data.toList:=by
 exact dJ _
theorem Xn{a b:e9}{t:Bool}(h:a=b):Ending.returned (.tuple #[.string a,.bool t])=.returned (.tuple #[.string b,.bool t]):=by rw[h]
theorem ib{a b:Int}(h:a=b):aJ k a=aJ k b:=by rw[h]
theorem jj{a b:e9}(h:a=b):Value.string a=Value.string b:=by rw[h]
def sY(s:e9)(k:Nat):=str ((s.data.toList.take k).map gb)
theorem NY(s:e9)(k:Nat):(sY s k).size<=k:=by
 unfold sY;rw[h_];simp;omega
theorem NZ(s:e9)(k:Nat)(h:k<s.size):sY s k++⟨#[gb s[k]]⟩=sY s (k+1):=by
 unfold sY;rw[B7 s k h,tZ];simp
theorem aas(s:e9)(k:Nat)(h:s.size<=k):sY s k=str (s.data.toList.map gb):=by
 unfold sY;rw[bS (by simp_all)]
theorem FU(s:e9)(w:ae)(R:s.size<=200)(K:(s.data.toList.all g_)=true):
  af Tryz.prog 82 #[.string s] w fun e w'=>e=.returned (.tuple #[.string (str (s.data.toList.map gb)),.bool true])/\w'=w:=by
 have H:=laid K;clear K
 go_enter Tryz.func82,ej
 go_wp2
 go_loop [4,5] (fun t i=>∃k:Nat,k<=s.size/\i=.int .i64 k/\t=.string (sY s k)) (fun _ i=>s.size-(intOf i).toNat)
 case atStart=>exact⟨0,aB _,rfl,rfl⟩
 case round=>
  obtain⟨k,hk,rfl,rfl⟩:=hrel;have I:=NY s k;by_cases Y:k<s.size
  ·have D:g_ s[k]=true:=by
    have:=H.out;rw[List.all_eq_true]at this;exact this _ (aar s k Y)
   go_wp2_with(go_at_call 103;refine(G5 _ D _).mono ?_;rintro e w' ⟨rfl,rfl⟩)
   go_round
   case rel=>go_light;exact⟨k+1,by omega,by go_num,jj (NZ s k Y)⟩
   case measure=>go_light;simp[intOf];omega
  ·go_wp2
   go_ret2
   exact⟨Xn (aas s k (by omega)),rfl⟩
theorem N0(s:e9)(w:ae)(C:s.size<=200)(U:(s.data.toList.all g_)=false):
  af Tryz.prog 82 #[.string s] w fun e w'=>e=.returned (.tuple #[.string ⟨#[]⟩,.bool false])/\w'=w:=by
 have I:=laid U;clear U
 go_enter Tryz.func82,ej
 go_wp2
 go_loop [4,5] (fun t i=>∃k:Nat,k<=s.size/\i=.int .i64 k/\t=.string (sY s k)/\Hid ((s.data.toList.take k).all g_=true)) (fun _ i=>s.size-(intOf i).toNat)
 case atStart=>exact⟨0,aB _,rfl,rfl,laid rfl⟩
 case round=>
  obtain⟨k,hk,rfl,rfl,H⟩:=hrel;have A:=NY s k;by_cases Y:k<s.size
  ·by_cases K:g_ s[k]=true
   ·go_wp2_with(go_at_call 103;refine(G5 _ K _).mono ?_;rintro e w' ⟨rfl,rfl⟩)
    go_round
    case rel=>go_light;exact⟨k+1,by omega,by go_num,jj (NZ s k Y),laid (by rw[B7 s k Y,List.all_append,H.out];simp[K])⟩
    case measure=>go_light;simp[intOf];omega
   ·rw[ar]at K;go_wp2_with(go_at_call 103;refine(QO _ K _).mono ?_;rintro e w' ⟨rfl,rfl⟩)
    go_ret2
    exact⟨rfl,rfl⟩
  ·exfalso;have D:=H.out;rw[bS (by simp;omega)]at D;have R:=I.out;rw[D]at R;exact bt R
def iL(s:e9)(j:Nat):=str ((s.data.toList.drop j).map pb).reverse
theorem zu(s:e9)(j:Nat):(iL s j).size<=s.size:=by
 unfold iL;rw[h_];simp
theorem drop_cons(s:e9)(k:Nat)(h:k<s.size):s.data.toList.drop k=s[k]::s.data.toList.drop (k+1):=by
 rw[cH _];rfl
theorem Y0(s:e9)(j:Nat)(h:j<s.size):iL s (j+1)++⟨#[pb s[j]]⟩=iL s j:=by
 unfold iL;rw[drop_cons s j h,tZ];simp
theorem aiZ(b:UInt8)(h:((b.toNat:Int)==65)=true):pb b=84:=by
 have h':=eq_of_beq h;unfold pb pU;simp_all
theorem ai0(b:UInt8)(h:((b.toNat:Int)==84)=true):pb b=65:=by
 have h':=eq_of_beq h;unfold pb pU;simp_all
theorem ai1(b:UInt8)(h:((b.toNat:Int)==67)=true):pb b=71:=by
 have h':=eq_of_beq h;unfold pb pU;simp_all
theorem ai2(b:UInt8)(h:((b.toNat:Int)==71)=true):pb b=67:=by
 have h':=eq_of_beq h;unfold pb pU;simp_all
theorem ai3(b:UInt8)(Y:((b.toNat:Int)==65)=false)(D:((b.toNat:Int)==84)=false)(R:((b.toNat:Int)==67)=false)(U:((b.toNat:Int)==71)=false):pb b=78:=by
 have K:=beq_eq_false_iff_ne.1 Y;have H:=beq_eq_false_iff_ne.1 D;have I:=beq_eq_false_iff_ne.1 R;have A:=beq_eq_false_iff_ne.1 U;unfold pb pU;simp_all
def S7(s:e9)(t i:ah):=
 (i=.int .i64 (-1)/\t=.string (iL s 0))\/∃j:Nat,j<s.size/\i=.int .i64 j/\t=.string (iL s (j+1))
theorem zz(s:e9)(j:Nat)(h:j<s.size)(c:UInt8)(Y:pb s[j]=c):S7 s (.string (iL s (j+1)++⟨#[c]⟩)) (.int .i64 (j-1)):=by
 subst Y;rw[Y0 s j h];rcases bD j with rfl|K
 ·exact .inl ⟨rfl,rfl⟩
 ·exact .inr ⟨j-1,by omega,ib (by omega),by rw[show j-1+1=j by omega]⟩
theorem OO(s:e9)(w:ae)(D:s.size<=200):
  af Tryz.prog 83 #[.string s] w fun e w'=>e=.returned (.string (iL s 0))/\w'=w:=by
 go_enter Tryz.func83,Tryz.ntmps83
 go_wp2
 go_loop [3,4] (fun t i=>S7 s t i) (fun _ i=>(intOf i+1).toNat)
 case atStart=>
  rcases bD s.size with K|H
  ·left;refine⟨by rw[K];rfl,jj ?_⟩;unfold iL;rw[dD (by rw[Gj];omega)];rfl
  ·refine .inr ⟨s.size-1,by omega,ib (by omega),jj ?_⟩;unfold iL;rw[dD (by rw[Gj];omega)];rfl
 case round=>
  rcases hrel with⟨rfl,rfl⟩|⟨j,Y,rfl,rfl⟩
  ·go_wp2
   go_ret
   exact⟨rfl,rfl⟩
  ·have R:=zu s (j+1);go_wp2
   all_goals
    go_round
    case rel=>
     go_light
     first
      |exact zz s j Y _ (aiZ _ ‹_›)
      |exact zz s j Y _ (ai0 _ ‹_›)
      |exact zz s j Y _ (ai1 _ ‹_›)
      |exact zz s j Y _ (ai2 _ ‹_›)
      |exact zz s j Y _ (ai3 _ ‹_› ‹_› ‹_› ‹_›)
    case measure=>go_light;simp[intOf]
theorem X0{a b:e9}{n:Int}(h:a=b):Ending.returned (.tuple #[.string a,.int k n])=.returned (.tuple #[.string b,.int k n]):=by rw[h]
def nT(s:e9):=if 200<s.size then⟨#[]⟩else if s.data.toList.all g_ then iL (str (s.data.toList.map gb)) 0 else⟨#[]⟩
def oT(s:e9):Int:=if 200<s.size then 1 else if s.data.toList.all g_ then 0 else 5
theorem X3(s:e9)(w:ae)(U:s.size<=aH):
  af Tryz.prog 55 #[.string s] w fun e w'=>e=.returned (.tuple #[.string (nT s),.int .i64 (oT s)])/\w'=w:=by
 unfold aH at U;by_cases D:200<s.size
 ·have K:nT s=⟨#[]⟩:=by unfold nT;rw[if_pos D]
  have H:oT s=1:=by unfold oT;rw[if_pos D]
  rw[K,H];clear K H;go_wp2
  go_ret2
  exact⟨rfl,rfl⟩
 ·by_cases Y:s.data.toList.all g_=true
  ·have K:nT s=iL (str (s.data.toList.map gb)) 0:=by unfold nT;rw[if_neg D,if_pos Y]
   have H:oT s=0:=by unfold oT;rw[if_neg D,if_pos Y]
   rw[K,H];clear K H;have R:=laid Y;clear Y
   go_enter Tryz.func55,eg
   go_wp2_with fail
   refine(FU s _ (by omega) R.out).mono ?_;rintro e w' ⟨rfl,rfl⟩;go_wp2_with fail
   refine(OO _ _ (by rw[h_];simp;omega)).mono ?_;rintro e w' ⟨rfl,rfl⟩;go_wp2
   go_ret2
   exact⟨rfl,rfl⟩
  ·rw[ar]at Y;have K:nT s=⟨#[]⟩:=by unfold nT;rw[if_neg D,Y];rfl
   have H:oT s=5:=by unfold oT;rw[if_neg D,Y];rfl
   rw[K,H];clear K H;have R:=laid Y;clear Y
   go_enter Tryz.func55,eg
   go_wp2_with fail
   refine(N0 s _ (by omega) R.out).mono ?_;rintro e w' ⟨rfl,rfl⟩;go_wp2
   go_ret2
   exact⟨rfl,rfl⟩
theorem infoByte:(Tryz.prog.info? 5).map (fun i=>(i.zero,i.size,i.bytes))=some (some (.int .u8 0),1,1):=by kernel_rfl
def bv(b:UInt8):Value:=.int .u8 (b.toNat:Int)
def qB(l:List _)(m:Nat):=(l.map bv++cK m (aJ .u8 0)).toArray
def uT(m:Nat)(l:List _):=(cK m (aJ .u8 0)++l.map bv).toArray
theorem N1(n:Nat)(R:n<=1000)(w:ae):
  (aX 79 (.int .i64 n) (.int .i64 n)).run Tryz.prog w=.ok (.slice (some ⟨w.heap.size,0,none⟩) n n) (w.alloc (.cells (qB [] n) 5)):=by
 have h:=infoByte;rcases Y:Tryz.prog.info? 5 with _|i
 ·simp_all
 ·rw[Y]at h;simp at h;have⟨D,K,H⟩:=h;have:=eK w 79 5 i _ eu Y D .i64 .i64 n n (by omega) (by omega) (by rw[K];omega) (by rw[H];omega) (by omega);rw[this];have e:cj (aJ IntKind.u8 0).cells ((n:Int).toNat *i.size)=qB [] n:=by
   apply Array.ext';rw[K];show(cj #[aJ _ 0] _).toList=_
   have:=eM (.int .u8 0) n;simpa[qB]using this
  simp_all
theorem N3(l:List _)(n:Nat)(D:l.length=n)(C:Array _)(Y:C=(l.map bv).toArray)(w:ae)(cap:Nat):
  (convert 79 9 (.slice (some ⟨w.heap.size,0,none⟩) n cap)).run Tryz.prog (w.alloc (.cells C 5))=.ok (.string (str l)) (w.alloc (.cells C 5)):=by
 subst D Y;refine run_convert_bytes_back _ 79 9 5 _ cap l eu Tryz.underlying5 cX ?_;intro j K;have:(⟨w.heap.size,0,none⟩:Addr).add j=⟨w.heap.size,j,none⟩:=by unfold Addr.add;simp_all
 rw[this,bH _ _ _ _ rfl];simp[bv,K]
theorem adZ(l:List _)(m k:Nat)(hk:k=l.length)(Y:0<m):(qB l m)[k]?=some (.int .u8 0):=by
 subst hk;unfold qB;simp_all
theorem ab6(l:List _)(m k:Nat)(hk:k=l.length)(K:0<m)(b:UInt8)(v:ah)(Y:v=bv b):(qB l m).setIfInBounds k v=qB (l++[b]) (m-1):=by
 subst hk Y;cases m with
 |zero=>omega
 |succ m=>
  simp[qB,dO]
def gl(s:e9)(k:Nat):=(s.data.toList.take k).map gb
theorem RH(s:e9)(k:Nat)(h:k<=s.size):(gl s k).length=k:=by
 unfold gl;simp;omega
theorem ad0(s:e9)(k:Nat)(h:k<s.size):gl s (k+1)=gl s k++[gb s[k]]:=by
 unfold gl;rw[B7 s k h];simp
theorem afV(s:e9)(k:Nat)(h:s.size<=k):gl s k=s.data.toList.map gb:=by
 unfold gl;rw[bS (by exact h)]
theorem afW(b:UInt8):0<=nH b.toNat/\nH b.toNat<=255:=by
 have:=qX b;unfold nH;omega
theorem afX(b:UInt8):((gb b).toNat)=nH b.toNat:=by
 have h:=afW b;unfold gb;rw[ew];omega
def uu(s:e9)(k:Nat):=qB (gl s k) (s.size-k)
theorem aat(s:e9)(k:Nat)(h:k<s.size):(uu s k)[k]?=some (.int .u8 0):=
 adZ _ _ _ (RH s k (by omega)).symm (by omega)
theorem Y1(s:e9)(k:Nat)(h:k<s.size):(uu s k).setIfInBounds k (.int .u8 (nH s[k].toNat))=uu s (k+1):=by
 unfold uu;rw[ab6 _ _ _ (RH s k (by omega)).symm (by omega) _ _ (by unfold bv;rw[afX]),<-ad0 s k h];congr 1
theorem Y2(s:e9)(k:Nat)(h:s.size<=k):uu s k=((s.data.toList.map gb).map bv).toArray:=by
 unfold uu qB;rw[afV s k h,show s.size-k=0 by omega];simp
theorem Fv(s:e9)(w:ae)(R:s.size<=200):
  af Tryz.prog 67 #[.string s] w fun e w'=>e=.returned (.string (str (s.data.toList.map gb)))/\ak w.heap.size w w':=by
 have K:=N1 s.size (by omega);go_wp2
 clear K
 go_loopw [10] (fun i wr=>∃k:Nat,k<=s.size/\i=.int .i64 k/\wr=w.alloc (.cells (uu s k) 5)) (fun i _=>s.size-(intOf i).toNat)
 case atStart=>exact⟨0,aB _,rfl,rfl⟩
 case round=>
  obtain⟨k,hk,rfl,rfl⟩:=hrel;by_cases Y:k<s.size
  ·have H:=aat s k Y;go_wp2_with(go_at_call 97;refine(OM _ (rS _) (qX _) _).mono ?_;rintro e w' ⟨rfl,rfl⟩)
   go_roundw
   case rel=>go_light;exact⟨k+1,by omega,by go_num,by rw[Y1 s k Y]⟩
   case measure=>go_light;simp[intOf];omega
  ·have D:=N3 (s.data.toList.map gb) s.size (by simp) (uu s k) (Y2 s k (by omega)) w s.size;go_wp2
   go_ret
   exact⟨rfl,(aI _ _).alloc (ai _) _⟩
theorem ad1(n:Int):0<=pU n/\pU n<=255:=by
 unfold pU;omega
theorem afY(b:UInt8):((pb b).toNat)=pU b.toNat:=by
 have h:=ad1 b.toNat;unfold pb;rw[ew];omega
theorem ad2(m:Nat)(l:List _)(k:Nat)(hk:k+1=m):(uT m l)[k]?=some (.int .u8 0):=by
 subst hk;unfold uT;simp[List.getElem?_append]
theorem ab7(m:Nat)(l:List _)(k:Nat)(hk:k+1=m)(b:UInt8)(v:ah)(Y:v=bv b):(uT m l).setIfInBounds k v=uT k (b::l):=by
 subst hk Y;simp only[uT,List.replicate_succ'];simp
def pl(s:e9)(k:Nat):=((s.data.toList.take k).map pb).reverse
theorem ad9(s:e9)(k:Nat)(h:k<s.size):pl s (k+1)=pb s[k]::pl s k:=by
 unfold pl;rw[B7 s k h];simp
theorem afZ(s:e9)(k:Nat)(h:s.size<=k):pl s k=(s.data.toList.map pb).reverse:=by
 unfold pl;rw[bS (by exact h)]
def rX(s:e9)(k:Nat):=uT (s.size-k) (pl s k)
theorem aau(s:e9)(k j:Nat)(h:k<s.size)(Y:j+1+k=s.size):(rX s k)[j]?=some (.int .u8 0):=
 ad2 _ _ _ (by omega)
theorem Y3(s:e9)(k j:Nat)(h:k<s.size)(Y:j+1+k=s.size):(rX s k).setIfInBounds j (.int .u8 (pU s[k].toNat))=rX s (k+1):=by
 unfold rX;rw[ab7 _ _ _ (by omega) _ _ (by unfold bv;rw[afY]),<-ad9 s k h,show s.size-(k+1)=j by omega]
theorem Y4(s:e9)(k:Nat)(h:s.size<=k):rX s k=((s.data.toList.map pb).reverse.map bv).toArray:=by
 unfold rX uT;rw[afZ s k h,show s.size-k=0 by omega];simp
theorem Xo(s:e9):rX s 0=qB [] s.size:=by
 unfold rX uT qB pl;simp
theorem PJ(s:e9)(w:ae)(U:s.size<=200):
  af Tryz.prog 51 #[.string s] w fun e w'=>e=.returned (.string (iL s 0))/\ak w.heap.size w w':=by
 have K:=N1 s.size (by omega)
 go_enter Tryz.func51,Tryz.ntmps51
 go_wp2
 clear K
 go_loopw [10] (fun i wr=>∃k:Nat,k<=s.size/\i=.int .i64 k/\wr=w.alloc (.cells (rX s k) 5)) (fun i _=>s.size-(intOf i).toNat)
 case atStart=>exact⟨0,aB _,rfl,by rw[Xo]⟩
 case round=>
  obtain⟨k,hk,rfl,rfl⟩:=hrel;by_cases Y:k<s.size
  ·have H:s.size-1-k+1+k=s.size:=by omega
   have R:=aau s k _ Y H;have D:=laid H;clear H;go_wp2_with(go_at_call 79;refine(XZ _ (rS _) (qX _) _).mono ?_;rintro e w' ⟨rfl,rfl⟩)
   go_roundw
   case rel=>go_light;exact⟨k+1,by omega,by go_num,by rw[Y3 s k _ Y D.out]⟩
   case measure=>go_light;simp[intOf];omega
  ·have I:=N3 (s.data.toList.map pb).reverse s.size (by simp) (rX s k) (Y4 s k (by omega)) w s.size;go_wp2
   go_ret
   exact⟨rfl,(aI _ _).alloc (ai _) _⟩
def ag(a b:UInt8):=a==b&&a != 78
def at8(s:e9)(i:Nat):=s.data.toList.getD i 0
theorem kZ(s:e9)(i:Nat)(h:i<s.size):s[i]=at8 s i:=by
 unfold at8;rw[dH,bP _];rfl
def cost(p t:e9)(i j:Nat):=if ag (at8 p i) (at8 t j)=true then 0 else 1
def dT(p t:e9)
 |0,j=>j
 |i+1,0=>i+1
 |i+1,j+1=>min (min (dT p t i j+cost p t i j) (dT p t i (j+1)+1)) (dT p t (i+1) j+1)
theorem qp(p t:e9):∀i j,dT p t i j<=i+j
 |0,j=>by simp[dT]
 |i+1,0=>by simp[dT]
 |i+1,j+1=>by have:=qp p t i (j+1);rw[dT];omega
theorem Gk(a b:UInt8)(w:ae):
  af Tryz.prog 119 #[.int .u8 (a.toNat:Int),.int .u8 (b.toNat:Int)] w fun e w'=>e=.returned (.bool (ag a b))/\w'=w:=by
 by_cases h:a=b
 ·go_wp2
  go_ret
  refine⟨lx ?_,rfl⟩;unfold ag;subst h;simp only[beq_self_eq_true,dc];by_cases Y:a=78
  ·subst Y;rfl
  ·have K:(a != 78)=true:=by simpa using Y
   have H:((a.toNat:Int) != 78)=true:=by
    rw[bne_iff_ne];intro D;apply Y;apply UInt8.toNat.inj;have:((78:UInt8).toNat:Int)=78:=rfl;omega
   rw[K,H]
 ·have R:(a.toNat:Int)≠(b.toNat:Int):=by intro D;exact h (UInt8.toNat.inj (by omega))
  go_enter Tryz.func119,Tryz.ntmps119
  go_wp2
  go_ret
  refine⟨lx ?_,rfl⟩;unfold ag;rw[show(a==b)=false by simpa using h];rfl
theorem OP(a b c:Int)(w:ae):
  af Tryz.prog 135 #[.int .i64 a,.int .i64 b,.int .i64 c] w fun e w'=>e=.returned (.int .i64 (min (min a b) c))/\w'=w:=by
 by_cases K:b<a
 ·by_cases Y:c<b;all_goals
   go_wp2
   go_ret
   exact⟨qW (by omega),rfl⟩
 ·by_cases Y:c<a;all_goals
   go_wp2
   go_ret
   exact⟨qW (by omega),rfl⟩
theorem ahn:(Tryz.prog.info? 3).map (fun i=>(i.zero,i.size,i.bytes))=some (some (.int .i64 0),1,8):=by kernel_rfl
def nv(z:Nat):Value:=.int .i64 (z:Int)
def nY(l:List Nat)(m:Nat):=(l.map nv++cK m (aJ .i64 0)).toArray
theorem OQ(n:Nat)(R:n<=1000)(w:ae):
  (aX 25 (.int .i64 n) (.int .i64 n)).run Tryz.prog w=.ok (.slice (some ⟨w.heap.size,0,none⟩) n n) (w.alloc (.cells (nY [] n) 3)):=by
 have h:=ahn;rcases Y:Tryz.prog.info? 3 with _|i
 ·simp_all
 ·rw[Y]at h;simp at h;have⟨D,K,H⟩:=h;have:=eK w 25 3 i _ Tryz.underlying25 Y D .i64 .i64 n n (by omega) (by omega) (by rw[K];omega) (by rw[H];omega) (by omega);rw[this];have e:cj (aJ au 0).cells ((n:Int).toNat *i.size)=nY [] n:=by
   apply Array.ext';rw[K];show(cj #[aJ _ 0] _).toList=_
   have:=eM (.int .i64 0) n;simpa[nY]using this
  simp_all
theorem Gl(l:List Nat)(m k:Nat)(hk:k=l.length)(Y:0<m):(nY l m)[k]?=some (.int .i64 0):=by
 subst hk;unfold nY;simp_all
theorem PK(l:List Nat)(m k:Nat)(hk:k<l.length):(nY l m)[k]?=some (nv (l.getD k 0)):=by
 unfold nY;rw[List.getElem?_toArray,List.getElem?_append_left (by simp_all),dI,dH,bP hk];rfl
theorem PM(l:List Nat)(m k:Nat)(hk:k=l.length)(K:0<m)(b:Nat)(v:ah)(Y:v=nv b):(nY l m).setIfInBounds k v=nY (l++[b]) (m-1):=by
 subst hk Y;cases m with
 |zero=>omega
 |succ m=>
  simp[nY,dO]
def tl(p t:e9)(i j:Nat):=(List.range j).map (dT p t i)
theorem Ir(p t:e9)(i j:Nat):(tl p t i j).length=j:=by simp[tl]
theorem ad_(p t:e9)(i j:Nat):tl p t i (j+1)=tl p t i j++[dT p t i j]:=by simp[tl,cJ]
theorem aho(p t:e9)(i j k:Nat)(h:k<j):(tl p t i j).getD k 0=dT p t i k:=by
 simp[tl,cI h]
def pL(p t:e9)(i j:Nat):=nY (tl p t i j) (t.size+1-j)
theorem X4(p t:e9)(i j:Nat)(h:j<=t.size):(pL p t i j)[j]?=some (.int .i64 0):=Gl _ _ _ (Ir p t i j).symm (by omega)
theorem N4(p t:e9)(i j k:Nat)(h:k<j):(pL p t i j)[k]?=some (.int .i64 (dT p t i k)):=by
 unfold pL;rw[PK _ _ _ (by rw[Ir];exact h),aho p t i j k h];rfl
theorem FV(p t:e9)(i j:Nat)(h:j<=t.size)(z:Int)(Y:z=(dT p t i j)):(pL p t i j).setIfInBounds j (.int .i64 z)=pL p t i (j+1):=by
 unfold pL;rw[PM _ _ _ (Ir p t i j).symm (by omega) _ _ (by unfold nv;rw[Y]),ad_];congr 1
def re(w:ae)(g:Nat)(p t:e9)(i:Nat):=w.heap[g]?=some (.cells (pL p t i (t.size+1)) 3 (0,0))
theorem re.cell{g:Nat}{p:e9}(h:re w g p t i)(j:Nat)(Y:j<=t.size):w.cell? ⟨g,j,none⟩=some (.int .i64 (dT p t i j)):=by
 rw[ay w g j _ _ _ h];exact N4 p t i _ j (by omega)
theorem re.lt{g:Nat}{p:e9}(h:re w g p t i):g<w.heap.size:=by
 rcases aZ g _ with h'|h'
 ·omega
 ·unfold re at h;simp_all
def sv(t:e9)(g:Nat->Nat)(x:Nat):Value:=.slice (some ⟨g x,0,none⟩) (t.size+1) (t.size+1)
theorem aav{P:Program}(w:ae)(Y:Array _)(t:aj)(x y z:Int):
  (di Y t #[.int .i64 x,.int .i64 y,.int .i64 z]).run P w=.ok (.int .i64 (min (min x y) z)) w:=by
 have e:∀a b:Int,(if b<a then b else a)=min a b:=fun a b=>by omega
 simp[di,Builtin.min2,e]
theorem HJ(a b:UInt8)(w:ae):
  af Tryz.prog 150 #[.int .u8 (a.toNat:Int),.int .u8 (b.toNat:Int)] w fun e w'=>e=.returned (.bool (ag a b))/\w'=w:=by
 by_cases h:a=b
 ·go_wp2
  go_ret
  refine⟨lx ?_,rfl⟩;unfold ag;subst h;simp only[beq_self_eq_true,dc];by_cases Y:a=78
  ·subst Y;rfl
  ·have K:(a != 78)=true:=by simpa using Y
   have H:((a.toNat:Int) != 78)=true:=by
    rw[bne_iff_ne];intro D;apply Y;apply UInt8.toNat.inj;have:((78:UInt8).toNat:Int)=78:=rfl;omega
   rw[K,H]
 ·have R:(a.toNat:Int)≠(b.toNat:Int):=by intro D;exact h (UInt8.toNat.inj (by omega))
  go_wp2
  go_ret
  refine⟨lx ?_,rfl⟩;unfold ag;rw[show(a==b)=false by simpa using h];rfl
def co(a b:UInt8):=if ag a b=true then 0 else 1
theorem Sr(a b:UInt8):co a b<=1:=by unfold co;split<;>omega
theorem PO(a b:UInt8)(w:ae):
  af Tryz.prog 165 #[.int .u8 (a.toNat:Int),.int .u8 (b.toNat:Int)] w fun e w'=>e=.returned (.int .i64 (co a b:Int))/\w'=w:=by
 by_cases h:ag a b=true
 ·have Y:co a b=0:=if_pos h;rw[Y]
  go_enter dX,dZ
  go_wp2_with fail
  refine(HJ a b _).mono ?_;rintro e w' ⟨rfl,rfl⟩;go_wp2
  go_ret
  exact⟨rfl,rfl⟩
 ·have Y:co a b=1:=if_neg h;rw[Y];rw[ar]at h
  go_enter dX,dZ
  go_wp2_with fail
  refine(HJ a b _).mono ?_;rintro e w' ⟨rfl,rfl⟩;go_wp2
  go_ret
  exact⟨rfl,rfl⟩
def pM(g:Nat->Nat)(n j:Nat):=nY ((List.range j).map g) (n-j)
theorem Nc(g:Nat->Nat)(n j:Nat)(h:j<n):(pM g n j)[j]?=some (.int .i64 0):=Gl _ _ _ (by simp) (by omega)
theorem N5(g:Nat->Nat)(n j i:Nat)(h:i<j):(pM g n j)[i]?=some (.int .i64 (g i)):=by
 unfold pM;rw[PK _ _ _ (by simp_all)];simp[nv,cI h]
theorem FW(g:Nat->Nat)(n j:Nat)(h:j<n)(z:Int)(Y:z=(g j)):(pM g n j).setIfInBounds j (.int .i64 z)=pM g n (j+1):=by
 unfold pM;rw[PM _ _ _ (by simp) (by omega) _ _ (by unfold nv;rw[Y]),cJ,bR];congr 1
theorem Xp(g:Nat->Nat)(n:Nat):pM g n 0=nY [] n:=rfl
def l_(w:ae)(G:Nat)(g:Nat->Nat)(n:Nat):=w.heap[G]?=some (.cells (pM g n n) 3 (0,0))
theorem l_.cell(h:l_ w G g n)(j:Nat)(Y:j<n):w.cell? ⟨G,j,none⟩=some (.int .i64 (g j)):=by
 rw[ay w G j _ _ _ h];exact N5 g n n j Y
theorem l_.lt(h:l_ w G g n):G<w.heap.size:=by
 rcases aZ G _ with h'|h'
 ·omega
 ·unfold l_ at h;simp_all
theorem PQ(w:ae)(c:Array _)(T:aj)(d j:Nat)(v:ah):((w.alloc (.cells c T)).drewN d).setCell ⟨w.heap.size,j,none⟩ v=(w.alloc (.cells (c.setIfInBounds j v) T)).drewN d:=by
 have h:(w.alloc (.cells c T)).setCell ⟨w.heap.size,j,none⟩ v=w.alloc (.cells (c.setIfInBounds j v) T):=by simp[eG]
 have Y:((w.alloc (.cells c T)).drewN d).setCell ⟨w.heap.size,j,none⟩ v=((w.alloc _).setCell _ v).drewN d:=rfl;rw[Y,h]
theorem N6(w:ae)(o:Obj)(d:Nat):ak w.heap.size w ((w.alloc o).drewN d):=Go.below_drewN ((aI _ _).alloc (ai _) o) d
theorem OS(n:Nat)(Y:n<=900)(w:ae):
  (aX 25 (.int .i64 (n+1)) (.int .i64 (n+1))).run Tryz.prog w=.ok (.slice (some ⟨w.heap.size,0,none⟩) (n+1) (n+1)) (w.alloc (.cells (nY [] (n+1)) 3)):=by
 have:=OQ (n+1) (by omega) w;simp_all
theorem Fy(n:Nat)(w:ae)(U:n<=300):
  af Tryz.prog 144 #[.int .i64 (n:Int)] w fun e w'=>e=.returned (.slice (some ⟨w.heap.size,0,none⟩) (n+1) (n+1))/\l_ w' w.heap.size id (n+1)/\ak w.heap.size w w':=by
 have R:=OS n (by omega);go_wp2
 go_loopw [10] (fun K w2=>∃(j d:Nat),K=.int .i64 (j:Int)/\j<=n+1/\w2=(w.alloc (.cells (pM id (n+1) j) 3)).drewN d) (fun K _=>n+1-(intOf K).toNat)
 case atStart=>exact⟨0,0,rfl,aB _,rfl⟩
 case round=>
  obtain⟨j,d,rfl,D,rfl⟩:=hrel;by_cases H:j<=n
  ·have I:=Nc id (n+1) j (by omega);go_wp2
   go_roundw
   case rel=>go_light;exact⟨j+1,d,by go_num,by omega,by rw[PQ,FW id (n+1) j (by omega) (j:Int) rfl]⟩
   case measure=>go_light;simp[intOf];omega
  ·have Y:Hid (j=n+1):=laid (by omega);go_wp2
   go_ret
   refine⟨rfl,?_,N6 _ _ _⟩;rw[Y.out];exact aT w _
def mD(g:Nat->Nat)(first:Nat)(b:UInt8)(o:e9)
 |0=>first
 |j+1=>min (min (g j+co b (at8 o j)) (g (j+1)+1)) (mD g first b o j+1)
theorem CQ(g:Nat->Nat)(first:Nat)(b:UInt8)(o:e9):∀j,mD g first b o j<=first+j
 |0=>ai _
 |j+1=>by have:=CQ g first b o j;rw[mD];omega
theorem aaw{wr W:ae}{z:Int}(K:(wr.alloc (.cells (pM g n j) 3)).drewN d=W)(Y:wr.heap.size=H)(D:j<n)(R:z=(g j)):
  (W.setCell ⟨H,j,none⟩ (.int .i64 z)).drew=(wr.alloc (.cells (pM g n (j+1)) 3)).drewN (d+1):=by
 subst K Y;rw[PQ,FW g n j D z R];rfl
theorem FD(g:Nat->Nat)(first:Nat)(b:UInt8)(o:e9)(G:Nat)(w:ae)(ho:o.size<=300)(h:first<=300)(Q:∀j,j<=o.size->g j<=1000)(F:l_ w G g (o.size+1)):
  af Tryz.prog 145 #[.slice (some ⟨G,0,none⟩) (o.size+1) (o.size+1),.int .i64 (first:Int),.int .u8 (b.toNat:Int),.string o] w fun e w'=>
   e=.returned (.slice (some ⟨w.heap.size,0,none⟩) (o.size+1) (o.size+1))/\l_ w' w.heap.size (mD g first b o) (o.size+1)/\ak w.heap.size w w':=by
 have E:=OS o.size (by omega);have O:=F.lt;have J:=laid Q;have L:=laid F;clear Q F;have z:(nY [] (o.size+1))[0]?=some (.int .i64 0):=Gl [] _ 0 rfl (by omega)
 go_enter Tryz.func145,Tryz.ntmps145
 go_wp2
 go_loopw [19] (fun B w2=>∃(j d:Nat),B=.int .i64 (j:Int)/\j<=o.size/\w2=(w.alloc (.cells (pM (mD g first b o) (o.size+1) (j+1)) 3)).drewN d) (fun B _=>o.size-(intOf B).toNat)
 case atStart=>exact⟨0,0,rfl,aB _,by rw[<-Xp (mD g first b o),FW _ _ 0 (by omega) (first:Int) rfl];rfl⟩
 case round=>
  obtain⟨j,d,rfl,T,rfl⟩:=hrel;by_cases U:j<o.size
  ·obtain⟨m,H⟩:∃m,m=j+1:=⟨_,rfl⟩;generalize K:(w.alloc (.cells (pM (mD g first b o) (o.size+1) (j+1)) 3)).drewN d=W;have P:=laid K;have p:W.cell? ⟨G,j,none⟩=some (.int .i64 (g j:Int)):=by
    rw[<-K];show(w.alloc _).cell? _=_;rw[aV _ _ _ O];exact L.out.cell j (by omega)
   have r:W.cell? ⟨G,m,none⟩=some (.int .i64 (g m:Int)):=by
    rw[<-K];show(w.alloc _).cell? _=_;rw[aV _ _ _ O];exact L.out.cell m (by omega)
   have s:W.cell? ⟨w.heap.size,j,none⟩=some (.int .i64 (mD g first b o j:Int)):=by
    rw[<-K];show(w.alloc _).cell? _=_;rw[bH _ _ _ _ rfl];exact N5 _ _ _ j (by omega)
   have k:W.cell? ⟨w.heap.size,m,none⟩=some (.int .i64 0):=by
    rw[<-K,H];show(w.alloc _).cell? _=_;rw[bH _ _ _ _ rfl];exact Nc _ _ _ (by omega)
   have i:W.frozen? ⟨w.heap.size,m,none⟩=false:=by
    rw[<-K];show(w.alloc _).frozen? _=_;rw[eC _ _ _ _ rfl]
   have S:Hid (mD g first b o m=min (min (g j+co b (at8 o j)) (g m+1)) (mD g first b o j+1)):=laid (by rw[H];rfl);have hX:=J.out j (by omega);have n:=J.out m (by omega);have t:mD g first b o j<=700:=by have:=CQ g first b o j;omega
   have y:=Sr b (at8 o j)
   have q:=kZ o j U;have u:(0:Int)<=(j:Int):=bh _;have x:(j:Int)<(o.size:Int)+1:=by omega
   have b4:(j:Int)<(o.size:Int):=by omega
   have b5:(0:Int)<=(m:Int):=bh _;have b6:(m:Int)<(o.size:Int)+1:=by omega
   generalize mD g first b o j=Z at *
   generalize g j=X at *;generalize g m=Y at *;have I:∀W:ae,af Tryz.prog 165 #[.int .u8 (b.toNat:Int),.int .u8 ((at8 o j).toNat:Int)] W fun e w'=>e=.returned (.int .i64 (co b (at8 o j):Int))/\w'=W:=fun W=>PO b (at8 o j) W;generalize co b (at8 o j)=C at *;clear K;have D:G≠w.heap.size:=by omega
   have c:∀v,(W.setCell ⟨w.heap.size,m,none⟩ v).drew.cell? ⟨G,j,none⟩=some (.int .i64 (X:Int)):=fun v=>(aK W ⟨w.heap.size,m,none⟩ ⟨G,j,none⟩ v (by intro e;injection e with R N;exact D R.symm)).trans p;have f:∀v,(W.setCell ⟨w.heap.size,m,none⟩ v).drew.cell? ⟨G,m,none⟩=some (.int .i64 (Y:Int)):=fun v=>(aK W ⟨w.heap.size,m,none⟩ ⟨G,m,none⟩ v (by intro e;injection e with R N;exact D R.symm)).trans r;have l:∀v,(W.setCell ⟨w.heap.size,m,none⟩ v).drew.cell? ⟨w.heap.size,j,none⟩=some (.int .i64 (Z:Int)):=fun v=>(aK W ⟨w.heap.size,m,none⟩ ⟨w.heap.size,j,none⟩ v (by intro e;injection e with R N;omega)).trans s;have x0:au.wrap ((X:Int)+(C:Int))=(X:Int)+(C:Int):=ax _ (by omega);have y1:au.wrap ((Y:Int)+1)=(Y:Int)+1:=ax _ (by omega);have z1:au.wrap ((Z:Int)+1)=(Z:Int)+1:=ax _ (by omega);have a:au.wrap ((j:Int)+1)=(m:Int):=by rw[show(j:Int)+1=(m:Int) by omega];exact ax _ (by omega)
   have M:=laid H;clear H;have V:=@aav Tryz.prog;go_wp2_with fail
   go_region_held3 (fun w'=>w'.cell? ⟨G,j,none⟩=some (.int .i64 (X:Int))/\w'.cell? ⟨G,m,none⟩=some (.int .i64 (Y:Int))/\w'.cell? ⟨w.heap.size,j,none⟩=some (.int .i64 (Z:Int)))
    (first|go_keep|exact⟨c _,f _,l _⟩)
    (first|(go_at_call 165;refine(I _).mono ?_;rintro e w' ⟨rfl,rfl⟩))
   go_wp2
   go_roundw
   case rel=>go_light;have H:=M.out;exact⟨m,d+1,by go_num,by omega,aaw (by have:=P.out;rw[<-H]at this;exact this) rfl (by omega) (by have:=S.out;omega)⟩
   case measure=>go_light;have H:=M.out;simp[intOf];omega
  ·have A:Hid (j=o.size):=laid (by omega);go_wp2
   go_ret
   refine⟨rfl,?_,N6 _ _ _⟩;rw[A.out];exact aT w _
def mh(t p:e9)
 |0=>id
 |i+1=>mD (mh t p i) 0 (at8 t i) p
theorem RI(t p:e9):∀i j,mh t p i j<=j
 |0,j=>ai _
 |i+1,j=>by have:=CQ (mh t p i) 0 (at8 t i) p j;rw[mh];omega
def kR(t p:e9)(k:Nat)
 |0=>[]
 |i+1=>if mh t p (i+1) p.size<=k then kR t p k i++[(i+1,mh t p (i+1) p.size)]else kR t p k i
theorem BU(t p:e9)(k:Nat):∀n,(kR t p k n).length<=n
 |0=>ai _
 |n+1=>by
  have:=BU t p k n;simp[kR];split
  ·simp_all
  ·omega
def k_(t p:e9)(k:Nat):=kR t p k t.size
def jM(L:List (Nat×Nat)):=L.flatMap fun h=>[nv h.1,nv h.2]
theorem aax(L:List _):(jM L).length=L.length *2:=by
 induction L with
 |nil=>rfl
 |cons a L Y=>simp[jM,dG,bQ,aP,List.length_nil]at *;omega
theorem Y5(L:List _)(h:Nat×Nat):jM (L++[h])=jM L++[nv h.1,nv h.2]:=by simp[jM]
theorem ab8:(Tryz.prog.info? 173).map (fun i=>(i.zero,i.size,i.bytes))=some (some (.agg #[.int .i64 0,.int .i64 0]),2,16):=by kernel_rfl
theorem uj{e:aj}{v:ah}{xs:List _}(h:w.ownsRow B e z v n xs)(Y:ak w.heap.size w w'):w'.ownsRow B e z v n xs:=
 h.kept (row:=none) ⟨Y.os,Y.tape,Y.output,Y.size,fun k hk _=>Y.block k hk⟩ (by cases v.ownBlock<;>simp)
theorem xN{e:aj}{v:ah}{xs:List _}{cs:Array _}{fr:Nat×Nat}(D:w.ownsRow B e z v n xs)(C:w.heap[b]?=some (.cells cs T fr))(U:T≠e):v.ownBlock≠some b:=by
 intro Y;rcases D.2 with⟨K,_⟩|⟨g,cap,H,K,_,I,_⟩
 ·rw[K]at Y;cases Y
 ·rw[K]at Y;injection Y with R
  simp_all
theorem WM(t p:e9)(k:Nat)(w:ae)(ht:t.size<=300)(h:p.size<=300)(hk:k<=100):
  af Tryz.prog 139 #[.string t,.string p,.int .i64 (k:Int)] w fun e w'=>∃v,e=.returned v/\w'.ownsRow w.heap.size 173 2 v (k_ t p k).length (jM (k_ t p k))/\ak w.heap.size w w':=by
 have⟨i0,a,z,c,d⟩:=c8 ab8;have O:=Fy p.size w h
 go_enter Tryz.func139,Tryz.ntmps139
 go_wp2_with fail
 refine O.mono ?_;rintro e w1 ⟨rfl,T,Q⟩;clear O;go_wp2
 go_loopw [7,8,16] (fun v lv iv wr=>∃i G:Nat,iv=.int .i64 (i:Int)/\lv=.slice (some ⟨G,0,none⟩) (p.size+1) (p.size+1)/\i<=t.size/\l_ wr G (mh t p i) (p.size+1)/\wr.ownsRow w.heap.size 173 2 v (kR t p k i).length (jM (kR t p k i))/\ak w.heap.size w wr) (fun _ _ iv _=>t.size-(intOf iv).toNat)
 case atStart=>exact⟨0,w.heap.size,rfl,rfl,aB _,T,eE _ _ _ _,Q⟩
 case round=>
  obtain⟨i,G,rfl,rfl,hit,B,A,U⟩:=hrel;clear T Q;have o:=BU t p k i;by_cases q:i<t.size
  ·have hta:=kZ t i q;have P:Hid (∀W:ae,l_ W G (mh t p i) (p.size+1)->af Tryz.prog 145 #[.slice (some ⟨G,0,none⟩) (p.size+1) (p.size+1),.int .i64 0,.int .u8 ((at8 t i).toNat:Int),.string p] W fun e w'=>e=.returned (.slice (some ⟨W.heap.size,0,none⟩) (p.size+1) (p.size+1))/\l_ w' W.heap.size (mh t p (i+1)) (p.size+1)/\ak W.heap.size W w'):=laid fun W b=>FD (mh t p i) 0 (at8 t i) p G W h (by omega) (fun j C=>by have:=RI t p i j;omega) b;have b1:(i:Int)<(t.size:Int):=by omega
   have g:=laid B;clear B;go_wp2_with fail
   refine(P.out _ g.out).mono ?_;rintro e w2 ⟨rfl,F,L⟩;have K:=uj A L;have Y:=U.trans (L.mono U.size);have hc:=F.cell p.size (by omega);have m:=RI t p (i+1) p.size;have N:=laid F;have n:wr.heap.size<w2.heap.size:=F.lt;clear L P g A F;generalize wr.heap.size=H at *;by_cases l:mh t p (i+1) p.size<=k
   ·have E:Hid (kR t p k (i+1)=kR t p k i++[(i+1,mh t p (i+1) p.size)]):=laid (by rw[kR,if_pos l]);generalize J:mh t p (i+1) p.size=DD at *;clear J;go_wp2_with(first
     |(at_builtin;refine cu _ rfl _ _ 193 rfl w.heap.size 173 i0 (.agg #[.int .i64 0,.int .i64 0]) 2 16 Tryz.underlying193 a z c d rfl (by decide) _ _ _ rfl (K.alloc _) ⟨w2.heap.size,0,none⟩ 1 1 [nv (i+1),nv DD] rfl rfl ?c1 ?c2 ?c3 ?c4 ?c5 ?_)
     |go_in)
    case c1=>
     intro j u C
     match j,C with
     |0,C=>simp at C;subst C;simp[Addr.add,go_sem,nv]
     |1,C=>simp at C;subst C;simp[Addr.add,go_sem,nv]
    case c2=>first|exact⟨rfl,rfl⟩|(intro u r;simp at r;rcases r with rfl|rfl<;>rfl)
    case c3=>unfold aH;omega
    case c4=>omega
    case c5=>have:=Y.size;first|omega|(simp;omega)
    intro v' f R D _;have M:ak w.heap.size w f:=(Y.alloc Y.size _).grown D (by have:=Y.size;simp;omega) (fun j C=>(K.lt j C).1);have I:f.ownsRow w.heap.size 173 2 v' (kR t p k (i+1)).length (jM (kR t p k (i+1))):=by
     rw[E.out,bQ,Y5];exact R
    have V:l_ f H (mh t p (i+1)) (p.size+1):=by
     have hk:=N.out;unfold l_ at hk⊢;rw[D.block H (by simp;omega) (fun e=>xN K hk (by decide) e.symm),cg w2 _ n];exact hk
    obtain⟨X,cap,s,rfl⟩:∃X cap s,v'=.slice (some ⟨X,0,none⟩) s cap:=by
     rcases R.2 with⟨_,h0⟩|⟨X,cap,y,hv,_⟩
     ·omega
     ·exact⟨X,cap,_,hv⟩
    have Z:=laid V;clear R D K V;go_wp2
    go_roundw
    case rel=>go_light;exact⟨i+1,H,by go_num,rfl,by omega,Z.out,I,M⟩
    case measure=>go_light;simp[intOf];omega
   ·have E:Hid (kR t p k (i+1)=kR t p k i):=laid (by rw[kR,if_neg l]);have I:w2.ownsRow w.heap.size 173 2 u7 (kR t p k (i+1)).length (jM (kR t p k (i+1))):=by
     rw[E.out];exact K
    generalize J:mh t p (i+1) p.size=DD at *;clear J;go_wp2
    go_roundw
    case rel=>go_light;exact⟨i+1,H,by go_num,rfl,by omega,N.out,I,Y⟩
    case measure=>go_light;simp[intOf];omega
  ·have S:i=t.size:=by omega
   have x:Hid (wr.ownsRow w.heap.size 173 2 u7 (k_ t p k).length (jM (k_ t p k))):=laid (by unfold k_;rw[<-S];exact A);clear S A;go_wp2
   go_ret
   exact⟨u7,rfl,x.out,U⟩
noncomputable def D7:=match bE.body with
 |some (.seq a _)=>a
 |_=>.skip
noncomputable def ts:=match bE.body with
 |some (.seq _ (.seq b _))=>b
 |_=>.skip
theorem Xq(X:e9)(k q st len b:Nat)(w:ae)(hX:X.size<=1000)(hk:k<=6)(C:st<=200)(U:len<=1000)(D:b *st<=X.size)(R:b<=100000):
  af Tryz.prog 77 #[.agg #[.int .i64 (k:Int),.int .i64 (q:Int),.int .i64 (st:Int)],.string X,.int .i64 (len:Int),.int .i64 (b:Int)] w fun e w'=>e=.returned (.string (X.extract (b *st) (min (b *st+st+len+k) X.size)))/\ak w.heap.size w w':=by
 obtain⟨m,Y,H⟩:∃m:Nat,b *st=m/\(b:Int) *(st:Int)=(m:Int):=⟨b *st,rfl,by simp⟩;rw[Y]at D⊢;clear Y;have K:min ((m:Int)+(st:Int)+(len:Int)+(k:Int)) (X.size:Int)=((min (m+st+len+k) X.size:Nat):Int):=by omega
 go_wp2
 go_ret
 exact⟨rfl,(aI _ _).alloc (ai _) _⟩
structure Reads(w:ae)(By Rf Sg:Nat)(k q st:Nat)(X P:e9):Prop where
 c0:w.cell? ⟨By,0,none⟩=some (.int .i64 (k:Int))
 c1:w.cell? ⟨By,1,none⟩=some (.int .i64 (q:Int))
 c2:w.cell? ⟨By,2,none⟩=some (.int .i64 (st:Int))
 x:w.cell? ⟨Rf,0,none⟩=some (.string X)
 p:w.cell? ⟨Sg,0,none⟩=some (.string P)
def pt(b:Nat):Value:=.pointer (some ⟨b,0,none⟩)
def ni(x By Rf Sg Fp:Nat)(v:ah)(u:Nat->ah):Array Value:=
 #[.int .i64 (x:Int),pt By,pt Rf,pt Sg,pt Fp,.tuple #[],v,u 7,u 8,u 9,u 10,u 11,u 12,u 13,u 14,u 15,u 16,u 17,u 18,u 19,u 20,u 21,u 22,u 23,u 24,u 25,u 26,u 27,u 28,u 29,u 30,u 31,u 32,u 33,u 34,u 35,u 36,u 37,u 38]
theorem QP(x By Rf Sg Fp:Nat)(v Z E a9 Y K D R U C F J M N a20 O a22 a23 a24 a25 a26 a27 a28 Q S a31 a32 a33 V a35 a36 a37 X:ah):#[.int .i64 x,pt By,pt Rf,pt Sg,pt Fp,.tuple #[],v,Z,E,a9,Y,K,D,R,U,C,F,J,M,N,a20,O,a22,a23,a24,a25,a26,a27,a28,Q,S,a31,a32,a33,V,a35,a36,a37,X]=ni x By Rf Sg Fp v (fun i=>[Z,E,a9,Y,K,D,R,U,C,F,J,M,N,a20,O,a22,a23,a24,a25,a26,a27,a28,Q,S,a31,a32,a33,V,a35,a36,a37,X].getD (i-7) (.tuple #[])):=rfl
def uA(By k q st x:Nat)(X P Y:e9)(v:ah):Nat->Value:=fun i=>[.tuple #[],.agg #[.int .i64 (k:Int),.int .i64 (q:Int),.int .i64 (st:Int)],.string X,.string P,.int .i64 (P.size:Int),.int .i64 (x:Int),.string Y,.string P,pt By,.int .i64 (k:Int),v].getD (i-7) (.tuple #[])
def jl(X P:e9)(k st x:Nat):=X.extract (x *st) (min (x *st+st+P.size+k) X.size)
theorem af0(x By Rf Sg Fp k q st:Nat)(X P:e9)(w:ae)(J:Reads w By Rf Sg k q st X P)(hX:X.size<=200)(hP:P.size<=30)(hk:k<=6)(Q:st<=200)(S:x *st<=X.size)(U:x<=100000):
  D7.wp Tryz.prog (fun e a w'=>e=.normal/\∃v,a=⟨ni x By Rf Sg Fp v (uA By k q st x X P (jl X P k st x) v),[]⟩/\w'.ownsRow w.heap.size 173 2 v (k_ (jl X P k st x) P k).length (jM (k_ (jl X P k st x) P k))/\ak w.heap.size w w') ⟨ni x By Rf Sg Fp (.tuple #[]) (fun _=>.tuple #[]),[]⟩ w:=by
 obtain⟨c0,c1,c2,A,cp⟩:=J;have H:=laid (fun W=>Xq X k q st P.size x W (by omega) hk Q (by omega) S U);have I:=laid (fun W=>WM (jl X P k st x) P k W (by unfold jl;rw[bu];omega) (by omega) (by omega));have M:By<w.heap.size:=aO c0;have N:Rf<w.heap.size:=aO A;have O:Sg<w.heap.size:=aO cp;rw[show X.extract (x *st) (min (x *st+st+P.size+k) X.size)=jl X P k st x from rfl]at H;generalize k_ (jl X P k st x) P k=L at *;generalize jl X P k st x=V at *;unfold D7 bE ni;dsimp only;simp only[pt]
 go_region_held3 (fun w'=>w'.cell? ⟨By,0,none⟩=some (.int .i64 (k:Int))/\w'.cell? ⟨By,1,none⟩=some (.int .i64 (q:Int))/\w'.cell? ⟨By,2,none⟩=some (.int .i64 (st:Int))/\w'.cell? ⟨Rf,0,none⟩=some (.string X)/\w'.cell? ⟨Sg,0,none⟩=some (.string P))
  (first|go_keep|((try dsimp only);(repeat' apply And.intro);all_goals(first
   |(rw[D.cell (by have:=Y.size;simp at this⊢;omega),Y.cell (by first|omega|(simp;omega))];assumption)
   |(rw[Y.cell (by first|omega|(simp;omega))];assumption))))
  (first
   |(go_at_call 77;refine(H.out _).mono ?_;rintro e w' ⟨rfl,Y⟩)
   |(go_at_call 139;refine(I.out _).mono ?_;rintro e T ⟨v,rfl,K,D⟩))
 refine⟨rfl,v,rfl,?_,?_⟩
 ·rcases K.2 with h'|⟨g,cap,R,B,C,F⟩
  ·exact⟨K.1,.inl h'⟩
  ·exact⟨K.1,.inr ⟨g,cap,R,B,aL Y.size C,F⟩⟩
 ·exact(show ak w.heap.size w w' from⟨Y.os,Y.tape,Y.output,Y.size,Y.block⟩).trans (D.mono Y.size)
def kA(m:Nat)(L:List (Nat×Nat))(j:Nat):=(L.take j).map (fun h=>(h.1+m,h.2))++L.drop j
theorem ab9(L:List _)(i:Nat)(Y:i<L.length):(jM L)[i *2]?=some (nv (L[i]).1):=by
 induction L generalizing i with
 |nil=>simp at Y
 |cons a L K=>
  cases i with
  |zero=>rfl
  |succ i=>
   rw[show(i+1) *2=i *2+1+1 by omega];simp[jM]at *;simpa using K i _
theorem ab_(L:List _)(i:Nat)(z:Nat)(Y:i<L.length):(jM L).set (i *2) (nv z)=jM (L.set i (z,(L[i]).2)):=by
 induction L generalizing i with
 |nil=>simp at Y
 |cons a L K=>
  cases i with
  |zero=>rfl
  |succ i=>
   rw[show(i+1) *2=i *2+1+1 by omega];simp[jM,dG,List.cons_append,List.nil_append,List.set_cons_succ,List.getElem_cons_succ]at *;rw[K i _]
theorem xO(m:Nat)(L:List _)(j:Nat):(kA m L j).length=L.length:=by
 simp[kA];omega
theorem PS(m:Nat)(L:List _)(j:Nat)(Y:j<L.length):(kA m L j)[j]?=some L[j]:=by
 unfold kA;have e:((L.take j).map fun h=>(h.1+m,h.2)).length=j:=by simp;omega
 rw[List.getElem?_append_right (by omega),e,bj,cH Y];rfl
theorem aay(m:Nat)(L:List _)(j:Nat)(Y:j<L.length):(kA m L j).set j ((L[j]).1+m,(L[j]).2)=kA m L (j+1):=by
 unfold kA;have e:((L.take j).map fun h=>(h.1+m,h.2)).length=j:=by simp;omega
 rw[List.set_append_right _ _ (by omega),e,bj,bT Y,bR,bC,cH Y];rfl
theorem af1(x By Rf Sg Fp k q st:Nat)(X P:e9)(L:List (Nat×Nat))(v:ah)(u:Nat->ah)(B:Nat)(w:ae)(hR:Reads w By Rf Sg k q st X P)(f:∀g,v.ownBlock=some g->g≠By)(hL:L.length<=1000)(U:∀h∈L,h.1<=1000)(hx:x *st<=1000)(ga:st<=1000)(hx':x<=100000)
  (Y:w.ownsRow B 173 2 v L.length (jM L)):
  ts.wp Tryz.prog (fun e a w'=>e=.normal/\∃D,a=⟨ni x By Rf Sg Fp v D,[]⟩/\w'.ownsRow B 173 2 v L.length (jM (kA (x *st) L L.length))) ⟨ni x By Rf Sg Fp v u,[]⟩ w:=by
 have F:Hid (∀(t:Array ah) (D:Nat->ah) (w':ae),t=ni x By Rf Sg Fp v D->w'.ownsRow B 173 2 v L.length (jM (kA (x *st) L L.length))->(fun(e:Exit) (a:Act) (w':ae)=>e=.normal/\∃D,a=⟨ni x By Rf Sg Fp v D,[]⟩/\w'.ownsRow B 173 2 v L.length (jM (kA (x *st) L L.length))) .normal ⟨t,[]⟩ w'):=
  laid (fun t D w' e r=>⟨rfl,D,by rw[e],r⟩)
 generalize(fun(e:Exit) (a:Act) (w':ae)=>e=.normal/\∃D,a=⟨ni x By Rf Sg Fp v D,[]⟩/\w'.ownsRow B 173 2 v L.length (jM (kA (x *st) L L.length)))=Q at F⊢;have c2:=hR.c2;clear hR;obtain⟨m,d,j⟩:∃m:Nat,m=x *st/\(x:Int) *(st:Int)=(m:Int):=⟨x *st,rfl,by simp⟩;rw[<-d]at hx F;clear d;have N:=laid U;clear U;rcases Y.2 with⟨c,J⟩|⟨g,cap,o,c,hg,_⟩
 ·have Z:L=[]:=List.length_eq_zero_iff.1 J;subst Z c;have O:=laid Y;clear Y;unfold ts bE;dsimp only;rw[show ni x By Rf Sg Fp (_:ah) u=_ from rfl];simp only[ni,pt];go_wp2
  go_loopw [20] (fun iv w2=>iv=.int .i64 0/\w2=w) (fun _ _=>0)
  case atStart=>exact⟨rfl,rfl⟩
  case round=>
   obtain⟨rfl,rfl⟩:=hrel;go_wp2
   exact F.out _ _ _ (QP x By Rf Sg Fp _ _ _ _ _ _ _ _ _ _ _ _ _ _ _ _ _ _ _ _ _ _ _ _ _ _ _ _ _ _ _ _ _) O.out
 ·subst c;have G:=f g rfl;have O:=laid Y;clear Y f;generalize J:L.length=n at *;have l:=laid J;clear J;unfold ts bE;dsimp only;rw[show ni x By Rf Sg Fp (_:ah) u=_ from rfl];simp only[ni,pt];go_wp2
  go_loopw [20] (fun iv w2=>∃i:Nat,iv=.int .i64 (i:Int)/\i<=n/\w2.ownsRow B 173 2 (.slice (some ⟨g,0,none⟩) n cap) n (jM (kA m L i))/\w2.cell? ⟨By,2,none⟩=some (.int .i64 (st:Int))) (fun iv _=>n-(intOf iv).toNat)
  case atStart=>exact⟨0,rfl,aB _,O.out,c2⟩
  case round=>
   obtain⟨i,rfl,s,Y,R⟩:=hrel;by_cases y:i<n
   ·have K:i<L.length:=by have:=l.out;omega
    have b1:(i:Int)<(n:Int):=by omega
    have b2:(0:Int)<=(i:Int):=bh _;have s1:wr.cell? ⟨By,2,none⟩=some (.int .i64 (st:Int)):=R;have s2:wr.cell? ⟨g,i *2,none⟩=some (.int .i64 ((L[i]).1:Int)):=by
     rw[Y.cellAt (i *2) (by omega)];have h:=ab9 (kA m L i) i (by rw[xO];exact K);rw[h];have A:=PS m L i K;rw[bP (by rw[xO];exact K)]at A;rw[Option.some.inj A];rfl
    have s3:=Y.frozenAt (i *2);have hE:=N.out (L[i]) (dJ K);have x1:au.wrap ((x:Int) *(st:Int))=(m:Int):=by rw[j];exact ax _ (by omega)
    have x2:au.wrap (((L[i]).1:Int)+(m:Int))=((L[i]).1:Int)+(m:Int):=ax _ (by omega);have I:=Y.stored (i *2) (nv ((L[i]).1+m));have T:Hid ((wr.setCell ⟨g,i *2,none⟩ (nv ((L[i]).1+m))).ownsRow B 173 2 (.slice (some ⟨g,0,none⟩) n cap) n (jM (kA m L (i+1)))):=laid (by
     have h:=I.1;have A:=PS m L i K;rw[bP (by rw[xO];exact K)]at A;rw[ab_ _ i _ (by rw[xO];exact K),Option.some.inj A,aay m L i K]at h;exact h)
    have H:Hid (∀z:ah,(wr.setCell ⟨g,i *2,none⟩ z).cell? ⟨By,2,none⟩=some (.int .i64 (st:Int))):=laid fun z=>(aK wr ⟨g,i *2,none⟩ ⟨By,2,none⟩ z (by intro e;injection e with p e2;exact G p)).trans s1;clear I Y R;generalize(L[i]).1=E at *;have C:nv (E+m)=.int .i64 ((E:Int)+(m:Int)):=by simp[nv]
    rw[C]at T;clear C;have V:Hid ((wr.setCell ⟨g,i *2,none⟩ (.int .i64 ((E:Int)+(m:Int)))).drew.ownsRow B 173 2 (.slice (some ⟨g,0,none⟩) n cap) n (jM (kA m L (i+1)))):=T;have M:Hid ((wr.setCell ⟨g,i *2,none⟩ (.int .i64 ((E:Int)+(m:Int)))).drew.cell? ⟨By,2,none⟩=some (.int .i64 (st:Int))):=laid (H.out _);clear T H;go_wp2
    go_region
    generalize(wr.setCell ⟨g,i *2,none⟩ (.int .i64 ((E:Int)+(m:Int)))).drew=b at *;go_wp2
    go_roundw
    case rel=>go_light;exact⟨i+1,by go_num,by omega,V.out,M.out⟩
    case measure=>go_light;simp[intOf];omega
   ·have W:i=n:=by omega
    subst W;have S:=laid Y;clear Y;go_wp2
    exact F.out _ _ _ (QP x By Rf Sg Fp _ _ _ _ _ _ _ _ _ _ _ _ _ _ _ _ _ _ _ _ _ _ _ _ _ _ _ _ _ _ _ _ _) S.out
def RD(w:ae)(b:Nat)(s:e9)(p:Int)(c:Int):=
 w.heap[b]?=some (.cells #[.string s,.int .i64 p,.int .i64 c] 98 (0,0))
theorem RD.c0{p c:Int}(h:RD w b s p c):w.cell? ⟨b,0,none⟩=some (.string s):=by
 rw[ay w b 0 _ _ _ h];rfl
theorem RD.c1{p c:Int}(h:RD w b s p c):w.cell? ⟨b,1,none⟩=some (.int .i64 p):=by
 rw[ay w b 1 _ _ _ h];rfl
theorem RD.c2{p c:Int}(h:RD w b s p c):w.cell? ⟨b,2,none⟩=some (.int .i64 c):=by
 rw[ay w b 2 _ _ _ h];rfl
theorem RD.fz{p c:Int}(h:RD w b s p c)(j:Nat):w.frozen? ⟨b,j,none⟩=false:=aQ w b j _ _ h
def m_(c p:Int):List PanicEntry:=[{v:=.iface 70 (.agg #[.int .i64 c,.int .i64 p]),recovered:=false}]
theorem nM(w:ae)(b:Nat)(s:e9)(p c:Int)(h:RD w b s p c):
  af Tryz.prog 65 #[.pointer (some ⟨b,0,none⟩)] w fun e w'=>e=.returned (.bool (p==(s.size:Int)))/\∃m,w'=w.drewN m:=by
 have Y:=h.c0;have K:=h.c1;go_wp2
 go_quiet(fail)
 go_wp2
 go_ret
 exact⟨rfl,nq,rfl⟩
theorem oL(w:ae)(b:Nat)(s:e9)(p c:Int)(h:RD w b s p c):
  af Tryz.prog 69 #[.pointer (some ⟨b,0,none⟩)] w fun e w'=>e=.panicked (m_ c p)/\∃m,w'=w.drewN m:=by
 have Y:=h.c1;have K:=h.c2;go_wp2
 go_region_dies
 all_goals(try go_wp2)
 all_goals exact⟨rfl,rfl,1,rfl⟩
def hD(f:UInt8->Bool)(l:List _)(m:Nat):=((l.take m).takeWhile f).length
theorem Y6(f:UInt8->Bool)(m:Nat):hD f [] m=0:=by simp[hD]
theorem Nf(f:UInt8->Bool)(l:List _):hD f l 0=0:=by simp[hD]
theorem qQ(f:UInt8->Bool)(x:UInt8)(l:List _)(m:Nat):hD f (x::l) (m+1)=if f x=true then hD f l m+1 else 0:=by
 unfold hD;by_cases h:f x=true<;>simp[h]
theorem nN(f:UInt8->Bool):∀l m,hD f l m<=m/\hD f l m<=l.length
 |[],m=>by rw[Y6];simp
 |x::l,0=>by rw[Nf];simp
 |x::l,m+1=>by
  have:=nN f l m;rw[qQ];split<;>simp<;>omega
theorem vw(f:UInt8->Bool):∀l m k h,k<=hD f l m->k<m->f l[k]=true->k+1<=hD f l m
 |[],m,k,h,_,_,_=>by simp at h
 |x::l,0,k,h,_,K,_=>by omega
 |x::l,m+1,0,h,_,_,Y=>by
  rw[qQ,if_pos (by simp_all)];omega
 |x::l,m+1,k+1,h,hk,K,Y=>by
  rw[qQ]at hk⊢;by_cases H:f x=true
  ·rw[if_pos H]at hk⊢;have:=vw f l m k _ (by omega) (by omega) (by simpa using Y);omega
  ·simp_all
theorem vx(f:UInt8->Bool):∀l m k h,k<=hD f l m->f l[k]=false->hD f l m=k
 |[],m,k,h,_,_=>by simp at h
 |x::l,0,k,h,hk,_=>by rw[Nf]at hk⊢;omega
 |x::l,m+1,0,h,_,Y=>by
  rw[qQ,if_neg (by simp_all)]
 |x::l,m+1,k+1,h,hk,Y=>by
  rw[qQ]at hk⊢;by_cases K:f x=true
  ·rw[if_pos K]at hk⊢;have:=vx f l m k _ (by omega) (by simpa using Y);omega
  ·simp_all
def rest(s:e9)(p:Nat):=s.data.toList.drop p
theorem j6(s:e9)(p:Nat):(rest s p).length=s.size-p:=by simp[rest]
theorem aea(s:e9)(p k:Nat)(h:p+k<s.size):(rest s p)[k]'(by rw[j6];omega)=s[p+k]:=by
 simp[rest,ByteArray.getElem_eq_getElem_data]
theorem RD.put{p c:Int}(h:RD w b s p c)(q:Int):RD (w.setCell ⟨b,1,none⟩ (.int .i64 q)) b s q c:=by
 unfold RD at *;have:=aW w b 1 _ _ (.int .i64 q) h;simp_all
theorem jH(w:ae)(b:Nat)(j:Nat)(v:ah):w.grownBy (w.setCell ⟨b,j,none⟩ v) (some b):=
 ⟨rfl,rfl,rfl,by simp,fun k hk Y=>c7 w _ k v (by simp_all)⟩
theorem zm(w:ae)(r:Option Nat):w.grownBy w r:=⟨rfl,rfl,rfl,ai _,fun _ _ _=>rfl⟩
theorem jA(w:ae)(n:Nat)(r:Option Nat):w.grownBy (w.drewN n) r:=⟨rfl,rfl,rfl,ai _,fun _ _ _=>rfl⟩
theorem gY{a b c:ae}{r:Option Nat}(h:a.grownBy b r)(k:b.grownBy c r):a.grownBy c r:=
 ⟨k.os.trans h.os,k.tape.trans h.tape,k.output.trans h.output,aL h.size k.size,fun j K Y=>(k.block j (aY K h.size) Y).trans (h.block j K Y)⟩
theorem RD.drewN{p c:Int}(h:RD w b s p c)(n:Nat):RD (w.drewN n) b s p c:=h
theorem BJ(x:UInt8)(w:ae):
  af Tryz.prog 71 #[.int .u8 x.toNat] w fun e w'=>e=.returned (.bool (g_ x))/\w'=w:=YZ _ (rS x) (qX x) w
def HU(w:ae)(b:Nat)(s:e9)(p:Nat)(c:Int)(f:UInt8->Bool)(m:Nat)(q:Nat)(wr:ae):Prop:=
 p<=q/\q<=p+hD f (rest s p) m/\RD wr b s (q:Int) c/\w.grownBy wr (some b)
theorem oO(s:e9)(p q:Nat)(Y:p<=q)(h:q<s.size):(rest s p)[q-p]'(by rw[j6];omega)=s[q]:=by
 rw[aea s p _ (by omega)];simp_all
def jW(w:ae)(b:Nat):=(intOf ((w.cell? ⟨b,1,none⟩).getD ao)).toNat
theorem RD.jW{p c:Int}(h:RD w b s p c):jW w b=p.toNat:=by
 unfold Go.Proofs.YtdcjnhipenbcfaaGreatDoor.jW;rw[h.c1];rfl
def xT(w:ae)(b:Nat)(s:e9)(p:Nat)(c:Int)(n:Nat)(least:Int)(e:bN)(w':ae):Prop:=
 (least<=(n:Int)->e=.returned (.string (s.extract p (p+n))))/\((n:Int)<least->e=.panicked (m_ c ((p:Int)+(n:Int))))/\RD w' b s ((p:Int)+(n:Int)) c/\w.grownBy w' (some b)
theorem ss{c:Int}{wr:ae}(R:q=p+n)(U:p<=q)(D:¬(q:Int)-(p:Int)<least)
  (Y:RD wr b s (q:Int) c)(K:w.grownBy wr (some b))(m:Nat):xT w b s p c n least (.returned (.string (s.extract p q))) (wr.drewN m):=by
 subst R;refine⟨fun _=>rfl,fun h=>absurd h (by omega),?_,gY K (jA wr m _)⟩;have:=Y.drewN m
 rwa [show((p+n))=p+n by omega]at this
theorem sr{c:Int}{wr:ae}(R:q=p+n)(U:p<=q)(D:(q:Int)-(p:Int)<least)
  (Y:RD wr b s (q:Int) c)(K:w.grownBy wr (some b))(m:Nat):xT w b s p c n least (.panicked (m_ c q)) (wr.drewN m):=by
 subst R;refine⟨fun h=>absurd h (by omega),fun _=>by simp,?_,gY K (jA wr m _)⟩;have:=Y.drewN m
 rwa [show((p+n))=p+n by omega]at this
theorem FE(w:ae)(b:Nat)(s:e9)(p:Nat)(c:Int)(least most:Int)(h:RD w b s p c)(hs:s.size<=1000)(hp:p<=s.size)(f:0<=most)(Z:most<=1000)(W:0<=least)(V:least<=1000):
  af Tryz.prog 70 #[.pointer (some ⟨b,0,none⟩),.func (.func 71) #[] #[],.int .i64 least,.int .i64 most] w fun e w'=>
   xT w b s p c (hD g_ (rest s p) most.toNat) least e w':=by
 have S:=h.c1
 go_enter cT,cV
 go_wp2
 clear S
 go_loopw [] (fun wr=>∃q:Nat,HU w b s p c g_ most.toNat q wr) (fun wr=>s.size-jW wr b)
 case atStart=>exact⟨p,ai _,by omega,h,zm _ _⟩
 case round=>
  have⟨q,F,G,Y,U⟩:=hrel;have B:=nN g_ (rest s p) most.toNat;rw[j6]at B;have c0:=Y.c0;have c1:=Y.c1;have f1:=Y.fz 1;have E:au.wrap ((q:Int)-(p:Int))=(q:Int)-(p:Int):=ax _ (by omega);by_cases X:(q:Int)-(p:Int)<most
  ·have J:decide ((q:Int)-(p:Int)<most)=true:=by simp;omega
   by_cases I:q<s.size
   ·have N:((q:Int)==(s.size:Int))=false:=by simp;omega
    have T:(q:Int)<(s.size:Int):=by omega
    by_cases D:g_ s[q]=true
    ·go_wp2_with fail
     go_quiet((first|(go_at_call 65;exact aD (nM _ _ _ _ _ (Y.drewN _)))|(go_at_call 71;exact aA (BJ _ _))))
     have M:=vw g_ (rest s p) most.toNat (q-p) (by rw[j6];omega) (by omega) (by omega) (by rw[oO s p q F I];exact D);go_wp2
     have A:=(Y.drewN nq).put ((q:Int)+1);have L:=gY U (gY (jA wr nq (some b)) (jH (wr.drewN nq) b 1 (.int .i64 ((q:Int)+1))))
     go_roundw
     case rel=>go_light;exact⟨q+1,by omega,by omega,A,L⟩
     case measure=>go_light;have P:=Y.jW;have Q:=A.jW;rw[P,Q];omega
    ·rw[ar]at D;have H:Hid (q=p+hD g_ (rest s p) most.toNat):=by
      have:=vx g_ (rest s p) most.toNat (q-p) (by rw[j6];omega) (by omega) (by rw[oO s p q F I];exact D);exact laid (by omega)
     go_wp2_with fail
     go_quiet((first|(go_at_call 65;exact aD (nM _ _ _ _ _ (Y.drewN _)))|(go_at_call 71;exact aA (BJ _ _))))
     have K:=Y.drewN nq;have R:=gY U (jA wr nq (some b));by_cases C:(q:Int)-(p:Int)<least
     ·go_wp2_with(go_at_call 69;refine(oL _ _ _ _ _ K).mono ?_;rintro e w' ⟨rfl,O,rfl⟩)
      exact⟨rfl,sr (least:=least) H.out (by omega) (by omega) Y U _⟩
     ·go_wp2
      go_quiet(fail)
      go_wp2
      go_ret
      exact ss (least:=least) H.out (by omega) (by omega) K R _
   ·have N:((q:Int)==(s.size:Int))=true:=by simp;omega
    have H:Hid (q=p+hD g_ (rest s p) most.toNat):=laid (by omega);go_wp2_with fail
    go_quiet((first|(go_at_call 65;exact aD (nM _ _ _ _ _ (Y.drewN _)))|(go_at_call 71;exact aA (BJ _ _))))
    have K:=Y.drewN nq;have R:=gY U (jA wr nq (some b));by_cases C:(q:Int)-(p:Int)<least
    ·go_wp2_with(go_at_call 69;refine(oL _ _ _ _ _ K).mono ?_;rintro e w' ⟨rfl,O,rfl⟩)
     exact⟨rfl,sr (least:=least) H.out (by omega) (by omega) Y U _⟩
    ·go_wp2
     go_quiet(fail)
     go_wp2
     go_ret
     exact ss (least:=least) H.out (by omega) (by omega) K R _
  ·have J:decide ((q:Int)-(p:Int)<most)=false:=by simp;omega
   have H:Hid (q=p+hD g_ (rest s p) most.toNat):=laid (by omega);go_wp2_with fail
   go_quiet((first|(go_at_call 65;exact aD (nM _ _ _ _ _ (Y.drewN _)))|(go_at_call 71;exact aA (BJ _ _))))
   have K:=Y.drewN nq;have R:=gY U (jA wr nq (some b));by_cases C:(q:Int)-(p:Int)<least
   ·go_wp2_with(go_at_call 69;refine(oL _ _ _ _ _ K).mono ?_;rintro e w' ⟨rfl,O,rfl⟩)
    exact⟨rfl,sr (least:=least) H.out (by omega) (by omega) Y U _⟩
   ·go_wp2
    go_quiet(fail)
    go_wp2
    go_ret
    exact ss (least:=least) H.out (by omega) (by omega) K R _
def yD(n:Int):=decide (65<=n/\n<=90)||decide (97<=n/\n<=122)||decide (48<=n/\n<=57)||decide (n=95)||decide (n=46)
def yE(n:Int):=decide (33<=n/\n<=126)
def jT(b:UInt8):=yD b.toNat
def iQ(b:UInt8):=yE b.toNat
theorem Y7(n:Int)(Y:0<=n)(K:n<=255)(w:ae):
  af Tryz.prog 95 #[.int .u8 n] w fun e w'=>e=.returned (.bool (yD n))/\w'=w:=by
 all_goals
  go_enter Tryz.func95,Tryz.ntmps95
  go_wp2
  all_goals go_ret
  all_goals(go_light;refine⟨lx ?_,rfl⟩;first|(simp_all[yD];done)|(rw[Bool.eq_iff_iff];simp[yD];omega))
theorem Y8(n:Int)(K:0<=n)(D:n<=255)(w:ae):
  af Tryz.prog 116 #[.int .u8 n] w fun e w'=>e=.returned (.bool (yD n))/\w'=w:=by
 by_cases a1:65<=n<;>by_cases a2:n<=90<;>by_cases a3:97<=n<;>by_cases a4:n<=122<;>by_cases a5:48<=n<;>by_cases Y:n<=57<;>first|(exfalso;omega)|skip
 all_goals
  go_enter Tryz.func116,Tryz.ntmps116
  go_wp2
  all_goals go_ret
  all_goals(go_light;exact⟨lx (by simp_all[yD]),rfl⟩)
theorem Y9(n:Int)(Y:0<=n)(K:n<=255)(w:ae):
  af Tryz.prog 120 #[.int .u8 n] w fun e w'=>e=.returned (.bool (yE n))/\w'=w:=by
 by_cases a1:33<=n<;>by_cases a2:n<=126;all_goals
  go_wp2
  all_goals go_ret
  all_goals(exact⟨lx (by simp_all[yE]),rfl⟩)
theorem BK(x:UInt8)(w:ae):
  af Tryz.prog 95 #[.int .u8 x.toNat] w fun e w'=>e=.returned (.bool (jT x))/\w'=w:=Y7 _ (rS x) (qX x) w
theorem BL(x:UInt8)(w:ae):
  af Tryz.prog 116 #[.int .u8 x.toNat] w fun e w'=>e=.returned (.bool (jT x))/\w'=w:=Y8 _ (rS x) (qX x) w
theorem BN(x:UInt8)(w:ae):
  af Tryz.prog 120 #[.int .u8 x.toNat] w fun e w'=>e=.returned (.bool (iQ x))/\w'=w:=Y9 _ (rS x) (qX x) w
def hI(st:Nat×Bool)(f:Nat->Nat×Bool):=if st.2=true then st else f st.1
theorem rP{st:Nat×Bool}(h:st.2=true)(f:Nat->Nat×Bool):hI st f=st:=if_pos h
theorem oP{st:Nat×Bool}(h:st.2=false)(f:Nat->Nat×Bool):hI st f=f st.1:=if_neg (by simp[h])
def gW(s:e9)(c:UInt8)(p:Nat):=if h:p<s.size then(if s[p]=c then(p+1,false)else(p,true))else(p,true)
def jN(s:e9)(f:UInt8->Bool)(least most p:Nat):=(p+hD f (rest s p) most,decide (hD f (rest s p) most<least))
def nA(s:e9)(p:Nat):=hI (jN s jT 1 10 p) (gW s 10)
def iM(s:e9)(most p:Nat):=hI (jN s g_ 1 most p) (gW s 10)
def jC(s:e9)(most p:Nat):=hD g_ (rest s p) most
def yc(s:e9):Nat->Nat->Nat->Nat×Bool
 |0,_,p=>(p,false)
 |fuel+1,n,p=>if s.size<=p then(p,false)else hI (iM s (200-n) p) (yc s fuel (n+jC s (200-n) p))
def je(s:e9):=
 hI (gW s 62 0) fun p=>hI (nA s p) fun p=>hI (iM s 200 p) (yc s (s.size+1) (jC s 200 p))
def lh(s:e9)(p:Nat):=
 hI (gW s 64 p) fun p=>hI (nA s p) fun p=>hI (iM s 30 p) fun p'=>hI (gW s 43 p') fun p'=>hI (gW s 10 p') fun p'=>hI (jN s iQ (jC s 30 p) (jC s 30 p) p') (gW s 10)
def jB(s:e9)
 |0,p=>(p,decide (p<s.size))
 |n+1,p=>if s.size<=p then(p,false)else hI (lh s p) (jB s n)
theorem nO(s:e9)(c:UInt8)(p:Nat)(h:p<=s.size):p<=(gW s c p).1/\(gW s c p).1<=s.size:=by
 unfold gW;split
 ·split<;>simp<;>omega
 ·omega
theorem N7(s:e9)(c:UInt8)(p:Nat)(h:(gW s c p).2=false):(gW s c p).1=p+1/\p<s.size:=by
 unfold gW at *;split at h
 ·split at h
  ·simp_all
  simp_all
 simp_all
theorem vM(s:e9)(f:UInt8->Bool)(least most p:Nat)(h:p<=s.size):p<=(jN s f least most p).1/\(jN s f least most p).1<=s.size:=by
 have:=(nN f (rest s p) most).2;rw[j6]at this;unfold jN;omega
theorem ny{st:Nat×Bool}{f:Nat->Nat×Bool}(h:p<=st.1/\st.1<=s.size)(Y:∀q,q<=s.size->q<=(f q).1/\(f q).1<=s.size):p<=(hI st f).1/\(hI st f).1<=s.size:=by
 unfold hI;split
 ·exact h
 ·have:=Y _ h.2;omega
theorem G7(s:e9)(p:Nat)(h:p<=s.size):p<=(nA s p).1/\(nA s p).1<=s.size:=ny (vM s _ _ _ p h) fun q Y=>nO s _ q Y
theorem rQ(s:e9)(m p:Nat)(h:p<=s.size):p<=(iM s m p).1/\(iM s m p).1<=s.size:=ny (vM s _ _ _ p h) fun q Y=>nO s _ q Y
theorem su{st:Nat×Bool}{f:Nat->Nat×Bool}(h:(hI st f).2=false):st.2=false/\(f st.1).2=false:=by
 unfold hI at h;split at h
 ·simp_all
 ·simp_all
theorem vz(s:e9)(m p:Nat)(h:(iM s m p).2=false):(iM s m p).1=p+jC s m p+1/\1<=jC s m p/\p+jC s m p<s.size:=by
 unfold iM at *;have⟨Y,K⟩:=su h;rw[oP Y];have:=N7 s 10 _ K;unfold jN at this Y⊢;simp at Y this⊢;unfold jC;omega
theorem vN(s:e9)(m p:Nat):jC s m p<=m:=(nN _ _ _).1
def RF(w:ae)(b:Nat)(s:e9)(p:Nat)(bad:Bool):Prop:=
 w.heap[b]?=some (.cells #[.string s,.int .i64 (p:Int),.bool bad] 143 (0,0))
theorem RF.c0{t:Bool}(h:RF w b s p t):w.cell? ⟨b,0,none⟩=some (.string s):=by
 rw[ay w b 0 _ _ _ h];rfl
theorem RF.c1{t:Bool}(h:RF w b s p t):w.cell? ⟨b,1,none⟩=some (.int .i64 (p:Int)):=by
 rw[ay w b 1 _ _ _ h];rfl
theorem RF.c2{t:Bool}(h:RF w b s p t):w.cell? ⟨b,2,none⟩=some (.bool t):=by
 rw[ay w b 2 _ _ _ h];rfl
theorem RF.fz{t:Bool}(h:RF w b s p t)(j:Nat):w.frozen? ⟨b,j,none⟩=false:=aQ w b j _ _ h
theorem RF.put{t:Bool}(h:RF w b s p t):RF (w.setCell ⟨b,1,none⟩ (.int .i64 ((p:Int)+1))) b s (p+1) t:=by
 unfold RF at *;have:=aW w b 1 _ _ (.int .i64 (p+1)) h;rw[this,show((p+1))=p+1 by omega];rfl
theorem RF.qs{t:Bool}(h:RF w b s p t):RF (w.setCell ⟨b,2,none⟩ (.bool true)) b s p true:=by
 unfold RF at *;have:=aW w b 2 _ _ (.bool true) h;rw[this];rfl
theorem RF.drewN{t:Bool}(h:RF w b s p t)(n:Nat):RF (w.drewN n) b s p t:=h
theorem RF.jW{t:Bool}(h:RF w b s p t):jW w b=p:=by
 unfold Go.Proofs.YtdcjnhipenbcfaaGreatDoor.jW;rw[h.c1];simp[intOf]
def oQ(w:ae)(b:Nat)(s:e9)(st:Nat×Bool)(w':ae):Prop:=RF w' b s st.1 st.2/\w.grownBy w' (some b)
theorem sH(w:ae)(b:Nat)(s:e9)(p:Nat)(n:Int)(h:RF w b s p true):
  af Tryz.prog 100 #[.pointer (some ⟨b,0,none⟩),.int .u8 n] w fun e w'=>e=.returned (.tuple #[])/\oQ w b s (p,true) w':=by
 have c0:=h.c0;have c1:=h.c1;have c2:=h.c2;have f2:=h.fz 2
 go_enter bW,bY
 go_wp2_with fail
 go_quiet(fail)
 go_wp2
 first|go_end0|refine bg (cm rfl _ _ _) rfl ?_
 exact⟨rfl,(h.drewN nq).qs,gY (jA w nq (some b)) (jH _ b 2 _)⟩
theorem vD(w:ae)(b:Nat)(s:e9)(p:Nat)(n:Int)(x:UInt8)(U:n=(x.toNat:Int))(Y:RF w b s p false)(F:s.size<=1000)(C:p<=s.size):
  af Tryz.prog 100 #[.pointer (some ⟨b,0,none⟩),.int .u8 n] w fun e w'=>e=.returned (.tuple #[])/\oQ w b s (gW s x p) w':=by
 subst U;have c0:=Y.c0;have c1:=Y.c1;have c2:=Y.c2;have f2:=Y.fz 2;have f1:=Y.fz 1;by_cases K:p<s.size
 ·have D:decide ((s.size:Int)<=(p:Int))=false:=by simp;omega
  have R:(p:Int)<(s.size:Int):=by omega
  by_cases H:s[p]=x
  ·have hd:((s[p].toNat:Int) != (x.toNat:Int))=false:=by rw[H];simp
   have ga:gW s x p=(p+1,false):=by unfold gW;rw[dif_pos K,if_pos H]
   rw[ga];clear ga H
   go_enter bW,bY
   go_wp2_with fail
   go_quiet(fail)
   go_wp2
   first|go_end0|refine bg (cm rfl _ _ _) rfl ?_
   exact⟨rfl,(Y.drewN nq).put,gY (jA w nq (some b)) (jH _ b 1 _)⟩
  ·have hd:((s[p].toNat:Int) != (x.toNat:Int))=true:=by
    rw[bne_iff_ne];intro I;exact H (UInt8.toNat.inj (by omega))
   have ga:gW s x p=(p,true):=by unfold gW;rw[dif_pos K,if_neg H]
   rw[ga];clear ga H
   go_enter bW,bY
   go_wp2_with fail
   go_quiet(fail)
   go_wp2
   first|go_end0|refine bg (cm rfl _ _ _) rfl ?_
   exact⟨rfl,(Y.drewN nq).qs,gY (jA w nq (some b)) (jH _ b 2 _)⟩
 ·have D:decide ((s.size:Int)<=(p:Int))=true:=by simp;omega
  have ga:gW s x p=(p,true):=by unfold gW;rw[dif_neg K]
  rw[ga];clear ga
  go_enter bW,bY
  go_wp2_with fail
  go_quiet(fail)
  go_wp2
  first|go_end0|refine bg (cm rfl _ _ _) rfl ?_
  exact⟨rfl,(Y.drewN nq).qs,gY (jA w nq (some b)) (jH _ b 2 _)⟩
theorem xU(w:ae)(b:Nat)(s:e9)(st:Nat×Bool)(n:Int)(x:UInt8)(Y:n=(x.toNat:Int))(h:RF w b s st.1 st.2)(D:s.size<=1000)(K:st.1<=s.size):
  af Tryz.prog 100 #[.pointer (some ⟨b,0,none⟩),.int .u8 n] w fun e w'=>e=.returned (.tuple #[])/\oQ w b s (hI st (gW s x)) w':=by
 have⟨p,t⟩:=st;cases t with
 |true=>exact sH w b s p n h
 |false=>exact vD w b s p n x Y h D K
def cut(s:e9)(p q:Nat):e9:=str ((rest s p).take (q-p))
theorem xV(s:e9)(p q:Nat)(Y:q<=s.size):(cut s p q).size=q-p:=by
 unfold cut;rw[h_,dK,j6];omega
theorem BO(s:e9)(q:Nat)(h:q<s.size):s.extract q (q+1)=⟨#[s[q]]⟩:=by
 apply ByteArray.ext;apply Array.ext';simp only[cC,cv,dE];rw[drop_cons s q h,show q+1-q=1 by omega];rfl
theorem PU(s:e9)(p q:Nat)(Y:p<=q)(h:q<s.size):cut s p q++s.extract q (q+1)=cut s p (q+1):=by
 rw[BO s q h];unfold cut;rw[tZ,show q+1-p=(q-p)+1 by omega,bT (by rw[j6];omega),oO s p q Y h]
theorem zv(s:e9):s.toList.isEmpty=decide (s.size=0):=by
 rw[cD];have Y:s.data.toList.length=s.size:=by simp
 generalize s.data.toList=l at *;cases l with
 |nil=>simp[<-Y]
 |cons a l=>rw[<-Y];simp
theorem Gm(s:e9)(p q:Nat)(h:q=p):(cut s p q).toList.isEmpty=true:=by
 subst h;rw[zv];unfold cut;rw[bj];rfl
theorem G8(s:e9)(p q:Nat)(h:p<q)(Y:q<=s.size):(cut s p q).toList.isEmpty=false:=by
 rw[zv,xV s p q Y];simp;omega
theorem FX(s:e9)(p q:Nat)(hr:q=p+hD jT (rest s p) 10)(K:q=p):nA s p=(q,true):=by
 have Y:hD jT (rest s p) 10=0:=by omega
 unfold nA;rw[rP (by unfold jN;simp[Y])];unfold jN;rw[Y];simp[K]
theorem FY(s:e9)(p q:Nat)(hr:q=p+hD jT (rest s p) 10)(Y:p<q):nA s p=gW s 10 q:=by
 unfold nA;rw[oP (by unfold jN;simp;omega)];unfold jN;rw[<-hr]
theorem aca(w:ae)(b:Nat)(s:e9)(p:Nat)(h:RF w b s p true):
  af Tryz.prog 101 #[.pointer (some ⟨b,0,none⟩)] w fun e w'=>e=.returned (.string ⟨#[]⟩)/\oQ w b s (p,true) w':=by
 have c2:=h.c2
 go_enter dW,dY
 go_wp2
 go_loopw [3] (fun v wr=>v=.string ⟨#[]⟩/\wr=w) (fun _ _=>0)
 case atStart=>exact⟨rfl,rfl⟩
 case round=>
  obtain⟨rfl,rfl⟩:=hrel;go_wp2_with fail
  go_quiet(fail)
  have f2:=h.fz 2;have Y:=(h.drewN nq).qs;go_wp2_with fail
  refine(sH _ _ s p _ Y).mono ?_;rintro e w1 ⟨rfl,H,K⟩;go_wp2
  go_ret
  exact⟨rfl,H,gY (gY (jA _ nq (some b)) (jH _ b 2 _)) K⟩
def aeb(w:ae)(b:Nat)(s:e9)(p:Nat)(q:Nat)(wr:ae):Prop:=
 p<=q/\q<=p+hD jT (rest s p) 10/\RF wr b s q false/\w.grownBy wr (some b)
theorem aaz(w:ae)(b:Nat)(s:e9)(p:Nat)(h:RF w b s p false)(f:s.size<=1000)(hp:p<=s.size):
  af Tryz.prog 101 #[.pointer (some ⟨b,0,none⟩)] w fun e w'=>e=.returned (.string (cut s p (p+hD jT (rest s p) 10)))/\oQ w b s (nA s p) w':=by
 have T:=nN jT (rest s p) 10;rw[j6]at T
 go_enter dW,dY
 go_wp2
 go_loopw [3] (fun v wr=>∃q:Nat,v=.string (cut s p q)/\aeb w b s p q wr) (fun _ wr=>s.size-jW wr b)
 case atStart=>exact⟨p,by unfold cut;rw[bj];rfl,ai _,by omega,h,zm _ _⟩
 case round=>
  obtain⟨q,rfl,O,r,A,X⟩:=hrel;have c0:=A.c0;have c1:=A.c1;have c2:=A.c2;have f1:=A.fz 1;have f2:=A.fz 2;have N:=xV s p q (by omega);have z:=laid N;have j:(cut s p q).size<=1000:=by omega
  by_cases C:q<s.size
  ·have Z:decide ((q:Int)<(s.size:Int))=true:=by simp;omega
   have d:(q:Int)<(s.size:Int):=by omega
   by_cases l:q-p<10
   ·have E:decide (((cut s p q).size:Int)<10)=true:=by simp;omega
    clear N;by_cases J:jT s[q]=true
    ·have G:=vw jT (rest s p) 10 (q-p) (by rw[j6];omega) (by omega) (by omega) (by rw[oO s p q O C];exact J);go_wp2_with fail
     go_quiet((go_at_call 116;exact aA (BL _ _)))
     have o:au.wrap ((q:Int)+1)=(q:Int)+1:=ax _ (by omega);have g:(q:Int)+1<=(s.size:Int):=by omega
     have Q:=BO s q C;have H:=A.drewN nq;have I:=gY X (jA wr nq (some b));go_wp2_with fail
     go_quiet(fail)
     have M:=(H.drewN nq).put;have S:=gY I (gY (jA _ nq (some b)) (jH _ b 1 (.int .i64 ((q:Int)+1))));rw[az]at M S;have c:Hid (Value.string (cut s p q++⟨#[s[q]]⟩)=Value.string (cut s p (q+1))):=laid (jj (by rw[<-Q];exact PU s p q O C));have W:=laid A.jW;have V:=laid M.jW;clear Q;go_wp2
     go_roundw
     case rel=>go_light;exact⟨q+1,c.out,by omega,by omega,M,S⟩
     case measure=>go_light;rw[W.out,V.out];omega
    ·rw[ar]at J;have K:Hid (q=p+hD jT (rest s p) 10):=by
      have:=vx jT (rest s p) 10 (q-p) (by rw[j6];omega) (by omega) (by rw[oO s p q O C];exact J);exact laid (by omega)
     go_wp2_with fail
     go_quiet((go_at_call 116;exact aA (BL _ _)))
     have H:=A.drewN nq;have I:=gY X (jA wr nq (some b));by_cases Y:q=p
     ·have P:=laid Y;have U:=Gm s p q Y;clear Y;have B:=H.qs;have L:=gY I (jH _ b 2 (.bool true));go_wp2_with fail
      refine(sH _ _ s q _ B).mono ?_;rintro e w1 ⟨rfl,R,D⟩;have F:=laid (FX s p q K.out P.out);go_wp2
      go_ret
      exact⟨lZ (by rw[<-K.out]),by rw[F.out];exact⟨R,gY L D⟩⟩
     ·have U:=G8 s p q (by omega) (by omega);have F:=laid (FY s p q K.out (by omega));clear Y;go_wp2_with fail
      refine(vD _ _ s q _ 10 rfl H f (by omega)).mono ?_;rintro e w1 ⟨rfl,R,D⟩;go_wp2
      go_ret
      exact⟨lZ (by rw[<-K.out]),by rw[F.out];exact⟨R,gY I D⟩⟩
   ·have E:decide (((cut s p q).size:Int)<10)=false:=by simp;omega
    have K:Hid (q=p+hD jT (rest s p) 10):=laid (by omega);clear N;go_wp2_with fail
    go_quiet((go_at_call 116;exact aA (BL _ _)))
    have H:=A.drewN nq;have I:=gY X (jA wr nq (some b));by_cases Y:q=p
    ·have P:=laid Y;have U:=Gm s p q Y;clear Y;have B:=H.qs;have L:=gY I (jH _ b 2 (.bool true));go_wp2_with fail
     refine(sH _ _ s q _ B).mono ?_;rintro e w1 ⟨rfl,R,D⟩;have F:=laid (FX s p q K.out P.out);go_wp2
     go_ret
     exact⟨lZ (by rw[<-K.out]),by rw[F.out];exact⟨R,gY L D⟩⟩
    ·have U:=G8 s p q (by omega) (by omega);have F:=laid (FY s p q K.out (by omega));clear Y;go_wp2_with fail
     refine(vD _ _ s q _ 10 rfl H f (by omega)).mono ?_;rintro e w1 ⟨rfl,R,D⟩;go_wp2
     go_ret
     exact⟨lZ (by rw[<-K.out]),by rw[F.out];exact⟨R,gY I D⟩⟩
  ·have Z:decide ((q:Int)<(s.size:Int))=false:=by simp;omega
   have K:Hid (q=p+hD jT (rest s p) 10):=laid (by omega);clear N;go_wp2_with fail
   go_quiet((go_at_call 116;exact aA (BL _ _)))
   have H:=A.drewN nq;have I:=gY X (jA wr nq (some b));by_cases Y:q=p
   ·have P:=laid Y;have U:=Gm s p q Y;clear Y;have B:=H.qs;have L:=gY I (jH _ b 2 (.bool true));go_wp2_with fail
    refine(sH _ _ s q _ B).mono ?_;rintro e w1 ⟨rfl,R,D⟩;have F:=laid (FX s p q K.out P.out);go_wp2
    go_ret
    exact⟨lZ (by rw[<-K.out]),by rw[F.out];exact⟨R,gY L D⟩⟩
   ·have U:=G8 s p q (by omega) (by omega);have F:=laid (FY s p q K.out (by omega));clear Y;go_wp2_with fail
    refine(vD _ _ s q _ 10 rfl H f (by omega)).mono ?_;rintro e w1 ⟨rfl,R,D⟩;go_wp2
    go_ret
    exact⟨lZ (by rw[<-K.out]),by rw[F.out];exact⟨R,gY I D⟩⟩
def rk(s:e9)(st:Nat×Bool):e9:=if st.2=true then⟨#[]⟩else cut s st.1 (st.1+hD jT (rest s st.1) 10)
theorem PV(w:ae)(b:Nat)(s:e9)(st:Nat×Bool)(h:RF w b s st.1 st.2)(K:s.size<=1000)(Y:st.1<=s.size):
  af Tryz.prog 101 #[.pointer (some ⟨b,0,none⟩)] w fun e w'=>e=.returned (.string (rk s st))/\oQ w b s (hI st (nA s)) w':=by
 have⟨p,t⟩:=st;cases t with
 |true=>exact aca w b s p h
 |false=>exact aaz w b s p h K Y
def mO(s:e9)(p q:Nat):e9:=str (((rest s p).take (q-p)).map gb)
theorem Gn(s:e9)(p q:Nat)(Y:q<=s.size):(mO s p q).size=q-p:=by
 unfold mO;rw[h_,List.length_map,dK,j6];omega
theorem aaA(s:e9)(p q:Nat)(Y:p<=q)(h:q<s.size):mO s p q++⟨#[gb s[q]]⟩=mO s p (q+1):=by
 unfold mO;rw[tZ,show q+1-p=(q-p)+1 by omega,bT (by rw[j6];omega),oO s p q Y h,bR];rfl
theorem FZ(s:e9)(p q:Nat)(h:q=p):(mO s p q).toList.isEmpty=true:=by
 subst h;rw[zv];unfold mO;rw[bj];rfl
theorem Gp(s:e9)(p q:Nat)(h:p<q)(Y:q<=s.size):(mO s p q).toList.isEmpty=false:=by
 rw[zv,Gn s p q Y];simp;omega
theorem F0(s:e9)(m p q:Nat)(hr:q=p+hD g_ (rest s p) m)(K:q=p):iM s m p=(q,true):=by
 have Y:hD g_ (rest s p) m=0:=by omega
 unfold iM;rw[rP (by unfold jN;simp[Y])];unfold jN;rw[Y];simp[K]
theorem F1(s:e9)(m p q:Nat)(hr:q=p+hD g_ (rest s p) m)(Y:p<q):iM s m p=gW s 10 q:=by
 unfold iM;rw[oP (by unfold jN;simp;omega)];unfold jN;rw[<-hr]
def nD(s:e9)(m p:Nat):e9:=mO s p (p+jC s m p)
theorem B8(s:e9)(m p:Nat)(Y:p<=s.size):(nD s m p).size=jC s m p:=by
 have:=(nN g_ (rest s p) m).2;rw[j6]at this;unfold nD jC;rw[Gn _ _ _ (by omega)];omega
theorem acb(w:ae)(b:Nat)(s:e9)(p:Nat)(n:Int)(h:RF w b s p true):
  af Tryz.prog 102 #[.pointer (some ⟨b,0,none⟩),.int .i64 n] w fun e w'=>e=.returned (.string ⟨#[]⟩)/\oQ w b s (p,true) w':=by
 have c2:=h.c2;go_wp2
 go_loopw [5] (fun v wr=>v=.string ⟨#[]⟩/\wr=w) (fun _ _=>0)
 case atStart=>exact⟨rfl,rfl⟩
 case round=>
  obtain⟨rfl,rfl⟩:=hrel;go_wp2_with fail
  go_quiet(fail)
  have f2:=h.fz 2;have Y:=(h.drewN nq).qs;go_wp2_with fail
  refine(sH _ _ s p _ Y).mono ?_;rintro e w1 ⟨rfl,H,K⟩;go_wp2
  go_ret
  exact⟨rfl,H,gY (gY (jA _ nq (some b)) (jH _ b 2 _)) K⟩
def aec(w:ae)(b:Nat)(s:e9)(p:Nat)(m:Nat)(q:Nat)(wr:ae):Prop:=
 p<=q/\q<=p+hD g_ (rest s p) m/\RF wr b s q false/\w.grownBy wr (some b)
theorem OT(w:ae)(b:Nat)(s:e9)(p:Nat)(n:Int)(m:Nat)(hn:n=(m:Int))(hm:m<=1000)(h:RF w b s p false)(f:s.size<=1000)(hp:p<=s.size):
  af Tryz.prog 102 #[.pointer (some ⟨b,0,none⟩),.int .i64 n] w fun e w'=>e=.returned (.string (nD s m p))/\oQ w b s (iM s m p) w':=by
 subst hn;have V:=nN g_ (rest s p) m;rw[j6]at V
 go_enter Tryz.func102,Tryz.ntmps102
 go_wp2
 go_loopw [5] (fun v wr=>∃q:Nat,v=.string (mO s p q)/\aec w b s p m q wr) (fun _ wr=>s.size-jW wr b)
 case atStart=>exact⟨p,by unfold mO;rw[bj];rfl,ai _,by omega,h,zm _ _⟩
 case round=>
  obtain⟨q,rfl,Q,u,I,E⟩:=hrel;have c0:=I.c0;have c1:=I.c1;have c2:=I.c2;have f1:=I.fz 1;have f2:=I.fz 2;have O:=Gn s p q (by omega);have g:=laid O;have d:(mO s p q).size<=1000:=by omega
  by_cases J:q<s.size
  ·have G:decide ((q:Int)<(s.size:Int))=true:=by simp;omega
   have o:(q:Int)<(s.size:Int):=by omega
   by_cases r:q-p<m
   ·have W:decide ((mO s p q).size<m)=true:=by simp;omega
    have X:(mO s p q).size<m:=by omega
    clear O;by_cases B:g_ s[q]=true
    ·have j:=vw g_ (rest s p) m (q-p) (by rw[j6];omega) (by omega) (by omega) (by rw[oO s p q Q J];exact B);go_wp2_with fail
     go_quiet(fail)
     have N:=I.drewN nq;have P:=gY E (jA wr nq (some b));go_wp2_with fail
     go_quiet((go_at_call 103;refine(G5 _ B _).mono ?_;rintro e c ⟨rfl,rfl⟩;exact⟨rfl,_,rfl⟩))
     have l:=laid (jj (aaA s p q Q J));have M:=(N.drewN nq).put;have T:=gY P (gY (jA _ nq (some b)) (jH _ b 1 (.int .i64 ((q:Int)+1))));rw[az]at M T;have z:=laid I.jW;have Z:=laid M.jW;go_wp2
     go_roundw
     case rel=>go_light;exact⟨q+1,l.out,by omega,by omega,M,T⟩
     case measure=>go_light;rw[z.out,Z.out];omega
    ·rw[ar]at B;have K:Hid (q=p+hD g_ (rest s p) m):=by
      have:=vx g_ (rest s p) m (q-p) (by rw[j6];omega) (by omega) (by rw[oO s p q Q J];exact B);exact laid (by omega)
     go_wp2_with fail
     go_quiet(fail)
     have N:=I.drewN nq;have P:=gY E (jA wr nq (some b));go_wp2_with fail
     go_quiet((go_at_call 103;refine(QO _ B _).mono ?_;rintro e c ⟨rfl,rfl⟩;exact⟨rfl,_,rfl⟩))
     have H:=N.drewN nq;have A:=gY P (jA _ nq (some b));rw[az]at H A;by_cases Y:q=p
     ·have S:=laid Y;have U:=FZ s p q Y;clear Y;have C:=H.qs;have L:=gY A (jH _ b 2 (.bool true));go_wp2_with fail
      refine(sH _ _ s q _ C).mono ?_;rintro e w1 ⟨rfl,R,D⟩;have F:=laid (F0 s m p q K.out S.out);go_wp2
      go_ret
      exact⟨lZ (by unfold nD jC;rw[<-K.out]),by rw[F.out];exact⟨R,gY L D⟩⟩
     ·have U:=Gp s p q (by omega) (by omega);have F:=laid (F1 s m p q K.out (by omega));clear Y;go_wp2_with fail
      refine(vD _ _ s q _ 10 rfl H f (by omega)).mono ?_;rintro e w1 ⟨rfl,R,D⟩;go_wp2
      go_ret
      exact⟨lZ (by unfold nD jC;rw[<-K.out]),by rw[F.out];exact⟨R,gY A D⟩⟩
   ·have W:decide ((mO s p q).size<m)=false:=by simp;omega
    have X:¬(mO s p q).size<m:=by omega
    have K:Hid (q=p+hD g_ (rest s p) m):=laid (by omega);clear O;go_wp2_with fail
    go_quiet(fail)
    have H:=I.drewN nq;have A:=gY E (jA wr nq (some b));by_cases Y:q=p
    ·have S:=laid Y;have U:=FZ s p q Y;clear Y;have C:=H.qs;have L:=gY A (jH _ b 2 (.bool true));go_wp2_with fail
     refine(sH _ _ s q _ C).mono ?_;rintro e w1 ⟨rfl,R,D⟩;have F:=laid (F0 s m p q K.out S.out);go_wp2
     go_ret
     exact⟨lZ (by unfold nD jC;rw[<-K.out]),by rw[F.out];exact⟨R,gY L D⟩⟩
    ·have U:=Gp s p q (by omega) (by omega);have F:=laid (F1 s m p q K.out (by omega));clear Y;go_wp2_with fail
     refine(vD _ _ s q _ 10 rfl H f (by omega)).mono ?_;rintro e w1 ⟨rfl,R,D⟩;go_wp2
     go_ret
     exact⟨lZ (by unfold nD jC;rw[<-K.out]),by rw[F.out];exact⟨R,gY A D⟩⟩
  ·have G:decide ((q:Int)<(s.size:Int))=false:=by simp;omega
   have K:Hid (q=p+hD g_ (rest s p) m):=laid (by omega);clear O;go_wp2_with fail
   go_quiet(fail)
   have H:=I.drewN nq;have A:=gY E (jA wr nq (some b));by_cases Y:q=p
   ·have S:=laid Y;have U:=FZ s p q Y;clear Y;have C:=H.qs;have L:=gY A (jH _ b 2 (.bool true));go_wp2_with fail
    refine(sH _ _ s q _ C).mono ?_;rintro e w1 ⟨rfl,R,D⟩;have F:=laid (F0 s m p q K.out S.out);go_wp2
    go_ret
    exact⟨lZ (by unfold nD jC;rw[<-K.out]),by rw[F.out];exact⟨R,gY L D⟩⟩
   ·have U:=Gp s p q (by omega) (by omega);have F:=laid (F1 s m p q K.out (by omega));clear Y;go_wp2_with fail
    refine(vD _ _ s q _ 10 rfl H f (by omega)).mono ?_;rintro e w1 ⟨rfl,R,D⟩;go_wp2
    go_ret
    exact⟨lZ (by unfold nD jC;rw[<-K.out]),by rw[F.out];exact⟨R,gY A D⟩⟩
def uV(s:e9)(m:Nat)(st:Nat×Bool):e9:=if st.2=true then⟨#[]⟩else nD s m st.1
theorem acd(w:ae)(b:Nat)(s:e9)(st:Nat×Bool)(n:Int)(m:Nat)(K:n=(m:Int))(Y:m<=1000)(h:RF w b s st.1 st.2)(R:s.size<=1000)(D:st.1<=s.size):
  af Tryz.prog 102 #[.pointer (some ⟨b,0,none⟩),.int .i64 n] w fun e w'=>e=.returned (.string (uV s m st))/\oQ w b s (hI st (iM s m)) w':=by
 have⟨p,t⟩:=st;cases t with
 |true=>exact acb w b s p n h
 |false=>exact OT w b s p n m K Y h R D
def pa(s:e9)(m p:Nat):=((rest s p).take (jC s m p)).map gb
theorem QQ(s:e9)(m p:Nat):nD s m p=str (pa s m p):=by
 unfold nD mO pa;simp_all
theorem CD(s:e9)(m p:Nat)(Y:p<=s.size):(pa s m p).length=jC s m p:=by
 have h:=B8 s m p Y;rw[QQ,h_]at h;exact h
def nz(s:e9):Nat->List UInt8->Nat×Bool->(Nat×Bool)×List UInt8
 |0,acc,st=>(st,acc)
 |f+1,acc,st=>if st.2=false/\(acc=[]\/st.1<s.size)then nz s f (acc++pa s (200-acc.length) st.1) (iM s (200-acc.length) st.1)else(st,acc)
def iU(s:e9):=nz s (s.size+2) [] (hI (gW s 62 0) (nA s))
def placeOf(R:Nat×Bool):Int:=if R.2=true then(R.1:Int)else-1
def qY(s:e9):=rk s (gW s 62 0)
def XR(w:ae)(x:Nat)(n b m:e9):=w.heap[x]?=some (.cells #[.string n,.string b,.string m] 118 (0,0))
theorem XR.c0{x:Nat}{n b:e9}(h:XR w x n b m):w.cell? ⟨x,0,none⟩=some (.string n):=by rw[ay w x 0 _ _ _ h];rfl
theorem XR.c1{x:Nat}{n b:e9}(h:XR w x n b m):w.cell? ⟨x,1,none⟩=some (.string b):=by rw[ay w x 1 _ _ _ h];rfl
theorem XR.c2{x:Nat}{n b:e9}(h:XR w x n b m):w.cell? ⟨x,2,none⟩=some (.string m):=by rw[ay w x 2 _ _ _ h];rfl
theorem XR.fz{x:Nat}{n b:e9}(h:XR w x n b m)(j:Nat):w.frozen? ⟨x,j,none⟩=false:=aQ w x j _ _ h
theorem XR.yF{x:Nat}{n b:e9}(h:XR w x n b m)(v:e9):XR (w.setCell ⟨x,0,none⟩ (.string v)) x v b m:=by
 unfold XR at *;rw[aW w x 0 _ _ _ h];rfl
theorem XR.yG{x:Nat}{n b:e9}(h:XR w x n b m)(v:e9):XR (w.setCell ⟨x,1,none⟩ (.string v)) x n v m:=by
 unfold XR at *;rw[aW w x 1 _ _ _ h];rfl
theorem XR.Aq{x:Nat}{n b:e9}(h:XR w x n b m)(v:e9):XR (w.setCell ⟨x,2,none⟩ (.string v)) x n b v:=by
 unfold XR at *;rw[aW w x 2 _ _ _ h];rfl
theorem XR.grown{x:Nat}{n b:e9}{r:Nat}(h:XR w x n b m)(Y:w.grownBy w' (some r))(K:x≠r):XR w' x n b m:=by
 have H:=by have:=aO h.c0;omega
 unfold XR at *;rw[Y.block x H (by simp_all)];exact h
theorem XR.set{x:Nat}{n b:e9}(h:XR w x n b m)(v:ah)(Y:x≠a.block):XR (w.setCell a v) x n b m:=by
 unfold XR at *;rw[c7 w a x v Y];exact h
theorem RF.set{t:Bool}(h:RF w b s p t)(v:ah)(Y:b≠a.block):RF (w.setCell a v) b s p t:=by
 unfold RF at *;rw[c7 w a b v Y];exact h
def nU(w:ae)(b n:Nat):Nat:=match w.cell? ⟨b,2,none⟩with
 |some (.bool true)=>0
 |_=>n-jW w b+1
theorem RF.G_(h:RF w b s p true)(n:Nat):nU w b n=0:=by unfold nU;rw[h.c2]
theorem RF.vE(h:RF w b s p false)(n:Nat):nU w b n=n-p+1:=by unfold nU;rw[h.c2,h.jW]
def qk(w:ae)(s:e9)(st:Nat×Bool)(nm bs:e9)(wr:ae):=
 XR wr w.heap.size ⟨#[]⟩ ⟨#[]⟩ ⟨#[]⟩/\RF wr (w.heap.size+1) s st.1 st.2/\XR wr (w.heap.size+1+1) nm bs ⟨#[]⟩/\ak w.heap.size w wr
theorem qk.step{w:ae}{s:e9}{st Y:Nat×Bool}{nm bs:e9}{wr w':ae}(h:qk w s st nm bs wr)(U:oQ wr (w.heap.size+1) s Y w'):qk w s Y nm bs w':=by
 have⟨D,A,R,H⟩:=h;have⟨I,K⟩:=U;exact⟨D.grown K (by omega),I,R.grown K (by omega),H.grown K H.size (by simp)⟩
theorem qk.name{st:Nat×Bool}{bs:e9}{wr:ae}(h:qk w s st nm bs wr)(v:e9):qk w s st v bs (wr.setCell ⟨w.heap.size+1+1,0,none⟩ (.string v)):=by
 have⟨Y,K,H,D⟩:=h;exact⟨Y.set _ (by simp;omega),K.set _ (by simp),H.yF v,D.setCell (by simp;omega) _⟩
theorem qk.gj{st:Nat×Bool}{bs:e9}{wr:ae}(h:qk w s st nm bs wr)(v:e9):qk w s st nm v (wr.setCell ⟨w.heap.size+1+1,1,none⟩ (.string v)):=by
 have⟨Y,K,H,D⟩:=h;exact⟨Y.set _ (by simp;omega),K.set _ (by simp),H.yG v,D.setCell (by simp;omega) _⟩
theorem zw{f:Nat}{acc:List _}{st:Nat×Bool}{R:(Nat×Bool)×List _}(D:0<f)(K:st.2=false)(Y:acc=[]\/st.1<s.size)(h:nz s f acc st=R):
  nz s (f-1) (acc++pa s (200-acc.length) st.1) (iM s (200-acc.length) st.1)=R:=by
 cases f with
 |zero=>omega
 |succ f=>rw[<-h];simp only[nz,Nat.add_sub_cancel];simp_all
theorem tR{f:Nat}{acc:List _}{st:Nat×Bool}{R:(Nat×Bool)×List _}(K:st.2=true\/(acc≠ []/\s.size<=st.1))(h:nz s f acc st=R):R=(st,acc):=by
 cases f with
 |zero=>rw[<-h];rfl
 |succ f=>
  rw[<-h];simp only[nz];rw[if_neg];rintro⟨I,Y⟩;rcases K with K|⟨H,D⟩
  ·simp_all
  ·rcases Y with Y|Y
   ·simp_all
   ·omega
theorem af2(w:ae)(A B C:Obj):(((w.alloc A).alloc B).alloc C).heap[w.heap.size]?=some A/\(((w.alloc A).alloc B).alloc C).heap[w.heap.size+1]?=some B/\(((w.alloc A).alloc B).alloc C).heap[w.heap.size+2]?=some C:=by
 have Y:(w.alloc A).heap.size=w.heap.size+1:=by simp
 have K:((w.alloc A).alloc B).heap.size=w.heap.size+2:=by simp
 refine⟨?_,?_,?_⟩
 ·rw[bq _ _ _ (by omega),bq _ _ _ (by omega)];exact aT w A
 ·rw[bq _ _ _ (by omega),<-Y];exact aT _ B
 ·rw[<-K];exact aT _ C
theorem Xr(w:ae)(s:e9):qk w s (0,false) ⟨#[]⟩ ⟨#[]⟩ (((w.alloc (.cells #[.string ⟨#[]⟩,.string ⟨#[]⟩,.string ⟨#[]⟩] 118)).alloc (.cells #[.string s,.int .i64 0,.bool false] 143)).alloc (.cells #[.string ⟨#[]⟩,.string ⟨#[]⟩,.string ⟨#[]⟩] 118)):=by
 obtain⟨Y,K,H⟩:=af2 w _ _ _;exact⟨Y,K,H,(((aI _ _).alloc (ai _) _).alloc (by simp) _).alloc (by simp;omega) _⟩
theorem qg(l:List _):(str l).toList.isEmpty=decide (l=[]):=by
 rw[zv,h_];simp_all
theorem aaB(s:e9)(m:Nat)(p:Nat)(h:p<=s.size):(iM s m p).1<=s.size:=(rQ s m p h).2
theorem aaC{wr:ae}{st Y:Nat×Bool}(h:RF wr b s Y.1 Y.2)(K:Y.2=false->Y.1=st.1+n+1)(D:Y.2=false->1<=n/\st.1+n<s.size):nU wr b s.size<s.size-st.1+1:=by
 have⟨p',b'⟩:=Y;cases b' with
 |true=>have:=h.G_ s.size;omega
 |false=>
  have H:=h.vE s.size;have R:=K rfl;have I:=D rfl;omega
theorem qO(s:e9)(w:ae)(hs:s.size<=1000):
  af Tryz.prog 80 #[.string s] w fun e w'=>
   e=.returned (.tuple #[.agg #[.string (qY s),.string (str (iU s).2),.string ⟨#[]⟩],.int .i64 (placeOf (iU s).1)])/\ak w.heap.size w w':=by
 generalize u:iU s=R;unfold iU at u;generalize r:qY s=C;unfold qY at r;have HR:=laid u;have HN:=laid r;clear u r;have m0:=Xr w s
 go_enter Tryz.func80,Tryz.ntmps80
 go_wp2_with fail
 refine(xU _ _ s (0,false) _ 62 rfl m0.2.1 hs (by simp)).mono ?_;rintro e w1 ⟨rfl,W⟩;have c:=m0.step W;rw[oP rfl]at c;have Q:=(nO s 62 0 (by omega)).2;clear m0 W;simp only at c;generalize gW s 62 0=F at *;go_wp2_with fail
 refine(PV _ _ s F c.2.1 hs Q).mono ?_;rintro e w2 ⟨rfl,j⟩;rw[HN.out];clear HN;have f:=c.step j;clear c j;have X:(hI F (nA s)).1<=s.size:=(ny (p:=F.1) ⟨ai _,Q⟩ fun q hq=>G7 s q hq).2;generalize hI F (nA s)=D8 at *;have y:=f.2.2.1.c0;have m:=f.2.2.1.fz 0;have T:=f.name C;go_wp2
 clear y m f Q
 go_loopw [] (fun wr=>∃(fuel:Nat) (acc:List UInt8) (st:Nat×Bool),acc.length<=200/\st.1<=s.size/\qk w s st C (str acc) wr/\Hid (nz s fuel acc st=R/\(st.2=false->s.size-st.1<fuel))) (fun wr=>nU wr (w.heap.size+1) s.size)
 case atStart=>exact⟨s.size+2,[],D8,by simp,X,T,laid ⟨HR.out,fun _=>by omega⟩⟩
 case round=>
  clear T X HR;obtain⟨fuel,acc,⟨p,bad⟩,hal,d,K,M⟩:=hrel;simp only at d;have r0:=K.2.1.c0;have r1:=K.2.1.c1;have r2:=K.2.1.c2;have x0:=K.2.2.1.c0;have x1:=K.2.2.1.c1;have x2:=K.2.2.1.c2;have y0:=K.1.c0;have y1:=K.1.c1;have y2:=K.1.c2;have xf:=K.2.2.1.fz 1;have yf0:=K.1.fz 0;have yf1:=K.1.fz 1;have yf2:=K.1.fz 2;have J:=K.2.2.2;have z:=h_ acc;have l:=laid z;have AB:(str acc).size<=200:=by omega
  clear z;simp only at r1 r2;cases bad with
  |true=>
   have H:=tR (.inl rfl) M.out.1;have I:=laid H;clear H;have Y:=((K.1.yF C).yG (str acc)).Aq ⟨#[]⟩;have k:=Y.c0;have i:=Y.c1;have q2:=Y.c2;have O:ak w.heap.size w (((wr.setCell ⟨w.heap.size,0,none⟩ (.string C)).setCell ⟨w.heap.size,1,none⟩ (.string (str acc))).setCell ⟨w.heap.size,2,none⟩ (.string ⟨#[]⟩)):=((J.setCell (ai _) _).setCell (ai _) _).setCell (ai _) _;clear Y;go_wp2
   go_region
   all_goals
    go_wp2
    refine bg (v:=.tuple #[.agg #[.string C,.string (str acc),.string ⟨#[]⟩],.int .i64 (p:Int)]) ?_ rfl ?_
    ·simp[results,ep,go_sem,k,i,q2]
    ·rw[I.out];exact⟨rfl,O.drew⟩
  |false=>
   by_cases D:acc=[]\/p<s.size
   ·have HL:=laid (zw (by have:=M.out.2 rfl;omega) rfl D M.out.1);have g:=laid (M.out.2 rfl);clear M;have n:((str acc).toList.isEmpty=true)\/((str acc).toList.isEmpty=false/\p<s.size):=by
     rw[qg];by_cases x:acc=[]
     ·left;simp[x]
     ·right;exact⟨by simp[x],D.resolve_left x⟩
    clear D;have vi:0<=(200:Int)-((str acc).size:Int):=by omega
    rcases n with L|⟨L,pd⟩
    all_goals
     go_wp2_with fail
     refine(OT _ _ s p _ (200-acc.length) (by rw[l.out];omega) (by omega) K.2.1 hs d).mono ?_;rintro e w3 ⟨rfl,t⟩;have T:=K.step t;have b:=aaB s (200-acc.length) p d;have JL:=vN s (200-acc.length) p;have Z:=CD s (200-acc.length) p d;have hlz:=laid Z;have V:acc.length+(pa s (200-acc.length) p).length<=200:=by omega
     clear Z;rw[QQ];have rB:=T.2.2.1.c1;have hxf:=T.2.2.1.fz 1;have aoQ:(str (pa s (200-acc.length) p)).size<=200:=by rw[h_];omega
     have a:=T.gj (str (acc++pa s (200-acc.length) p));rw[<-kX]at a;have G:=laid (K.2.1.vE s.size);have E:=laid (aaC (st:=(p,false)) a.2.1 (fun N=>(vz s (200-acc.length) p N).1) (fun N=>(vz s (200-acc.length) p N).2));have o:=laid (fun N=>vz s (200-acc.length) p N);have P:Hid (∃(U:Nat) (A:List UInt8) (B:Nat×Bool),A.length<=200/\B.1<=s.size/\qk w s B C (str A) (w3.setCell ⟨w.heap.size+1+1,1,none⟩ (.string (str acc++str (pa s (200-acc.length) p))))/\Hid (nz s U A B=R/\(B.2=false->s.size-B.1<U))):=by
      refine laid ⟨fuel-1,acc++pa s (200-acc.length) p,iM s (200-acc.length) p,by simpa using V,b,by rw[<-kX];exact a,laid ⟨HL.out,fun N=>?_⟩⟩;have:=vz s (200-acc.length) p N;have:=g.out;simp only at *;omega
     clear HL o;generalize pa s (200-acc.length) p=ln at *;go_wp2
     go_roundw
     case rel=>exact P.out
     case measure=>go_light;have h1:=G.out;have h2:=E.out;omega
   ·have S:acc≠ []:=fun h=>D (.inl h);have TY:¬p<s.size:=fun h=>D (.inr h);have H:=tR (.inr ⟨S,by simp only;omega⟩) M.out.1;have I:=laid H;have L:(str acc).toList.isEmpty=false:=by rw[qg];simp[S]
    clear H M D S;have Y:=((K.1.yF C).yG (str acc)).Aq ⟨#[]⟩;have k:=Y.c0;have i:=Y.c1;have q2:=Y.c2;have O:ak w.heap.size w (((wr.setCell ⟨w.heap.size,0,none⟩ (.string C)).setCell ⟨w.heap.size,1,none⟩ (.string (str acc))).setCell ⟨w.heap.size,2,none⟩ (.string ⟨#[]⟩)):=((J.setCell (ai _) _).setCell (ai _) _).setCell (ai _) _;clear Y;go_wp2
    refine bg (v:=.tuple #[.agg #[.string C,.string (str acc),.string ⟨#[]⟩],.int .i64 (-1)]) ?_ rfl ?_
    ·simp[results,ep,go_sem,k,i,q2]
    ·rw[I.out];exact⟨rfl,O⟩
def tt(a b:e9):=a.toList==b.toList
theorem CE(a b:e9):tt a b=true↔a=b:=by
 unfold tt;rw[cD,cD,beq_iff_eq];constructor
 ·intro h;exact ByteArray.ext (Array.ext' h)
 ·simp_all
def qu(r s:e9)
 |0=>0
 |k+1=>qu r s k+(if tt (s.extract k (k+r.size)) r=true then 1 else 0)
theorem Ha(r s:e9):∀k,qu r s k<=k
 |0=>ai _
 |k+1=>by have:=Ha r s k;simp[qu];split<;>omega
def kV(r s:e9):=qu r s (s.size+1-r.size)
theorem B9(r s:e9)(w:ae)(hr:r.size<=1000)(D:s.size<=1000):
  af Tryz.prog 104 #[.string r,.string s] w fun e w'=>e=.returned (.int .i64 (kV r s:Int))/\w'=w:=by
 go_enter Tryz.func104,Tryz.ntmps104
 go_wp2
 go_loop [5,6] (fun n i=>∃k:Nat,k<=s.size+1-r.size/\i=.int .i64 k/\n=.int .i64 (qu r s k:Int)) (fun _ i=>s.size+1-(intOf i).toNat)
 case atStart=>exact⟨0,aB _,rfl,rfl⟩
 case round=>
  obtain⟨k,hk,rfl,rfl⟩:=hrel;have Y:=Ha r s k;by_cases K:k+r.size<=s.size
  ·go_wp2
   ·go_round
    case rel=>go_light;exact⟨k+1,by omega,by go_num,ib (by simp only[qu];rw[if_pos (show tt _ _=true from‹_›)];omega)⟩
    case measure=>go_light;simp[intOf];omega
   ·go_round
    case rel=>go_light;exact⟨k+1,by omega,by go_num,ib (by simp only[qu];rw[if_neg (by rw[ar];exact(show tt _ _=false from‹_›))];omega)⟩
    case measure=>go_light;simp[intOf];omega
  ·go_wp2
   go_ret
   exact⟨qW (by unfold kV;rw[show s.size+1-r.size=k by omega]),rfl⟩
def yH(p s:e9)(q i:Nat):=
 if 0<kV (p.extract i (i+q)) (p.extract 0 (i+q-1))\/0<kV ⟨#[78]⟩ (p.extract i (i+q))then 0 else min (kV (p.extract i (i+q)) p) (kV (p.extract i (i+q)) s)
def pP(p s:e9)(q:Nat)
 |0=>0
 |k+1=>pP p s q k+yH p s q k
def mB(p s:e9)(q:Nat):=pP p s q (p.size+1-q)
theorem zK(r s:e9):kV r s<=s.size+1:=by
 have:=Ha r s (s.size+1-r.size);unfold kV;omega
theorem aed(p s:e9)(q i:Nat):yH p s q i<=s.size+1:=by
 unfold yH;split
 ·omega
 ·have:=zK (p.extract i (i+q)) s;omega
theorem PW(p s:e9)(q:Nat):∀k,pP p s q k<=k *(s.size+1)
 |0=>by simp[pP]
 |k+1=>by
  have:=PW p s q k;have:=aed p s q k;simp[pP];rw[Nat.succ_mul];omega
theorem Ng(p s:e9)(q k:Nat)(hk:k<=1000)(Y:s.size<=1000):pP p s q k<=1001000:=by
 have h:=PW p s q k;have:k *(s.size+1)<=1000 *1001:=Nat.mul_le_mul hk (by omega);omega
theorem N8(p s:e9)(q:Nat)(w:ae)(Z:p.size<=1000)(M:s.size<=1000)(f:1<=q)(E:q<=1000):
  af Tryz.prog 85 #[.string p,.string s,.int .i64 (q:Int)] w fun e w'=>e=.returned (.int .i64 (mB p s q:Int))/\w'=w:=by
 go_enter Tryz.func85,Tryz.ntmps85
 go_wp2
 go_loop [7,8] (fun n i=>∃k:Nat,k<=p.size+1-q/\i=.int .i64 k/\n=.int .i64 (pP p s q k:Int)) (fun _ i=>p.size+1-(intOf i).toNat)
 case atStart=>exact⟨0,aB _,rfl,rfl⟩
 case round=>
  obtain⟨k,hk,rfl,rfl⟩:=hrel;have V:=Ng p s q k (by omega) M;by_cases X:k+q<=p.size
  ·have H:(p.extract k (k+q)).size<=1000:=by rw[bu];omega
   have I:(p.extract 0 (k+q-1)).size<=1000:=by rw[bu];omega
   have R:Hid (yH p s q k=if 0<kV (p.extract k (k+q)) (p.extract 0 (k+q-1))\/0<kV ⟨#[78]⟩ (p.extract k (k+q))then 0 else min (kV (p.extract k (k+q)) p) (kV (p.extract k (k+q)) s)):=laid rfl;have j:=zK (p.extract k (k+q)) (p.extract 0 (k+q-1));have z:=zK ⟨#[78]⟩ (p.extract k (k+q));have c:=zK (p.extract k (k+q)) p;have d:=zK (p.extract k (k+q)) s;have U:=fun W=>B9 (p.extract k (k+q)) (p.extract 0 (k+q-1)) W H I;have F:=fun W=>B9 ⟨#[78]⟩ (p.extract k (k+q)) W (by decide) H;have J:=fun W=>B9 (p.extract k (k+q)) p W H Z;have L:=fun W=>B9 (p.extract k (k+q)) s W H M;have N:=laid U;have O:=laid F;have P:=laid J;have Q:=laid L;clear U F J L;generalize kV (p.extract k (k+q)) (p.extract 0 (k+q-1))=A at *;generalize kV ⟨#[78]⟩ (p.extract k (k+q))=B at *;generalize kV (p.extract k (k+q)) p=C at *;generalize kV (p.extract k (k+q)) s=D at *;have Y:p.size+1-(intOf (.int .i64 ((k:Int)+1))).toNat<p.size+1-(intOf (.int .i64 (k:Int))).toNat:=by simp[intOf];omega
   have K:=laid Y;clear Y;go_wp2_with fail
   refine(N.out _).mono ?_;rintro e w' ⟨rfl,rfl⟩;by_cases S:0<A
   ·go_wp2
    go_round
    case rel=>go_light;exact⟨k+1,by omega,by go_num,ib (by simp only[pP];rw[R.out,if_pos (.inl S)];omega)⟩
    case measure=>go_light;exact K.out
   ·go_wp2_with fail
    refine(O.out _).mono ?_;rintro e w' ⟨rfl,rfl⟩;by_cases T:0<B
    ·go_wp2
     go_round
     case rel=>go_light;exact⟨k+1,by omega,by go_num,ib (by simp only[pP];rw[R.out,if_pos (.inr T)];omega)⟩
     case measure=>go_light;exact K.out
    ·go_wp2_with fail
     refine(P.out _).mono ?_;rintro e w' ⟨rfl,rfl⟩;go_wp2_with fail
     refine(Q.out _).mono ?_;rintro e w' ⟨rfl,rfl⟩;by_cases G:D<C
     ·go_wp2
      go_round
      case rel=>go_light;exact⟨k+1,by omega,by go_num,ib (by simp only[pP];rw[R.out,if_neg (by omega)];omega)⟩
      case measure=>go_light;exact K.out
     ·go_wp2
      go_round
      case rel=>go_light;exact⟨k+1,by omega,by go_num,ib (by simp only[pP];rw[R.out,if_neg (by omega)];omega)⟩
      case measure=>go_light;exact K.out
  ·go_wp2
   go_ret
   exact⟨qW (by unfold mB;rw[show p.size+1-q=k by omega]),rfl⟩
def dg(d:Nat):=b_ (48+d)
def uy
 |0,n=>[dg n]
 |f+1,n=>if n<=9 then [dg n]else uy f (n/10)++[dg (n%10)]
def gL(n:Nat):=uy n n
theorem F2:∀f n,n<=f->uy f n=uy n n
 |0,n,h=>by simp_all
 |f+1,n,h=>by
  cases n with
  |zero=>simp[uy]
  |succ n=>
   simp[uy];split
   ·rfl
   ·rw[F2 f _ (by omega),F2 n _ (by omega)]
theorem vA(n:Nat)(h:n<=9):gL n=[dg n]:=by
 unfold gL;cases n with
 |zero=>rfl
 |succ n=>simp only[uy];simp_all
theorem xW(n:Nat)(h:¬n<=9):gL n=gL (n/10)++[dg (n%10)]:=by
 unfold gL;cases n with
 |zero=>omega
 |succ n=>simp only[uy];rw[if_neg h,F2 n _ (by omega)]
theorem PX(d:Nat)(h:d<=9):(⟨#[48,49,50,51,52,53,54,55,56,57]⟩:e9).extract d (d+1)=⟨#[dg d]⟩:=by
 have:d=0\/d=1\/d=2\/d=3\/d=4\/d=5\/d=6\/d=7\/d=8\/d=9:=by omega
 rcases this with rfl|rfl|rfl|rfl|rfl|rfl|rfl|rfl|rfl|rfl<;>decide
theorem rR(b:UInt8)(l:List _):(⟨#[b]⟩)++str l=str (b::l):=kX [b] l
theorem qd(n:Nat)(w:ae)(U:n<=1000000):
  af Tryz.prog 86 #[.int .i64 (n:Int)] w fun e w'=>e=.returned (.string (str (gL n)))/\w'=w:=by
 go_enter Tryz.func86,Tryz.ntmps86
 go_wp2
 go_loop [0,3] (fun i s=>∃(m:Nat) (l:List UInt8),i=.int .i64 m/\s=.string (str l)/\m<=n/\l.length<=n-m/\Hid (gL m++l=gL n)) (fun i _=>(intOf i).toNat)
 case atStart=>exact⟨n,[],rfl,rfl,ai _,by simp,laid (by simp)⟩
 case round=>
  obtain⟨m,l,rfl,rfl,A,I,H⟩:=hrel;have B:(str l).size<=1000000:=by rw[h_];omega
  by_cases Y:m<=9
  ·have R:=PX m Y;have D:=laid (show str (gL n)=str (dg m::l) by rw[<-H.out,vA m Y];rfl);have K:=laid (rR (dg m) l);go_wp2
   go_ret
   exact⟨lZ (by rw[D.out];exact K.out),rfl⟩
  ·have hd:m%10<=9:=by omega
   have R:=PX (m%10) hd;have D:=laid (show gL (m/10)++(dg (m%10)::l)=gL n by rw[<-H.out,xW m Y,bC];rfl);have K:=laid (rR (dg (m%10)) l);go_wp2
   go_round
   case rel=>go_light;exact⟨m/10,dg (m%10)::l,ib (by omega),jj K.out,by omega,by simp;omega,D⟩
   case measure=>go_light;simp[intOf];omega
def kS(k many q step:Int):=decide (0<=k/\k<=6/\k<many/\1<=q/\q<=8/\1<=step/\step<=200)
theorem B_(k many q step:Int)(w:ae):
  af Tryz.prog 84 #[.int .i64 k,.int .i64 many,.int .i64 q,.int .i64 step] w fun e w'=>e=.returned (.bool (kS k many q step))/\w'=w:=by
 by_cases Y:0<=k
 ·by_cases K:k<=6
  ·by_cases H:k<many
   ·by_cases D:1<=q
    ·by_cases R:q<=8
     ·by_cases I:1<=step
      ·by_cases A:step<=200;all_goals
        go_enter a_,bc
        go_wp2
        go_ret
        exact⟨lx (by unfold kS;first|(rw[decide_eq_true (by omega)];done)|(rw[decide_eq_false (by omega)];done)),rfl⟩
      ·go_enter a_,bc
       go_wp2
       go_ret
       exact⟨lx (by unfold kS;rw[decide_eq_false (by omega)]),rfl⟩
     ·go_enter a_,bc
      go_wp2
      go_ret
      exact⟨lx (by unfold kS;rw[decide_eq_false (by omega)]),rfl⟩
    ·go_enter a_,bc
     go_wp2
     go_ret
     exact⟨lx (by unfold kS;rw[decide_eq_false (by omega)]),rfl⟩
   ·go_enter a_,bc
    go_wp2
    go_ret
    exact⟨lx (by unfold kS;rw[decide_eq_false (by omega)]),rfl⟩
  ·go_enter a_,bc
   go_wp2
   go_ret
   exact⟨lx (by unfold kS;rw[decide_eq_false (by omega)]),rfl⟩
 ·go_enter a_,bc
  go_wp2
  go_ret
  exact⟨lx (by unfold kS;rw[decide_eq_false (by omega)]),rfl⟩
theorem Xs(w:ae)(b:Nat)(s:e9)(p:Nat)(c:Int)(least most:Int)(h:RD w b s p c)(hs:s.size<=1000)(hp:p<=s.size)(f:0<=most)(Z:most<=1000)(W:0<=least)(V:least<=1000):
  af Tryz.prog 70 #[.pointer (some ⟨b,0,none⟩),.func (.func 95) #[] #[],.int .i64 least,.int .i64 most] w fun e w'=>
   xT w b s p c (hD jT (rest s p) most.toNat) least e w':=by
 have S:=h.c1
 go_enter cT,cV
 go_wp2
 clear S
 go_loopw [] (fun wr=>∃q:Nat,HU w b s p c jT most.toNat q wr) (fun wr=>s.size-jW wr b)
 case atStart=>exact⟨p,ai _,by omega,h,zm _ _⟩
 case round=>
  have⟨q,F,G,Y,U⟩:=hrel;have B:=nN jT (rest s p) most.toNat;rw[j6]at B;have c0:=Y.c0;have c1:=Y.c1;have f1:=Y.fz 1;have E:au.wrap ((q:Int)-(p:Int))=(q:Int)-(p:Int):=ax _ (by omega);by_cases X:(q:Int)-(p:Int)<most
  ·have J:decide ((q:Int)-(p:Int)<most)=true:=by simp;omega
   by_cases I:q<s.size
   ·have N:((q:Int)==(s.size:Int))=false:=by simp;omega
    have T:(q:Int)<(s.size:Int):=by omega
    by_cases D:jT s[q]=true
    ·go_wp2_with fail
     go_quiet((first|(go_at_call 65;exact aD (nM _ _ _ _ _ (Y.drewN _)))|(go_at_call 95;exact aA (BK _ _))))
     have M:=vw jT (rest s p) most.toNat (q-p) (by rw[j6];omega) (by omega) (by omega) (by rw[oO s p q F I];exact D);go_wp2
     have A:=(Y.drewN nq).put ((q:Int)+1);have L:=gY U (gY (jA wr nq (some b)) (jH (wr.drewN nq) b 1 (.int .i64 ((q:Int)+1))))
     go_roundw
     case rel=>go_light;exact⟨q+1,by omega,by omega,A,L⟩
     case measure=>go_light;have P:=Y.jW;have Q:=A.jW;rw[P,Q];omega
    ·rw[ar]at D;have H:Hid (q=p+hD jT (rest s p) most.toNat):=by
      have:=vx jT (rest s p) most.toNat (q-p) (by rw[j6];omega) (by omega) (by rw[oO s p q F I];exact D);exact laid (by omega)
     go_wp2_with fail
     go_quiet((first|(go_at_call 65;exact aD (nM _ _ _ _ _ (Y.drewN _)))|(go_at_call 95;exact aA (BK _ _))))
     have K:=Y.drewN nq;have R:=gY U (jA wr nq (some b));by_cases C:(q:Int)-(p:Int)<least
     ·go_wp2_with(go_at_call 69;refine(oL _ _ _ _ _ K).mono ?_;rintro e w' ⟨rfl,O,rfl⟩)
      exact⟨rfl,sr (least:=least) H.out (by omega) (by omega) Y U _⟩
     ·go_wp2
      go_quiet(fail)
      go_wp2
      go_ret
      exact ss (least:=least) H.out (by omega) (by omega) K R _
   ·have N:((q:Int)==(s.size:Int))=true:=by simp;omega
    have H:Hid (q=p+hD jT (rest s p) most.toNat):=laid (by omega);go_wp2_with fail
    go_quiet((first|(go_at_call 65;exact aD (nM _ _ _ _ _ (Y.drewN _)))|(go_at_call 95;exact aA (BK _ _))))
    have K:=Y.drewN nq;have R:=gY U (jA wr nq (some b));by_cases C:(q:Int)-(p:Int)<least
    ·go_wp2_with(go_at_call 69;refine(oL _ _ _ _ _ K).mono ?_;rintro e w' ⟨rfl,O,rfl⟩)
     exact⟨rfl,sr (least:=least) H.out (by omega) (by omega) Y U _⟩
    ·go_wp2
     go_quiet(fail)
     go_wp2
     go_ret
     exact ss (least:=least) H.out (by omega) (by omega) K R _
  ·have J:decide ((q:Int)-(p:Int)<most)=false:=by simp;omega
   have H:Hid (q=p+hD jT (rest s p) most.toNat):=laid (by omega);go_wp2_with fail
   go_quiet((first|(go_at_call 65;exact aD (nM _ _ _ _ _ (Y.drewN _)))|(go_at_call 95;exact aA (BK _ _))))
   have K:=Y.drewN nq;have R:=gY U (jA wr nq (some b));by_cases C:(q:Int)-(p:Int)<least
   ·go_wp2_with(go_at_call 69;refine(oL _ _ _ _ _ K).mono ?_;rintro e w' ⟨rfl,O,rfl⟩)
    exact⟨rfl,sr (least:=least) H.out (by omega) (by omega) Y U _⟩
   ·go_wp2
    go_quiet(fail)
    go_wp2
    go_ret
    exact ss (least:=least) H.out (by omega) (by omega) K R _
theorem Xt(w:ae)(b:Nat)(s:e9)(p:Nat)(c:Int)(least most:Int)(h:RD w b s p c)(hs:s.size<=1000)(hp:p<=s.size)(f:0<=most)(Z:most<=1000)(W:0<=least)(V:least<=1000):
  af Tryz.prog 70 #[.pointer (some ⟨b,0,none⟩),.func (.func 120) #[] #[],.int .i64 least,.int .i64 most] w fun e w'=>
   xT w b s p c (hD iQ (rest s p) most.toNat) least e w':=by
 have S:=h.c1
 go_enter cT,cV
 go_wp2
 clear S
 go_loopw [] (fun wr=>∃q:Nat,HU w b s p c iQ most.toNat q wr) (fun wr=>s.size-jW wr b)
 case atStart=>exact⟨p,ai _,by omega,h,zm _ _⟩
 case round=>
  have⟨q,F,G,Y,U⟩:=hrel;have B:=nN iQ (rest s p) most.toNat;rw[j6]at B;have c0:=Y.c0;have c1:=Y.c1;have f1:=Y.fz 1;have E:au.wrap ((q:Int)-(p:Int))=(q:Int)-(p:Int):=ax _ (by omega);by_cases X:(q:Int)-(p:Int)<most
  ·have J:decide ((q:Int)-(p:Int)<most)=true:=by simp;omega
   by_cases I:q<s.size
   ·have N:((q:Int)==(s.size:Int))=false:=by simp;omega
    have T:(q:Int)<(s.size:Int):=by omega
    by_cases D:iQ s[q]=true
    ·go_wp2_with fail
     go_quiet((first|(go_at_call 65;exact aD (nM _ _ _ _ _ (Y.drewN _)))|(go_at_call 120;exact aA (BN _ _))))
     have M:=vw iQ (rest s p) most.toNat (q-p) (by rw[j6];omega) (by omega) (by omega) (by rw[oO s p q F I];exact D);go_wp2
     have A:=(Y.drewN nq).put ((q:Int)+1);have L:=gY U (gY (jA wr nq (some b)) (jH (wr.drewN nq) b 1 (.int .i64 ((q:Int)+1))))
     go_roundw
     case rel=>go_light;exact⟨q+1,by omega,by omega,A,L⟩
     case measure=>go_light;have P:=Y.jW;have Q:=A.jW;rw[P,Q];omega
    ·rw[ar]at D;have H:Hid (q=p+hD iQ (rest s p) most.toNat):=by
      have:=vx iQ (rest s p) most.toNat (q-p) (by rw[j6];omega) (by omega) (by rw[oO s p q F I];exact D);exact laid (by omega)
     go_wp2_with fail
     go_quiet((first|(go_at_call 65;exact aD (nM _ _ _ _ _ (Y.drewN _)))|(go_at_call 120;exact aA (BN _ _))))
     have K:=Y.drewN nq;have R:=gY U (jA wr nq (some b));by_cases C:(q:Int)-(p:Int)<least
     ·go_wp2_with(go_at_call 69;refine(oL _ _ _ _ _ K).mono ?_;rintro e w' ⟨rfl,O,rfl⟩)
      exact⟨rfl,sr (least:=least) H.out (by omega) (by omega) Y U _⟩
     ·go_wp2
      go_quiet(fail)
      go_wp2
      go_ret
      exact ss (least:=least) H.out (by omega) (by omega) K R _
   ·have N:((q:Int)==(s.size:Int))=true:=by simp;omega
    have H:Hid (q=p+hD iQ (rest s p) most.toNat):=laid (by omega);go_wp2_with fail
    go_quiet((first|(go_at_call 65;exact aD (nM _ _ _ _ _ (Y.drewN _)))|(go_at_call 120;exact aA (BN _ _))))
    have K:=Y.drewN nq;have R:=gY U (jA wr nq (some b));by_cases C:(q:Int)-(p:Int)<least
    ·go_wp2_with(go_at_call 69;refine(oL _ _ _ _ _ K).mono ?_;rintro e w' ⟨rfl,O,rfl⟩)
     exact⟨rfl,sr (least:=least) H.out (by omega) (by omega) Y U _⟩
    ·go_wp2
     go_quiet(fail)
     go_wp2
     go_ret
     exact ss (least:=least) H.out (by omega) (by omega) K R _
  ·have J:decide ((q:Int)-(p:Int)<most)=false:=by simp;omega
   have H:Hid (q=p+hD iQ (rest s p) most.toNat):=laid (by omega);go_wp2_with fail
   go_quiet((first|(go_at_call 65;exact aD (nM _ _ _ _ _ (Y.drewN _)))|(go_at_call 120;exact aA (BN _ _))))
   have K:=Y.drewN nq;have R:=gY U (jA wr nq (some b));by_cases C:(q:Int)-(p:Int)<least
   ·go_wp2_with(go_at_call 69;refine(oL _ _ _ _ _ K).mono ?_;rintro e w' ⟨rfl,O,rfl⟩)
    exact⟨rfl,sr (least:=least) H.out (by omega) (by omega) Y U _⟩
   ·go_wp2
    go_quiet(fail)
    go_wp2
    go_ret
    exact ss (least:=least) H.out (by omega) (by omega) K R _
def pE(w:ae)(b:Nat)(s:e9)(c:Int)(st:Nat×Bool)(v:ah)(e:bN)(w':ae):Prop:=
 (st.2=false->e=.returned v)/\(st.2=true->e=.panicked (m_ c (st.1:Int)))/\RD w' b s (st.1:Int) c/\w.grownBy w' (some b)
theorem Gq(w:ae)(b:Nat)(s:e9)(p:Nat)(c:Int)(h:RD w b s p c)(Y:s.size=p):
  af Tryz.prog 65 #[.pointer (some ⟨b,0,none⟩)] w fun e w'=>e=.returned (.bool true)/\∃m,w'=w.drewN m:=by
 have:=nM w b s p c h;simp_all
theorem Cn(w:ae)(b:Nat)(s:e9)(p:Nat)(c:Int)(h:RD w b s p c)(Y:p<s.size):
  af Tryz.prog 65 #[.pointer (some ⟨b,0,none⟩)] w fun e w'=>e=.returned (.bool false)/\∃m,w'=w.drewN m:=by
 have:=nM w b s p c h
 rwa [show(p==(s.size:Int))=false by simp;omega]at this
theorem Y_(w:ae)(b:Nat)(s:e9)(p:Nat)(c:Int)(x:UInt8)(h:RD w b s p c)(C:s.size<=1000)(U:p<=s.size):
  af Tryz.prog 94 #[.pointer (some ⟨b,0,none⟩),.int .u8 (x.toNat:Int)] w fun e w'=>pE w b s c (gW s x p) (.tuple #[]) e w':=by
 have c0:=h.c0;have c1:=h.c1;have f1:=h.fz 1;by_cases Y:p<s.size
 ·have R:(p:Int)<(s.size:Int):=by omega
  by_cases H:s[p]=x
  ·have hd:((s[p].toNat:Int) != (x.toNat:Int))=false:=by rw[H];simp
   have ga:gW s x p=(p+1,false):=by unfold gW;rw[dif_pos Y,if_pos H]
   rw[ga];clear ga H
   go_enter cU,cW
   go_wp2_with fail
   go_quiet((go_at_call 65;exact aD (Cn _ _ _ _ _ (h.drewN _) Y)))
   go_wp2
   go_end0
   have D:=(h.drewN nq).put ((p:Int)+1);exact⟨fun _=>rfl,fun K=>bt K,D,gY (jA w nq (some b)) (jH _ b 1 _)⟩
  ·have hd:((s[p].toNat:Int) != (x.toNat:Int))=true:=by
    rw[bne_iff_ne];intro K;exact H (UInt8.toNat.inj (by omega))
   have ga:gW s x p=(p,true):=by unfold gW;rw[dif_pos Y,if_neg H]
   rw[ga];clear ga H
   go_enter cU,cW
   go_wp2_with fail
   go_quiet((go_at_call 65;exact aD (Cn _ _ _ _ _ (h.drewN _) Y)))
   go_wp2_with(go_at_call 69;refine(oL _ _ _ _ _ (h.drewN _)).mono ?_;rintro e w' ⟨rfl,I,rfl⟩)
   exact⟨rfl,fun K=>bt K,fun _=>rfl,h.drewN _,jA w _ (some b)⟩
 ·have ga:gW s x p=(p,true):=by unfold gW;rw[dif_neg Y]
  rw[ga];clear ga
  go_enter cU,cW
  go_wp2_with fail
  go_quiet((go_at_call 65;exact aD (Gq _ _ _ _ _ (h.drewN _) (by omega))))
  go_wp2_with(go_at_call 69;refine(oL _ _ _ _ _ (h.drewN _)).mono ?_;rintro e w' ⟨rfl,I,rfl⟩)
  exact⟨rfl,fun K=>bt K,fun _=>rfl,h.drewN _,jA w _ (some b)⟩
theorem xP(w:ae)(b:Nat)(s:e9)(p:Nat)(c:Int)(n:Int)(x:UInt8)(Y:n=x.toNat)(h:RD w b s p c)(D:s.size<=1000)(K:p<=s.size):
  af Tryz.prog 94 #[.pointer (some ⟨b,0,none⟩),.int .u8 n] w fun e w'=>pE w b s c (gW s x p) (.tuple #[]) e w':=by
 subst Y;exact Y_ w b s p c x h D K
theorem Fz{c:Int}{f:UInt8->Bool}{least most:Nat}{e:bN}
  (h:xT w b s p c (hD f (rest s p) most) least e w'):pE w b s c (jN s f least most p) (.string (s.extract p (p+hD f (rest s p) most))) e w':=by
 have⟨Y,D,R,K⟩:=h;unfold jN;refine⟨fun H=>Y ?_,fun H=>?_,?_,K⟩
 ·simp_all
 ·simp_all
 ·simp_all
theorem W2(w:ae)(b:Nat)(s:e9)(p:Nat)(c:Int)(l m:Int)(least most:Nat)(Y:l=least)(D:m=most)(K:least<=1000)(R:most<=1000)
  (h:RD w b s p c)(C:s.size<=1000)(U:p<=s.size):
  af Tryz.prog 70 #[.pointer (some ⟨b,0,none⟩),.func (.func 71) #[] #[],.int .i64 l,.int .i64 m] w fun e w'=>
   pE w b s c (jN s g_ least most p) (.string (s.extract p (p+hD g_ (rest s p) most))) e w':=by
 subst Y D;refine(FE w b s p c _ _ h C U (by omega) (by omega) (by omega) (by omega)).mono ?_;intro e w' H;exact Fz H
theorem W3(w:ae)(b:Nat)(s:e9)(p:Nat)(c:Int)(l m:Int)(least most:Nat)(Y:l=least)(D:m=most)(K:least<=1000)(R:most<=1000)
  (h:RD w b s p c)(C:s.size<=1000)(U:p<=s.size):
  af Tryz.prog 70 #[.pointer (some ⟨b,0,none⟩),.func (.func 95) #[] #[],.int .i64 l,.int .i64 m] w fun e w'=>
   pE w b s c (jN s jT least most p) (.string (s.extract p (p+hD jT (rest s p) most))) e w':=by
 subst Y D;refine(Xs w b s p c _ _ h C U (by omega) (by omega) (by omega) (by omega)).mono ?_;intro e w' H;exact Fz H
theorem W4(w:ae)(b:Nat)(s:e9)(p:Nat)(c:Int)(l m:Int)(least most:Nat)(Y:l=least)(D:m=most)(K:least<=1000)(R:most<=1000)
  (h:RD w b s p c)(C:s.size<=1000)(U:p<=s.size):
  af Tryz.prog 70 #[.pointer (some ⟨b,0,none⟩),.func (.func 120) #[] #[],.int .i64 l,.int .i64 m] w fun e w'=>
   pE w b s c (jN s iQ least most p) (.string (s.extract p (p+hD iQ (rest s p) most))) e w':=by
 subst Y D;refine(Xt w b s p c _ _ h C U (by omega) (by omega) (by omega) (by omega)).mono ?_;intro e w' H;exact Fz H
theorem qP{w1:ae}{c:Int}{st:Nat×Bool}{v:ah}(ga:st.2=true)(hr:RD w1 b s (st.1) c)(Y:w.grownBy w1 (some b)):
  pE w b s c st v (.panicked (m_ c (st.1))) w1:=
 ⟨fun h=>by simp_all,fun _=>rfl,hr,Y⟩
theorem FA{w1:ae}{c:Int}{st:Nat×Bool}{v:ah}(ga:st.2=false)(hr:RD w1 b s (st.1) c)(Y:w.grownBy w1 (some b)):
  pE w b s c st v (.returned v) w1:=
 ⟨fun _=>rfl,fun h=>by simp_all,hr,Y⟩
def kH(s:e9)(x:UInt8)(p:Nat):=hI (gW s x p) (nA s)
theorem sz{st R:Nat×Bool}{f:Nat->Nat×Bool}(h:hI st f=R)(ga:st.2=true):st=R:=by rw[<-h,rP ga]
theorem sO{st R:Nat×Bool}{f:Nat->Nat×Bool}(h:hI st f=R)(ga:st.2=false):f st.1=R:=by rw[<-h,oP ga]
theorem oK{w1:ae}{c:Int}{st R:Nat×Bool}{v:ah}{e:bN}(Y:st=R)(h:pE w b s c st v e w1):pE w b s c R v e w1:=by simp_all
def tu(s:e9)(p:Nat):=s.extract p (p+hD jT (rest s p) 10)
theorem MW(w:ae)(b:Nat)(s:e9)(p:Nat)(c:Int)(n:Int)(x:UInt8)(Z:n=(x.toNat:Int))(h:RD w b s p c)(S:s.size<=1000)(E:p<=s.size):
  af Tryz.prog 62 #[.pointer (some ⟨b,0,none⟩),.int .u8 n] w fun e w'=>pE w b s c (kH s x p) (.string (tu s (gW s x p).1)) e w':=by
 have q:=laid Z;clear Z;generalize V:kH s x p=R;have N:=laid V;clear V;generalize hX:tu s (gW s x p).1=X;have T:=laid (show s.extract (gW s x p).1 _=X from hX);clear hX
 go_enter Tryz.func62,Tryz.ntmps62
 go_wp2_with fail
 refine(xP _ _ s p c n x q.out h S E).mono ?_;rintro e w1 ⟨H,D,F,B⟩;have C:=nO s x p E;by_cases ga:(gW s x p).2=true
 ·obtain rfl:=D ga;exact⟨rfl,oK (sz N.out ga) (qP ga F B)⟩
 ·rw[ar]at ga;obtain rfl:=H ga;clear H D;have I:=laid (sO N.out ga);generalize(gW s x p).1=M at *;clear ga N;go_wp2_with fail
  refine(W3 _ _ s M c _ _ 1 10 rfl rfl (by omega) (by omega) F S C.2).mono ?_;rintro e w2 ⟨H,D,J,O⟩;have Y:=gY B O;have Q:=vM s jT 1 10 M C.2;by_cases ga:(jN s jT 1 10 M).2=true
  ·obtain rfl:=D ga;exact⟨rfl,oK (sz I.out ga) (qP ga J Y)⟩
  ·rw[ar]at ga;have U:=H ga;rw[T.out]at U;obtain rfl:=U;clear H D;have A:=laid (sO I.out ga);clear T;generalize(jN s jT 1 10 M).1=G at *;go_wp2_with fail
   refine(xP _ _ s G c _ 10 rfl J S Q.2).mono ?_;rintro e w3 ⟨H,D,L,P⟩;have K:=gY Y P;by_cases ga:(gW s 10 G).2=true
   ·obtain rfl:=D ga;exact⟨rfl,oK A.out (qP ga L K)⟩
   ·rw[ar]at ga;obtain rfl:=H ga;have W:=laid (oK (v:=.string X) A.out (FA ga L K));clear ga;go_wp2
    go_ret
    exact W.out
theorem X5(s:e9)(f:UInt8->Bool)(m p:Nat)(Y:p<=s.size):(s.extract p (p+hD f (rest s p) m)).size=hD f (rest s p) m:=by
 have:=(nN f (rest s p) m).2;rw[j6]at this;rw[bu];omega
def nV(s:e9)(m p:Nat):=s.extract p (p+jC s m p)
theorem F3(s:e9)(m p:Nat)(Y:p<=s.size):(nV s m p).size=jC s m p:=X5 s g_ m p Y
theorem FF(w:ae)(b:Nat)(s:e9)(p:Nat)(c:Int)(n:Int)(m:Nat)(M:n=m)(V:m<=1000)(h:RD w b s p c)(O:s.size<=1000)(N:p<=s.size):
  af Tryz.prog 64 #[.pointer (some ⟨b,0,none⟩),.int .i64 n] w fun e w'=>pE w b s c (iM s m p) (.string (nV s m p)) e w':=by
 have S:=laid M;clear M;generalize L:iM s m p=R;have J:=laid L;clear L;generalize hX:nV s m p=X;have T:=laid (show s.extract p (p+hD g_ (rest s p) m)=X from hX);clear hX
 go_enter Tryz.func64,Tryz.ntmps64
 go_wp2_with fail
 refine(W2 _ _ s p c _ n 1 m rfl S.out (by omega) V h O N).mono ?_;rintro e w1 ⟨U,B,I,D⟩;have F:=vM s g_ 1 m p N;by_cases ga:(jN s g_ 1 m p).2=true
 ·obtain rfl:=B ga;exact⟨rfl,oK (sz J.out ga) (qP ga I D)⟩
 ·rw[ar]at ga;have H:=U ga;rw[T.out]at H;obtain rfl:=H;have K:=laid (sO J.out ga);generalize(jN s g_ 1 m p).1=P at *;go_wp2_with fail
  refine(xP _ _ s P c _ 10 rfl I O F.2).mono ?_;rintro e w3 ⟨U,B,A,C⟩;have Y:=gY D C;by_cases ga:(gW s 10 P).2=true
  ·obtain rfl:=B ga;exact⟨rfl,oK K.out (qP ga A Y)⟩
  ·rw[ar]at ga;obtain rfl:=U ga;have Q:=laid (oK (v:=.string X) K.out (FA ga A Y));go_wp2
   go_ret
   exact Q.out
theorem FG(w:ae)(b:Nat)(s:e9)(p c:Int)(h:RD w b s p c)(D:p=s.size):
  af Tryz.prog 72 #[.pointer (some ⟨b,0,none⟩)] w fun e w'=>e=.returned (.tuple #[])/\∃m,w'=w.drewN m:=by
 have K:=nM w b s p c h;have Y:=laid K
 go_enter Tryz.func72,ei
 go_wp2_with(refine(Y.out).mono ?_;rintro e w' ⟨rfl,H,rfl⟩)
 go_end0
 exact⟨rfl,H,rfl⟩
theorem MG(w:ae)(b:Nat)(s:e9)(p c:Int)(h:RD w b s p c)(D:p≠(s.size:Int)):
  af Tryz.prog 72 #[.pointer (some ⟨b,0,none⟩)] w fun e w'=>e=.panicked (m_ c p)/\∃m,w'=w.drewN m:=by
 have R:(p==s.size)=false:=by simp[D]
 have K:=nM w b s p c h;have Y:=laid K
 go_enter Tryz.func72,ei
 go_wp2_with(first|(refine(Y.out).mono ?_;rintro e w' ⟨rfl,H,rfl⟩)|(refine(oL _ _ _ _ _ (h.drewN _)).mono ?_;rintro e w' ⟨rfl,H,rfl⟩))
 exact⟨rfl,rfl,_,rfl⟩
theorem N9(f:UInt8->Bool):∀l,l.all f=true->hD f l l.length=l.length
 |[],_=>by simp[hD]
 |x::l,h=>by
  simp only[List.all_cons,cw]at h;rw[aP,qQ,if_pos h.1,N9 f l h.2]
theorem Nh(f:UInt8->Bool):∀l,l.all f=false->hD f l l.length<l.length
 |[],h=>by simp at h
 |x::l,h=>by
  rw[aP,qQ];by_cases Y:f x=true
  ·rw[if_pos Y];have:=Nh f l (by simp_all);omega
  ·simp_all
theorem aaD(s:e9):rest s 0=s.data.toList:=by simp[rest]
theorem aoI(s:e9):s.extract 0 s.size=s:=by simp
theorem MX(h:(w.alloc o).grownBy w' (some w.heap.size)):ak w.heap.size w w':=
 Below.grown ((aI _ _).alloc (ai _) o) h (by simp) (by simp)
theorem xX(w:ae)(s:e9)(p c:Int):RD (w.alloc (.cells #[.string s,.int .i64 p,.int .i64 c] 98)) w.heap.size s p c:=aT w _
theorem Ni(f:UInt8->Bool):∀l a b,a<=b->hD f l a<=hD f l b
 |[],a,b,_=>by cases a<;>cases b<;>simp[hD]
 |x::l,0,b,_=>by simp[hD]
 |x::l,a+1,0,h=>by omega
 |x::l,a+1,b+1,h=>by
  rw[qQ,qQ];by_cases Y:f x=true
  ·rw[if_pos Y,if_pos Y];have:=Ni f l a b (by omega);omega
  ·simp_all
theorem Za(f:UInt8->Bool)(l:List _)(m:Nat)(h:l.length<=m):hD f l m=hD f l l.length:=by
 induction l generalizing m with
 |nil=>cases m<;>simp[hD]
 |cons x l Y=>
  cases m with
  |zero=>simp at h
  |succ m=>
   simp at h⊢;rw[qQ,qQ];simp_all
theorem Zb(w:ae)(b:Nat)(s:e9)(c:Int)(least most:Int)(h:RD w b s 0 c)(C:0<=least)(D:least<=s.size)(F:s.size<=most)(R:most<=200)(K:s.data.toList.all g_=true):
  af Tryz.prog 70 #[.pointer (some ⟨b,0,none⟩),.func (.func 71) #[] #[],.int .i64 least,.int .i64 most] w fun e w'=>
   e=.returned (.string s)/\RD w' b s s.size c/\w.grownBy w' (some b):=by
 have hr:=N9 g_ _ K;rw[Gj,<-aaD s]at hr;have H:hD g_ (rest s 0) most.toNat=s.size:=by
  have Y:=nN g_ (rest s 0) most.toNat;rw[j6]at Y;have I:=Ni g_ (rest s 0) s.size most.toNat (by omega);omega
 refine(FE w b s 0 c _ _ h (by omega) (by omega) (by omega) (by omega) (by omega) (by omega)).mono ?_;rintro e w' ⟨Y,_,A,U⟩;simp_all
theorem X6(w:ae)(b:Nat)(s:e9)(c:Int)(least most:Int)(h:RD w b s 0 c)(F:0<=least)(U:least<=s.size)(J:s.size<=most)(C:most<=200)(D:s.data.toList.all g_=false):
  af Tryz.prog 70 #[.pointer (some ⟨b,0,none⟩),.func (.func 71) #[] #[],.int .i64 least,.int .i64 most] w fun e w'=>
   ((∃x,e=.returned (.string x))\/∃p,e=.panicked (m_ c p))/\(∃p,RD w' b s p c/\p≠s.size)/\w.grownBy w' (some b):=by
 have hr:=Nh g_ _ D;have I:hD g_ (rest s 0) most.toNat<s.size:=by
  rw[Za g_ _ _ (by rw[j6];omega),j6];exact hr
 refine(FE w b s 0 c _ _ h (by omega) (by omega) (by omega) (by omega) (by omega) (by omega)).mono ?_;rintro e w' ⟨A,Y,K,H⟩;refine⟨?_,⟨_,K,by omega⟩,H⟩;by_cases R:least<=((hD g_ (rest s 0) most.toNat))
 ·simp_all
 ·exact .inr ⟨_,Y (by omega)⟩
theorem MY(s:e9)(least most:Int)(w:ae)(C:0<=least)(D:least<=(s.size:Int))(F:(s.size:Int)<=most)(R:most<=200)(U:s.data.toList.all g_=true):
  af Tryz.prog 44 #[.string s,.int .i64 least,.int .i64 most] w fun e w'=>e=.returned (.string (str (s.data.toList.map gb)))/\ak w.heap.size w w':=by
 have A:=laid U;clear U;have B:decide ((s.size:Int)<least)=false:=by simp;omega
 go_enter bX,bZ
 go_wp2_with fail
 refine(Zb _ _ s 5 least most (xX w s 0 5) C D F R A.out).mono ?_;rintro e w1 ⟨rfl,H,I⟩;have Y:=MX I;clear I;go_wp2_with fail
 refine(FG _ _ s _ 5 H rfl).mono ?_;rintro e w2 ⟨rfl,J,rfl⟩;go_wp2_with fail
 refine(Fv s _ (by omega)).mono ?_;rintro e w3 ⟨rfl,K⟩;go_wp2
 go_ret
 exact⟨rfl,(Go.below_drewN Y J).trans (K.mono Y.size)⟩
theorem MH(s:e9)(least most:Int)(w:ae)(F:0<=least)(K:least<=(s.size:Int))(J:(s.size:Int)<=most)(D:most<=200)(U:s.data.toList.all g_=false):
  af Tryz.prog 44 #[.string s,.int .i64 least,.int .i64 most] w fun e w'=>(∃p,e=.panicked (m_ 5 p))/\ak w.heap.size w w':=by
 have A:=laid U;clear U;have B:decide (most<(s.size:Int))=false:=by simp;omega
 go_enter bX,bZ
 go_wp2_with fail
 refine(X6 _ _ s 5 least most (xX w s 0 5) F K J D A.out).mono ?_;rintro e w1 ⟨C,⟨p,R,H⟩,I⟩;have Y:=MX I;clear I;rcases C with⟨x,rfl⟩|⟨p',rfl⟩
 ·go_wp2_with fail
  refine(MG _ _ s _ 5 R H).mono ?_;rintro e w2 ⟨rfl,L,rfl⟩;exact⟨rfl,⟨p,rfl⟩,Go.below_drewN Y L⟩
 ·exact⟨rfl,⟨p',rfl⟩,Y⟩
theorem WN(s:e9)(least most:Int)(w:ae)(D:s.size<=aH)(K:(s.size:Int)<least\/most<(s.size:Int)):
  af Tryz.prog 44 #[.string s,.int .i64 least,.int .i64 most] w fun e w'=>(∃p,e=.panicked (m_ 5 p))/\ak w.heap.size w w':=by
 unfold aH at D;by_cases H:(s.size:Int)<least
 ·clear K
  go_enter bX,bZ
  go_wp2_with fail
  refine(oL _ _ _ _ _ (xX w s 0 5)).mono ?_;rintro e w2 ⟨rfl,Y,rfl⟩;exact⟨rfl,⟨_,rfl⟩,Go.below_drewN ((aI _ _).alloc (ai _) _) Y⟩
 ·have R:most<(s.size:Int):=by omega
  clear K
  go_enter bX,bZ
  go_wp2_with fail
  refine(oL _ _ _ _ _ (xX w s 0 5)).mono ?_;rintro e w2 ⟨rfl,Y,rfl⟩;exact⟨rfl,⟨_,rfl⟩,Go.below_drewN ((aI _ _).alloc (ai _) _) Y⟩
theorem rZ{W w1:ae}(Y:ak W.heap.size W w1):(∀b o,b<W.heap.size->w1.cell? ⟨b,o,none⟩=W.cell? ⟨b,o,none⟩)/\(∀b o,b<W.heap.size->w1.frozen? ⟨b,o,none⟩=W.frozen? ⟨b,o,none⟩):=
 ⟨fun b o h=>Y.cell h,fun b o h=>Y.frozen h⟩
theorem qc(h:ak w.heap.size w w')(r:Option Nat):w.grownBy w' r:=
 ⟨h.os,h.tape,h.output,h.size,fun k hk _=>h.block k hk⟩
theorem Zc(s:e9)(x y:Nat)(v:ah)(w:ae)(J:s.size<=200)(U:s.data.toList.all g_=true)
  (M:w.cell? ⟨x,0,none⟩=some (.string s))(C:w.cell? ⟨y,0,none⟩=some v)(F:w.frozen? ⟨y,0,none⟩=false):
  af Tryz.prog 50 #[.pointer (some ⟨x,0,none⟩),.pointer (some ⟨y,0,none⟩)] w fun e w'=>
   e=.returned (.tuple #[])/\w'.cell? ⟨y,0,none⟩=some (.string (nT s))/\w.grownBy w' (some y):=by
 have A:nT s=iL (str (s.data.toList.map gb)) 0:=by unfold nT;rw[if_neg (by omega),if_pos U]
 rw[A];have I:=laid U;have H:=aO C
 go_enter Tryz.func50,ef
 go_wp2_with fail
 refine(MY s 0 200 _ (by omega) (by omega) (by omega) (by omega) I.out).mono ?_;rintro e w1 ⟨rfl,K⟩;go_wp2_with fail
 refine(PJ _ _ (by rw[h_];simp;omega)).mono ?_;rintro e w2 ⟨rfl,D⟩;have Y:=K.trans (D.mono K.size);have R:w2.cell? ⟨y,0,none⟩=some v:=by rw[(rZ Y).1 y 0 H];exact C
 have B:w2.frozen? ⟨y,0,none⟩=false:=by rw[(rZ Y).2 y 0 H];exact F
 go_wp2
 go_end0
 exact⟨rfl,cf _ _ _ R,gY (qc Y _) (jH w2 y 0 _)⟩
theorem X7(s:e9)(x y:Nat)(w:ae)(R:s.size<=200)(D:s.data.toList.all g_=false)
  (U:w.cell? ⟨x,0,none⟩=some (.string s)):
  af Tryz.prog 50 #[.pointer (some ⟨x,0,none⟩),.pointer (some ⟨y,0,none⟩)] w fun e w'=>
   (∃p,e=.panicked (m_ 5 p))/\ak w.heap.size w w':=by
 have K:=laid D
 go_enter Tryz.func50,ef
 go_wp2_with fail
 refine(MH s 0 200 _ (by omega) (by omega) (by omega) (by omega) K.out).mono ?_;rintro e w1 ⟨⟨p,rfl⟩,Y⟩;exact⟨rfl,⟨p,rfl⟩,Y⟩
theorem Xu(c p:Int)(w:ae):(Instr.typeAssert (.iface 70 (.agg #[.int .i64 c,.int .i64 p])) 20 70 true).run Tryz.prog w=.ok (.tuple #[.agg #[.int .i64 c,.int .i64 p],.bool true]) w:=by kernel_rfl
theorem F4(m:Nat)(a0 a1 c p:Int)(Y:List PanicEntry)(w:ae)(R:w.cell? ⟨m,0,none⟩=some (.int .i64 a0))(J:w.cell? ⟨m,1,none⟩=some (.int .i64 a1))(U:w.frozen? ⟨m,0,none⟩=false)(C:w.frozen? ⟨m,1,none⟩=false):
  CallsD Tryz.prog 61 #[.pointer (some ⟨m,0,none⟩)] (.panicking ({v:=.iface 70 (.agg #[.int .i64 c,.int .i64 p]),recovered:=false}::Y)) w fun e F w'=>
   e=.returned (.tuple #[])/\F=.panicking ({v:=.iface 70 (.agg #[.int .i64 c,.int .i64 p]),recovered:=true}::Y)/\w'=((w.setCell ⟨m,0,none⟩ (.int .i64 c)).setCell ⟨m,1,none⟩ (.int .i64 p)).alloc (.cells #[.int .i64 c,.int .i64 p] 70):=by
 refine eI Tryz.func61 rfl fun H cs K=>?_;apply wpS_seq;apply wpS_region;simp[wpOpsS,go_sem,recoverD,K,eh,Exit.thenS];refine wpS_of_wp ?_;generalize I:Value.iface 70 (.agg #[.int .i64 c,.int .i64 p])=V;have D:(#[Value.pointer (some ⟨m,0,none⟩)]++((bK 15 ao).setIfInBounds 3 V).setIfInBounds 0 V)=#[.pointer (some ⟨m,0,none⟩),V,ao,ao,V,ao,ao,ao,ao,ao,ao,ao,ao,ao,ao,ao]:=rfl;rw[D];clear D;subst I;have B:=laid K;clear K;have A:=Xu c p;have L:m<w.heap.size:=by have:=aO R;simpa using this
 go_wp2
 simp[bodyPostS,results,eo]
theorem F5(m:Nat)(w:ae):
  CallsD Tryz.prog 61 #[.pointer (some ⟨m,0,none⟩)] .returning w fun e R w'=>
   e=.returned (.tuple #[])/\R=.returning/\w'=w:=by
 refine eI Tryz.func61 rfl fun Y cs K=>?_;apply wpS_seq;apply wpS_region;simp[wpOpsS,go_sem,recoverD,K,eh,Exit.thenS];refine wpS_of_wp ?_;have H:(#[Value.pointer _]++((bK 15 ao).setIfInBounds 3 ey).setIfInBounds 0 ey)=#[.pointer (some ⟨m,0,none⟩),.nilIface,ao,ao,.nilIface,ao,ao,ao,ao,ao,ao,ao,ao,ao,ao,ao]:=rfl;rw[H];clear H;have D:=laid K;clear K;go_wp2
 have K:=D.out;cases Y;simp_all[bodyPostS,results,eo]
theorem pJ{w1:ae}(a b:ah)(n0:w1.cell? ⟨n,0,none⟩=some u0)(n1:w1.cell? ⟨n,1,none⟩=some u1):
  ((w1.setCell ⟨n,0,none⟩ a).setCell ⟨n,1,none⟩ b).cell? ⟨n,0,none⟩=some a/\((w1.setCell ⟨n,0,none⟩ a).setCell ⟨n,1,none⟩ b).cell? ⟨n,1,none⟩=some b/\
   w1.grownBy ((w1.setCell ⟨n,0,none⟩ a).setCell ⟨n,1,none⟩ b) (some n):=by
 have Y:=cf w1 _ a n0;have K:(w1.setCell ⟨n,0,none⟩ a).cell? ⟨n,1,none⟩=some u1:=by
  rw[aK (h:=by simp)];exact n1
 refine⟨?_,cf _ _ b K,gY (jH w1 n 0 a) (jH _ n 1 b)⟩;rw[aK (h:=by simp)];exact Y
theorem OU{w1 w2:ae}{y:Nat}(Y:(w.alloc o).grownBy w1 (some y))(K:w1.grownBy w2 (some w.heap.size)):w.grownBy w2 (some y):=by
 refine⟨K.os.trans Y.os,K.tape.trans Y.tape,K.output.trans Y.output,?_,fun k hk H=>?_⟩
 ·have:=Y.size;have:=K.size;simp at *;omega
 ·have D:=Y.size;simp at D;rw[K.block k (by omega) (by simp;omega),Y.block k (by simp;omega) H,bq w o k hk]
theorem Gr{r:Option Nat}(D:w.grownBy w' r)(K:b<w.heap.size)(Y:some b≠r):w'.cell? ⟨b,j,none⟩=w.cell? ⟨b,j,none⟩:=
 World.cell?_of_block (D.block b K Y)
theorem WO(s:e9)(x y:Nat)(v:ah)(w:ae)(N:s.size<=200)(C:s.data.toList.all g_=true)
  (F:w.cell? ⟨x,0,none⟩=some (.string s))(J:w.cell? ⟨y,0,none⟩=some v)(M:w.frozen? ⟨y,0,none⟩=false):
  af Tryz.prog 41 #[.func (.func 50) #[] #[.pointer (some ⟨x,0,none⟩),.pointer (some ⟨y,0,none⟩)]] w fun e w'=>
   e=.returned (.agg #[.int .i64 0,.int .i64 0])/\w'.cell? ⟨y,0,none⟩=some (.string (nT s))/\w.grownBy w' (some y):=by
 have L:=laid C;clear C;have U:x<w.heap.size:=by have:=aO F;simpa using this
 have R:y<w.heap.size:=by have:=aO J;simpa using this
 go_enter_defers Tryz.func41,ec
 go_wp2_with fail
 refine(Zc s x y v _ N L.out ?_ ?_ ?_).mono ?_
 ·rw[aV _ _ _ U];exact F
 ·rw[aV _ _ _ R];exact J
 ·rw[World.frozen?_alloc_past _ _ _ R];exact M
 rintro e w1 ⟨rfl,K,I⟩;have D:=I.block w.heap.size (by simp) (by simp;omega);rw[aT]at D;have n0:w1.cell? ⟨w.heap.size,0,none⟩=some (.int .i64 0):=by rw[ay _ _ _ _ _ _ D];rfl
 have n1:w1.cell? ⟨w.heap.size,1,none⟩=some (.int .i64 0):=by rw[ay _ _ _ _ _ _ D];rfl
 have z0:w1.frozen? ⟨w.heap.size,0,none⟩=false:=aQ _ _ _ _ _ D;have Q:w1.frozen? ⟨w.heap.size,1,none⟩=false:=aQ _ _ _ _ _ D;go_wp2
 have⟨m0,O,H⟩:=pJ (.int .i64 0) (.int .i64 0) n0 n1;have B:y<w1.heap.size:=by have:=aO K;simpa using this
 have Y:=K;rw[<-Gr (j:=0) H B (by simp;omega)]at Y;have A:=OU I H;clear K D n0 n1 z0 Q I H;refine leaves_cons (f:=61) (args:=#[.pointer (some ⟨w.heap.size,0,none⟩)]) (by simp) (by simp[go_sem]) ?_;refine(F5 _ _).mono ?_;rintro e S P ⟨rfl,rfl,rfl⟩;refine⟨.agg #[.int .i64 0,.int .i64 0],?_,rfl,Y,A⟩;simp[results,ek,go_sem,m0,O]
theorem Ww(s:e9)(x y:Nat)(w:ae)(F:s.size<=200)(U:s.data.toList.all g_=false)
  (C:w.cell? ⟨x,0,none⟩=some (.string s)):
  af Tryz.prog 41 #[.func (.func 50) #[] #[.pointer (some ⟨x,0,none⟩),.pointer (some ⟨y,0,none⟩)]] w fun e w'=>
   (∃p,e=.returned (.agg #[.int .i64 5,.int .i64 p]))/\ak w.heap.size w w':=by
 have A:=laid U;clear U;have I:x<w.heap.size:=by have:=aO C;simpa using this
 go_enter_defers Tryz.func41,ec
 go_wp2_with fail
 refine(X7 s x y _ F A.out ?_).mono ?_
 ·rw[aV _ _ _ I];exact C
 rintro e w1 ⟨⟨p,rfl⟩,K⟩;have Y:=K.block w.heap.size (by simp);rw[aT]at Y;have n0:w1.cell? ⟨w.heap.size,0,none⟩=some (.int .i64 0):=by rw[ay _ _ _ _ _ _ Y];rfl
 have n1:w1.cell? ⟨w.heap.size,1,none⟩=some (.int .i64 0):=by rw[ay _ _ _ _ _ _ Y];rfl
 have z0:w1.frozen? ⟨w.heap.size,0,none⟩=false:=aQ _ _ _ _ _ Y;have M:w1.frozen? ⟨w.heap.size,1,none⟩=false:=aQ _ _ _ _ _ Y;refine leaves_cons (f:=61) (args:=#[.pointer (some ⟨w.heap.size,0,none⟩)]) (by simp) (by simp[go_sem]) ?_;refine(F4 _ _ _ 5 p [] _ n0 n1 z0 M).mono ?_;rintro e O L ⟨rfl,rfl,rfl⟩;have B:w.heap.size<w1.heap.size:=by have:=aO n0;simpa using this
 have⟨m0,J,H⟩:=pJ (.int .i64 5) (.int .i64 p) n0 n1;generalize N:(w1.setCell ⟨w.heap.size,0,none⟩ (.int .i64 5)).setCell ⟨w.heap.size,1,none⟩ (.int .i64 p)=w2 at *;have R:w.heap.size<w2.heap.size:=by have:=H.size;omega
 refine⟨.agg #[.int .i64 5,.int .i64 p],?_,⟨p,rfl⟩,?_⟩
 ·simp[results,ek,go_sem,m0,J,R]
 ·have D:ak w.heap.size w w1:=((aI _ _).alloc (ai _) _).trans (K.mono (by simp));exact(D.grown H (by omega) (by intro k hk;cases hk;exact ai _)).alloc (by omega) _
theorem F6(st:Nat×Bool)(f g:Nat->Nat×Bool):hI (hI st f) g=hI st fun q=>hI (f q) g:=by
 unfold hI;by_cases h:st.2=true
 ·simp_all
 ·simp_all
theorem t_(s:e9)(x:UInt8)(p:Nat)(h:p<=s.size):p<=(kH s x p).1/\(kH s x p).1<=s.size:=ny (nO s x p h) fun q Y=>G7 s q Y
theorem Hb(s:e9)(p:Nat):lh s p=hI (kH s 64 p) fun p=>hI (iM s 30 p) fun p'=>hI (gW s 43 p') fun p'=>hI (gW s 10 p') fun p'=>hI (jN s iQ (jC s 30 p) (jC s 30 p) p') (gW s 10):=by
 unfold lh kH;rw[F6]
theorem PY(s:e9)(p:Nat)(h:p<=s.size):p<=(lh s p).1/\(lh s p).1<=s.size:=by
 rw[Hb];refine ny (t_ s 64 p h) fun q R=>ny (rQ s 30 q R) fun I Y=>ny (nO s 43 I Y) fun A K=>ny (nO s 10 A K) fun U H=>ny (vM s _ _ _ U H) fun B D=>nO s 10 B D
def xh(s:e9)(p:Nat):=tu s (gW s 64 p).1
def xi(s:e9)(p:Nat):=str ((nV s 30 (kH s 64 p).1).data.toList.map gb)
def D9(s:e9)(p:Nat):=(gW s 10 (gW s 43 (iM s 30 (kH s 64 p).1).1).1).1
def xj(s:e9)(p:Nat):=s.extract (D9 s p) (D9 s p+hD iQ (rest s (D9 s p)) (jC s 30 (kH s 64 p).1))
def oB(s:e9)(p:Nat):Value:=.agg #[.string (xh s p),.string (xi s p),.string (xj s p)]
theorem RD.lt{p c:Int}(h:RD w b s p c):b<w.heap.size:=by
 rcases aZ b _ with h'|h'
 ·omega
 ·unfold RD at h;simp_all
theorem RD.alloc{p c:Int}(h:RD w b s p c)(o:Obj):RD (w.alloc o) b s p c:=by
 have:=h.lt;unfold RD at *;rw[cg w o this];exact h
theorem RD.below{p c:Int}(h:RD w b s p c)(K:ak B w w')(Y:b<B):RD w' b s p c:=by
 unfold RD at *;rw[K.block b Y];exact h
theorem RD.kept{r:Nat}{p c:Int}(h:RD w b s p c)(Y:w.grownBy w' (some r))(K:b≠r):RD w' b s p c:=by
 have:=h.lt;unfold RD at *;rw[Y.block b this (by simp_all)];exact h
theorem ace{w1:ae}{u2:ah}(a b c:ah)(n0:w1.cell? ⟨n,0,none⟩=some u0)(n1:w1.cell? ⟨n,1,none⟩=some u1)(n2:w1.cell? ⟨n,2,none⟩=some u2):
  (((w1.setCell ⟨n,0,none⟩ a).setCell ⟨n,1,none⟩ b).setCell ⟨n,2,none⟩ c).cell? ⟨n,0,none⟩=some a/\(((w1.setCell ⟨n,0,none⟩ a).setCell ⟨n,1,none⟩ b).setCell ⟨n,2,none⟩ c).cell? ⟨n,1,none⟩=some b/\
   (((w1.setCell ⟨n,0,none⟩ a).setCell ⟨n,1,none⟩ b).setCell ⟨n,2,none⟩ c).cell? ⟨n,2,none⟩=some c/\
   w1.grownBy (((w1.setCell ⟨n,0,none⟩ a).setCell ⟨n,1,none⟩ b).setCell ⟨n,2,none⟩ c) (some n):=by
 have⟨m0,H,K⟩:=pJ a b n0 n1;have Y:((w1.setCell ⟨n,0,none⟩ a).setCell ⟨n,1,none⟩ b).cell? ⟨n,2,none⟩=some u2:=by
  rw[aK (h:=by simp),aK (h:=by simp)];exact n2
 refine⟨?_,?_,cf _ _ c Y,gY K (jH _ n 2 c)⟩
 ·rw[aK (h:=by simp)];exact m0
 ·rw[aK (h:=by simp)];exact H
theorem xQ{r:Option Nat}(h:(w.alloc o).grownBy w' r):w.grownBy w' r:=by
 refine⟨h.os,h.tape,h.output,?_,fun k hk Y=>?_⟩
 ·have:=h.size;simp at this;omega
 ·rw[h.block k (by simp;omega) Y,bq w o k hk]
theorem X8(w:ae)(b:Nat)(s:e9)(p:Nat)(c:Int)(h:RD w b s p c)(V:s.size<=1000)(hp:p<=s.size):
  af Tryz.prog 109 #[.pointer (some ⟨b,0,none⟩)] w fun e w'=>pE w b s c (lh s p) (oB s p) e w':=by
 generalize hR:lh s p=R;rw[Hb]at hR;have HR:=laid hR;clear hR;have aoR:=h.lt;unfold oB;generalize q:xh s p=PN;generalize j:xi s p=k;generalize z:xj s p=i;have X:=laid (show tu s (gW s 64 p).1=PN from q);have Z:=laid (show str ((nV s 30 (kH s 64 p).1).data.toList.map gb)=k from j);have E:=laid (show s.extract (gW s 10 (gW s 43 (iM s 30 (kH s 64 p).1).1).1).1 ((gW s 10 (gW s 43 (iM s 30 (kH s 64 p).1).1).1).1+hD iQ (rest s (gW s 10 (gW s 43 (iM s 30 (kH s 64 p).1).1).1).1) (jC s 30 (kH s 64 p).1))=i from z);clear q j z
 go_enter Tryz.func109,Tryz.ntmps109
 go_wp2_with fail
 refine(MW _ _ s p c _ 64 rfl (h.alloc _) V hp).mono ?_;rw[X.out];clear X;rintro e w1 ⟨Y,K,u,d⟩;have Q:=t_ s 64 p hp;by_cases ga:(kH s 64 p).2=true
 ·obtain rfl:=K ga;exact⟨rfl,oK (sz HR.out ga) (qP ga u (xQ d))⟩
 ·rw[ar]at ga;obtain rfl:=Y ga;clear Y K;have L:=laid (sO HR.out ga);generalize(kH s 64 p).1=J at *;clear ga HR;go_wp2_with fail
  refine(FF _ _ s J c _ 30 rfl (by omega) u V Q.2).mono ?_;rintro e w2 ⟨Y,K,x,A⟩;replace A:=gY d A;have g:=rQ s 30 J Q.2;by_cases ga:(iM s 30 J).2=true
  ·obtain rfl:=K ga;exact⟨rfl,oK (sz L.out ga) (qP ga x (xQ A))⟩
  ·rw[ar]at ga;obtain rfl:=Y ga;clear Y K;have M:=laid (sO L.out ga);have JL:=vN s 30 J;have HXS:=laid (F3 s 30 J Q.2);generalize nV s 30 J=X30 at *;generalize jC s 30 J=F at *;generalize(iM s 30 J).1=p2 at *;clear ga L;have AD:=HXS.out;go_wp2_with fail
   refine(xP _ _ s p2 c _ 43 rfl x V g.2).mono ?_;rintro e w3 ⟨Y,K,y,U⟩;replace U:=gY A U;have l:=nO s 43 p2 g.2;by_cases ga:(gW s 43 p2).2=true
   ·obtain rfl:=K ga;exact⟨rfl,oK (sz M.out ga) (qP ga y (xQ U))⟩
   ·rw[ar]at ga;obtain rfl:=Y ga;clear Y K;have N:=laid (sO M.out ga);generalize(gW s 43 p2).1=p3 at *;clear ga M;go_wp2_with fail
    refine(xP _ _ s p3 c _ 10 rfl y V l.2).mono ?_;rintro e w4 ⟨Y,K,m,B⟩;replace B:=gY U B;have o:=nO s 10 p3 l.2;by_cases ga:(gW s 10 p3).2=true
    ·obtain rfl:=K ga;exact⟨rfl,oK (sz N.out ga) (qP ga m (xQ B))⟩
    ·rw[ar]at ga;obtain rfl:=Y ga;clear Y K;have O:=laid (sO N.out ga);generalize(gW s 10 p3).1=p4 at *;clear ga N;go_wp2_with fail
     refine(W4 _ _ s p4 c _ _ F F rfl rfl (by omega) (by omega) m V o.2).mono ?_;rintro e w5 ⟨Y,K,n,C⟩;replace C:=gY B C;have D_:=vM s iQ F F p4 o.2;by_cases ga:(jN s iQ F F p4).2=true
     ·obtain rfl:=K ga;exact⟨rfl,oK (sz O.out ga) (qP ga n (xQ C))⟩
     ·rw[ar]at ga;have W:=Y ga;rw[E.out]at W;obtain rfl:=W;clear Y K E;have G:=laid (sO O.out ga);generalize(jN s iQ F F p4).1=p5 at *;clear ga O;go_wp2_with fail
      refine(xP _ _ s p5 c _ 10 rfl n V D_.2).mono ?_;rintro e w6 ⟨Y,K,S,D⟩;replace D:=gY C D;by_cases ga:(gW s 10 p5).2=true
      ·obtain rfl:=K ga;exact⟨rfl,oK G.out (qP ga S (xQ D))⟩
      ·rw[ar]at ga;obtain rfl:=Y ga;clear Y K;have Ea:=S.lt;have r:b≠w.heap.size:=by omega
       have hN:=D.block w.heap.size (by simp) (by simpa using fun h=>r h.symm);rw[aT]at hN;go_wp2_with fail
       refine(Fv X30 _ (by omega)).mono ?_;rintro e T ⟨rfl,I⟩;rw[Z.out];clear Z;have JM:w.heap.size<w6.heap.size:=by have:=D.size;simp at this;omega
       have H:=I.block w.heap.size JM;rw[hN]at H;have n0:T.cell? ⟨w.heap.size,0,none⟩=some (.string ⟨#[]⟩):=by rw[ay _ _ _ _ _ _ H];rfl
       have n1:T.cell? ⟨w.heap.size,1,none⟩=some (.string ⟨#[]⟩):=by rw[ay _ _ _ _ _ _ H];rfl
       have n2:T.cell? ⟨w.heap.size,2,none⟩=some (.string ⟨#[]⟩):=by rw[ay _ _ _ _ _ _ H];rfl
       have z0:T.frozen? ⟨w.heap.size,0,none⟩=false:=aQ _ _ _ _ _ H;have z1:T.frozen? ⟨w.heap.size,1,none⟩=false:=aQ _ _ _ _ _ H;have z2:T.frozen? ⟨w.heap.size,2,none⟩=false:=aQ _ _ _ _ _ H;have f:=gY D (qc I (some b));have t:=S.below I Ea;have⟨m0,m1,m2,P⟩:=ace (.string PN) (.string k) (.string i) n0 n1 n2;have a:=t.kept P r;have HF:=laid (oK (v:=.agg #[.string PN,.string k,.string i]) G.out (FA ga a (OU f P)));clear ga hN H P a f I t;go_wp2
       refine bg (v:=.agg #[.string PN,.string k,.string i]) ?_ rfl HF.out;simp[results,Tryz.results109,go_sem,m0,m1,m2]
def r6(s:e9)(Y:Nat)(st:Nat×Bool):e9:=if st.2=true then⟨#[]⟩else cut s st.1 (st.1+hD iQ (rest s st.1) Y)
def qH(s:e9)(p:Nat):Nat×Bool:=gW s 64 p
def lK(s:e9)(p:Nat):Nat×Bool:=hI (qH s p) (nA s)
def rC(s:e9)(p:Nat):Nat×Bool:=hI (lK s p) (iM s 30)
def rD(s:e9)(p:Nat):Nat×Bool:=hI (rC s p) (gW s 43)
def pZ(s:e9)(p:Nat):Nat×Bool:=hI (rD s p) (gW s 10)
def lL(s:e9)(p:Nat):e9:=uV s 30 (lK s p)
def xk(s:e9)(p:Nat):Nat×Bool:=hI (pZ s p) (jN s iQ (lL s p).size (lL s p).size)
def TZ(s:e9)(p:Nat):Nat×Bool:=hI (xk s p) (gW s 10)
def sZ(s:e9)(p:Nat):e9×e9×e9:=(rk s (qH s p),lL s p,r6 s (lL s p).size (pZ s p))
theorem Is(s:e9)(p:Nat)(D:p<=s.size):TZ s p=lh s p:=by
 rw[Hb];unfold TZ xk pZ rD rC;by_cases h:(lK s p).2=true
 ·have e:kH s 64 p=lK s p:=rfl;rw[e,rP h,rP h];simp only[rP h]
 ·rw[ar]at h;have e:kH s 64 p=lK s p:=rfl;have K:lL s p=nD s 30 (lK s p).1:=by unfold lL uV;rw[if_neg (by simp[h])]
  have Y:=(t_ s 64 p D).2;have H:(lL s p).size=jC s 30 (lK s p).1:=by rw[K];exact B8 s 30 _ Y
  rw[e,oP h,oP h,H];simp only[F6]
def iF(s:e9):Nat->Nat->List (e9×e9×e9)
 |0,_=>[]
 |n+1,p=>if s.size<=p then []else sZ s p::(if(lh s p).2=true then []else iF s n (lh s p).1)
def jY(L:List (e9×e9×e9)):List Value:=L.flatMap fun r=>[.string r.1,.string r.2.1,.string r.2.2]
theorem N_(L:List (e9×e9×e9))(r:e9×e9×e9):jY (L++[r])=jY L++[.string r.1,.string r.2.1,.string r.2.2]:=by
 unfold jY;simp
theorem FK(s:e9)(p q:Nat):cut s p q=s.extract p q:=by
 apply ByteArray.ext;apply Array.ext';simp only[cC,cv];rfl
theorem af3(s:e9)(h:(gW s 62 0).2=false):qY s=tu s (gW s 62 0).1:=by
 unfold qY rk tu;rw[if_neg (by simp[h]),FK]
theorem af4(s:e9)(p:Nat)(C:p<=s.size)(h:(lh s p).2=false):(xh s p,xi s p,xj s p)=sZ s p:=by
 rw[<-Is s p C]at h;have⟨P,_⟩:=su (show(hI (xk s p) (gW s 10)).2=false from h);have⟨A,_⟩:=su (show(hI (pZ s p) (jN s iQ (lL s p).size (lL s p).size)).2=false from P);have⟨I,_⟩:=su (show(hI (rD s p) (gW s 10)).2=false from A);have⟨R,_⟩:=su (show(hI (rC s p) (gW s 43)).2=false from I);have⟨Y,_⟩:=su (show(hI (lK s p) (iM s 30)).2=false from R);have⟨O,_⟩:=su (show(hI (qH s p) (nA s)).2=false from Y);have H:(lK s p).1<=s.size:=(t_ s 64 p C).2;have D:(kH s 64 p).1=(lK s p).1:=rfl;have L:(iM s 30 (lK s p).1).1=(rC s p).1:=by unfold rC;rw[oP Y]
 have M:(gW s 43 (rC s p).1).1=(rD s p).1:=by unfold rD;rw[oP R]
 have N:(gW s 10 (rD s p).1).1=(pZ s p).1:=by unfold pZ;rw[oP I]
 have U:lL s p=nD s 30 (lK s p).1:=by unfold lL uV;rw[if_neg (by simp[Y])]
 have K:(lL s p).size=jC s 30 (lK s p).1:=by rw[U];exact B8 s 30 _ H
 have B:xh s p=rk s (qH s p):=by
  unfold xh tu rk;rw[if_neg (by simp[O]),FK];rfl
 have F:xi s p=lL s p:=by
  rw[U];unfold xi nD mO;rw[D,show(lK s p).1+jC s 30 (lK s p).1-(lK s p).1=jC s 30 (lK s p).1 by omega];congr 2;unfold nV;simp only[cC,cv,rest];simp[dE]
 have J:xj s p=r6 s (lL s p).size (pZ s p):=by
  unfold xj r6 D9;rw[if_neg (by simp[A]),FK,D,L,M,N,K]
 unfold sZ;rw[B,F,J]
structure nW(w:ae)(B:Nat)(p t:e9)(v:ah)(i:Nat)(g:Nat->Nat):Prop where
 own:w.ownsRow B 25 1 v i ((List.range i).map (sv t g))
 rows:∀x,x<i->re w (g x) p t x
 base:∀x,x<i->B<=g x
theorem QR:(Tryz.prog.info? 25).map (fun i=>(i.zero,i.size,i.bytes))=some (some (.slice none 0 0),1,24):=by kernel_rfl
theorem acf(t:e9)(Y:t.size<=900)(w:ae):
  (aX 25 (.int .i64 ((t.size:Int)+1)) (.int .i64 ((t.size:Int)+1))).run Tryz.prog w=.ok (.slice (some ⟨w.heap.size,0,none⟩) (t.size+1) (t.size+1)) (w.alloc (.cells (nY [] (t.size+1)) 3)):=by
 have:=OQ (t.size+1) (by omega) w
 rwa [show(((t.size+1)))=t.size+1 by omega]at this
theorem sI(g i:Nat):(⟨g,0,none⟩:Addr).add i=⟨g,i,none⟩:=by
 by_cases Y:i=0
 ·simp[Addr.add]
 ·simp[Addr.add,Y]
theorem HV(w:ae)(c:Array ah)(T:aj)(d j:Nat)(v:ah):((w.alloc (.cells c T)).drewN d).setCell ⟨w.heap.size,j,none⟩ v=(w.alloc (.cells (c.setIfInBounds j v) T)).drewN d:=by
 have h:(w.alloc (.cells c T)).setCell ⟨w.heap.size,j,none⟩ v=w.alloc (.cells (c.setIfInBounds j v) T):=by simp only[eG]
 have Y:((w.alloc (.cells c T)).drewN d).setCell ⟨w.heap.size,j,none⟩ v=((w.alloc _).setCell _ v).drewN d:=rfl;rw[Y,h]
theorem PZ{wr W:ae}{p:e9}{z:Int}(K:(wr.alloc (.cells (pL p t i j) 3)).drewN n=W)(Y:wr.heap.size=H)(D:j<=t.size)(R:z=(dT p t i j:Int)):
  (W.setCell ⟨H,j,none⟩ (.int .i64 z)).drew=(wr.alloc (.cells (pL p t i (j+1)) 3)).drewN (n+1):=by
 subst K Y;rw[HV,FV p t i j D z R];rfl
theorem OV(p t:e9)(w:ae)(hp:p.size<=100)(ht:t.size<=300):
  af Tryz.prog 118 #[.string p,.string t] w fun e w'=>∃v g,e=.returned v/\nW w' w.heap.size p t v (p.size+1) g/\ak w.heap.size w w':=by
 obtain⟨i0,hi,qI,pe,pg⟩:=c8 QR;have T2:=acf t (by omega)
 go_enter Tryz.func118,Tryz.ntmps118
 go_wp2
 go_loopw [5,6] (fun v iv wr=>∃(i:Nat) (g:Nat->Nat),iv=.int .i64 (i:Int)/\i<=p.size+1/\nW wr w.heap.size p t v i g/\ak w.heap.size w wr) (fun _ iv _=>p.size+1-(intOf iv).toNat)
 case atStart=>exact⟨0,fun _=>0,rfl,aB _,⟨⟨rfl,.inl ⟨rfl,rfl⟩⟩,fun x S=>by omega,fun x S=>by omega⟩,aI _ _⟩
 case round=>
  obtain⟨i,g,rfl,Eb,R,B⟩:=hrel;by_cases pd:i<=p.size
  ·go_wp2
   go_loopw [8] (fun jv w2=>∃(j d:Nat),jv=.int .i64 (j:Int)/\j<=t.size+1/\w2=(wr.alloc (.cells (pL p t i j) 3)).drewN d) (fun jv _=>t.size+1-(intOf jv).toNat)
   case atStart=>exact⟨0,0,rfl,aB _,rfl⟩
   case round=>
    obtain⟨j,d,rfl,JQ,rfl⟩:=hrel;by_cases M:j<=t.size
    ·have hz:=X4 p t i j M;by_cases s:i=0
     ·subst s;go_wp2
      go_roundw
      case rel=>go_light;exact⟨j+1,d,by go_num,by omega,by rw[HV,FV p t 0 j M _ (by simp[dT])]⟩
      case measure=>go_light;simp[intOf];omega
     ·by_cases JR:j=0
      ·subst JR;have hd:(i:Int)=(dT p t i 0:Int):=by
        cases i with
        |zero=>exact absurd rfl s
        |succ a=>rw[dT]
       have HD:=laid hd;clear hd;go_wp2
       go_roundw
       case rel=>go_light;exact⟨0+1,d,by go_num,by omega,by rw[HV,FV p t i 0 M _ HD.out]⟩
       case measure=>go_light;simp[intOf]
      ·obtain⟨a,q⟩:∃a,i=a+1:=⟨i-1,by omega⟩;obtain⟨b,z⟩:∃b,j=b+1:=⟨j-1,by omega⟩;obtain⟨G,cap,hu,vj,hGa⟩:∃G cap,u5=.slice (some ⟨G,0,none⟩) i cap/\G<wr.heap.size/\wr.cell? ⟨G,a,none⟩=some (sv t g a):=by
        rcases R.own.2 with⟨_,h0⟩|⟨G,cap,cur,hv,hB,hg,hc⟩
        ·omega
        ·refine⟨G,cap,hv,?_,?_⟩
         ·rcases aZ G wr.heap.size with h'|h'
          ·exact h'
          ·rw[c_ h']at hg;cases hg
         ·have h:=R.own.cells (g:=G) (by rw[hv];rfl) a (sv t g a) (by rw[dI,cI (by omega)];rfl)
          rwa [sI]at h
       subst hu;have f:=R.rows a (by omega);have n:=f.lt;have T3:(a:Int)<(p.size:Int):=by omega
       have AE:(b:Int)<(t.size:Int):=by omega
       have hap:a<p.size:=by omega
       have hbt:b<t.size:=by omega
       have JS:=kZ p a hap;have JU:=kZ t b hbt;have vi:au.wrap ((i:Int)-1)=(a:Int):=by rw[show(i:Int)-1=(a:Int) by omega];exact ax _ (by omega)
       have pj:au.wrap ((j:Int)-1)=(b:Int):=by rw[show(j:Int)-1=(b:Int) by omega];exact ax _ (by omega)
       have P:Hid (dT p t i j=min (min (dT p t a b+cost p t a b) (dT p t a j+1)) (dT p t i b+1)):=laid (by rw[q,z,dT]);have b3:(a:Int)<(i:Int):=by omega
       have T:=laid q;have J:=laid z;clear q z;go_wp2_with fail
       go_quiet((go_at_call 119;refine(Gk _ _ _).mono ?_;rintro e vk ⟨rfl,rfl⟩;exact⟨rfl,_,rfl⟩))
       rw[az];generalize K:(wr.alloc (.cells (pL p t i j) 3)).drewN (d+nq)=W;have HW:=laid K;have s1:W.cell? ⟨G,a,none⟩=some (.slice (some ⟨g a,0,none⟩) (t.size+1) (t.size+1)):=by
        rw[<-K];show(wr.alloc _).cell? _=_;rw[aV _ _ _ vj];exact hGa
       have s2:W.cell? ⟨g a,b,none⟩=some (.int .i64 (dT p t a b:Int)):=by
        rw[<-K];show(wr.alloc _).cell? _=_;rw[aV _ _ _ n];exact f.cell b (by omega)
       have s3:W.cell? ⟨g a,j,none⟩=some (.int .i64 (dT p t a j:Int)):=by
        rw[<-K];show(wr.alloc _).cell? _=_;rw[aV _ _ _ n];exact f.cell j (by omega)
       have s4:W.cell? ⟨wr.heap.size,b,none⟩=some (.int .i64 (dT p t i b:Int)):=by
        rw[<-K];show(wr.alloc _).cell? _=_;rw[bH _ _ _ _ rfl];exact N4 p t _ _ b (by have:=J.out;omega)
       have s5:W.cell? ⟨wr.heap.size,j,none⟩=some (.int .i64 0):=by
        rw[<-K];show(wr.alloc _).cell? _=_;rw[bH _ _ _ _ rfl];exact hz
       have s6:W.frozen? ⟨wr.heap.size,j,none⟩=false:=by
        rw[<-K];show(wr.alloc _).frozen? _=_;rw[eC _ _ _ _ rfl]
       have hX:dT p t a b<=1000:=by have:=qp p t a b;have:=T.out;have:=J.out;omega
       have hY:dT p t a j<=1000:=by have:=qp p t a j;have:=T.out;have:=J.out;omega
       have hZ:dT p t i b<=1000:=by have:=qp p t i b;have:=T.out;have:=J.out;omega
       generalize dT p t a b=X at *;generalize dT p t a j=Y at *;generalize dT p t i b=Z at *;clear K hz JS JU;have hGH:G≠wr.heap.size:=by omega
       have r:g a≠wr.heap.size:=by omega
       have k1:∀v,(W.setCell ⟨wr.heap.size,j,none⟩ v).drew.cell? ⟨G,a,none⟩=some (.slice (some ⟨g a,0,none⟩) (t.size+1) (t.size+1)):=fun v=>(aK W ⟨wr.heap.size,j,none⟩ ⟨G,a,none⟩ v (by intro e;cases e;exact hGH rfl)).trans s1;have k2:∀v,(W.setCell ⟨wr.heap.size,j,none⟩ v).drew.cell? ⟨g a,b,none⟩=some (.int .i64 (X:Int)):=fun v=>(aK W ⟨wr.heap.size,j,none⟩ ⟨g a,b,none⟩ v (by intro e;injection e with l e2;exact r l.symm)).trans s2;have k3:∀v,(W.setCell ⟨wr.heap.size,j,none⟩ v).drew.cell? ⟨g a,j,none⟩=some (.int .i64 (Y:Int)):=fun v=>(aK W ⟨wr.heap.size,j,none⟩ ⟨g a,j,none⟩ v (by intro e;injection e with l e2;exact r l.symm)).trans s3;have k4:∀v,(W.setCell ⟨wr.heap.size,j,none⟩ v).drew.cell? ⟨wr.heap.size,b,none⟩=some (.int .i64 (Z:Int)):=fun v=>(aK W ⟨wr.heap.size,j,none⟩ ⟨wr.heap.size,b,none⟩ v (by intro e;injection e with l e2;have:=J.out;omega)).trans s4;have b1:(0:Int)<=(a:Int):=bh _;have b2:(0:Int)<=(b:Int):=bh _;have b4:(b:Int)<(t.size:Int)+1:=by omega
       have b5:(j:Int)<(t.size:Int)+1:=by omega
       have b6:(0:Int)<=(j:Int):=bh _;have x0:au.wrap (X:Int)=(X:Int):=ax _ (by omega);have x1:au.wrap ((X:Int)+1)=(X:Int)+1:=ax _ (by omega);have y1:au.wrap ((Y:Int)+1)=(Y:Int)+1:=ax _ (by omega);have z1:au.wrap ((Z:Int)+1)=(Z:Int)+1:=ax _ (by omega);by_cases I:ag (at8 p a) (at8 t b)=true
       ·have L:cost p t a b=0:=if_pos I;rw[L]at P;rw[I];clear L I;go_wp2_with fail
        go_region_held3 (fun w'=>w'.cell? ⟨G,a,none⟩=some (.slice (some ⟨g a,0,none⟩) (t.size+1) (t.size+1))/\w'.cell? ⟨g a,b,none⟩=some (.int .i64 (X:Int))/\w'.cell? ⟨g a,j,none⟩=some (.int .i64 (Y:Int))/\w'.cell? ⟨wr.heap.size,b,none⟩=some (.int .i64 (Z:Int)))
         (first|go_keep|exact⟨k1 _,k2 _,k3 _,k4 _⟩)
         (first|(go_at_call 135;refine(OP _ _ _ _).mono ?_;rintro e w' ⟨rfl,rfl⟩))
        go_wp2
        go_roundw
        case rel=>go_light;exact⟨j+1,d+nq+1,by go_num,by omega,PZ HW.out rfl M (by have:=P.out;omega)⟩
        case measure=>go_light;simp[intOf];omega
       ·have L:cost p t a b=1:=if_neg I;rw[L]at P;rw[ar]at I;rw[I];clear L I;go_wp2_with fail
        go_region_held3 (fun w'=>w'.cell? ⟨G,a,none⟩=some (.slice (some ⟨g a,0,none⟩) (t.size+1) (t.size+1))/\w'.cell? ⟨g a,b,none⟩=some (.int .i64 (X:Int))/\w'.cell? ⟨g a,j,none⟩=some (.int .i64 (Y:Int))/\w'.cell? ⟨wr.heap.size,b,none⟩=some (.int .i64 (Z:Int)))
         (first|go_keep|exact⟨k1 _,k2 _,k3 _,k4 _⟩)
         (first|(go_at_call 135;refine(OP _ _ _ _).mono ?_;rintro e w' ⟨rfl,rfl⟩))
        go_wp2
        go_roundw
        case rel=>go_light;exact⟨j+1,d+nq+1,by go_num,by omega,PZ HW.out rfl M (by have:=P.out;omega)⟩
        case measure=>go_light;simp[intOf];omega
    ·have m:j=t.size+1:=by omega
     have E:Hid (∃W:ae,W=(wr.alloc (.cells (pL p t i j) 3)).drewN d):=laid ⟨_,rfl⟩;generalize K:(wr.alloc (.cells (pL p t i j) 3)).drewN d=W;have D:W.ownsRow w.heap.size 25 1 u5 i ((List.range i).map (sv t g)):=by rw[<-K];exact R.own.alloc _
     have C:∀x,x<i->re W (g x) p t x:=fun x S=>by
      rw[<-K];have:=R.rows x S;have hl:=this.lt;unfold re at *;show(wr.alloc _).heap[g x]?=_
      rw[cg wr _ hl];exact this
     have O:re W wr.heap.size p t i:=by
      rw[<-K,m];exact aT wr _
     have H:ak w.heap.size w W:=by rw[<-K];exact Go.below_drewN (B.alloc B.size _) d
     have Ec:=laid C;have HN2:=laid O;have HB:=laid R.base;have hsb:w.heap.size<=wr.heap.size:=B.size;clear K E C O R m;go_wp2_with(first
      |(at_builtin;refine cu _ rfl _ _ 162 rfl w.heap.size 25 i0 (.slice none 0 0) 1 24 Tryz.underlying162 hi qI pe pg rfl (by decide) _ _ _ rfl (D.alloc _) ⟨W.heap.size,0,none⟩ 1 1 [.slice (some ⟨wr.heap.size,0,none⟩) (t.size+1) (t.size+1)] rfl rfl ?c1 ?c2 ?c3 ?c4 ?c5 ?_)
      |go_in)
     case c1=>
      intro x u o
      match x,o with
      |0,o=>simp at o;subst o;simp[Addr.add]
     case c2=>intro u hu;simp at hu;subst hu;rfl
     case c3=>unfold aH;omega
     case c4=>omega
     case c5=>have:=H.size;simp;omega
     intro v' wz U A _;have V:ak w.heap.size w wz:=(H.alloc H.size _).grown A (by have:=H.size;simp;omega) (fun j o=>(D.lt j o).1);have Q:nW wz w.heap.size p t v' (i+1) (fun x=>if x<i then g x else wr.heap.size):=by
      have N:∀(k:Nat) (c:Array ah),W.heap[k]?=some (.cells c 3 (0,0))->wz.heap[k]?=some (.cells c 3 (0,0)):=fun k c hk=>by
       have hl:k<W.heap.size:=by
        rcases aZ k W.heap.size with h'|h'
        ·exact h'
        ·rw[c_ h']at hk;cases hk
       rw[A.block k (by simp;omega) (fun e=>Lib.ownBlock_ne D hk (by decide) e.symm),cg W _ hl];exact hk
      refine⟨?_,fun x S=>?_,fun x S=>?_⟩
      ·have l:(List.range (i+1)).map (sv t fun x=>if x<i then g x else wr.heap.size)=(List.range i).map (sv t g)++[.slice (some ⟨wr.heap.size,0,none⟩) (t.size+1) (t.size+1)]:=by
        rw[cJ,bR];congr 1
        ·apply List.map_congr_left;intro x S;rw[List.mem_range]at S;simp[sv,S]
        ·simp[sv]
       rw[l];exact U
      ·by_cases F:x<i
       ·simp only[F,if_true];exact N _ _ (Ec.out x F)
       ·have sc:x=i:=by omega
        subst sc;simp only[Nat.lt_irrefl,if_false];exact N _ _ HN2.out
      ·by_cases F:x<i
       ·simp only[F,if_true];exact HB.out x F
       ·simp only[F,if_false];exact hsb
     obtain⟨gg,cap,n',rfl⟩:∃gg cap n',v'=.slice (some ⟨gg,0,none⟩) n' cap:=by
      rcases U.2 with⟨_,h0⟩|⟨gg,cap,cur,hv,_⟩
      ·omega
      ·exact⟨gg,cap,_,hv⟩
     clear U A D;have HTZ:=laid Q;clear Q;go_wp2
     go_roundw
     case rel=>go_light;exact⟨i+1,_,by go_num,by omega,HTZ.out,V⟩
     case measure=>go_light;simp[intOf];omega
  ·have y:i=p.size+1:=by omega
   have HTA:Hid (nW wr w.heap.size p t u5 (p.size+1) g):=laid (by rw[<-y];exact R);clear y R;go_wp2
   go_ret
   exact⟨u5,g,rfl,HTA.out,B⟩
theorem nW.get{p:e9}{v:ah}(h:nW w B p t v n g)(U:0<n):
  ∃G cap,v=.slice (some ⟨G,0,none⟩) n cap/\G<w.heap.size/\∀i,i<n->w.cell? ⟨G,i,none⟩=some (.slice (some ⟨g i,0,none⟩) (t.size+1) (t.size+1)):=by
 rcases h.own.2 with⟨_,H⟩|⟨G,cap,K,Y,D,I,R⟩
 ·omega
 ·refine⟨G,cap,Y,?_,fun i A=>?_⟩
  ·rcases aZ G _ with h'|h'
   ·omega
   ·simp_all
  ·have h:=h.own.cells (by rw[Y];rfl) i (sv t g i) (by simp_all)
   rwa [sI]at h
def iX(p t:e9):=dT p t p.size t.size
theorem acg(p t:e9):iX p t<=p.size+t.size:=qp _ _ _ _
theorem Xv(p t:e9)(w:ae)(C:p.size<=100)(F:t.size<=300):
  af Tryz.prog 117 #[.string p,.string t] w fun e w'=>e=.returned (.int .i64 (iX p t:Int))/\ak w.heap.size w w':=by
 go_enter Tryz.func117,Tryz.ntmps117
 go_wp2_with fail
 refine(OV p t _ C F).mono ?_;rintro e w1 ⟨v,g,rfl,K,Y⟩;obtain⟨G,cap,rfl,A,I⟩:=K.get (by omega);have U:=I p.size (by omega);have B:=(K.rows p.size (by omega)).cell t.size (ai _);generalize R:dT p t p.size t.size=D at *;have H:=laid (show iX p t=D from R);go_wp2
 go_ret
 exact⟨qW (by rw[H.out]),Y⟩
def iZ(p t:e9)(k e:Nat)
 |0=>(k+1,0)
 |c+1=>if iX p (t.extract (e-c) e)<(iZ p t k e c).1 then(iX p (t.extract (e-c) e),e-c)else iZ p t k e c
def tries(p:e9)(k e:Nat):=min e (p.size+k)+1
def il(p t:e9)(k e:Nat):=iZ p t k e (tries p k e)
def i_(p t:e9)(k:Nat)
 |0=>[]
 |e+1=>if(il p t k e).1<=k then i_ p t k e++[((il p t k e).2,e,(il p t k e).1)]else i_ p t k e
def lT(p t:e9)(k:Nat):=i_ p t k (t.size+1)
theorem OW(p t:e9)(k e:Nat):∀c,(iZ p t k e c).1<=k+1
 |0=>ai _
 |c+1=>by
  have:=OW p t k e c;simp[iZ];split
  ·omega
  ·omega
theorem BE(p t:e9)(k e:Nat):∀c,(iZ p t k e c).2<=e
 |0=>aB _
 |c+1=>by
  have:=BE p t k e c;simp[iZ];split
  ·simp
  ·omega
theorem BV(p t:e9)(k:Nat):∀n,(i_ p t k n).length<=n
 |0=>ai _
 |n+1=>by
  have:=BV p t k n;simp[i_];split
  ·simp_all
  ·omega
def oU(L:List (Nat×Nat×Nat)):=L.flatMap fun h=>[nv h.1,nv h.2.1,nv h.2.2]
theorem Oa(L:List _)(h:Nat×Nat×Nat):oU (L++[h])=oU L++[nv h.1,nv h.2.1,nv h.2.2]:=by
 unfold oU;simp
def HT(w:ae)(b:Nat)(s e d:Nat):Prop:=w.heap[b]?=some (.cells #[.int .i64 (s:Int),.int .i64 (e:Int),.int .i64 (d:Int)] 148 (0,0))
theorem HT.c0{s e:Nat}(h:HT w b s e d):w.cell? ⟨b,0,none⟩=some (.int .i64 s):=by rw[ay w b 0 _ _ _ h];rfl
theorem HT.c1{s e:Nat}(h:HT w b s e d):w.cell? ⟨b,1,none⟩=some (.int .i64 e):=by rw[ay w b 1 _ _ _ h];rfl
theorem HT.c2{s e:Nat}(h:HT w b s e d):w.cell? ⟨b,2,none⟩=some (.int .i64 d):=by rw[ay w b 2 _ _ _ h];rfl
theorem HT.fz{s e:Nat}(h:HT w b s e d)(j:Nat):w.frozen? ⟨b,j,none⟩=false:=aQ w b j _ _ h
theorem HT.lt{s e:Nat}(h:HT w b s e d):b<w.heap.size:=by have:=aO h.c0;omega
theorem HT.below{s e:Nat}(h:HT w b s e d)(Y:ak w.heap.size w w'):HT w' b s e d:=by have:=h.lt;unfold HT at *;rw[Y.block b this];exact h
theorem HT.put{s e:Nat}(h:HT w b s e d)(s' d':Nat):HT ((w.setCell ⟨b,2,none⟩ (.int .i64 d')).setCell ⟨b,0,none⟩ (.int .i64 s')) b s' e d':=by
 unfold HT at *;have Y:=aW w b 2 _ _ (.int .i64 d') h;rw[aW _ b 0 _ _ _ Y];rfl
theorem aee:(Tryz.prog.info? 148).map (fun i=>(i.zero,i.size,i.bytes))=some (some (.agg #[.int .i64 0,.int .i64 0,.int .i64 0]),3,24):=by kernel_rfl
def mi(p t:e9)(i j:Nat):Bool:=decide (0<i)&&decide (0<j)&&decide (dT p t i j=dT p t (i-1) (j-1)+cost p t (i-1) (j-1))
def mE(p t:e9)(i j:Nat):Bool:=decide (0<i)&&decide (dT p t i j=dT p t (i-1) j+1)
def jc(p t:e9):Nat->Nat->Nat->List UInt8
 |0,_,_=>[]
 |f+1,i,j=>if i=0/\j=0 then []else if mi p t i j=true then jc p t f (i-1) (j-1)++[77]else if mE p t i j=true then jc p t f (i-1) j++[73]else jc p t f i (j-1)++[68]
def iq(p t:e9):List UInt8:=jc p t (p.size+t.size) p.size t.size
theorem H0(p t:e9)(i:Nat)(h:0<i):mE p t i 0=true:=by
 obtain⟨a,rfl⟩:∃a,i=a+1:=⟨i-1,by omega⟩;unfold mE;cases a with
 |zero=>simp[dT]
 |succ a=>simp[dT]
theorem CF{p:e9}(h:mi p t i j=true):0<i/\0<j/\dT p t i j=dT p t (i-1) (j-1)+cost p t (i-1) (j-1):=by
 unfold mi at h;simp only[cw,decide_eq_true_eq]at h;exact⟨h.1.1,h.1.2,h.2⟩
theorem CG{p:e9}(h:mE p t i j=true):0<i/\dT p t i j=dT p t (i-1) j+1:=by
 unfold mE at h;simp only[cw,decide_eq_true_eq]at h;exact h
theorem Co{p:e9}(h:mE p t i j=false)(K:¬(i=0/\j=0)):0<j:=by
 rcases bD j with rfl|H
 ·rcases bD i with rfl|Y
  ·omega
  ·rw[H0 p t i Y]at h;exact bt h
 ·omega
theorem sC(p t:e9):∀(f i j:Nat),i+j<=f->jc p t f i j=jc p t (i+j) i j
 |0,i,j,h=>by
  have:i+j=0:=by omega
  rw[this]
 |f+1,i,j,h=>by
  rcases bD (i+j)with H|H
  ·rw[H];have:i=0/\j=0:=by omega
   show jc p t (f+1) i j=[]
   rw[jc.eq_def];exact if_pos this
  ·obtain⟨n,R⟩:∃n,i+j=n+1:=⟨i+j-1,by omega⟩;rw[R,jc,jc];have Y:¬(i=0/\j=0):=by omega
   rw[if_neg Y,if_neg Y];split
   ·rename_i D;have:=CF D;rw[sC p t f (i-1) (j-1) (by omega),sC p t n (i-1) (j-1) (by omega)]
   ·split
    ·rename_i K;have:=CG K;rw[sC p t f (i-1) j (by omega),sC p t n (i-1) j (by omega)]
    ·rename_i K;have:=Co (by simpa using K) Y;rw[sC p t f i (j-1) (by omega),sC p t n i (j-1) (by omega)]
theorem Iu{p:e9}{acc:List UInt8}(Y:mi p t i j=true)(h:jc p t (i+j) i j++acc=L):jc p t (i-1+(j-1)) (i-1) (j-1)++(77::acc)=L:=by
 have H:=CF Y;obtain⟨n,K⟩:∃n,i+j=n+1:=⟨i+j-1,by omega⟩;rw[K,jc,if_neg (by omega),if_pos Y,sC p t n _ _ (by omega),bC]at h;exact h
theorem CR{p:e9}{acc:List UInt8}(K:mi p t i j=false)(Y:mE p t i j=true)(h:jc p t (i+j) i j++acc=L):jc p t (i-1+j) (i-1) j++(73::acc)=L:=by
 have D:=CG Y;obtain⟨n,H⟩:∃n,i+j=n+1:=⟨i+j-1,by omega⟩;rw[H,jc,if_neg (by omega),if_neg (by simp[K]),if_pos Y,sC p t n _ j (by omega),bC]at h;exact h
theorem CS{p:e9}{acc:List UInt8}(Y:¬(i=0/\j=0))(D:mi p t i j=false)(K:mE p t i j=false)(h:jc p t (i+j) i j++acc=L):jc p t (i+(j-1)) i (j-1)++(68::acc)=L:=by
 have R:=Co K Y;obtain⟨n,H⟩:∃n,i+j=n+1:=⟨i+j-1,by omega⟩;rw[H,jc,if_neg Y,if_neg (by simp[D]),if_neg (by simp[K]),sC p t n i _ (by omega),bC]at h;exact h
theorem Cp(p t:e9):∀(f i j:Nat),(jc p t f i j).length<=f
 |0,_,_=>by simp[jc]
 |f+1,i,j=>by
  rw[jc];split
  ·simp
  ·split
   ·have:=Cp p t f (i-1) (j-1);simp;omega
   ·split
    ·have:=Cp p t f (i-1) j;simp;omega
    ·have:=Cp p t f i (j-1);simp;omega
theorem Cq(p t:e9):(iq p t).length<=p.size+t.size:=Cp _ _ _ _ _
theorem ach(p t:e9)(w:ae)(hp:p.size<=100)(ht:t.size<=300):
  af Tryz.prog 106 #[.string p,.string t] w fun e w'=>e=.returned (.string (str (iq p t)))/\ak w.heap.size w w':=by
 go_enter Tryz.func106,Tryz.ntmps106
 go_wp2_with fail
 refine(OV p t _ hp ht).mono ?_;rintro e w1 ⟨v,g,rfl,S,z⟩;obtain⟨G,cap,rfl,vj,y⟩:=S.get (by omega);have u:=laid y;have c:=laid (fun i hi j hj=>(S.rows i hi).cell j hj);clear S y;go_wp2
 go_loopw [6,7,8] (fun sv iv r wr=>∃(i j d:Nat) (acc:List UInt8),sv=.string (str acc)/\iv=.int .i64 (i:Int)/\r=.int .i64 (j:Int)/\i<=p.size/\j<=t.size/\acc.length+i+j<=p.size+t.size/\Hid (jc p t (i+j) i j++acc=iq p t)/\wr=w1.drewN d) (fun _ iv r _=>(intOf iv).toNat+(intOf r).toNat)
 case atStart=>exact⟨p.size,t.size,0,[],rfl,rfl,rfl,ai _,ai _,by simp,laid (by simp[iq]),rfl⟩
 case round=>
  obtain⟨i,j,d,acc,rfl,rfl,rfl,Eb,JQ,m,I,rfl⟩:=hrel;have AB:(str acc).size<=1000:=by rw[h_];omega
  by_cases E:i=0/\j=0
  ·obtain⟨rfl,rfl⟩:=E;have n:Hid (str acc=str (iq p t)):=laid (by rw[<-I.out];rfl);go_wp2
   go_ret
   exact⟨lZ n.out,Go.below_drewN z d⟩
  ·by_cases O:i=0
   ·have F:0<j:=by omega
    have T4:decide ((0:Int)<(i:Int))=false:=by simp;omega
    have o:(0:Int)<(j:Int):=by omega
    have W:Hid (mi p t i j=false):=laid (by unfold mi;rw[O];rfl);have V:Hid (mE p t i j=false):=laid (by unfold mE;rw[O];rfl);have A:=laid (CS E W.out V.out I.out);have U:=laid (rR 68 acc);clear I W V E;go_wp2_with fail
    go_quiet(fail)
    rw[az];go_wp2_with fail
    go_quiet(fail)
    rw[az];go_wp2
    go_roundw
    case rel=>go_light;exact⟨i,j-1,_,68::acc,jj U.out,ib (by omega),ib (by omega),by omega,by omega,by rw[aP];omega,A,rfl⟩
    case measure=>go_light;simp[intOf];omega
   ·obtain⟨a,L⟩:∃a,i=a+1:=⟨i-1,by omega⟩;have JV:(0:Int)<(i:Int):=by omega
    have hGi:=u.out i (by omega);have h:=u.out a (by omega);have r1:=c.out i (by omega) j (by omega);have r3:=c.out a (by omega) j (by omega);have b1:(0:Int)<=(i:Int):=by omega
    have b2:(i:Int)<(p.size:Int)+1:=by omega
    have b3:(0:Int)<=(a:Int):=by omega
    have b4:(a:Int)<(p.size:Int)+1:=by omega
    have b5:(0:Int)<=(j:Int):=by omega
    have b6:(j:Int)<(t.size:Int)+1:=by omega
    have vi:au.wrap ((i:Int)-1)=(a:Int):=by rw[show(i:Int)-1=(a:Int) by omega];exact ax _ (by omega)
    have hX:dT p t i j<=1000:=by have:=qp p t i j;omega
    have hZ:dT p t a j<=1000:=by have:=qp p t a j;omega
    have z1:au.wrap ((dT p t a j:Int)+1)=(dT p t a j:Int)+1:=ax _ (by omega);have q:mE p t i j=decide (dT p t i j=dT p t a j+1):=by unfold mE;rw[L];simp
    have D:=laid q;have K:=laid L;clear q;by_cases F:j=0
    ·have o:decide ((0:Int)<(j:Int))=false:=by simp;omega
     have W:Hid (mi p t i j=false):=laid (by unfold mi;rw[F];simp);have V:Hid (mE p t i j=true):=laid (by rw[F];exact H0 p t i (by omega));have P:((dT p t i j:Int)==(dT p t a j:Int)+1)=true:=by
      have x:=V.out;rw[D.out]at x;have:=of_decide_eq_true x;simp;omega
     have A:=laid (CR W.out V.out I.out);have U:=laid (rR 73 acc);have k:=laid F;have hj9:¬(0:Int)<(j:Int):=by omega
     clear I W V D L F E O;generalize dT p t i j=X at *;generalize dT p t a j=Z at *;go_wp2_with fail
     go_quiet(fail)
     rw[az];go_wp2_with fail
     go_quiet(fail)
     rw[az];go_wp2
     go_roundw
     case rel=>go_light;exact⟨i-1,j,_,73::acc,jj U.out,ib (by have:=K.out;omega),ib (by omega),by omega,by omega,by rw[aP];have:=K.out;omega,A,rfl⟩
     case measure=>go_light;simp[intOf];have:=K.out;omega
    ·obtain⟨b,Q⟩:∃b,j=b+1:=⟨j-1,by omega⟩;have R:=laid Q;have s:=laid E;have AH:(0:Int)<(j:Int):=by omega
     have r2:=c.out a (by omega) b (by omega);have b7:(0:Int)<=(b:Int):=by omega
     have b8:(b:Int)<(t.size:Int)+1:=by omega
     have T3:(a:Int)<(p.size:Int):=by omega
     have AE:(b:Int)<(t.size:Int):=by omega
     have f:a<p.size:=by omega
     have l:b<t.size:=by omega
     have JS:=kZ p a f;have JU:=kZ t b l;have pj:au.wrap ((j:Int)-1)=(b:Int):=by rw[show(j:Int)-1=(b:Int) by omega];exact ax _ (by omega)
     have hY:dT p t a b<=1000:=by have:=qp p t a b;omega
     have M:Hid (mi p t i j=decide (dT p t i j=dT p t a b+cost p t a b)):=laid (by unfold mi;rw[L,Q];simp);have y0:au.wrap (dT p t a b:Int)=(dT p t a b:Int):=ax _ (by omega);have y1:au.wrap ((dT p t a b:Int)+1)=(dT p t a b:Int)+1:=ax _ (by omega);clear L Q E O F;generalize dT p t i j=X at *;generalize dT p t a j=Z at *;generalize dT p t a b=Y at *;go_wp2_with fail
     go_quiet((go_at_call 119;refine(Gk _ _ _).mono ?_;rintro e vk ⟨rfl,rfl⟩;exact⟨rfl,_,rfl⟩))
     rw[az];by_cases B:ag (at8 p a) (at8 t b)=true
     ·have J:Hid (cost p t a b=0):=laid (if_pos B);have H:Hid (mi p t i j=decide (X=Y+0)):=laid (by rw[M.out,J.out]);rw[B];clear J M B;by_cases C:X=Y+0
      ·have T:((X:Int)==(Y:Int))=true:=by simp;omega
       have A:=laid (Iu (by rw[H.out];exact decide_eq_true C) I.out);have U:=laid (rR 77 acc);clear I H D C;go_wp2_with fail
       go_quiet(fail)
       rw[az];go_wp2
       go_roundw
       case rel=>go_light;exact⟨i-1,j-1,_,77::acc,jj U.out,ib (by have:=K.out;omega),ib (by have:=R.out;omega),by omega,by omega,by rw[aP];have:=K.out;have:=R.out;omega,A,rfl⟩
       case measure=>go_light;simp[intOf];have:=K.out;have:=R.out;omega
      ·have T:((X:Int)==(Y:Int))=false:=by simp;omega
       by_cases N:X=Z+1
       ·have P:((X:Int)==(Z:Int)+1)=true:=by simp;omega
        have A:=laid (CR (by rw[H.out];exact decide_eq_false C) (by rw[D.out];exact decide_eq_true N) I.out);have U:=laid (rR 73 acc);clear I H D C N;go_wp2_with fail
        go_quiet(fail)
        rw[az];go_wp2_with fail
        go_quiet(fail)
        rw[az];go_wp2
        go_roundw
        case rel=>go_light;exact⟨i-1,j,_,73::acc,jj U.out,ib (by have:=K.out;omega),ib (by omega),by omega,by omega,by rw[aP];have:=K.out;omega,A,rfl⟩
        case measure=>go_light;simp[intOf];have:=K.out;omega
       ·have P:((X:Int)==(Z:Int)+1)=false:=by simp;omega
        have A:=laid (CS s.out (by rw[H.out];exact decide_eq_false C) (by rw[D.out];exact decide_eq_false N) I.out);have U:=laid (rR 68 acc);clear I H D C N;go_wp2_with fail
        go_quiet(fail)
        rw[az];go_wp2_with fail
        go_quiet(fail)
        rw[az];go_wp2
        go_roundw
        case rel=>go_light;exact⟨i,j-1,_,68::acc,jj U.out,ib (by omega),ib (by have:=R.out;omega),by omega,by omega,by rw[aP];have:=R.out;omega,A,rfl⟩
        case measure=>go_light;simp[intOf];have:=R.out;omega
     ·have J:Hid (cost p t a b=1):=laid (if_neg B);rw[ar]at B;have H:Hid (mi p t i j=decide (X=Y+1)):=laid (by rw[M.out,J.out]);rw[B];clear J M B;by_cases C:X=Y+1
      ·have T:((X:Int)==(Y:Int)+1)=true:=by simp;omega
       have A:=laid (Iu (by rw[H.out];exact decide_eq_true C) I.out);have U:=laid (rR 77 acc);clear I H D C;go_wp2_with fail
       go_quiet(fail)
       rw[az];go_wp2
       go_roundw
       case rel=>go_light;exact⟨i-1,j-1,_,77::acc,jj U.out,ib (by have:=K.out;omega),ib (by have:=R.out;omega),by omega,by omega,by rw[aP];have:=K.out;have:=R.out;omega,A,rfl⟩
       case measure=>go_light;simp[intOf];have:=K.out;have:=R.out;omega
      ·have T:((X:Int)==(Y:Int)+1)=false:=by simp;omega
       by_cases N:X=Z+1
       ·have P:((X:Int)==(Z:Int)+1)=true:=by simp;omega
        have A:=laid (CR (by rw[H.out];exact decide_eq_false C) (by rw[D.out];exact decide_eq_true N) I.out);have U:=laid (rR 73 acc);clear I H D C N;go_wp2_with fail
        go_quiet(fail)
        rw[az];go_wp2_with fail
        go_quiet(fail)
        rw[az];go_wp2
        go_roundw
        case rel=>go_light;exact⟨i-1,j,_,73::acc,jj U.out,ib (by have:=K.out;omega),ib (by omega),by omega,by omega,by rw[aP];have:=K.out;omega,A,rfl⟩
        case measure=>go_light;simp[intOf];have:=K.out;omega
       ·have P:((X:Int)==(Z:Int)+1)=false:=by simp;omega
        have A:=laid (CS s.out (by rw[H.out];exact decide_eq_false C) (by rw[D.out];exact decide_eq_false N) I.out);have U:=laid (rR 68 acc);clear I H D C N;go_wp2_with fail
        go_quiet(fail)
        rw[az];go_wp2_with fail
        go_quiet(fail)
        rw[az];go_wp2
        go_roundw
        case rel=>go_light;exact⟨i,j-1,_,68::acc,jj U.out,ib (by omega),ib (by have:=R.out;omega),by omega,by omega,by rw[aP];have:=R.out;omega,A,rfl⟩
        case measure=>go_light;simp[intOf];have:=R.out;omega
theorem Zd{p:e9}{k e c s:Nat}(Y:s+c=e)(h:iX p (t.extract s e)<(iZ p t k e c).1):iZ p t k e (c+1)=(iX p (t.extract s e),s):=by
 obtain rfl:s=e-c:=by omega
 rw[iZ,if_pos h]
theorem aaE{p:e9}{k e c s:Nat}(Y:s+c=e)(h:¬iX p (t.extract s e)<(iZ p t k e c).1):iZ p t k e (c+1)=iZ p t k e c:=by
 obtain rfl:s=e-c:=by omega
 rw[iZ,if_neg h]
theorem af5{e:aj}{v:ah}{xs:List _}(h:w.ownsRow B e z v n xs)(Y:ak w.heap.size w w'):w'.ownsRow B e z v n xs:=
 h.kept (qc Y none) (by cases v.ownBlock<;>simp)
theorem aci(p t:e9)(k:Nat)(w:ae)(hp:p.size<=100)(ht:t.size<=300)(hk:k<=100):
  af Tryz.prog 105 #[.string p,.string t,.int .i64 (k:Int)] w fun e w'=>∃v,e=.returned v/\w'.ownsRow w.heap.size 148 3 v (lT p t k).length (oU (lT p t k))/\ak w.heap.size w w':=by
 have⟨i0,hi,n,b,a⟩:=c8 aee
 go_enter Tryz.func105,Tryz.ntmps105
 go_wp2
 go_loopw [7,8] (fun v ev wr=>∃e:Nat,ev=.int .i64 (e:Int)/\e<=t.size+1/\wr.ownsRow w.heap.size 148 3 v (i_ p t k e).length (oU (i_ p t k e))/\ak w.heap.size w wr) (fun _ ev _=>t.size+1-(intOf ev).toNat)
 case atStart=>exact⟨0,rfl,aB _,eE _ _ _ _,aI _ _⟩
 case round=>
  obtain⟨e,rfl,het,N,M⟩:=hrel;obtain⟨L,hwo⟩:∃L:ae,L=wr:=⟨wr,rfl⟩;subst hwo;have hlen:=BV p t k e;by_cases pd:e<=t.size
  ·have o:∀j,u7.ownBlock=some j->j<L.heap.size:=fun j I=>(N.lt j I).2;have HBL:=laid o;clear o;go_wp2
   go_loopw [10] (fun sv w2=>∃(c:Nat) (x:Int),sv=.int .i64 x/\x+(c:Int)=(e:Int)/\c<=tries p k e/\HT w2 L.heap.size (iZ p t k e c).2 e (iZ p t k e c).1/\w2.ownsRow w.heap.size 148 3 u7 (i_ p t k e).length (oU (i_ p t k e))/\ak w.heap.size w w2) (fun sv _=>(intOf sv+1).toNat)
   case atStart=>exact⟨0,(e:Int),rfl,by simp,aB _,aT L _,N.alloc _,M.alloc M.size _⟩
   case round=>
    obtain⟨c,x,rfl,hxc,hct,J,K,Y⟩:=hrel;have AE:=OW p t k e c;have vm:=BE p t k e c;have y:tries p k e=min e (p.size+k)+1:=rfl;have q:=laid y;clear y;have c0:=J.c0;have c1:=J.c1;have c2:=J.c2;have f0:=J.fz 0;have f2:=J.fz 2;have hhl:=J.lt;have aoS:=Y.size;by_cases hcl:c<tries p k e
    ·have Z:c<=e:=by have:=q.out;omega
     have JW:c<=p.size+k:=by have:=q.out;omega
     obtain⟨s,rfl⟩:∃s:Nat,x=(s:Int):=⟨e-c,by omega⟩;have E:s+c=e:=by omega
     have g:=laid E;have rB:(e:Int)-(s:Int)<=(p.size:Int)+(k:Int):=by omega
     have hse:s<=e:=by omega
     have hES:(t.extract s e).size<=300:=by rw[bu];omega
     have Q:=laid (fun W=>Xv p (t.extract s e) W hp hES);have P:=laid (fun h=>Zd (p:=p) (t:=t) (k:=k) E h);have HN:=laid (fun h=>aaE (p:=p) (t:=t) (k:=k) E h);have JX:=acg p (t.extract s e);clear E hxc;generalize iX p (t.extract s e)=D at *;go_wp2_with fail
     generalize t.extract s e=TS at *;refine(Q.out _).mono ?_;rintro e1 w3 ⟨rfl,X⟩;have U:=J.below X;have S:=af5 K X;have C:=Y.trans (X.mono Y.size);clear X c0 c1 c2 f0 f2 Q;have d0:=U.c0;have d2:=U.c2;have g0:=U.fz 0;have g2:=U.fz 2;by_cases hd:D<(iZ p t k e c).1
     ·have G:=U.put s D;have d:w3.grownBy ((w3.setCell ⟨L.heap.size,2,none⟩ (.int .i64 (D:Int))).setCell ⟨L.heap.size,0,none⟩ (.int .i64 (s:Int))) (some L.heap.size):=gY (jH w3 _ 2 _) (jH _ _ 0 _);have f:=S.kept d (.inr (fun h=>by have:=HBL.out _ h;omega));have z:=C.grown d C.size (fun j I=>by cases I;have:=M.size;omega);have hB:=P.out hd;have B:HT ((w3.setCell ⟨L.heap.size,2,none⟩ (.int .i64 (D:Int))).setCell ⟨L.heap.size,0,none⟩ (.int .i64 (s:Int))) L.heap.size (iZ p t k e (c+1)).2 e (iZ p t k e (c+1)).1:=by rw[hB];exact G
      have O:=laid B;clear B hB G d P HN;go_wp2
      go_roundw
      case rel=>go_light;exact⟨c+1,(s:Int)-1,rfl,by have:=g.out;omega,by omega,O.out,f,z⟩
      case measure=>go_light;simp[intOf]
     ·have B:HT w3 L.heap.size (iZ p t k e (c+1)).2 e (iZ p t k e (c+1)).1:=by rw[HN.out hd];exact U
      have O:=laid B;clear B P HN;go_wp2
      go_roundw
      case rel=>go_light;exact⟨c+1,(s:Int)-1,rfl,by have:=g.out;omega,by omega,O.out,S,C⟩
      case measure=>go_light;simp[intOf]
    ·have Z:c=tries p k e:=by omega
     have T:=laid Z;by_cases xl:x<0
     ·clear Z;by_cases l:(iZ p t k e c).1<=k
      ·have P:Hid (i_ p t k (e+1)=i_ p t k e++[((iZ p t k e c).2,e,(iZ p t k e c).1)]):=laid (by rw[i_];unfold il;rw[<-T.out,if_pos l]);have y0:wr.cell? ⟨L.heap.size,0,none⟩=some (.int .i64 ((iZ p t k e c).2:Int)):=c0;generalize(iZ p t k e c).1=DD at *;generalize(iZ p t k e c).2=SS at *;go_wp2_with(first
        |(at_builtin;refine cu _ rfl _ _ 145 rfl w.heap.size 148 i0 (.agg #[.int .i64 0,.int .i64 0,.int .i64 0]) 3 24 et hi n b a rfl (by decide) _ _ _ rfl (K.alloc _) ⟨wr.heap.size,0,none⟩ 1 1 [nv SS,nv e,nv DD] rfl rfl ?c1 ?c2 ?c3 ?c4 ?c5 ?_)
        |go_in)
       case c1=>
        intro j u I
        match j,I with
        |0,I=>simp at I;subst I;simp[Addr.add,go_sem,nv]
        |1,I=>simp at I;subst I;simp[Addr.add,go_sem,nv]
        |2,I=>simp at I;subst I;simp[Addr.add,go_sem,nv]
       case c2=>first|exact⟨rfl,rfl,rfl⟩|(intro u m;simp at m;rcases m with rfl|rfl|rfl<;>rfl)
       case c3=>unfold aH;omega
       case c4=>omega
       case c5=>first|omega|(simp;omega)
       intro v' wz H A _;have F:ak w.heap.size w wz:=(Y.alloc Y.size _).grown A (by simp;omega) (fun j I=>(K.lt j I).1);have R:wz.ownsRow w.heap.size 148 3 v' (i_ p t k (e+1)).length (oU (i_ p t k (e+1))):=by
        rw[P.out,bQ,Oa];exact H
       obtain⟨V,cap,i,rfl⟩:∃V cap i,v'=.slice (some ⟨V,0,none⟩) i cap:=by
        rcases H.2 with⟨_,h0⟩|⟨V,cap,cur,hv,_⟩
        ·omega
        ·exact⟨V,cap,_,hv⟩
       clear H A K;go_wp2
       go_roundw
       case rel=>go_light;exact⟨e+1,by go_num,by omega,R,F⟩
       case measure=>go_light;simp[intOf];omega
      ·have P:Hid (i_ p t k (e+1)=i_ p t k e):=laid (by rw[i_];unfold il;rw[<-T.out,if_neg l]);have R:wr.ownsRow w.heap.size 148 3 u7 (i_ p t k (e+1)).length (oU (i_ p t k (e+1))):=by
        rw[P.out];exact K
       go_wp2
       go_roundw
       case rel=>go_light;exact⟨e+1,by go_num,by omega,R,Y⟩
       case measure=>go_light;simp[intOf];omega
     ·have rB:¬(e:Int)-x<=(p.size:Int)+(k:Int):=by have:=q.out;omega
      obtain⟨s,rfl⟩:∃s:Nat,x=(s:Int):=⟨x.toNat,by omega⟩;clear Z;by_cases l:(iZ p t k e c).1<=k
      ·have P:Hid (i_ p t k (e+1)=i_ p t k e++[((iZ p t k e c).2,e,(iZ p t k e c).1)]):=laid (by rw[i_];unfold il;rw[<-T.out,if_pos l]);have y0:wr.cell? ⟨L.heap.size,0,none⟩=some (.int .i64 ((iZ p t k e c).2:Int)):=c0;generalize(iZ p t k e c).1=DD at *;generalize(iZ p t k e c).2=SS at *;go_wp2_with(first
        |(at_builtin;refine cu _ rfl _ _ 145 rfl w.heap.size 148 i0 (.agg #[.int .i64 0,.int .i64 0,.int .i64 0]) 3 24 et hi n b a rfl (by decide) _ _ _ rfl (K.alloc _) ⟨wr.heap.size,0,none⟩ 1 1 [nv SS,nv e,nv DD] rfl rfl ?c1 ?c2 ?c3 ?c4 ?c5 ?_)
        |go_in)
       case c1=>
        intro j u I
        match j,I with
        |0,I=>simp at I;subst I;simp[Addr.add,go_sem,nv]
        |1,I=>simp at I;subst I;simp[Addr.add,go_sem,nv]
        |2,I=>simp at I;subst I;simp[Addr.add,go_sem,nv]
       case c2=>first|exact⟨rfl,rfl,rfl⟩|(intro u m;simp at m;rcases m with rfl|rfl|rfl<;>rfl)
       case c3=>unfold aH;omega
       case c4=>omega
       case c5=>first|omega|(simp;omega)
       intro v' wz H A _;have F:ak w.heap.size w wz:=(Y.alloc Y.size _).grown A (by simp;omega) (fun j I=>(K.lt j I).1);have R:wz.ownsRow w.heap.size 148 3 v' (i_ p t k (e+1)).length (oU (i_ p t k (e+1))):=by
        rw[P.out,bQ,Oa];exact H
       obtain⟨V,cap,i,rfl⟩:∃V cap i,v'=.slice (some ⟨V,0,none⟩) i cap:=by
        rcases H.2 with⟨_,h0⟩|⟨V,cap,cur,hv,_⟩
        ·omega
        ·exact⟨V,cap,_,hv⟩
       clear H A K;go_wp2
       go_roundw
       case rel=>go_light;exact⟨e+1,by go_num,by omega,R,F⟩
       case measure=>go_light;simp[intOf];omega
      ·have P:Hid (i_ p t k (e+1)=i_ p t k e):=laid (by rw[i_];unfold il;rw[<-T.out,if_neg l]);have R:wr.ownsRow w.heap.size 148 3 u7 (i_ p t k (e+1)).length (oU (i_ p t k (e+1))):=by
        rw[P.out];exact K
       go_wp2
       go_roundw
       case rel=>go_light;exact⟨e+1,by go_num,by omega,R,Y⟩
       case measure=>go_light;simp[intOf];omega
  ·have r:e=t.size+1:=by omega
   have HE:Hid (L.ownsRow w.heap.size 148 3 u7 (lT p t k).length (oU (lT p t k))):=laid (by unfold lT;rw[<-r];exact N);clear r N;go_wp2
   go_ret
   exact⟨u7,rfl,HE.out,M⟩
theorem Wx{w1:ae}(h:((w.alloc o).alloc o').grownBy w1 (some (w.heap.size+1))):ak w.heap.size w w1:=
 Below.grown (((aI _ _).alloc (ai _) o).alloc (by simp) o') h (by simp;omega) (by simp)
theorem X9(s:e9)(w:ae)(F:s.size<=aH):
  af Tryz.prog 35 #[.string s] w fun e w'=>e=.returned (.tuple #[.string (nT s),.int .i64 (oT s)])/\ak w.heap.size w w':=by
 unfold aH at F;by_cases I:200<s.size
 ·have R:nT s=⟨#[]⟩:=by unfold nT;rw[if_pos I]
  have H:oT s=1:=by unfold oT;rw[if_pos I]
  rw[R,H];clear R H;go_wp2
  go_ret2
  exact⟨rfl,(aI _ _).alloc (ai _) _⟩
 ·by_cases D:s.data.toList.all g_=true
  ·have H:oT s=0:=by unfold oT;rw[if_neg I,if_pos D]
   rw[H];clear H;have A:=laid D;clear D
   go_enter Tryz.func35,d_
   go_wp2_with fail
   refine(WO s w.heap.size (w.heap.size+1) (.string ⟨#[]⟩) _ (by omega) A.out (by simp[go_sem]) (by simp[go_sem]) (by simp[go_sem])).mono ?_;rintro e w1 ⟨rfl,U,B⟩;have C:w.heap.size+1<w1.heap.size:=by have:=B.size;simp at this;omega
   have Y:=Wx B;clear B;go_wp2
   go_quiet(fail)
   go_wp2
   go_ret2
   exact⟨rfl,Go.below_drewN (Y.alloc (by omega) _) _⟩
  ·rw[ar]at D;have R:nT s=⟨#[]⟩:=by unfold nT;rw[if_neg I,D];rfl
   have H:oT s=5:=by unfold oT;rw[if_neg I,D];rfl
   rw[R,H];clear R H;have A:=laid D;clear D
   go_enter Tryz.func35,d_
   go_wp2_with fail
   refine(Ww s w.heap.size (w.heap.size+1) _ (by omega) A.out (by simp[go_sem])).mono ?_;rintro e w1 ⟨⟨p,rfl⟩,K⟩;have C:w.heap.size+1<w1.heap.size:=by have:=K.size;simp at this;omega
   have U:w1.cell? ⟨w.heap.size+1,0,none⟩=some (.string ⟨#[]⟩):=by
    rw[K.cell (by simp)];simp[go_sem]
   have Y:ak w.heap.size w w1:=(((aI _ _).alloc (ai _) _).alloc (by simp) _).trans (K.mono (by simp;omega));clear K;go_wp2
   go_quiet(fail)
   go_wp2
   go_ret2
   exact⟨rfl,Go.below_drewN (Y.alloc (by omega) _) _⟩
end
section
open ChangeShapes WideShapes ChangeAt RowKit
def uz:List (String×DataW Unit):=Rows.checksRow.laid
theorem aaF:("internal/strconv.uint64pow10",(Lib.tabData .u64 dC:DataW Unit))∈uz:=by
 exact .tail _ (.tail _ (.head _))
theorem X_{W:ae}(h:laidMetH Tryz.prog uz W):iK W:=by
 have⟨R,t',cs,fuel,p,K,H,Y,hd⟩:=Lib.laidMet.reads h aaF;have D:dS Tryz.prog "internal/strconv.uint64pow10"=some 0:=by kernel_rfl
 have hty:((Tryz.prog).globals[0]?).map (·.type)=some 202:=by kernel_rfl
 obtain rfl:=Option.some.inj (D.symm.trans K);obtain rfl:=Option.some.inj (hty.symm.trans H);unfold iK cG;rw[Y,<-Lib.cells_of_tab Tryz.underlying202 Tryz.underlying176 (by kernel_rfl) (by kernel_rfl) hd]
theorem acj(os:Os)(args:Array ah):laidMetH Tryz.prog uz ((World.doorLaid Tryz.prog 400 os).forCall (fun _ _=>0) ⟨#[],args,[]⟩).memory:=
 laidMetH_of_parts3 (fuel:=8) (laidMet_of_run' 8 (by kernel_rfl) (by kernel_rfl)) (by kernel_rfl) (by kernel_rfl)
end
section
open ChangeShapes WideShapes ChangeAt RowKit Deep
theorem QS:Tryz.prog.cellsOf 59=7:=by kernel_rfl
theorem zG:Tryz.prog.cellsOf 3=1:=by kernel_rfl
theorem Nj:Tryz.prog.cellsOf 9=1:=by kernel_rfl
theorem qv{H:Type}{D:aj×ah->H}{W:ae}{K:Nat->Bool}{held:Bool}{cs:List ah}{x:DataW H×List MemPlace}
  (h:DataW.trod D Tryz.prog W base K held n 59 cs=some x):
  ∃o:jZ,cs=[.int .i64 o.kind,.int .i64 o.k,.int .i64 o.q,.int .i64 o.step,.int .i64 o.workers,.string o.ref,.string o.s]/\o.ref.size<=aH/\o.s.size<=maxLen:=by
 have⟨xs,m,_,_,J,O,Y⟩:=DataW.trod_struct Tryz.underlying59 h;rw[QS]at J
 match cs,J with
 |[c0,c1,c2,T,c4,V,c6],_=>
  have N:=by omega
  match xs,N with
  |[X,Z,E,G,j,z,c],_=>
   have f0:=by simpa[zG]using Y 0 _ rfl
   have f1:=by simpa[zG]using Y 1 _ rfl
   have f2:=by simpa[zG]using Y 2 _ rfl
   have L:=by simpa[zG]using Y 3 _ rfl
   have M:=by simpa[zG]using Y 4 _ rfl
   have f5:=by simpa[Nj]using Y 5 _ rfl
   have f6:=by simpa[Nj]using Y 6 _ rfl
   have⟨a0,R,_,_⟩:=bA bF f0;have⟨a1,I,_,_⟩:=bA bF f1;have⟨a2,A,_,_⟩:=bA bF f2;have⟨a3,U,_,_⟩:=bA bF L;have⟨a4,B,_,_⟩:=bA bF M;have⟨P,C,_,z5⟩:=dk cX f5;have⟨Q,F,_,S⟩:=dk cX f6;simp at R I A U B C F;subst R I A U B C F;exact⟨⟨a0,a1,a2,a3,a4,P,Q⟩,rfl,z5,S⟩
theorem af6{H:Type}{C:aj×ah->H}{W:ae}{U:Nat->Bool}{held:Bool}{fuel:Nat}{a:Option Addr}{len cap:Nat}{x:DataW H×List MemPlace}
  (h:DataW.trod C Tryz.prog W base U held fuel 22 [.slice a len cap]=some x):∃os,wh W a len cap os:=by
 rcases open_slice Tryz.underlying22 h with⟨K,_⟩|⟨ad,N,M,m,n,D,Pl,K,_,X,Z,J,_,B⟩
 ·simp at K;obtain⟨rfl,rfl,rfl⟩:=K;exact⟨fun _=>⟨0,0,0,0,0,ByteArray.empty,ByteArray.empty⟩,.inl rfl⟩
 ·simp at K;obtain⟨rfl,rfl,rfl⟩:=K;have S:len<=m:=by rw[J];split<;>omega
  have Y:∀i,i<len->∃o:jZ,(∀j,j<7->W.cell? (ad.add (i *7+j))=[aJ .i64 o.kind,.int .i64 o.k,.int .i64 o.q,.int .i64 o.step,.int .i64 o.workers,.string o.ref,.string o.s][j]?)/\o.ref.size<=aH/\o.s.size<=maxLen:=by
   intro i R;obtain⟨gS,I,T⟩:=B i (by omega);obtain⟨o,rfl,V,z2⟩:=qv T;rw[QS]at I;refine⟨o,fun j F=>?_,V,z2⟩;have:=(World.cells?_some I).2.2 j F
   rwa [add_add]at this
  by_cases O:len=0
  ·exact⟨fun _=>⟨0,0,0,0,0,ByteArray.empty,ByteArray.empty⟩,.inl O⟩
  ·have⟨b,off,sp⟩:=ad;have L:sp=none:=by
    obtain⟨o,I,_⟩:=Y 0 (by omega);have P:=I 0 (by omega);have Q:=World.cell?_spot (show W.cell? _=some (aJ .i64 o.kind) by simpa using P);simpa[Addr.add]using Q
   subst L;have A:∀j,(⟨b,off,none⟩:Addr).add j=⟨b,off+j,none⟩:=by
    intro j;unfold Addr.add;split<;>simp_all
   refine⟨fun i=>if R:i<len then(Y i R).choose else⟨0,0,0,0,0,ByteArray.empty,ByteArray.empty⟩,.inr ⟨b,off,rfl,by omega,fun i R=>?_,fun i R=>?_⟩⟩
   ·simp only[R,dif_pos];have I:=(Y i R).choose_spec.1;generalize(Y i R).choose=o at I⊢;have g:∀j,j<7->W.cell? ⟨b,off+i *7+j,none⟩=[aJ .i64 o.kind,.int .i64 o.k,.int .i64 o.q,.int .i64 o.step,.int .i64 o.workers,.string o.ref,.string o.s][j]?:=by
     intro j F;have:=I j F
     rwa [A,<-dP]at this
    exact⟨g 0 (by omega),g 1 (by omega),g 2 (by omega),g 3 (by omega),g 4 (by omega),g 5 (by omega),g 6 (by omega)⟩
   ·simp only[R,dif_pos];exact(Y i R).choose_spec.2
end
namespace Ren
theorem Gs{α:Type}:∀(x:Ask α) (w:ae),w.drawn<=(w.ask x).2.drawn
 |.done a,w=>ai _
 |.ask _ _ k,w=>by
  unfold World.ask;dsimp only;split
  ·exact Gs _ w
  ·exact aL (Nat.le_succ _) (Gs _ {w with drawn:=w.drawn+1})
theorem aaG(w:ae)(c:Sys):w.drawn<=(w.sys c).2.drawn:=by
 have:=Gs (Kernel.perform c w.os) w;unfold World.sys;split
 ·simp
 ·simp_all
theorem Wy{p:Program}{w1:ae}{u:aj}{k:Addr}{v:ah}{a:Bool}(h:w.viewStore p at_ u k v a=.ok (w1,l)):w1.drawn=w.drawn:=by
 unfold cZ at h;simp only[bind,Except.bind,bU,throwThe,bV]at h
 repeat' split at h
 all_goals first|(cases h;rfl)|(cases h)
theorem WQ{p:Program}{w1:ae}{v:ah}{at_:Bool}{l:List _}(h:w.farStore p a v at_=.ok (w1,l)):w1.drawn=w.drawn:=by
 unfold ez at h;split at h
 ·split at h
  ·rename_i e;rw[Except.ok.inj h]at e;exact Wy e
  ·cases h
 ·cases h
def _root_.Go.Result.world{α:Type}:Result α->ae
 |.ok _ w=>w
 |.halt _ w=>w
theorem Ca{α:Type}(s:Sem α):∀(w:ae),w.drawn<=(s.run P w).world.drawn:=by
 induction s with
 |pure a=>exact fun w=>ai _
 |halt h=>exact fun w=>ai _
 |load m a k Y=>
  intro w;simp only[Sem.run]
  repeat' split
  all_goals first|exact Y _ _|exact ai _
 |store m a v k Y=>
  intro w;cases v<;>simp only[Sem.run]<;>(repeat' split)<;>first
   |exact ai _
   |exact Y (w.setCell a _)
   |(rename_i e;exact aL (dQ (WQ e).symm) (Y _))
 |new o k Y=>exact fun w=>Y _ {w with heap:=w.heap.push o}
 |shape r k Y=>exact fun w=>Y _ _
 |freeze a n k Y=>
  intro w;refine aL (dQ ?_) (Y (w.freeze a n));unfold eA;split<;>rfl
 |frozen a k Y=>exact fun w=>Y _ _
 |getObj r k Y=>
  intro w;simp only[Sem.run];split
  ·exact ai _
  ·exact Y _ _
  ·exact ai _
 |setObj r o k Y=>
  intro w;simp only[Sem.run];split
  ·exact ai _
  ·exact Y {w with heap:=w.heap.setIfInBounds r o}
  ·exact ai _
 |choose q k Y=>
  intro w;simp only[Sem.run];split
  ·exact Y _ _
  ·exact aL (Nat.le_succ _) (Y _ {w with drawn:=w.drawn+1})
 |sys c k Y=>exact fun w=>aL (aaG w c) (Y _ _)
 |program k Y=>exact fun w=>Y _ _
 |mark m k Y=>exact fun w=>Y _
class gm where
 size:Nat
 iG:FuncId->Prop
 code:Code->Prop
 methods:String->Prop
 sd:Nat->Prop
 wall:Array Oper->Prop
 ro:Nat->Prop
 jJ:Nat->Nat->Prop
 rest:List Item->Prop
 jm:List aM->Prop
variable[gm]
structure Rn where
 f:Nat->Option Nat
 inj:∀b b' c,f b=some c->f b'=some c->b=b'
 jD:∀b c,f b=some c->(b<gm.size↔c<gm.size)
instance:CoeFun Rn (fun _=>Nat->Option Nat):=⟨Rn.f⟩
def Le(r s:Rn):=∀b c,r b=some c->s b=some c
theorem Le.refl(r:Rn):Le r r:=fun _ _ h=>h
theorem Le.trans{r s t:Rn}(h:Le r s)(k:Le s t):Le r t:=fun b c e=>k b c (h b c e)
structure Ad(r:Rn)(a a':Addr):Prop where
 block:r a.block=some a'.block
 off:a'.off=a.off
 spot:a'.spot=a.spot
theorem Ad.mono{r s:Rn}(h:Le r s)(k:Ad r a a'):Ad s a a':=⟨h _ _ k.block,k.off,k.spot⟩
def Hid:ah->Bool
 |.agg _|.pointer none|.nilIface|.nilFunc|.func .. |.bool _=>false
 |_=>true
inductive p0(r:Rn):Fn->Fn->Prop
 |func {f:FuncId}:gm.iG f->p0 r (.func f) (.func f)
 |method {n:String}:gm.methods n->p0 r (.method n) (.method n)
 |yield {l l':Nat}:r l=some l'->p0 r (.yield l) (.yield l')
inductive p8(r:Rn):Fn->Fn->Prop
 |func {f:FuncId}:gm.iG f->p8 r (.func f) (.func f)
 |yield {l l':Nat}:r l=some l'->p8 r (.yield l) (.yield l')
theorem p8.mono{r s:Rn}(h:Le r s){f f':Fn}(k:p8 r f f'):p8 s f f':=by
 cases k with
 |func g=>exact .func g
 |yield e=>exact .yield (h _ _ e)
theorem p8.toR{r:Rn}{f f':Fn}(k:p8 r f f'):p0 r f f':=by
 cases k with
 |func g=>exact .func g
 |yield e=>exact .yield e
theorem p0.mono{r s:Rn}(h:Le r s){f f':Fn}(k:p0 r f f'):p0 s f f':=by
 cases k with
 |func g=>exact .func g
 |method g=>exact .method g
 |yield e=>exact .yield (h _ _ e)
inductive V(r:Rn):ah->ah->Prop
 |blank {y:ah}:Hid y=true->V r (.tuple #[]) y
 |bool (b:Bool):V r (.bool b) (.bool b)
 |int (k:bB) (n:Int):V r (.int k n) (.int k n)
 |string (s:e9):V r (.string s) (.string s)
 |nilPtr:V r (.pointer none) (.pointer none)
 |ptr {a a':Addr}:Ad r a a'->V r (.pointer (some a)) (.pointer (some a'))
 |kQ (l c:Nat):V r (.slice none l c) (.slice none l c)
 |slice {a a':Addr} (l c:Nat):Ad r a a'->V r (.slice (some a) l c) (.slice (some a') l c)
 |om:V r (.map none) (.map none)
 |map {b b':Nat}:r b=some b'->V r (.map (some b)) (.map (some b'))
 |pK:V r (.chan none) (.chan none)
 |chan {b b':Nat}:r b=some b'->V r (.chan (some b)) (.chan (some b'))
 |func {fn iV:Fn} {f f' c c':Array ah}:p8 r fn iV->f.size=f'.size->(∀(i:Nat) x x',f[i]?=some x->f'[i]?=some x'->V r x x')->
   c.size=c'.size->(∀(i:Nat) x x',c[i]?=some x->c'[i]?=some x'->V r x x')->V r (.func fn f c) (.func iV f' c')
 |nilFunc:V r .nilFunc .nilFunc
 |iface (t:aj) {v v':ah}:V r v v'->V r (.iface t v) (.iface t v')
 |nilIface:V r .nilIface .nilIface
 |agg {c c':Array ah}:c.size=c'.size->(∀(i:Nat) x x',c[i]?=some x->c'[i]?=some x'->V r x x')->V r (.agg c) (.agg c')
 |tuple {c c':Array ah}:c.size=c'.size->(∀(i:Nat) x x',c[i]?=some x->c'[i]?=some x'->V r x x')->V r (.tuple c) (.tuple c')
theorem V.mono{r s:Rn}(h:Le r s)(k:V r x y):V s x y:=by
 induction k with
 |blank h=>exact .blank h
 |bool b=>exact .bool b
 |int k n=>exact .int k n
 |string s=>exact .string s
 |nilPtr=>exact .nilPtr
 |ptr a=>exact .ptr (a.mono h)
 |kQ l c=>exact .kQ l c
 |slice l c a=>exact .slice l c (a.mono h)
 |om=>exact .om
 |map e=>exact .map (h _ _ e)
 |pK=>exact .pK
 |chan e=>exact .chan (h _ _ e)
 |func n s1 _ K _ Y i2=>exact .func (n.mono h) s1 Y K i2
 |nilFunc=>exact .nilFunc
 |iface t _ i=>exact .iface t i
 |nilIface=>exact .nilIface
 |agg s _ i=>exact .agg s i
 |tuple s _ i=>exact .tuple s i
structure VA(r:Rn)(c c':Array ah):Prop where
 size:c.size=c'.size
 at_:∀(i:Nat) x x',c[i]?=some x->c'[i]?=some x'->V r x x'
structure En(r:Rn)(e e':cL):Prop where
 key:V r e.key e'.key
 val:V r e.val e'.val
 born:e'.born=e.born
inductive Tg(r:Rn):Target->Target->Prop
 |fn {f f':Fn} {c c':Array ah}:p0 r f f'->VA r c c'->Tg r (.fn f c) (.fn f' c')
 |nil:Tg r .nil .nil
 |collected {b b':Nat}:r b=some b'->Tg r (.collected b) (.collected b')
structure Df(r:Rn)(d d':aM):Prop where
 target:Tg r d.target d'.target
 args:VA r d.args d'.args
inductive DL(r:Rn):List aM->List aM->Prop
 |nil:DL r [] []
 |cons {d d':aM} {l l':List aM}:Df r d d'->DL r l l'->DL r (d::l) (d'::l')
structure Lp(r:Rn)(l l':Loop):Prop where
 state:l'.state=l.state
 pending:l'.pending=l.pending
 fn:l'.fn=l.fn
 params:l'.params=l.params
 assign:l'.assign=l.assign
 body:l'.body=l.body
 tmps:VA r l.tmps l'.tmps
 defers:r l.defers=some l'.defers
 cp:∀c,l.pending=some c->gm.code c
 ca:gm.code l.assign
 cb:gm.code l.body
inductive DO(r:Rn):Option (List aM)->Option (List aM)->Prop
 |none:DO r none none
 |some {l l':List aM}:DL r l l'->DO r (some l) (some l')
inductive O(r:Rn):Obj->Obj->Prop
 |loop {l l':Loop}:Lp r l l'->O r (.loop l) (.loop l')
 |view {a a':Addr} (t:aj):¬gm.ro a.block->Ad r a a'->O r (.view a t) (.view a' t)
 |number {a a':Addr} (l:Bool):Ad r a a'->O r (.number a l) (.number a' l)
 |deferred {d d':Option (List aM)}:DO r d d'->O r (.deferred d) (.deferred d')
 |cells {c c':Array ah} (e:aj) (fz:Nat×Nat):VA r c c'->O r (.cells c e fz) (.cells c' e fz)
 |map {es iI:Array cL} (clock:Nat):es.size=iI.size->(∀(i:Nat) x x',es[i]?=some x->iI[i]?=some x'->En r x x')->O r (.map es clock) (.map iI clock)
 |stringIter (s:e9) (p:Nat):O r (.stringIter s p) (.stringIter s p)
 |qe (a:Nat) (s:Array Nat) (n:Nat):O r (.mapIter none a s n) (.mapIter none a s n)
 |mapIter {b b':Nat} (a:Nat) (s:Array Nat) (n:Nat):r b=some b'->O r (.mapIter (some b) a s n) (.mapIter (some b') a s n)
theorem VA.mono{r s:Rn}(h:Le r s){c c':Array _}(k:VA r c c'):VA s c c':=⟨k.size,fun i x x' e e'=>(k.at_ i x x' e e').mono h⟩
theorem En.mono{r s:Rn}(h:Le r s){e e':cL}(k:En r e e'):En s e e':=⟨k.key.mono h,k.val.mono h,k.born⟩
theorem Tg.mono{r s:Rn}(h:Le r s){t t':Target}(k:Tg r t t'):Tg s t t':=by
 cases k with
 |fn f c=>exact .fn (f.mono h) (c.mono h)
 |nil=>exact .nil
 |collected e=>exact .collected (h _ _ e)
theorem Df.mono{r s:Rn}(h:Le r s){d:aM}(k:Df r d d'):Df s d d':=⟨k.target.mono h,k.args.mono h⟩
theorem DL.mono{r s:Rn}(h:Le r s){d d':List _}(k:DL r d d'):DL s d d':=by
 induction k with
 |nil=>exact .nil
 |cons x _ Y=>exact .cons (x.mono h) Y
theorem DO.mono{r s:Rn}(h:Le r s){d d':Option _}(k:DO r d d'):DO s d d':=by
 cases k with
 |none=>exact .none
 |some x=>exact .some (x.mono h)
theorem Lp.mono{r s:Rn}(h:Le r s){l l':Loop}(k:Lp r l l'):Lp s l l':=⟨k.state,k.pending,k.fn,k.params,k.assign,k.body,k.tmps.mono h,h _ _ k.defers,k.cp,k.ca,k.cb⟩
theorem O.mono{r s:Rn}(h:Le r s)(k:O r o o'):O s o o':=by
 cases k with
 |loop l=>exact .loop (l.mono h)
 |view t n a=>exact .view t n (a.mono h)
 |number l a=>exact .number l (a.mono h)
 |deferred d=>exact .deferred (d.mono h)
 |cells e fz a=>exact .cells e fz (a.mono h)
 |map Y H K=>exact .map Y H fun i x x' e e'=>(K i x x' e e').mono h
 |stringIter s p=>exact .stringIter s p
 |qe a s n=>exact .qe a s n
 |mapIter a s n e=>exact .mapIter a s n (h _ _ e)
inductive OB(r:Rn)(b:Nat):Obj->Obj->Prop
 |same {o o':Obj}:¬gm.ro b->O r o o'->OB r b o o'
 |ro {c c':Array ah} (e:aj):gm.ro b->VA r c c'->(∀i,gm.jJ b i->c[i]?=some (.tuple #[]))->OB r b (.cells c e (0,c.size)) (.cells c' e)
theorem OB.mono{r s:Rn}(h:Le r s)(k:OB r b o o'):OB s b o o':=by
 cases k with
 |same n o=>exact .same n (o.mono h)
 |ro e n a Y=>exact .ro e n (a.mono h) Y
structure W(r:Rn)(c:Nat)(v w:ae):Prop where
 obj:∀b b',r b=some b'->∃o o',v.heap[b]?=some o/\w.heap[b']?=some o'/\OB r b o o'
 gv:gm.size<=v.heap.size
 gw:gm.size<=w.heap.size
 old:∀b,gm.ro b->b<v.heap.size
 tape:∀i q,i<c->v.tape (v.drawn+i) q=w.tape (w.drawn+i) q
 env:w.os.env=v.os.env
inductive Hl(r:Rn):Halt->Halt->Prop
 |panic {v v':ah}:V r v v'->Hl r (.panic v) (.panic v')
def CU:Unsupported->Bool
 |.initOrder _=>true
 |_=>false
def rl(h:Halt):=(∃u,h=.unsupported u/\CU u=false)\/∃y,h=.stuck y
inductive SR(P:Program){α:Type}(A:Rn->α->α->Prop):Rn->Sem α->Sem α->Prop
 |pure {r:Rn} {a a':α}:A r a a'->SR P A r (.pure a) (.pure a')
 |load {r:Rn} {a a':Addr} {k k':ah->Sem α}:Ad r a a'->(∀s v v',Le r s->V s v v'->SR P A s (k v) (k' v'))->SR P A r (.load .plain a k) (.load .plain a' k')
 |store {r:Rn} {a a':Addr} {v v':ah} {k k':Sem α}:Ad r a a'->V r v v'->(∀s,Le r s->SR P A s k k')->SR P A r (.store .plain a v k) (.store .plain a' v' k')
 |new {r:Rn} {o o':Obj} {k k':Nat->Sem α}:O r o o'->(∀s b b',Le r s->s b=some b'->SR P A s (k b) (k' b'))->SR P A r (.new o k) (.new o' k')
 |shape {r:Rn} {b b':Nat} {k k':Option (aj×Nat)->Sem α}:r b=some b'->(∀s x,Le r s->SR P A s (k x) (k' x))->SR P A r (.shape b k) (.shape b' k')
 |freeze {r:Rn} {a a':Addr} (n:Nat) {k k':Sem α}:(∀b,¬gm.ro b)->Ad r a a'->(∀s,Le r s->SR P A s k k')->SR P A r (.freeze a n k) (.freeze a' n k')
 |frozen {r:Rn} {a a':Addr} {k k':Bool->Sem α}:(∀b,¬gm.ro b)->Ad r a a'->(∀s x,Le r s->SR P A s (k x) (k' x))->SR P A r (.frozen a k) (.frozen a' k')
 |getObj {r:Rn} {b b':Nat} {k k':Obj->Sem α}:r b=some b'->(∀s o o',Le r s->O s o o'->SR P A s (k o) (k' o'))->SR P A r (.getObj b k) (.getObj b' k')
 |setObj {r:Rn} {b b':Nat} {o o':Obj} {k k':Sem α}:r b=some b'->O r o o'->(∀s,Le r s->SR P A s k k')->SR P A r (.setObj b o k) (.setObj b' o' k')
 |choose {r:Rn} (q:Question) {k k':Nat->Sem α}:(∀s n,Le r s->SR P A s (k n) (k' n))->SR P A r (.choose q k) (.choose q k')
 |env {r:Rn} {k k':SysRet->Sem α}:(∀s x,Le r s->SR P A s (k x) (k' x))->SR P A r (.sys .env k) (.sys .env k')
 |program {r:Rn} {k k':Program->Sem α}:(∀s,Le r s->SR P A s (k P) (k' P))->SR P A r (.program k) (.program k')
 |mark {r:Rn} (m:Mark) {k k':Sem α}:(m=.noRoom\/∃f,m=.extern f)->(∀s,Le r s->SR P A s k k')->SR P A r (.mark m k) (.mark m k')
 |halt {r:Rn} {h h':Halt}:Hl r h h'->SR P A r (.halt h) (.halt h')
 |lost {r:Rn} {s s':Sem α}:(∀v,∃h v1,s.run P v=.halt h v1/\rl h)->SR P A r s s'
theorem SR.bind{α D:Type}{A:Rn->α->α->Prop}{B:Rn->D->D->Prop}{r:Rn}{s s':Sem α}{f f':α->Sem D}(h:SR P A r s s')
  (k:∀t a a',Le r t->A t a a'->SR P B t (f a) (f' a')):SR P B r (s.bind f) (s'.bind f'):=by
 induction h with
 |pure a=>exact k _ _ _ (.refl _) a
 |load a _ Y=>exact .load a fun t v v' l e=>Y t v v' l e fun u a a' K=>k u a a' (l.trans K)
 |store a v _ Y=>exact .store a v fun t l=>Y t l fun u a a' K=>k u a a' (l.trans K)
 |new o _ Y=>exact .new o fun t b b' l e=>Y t b b' l e fun u a a' K=>k u a a' (l.trans K)
 |shape e _ Y=>exact .shape e fun t x l=>Y t x l fun u a a' K=>k u a a' (l.trans K)
 |freeze n z a _ Y=>exact .freeze n z a fun t l=>Y t l fun u a a' K=>k u a a' (l.trans K)
 |frozen z a _ Y=>exact .frozen z a fun t x l=>Y t x l fun u a a' K=>k u a a' (l.trans K)
 |getObj e _ Y=>exact .getObj e fun t o o' l e=>Y t o o' l e fun u a a' K=>k u a a' (l.trans K)
 |setObj e o _ Y=>exact .setObj e o fun t l=>Y t l fun u a a' K=>k u a a' (l.trans K)
 |choose q _ Y=>exact .choose q fun t n l=>Y t n l fun u a a' K=>k u a a' (l.trans K)
 |env _ Y=>exact .env fun t x l=>Y t x l fun u a a' K=>k u a a' (l.trans K)
 |program _ Y=>exact .program fun t l=>Y t l fun u a a' K=>k u a a' (l.trans K)
 |mark m R _ Y=>exact .mark m R fun t l=>Y t l fun u a a' K=>k u a a' (l.trans K)
 |halt h=>exact .halt h
 |lost h=>
  refine .lost fun v=>?_;obtain⟨x,v1,e,H⟩:=h v;refine⟨x,v1,?_,H⟩;rw[Sem.run_bind',e];rfl
theorem SR.imp{α:Type}{A B:Rn->α->α->Prop}{r:Rn}{s s':Sem α}(h:SR P A r s s')(k:∀t a a',Le r t->A t a a'->B t a a'):SR P B r s s':=by
 induction h with
 |pure a=>exact .pure (k _ _ _ (.refl _) a)
 |load a _ Y=>exact .load a fun t v v' l e=>Y t v v' l e fun u a a' K=>k u a a' (l.trans K)
 |store a v _ Y=>exact .store a v fun t l=>Y t l fun u a a' K=>k u a a' (l.trans K)
 |new o _ Y=>exact .new o fun t b b' l e=>Y t b b' l e fun u a a' K=>k u a a' (l.trans K)
 |shape e _ Y=>exact .shape e fun t x l=>Y t x l fun u a a' K=>k u a a' (l.trans K)
 |freeze n z a _ Y=>exact .freeze n z a fun t l=>Y t l fun u a a' K=>k u a a' (l.trans K)
 |frozen z a _ Y=>exact .frozen z a fun t x l=>Y t x l fun u a a' K=>k u a a' (l.trans K)
 |getObj e _ Y=>exact .getObj e fun t o o' l e=>Y t o o' l e fun u a a' K=>k u a a' (l.trans K)
 |setObj e o _ Y=>exact .setObj e o fun t l=>Y t l fun u a a' K=>k u a a' (l.trans K)
 |choose q _ Y=>exact .choose q fun t n l=>Y t n l fun u a a' K=>k u a a' (l.trans K)
 |env _ Y=>exact .env fun t x l=>Y t x l fun u a a' K=>k u a a' (l.trans K)
 |program _ Y=>exact .program fun t l=>Y t l fun u a a' K=>k u a a' (l.trans K)
 |mark m H _ Y=>exact .mark m H fun t l=>Y t l fun u a a' K=>k u a a' (l.trans K)
 |halt h=>exact .halt h
 |lost h=>exact .lost h
section af7
variable{r:Rn}{c:Nat}{v w:ae}
theorem W.lt(h:W r c v w)(e:r b=some b'):b<v.heap.size/\b'<w.heap.size:=by
 have⟨o,o',Y,K,_⟩:=h.obj b b' e;exact⟨(bp.1 Y).1,(bp.1 K).1⟩
structure Out(r r1:Rn)(c c1:Nat)(v w v1 w1:ae):Prop where
 drew:v1.drawn+c1=v.drawn+c
 yq:w1.drawn+c1=w.drawn+c
 later:v.drawn<=v1.drawn
 le:Le r r1
 wl:W r1 c1 v1 w1
 grow:w.heap.size<=w1.heap.size
 I3:v.heap.size<=v1.heap.size
 kept:∀a,a<w.heap.size->(∀b,r b=some a->gm.ro b)->w1.heap[a]?=w.heap[a]?
 fresh:∀b a,r1 b=some a->r b=some a\/(w.heap.size<=a/\v.heap.size<=b)
 range:∀a,w.heap.size<=a->a<w1.heap.size->∃b,r1 b=some a
 tape:w1.tape=w.tape
 I4:v1.tape=v.tape
 os:w1.os=w.os
 output:w1.output=w.output
 T5:v1.os=v.os
 QU:v1.output=v.output
theorem Out.refl(h:W r c v w):Out r r c c v w v w:=⟨rfl,rfl,ai _,.refl _,h,ai _,ai _,fun _ _ _=>rfl,fun _ _ e=>.inl e,fun a K Y=>absurd Y (by omega),rfl,rfl,rfl,rfl,rfl,rfl⟩
theorem Out.trans{r1 r2:Rn}{c1 c2:Nat}{v1 w1 v2 w2:ae}(h:Out r r1 c c1 v w v1 w1)(k:Out r1 r2 c1 c2 v1 w1 v2 w2):Out r r2 c c2 v w v2 w2:=by
 refine⟨k.drew.trans h.drew,k.yq.trans h.yq,aL h.later k.later,h.le.trans k.le,k.wl,aL h.grow k.grow,aL h.I3 k.I3,fun a Y hr=>?_,fun b a e=>?_,fun a H D=>?_,k.tape.trans h.tape,k.I4.trans h.I4,k.os.trans h.os,k.output.trans h.output,k.T5.trans h.T5,k.QU.trans h.QU⟩
 ·rw[k.kept a (aY Y h.grow) fun b e=>?_]
  ·exact h.kept a Y hr
  ·rcases h.fresh b a e with e'|⟨e',_⟩
   ·simp_all
   ·omega
 ·rcases k.fresh b a e with e'|⟨e',K⟩
  ·exact h.fresh b a e'
  ·exact .inr ⟨aL h.grow e',aL h.I3 K⟩
 ·by_cases Y:a<w1.heap.size
  ·have⟨b,e⟩:=h.range a H Y;exact⟨b,k.le _ _ e⟩
  ·exact k.range a (by omega) D
theorem Out.set(h:W r c v w)(e:r b=some b')(D:¬gm.ro b)(U:O r o o'):
  Out r r c c v w {v with heap:=v.heap.setIfInBounds b o} {w with heap:=w.heap.setIfInBounds b' o'}:=by
 have C:=h.lt e;refine⟨rfl,rfl,ai _,.refl _,⟨fun x x' H=>?_,by simpa using h.gv,by simpa using h.gw,by simpa using h.old,h.tape,h.env⟩,by simp,by simp,fun a B hr=>?_,fun _ _ x=>.inl x,fun a I R=>absurd R (by simp;omega),rfl,rfl,rfl,rfl,rfl,rfl⟩
 ·by_cases Y:x=b
  ·subst Y;obtain rfl:x'=b':=Option.some.inj (H.symm.trans e);exact⟨o,o',by simp_all,by simp_all,.same D U⟩
  ·have K:x'≠b':=fun y=>Y (r.inj _ _ _ H (y▸e));have⟨p,p',I,R,A⟩:=h.obj x x' H;exact⟨p,p',by simp[Ne.symm Y,I],by simp[Ne.symm K,R],A⟩
 ·have:a≠b':=fun x=>D (hr b (x▸e));simp[Ne.symm this]
def ext(r:Rn)(b a:Nat)(R:∀x,r x≠some a)(C:gm.size<=b)(U:gm.size<=a):Rn where
 f:=fun x=>if x=b then some a else r x
 jD:=fun x y h=>by
  by_cases Y:x=b
  ·simp only[Y,if_true,cQ]at h;omega
  ·simp only[Y,if_false]at h;exact r.jD x y h
 inj:=fun x y z K H=>by
  by_cases Y:x=b<;>by_cases D:y=b
  ·omega
  ·simp only[Y,if_true,cQ]at K;simp only[D,if_false]at H;exact absurd (K▸H) (R y)
  ·simp only[D,if_true,cQ]at H;simp only[Y,if_false]at K;exact absurd (H▸K) (R x)
  ·simp only[Y,D,if_false]at K H;exact r.inj _ _ _ K H
theorem W.past(h:W r c v w):∀x,r x≠some w.heap.size:=fun x e=>by have:=(h.lt e).2;omega
theorem Out.new(h:W r c v w){o o':Obj}(U:O r o o'):
  Out r (ext r _ _ h.past h.gv h.gw) c c v w {v with heap:=v.heap.push o} {w with heap:=w.heap.push o'}:=by
 have le:Le r (ext r v.heap.size w.heap.size h.past h.gv h.gw):=fun b a e=>by
  have:=(h.lt e).1;show(if b=v.heap.size then some _ else r b)=some a
  rw[if_neg (by omega)];exact e
 have old:∀b a,ext r v.heap.size w.heap.size h.past h.gv h.gw b=some a->r b=some a\/(b=v.heap.size/\a=w.heap.size):=fun b a e=>by
  have e:(if b=v.heap.size then some _ else r b)=some a:=e;split at e
  ·simp_all
  simp_all
 refine⟨rfl,rfl,ai _,le,⟨fun b b' e=>?_,by have:=h.gv;simp;omega,by have:=h.gw;simp;omega,fun b I=>by have:=h.old b I;simp;omega,h.tape,h.env⟩,by simp,by simp,fun a A hr=>?_,fun b a e=>?_,fun a K Y=>⟨v.heap.size,?_⟩,rfl,rfl,rfl,rfl,rfl,rfl⟩
 ·rcases old _ _ e with x|⟨H,D⟩
  ·have⟨p,p',K,Y,R⟩:=h.obj b b' x;have:=h.lt x;exact⟨p,p',by simp only[bJ];rw[if_neg (by omega)];exact K,by simp only[bJ];rw[if_neg (by omega)];exact Y,R.mono le⟩
  ·subst H;subst D;exact⟨o,o',by simp,by simp,.same (fun hr=>by have:=h.old _ hr;omega) (U.mono le)⟩
 ·simp only[bJ];rw[if_neg (by omega)]
 ·rcases old _ _ e with x|⟨H,D⟩
  ·exact .inl x
  ·omega
 ·simp at Y;show(if v.heap.size=v.heap.size then some _ else r _)=some a
  rw[if_pos rfl];congr 1;omega
theorem Out.draw(h:W r (c+1) v w):Out r r (c+1) c v w {v with drawn:=v.drawn+1} {w with drawn:=w.drawn+1}:=
 ⟨by simp;omega,by simp;omega,by simp,.refl _,⟨h.obj,h.gv,h.gw,h.old,fun i q H=>by have:=h.tape (1+i) q (by omega);simpa[dP]using this,h.env⟩,ai _,ai _,fun _ _ _=>rfl,fun _ _ e=>.inl e,fun a K Y=>absurd Y (by simp;omega),rfl,rfl,rfl,rfl,rfl,rfl⟩
end af7
section runs
variable{r:Rn}{c:Nat}{v w:ae}
omit [gm]in
theorem modify_eq{h:Array Obj}{f:Obj->Obj}(e:h[b]?=some o):h.modify b f=h.setIfInBounds b (f o):=by
 have⟨K,R⟩:=bp.1 e;refine Array.ext (by simp) fun i H D=>?_;rw[Array.getElem_modify];by_cases Y:b=i
 ·simp_all
 ·rw[if_neg Y,Array.getElem_setIfInBounds,if_neg Y]
theorem VA.get{c c':Array _}(h:VA r c c')(e:c[i]?=some x):∃x',c'[i]?=some x'/\V r x x':=by
 have⟨Y,_⟩:=bp.1 e;have K:=h.size▸Y;exact⟨c'[i],by simp,h.at_ i x _ e (by simp)⟩
theorem VA.none{c c':Array _}(h:VA r c c')(e:c[i]?=none):c'[i]?=none:=by
 simp at e⊢;have:=h.size;omega
theorem VA.set{c c':Array _}(h:VA r c c')(i:Nat)(K:V r x x'):VA r (c.setIfInBounds i x) (c'.setIfInBounds i x'):=by
 refine⟨by simp[h.size],fun j y I e e'=>?_⟩;simp[Array.getElem?_setIfInBounds]at e e';by_cases Y:i=j
 ·simp_all
 ·rw[if_neg Y]at e e';exact h.at_ j y I e e'
theorem W.cell(h:W r c v w)(D:Ad r a a')(e:v.cell? a=some x):∃x',w.cell? a'=some x'/\V r x x':=by
 obtain⟨o,o',R,I,K⟩:=h.obj _ _ D.block;simp[bG,R]at e;simp[bG,I];have cells:∀{cs gS:Array _},VA r cs gS->(if a.spot.isSome=true then none else cs[a.off]?)=some x->∃x',(if a'.spot.isSome=true then none else gS[a'.off]?)=some x'/\V r x x':=by
  intro cs gS Y e;rw[D.spot,D.off];split at e
  ·cases e
  ·rename_i A;rw[if_neg A];exact Y.get e
 cases K with
 |ro H n Y U=>exact cells Y e
 |same n K=>
  cases K with
  |cells H fz Y=>exact cells Y e
  |_=>cases e
theorem W.noCell(h:W r c v w)(D:Ad r a a')(e:v.cell? a=none):w.cell? a'=none:=by
 obtain⟨o,o',R,I,K⟩:=h.obj _ _ D.block;simp[bG,R]at e;simp[bG,I];have cells:∀{cs gS:Array _},VA r cs gS->(if a.spot.isSome=true then none else cs[a.off]?)=none->(if a'.spot.isSome=true then none else gS[a'.off]?)=none:=by
  intro cs gS Y e;rw[D.spot,D.off];split at e
  ·simp_all
  ·rename_i A;rw[if_neg A];exact Y.none e
 cases K with
 |ro H n Y U=>exact cells Y e
 |same n K=>
  cases K with
  |cells H fz Y=>exact cells Y e
  |_=>rfl
theorem W.frozen(h:W r c v w){a a':Addr}(K:Ad r a a')(R:¬gm.ro a.block):w.frozen? a'=v.frozen? a:=by
 obtain⟨o,o',H,D,Y⟩:=h.obj _ _ K.block;simp[eB,H,D];cases Y with
 |ro I n U A=>exact absurd n R
 |same n Y=>cases Y<;>simp[K.off]
theorem W.ack(h:W r c v w)(D:Ad r a a')(R:gm.ro a.block)(e:v.cell? a=some x):v.frozen? a=true:=by
 obtain⟨o,o',Y,I,K⟩:=h.obj _ _ D.block;simp[bG,Y]at e;simp[eB,Y];cases K with
 |ro H n U A=>
  simp only at e⊢;split at e
  ·cases e
  ·have:=(bp.1 e).1;simp[this]
 |same n K=>exact absurd R n
theorem W.shape(h:W r c v w){b b':Nat}(e:r b=some b'):w.shape? b'=v.shape? b:=by
 obtain⟨o,o',D,R,Y⟩:=h.obj _ _ e;simp[World.shape?,D,R];cases Y with
 |ro H n K I=>simp[K.size]
 |same n Y=>
  cases Y with
  |cells H fz K=>simp[K.size]
  |_=>rfl
theorem OX(h:V r x x'){bs:List _}(e:x.bytes?=some bs):x'=x:=by
 cases h<;>first|rfl|(simp[Value.bytes?]at e)
theorem MJ(p:Program)(h:VA r cs gS)(e:aj):∀(f x stop:Nat) {l:List (Nat×Nat×List UInt8)},bm p cs e f x stop=.ok l->bm p gS e f x stop=.ok l
 |0,_,_,_,h'=>by simp[bm]at h'
 |f+1,x,stop,l,h'=>by
  unfold bm at h'⊢;split at h'
  ·simp_all
  ·rename_i R;rw[if_neg R];simp only at h'⊢;split at h'
   ·cases h'
   ·rename_i hw;rw[if_neg hw];split at h'
    ·omega
    ·rename_i i s A;split at h'
     ·cases h'
     ·rename_i v I;have⟨v',K,H⟩:=h.get I;rw[K];simp only;split at h'
      ·cases h'
      ·cases h'
      ·rename_i bs n D;rw[OX H D,D];simp only;cases Y:bm p cs e f _ stop with
       |error y=>rw[Y]at h';cases h'
       |ok l'=>
        rw[Y]at h';rw[MJ p h e f _ _ Y];exact h'
theorem P0(h:W r c v w)(P:Program){Jl k k':Addr}(U:Ad r at_ Jl)(Q:k'.off=k.off)(S:k'.spot=k.spot)(C:¬gm.ro at_.block)(u:aj)
  {e:aj}{fz:Nat×Nat}{first:Nat}{l:List (Nat×Nat×List UInt8)}(Y:v.seen P at_ u k false=.ok (cs,e,fz,first,like,l)):
  ∃gS,w.seen P Jl u k' false=.ok (gS,e,fz,first,like,l)/\VA r cs gS/\v.heap[at_.block]?=some (.cells cs e fz)/\w.heap[Jl.block]?=some (.cells gS e fz)/\∃d,c9 P d u k.off=some like:=by
 unfold World.seen at Y⊢;rw[Q,S,U.off,U.spot];simp only[bind,Except.bind,pure,Except.pure,bU,throwThe,bV,br,if_false]at Y⊢;cases B:(k.spot.isSome||at_.spot.isSome)with
 |true=>rw[B]at Y;simp at Y
 |false=>
  rw[B]at Y;simp only[br,if_false]at Y⊢;cases R:c9 P P.depth u k.off with
  |none=>rw[R]at Y;simp at Y
  |some K=>
   rw[R]at Y;simp only at Y⊢;cases F:K.bytes?.map (·.length)with
   |none=>rw[F]at Y;simp at Y
   |some size=>
    rw[F]at Y;cases J:byteOfCell P P.depth u k.off with
    |none=>rw[J]at Y;simp at Y
    |some V=>
     rw[J]at Y;obtain⟨o,o',N,T,A⟩:=h.obj _ _ U.block;rw[N]at Y;rw[T];cases A with
     |ro H n _ _=>exact absurd n C
     |same n A=>
      cases A with
      |cells H O D=>
       rename_i d d';by_cases L:P.cellsOf H=0
       ·simp[L]at Y
       ·simp only[L,if_false]at Y⊢;cases M:byteOfCell P P.depth H _ with
        |none=>rw[M]at Y;simp at Y
        |some b0=>
         rw[M]at Y;simp only at Y⊢;cases I:bm P d H (size+1) _ _ with
         |error y=>rw[I]at Y;simp at Y
         |ok l0=>
          rw[I]at Y;rw[MJ P D H _ _ _ I];simp only[cE,Prod.mk.injEq]at Y⊢;obtain⟨rfl,rfl,rfl,rfl,rfl,rfl⟩:=Y;exact⟨_,⟨rfl,rfl,rfl,rfl,rfl,rfl⟩,D,N,rfl,_,R⟩
      |_=>simp at Y
def Dz(P:Program):=∀d u k x,c9 P d u k=some x->(∃b,x=.bool b)\/∃k n,x=.int k n
theorem W.farLoad(h:W r c v w)(U:Dz P)(D:Ad r a a'):
  (∃x,v.farLoad P a false=.error x/\rl x)\/∃x l l',v.farLoad P a false=.ok (x,l)/\w.farLoad P a' false=.ok (x,l')/\V r x x/\∀y∈l',∃b,r b=some y.block:=by
 obtain⟨o,o',A,B,H⟩:=h.obj _ _ D.block;simp only[World.farLoad,eD,A,B];cases H with
 |ro M n N K=>exact .inl ⟨_,rfl,.inr ⟨_,rfl⟩⟩
 |same n H=>
  cases H with
  |view t n at_=>
   rename_i b b';simp only;cases Y:v.viewLoad P b t a _ with
   |error y=>exact .inl ⟨_,rfl,.inl ⟨_,rfl,rfl⟩⟩
   |ok q=>
    unfold eH at Y;simp only[bind,Except.bind]at Y;cases I:v.seen P b t a _ with
    |error y=>rw[I]at Y;simp at Y
    |ok q=>
     have⟨cs,e,fz,first,like,F⟩:=q;rw[I]at Y;simp only at Y;have⟨gS,J,O,Q,S,L,R⟩:=P0 h P at_ D.off D.spot n t I;cases K:like.ofBytes _ with
     |none=>rw[K]at Y;simp at Y
     |some y=>
      rw[K]at Y;obtain⟨rfl,rfl⟩:=Y;refine .inr ⟨y,_,F.map fun x=>{block:=b'.block,off:=x.1},rfl,?_,?_,?_⟩
      ·unfold eH;simp only[bind,Except.bind,pure,Except.pure,J,K]
      ·rcases U _ _ _ _ R with⟨b,rfl⟩|⟨k,n,rfl⟩<;>simp only[cY]at K<;>(split at K<;>first|(rw[<-Option.some.inj K];constructor)|cases K)
      ·intro y C;obtain⟨z,_,rfl⟩:=dL.1 C;exact⟨_,at_.block⟩
  |_=>exact .inl ⟨_,rfl,.inr ⟨_,rfl⟩⟩
theorem OY{X:Type}{f:Array _->X->Except String _}(D:∀cs gS x c1,VA r cs gS->f cs x=.ok c1->∃Y,f gS x=.ok Y/\VA r c1 Y):∀(l:List X) {cs gS c1:Array _},VA r cs gS->l.foldlM f cs=.ok c1->∃Y,l.foldlM f gS=.ok Y/\VA r c1 Y
 |[],cs,gS,c1,h,K=>by
  simp[List.foldlM_nil,pure,Except.pure,cE]at K⊢;simp_all
 |x::l,cs,gS,c1,h,K=>by
  simp[List.foldlM_cons,bind,Except.bind]at K⊢;cases H:f cs x with
  |error y=>rw[H]at K;simp at K
  |ok c2=>
   obtain⟨R,e,I⟩:=D _ _ _ _ h H;rw[H]at K;rw[e];exact OY D l I K
theorem W.farStore(h:W r c v w)(P:Program)(M:Ad r a a')(f:V r x x'):
  (∃y,v.farStore P a x false=.error y/\rl y)\/∃b b' o o' l l',¬gm.ro b/\r b=some b'/\O r o o'/\v.farStore P a x false=.ok ({v with heap:=v.heap.setIfInBounds b o},l)/\w.farStore P a' x' false=.ok ({w with heap:=w.heap.setIfInBounds b' o'},l')/\∀y∈l',y.block=b':=by
 obtain⟨o,o',X,Z,R⟩:=h.obj _ _ M.block;simp only[ez,eD,X,Z];cases R with
 |ro m n k I=>exact .inl ⟨_,rfl,.inr ⟨_,rfl⟩⟩
 |same n R=>
  cases R with
  |view t n at_=>
   rename_i b b';simp only;cases Y:v.viewStore P b t a x false with
   |error y=>exact .inl ⟨_,rfl,.inl ⟨_,rfl,rfl⟩⟩
   |ok q=>
    have⟨v1,l⟩:=q;unfold cZ at Y;simp only[bind,Except.bind,pure,Except.pure,bU,throwThe,bV]at Y;cases Q:tight P P.depth t with
    |false=>rw[Q]at Y;simp at Y
    |true=>
     rw[Q]at Y;simp only[cx,br,if_false]at Y;cases N:v.seen P b t a false with
     |error y=>rw[N]at Y;simp at Y
     |ok q=>
      have⟨cs,e,fz,first,like,d⟩:=q;rw[N]at Y;simp only at Y;have⟨gS,g,p,q3,q4,u,G⟩:=P0 h P at_ M.off M.spot n t N;cases I:x.bytes? with
      |none=>rw[I]at Y;simp at Y
      |some bytes=>
       have ex:=OX f I;subst ex;rw[I]at Y;simp only at Y;by_cases U:some bytes.length≠like.bytes?.map (·.length)
       ·rw[if_pos U]at Y;simp at Y
       ·rw[if_neg U]at Y;split at Y
        ·cases Y
        ·rename_i c1 L;have key:=OY (r:=r) ?_ _ p L
         ·have⟨C,A,D⟩:=key;obtain⟨rfl,rfl⟩:=Y;refine .inr ⟨b.block,b'.block,.cells c1 e fz,.cells C e fz,_,d.map fun x=>{block:=b'.block,off:=x.1},n,at_.block,.cells _ _ D,rfl,?_,fun y j=>?_⟩
          ·unfold cZ;simp only[bind,Except.bind,pure,Except.pure,bU,throwThe,bV,Q,g,I,cx,br,if_false,if_neg U,A]
          ·obtain⟨z,_,rfl⟩:=dL.1 j;rfl
         ·rintro cs gS ⟨i,s,bs⟩ c2 D K;simp only at K⊢;split at K
          ·cases K
          ·rename_i R;rw[if_neg R];split at K
           ·cases K
           ·rename_i E;rw[if_neg E];cases F:cs[i]? with
            |none=>rw[F]at K;simp at K
            |some old=>
             have⟨B,J,S⟩:=D.get F;rw[F]at K;rw[J];simp only at K⊢;cases H:old.ofBytes ((bytes.drop (s-first)).take bs.length)with
             |none=>rw[H]at K;simp at K
             |some new=>
              have T:B=old:=by cases S<;>first|rfl|(simp[cY]at H;done)
              have U:V r new new:=by cases S<;>simp only[cY]at H<;>first|cases H|(split at H<;>first|(rw[<-Option.some.inj H];constructor)|cases H)
              rw[H]at K;rw[T,H];simp only[cE]at K⊢;subst K;exact⟨_,rfl,D.set _ U⟩
  |_=>exact .inl ⟨_,rfl,.inr ⟨_,rfl⟩⟩
theorem Out.setCell(h:W r c v w)(K:Ad r a a')(Y:¬gm.ro a.block)(F:V r x x'):Out r r c c v w (v.setCell a x) (w.setCell a' x'):=by
 obtain⟨o,o',A,U,H⟩:=h.obj _ _ K.block;simp[World.setCell];rw[modify_eq A,modify_eq U];refine Out.set h K.block Y ?_;cases H with
 |ro I n D J=>exact absurd n Y
 |same n H=>
  cases H with
  |cells I fz D=>
   simp only;rw[K.spot,K.off];split
   ·exact .cells _ _ D
   ·exact .cells _ _ (D.set _ F)
  |map R C B=>exact .map R C B
  |stringIter s p=>exact .stringIter s p
  |qe a s n=>exact .qe a s n
  |mapIter a s n e=>exact .mapIter a s n e
  |loop l=>exact .loop l
  |view t n a=>exact .view t n a
  |number l a=>exact .number l a
  |deferred d=>exact .deferred d
theorem Out.freeze(h:W r c v w){a a':Addr}(D:Ad r a a')(Y:¬gm.ro a.block)(n:Nat):Out r r c c v w (v.freeze a n) (w.freeze a' n):=by
 obtain⟨o,o',A,U,K⟩:=h.obj _ _ D.block;simp[eA];split
 ·exact .refl h
 rw[modify_eq A,modify_eq U];refine Out.set h D.block Y ?_;cases K with
 |ro I n H F=>exact absurd n Y
 |same n K=>
  cases K with
  |cells I fz H=>simp[D.off];exact .cells _ _ H
  |map R C B=>exact .map R C B
  |stringIter s p=>exact .stringIter s p
  |qe a s n=>exact .qe a s n
  |mapIter a s n e=>exact .mapIter a s n e
  |loop l=>exact .loop l
  |view t n a=>exact .view t n a
  |number l a=>exact .number l a
  |deferred d=>exact .deferred d
def lX(r:Rn)(w:ae)(u:Nat)(e:aN):=
 (∃a:Addr,e.loc=.cell a/\e.sync=false/\((∃b,r b=some a.block/\(e.write=true->¬gm.ro b))\/(w.heap.size<=a.block/\a.block<u)))\/
 (∃a:Nat,e.loc=.obj a/\e.sync=false/\((∃b,r b=some a/\(e.write=true->¬gm.ro b))\/(w.heap.size<=a/\a<u)))\/
 (∃m,e.loc=.mark m/\(m=.noRoom\/∃f,m=.extern f))\/e.loc=.output
theorem lX.mono{u':Nat}(D:u<=u'){e:aN}(h:lX r w u e):lX r w u' e:=by
 rcases h with⟨a,Y,K,H⟩|⟨a,Y,K,H⟩|h
 ·exact .inl ⟨a,Y,K,H.imp id fun x=>⟨x.1,aY x.2 D⟩⟩
 ·exact .inr (.inl ⟨a,Y,K,H.imp id fun x=>⟨x.1,aY x.2 D⟩⟩)
 ·exact .inr (.inr h)
theorem lX.back{r1:Rn}{c1:Nat}{w1:ae}(o:Out r r1 c c1 v w v1 w1)(R:w1.heap.size<=u){e:aN}(h:lX r1 w1 u e):lX r w u e:=by
 have key:∀(a:Nat) (wr:Bool),((∃b,r1 b=some a/\(wr=true->¬gm.ro b))\/(w1.heap.size<=a/\a<u))->(∃b,r b=some a/\(wr=true->¬gm.ro b))\/(w.heap.size<=a/\a<u):=by
  rintro a wr (⟨b,Y,hw⟩|Y)
  ·rcases o.fresh b a Y with x|x
   ·exact .inl ⟨b,x,hw⟩
   ·exact .inr ⟨x.1,aY (o.wl.lt Y).2 R⟩
  ·exact .inr ⟨aL o.grow Y.1,Y.2⟩
 rcases h with⟨a,K,H,D⟩|⟨a,K,H,D⟩|h
 ·exact .inl ⟨a,K,H,key _ _ D⟩
 ·exact .inr (.inl ⟨a,K,H,key _ _ D⟩)
 ·exact .inr (.inr h)
inductive RR{α:Type}(A:Rn->α->α->Prop)(r:Rn)(c:Nat)(es:Array aN)(v w:ae):Result α->Result α×Array aN->Prop
 |ok {a a':α} {v1 w1:ae} {fs:Array aN} (r1:Rn) (c1:Nat):Out r r1 c c1 v w v1 w1->A r1 a a'->(∀e∈fs,e∈es\/lX r w w1.heap.size e)->RR A r c es v w (.ok a v1) (.ok a' w1,fs)
 |halt {h h':Halt} {v1 w1:ae} {fs:Array aN} (r1:Rn) (c1:Nat):Out r r1 c c1 v w v1 w1->Hl r1 h h'->(∀e∈fs,e∈es\/lX r w w1.heap.size e)->RR A r c es v w (.halt h v1) (.halt h' w1,fs)
 |lost {h:Halt} {v1:ae} {x:Result α×Array aN}:rl h->RR A r c es v w (.halt h v1) x
 |lF {x:Result α} {y:Result α×Array aN}:v.drawn+c<x.world.drawn->w.drawn+c<y.1.world.drawn->RR A r c es v w x y
theorem RR.after{α:Type}{A:Rn->α->α->Prop}{r1:Rn}{c1:Nat}{es Y:Array _}{w1:ae}{x:Result α}{x':Result α×Array _}(o:Out r r1 c c1 v w v1 w1)(K:∀e∈Y,e∈es\/lX r w 0 e)(h:RR A r1 c1 Y v1 w1 x x'):RR A r c es v w x x':=by
 have ev:∀{fs:Array _} {u:Nat},w1.heap.size<=u->(∀e∈fs,e∈Y\/lX r1 w1 u e)->∀e∈fs,e∈es\/lX r w u e:=fun D k e H=>(k e H).elim (fun x=>(K e x).imp id fun y=>y.mono (aB _)) fun x=>.inr (x.back o D);cases h with
 |ok r2 c2 o2 a f=>exact .ok r2 c2 (o.trans o2) a (ev o2.grow f)
 |halt r2 c2 o2 a f=>exact .halt r2 c2 (o.trans o2) a (ev o2.grow f)
 |lost h=>exact .lost h
 |lF h k=>exact .lF (by have:=o.drew;omega) (by have:=o.yq;omega)
theorem RR.stuck{α:Type}{A:Rn->α->α->Prop}{es:Array _}(y:String){x:Result α×Array _}:RR A r c es v w (.halt (.stuck y) v) x:=.lost (.inr ⟨_,rfl⟩)
theorem RR.here{α:Type}{A:Rn->α->α->Prop}{es Y:Array _}{x:Result α}{x':Result α×Array _}(h:W r c v w)(K:∀e∈Y,e∈es\/lX r w 0 e)(k:RR A r c Y v w x x'):RR A r c es v w x x':=k.after (.refl h) K
omit [gm]in
theorem mem_push{es:Array _}{e x:aN}(h:x∈es.push e):x∈es\/x=e:=Array.mem_push.1 h
omit [gm]in
theorem zH{es:Array _}{Q:aN->Prop}:∀e∈es,e∈es\/Q e:=fun _ h=>.inl h
theorem SR.run{α:Type}{A:Rn->α->α->Prop}(NF:Dz P){s s':Sem α}(h:SR P A r s s'):∀{c:Nat} {v w:ae} (es:Array aN),W r c v w->RR A r c es v w (s.run P v) (s'.runT P w es):=by
 induction h with
 |pure a=>exact fun es hw=>.ok _ _ (.refl hw) a zH
 |@load r a a' k k' D _ Y=>
  intro c v w es hw;simp only[Sem.run,aU];cases L:v.cell? a with
  |some x=>
   obtain⟨x',G,J⟩:=hw.cell D L;rw[G];refine(Y r x x' (.refl _) J _ hw).here hw fun e K=>?_;rcases mem_push K with K|rfl
   ·exact .inl K
   ·exact .inr (.inl ⟨a',rfl,rfl,.inl ⟨_,D.block,fun x=>by cases x⟩⟩)
  |none=>
   rw[hw.noCell D L];have X:(Mode.plain==Mode.atomic)=false:=rfl;simp only[X];rcases hw.farLoad NF D with⟨y,e,M⟩|⟨x,l,l',e,e',J,j⟩
   ·rw[e];exact .lost M
   ·rw[e,e'];simp only;refine(Y r x x (.refl _) J _ hw).here hw fun z R=>?_;rcases da.1 R with R|R
    ·exact .inl R
    ·simp only[db,dM]at R;obtain⟨y,N,rfl⟩:=R;obtain⟨b,C⟩:=j y N;exact .inr (.inl ⟨y,rfl,rfl,.inl ⟨b,C,fun x=>by cases x⟩⟩)
 |@store r a a' x x' k k' D Q _ Y=>
  intro c v w es hw;have main:(∀c,x≠.agg c)->(∀c,x≠.tuple c)->(∀c,x'≠.agg c)->(∀c,x'≠.tuple c)->RR A r c es v w ((Sem.store .plain a x k).run P v) ((Sem.store .plain a' x' k').runT P w es):=by
   intro n1 n2 n3 n4;have T:=Sem.run.eq_5 P v .plain a x k n1 n2;have V:=Sem.runT.eq_5 P w es .plain a' x' k' n3 n4;rw[T,V];cases L:v.cell? a with
   |some y=>
    obtain⟨I,f,_⟩:=hw.cell D L;rw[f];simp only;by_cases H:gm.ro a.block
    ·rw[hw.ack D H L];exact .lost (.inl ⟨_,rfl,rfl⟩)
    ·rw[hw.frozen D H];split
     ·exact .lost (.inl ⟨_,rfl,rfl⟩)
     ·refine(Y r (.refl _) _ (Out.setCell hw D H Q).wl).after (Out.setCell hw D H Q) fun e K=>?_;rcases mem_push K with K|rfl
      ·exact .inl K
      ·exact .inr (.inl ⟨a',rfl,rfl,.inl ⟨_,D.block,fun _=>H⟩⟩)
   |none=>
    rw[hw.noCell D L];have X:(Mode.plain==Mode.atomic)=false:=rfl;simp only[X];rcases hw.farStore P D Q with⟨y,e,M⟩|⟨b,b',o,o',l,l',H,C,U,e,e',j⟩
    ·rw[e];exact .lost M
    ·rw[e,e'];simp only;refine(Y r (.refl _) _ (Out.set hw C H U).wl).after (Out.set hw C H U) fun z R=>?_;rcases da.1 R with R|R
     ·exact .inl R
     ·simp only[db,dM]at R;obtain⟨y,N,rfl⟩:=R;exact .inr (.inl ⟨y,rfl,rfl,.inl ⟨b,by rw[j y N];exact C,fun _=>H⟩⟩)
  cases Q with
  |agg _ _=>exact .stuck _
  |tuple _ _=>exact .stuck _
  |blank _=>exact .stuck _
  |_=>exact main (fun _ h=>by cases h) (fun _ h=>by cases h) (fun _ h=>by cases h) (fun _ h=>by cases h)
 |@new r o o' k k' U _ Y=>
  intro c v w es hw;simp only[Sem.run,aU];have q:=Out.new hw U;exact(Y _ _ _ q.le (by show(if v.heap.size=v.heap.size then some w.heap.size else r v.heap.size)=_;rw[if_pos rfl]) es q.wl).after q zH
 |@shape r b b' k k' e _ Y=>
  intro c v w es hw;simp only[Sem.run,aU,hw.shape e];exact Y r _ (.refl _) es hw
 |@freeze r a a' n k k' z D _ Y=>
  intro c v w es hw;simp only[Sem.run,aU];exact(Y r (.refl _) es (Out.freeze hw D (z _) n).wl).after (Out.freeze hw D (z _) n) zH
 |@frozen r a a' k k' z D _ Y=>
  intro c v w es hw;simp only[Sem.run,aU,hw.frozen D (z _)];exact Y r _ (.refl _) es hw
 |@getObj r b b' k k' e _ Y=>
  intro c v w es hw;obtain⟨o,o',Z,E,B⟩:=hw.obj _ _ e;simp only[Sem.run,aU,Z,E];cases B with
  |ro S n J C=>exact .stuck _
  |same n B=>
   have go:∀{p p':Obj},O r p p'->p'.isChan=false->RR A r c es v w ((k p).run P v) ((k' p').runT P w (es.push ⟨.obj b',false,p'.isChan⟩)):=by
    intro p p' hp F;refine(Y r _ _ (.refl _) hp _ hw).here hw fun x K=>?_;rcases mem_push K with K|rfl
    ·exact .inl K
    ·exact .inr (.inr (.inl ⟨b',rfl,F,.inl ⟨_,e,fun x=>by cases x⟩⟩))
   cases B with
   |cells S fz J=>exact .stuck _
   |map g hs i=>exact go (.map g hs i) rfl
   |stringIter s p=>exact go (.stringIter s p) rfl
   |qe a s n=>exact go (.qe a s n) rfl
   |mapIter a s n e=>exact go (.mapIter a s n e) rfl
   |loop l=>exact go (.loop l) rfl
   |view t n a=>exact go (.view t n a) rfl
   |number l a=>exact go (.number l a) rfl
   |deferred d=>exact go (.deferred d) rfl
 |@setObj r b b' o o' k k' e U _ Y=>
  intro c v w es hw;obtain⟨p,p',Z,E,B⟩:=hw.obj _ _ e;simp only[Sem.run,aU,Z,E];have F:o'.isChan=false:=by cases U<;>rfl
  cases B with
  |ro S n J C=>exact .stuck _
  |same n B=>
   have go:RR A r c es v w (k.run P {v with heap:=v.heap.setIfInBounds b o}) (k'.runT P {w with heap:=w.heap.setIfInBounds b' o'} (es.push ⟨.obj b',true,o'.isChan⟩)):=by
    refine(Y r (.refl _) _ (Out.set hw e n U).wl).after (Out.set hw e n U) fun x K=>?_;rcases mem_push K with K|rfl
    ·exact .inl K
    ·exact .inr (.inr (.inl ⟨b',rfl,F,.inl ⟨_,e,fun _=>n⟩⟩))
   cases B with
   |cells S fz J=>exact .stuck _
   |_=>exact go
 |@choose r q k k' _ Y=>
  intro c v w es hw;simp only[Sem.run,aU];split
  ·exact Y r _ (.refl _) es hw
  ·cases c with
   |zero=>
    refine .lF ?_ ?_
    ·exact aY (dR _) (Ca (P:=P) (k (q.cut (v.tape v.drawn q))) {v with drawn:=v.drawn+1})
    ·rw[Sem.runT_eq];exact aY (dR _) (Ca (P:=P) (k' (q.cut (w.tape w.drawn q))) {w with drawn:=w.drawn+1})
   |succ c=>
    have:=hw.tape 0 q (by omega);simp only[Nat.add_zero]at this;rw[<-this];exact(Y r _ (.refl _) es (Out.draw hw).wl).after (Out.draw hw) zH
 |@env r k k' _ Y=>
  intro c v w es hw;have T:(Sem.sys .env k).run P v=(k (.strings v.os.env)).run P v:=rfl;have V:(Sem.sys .env k').runT P w es=(k' (.strings w.os.env)).runT P w (es.push ⟨.output,true,false⟩):=rfl;rw[T,V,hw.env];refine(Y r _ (.refl _) _ hw).here hw fun e K=>?_;rcases mem_push K with K|rfl
  ·exact .inl K
  ·exact .inr (.inr (.inr (.inr rfl)))
 |program _ Y=>exact fun es hw=>Y _ (.refl _) es hw
 |mark m N _ Y=>
  intro c v w es hw;simp only[Sem.run,aU];refine(Y _ (.refl _) _ hw).here hw fun e K=>?_;rcases mem_push K with K|rfl
  ·exact .inl K
  ·exact .inr (.inr (.inr (.inl ⟨m,rfl,N⟩)))
 |halt u=>exact fun es hw=>.halt _ _ (.refl hw) u zH
 |lost M=>
  intro c v w es hw;obtain⟨x,v1,e,h⟩:=M v;rw[e];exact .lost h
end runs
abbrev iy[gm]{α:Type}:Rn->α->α->Prop:=fun _ a b=>a=b
def qw[gm](P:Program):=∀t i z,P.info? t=some i->i.zero=some z->∀r,V r z z
section
variable[gm]{P:Program}{r:Rn}{α:Type}{A:Rn->α->α->Prop}
theorem gn(Y:String){s:Sem α}:SR P A r (stuck Y) s:=.lost fun _=>⟨_,_,rfl,.inr ⟨_,rfl⟩⟩
theorem iw(u:Unsupported)(Y:CU u=false:=by rfl){s:Sem α}:SR P A r (unsupported u) s:=.lost fun _=>⟨_,_,rfl,.inl ⟨_,rfl,Y⟩⟩
theorem vO{v:ah}(h:V r v v'):SR P A r (goPanic v) (goPanic v'):=.halt (.panic h)
theorem mX:SR P (fun _ a b=>a=P/\b=P) r program program:=.program fun _ _=>.pure ⟨rfl,rfl⟩
theorem qS(q:Question):SR P iy r (choose q) (choose q):=.choose q fun _ _ _=>.pure rfl
theorem CH(h:Ad r a a'):SR P V r (load a) (load a'):=.load h fun _ _ _ _ e=>.pure e
theorem acm(h:Ad r a a'){v:ah}(Y:V r v v'):SR P iy r (store a v) (store a' v'):=.store h Y fun _ _=>.pure rfl
theorem vW(h:O r o o'):SR P (fun r b b'=>r b=some b') r (ck o) (ck o'):=.new h fun _ _ _ _ e=>.pure e
theorem pF(h:r b=some b'):SR P iy r (shape b) (shape b'):=.shape h fun _ _ _=>.pure rfl
theorem Cb(z:∀b,¬gm.ro b)(h:Ad r a a'):SR P iy r (frozen a) (frozen a'):=.frozen z h fun _ _ _=>.pure rfl
theorem OZ(z:∀b,¬gm.ro b)(h:Ad r a a')(n:Nat):SR P iy r (freeze a n) (freeze a' n):=.freeze n z h fun _ _=>.pure rfl
theorem oh(h:r b=some b'):SR P O r (getObj b) (getObj b'):=.getObj h fun _ _ _ _ e=>.pure e
theorem tU(h:r b=some b')(Y:O r o o'):SR P iy r (setObj b o) (setObj b' o'):=.setObj h Y fun _ _=>.pure rfl
theorem F7(n:Nat):SR P iy r (bI n) (bI n):=by
 unfold bI;split
 ·exact .mark _ (.inl rfl) fun _ _=>.pure rfl
 ·exact .pure rfl
theorem qR(t:aj):SR P (fun _ i j=>i=j/\P.info? t=some i) r (typeInfo t) (typeInfo t):=by
 refine SR.bind mX ?_;rintro s p q _ ⟨Y,K⟩;rw[Y,K];cases h:P.info? t with
 |some i=>exact .pure ⟨rfl,rfl⟩
 |none=>exact gn _
theorem kv(t:aj):SR P iy r (underlying t) (underlying t):=by
 refine SR.bind mX ?_;rintro s p q _ ⟨Y,K⟩;rw[Y,K];cases h:P.underlying t with
 |some i=>exact .pure rfl
 |none=>exact gn _
theorem mI(t:aj):SR P iy r (sizeOf t) (sizeOf t):=by
 refine SR.bind (qR t) ?_;rintro s i _ _ ⟨rfl,_⟩;exact .pure rfl
theorem vT(Z:qw P)(t:aj):SR P V r (zeroValue t) (zeroValue t):=by
 refine SR.bind (qR t) ?_;rintro s i _ _ ⟨rfl,h⟩;cases Y:i.zero with
 |some z=>exact .pure (Z t i z h Y s)
 |none=>exact iw _
theorem P1(t:aj):SR P iy r (isAgg t) (isAgg t):=by
 refine SR.bind (kv t) ?_;rintro s d _ _ rfl;split<;>exact .pure rfl
theorem Gt(t:aj):SR P iy r (elemOf t) (elemOf t):=by
 refine SR.bind (kv t) ?_;rintro s d _ _ rfl;split
 ·exact .pure rfl
 ·exact gn _
theorem Ad.add(h:Ad r a a')(n:Nat):Ad r (a.add n) (a'.add n):=by
 unfold Addr.add;split
 ·exact h
 ·exact⟨h.block,by simp[h.off],rfl⟩
theorem VA.push{c c':Array _}(h:VA r c c')(D:V r x x'):VA r (c.push x) (c'.push x'):=by
 refine⟨by simp[h.size],fun i y I e e'=>?_⟩;have K:=h.size;rw[bJ]at e e';rw[<-K]at e';split at e
 ·simp_all
 ·rename_i Y;rw[if_neg Y]at e';exact h.at_ i y I e e'
theorem VA.nil:VA r #[] #[]:=⟨rfl,fun i x x' e=>by simp⟩
theorem VA.extract{c c':Array _}(h:VA r c c')(i j:Nat):VA r (c.extract i j) (c'.extract i j):=by
 have Y:=h.size;refine⟨by simp[Y],fun k x x' e e'=>?_⟩;simp only[Array.getElem?_extract,Y]at e e';split at e
 ·rename_i hk;rw[if_pos hk]at e';exact h.at_ _ x x' e e'
 ·cases e
theorem Mq:∀n i {r:Rn} {a a':Addr} {c c':Array _},Ad r a a'->VA r c c'->SR P VA r (eJ a i n c) (eJ a' i n c')
 |0,i,r,a,a',c,c',h,Y=>.pure Y
 |n+1,i,r,a,a',c,c',h,Y=>by
  refine SR.bind (CH (h.add i)) ?_;intro s v v' l K;exact Mq n _ (h.mono l) ((Y.mono l).push K)
theorem FH(n:Nat)(h:Ad r a a'):SR P VA r (loadCells a n) (loadCells a' n):=Mq n 0 h .nil
inductive VL(r:Rn):List ah->List ah->Prop
 |nil:VL r [] []
 |cons {x y:ah} {xs ys:List ah}:V r x y->VL r xs ys->VL r (x::xs) (y::ys)
theorem VL.mono{s:Rn}(h:Le r s){xs ys:List _}(k:VL r xs ys):VL s xs ys:=by
 induction k with
 |nil=>exact .nil
 |cons x _ Y=>exact .cons (x.mono h) Y
theorem VA.toList{c c':Array _}(h:VA r c c'):VL r c.toList c'.toList:=by
 obtain⟨c⟩:=c;obtain⟨c'⟩:=c';obtain⟨Y,K⟩:=h;induction c generalizing c' with
 |nil=>cases c' with
  |nil=>exact .nil
  |cons y ys=>simp at Y
 |cons x xs H=>cases c' with
  |nil=>simp at Y
  |cons y ys=>exact .cons (K 0 x y rfl rfl) (H ys (by simpa using Y) fun i a b e e'=>K (i+1) a b (by simpa using e) (by simpa using e'))
theorem VL.toArray{xs ys:List _}(h:VL r xs ys):VA r xs.toArray ys.toArray:=by
 induction h with
 |nil=>exact .nil
 |cons x _ H=>
  obtain⟨K,Y⟩:=H;simp at K Y;refine⟨by simp_all,fun i a b e e'=>?_⟩;simp at e e';cases i with
  |zero=>simp at e e';simp_all
  |succ i=>exact Y i a b e e'
theorem xF:∀{xs ys:List _} i {r:Rn} {a a':Addr},Ad r a a'->VL r xs ys->SR P iy r (cn a xs i) (cn a' ys i)
 |_,_,i,r,a,a',h,.nil=>.pure rfl
 |_,_,i,r,a,a',h,.cons x xs=>by
  refine SR.bind (acm (h.add i) x) ?_;intro s _ _ l _;exact xF _ (h.mono l) (VL.mono l xs)
theorem V.cells{x y:ah}(h:V r x y):VA r x.cells y.cells:=by
 have one:∀{x y:ah},V r x y->VA r _ _:=fun h=>(VL.toArray (.cons h .nil));cases h with
 |agg K Y=>exact⟨K,Y⟩
 |blank h=>
  have e:y.cells=#[y]:=by cases y<;>first|rfl|simp[Hid]at h
  rw[e];exact one (.blank h)
 |func a b c d e=>exact one (.func a b c d e)
 |tuple K Y=>exact one (.tuple K Y)
 |iface t h=>exact one (.iface t h)
 |ptr a=>exact one (.ptr a)
 |slice l c a=>exact one (.slice l c a)
 |map e=>exact one (.map e)
 |chan e=>exact one (.chan e)
 |bool b=>exact one (.bool b)
 |int k n=>exact one (.int k n)
 |string s=>exact one (.string s)
 |nilPtr=>exact one .nilPtr
 |kQ l c=>exact one (.kQ l c)
 |om=>exact one .om
 |pK=>exact one .pK
 |nilFunc=>exact one .nilFunc
 |nilIface=>exact one .nilIface
theorem Ob(t:aj)(h:Ad r a a'):SR P V r (loadVar t a) (loadVar t a'):=by
 refine SR.bind (P1 t) ?_;rintro s b _ l rfl;split
 ·refine SR.bind (mI t) ?_;rintro u n _ K rfl;refine SR.bind (FH n ((h.mono l).mono K)) ?_;intro q c c' _ Y;exact .pure (.agg Y.size Y.at_)
 ·exact CH (h.mono l)
theorem Ya(t:aj)(h:Ad r a a')(Y:V r x x'):SR P iy r (storeVar t a x) (storeVar t a' x'):=by
 refine SR.bind (mI t) ?_;rintro s n _ l rfl;rw[Y.cells.size];split
 ·refine SR.bind (gn (A:=iy) _) ?_;rintro u _ _ K rfl;exact xF 0 ((h.mono l).mono K) ((Y.cells.toList.mono l).mono K)
 ·exact xF 0 (h.mono l) (Y.cells.toList.mono l)
theorem vF(t:aj){c c':Array _}(h:VA r c c'):SR P Ad r (newRow t c) (newRow t c'):=by
 refine SR.bind (vW (.cells t _ h)) ?_;intro s b b' l e;exact .pure ⟨e,rfl,rfl⟩
theorem Gu(t:aj)(h:V r x x'):SR P Ad r (newVar t x) (newVar t x'):=vF t h.cells
theorem QV(t:aj){c c':Array _}(h:VA r c c')(o:Nat):SR P V r (part t c o) (part t c' o):=by
 refine SR.bind (P1 t) ?_;rintro s b _ l rfl;split
 ·refine SR.bind (mI t) ?_;rintro u n _ H rfl;have q:=((h.mono l).mono H).extract o (o+n);exact .pure (.agg q.size q.at_)
 ·cases Y:c[o]? with
  |some x=>
   have⟨x',e,K⟩:=h.get Y;rw[e];exact .pure (K.mono l)
  |none=>exact gn _
end
section
variable[gm]{P:Program}{r:Rn}{α:Type}{A:Rn->α->α->Prop}
theorem VA.one(h:V r x y):VA r #[x] #[y]:=(VL.toArray (.cons h .nil))
theorem VA.two(h:V r x y)(h':V r x' I):VA r #[x,x'] #[y,I]:=(VL.toArray (.cons h (.cons h' .nil)))
theorem VA.three{x2 y2:ah}(h:V r x y)(h':V r x' I)(Y:V r x2 y2):VA r #[x,x',x2] #[y,I,y2]:=(VL.toArray (.cons h (.cons h' (.cons Y .nil))))
theorem V.Da{c c':Array _}(h:VA r c c'):V r (.agg c) (.agg c'):=.agg h.size h.at_
theorem V.rT{c c':Array _}(h:VA r c c'):V r (.tuple c) (.tuple c'):=.tuple h.size h.at_
def P2:dU->Prop
 |.bounds .. |.error _|.plain _|.nilDeref=>True
 |_=>False
theorem mr{e:dU}(h:P2 e):SR P A r (eL e) (eL e):=by
 refine SR.bind mX ?_;rintro s p q _ ⟨Y,K⟩;rw[Y,K];cases e with
 |bounds x y sg c=>exact vO (.iface _ (.Da (VL.toArray (.cons (.int _ _) (.cons (.int _ _) (.cons (.bool _) (.cons (.int _ _) .nil)))))))
 |error m=>exact vO (.iface _ (.string _))
 |plain m=>exact vO (.iface _ (.string _))
 |nilDeref=>exact vO (.iface _ (.string _))
 |typeAssertion=>exact h.elim
 |panicNil=>exact h.elim
 |unhashable=>exact h.elim
theorem zi(k:bB)(x y:Int)(c:cy):SR P A r (bk k x y c) (bk k x y c):=by
 unfold bk;split
 ·refine SR.bind (A:=iy) (SR.bind (qS _) fun s a b _ e=>e▸ .pure rfl) ?_;rintro s a _ _ rfl;exact mr trivial
 ·refine SR.bind (A:=iy) (.pure rfl) ?_;rintro s a _ _ rfl;exact mr trivial
theorem BW(h:V r x x'):SR P iy r (asIntOf x) (asIntOf x'):=by
 cases h with
 |int k n=>exact .pure rfl
 |ptr a=>exact iw _
 |_=>exact gn _
theorem xY(h:V r x x'):SR P iy r (asInt x) (asInt x'):=by
 exact SR.bind (BW h) fun s a b _ e=>e▸ .pure rfl
theorem O0(h:V r x x'):SR P iy r (asBool x) (asBool x'):=by
 cases h with
 |bool b=>exact .pure rfl
 |_=>exact gn _
theorem acn(h:V r x x'):SR P VA r (asAgg x) (asAgg x'):=by
 cases h with
 |agg s i=>exact .pure ⟨s,i⟩
 |_=>exact gn _
theorem O1(h:V r x x'):SR P Ad r (asAddr x) (asAddr x'):=by
 cases h with
 |ptr a=>exact .pure a
 |nilPtr=>exact mr (e:=.nilDeref) trivial
 |_=>exact gn _
theorem zr(h:V r x x'):SR P Ad r (dB x) (dB x'):=by
 cases h with
 |ptr a=>exact .pure a
 |_=>exact gn _
theorem af8(t:aj)(h:V r x x'):SR P V r (Instr.box t x) (Instr.box t x'):=
 SR.bind (Gu t h) fun s a b _ e=>.pure (.ptr e)
theorem aco(Z:qw P)(t:aj):SR P V r (Instr.alloc t true (.tuple #[])) (Instr.alloc t true (.tuple #[])):=by
 refine SR.bind (vT Z t) fun s a b _ e=>?_;exact SR.bind (Gu t e) fun s a b _ e=>.pure (.ptr e)
theorem aaH(t:aj)(h:V r x x'):SR P V r (dt t x) (dt t x'):=
 SR.bind (zr h) fun s a b _ e=>Ob t e
theorem Ze(t:aj)(h:V r x x')(Y:V r y I):SR P iy r (dA t x y) (dA t x' I):=
 SR.bind (zr h) fun s a b l e=>Ya t e (Y.mono l)
theorem Zf(h:V r x x')(i:Nat):SR P V r (Instr.extract x i) (Instr.extract x' i):=by
 cases h with
 |tuple s K=>
  rename_i c c';have q:VA r c c':=⟨s,K⟩;simp[Instr.extract];cases Y:c[i]? with
  |some y=>have⟨I,e,H⟩:=q.get Y;rw[e];exact .pure H
  |none=>exact gn _
 |_=>exact gn _
theorem Wq(t:aj)(h:V r x x'):SR P V r (dv t x) (dv t x'):=by
 refine SR.bind (kv t) ?_;rintro s d _ l rfl;split
 ·exact gn _
 ·exact .pure (.iface t (h.mono l))
theorem acp(t:aj)(h:V r x x')(i:Nat):SR P V r (Instr.field t x i) (Instr.field t x' i):=by
 refine SR.bind (kv t) ?_;rintro s d _ l rfl;split
 ·split
  ·exact SR.bind (acn (h.mono l)) fun _ _ _ _ e=>QV _ e _
  ·exact gn _
 ·exact gn _
theorem acr(t:aj)(h:V r x x')(R:V r y I):SR P V r (Instr.index t x y) (Instr.index t x' I):=by
 refine SR.bind (BW R) ?_;rintro s ⟨k,i⟩ _ l rfl;refine SR.bind (kv t) ?_;rintro u d _ A rfl;have K:=(h.mono l).mono A;cases d with
 |array len Y=>
  cases K with
  |agg D H=>
   simp only;split
   ·exact SR.bind (mI _) fun w a b U e=>e▸QV _ (VA.mono U ⟨D,H⟩) _
   ·exact zi ..
  |_=>exact gn _
 |string=>
  cases K with
  |string b=>
   simp only;split
   ·exact .pure (.int _ _)
   ·exact zi ..
  |_=>exact gn _
 |_=>exact gn _
def VW(r:Rn)(x y:Option (Addr×aj)):=(x=none/\y=none)\/∃a a' t,x=some (a,t)/\y=some (a',t)/\Ad r a a'
theorem Cc(h:r b=some b'):SR P VW r (viewAt b) (viewAt b'):=by
 refine SR.bind (pF h) ?_;rintro s x _ l rfl;split
 ·exact .pure (.inl ⟨rfl,rfl⟩)
 ·refine SR.bind (oh (l _ _ h)) ?_;intro u o o' _ Y;cases Y with
  |view t n a=>exact .pure (.inr ⟨_,_,_,rfl,rfl,a⟩)
  |_=>exact .pure (.inl ⟨rfl,rfl⟩)
theorem Gw(h:Ad r a a'):SR P iy r (noView a) (noView a'):=by
 refine SR.bind (Cc h.block) ?_;rintro s x y l (⟨rfl,rfl⟩|⟨_,_,_,rfl,rfl,_⟩)
 ·exact .pure rfl
 ·exact iw _
theorem vG(h:Ad r a a'):SR P iy r (byteOf a) (byteOf a'):=by
 unfold byteOf;rw[h.spot,h.off];dsimp only;split
 ·exact .pure rfl
 ·refine SR.bind mX ?_;rintro s p q l ⟨Y,K⟩;rw[Y,K];refine SR.bind (Gw (h.mono l)) ?_;rintro u _ _ H _;refine SR.bind (pF ((h.mono l).mono H).block) ?_;rintro w x _ D rfl;split
  ·split
   ·exact .pure rfl
   ·split
    ·exact .pure rfl
    ·exact gn _
  ·exact gn _
theorem aaI(h:Ad r a a')(c b:Nat):SR P Ad r (partAt a c b) (partAt a' c b):=by
 refine SR.bind (vG h) ?_;rintro s x _ l rfl;have Y:Ad s {block:=a.block,off:=a.off+c} {block:=a'.block,off:=a'.off+c}:=⟨l _ _ h.block,by simp[h.off],rfl⟩;refine SR.bind (vG Y) ?_;rintro u y _ K rfl;split
 ·exact .pure (Y.mono K)
 ·exact .pure ⟨K _ _ Y.block,Y.off,rfl⟩
theorem W5(h:Ad r a a')(f:Field):SR P Ad r (fieldPlace a f) (fieldPlace a' f):=by
 refine SR.bind (mI _) ?_;rintro s n _ l rfl;split
 ·exact aaI (h.mono l) _ _
 ·exact .pure ((h.mono l).add _)
theorem Zg(t:aj)(h:V r x x')(i:Nat):SR P V r (dp t x i) (dp t x' i):=by
 refine SR.bind (kv t) ?_;rintro s d _ l rfl;split
 ·split
  ·refine SR.bind (zr (h.mono l)) fun u a b Y e=>?_;exact SR.bind (W5 e _) fun w a b _ e=>.pure (.ptr e)
  ·exact gn _
 ·exact gn _
theorem MZ(t Y:aj)(k:bB)(i:Int)(len:Nat)(h:Ad r a a')(f:TypeDesc->Bool):
  SR P V r (do let d<-underlying t;if 0<=i/\i<len then(do let n<-sizeOf Y;pure (Value.pointer (some (a.add (i.toNat *n)))))else if(decide (len<=1)&&f d)=true then unsupported (.noEntry "op/indexAddr.an index out of range at an array of length 0 or 1 (ledger 616)")else bk k i len .index)
   (do let d<-underlying t;if 0<=i/\i<len then(do let n<-sizeOf Y;pure (Value.pointer (some (a'.add (i.toNat *n)))))else if(decide (len<=1)&&f d)=true then unsupported (.noEntry "op/indexAddr.an index out of range at an array of length 0 or 1 (ledger 616)")else bk k i len .index):=by
 refine SR.bind (kv t) ?_;rintro s d _ l rfl;split
 ·refine SR.bind (mI _) ?_;rintro u n _ K rfl;exact .pure (.ptr (((h.mono l).mono K).add _))
 ·split
  ·exact iw _
  ·exact zi ..
theorem Zh(t:aj)(h:V r x x')(D:V r y I):SR P V r (dq t x y) (dq t x' I):=by
 refine SR.bind (BW D) ?_;rintro s ⟨k,i⟩ _ l rfl;refine SR.bind (kv t) ?_;rintro u d _ H rfl;have K:=(h.mono l).mono H;cases d with
 |array len Y=>
  refine SR.bind (zr K) fun w a b R e=>?_;exact MZ t _ k i len e _
 |slice Y=>
  cases K with
  |slice len cap e=>exact MZ t _ k i len e _
  |kQ len cap=>
   show SR P V u (underlying t >>= fun _=>bk k i 0 _) _
   exact SR.bind (kv t) fun _ _ _ _ _=>zi ..
  |_=>exact SR.lost fun _=>⟨_,_,rfl,.inr ⟨_,rfl⟩⟩
 |_=>exact SR.lost fun _=>⟨_,_,rfl,.inr ⟨_,rfl⟩⟩
theorem W6(h:V r x x')(y:Nat)(c:cy):SR P iy r (bO x y c) (bO x' y c):=by
 refine SR.bind (BW h) ?_;rintro s ⟨k,i⟩ _ l rfl;dsimp only;split
 ·exact .pure rfl
 ·exact zi ..
inductive VO(r:Rn):Option ah->Option ah->Prop
 |none:VO r none none
 |some {x y:ah}:V r x y->VO r (some x) (some y)
theorem VO.mono{s:Rn}(h:Le r s){x y:Option _}(k:VO r x y):VO s x y:=by
 cases k with
 |none=>exact .none
 |some e=>exact .some (e.mono h)
theorem VO.isSome{x y:Option _}(k:VO r x y):y.isSome=x.isSome:=by cases k<;>rfl
theorem zj(b:Bool)(len cap:Nat){M R J D N U:Option _}(O:VO r M R)(F:VO r J D)(C:VO r N U):
  SR P iy r (dz b len cap M J N) (dz b len cap R D U):=by
 have step:∀{H:Type} {B:Rn->H->H->Prop} {s:Rn} {x x':ah} (l:Le r s) (h:V r x x') (y:Nat) (c:cy) {f f':Nat->Sem H},(∀t n,Le r t->SR P B t (f n) (f' n))->
   SR P B s (bO x y c >>= f) (bO x' y c >>= f'):=
  by
  intro H B s x x' l h y c f f' k;refine SR.bind (W6 (h.mono l) y c) fun t a b lt e=>?_;obtain rfl:a=b:=e;exact k t a (l.trans lt)
 cases O with
 |none=>cases F with
  |none=>cases C with
   |none=>exact .pure rfl
   |some Y=>exact step (.refl _) Y _ _ fun t n l=>SR.lost fun _=>⟨_,_,rfl,.inr ⟨_,rfl⟩⟩
  |some K=>cases C with
   |none=>exact step (.refl _) K _ _ fun t n l=>.pure rfl
   |some Y=>exact step (.refl _) Y _ _ fun t n l=>step l K _ _ fun t n l=>.pure rfl
 |some I=>cases F with
  |none=>cases C with
   |none=>exact step (.refl _) I _ _ fun t n l=>.pure rfl
   |some Y=>exact step (.refl _) Y _ _ fun t n l=>SR.lost fun _=>⟨_,_,rfl,.inr ⟨_,rfl⟩⟩
  |some K=>cases C with
   |none=>exact step (.refl _) K _ _ fun t n l=>step l I _ _ fun t n l=>.pure rfl
   |some Y=>exact step (.refl _) Y _ _ fun t n l=>step l K _ _ fun t n l=>step l I _ _ fun t n l=>.pure rfl
theorem acs(t:aj)(h:V r x x'){lo T6 hi AJ mx T7:Option ah}(D:VO r lo T6)(R:VO r hi AJ)(U:VO r mx T7):
  SR P V r (Instr.slice t x lo hi mx) (Instr.slice t x' T6 AJ T7):=by
 refine SR.bind (kv t) ?_;rintro s d _ l rfl;have I:=h.mono l;cases d with
 |string=>
  cases I with
  |string b=>
   dsimp only;rw[U.isSome];split
   ·exact SR.lost fun _=>⟨_,_,rfl,.inr ⟨_,rfl⟩⟩
   ·refine SR.bind (zj _ _ _ (D.mono l) (R.mono l) .none) ?_;rintro u ⟨a,b,c⟩ _ Y rfl;exact .pure (.string _)
  |_=>exact gn _
 |slice H=>
  cases I with
  |slice len cap e=>
   refine SR.bind (zj _ _ _ (D.mono l) (R.mono l) (U.mono l)) ?_;rintro u ⟨a,b,c⟩ _ Y rfl;refine SR.bind (mI _) ?_;rintro w n _ K rfl;split
   ·exact .pure (.slice _ _ ((e.mono Y).mono K))
   ·exact .pure (.slice _ _ (((e.mono Y).mono K).add _))
  |kQ len cap=>
   refine SR.bind (zj _ _ _ (D.mono l) (R.mono l) (U.mono l)) ?_;rintro u ⟨a,b,c⟩ _ Y rfl;refine SR.bind (mI _) ?_;rintro w n _ K rfl;split<;>exact .pure (.kQ _ _)
  |_=>exact gn _
 |pointer arr=>
  refine SR.bind (O1 I) fun u a a' Y e=>?_;refine SR.bind (kv arr) ?_;rintro w d _ K rfl;cases d with
  |array n H=>
   refine SR.bind (zj _ _ _ (((D.mono l).mono Y).mono K) (((R.mono l).mono Y).mono K) (((U.mono l).mono Y).mono K)) ?_;rintro z ⟨a1,F,c1⟩ _ C rfl;refine SR.bind (mI _) ?_;rintro y n _ B rfl;have A:=((e.mono K).mono C).mono B;split
   ·exact .pure (.slice _ _ A)
   ·exact .pure (.slice _ _ (A.add _))
  |_=>exact gn _
 |_=>exact gn _
theorem Zi(t:aj)(h:V r x x'){M K J Y N D:Option _}(U:VO r M K)(C:VO r J Y)(F:VO r N D):
  SR P V r (dy t x M J N) (dy t x' K Y D):=by
 refine SR.bind (kv t) ?_;rintro s d _ l rfl;have A:=h.mono l;split
 ·rename_i n I;refine SR.bind (zr A) fun u a a' H e=>?_;refine SR.bind (zj _ _ _ ((U.mono l).mono H) ((C.mono l).mono H) ((F.mono l).mono H)) ?_;rintro z ⟨a1,O,c1⟩ _ L rfl;refine SR.bind (mI _) ?_;rintro y n _ B rfl;have R:=(e.mono L).mono B;split
  ·exact .pure (.slice _ _ R)
  ·exact .pure (.slice _ _ (R.add _))
 ·exact acs t A (U.mono l) (C.mono l) (F.mono l)
end
section
variable[gm]{P:Program}{r:Rn}{α:Type}{A:Rn->α->α->Prop}
theorem VA.append{a a' b b':Array _}(h:VA r a a')(k:VA r b b'):VA r (a++b) (a'++b'):=by
 refine⟨by simp[h.size,k.size],fun i x x' e e'=>?_⟩;have K:=h.size;rw[Array.getElem?_append]at e e';rw[<-K]at e';split at e
 ·rename_i Y;rw[if_pos Y]at e';exact h.at_ i x x' e e'
 ·rename_i Y;rw[if_neg Y]at e';exact k.at_ _ x x' e e'
theorem VA.Db{z Y:Array _}(h:VA r z Y)(n:Nat):VA r ((Array.range n).map (z[· %z.size]!)) ((Array.range n).map (Y[· %Y.size]!)):=by
 refine⟨by simp,fun i x x' e e'=>?_⟩;simp only[Array.getElem?_map,Array.getElem?_range,Option.map_eq_some_iff]at e e';obtain⟨j,H,rfl⟩:=e;obtain⟨C,K,rfl⟩:=e';split at H
 ·rename_i I;rw[if_pos I]at K;obtain rfl:=Option.some.inj H;obtain rfl:=Option.some.inj K;have A:=h.size;by_cases U:z.size=0
  ·rw[getElem!_neg z _ (by omega),getElem!_neg Y _ (by omega)];exact .bool _
  have D:0<z.size:=by omega
  have R:i%z.size<z.size:=Nat.mod_lt _ D;have B:i%Y.size<Y.size:=Nat.mod_lt _ (A▸D);refine h.at_ (i%z.size) _ _ (by simp[R]) ?_;simp_all
 ·cases H
theorem VA.bytes(b:e9):VA r (b.data.map fun b=>aJ .u8 b.toNat) (b.data.map fun b=>aJ .u8 b.toNat):=by
 refine⟨rfl,fun i x x' e e'=>?_⟩;obtain rfl:x=x':=Option.some.inj (e.symm.trans e');simp at e;obtain⟨_,_,rfl⟩:=e;exact .int _ _
theorem VA.rep(n:Nat)(h:V r x x'):VA r (bK n x) (bK n x'):=by
 refine⟨by simp,fun i y I e e'=>?_⟩;simp[Array.getElem?_replicate]at e e';simp_all
theorem Yb{fn iV:Fn}(Y:p8 r fn iV){a a' c c':Array _}(h:VA r a a')(k:VA r c c'):SR P V r (du fn a c) (du iV a' c'):=
 .pure (.func Y h.size h.at_ k.size k.at_)
theorem Zj(t:aj){x x':Option _}(h:VO r x x'):SR P V r (dx t x) (dx t x'):=by
 have fin:∀{s:Rn},SR P V s (ck (.map #[] 0) >>= fun b=>pure (Value.map (some b))) (ck (.map #[] 0) >>= fun b=>pure (Value.map (some b))):=by
  refine SR.bind (vW (.map 0 rfl fun i x x' e=>by simp)) fun _ _ _ _ e=>.pure (.map e)
 cases h with
 |none=>exact fin
 |some e=>
  refine SR.bind (kv t) ?_;rintro s d _ l rfl;cases d with
  |map key Y=>exact SR.bind (xY (e.mono l)) fun _ _ _ _ _=>fin
  |_=>exact SR.lost fun _=>⟨_,_,rfl,.inr ⟨_,rfl⟩⟩
theorem Hc(h:V r x x'):SR P iy r (bM x) (bM x'):=by
 cases h with
 |slice l c a=>exact .pure rfl
 |kQ l c=>exact .pure rfl
 |string s=>exact .pure rfl
 |_=>exact gn _
theorem zk(size n:Nat)(h:V r x x'):SR P VA r (bL size n x) (bL size n x'):=by
 cases h with
 |slice l c a=>exact FH _ a
 |kQ l c=>exact .pure .nil
 |string s=>exact .pure (.bytes _)
 |_=>exact gn _
theorem BP(Z:qw P)(Y:aj)(b l c:Nat):
  SR P V r (do bI b;let n<-sizeOf Y;if c *n=0 then(do let zero<-pure #[];let a<-newRow Y ((Array.range (c *n)).map fun x=>zero[x%zero.size]!);pure (Value.slice (some a) l c))else(do let z<-zeroValue Y;let zero<-pure z.cells;let a<-newRow Y ((Array.range (c *n)).map fun x=>zero[x%zero.size]!);pure (Value.slice (some a) l c)))
   (do bI b;let n<-sizeOf Y;if c *n=0 then(do let zero<-pure #[];let a<-newRow Y ((Array.range (c *n)).map fun x=>zero[x%zero.size]!);pure (Value.slice (some a) l c))else(do let z<-zeroValue Y;let zero<-pure z.cells;let a<-newRow Y ((Array.range (c *n)).map fun x=>zero[x%zero.size]!);pure (Value.slice (some a) l c))):=by
 refine SR.bind (F7 b) fun s _ _ l1 _=>?_;refine SR.bind (mI _) ?_;rintro s n _ l2 rfl;split
 ·exact SR.bind (.pure .nil) fun _ _ _ _ e=>SR.bind (vF _ (VA.Db e _)) fun _ _ _ _ e=>SR.pure (V.slice _ _ e)
 ·exact SR.bind (vT Z _) fun _ _ _ _ e=>SR.bind (.pure e.cells) fun _ _ _ _ e=>SR.bind (vF _ (VA.Db e _)) fun _ _ _ _ e=>SR.pure (V.slice _ _ e)
theorem Xw(Z:qw P)(t:aj)(h:V r x x')(K:V r y I):SR P V r (aX t x y) (aX t x' I):=by
 unfold aX;refine SR.bind (kv t) ?_;rintro s d _ l rfl;cases d with
 |slice Y=>
  refine SR.bind (xY (h.mono l)) ?_;rintro s1 a _ l1 rfl;refine SR.bind (xY ((K.mono l).mono l1)) ?_;rintro R b _ l2 rfl;refine SR.bind (qR Y) ?_;rintro U i _ D ⟨rfl,H⟩;dsimp only;split
  ·split
   ·exact SR.bind (A:=iy) (mr (e:=.error _) trivial) fun _ _ _ _ _=>BP Z Y _ _ _
   ·split
    ·exact SR.bind (A:=iy) (mr (e:=.error _) trivial) fun _ _ _ _ _=>BP Z Y _ _ _
    ·refine SR.bind (qS _) ?_;rintro B q _ l4 rfl;exact SR.bind (A:=iy) (mr (e:=.error _) trivial) fun _ _ _ _ _=>BP Z Y _ _ _
  ·exact BP Z Y _ _ _
 |_=>exact gn _
theorem aef(D:Array _)(t:aj){a a':Array _}(h:VA r a a'):SR P V r (cz D t a) (cz D t a'):=by
 unfold cz;cases O:D[0]? with
 |none=>exact gn _
 |some A=>
  cases C:a[0]? with
  |none=>exact gn _
  |some x=>
   cases F:a[1]? with
   |none=>exact gn _
   |some y=>
    have⟨x',U,H⟩:=h.get C;have⟨I,B,R⟩:=h.get F;rw[U,B];refine SR.bind (kv A) ?_;rintro s d _ l rfl;cases d with
    |slice Y=>
     have H:=H.mono l;have go:∀{b b':Option _} (q:Nat),((b=none/\b'=none)\/∃c c',b=some c/\b'=some c'/\Ad s c c')->
       SR P V s (do let n<-bM y;let K<-sizeOf Y;let cells<-bL K (Nat.min n q) y;(match b with|some c=>cn c cells.toList >>= fun _=>pure (goInt (Nat.min n q))|none=>pure (goInt (Nat.min n q))))
        (do let n<-bM I;let K<-sizeOf Y;let cells<-bL K (Nat.min n q) I;(match b' with|some c=>cn c cells.toList >>= fun _=>pure (goInt (Nat.min n q))|none=>pure (goInt (Nat.min n q)))):=by
      intro b b' q J;refine SR.bind (Hc (R.mono l)) ?_;rintro s1 n _ l1 rfl;refine SR.bind (mI _) ?_;rintro Q K _ l2 rfl;refine SR.bind (zk _ _ (((R.mono l).mono l1).mono l2)) fun S c c' N L=>?_;rcases J with⟨rfl,rfl⟩|⟨p,p',rfl,rfl,M⟩
      ·exact .pure (.int _ _)
      ·exact SR.bind (xF 0 (((M.mono l1).mono l2).mono N) L.toList) fun _ _ _ _ _=>.pure (.int _ _)
     cases H with
     |slice q c e=>exact go q (.inr ⟨_,_,rfl,rfl,e⟩)
     |kQ q c=>exact go q (.inl ⟨rfl,rfl⟩)
     |_=>exact gn _
    |_=>exact gn _
theorem af9(D:Array _)(t:aj){a a':Array _}(h:VA r a a'):SR P V r (cA D t a) (cA D t a'):=by
 unfold cA;cases F:D[0]? with
 |none=>exact gn _
 |some I=>
  cases U:a[0]? with
  |none=>exact gn _
  |some x=>
   have⟨x',A,Y⟩:=h.get U;rw[A];refine SR.bind (kv I) ?_;rintro s d _ l rfl;have Y:=Y.mono l;cases d with
   |string=>cases Y with
    |string b=>exact .pure (.int _ _)
    |_=>exact gn _
   |array n e=>exact .pure (.int _ _)
   |pointer arr=>
    refine SR.bind (kv arr) ?_;rintro u d _ R rfl;cases d with
    |array n e=>exact .pure (.int _ _)
    |_=>exact gn _
   |slice H=>cases Y with
    |slice q c e=>exact .pure (.int _ _)
    |kQ q c=>exact .pure (.int _ _)
    |_=>exact gn _
   |map k e=>cases Y with
    |om=>exact .pure (.int _ _)
    |map e=>
     refine SR.bind (oh e) fun u o o' R K=>?_;cases K with
     |map C B J=>dsimp only;rw[B];exact .pure (.int _ _)
     |_=>exact gn _
    |_=>exact gn _
   |chan a e=>cases Y with
    |pK=>exact .pure (.int _ _)
    |chan e=>
     refine SR.bind (oh e) fun u o o' R K=>?_;cases K<;>exact gn _
    |_=>exact gn _
   |_=>exact gn _
end
section
variable[gm]{P:Program}{r:Rn}{α:Type}{A:Rn->α->α->Prop}
theorem RJ(op:BinOp)(k:bB)(a b:Int):SR P V r (cM op k a b) (cM op k a b):=by
 unfold cM;split<;>first|exact .pure (.int _ _)|exact gn _
theorem RP(op:BinOp)(a b:Int):SR P V r (cO op a b) (cO op a b):=by
 unfold cO;split<;>first|exact .pure (.bool _)|exact gn _
theorem Iv(op:BinOp)(a b:e9):SR P V r (cP op a b) (cP op a b):=by
 unfold cP;split
 ·split
  ·exact iw _
  ·exact .pure (.string _)
 all_goals first|exact .pure (.bool _)|exact gn _
theorem W7(z:∀b,¬gm.ro b)(t:aj)(s:e9):SR P V r (dj t s) (dj t s):=by
 refine SR.bind (qS _) ?_;rintro u c _ l rfl;refine SR.bind (vF t ((VA.bytes s).append (.rep _ (.int _ _)))) fun u a a' l e=>?_;refine SR.bind (A:=iy) ?_ fun _ _ _ l _=>.pure (.slice _ _ (e.mono l));refine SR.bind (pF e.block) ?_;rintro u x _ l rfl;split
 ·exact OZ z (a:=⟨a.block,_,none⟩) (a':=⟨a'.block,_,none⟩) ⟨l _ _ e.block,rfl,rfl⟩ _
 ·exact .pure rfl
def AO(r:Rn)(b b':Option _):=(b=none/\b'=none)\/∃a a',b=some a/\b'=some a'/\Ad r a a'
theorem AO.mono{s:Rn}(l:Le r s){b b':Option _}(h:AO r b b'):AO s b b':=by
 rcases h with h|⟨a,a',Y,K,H⟩
 ·exact .inl h
 ·exact .inr ⟨a,a',Y,K,H.mono l⟩
theorem AO.slice{b b':Option _}(h:AO r b b')(l c:Nat):V r (.slice b l c) (.slice b' l c):=by
 rcases h with⟨rfl,rfl⟩|⟨a,a',rfl,rfl,Y⟩
 ·exact .kQ l c
 ·exact .slice l c Y
omit [gm]in
theorem Nk(size K n:Nat)(b:Option Addr)(x:ah)(v:ae):∃t,(dh size K n b x).run P v=.ok t v:=by
 have Y:∀(a:Addr) (m:Nat),∃t,(de a m).run P v=.ok t v:=fun a m=>by
  unfold de;simp only[cS,shape,Sem.run,cR];split<;>exact⟨_,rfl⟩
 unfold dh;cases b with
 |none=>
  simp only[cS,dV,cR,cx,br,if_false];split
  ·rename_i c _ _;have⟨t,e⟩:=Y c (n *size);simp_all
  ·simp
 |some a=>
  have⟨t,e⟩:=Y a (K *size);simp only[cS,e,frozen,Sem.run,dV,cR];split
  ·simp
  ·split
   ·rename_i c _ _;have⟨t,e⟩:=Y c (n *size);simp_all
   ·simp
theorem VA.s_{z Y:Array _}(h:VA r z Y)(n:Nat):VA r (cB z n) (cB Y n):=by
 unfold cB;rw[<-h.size];have:=h.Db (n *z.size);rw[<-h.size]at this;omega
theorem iD{c:Prop}[Decidable c]{x x' y I:Sem α}(Y:c->SR P A r x x')(K:¬c->SR P A r y I):SR P A r (if c then x else y) (if c then x' else I):=by
 split
 ·simp_all
 ·simp_all
end
end Ren
end Go.Proofs.YtdcjnhipenbcfaaGreatDoor
