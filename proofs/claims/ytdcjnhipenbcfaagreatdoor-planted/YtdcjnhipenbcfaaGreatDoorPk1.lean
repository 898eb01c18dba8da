/-
  Own text. Part 1 of what the claim rests on.
-/
import Derived.Test.YtdcjnhipenbcfaaGreatDoorProg
import Derived.WalkKit
import Derived.WalkSpells
import Derived.WalkLawsBesides
import Derived.Deep.Light
import Derived.Lib.LaidTab
import Derived.Lib.ItoaNum
import Derived.Below
import Derived.Laws.MakeOwn
import Derived.Laws.OwnMore
import Derived.Laws.IdiomStrings
import Derived.Deep.RegionHeld3
import Derived.Deep.QuietTactic
import Derived.BigQuiet
import Derived.RegionTactic
import Derived.Lib.Builder
import Derived.OwnWalk
import Derived.Lib.MinMax
import Derived.ChangeAlike
import Derived.RegionDies
import Derived.Defers
import Derived.Recover
import Derived.Handy
import Derived.Test.YtdcjnhipenbcfaaGreatDoorRows
import Derived.ProofKit
import Derived.LaidMore
import Derived.Stop.Joined
import Derived.Lib.LaidU8
import GoSem.Step
import Derived.Laws.Sem
import Derived.StepT
import GoSem.Dispatch
set_option linter.unusedVariables false
set_option linter.unusedSectionVars false
set_option linter.unusedSimpArgs false
set_option maxRecDepth 100000
set_option maxHeartbeats 16000000
open Array renaming range->bc,getElem?_eq_some_iff->bC,getElem?_push->bK,ext'->bV,replicate->bW,toArray_toList->bX,foldl_toList->cO,forIn_toList->dQ,getElem?_append_left->dR,getElem?_append_right->dU,getElem?_map->dV,isEmpty->dW,mem_append->dX,mem_map->dY,toList_append->dZ,toList_extract->d_,toList_filter->ec,toList_zipIdx->ed
open Bool renaming not_eq_true->az,false_eq_true->bt,eq_iff_iff->bY,noConfusion->bZ,and_eq_true->cP,not_true->cQ
open ByteArray renaming data_extract->ei,size_extract->ej
open Except renaming pure->bO
open Except.ok renaming injEq->cX
open Go renaming World->ae,Value->af,TypeId->ah,Calls->aj,Program->ak,undef->ar,MapEntry->ay,IntKind->aI,BinOp->aK,Deferred->aN,Event->aO,typeInfo->aP,Operand->aV,FuncId->bh,cell_of_row->bq,TypeDesc->bA,askRoom->bB,boundsPanic->bG,runtimePanic->bH,seenCells->bI,Ending->ck,Target->cB,block_lt_of_cell->cG,eqGuard->cH,frozen_of_row->cI,heap_alloc_new->cJ,madeCells->cK,storeCells->cL,unsupported->cM,BoundsCode->cR,RuntimeError->dA,plainCell->dM,results->dO,sameAddr->dP,behindNumber->alA,callsD_of_wpS->alB,heap_alloc_old->alE,loadCellsFrom->alF,movedPointer->alG,run_makeSlice->alH,toList_madeCells_one->alI
open Go.Builtin renaming firstCells->aL,lenOf->bg,min2->bL,min_->bM,zeroCells->bN,mayShare->b_,unsafeAdd_->cf,unsafeString_->cg,append_->cS,cap_->cT,copy_->cU,len_->cV,holdsCells->eg,unsafeSliceData_->eh
open Go.ByteArray renaming toList_eq->ek
open Go.Calls renaming quiet_of->aH,quiet_of_same->aM
open Go.Conv renaming unsafePointer->cj,bytesToString->eo,stringToBytes->ep
open Go.Deferred renaming ofValue->bD
open Go.Ending renaming returned->cW
open Go.Extern.AbiNoEscape renaming same->et
open Go.Extern.BytealgIndexByte renaming indexByte->eu
open Go.Extern.BytealgMakeNoZero renaming makeNoZero->cY,digits->ew
open Go.Extern.Bytes renaming asByte->ey,bytesOf->ez,loadBytes->eG
open Go.Instr renaming findNow->aY,sameNow->bj,makeSlice->bE,checkKey->cm,findKey->cn,sliceBound->cu,enterLoop->cZ,extract->c7,findAsking->c9,keyThatStays->c_,lookup->da,typeAssert->db,beginRound->eH,buildSlice->eI,endLoop->eK,endRound->eL,fieldAt->eM,getLoop->eN,indexAt->eO,loadAt->eP,makeFunc->eQ,makeInterface->eR,makeMap->eS,mapUpdate->eT,panicnil->eU,sameBits->eV,sliceAt->eW,sliceBounds->eX,storeAt->eY,sureAddr->eZ,takeDeferred->e_
open Go.IntKind renaming i64->aT
open Go.IntWalk renaming i64_in->aZ
open Go.Lib renaming TabIs->de,pow10Tab->fa
open Go.Op renaming equal->au,equalIn->aU,maxDepth->bm,stringOp->bQ,intArith->dp,intCmp->dq,intDiv->dt,shift->du,eqGuardIn->ale,twoPlaces->alf
open Go.Program renaming globalNamed->alg
open Go.Proofs.Tryz renaming prog->ai,f138->bR,func44->cC,ntmps44->cD,func70->dC,func94->dD,ntmps70->dE,ntmps94->dG,func165->ali,ntmps165->alj,ntmps61->alk,ntmps72->alm,results61->aln,underlying79->alo
open Go.Result renaming andThen_ok->dz
open Go.RowKit renaming Below->ax
open Go.RowKit.Below renaming refl->br,heap_alloc->ef
open Go.Sem renaming run_bind'->aW,runT->a_,run_bind->dB,run_pure->alh
open Go.Value renaming int->aQ,slice->bp,pointer->bF,tuple->bT,bool->cE,ofBytes->dI,nilIface->alr,string->als
open Go.World renaming cell?_setCell_other->aX,cell?->bU,cell?_alloc_at->dJ,cell?_setCell_same->dK,viewStore->dL,cell?_alloc_past->alu,farStore->alv,freeze->alw,frozen?->alx,noCell->aly,viewLoad->alz
open Int renaming natCast_nonneg->dc
open List renaming append_assoc->cv,forIn_cons->cw,getElem?_eq_getElem->cx,drop_eq_getElem_cons->dh,length_cons->di,range->dj,replicate->dk,filter_cons->fb,flatMap_cons->fc,getD_eq_getElem?_getD->fe,getElem?_range->ff,length_append->fh,map_append->fi,mem_map->fj,mem_toArray->fq,replicate_succ->ft,take_of_length_le->fv,take_succ_eq_append_getElem->fy
open MonadExcept renaming throw->cy
open MonadExceptOf renaming throw->cz
open Nat renaming le_refl->ao,le_trans->aJ,zero_le->bk,lt_of_lt_of_le->bu,lt_or_ge->bP,eq_zero_or_pos->cA,le_of_eq->alb,lt_succ_self->alc,sub_self->ald
open Option renaming map_eq_some_iff->dx
open Option.some renaming injEq->dy
open UInt8 renaming ofNat->dH,toNat_ofNat'->alq
namespace Go.Proofs.YtdcjnhipenbcfaaGreatDoor
variable {a a' at_:Addr}{cs gW:Array af}{p:ByteArray}{d d':aN}{least:Int}{L:List UInt8}{G b b' i j l l' n q u z:Nat}{o o':Obj}{P:ak}{name:String}{T dst src t:ah}{k k' JR u0 u1 v' x x' y I:af}{v1 w w':ae}
section
open RowKit
theorem yM{k:aI}{a b:Int}(h:a=b):cW (.int k a)=.returned (.int k b):=by rw[h]
theorem pa{a b:Bool}(h:a=b):cW (.bool a)=.returned (.bool b):=by rw[h]
def oP(n:Int):=if 97<=n/\n<=122 then n-32 else n
def JS(n:Int):=decide (oP n=65)||decide (oP n=67)||decide (oP n=71)||decide (oP n=84)||decide (oP n=78)
def qg(n:Int):Int:=if n=65 then 84 else if n=84 then 65 else if n=67 then 71 else if n=71 then 67 else 78
theorem OJ(n:Int)(H:0<=n)(D:n<=255)(w:ae):
  aj ai 97 #[.int .u8 n] w fun e w'=>e=.returned (.int .u8 (oP n))/\w'=w:=by
 by_cases Y:97<=n
 ·by_cases K:n<=122
  ·go_wp2
   go_ret
   exact⟨yM (by unfold oP;rw[if_pos ⟨Y,K⟩];omega),rfl⟩
  ·go_wp2
   go_ret
   exact⟨yM (by unfold oP;rw[if_neg (by omega)]),rfl⟩
 ·go_enter Tryz.func97,Tryz.ntmps97
  go_wp2
  go_ret
  exact⟨yM (by unfold oP;rw[if_neg (by omega)]),rfl⟩
theorem YI(n:Int)(Y:0<=n)(K:n<=255)(w:ae):
  aj ai 71 #[.int .u8 n] w fun e w'=>e=.returned (.bool (JS n))/\w'=w:=by
 go_enter Tryz.func71,Tryz.ntmps71
 go_wp2_with(refine(OJ _ Y K _).mono ?_;rintro e w' ⟨rfl,rfl⟩)
 all_goals go_ret
 all_goals(exact⟨pa (by simp_all[JS]),rfl⟩)
theorem XH(n:Int)(Y:0<=n)(K:n<=255)(w:ae):
  aj ai 79 #[.int .u8 n] w fun e w'=>e=.returned (.int .u8 (qg n))/\w'=w:=by
 go_wp2
 all_goals go_ret
 all_goals(exact⟨yM (by simp_all[qg]),rfl⟩)
theorem QQ{a b:ByteArray}(h:a=b):cW (.string a)=.returned (.string b):=by rw[h]
def gb(b:UInt8):=dH (oP b.toNat).toNat
def iM(b:UInt8):=JS b.toNat
def pb(b:UInt8):=dH (qg b.toNat).toNat
theorem AT(b:UInt8):0<=(b.toNat:Int):=by omega
theorem yN(b:UInt8):(b.toNat:Int)<=255:=by have:=b.toNat_lt;omega
theorem laid{p:Prop}(h:p):Hid p:=h
def iN(w:ae):=de ai w "internal/strconv.uint64pow10" .u64 fa
theorem iN.on(h:iN w)(H:ax w.heap.size w w'):iN w':=by
 unfold iN de World.var? at *;cases K:alg _ _ with
 |none=>simp[K]at h
 |some g=>
  simp[K,Option.bind_some]at h⊢;have Y:g<w.heap.size:=by
   rcases bP g _ with h'|h'
   ·omega
   ·simp_all
  rw[H.block g Y];exact h
def str(l:List UInt8):ByteArray:=⟨l.toArray⟩
theorem ia(l:List _):(str l).size=l.length:=rfl
theorem ob(l m:List _):str l++str m=str (l++m):=by
 apply ByteArray.ext;simp[str]
theorem CY(l:List _)(b:UInt8):str l++⟨#[b]⟩=str (l++[b]):=ob l [b]
theorem Ha(s:ByteArray):s.data.toList.length=s.size:=by simp
theorem OK(s:ByteArray)(k:Nat)(h:k<s.size):s.data.toList.take (k+1)=s.data.toList.take k++[s[k]]:=by
 rw[fy _];rfl
theorem jb{k:aI}{a b:Int}(h:a=b):aQ k a=aQ k b:=by rw[h]
theorem od{a b:ByteArray}(h:a=b):als a=als b:=by rw[h]
def iP(s:ByteArray)(j:Nat):=str ((s.data.toList.drop j).map pb).reverse
theorem Cy(s:ByteArray)(j:Nat):(iP s j).size<=s.size:=by
 unfold iP;rw[ia];simp
theorem drop_cons(s:ByteArray)(k:Nat)(h:k<s.size):s.data.toList.drop k=s[k]::s.data.toList.drop (k+1):=by
 rw[dh _];rfl
theorem YJ(s:ByteArray)(j:Nat)(h:j<s.size):iP s (j+1)++⟨#[pb s[j]]⟩=iP s j:=by
 unfold iP;rw[drop_cons s j h,CY];simp
theorem aj0(b:UInt8)(h:((b.toNat:Int)==65)=true):pb b=84:=by
 have h':=eq_of_beq h;unfold pb qg;simp_all
theorem aj1(b:UInt8)(h:((b.toNat:Int)==84)=true):pb b=65:=by
 have h':=eq_of_beq h;unfold pb qg;simp_all
theorem aj2(b:UInt8)(h:((b.toNat:Int)==67)=true):pb b=71:=by
 have h':=eq_of_beq h;unfold pb qg;simp_all
theorem aj3(b:UInt8)(h:((b.toNat:Int)==71)=true):pb b=67:=by
 have h':=eq_of_beq h;unfold pb qg;simp_all
theorem aj4(b:UInt8)(Y:((b.toNat:Int)==65)=false)(H:((b.toNat:Int)==84)=false)(R:((b.toNat:Int)==67)=false)(U:((b.toNat:Int)==71)=false):pb b=78:=by
 have K:=beq_eq_false_iff_ne.1 Y;have D:=beq_eq_false_iff_ne.1 H;have I:=beq_eq_false_iff_ne.1 R;have A:=beq_eq_false_iff_ne.1 U;unfold pb qg;simp_all
def Tu(s:ByteArray)(t i:af):=
 (i=.int .i64 (-1)/\t=.string (iP s 0))\/∃j:Nat,j<s.size/\i=.int .i64 j/\t=.string (iP s (j+1))
theorem AE(s:ByteArray)(j:Nat)(h:j<s.size)(c:UInt8)(Y:pb s[j]=c):Tu s (.string (iP s (j+1)++⟨#[c]⟩)) (.int .i64 (j-1)):=by
 subst Y;rw[YJ s j h];rcases cA j with rfl|K
 ·exact .inl ⟨rfl,rfl⟩
 ·exact .inr ⟨j-1,by omega,jb (by omega),by rw[show j-1+1=j by omega]⟩
theorem infoByte:(ai.info? 5).map (fun i=>(i.zero,i.size,i.bytes))=some (some (.int .u8 0),1,1):=by kernel_rfl
def bv(b:UInt8):Value:=.int .u8 (b.toNat:Int)
def qM(l:List _)(m:Nat):=(l.map bv++dk m (aQ .u8 0)).toArray
def vm(m:Nat)(l:List _):=(dk m (aQ .u8 0)++l.map bv).toArray
theorem N3(n:Nat)(R:n<=1000)(w:ae):
  (bE 79 (.int .i64 n) (.int .i64 n)).run ai w=.ok (.slice (some ⟨w.heap.size,0,none⟩) n n) (w.alloc (.cells (qM [] n) 5)):=by
 have h:=infoByte;rcases Y:ai.info? 5 with _|i
 ·simp_all
 ·rw[Y]at h;simp at h;obtain⟨D,K,H⟩:=h;have:=alH w 79 5 i _ alo Y D .i64 .i64 n n (by omega) (by omega) (by rw[K];omega) (by rw[H];omega) (by omega);rw[this];have e:cK (aQ IntKind.u8 0).cells ((n:Int).toNat *i.size)=qM [] n:=by
   apply bV;rw[K];show(cK #[aQ _ 0] _).toList=_
   have:=alI (.int .u8 0) n;simpa[qM]using this
  simp_all
theorem N4(l:List _)(n:Nat)(H:l.length=n)(C:Array _)(Y:C=(l.map bv).toArray)(w:ae)(cap:Nat):
  (convert 79 9 (.slice (some ⟨w.heap.size,0,none⟩) n cap)).run ai (w.alloc (.cells C 5))=.ok (.string (str l)) (w.alloc (.cells C 5)):=by
 subst H Y;refine run_convert_bytes_back _ 79 9 5 _ cap l alo Tryz.underlying5 Tryz.underlying9 ?_;intro j K;have:(⟨w.heap.size,0,none⟩:Addr).add j=⟨w.heap.size,j,none⟩:=by unfold Addr.add;simp_all
 rw[this,dJ _ _ _ _ rfl];simp[bv,K]
theorem aee(l:List _)(m k:Nat)(hk:k=l.length)(Y:0<m):(qM l m)[k]?=some (.int .u8 0):=by
 subst hk;unfold qM;simp_all
theorem ab5(l:List _)(m k:Nat)(hk:k=l.length)(K:0<m)(b:UInt8)(v:af)(Y:v=bv b):(qM l m).setIfInBounds k v=qM (l++[b]) (m-1):=by
 subst hk Y;cases m with
 |zero=>omega
 |succ m=>
  simp[qM,ft]
def gl(s:ByteArray)(k:Nat):=(s.data.toList.take k).map gb
theorem RZ(s:ByteArray)(k:Nat)(h:k<=s.size):(gl s k).length=k:=by
 unfold gl;simp;omega
theorem aef(s:ByteArray)(k:Nat)(h:k<s.size):gl s (k+1)=gl s k++[gb s[k]]:=by
 unfold gl;rw[OK s k h];simp
theorem agm(s:ByteArray)(k:Nat)(h:s.size<=k):gl s k=s.data.toList.map gb:=by
 unfold gl;rw[fv (by exact h)]
theorem agn(b:UInt8):0<=oP b.toNat/\oP b.toNat<=255:=by
 have:=yN b;unfold oP;omega
theorem ago(b:UInt8):((gb b).toNat)=oP b.toNat:=by
 have h:=agn b;unfold gb;rw[alq];omega
def uS(s:ByteArray)(k:Nat):=qM (gl s k) (s.size-k)
theorem aag(s:ByteArray)(k:Nat)(h:k<s.size):(uS s k)[k]?=some (.int .u8 0):=
 aee _ _ _ (RZ s k (by omega)).symm (by omega)
theorem YK(s:ByteArray)(k:Nat)(h:k<s.size):(uS s k).setIfInBounds k (.int .u8 (oP s[k].toNat))=uS s (k+1):=by
 unfold uS;rw[ab5 _ _ _ (RZ s k (by omega)).symm (by omega) _ _ (by unfold bv;rw[ago]),<-aef s k h];congr 1
theorem YL(s:ByteArray)(k:Nat)(h:s.size<=k):uS s k=((s.data.toList.map gb).map bv).toArray:=by
 unfold uS qM;rw[agm s k h,show s.size-k=0 by omega];simp
theorem Gi(s:ByteArray)(w:ae)(R:s.size<=200):
  aj ai 67 #[.string s] w fun e w'=>e=.returned (.string (str (s.data.toList.map gb)))/\ax w.heap.size w w':=by
 have K:=N3 s.size (by omega);go_wp2
 clear K
 go_loopw [10] (fun i wr=>∃k:Nat,k<=s.size/\i=.int .i64 k/\wr=w.alloc (.cells (uS s k) 5)) (fun i _=>s.size-(intOf i).toNat)
 case atStart=>exact⟨0,bk _,rfl,rfl⟩
 case round=>
  obtain⟨k,hk,rfl,rfl⟩:=hrel;by_cases Y:k<s.size
  ·have H:=aag s k Y;go_wp2_with(go_at_call 97;refine(OJ _ (AT _) (yN _) _).mono ?_;rintro e w' ⟨rfl,rfl⟩)
   go_roundw
   case rel=>go_light;exact⟨k+1,by omega,by go_num,by rw[YK s k Y]⟩
   case measure=>go_light;simp[intOf];omega
  ·have D:=N4 (s.data.toList.map gb) s.size (by simp) (uS s k) (YL s k (by omega)) w s.size;go_wp2
   go_ret
   exact⟨rfl,(br _ _).alloc (ao _) _⟩
theorem aeg(n:Int):0<=qg n/\qg n<=255:=by
 unfold qg;omega
theorem agp(b:UInt8):((pb b).toNat)=qg b.toNat:=by
 have h:=aeg b.toNat;unfold pb;rw[alq];omega
theorem aeh(m:Nat)(l:List _)(k:Nat)(hk:k+1=m):(vm m l)[k]?=some (.int .u8 0):=by
 subst hk;unfold vm;simp[List.getElem?_append]
theorem ab6(m:Nat)(l:List _)(k:Nat)(hk:k+1=m)(b:UInt8)(v:af)(Y:v=bv b):(vm m l).setIfInBounds k v=vm k (b::l):=by
 subst hk Y;simp only[vm,List.replicate_succ'];simp
def pl(s:ByteArray)(k:Nat):=((s.data.toList.take k).map pb).reverse
theorem aei(s:ByteArray)(k:Nat)(h:k<s.size):pl s (k+1)=pb s[k]::pl s k:=by
 unfold pl;rw[OK s k h];simp
theorem agq(s:ByteArray)(k:Nat)(h:s.size<=k):pl s k=(s.data.toList.map pb).reverse:=by
 unfold pl;rw[fv (by exact h)]
def sc(s:ByteArray)(k:Nat):=vm (s.size-k) (pl s k)
theorem aah(s:ByteArray)(k j:Nat)(h:k<s.size)(Y:j+1+k=s.size):(sc s k)[j]?=some (.int .u8 0):=
 aeh _ _ _ (by omega)
theorem YM(s:ByteArray)(k j:Nat)(h:k<s.size)(Y:j+1+k=s.size):(sc s k).setIfInBounds j (.int .u8 (qg s[k].toNat))=sc s (k+1):=by
 unfold sc;rw[ab6 _ _ _ (by omega) _ _ (by unfold bv;rw[agp]),<-aei s k h,show s.size-(k+1)=j by omega]
theorem YN(s:ByteArray)(k:Nat)(h:s.size<=k):sc s k=((s.data.toList.map pb).reverse.map bv).toArray:=by
 unfold sc vm;rw[agq s k h,show s.size-k=0 by omega];simp
theorem Xi(s:ByteArray):sc s 0=qM [] s.size:=by
 unfold sc vm qM pl;simp
theorem ab7(s:ByteArray)(w:ae)(U:s.size<=200):
  aj ai 51 #[.string s] w fun e w'=>e=.returned (.string (iP s 0))/\ax w.heap.size w w':=by
 have K:=N3 s.size (by omega)
 go_enter Tryz.func51,Tryz.ntmps51
 go_wp2
 clear K
 go_loopw [10] (fun i wr=>∃k:Nat,k<=s.size/\i=.int .i64 k/\wr=w.alloc (.cells (sc s k) 5)) (fun i _=>s.size-(intOf i).toNat)
 case atStart=>exact⟨0,bk _,rfl,by rw[Xi]⟩
 case round=>
  obtain⟨k,hk,rfl,rfl⟩:=hrel;by_cases Y:k<s.size
  ·have H:s.size-1-k+1+k=s.size:=by omega
   have R:=aah s k _ Y H;have D:=laid H;clear H;go_wp2_with(go_at_call 79;refine(XH _ (AT _) (yN _) _).mono ?_;rintro e w' ⟨rfl,rfl⟩)
   go_roundw
   case rel=>go_light;exact⟨k+1,by omega,by go_num,by rw[YM s k _ Y D.out]⟩
   case measure=>go_light;simp[intOf];omega
  ·have I:=N4 (s.data.toList.map pb).reverse s.size (by simp) (sc s k) (YN s k (by omega)) w s.size;go_wp2
   go_ret
   exact⟨rfl,(br _ _).alloc (ao _) _⟩
def ag(a b:UInt8):=a==b&&a != 78
def at8(s:ByteArray)(i:Nat):=s.data.toList.getD i 0
theorem mn(s:ByteArray)(i:Nat)(h:i<s.size):s[i]=at8 s i:=by
 unfold at8;rw[fe,cx _];rfl
def cost(p t:ByteArray)(i j:Nat):=if ag (at8 p i) (at8 t j)=true then 0 else 1
def dT(p t:ByteArray)
 |0,j=>j
 |i+1,0=>i+1
 |i+1,j+1=>min (min (dT p t i j+cost p t i j) (dT p t i (j+1)+1)) (dT p t (i+1) j+1)
theorem Bc(p t:ByteArray):∀i j,dT p t i j<=i+j
 |0,j=>by simp[dT]
 |i+1,0=>by simp[dT]
 |i+1,j+1=>by have:=Bc p t i (j+1);rw[dT];omega
theorem ail:(ai.info? 3).map (fun i=>(i.zero,i.size,i.bytes))=some (some (.int .i64 0),1,8):=by kernel_rfl
def nv(z:Nat):Value:=.int .i64 (z:Int)
def oL(l:List Nat)(m:Nat):=(l.map nv++dk m (aQ .i64 0)).toArray
theorem aai(n:Nat)(R:n<=1000)(w:ae):
  (bE 25 (.int .i64 n) (.int .i64 n)).run ai w=.ok (.slice (some ⟨w.heap.size,0,none⟩) n n) (w.alloc (.cells (oL [] n) 3)):=by
 have h:=ail;rcases Y:ai.info? 3 with _|i
 ·simp_all
 ·rw[Y]at h;simp at h;obtain⟨D,K,H⟩:=h;have:=alH w 25 3 i _ Tryz.underlying25 Y D .i64 .i64 n n (by omega) (by omega) (by rw[K];omega) (by rw[H];omega) (by omega);rw[this];have e:cK (aQ aT 0).cells ((n:Int).toNat *i.size)=oL [] n:=by
   apply bV;rw[K];show(cK #[aQ _ 0] _).toList=_
   have:=alI (.int .i64 0) n;simpa[oL]using this
  simp_all
theorem OL(l:List Nat)(m k:Nat)(hk:k=l.length)(Y:0<m):(oL l m)[k]?=some (.int .i64 0):=by
 subst hk;unfold oL;simp_all
theorem PJ(l:List Nat)(m k:Nat)(hk:k<l.length):(oL l m)[k]?=some (nv (l.getD k 0)):=by
 unfold oL;rw[List.getElem?_toArray,List.getElem?_append_left (by simp_all),List.getElem?_map,fe,cx hk];rfl
theorem ab8(l:List Nat)(m k:Nat)(hk:k=l.length)(K:0<m)(b:Nat)(v:af)(Y:v=nv b):(oL l m).setIfInBounds k v=oL (l++[b]) (m-1):=by
 subst hk Y;cases m with
 |zero=>omega
 |succ m=>
  simp[oL,ft]
def tl(p t:ByteArray)(i j:Nat):=(dj j).map (dT p t i)
theorem agr(p t:ByteArray)(i j:Nat):(tl p t i j).length=j:=by simp[tl]
theorem aim(p t:ByteArray)(i j k:Nat)(h:k<j):(tl p t i j).getD k 0=dT p t i k:=by
 simp[tl,ff h]
def IW(p t:ByteArray)(i j:Nat):=oL (tl p t i j) (t.size+1-j)
theorem YO(p t:ByteArray)(i j k:Nat)(h:k<j):(IW p t i j)[k]?=some (.int .i64 (dT p t i k)):=by
 unfold IW;rw[PJ _ _ _ (by rw[agr];exact h),aim p t i j k h];rfl
def u_(w:ae)(g:Nat)(p t:ByteArray)(i:Nat):=w.heap[g]?=some (.cells (IW p t i (t.size+1)) 3 (0,0))
theorem u_.cell{g:Nat}{t:ByteArray}(h:u_ w g p t i)(j:Nat)(Y:j<=t.size):w.cell? ⟨g,j,none⟩=some (.int .i64 (dT p t i j)):=by
 rw[bq w g j _ _ _ h];exact YO p t i _ j (by omega)
theorem u_.lt{g:Nat}{t:ByteArray}(h:u_ w g p t i):g<w.heap.size:=by
 rcases bP g _ with h'|h'
 ·omega
 ·unfold u_ at h;simp_all
def sv(t:ByteArray)(g:Nat->Nat)(x:Nat):Value:=.slice (some ⟨g x,0,none⟩) (t.size+1) (t.size+1)
theorem aaj{P:ak}(w:ae)(Y:Array _)(t:ah)(x y z:Int):
  (bM Y t #[.int .i64 x,.int .i64 y,.int .i64 z]).run P w=.ok (.int .i64 (min (min x y) z)) w:=by
 have e:∀a b:Int,(if b<a then b else a)=min a b:=fun a b=>by omega
 simp[bM,bL,e]
theorem Iq(a b:UInt8)(w:ae):
  aj ai 150 #[.int .u8 (a.toNat:Int),.int .u8 (b.toNat:Int)] w fun e w'=>e=.returned (.bool (ag a b))/\w'=w:=by
 by_cases h:a=b
 ·go_wp2
  go_ret
  refine⟨pa ?_,rfl⟩;unfold ag;subst h;simp only[beq_self_eq_true,Bool.true_and];by_cases Y:a=78
  ·subst Y;rfl
  ·have K:(a != 78)=true:=by simpa using Y
   have H:((a.toNat:Int) != 78)=true:=by
    rw[bne_iff_ne];intro D;apply Y;apply UInt8.toNat.inj;have:((78:UInt8).toNat:Int)=78:=rfl;omega
   rw[K,H]
 ·have R:(a.toNat:Int)≠(b.toNat:Int):=by intro D;exact h (UInt8.toNat.inj (by omega))
  go_wp2
  go_ret
  refine⟨pa ?_,rfl⟩;unfold ag;rw[show(a==b)=false by simpa using h];rfl
def co(a b:UInt8):=if ag a b=true then 0 else 1
theorem SH(a b:UInt8):co a b<=1:=by unfold co;split<;>omega
theorem PK(a b:UInt8)(w:ae):
  aj ai 165 #[.int .u8 (a.toNat:Int),.int .u8 (b.toNat:Int)] w fun e w'=>e=.returned (.int .i64 (co a b:Int))/\w'=w:=by
 by_cases h:ag a b=true
 ·have Y:co a b=0:=if_pos h;rw[Y]
  go_enter ali,alj
  go_wp2_with fail
  refine(Iq a b _).mono ?_;rintro e w' ⟨rfl,rfl⟩;go_wp2
  go_ret
  exact⟨rfl,rfl⟩
 ·have Y:co a b=1:=if_neg h;rw[Y];rw[az]at h
  go_enter ali,alj
  go_wp2_with fail
  refine(Iq a b _).mono ?_;rintro e w' ⟨rfl,rfl⟩;go_wp2
  go_ret
  exact⟨rfl,rfl⟩
def pY(g:Nat->Nat)(n j:Nat):=oL ((dj j).map g) (n-j)
theorem Nr(g:Nat->Nat)(n j:Nat)(h:j<n):(pY g n j)[j]?=some (.int .i64 0):=OL _ _ _ (by simp) (by omega)
theorem N5(g:Nat->Nat)(n j i:Nat)(h:i<j):(pY g n j)[i]?=some (.int .i64 (g i)):=by
 unfold pY;rw[PJ _ _ _ (by simp_all)];simp[nv,ff h]
theorem GO(g:Nat->Nat)(n j:Nat)(h:j<n)(z:Int)(Y:z=(g j)):(pY g n j).setIfInBounds j (.int .i64 z)=pY g n (j+1):=by
 unfold pY;rw[ab8 _ _ _ (by simp) (by omega) _ _ (by unfold nv;rw[Y]),List.range_succ,fi];congr 1
theorem Xj(g:Nat->Nat)(n:Nat):pY g n 0=oL [] n:=rfl
def mo(w:ae)(G:Nat)(g:Nat->Nat)(n:Nat):=w.heap[G]?=some (.cells (pY g n n) 3 (0,0))
theorem mo.cell{g:Nat->Nat}(h:mo w G g n)(j:Nat)(Y:j<n):w.cell? ⟨G,j,none⟩=some (.int .i64 (g j)):=by
 rw[bq w G j _ _ _ h];exact N5 g n n j Y
theorem mo.lt{g:Nat->Nat}(h:mo w G g n):G<w.heap.size:=by
 rcases bP G _ with h'|h'
 ·omega
 ·unfold mo at h;simp_all
theorem PM(w:ae)(c:Array _)(T:ah)(d j:Nat)(v:af):((w.alloc (.cells c T)).drewN d).setCell ⟨w.heap.size,j,none⟩ v=(w.alloc (.cells (c.setIfInBounds j v) T)).drewN d:=by
 have h:(w.alloc (.cells c T)).setCell ⟨w.heap.size,j,none⟩ v=w.alloc (.cells (c.setIfInBounds j v) T):=by simp[World.setCell_alloc_at]
 have Y:((w.alloc (.cells c T)).drewN d).setCell ⟨w.heap.size,j,none⟩ v=((w.alloc _).setCell _ v).drewN d:=rfl;rw[Y,h]
theorem N6(w:ae)(o:Obj)(d:Nat):ax w.heap.size w ((w.alloc o).drewN d):=Go.below_drewN ((br _ _).alloc (ao _) o) d
theorem OM(n:Nat)(Y:n<=900)(w:ae):
  (bE 25 (.int .i64 (n+1)) (.int .i64 (n+1))).run ai w=.ok (.slice (some ⟨w.heap.size,0,none⟩) (n+1) (n+1)) (w.alloc (.cells (oL [] (n+1)) 3)):=by
 have:=aai (n+1) (by omega) w;simp_all
theorem Gl(n:Nat)(w:ae)(U:n<=300):
  aj ai 144 #[.int .i64 (n:Int)] w fun e w'=>e=.returned (.slice (some ⟨w.heap.size,0,none⟩) (n+1) (n+1))/\mo w' w.heap.size id (n+1)/\ax w.heap.size w w':=by
 have R:=OM n (by omega);go_wp2
 go_loopw [10] (fun K w2=>∃(j d:Nat),K=.int .i64 (j:Int)/\j<=n+1/\w2=(w.alloc (.cells (pY id (n+1) j) 3)).drewN d) (fun K _=>n+1-(intOf K).toNat)
 case atStart=>exact⟨0,0,rfl,bk _,rfl⟩
 case round=>
  obtain⟨j,d,rfl,D,rfl⟩:=hrel;by_cases H:j<=n
  ·have I:=Nr id (n+1) j (by omega);go_wp2
   go_roundw
   case rel=>go_light;exact⟨j+1,d,by go_num,by omega,by rw[PM,GO id (n+1) j (by omega) (j:Int) rfl]⟩
   case measure=>go_light;simp[intOf];omega
  ·have Y:Hid (j=n+1):=laid (by omega);go_wp2
   go_ret
   refine⟨rfl,?_,N6 _ _ _⟩;rw[Y.out];exact cJ w _
def mP(g:Nat->Nat)(first:Nat)(b:UInt8)(o:ByteArray)
 |0=>first
 |j+1=>min (min (g j+co b (at8 o j)) (g (j+1)+1)) (mP g first b o j+1)
theorem Dx(g:Nat->Nat)(first:Nat)(b:UInt8)(o:ByteArray):∀j,mP g first b o j<=first+j
 |0=>ao _
 |j+1=>by have:=Dx g first b o j;rw[mP];omega
theorem aak{wr W:ae}{g:Nat->Nat}{d H:Nat}{z:Int}(K:(wr.alloc (.cells (pY g n j) 3)).drewN d=W)(Y:wr.heap.size=H)(D:j<n)(R:z=(g j)):
  (W.setCell ⟨H,j,none⟩ (.int .i64 z)).drew=(wr.alloc (.cells (pY g n (j+1)) 3)).drewN (d+1):=by
 subst K Y;rw[PM,GO g n j D z R];rfl
theorem Gq(g:Nat->Nat)(first:Nat)(b:UInt8)(o:ByteArray)(G:Nat)(w:ae)(ho:o.size<=300)(hf:first<=300)(Q:∀j,j<=o.size->g j<=1000)(F:mo w G g (o.size+1)):
  aj ai 145 #[.slice (some ⟨G,0,none⟩) (o.size+1) (o.size+1),.int .i64 (first:Int),.int .u8 (b.toNat:Int),.string o] w fun e w'=>
   e=.returned (.slice (some ⟨w.heap.size,0,none⟩) (o.size+1) (o.size+1))/\mo w' w.heap.size (mP g first b o) (o.size+1)/\ax w.heap.size w w':=by
 have E:=OM o.size (by omega);have O:=F.lt;have J:=laid Q;have L:=laid F;clear Q F;have z:(oL [] (o.size+1))[0]?=some (.int .i64 0):=OL [] _ 0 rfl (by omega)
 go_enter Tryz.func145,Tryz.ntmps145
 go_wp2
 go_loopw [19] (fun B w2=>∃(j d:Nat),B=.int .i64 (j:Int)/\j<=o.size/\w2=(w.alloc (.cells (pY (mP g first b o) (o.size+1) (j+1)) 3)).drewN d) (fun B _=>o.size-(intOf B).toNat)
 case atStart=>exact⟨0,0,rfl,bk _,by rw[<-Xj (mP g first b o),GO _ _ 0 (by omega) (first:Int) rfl];rfl⟩
 case round=>
  obtain⟨j,d,rfl,T,rfl⟩:=hrel;by_cases U:j<o.size
  ·obtain⟨m,H⟩:∃m,m=j+1:=⟨_,rfl⟩;generalize K:(w.alloc (.cells (pY (mP g first b o) (o.size+1) (j+1)) 3)).drewN d=W;have P:=laid K;have p:W.cell? ⟨G,j,none⟩=some (.int .i64 (g j:Int)):=by
    rw[<-K];show(w.alloc _).cell? _=_;rw[alu _ _ _ O];exact L.out.cell j (by omega)
   have r:W.cell? ⟨G,m,none⟩=some (.int .i64 (g m:Int)):=by
    rw[<-K];show(w.alloc _).cell? _=_;rw[alu _ _ _ O];exact L.out.cell m (by omega)
   have s:W.cell? ⟨w.heap.size,j,none⟩=some (.int .i64 (mP g first b o j:Int)):=by
    rw[<-K];show(w.alloc _).cell? _=_;rw[dJ _ _ _ _ rfl];exact N5 _ _ _ j (by omega)
   have t:W.cell? ⟨w.heap.size,m,none⟩=some (.int .i64 0):=by
    rw[<-K,H];show(w.alloc _).cell? _=_;rw[dJ _ _ _ _ rfl];exact Nr _ _ _ (by omega)
   have a:W.frozen? ⟨w.heap.size,m,none⟩=false:=by
    rw[<-K];show(w.alloc _).frozen? _=_;rw[World.frozen?_alloc_at _ _ _ _ rfl]
   have S:Hid (mP g first b o m=min (min (g j+co b (at8 o j)) (g m+1)) (mP g first b o j+1)):=laid (by rw[H];rfl);have hX:=J.out j (by omega);have x:=J.out m (by omega);have y:mP g first b o j<=700:=by have:=Dx g first b o j;omega
   have u:=SH b (at8 o j)
   have q:=mn o j U;have b1:(0:Int)<=(j:Int):=dc _;have b2:(j:Int)<(o.size:Int)+1:=by omega
   have b4:(j:Int)<(o.size:Int):=by omega
   have b5:(0:Int)<=(m:Int):=dc _;have b6:(m:Int)<(o.size:Int)+1:=by omega
   generalize mP g first b o j=Z at *
   generalize g j=X at *;generalize g m=Y at *;have I:∀W:ae,aj ai 165 #[.int .u8 (b.toNat:Int),.int .u8 ((at8 o j).toNat:Int)] W fun e w'=>e=.returned (.int .i64 (co b (at8 o j):Int))/\w'=W:=fun W=>PK b (at8 o j) W;generalize co b (at8 o j)=C at *;clear K;have D:G≠w.heap.size:=by omega
   have c:∀v,(W.setCell ⟨w.heap.size,m,none⟩ v).drew.cell? ⟨G,j,none⟩=some (.int .i64 (X:Int)):=fun v=>(aX W ⟨w.heap.size,m,none⟩ ⟨G,j,none⟩ v (by intro e;injection e with R N;exact D R.symm)).trans p;have f:∀v,(W.setCell ⟨w.heap.size,m,none⟩ v).drew.cell? ⟨G,m,none⟩=some (.int .i64 (Y:Int)):=fun v=>(aX W ⟨w.heap.size,m,none⟩ ⟨G,m,none⟩ v (by intro e;injection e with R N;exact D R.symm)).trans r;have l:∀v,(W.setCell ⟨w.heap.size,m,none⟩ v).drew.cell? ⟨w.heap.size,j,none⟩=some (.int .i64 (Z:Int)):=fun v=>(aX W ⟨w.heap.size,m,none⟩ ⟨w.heap.size,j,none⟩ v (by intro e;injection e with R N;omega)).trans s;have x0:aT.wrap ((X:Int)+(C:Int))=(X:Int)+(C:Int):=aZ _ (by omega);have y1:aT.wrap ((Y:Int)+1)=(Y:Int)+1:=aZ _ (by omega);have k:aT.wrap ((Z:Int)+1)=(Z:Int)+1:=aZ _ (by omega);have n:aT.wrap ((j:Int)+1)=(m:Int):=by rw[show(j:Int)+1=(m:Int) by omega];exact aZ _ (by omega)
   have M:=laid H;clear H;have V:=@aaj ai;go_wp2_with fail
   go_region_held3 (fun w'=>w'.cell? ⟨G,j,none⟩=some (.int .i64 (X:Int))/\w'.cell? ⟨G,m,none⟩=some (.int .i64 (Y:Int))/\w'.cell? ⟨w.heap.size,j,none⟩=some (.int .i64 (Z:Int)))
    (first|go_keep|exact⟨c _,f _,l _⟩)
    (first|(go_at_call 165;refine(I _).mono ?_;rintro e w' ⟨rfl,rfl⟩))
   go_wp2
   go_roundw
   case rel=>go_light;have H:=M.out;exact⟨m,d+1,by go_num,by omega,aak (by have:=P.out;rw[<-H]at this;exact this) rfl (by omega) (by have:=S.out;omega)⟩
   case measure=>go_light;have H:=M.out;simp[intOf];omega
  ·have A:Hid (j=o.size):=laid (by omega);go_wp2
   go_ret
   refine⟨rfl,?_,N6 _ _ _⟩;rw[A.out];exact cJ w _
def mA(t p:ByteArray)
 |0=>id
 |i+1=>mP (mA t p i) 0 (at8 t i) p
theorem R0(t p:ByteArray):∀i j,mA t p i j<=j
 |0,j=>ao _
 |i+1,j=>by have:=Dx (mA t p i) 0 (at8 t i) p j;rw[mA];omega
def lr(t p:ByteArray)(k:Nat)
 |0=>[]
 |i+1=>if mA t p (i+1) p.size<=k then lr t p k i++[(i+1,mA t p (i+1) p.size)]else lr t p k i
theorem Cz(t p:ByteArray)(k:Nat):∀n,(lr t p k n).length<=n
 |0=>ao _
 |n+1=>by
  have:=Cz t p k n;simp[lr];split
  ·simp_all
  ·omega
def lE(t p:ByteArray)(k:Nat):=lr t p k t.size
def jU(L:List (Nat×Nat)):=L.flatMap fun h=>[nv h.1,nv h.2]
theorem aal(L:List _):(jU L).length=L.length *2:=by
 induction L with
 |nil=>rfl
 |cons a L Y=>simp[jU,fc,fh,di,List.length_nil]at *;omega
theorem YP(L:List _)(h:Nat×Nat):jU (L++[h])=jU L++[nv h.1,nv h.2]:=by simp[jU]
theorem ab9:(ai.info? 173).map (fun i=>(i.zero,i.size,i.bytes))=some (some (.agg #[.int .i64 0,.int .i64 0]),2,16):=by kernel_rfl
theorem uQ{B:Nat}{e:ah}{v:af}{xs:List _}(h:w.ownsRow B e z v n xs)(Y:ax w.heap.size w w'):w'.ownsRow B e z v n xs:=
 h.kept (row:=none) ⟨Y.os,Y.tape,Y.output,Y.size,fun k hk _=>Y.block k hk⟩ (by cases v.ownBlock<;>simp)
theorem yv{B:Nat}{e:ah}{v:af}{xs:List _}{cs:Array _}{fr:Nat×Nat}(D:w.ownsRow B e z v n xs)(C:w.heap[b]?=some (.cells cs T fr))(U:T≠e):v.ownBlock≠some b:=by
 intro Y;rcases D.2 with⟨K,_⟩|⟨g,cap,H,K,_,I,_⟩
 ·rw[K]at Y;cases Y
 ·rw[K]at Y;injection Y with R
  simp_all
theorem WH(t p:ByteArray)(k:Nat)(w:ae)(ht:t.size<=300)(s:p.size<=300)(hk:k<=100):
  aj ai 139 #[.string t,.string p,.int .i64 (k:Int)] w fun e w'=>∃v,e=.returned v/\w'.ownsRow w.heap.size 173 2 v (lE t p k).length (jU (lE t p k))/\ax w.heap.size w w':=by
 obtain⟨i0,hi,z,c,d⟩:=info_parts ab9;have O:=Gl p.size w s
 go_enter Tryz.func139,Tryz.ntmps139
 go_wp2_with fail
 refine O.mono ?_;rintro e w1 ⟨rfl,T,Q⟩;clear O;go_wp2
 go_loopw [7,8,16] (fun v lv iv wr=>∃i G:Nat,iv=.int .i64 (i:Int)/\lv=.slice (some ⟨G,0,none⟩) (p.size+1) (p.size+1)/\i<=t.size/\mo wr G (mA t p i) (p.size+1)/\wr.ownsRow w.heap.size 173 2 v (lr t p k i).length (jU (lr t p k i))/\ax w.heap.size w wr) (fun _ _ iv _=>t.size-(intOf iv).toNat)
 case atStart=>exact⟨0,w.heap.size,rfl,rfl,bk _,T,World.ownsRow_nil _ _ _ _,Q⟩
 case round=>
  obtain⟨i,G,rfl,rfl,hit,B,A,U⟩:=hrel;clear T Q;have r:=Cz t p k i;by_cases q:i<t.size
  ·have hta:=mn t i q;have P:Hid (∀W:ae,mo W G (mA t p i) (p.size+1)->aj ai 145 #[.slice (some ⟨G,0,none⟩) (p.size+1) (p.size+1),.int .i64 0,.int .u8 ((at8 t i).toNat:Int),.string p] W fun e w'=>e=.returned (.slice (some ⟨W.heap.size,0,none⟩) (p.size+1) (p.size+1))/\mo w' W.heap.size (mA t p (i+1)) (p.size+1)/\ax W.heap.size W w'):=laid fun W h=>Gq (mA t p i) 0 (at8 t i) p G W s (by omega) (fun j C=>by have:=R0 t p i j;omega) h;have b1:(i:Int)<(t.size:Int):=by omega
   have l:=laid B;clear B;go_wp2_with fail
   refine(P.out _ l.out).mono ?_;rintro e w2 ⟨rfl,F,L⟩;have K:=uQ A L;have Y:=U.trans (L.mono U.size);have hc:=F.cell p.size (by omega);have b:=R0 t p (i+1) p.size;have N:=laid F;have a:wr.heap.size<w2.heap.size:=F.lt;clear L P l A F;generalize wr.heap.size=H at *;by_cases o:mA t p (i+1) p.size<=k
   ·have E:Hid (lr t p k (i+1)=lr t p k i++[(i+1,mA t p (i+1) p.size)]):=laid (by rw[lr,if_pos o]);generalize J:mA t p (i+1) p.size=g at *;clear J;go_wp2_with(first
     |(at_builtin;refine wpList_append_own _ rfl _ _ 193 rfl w.heap.size 173 i0 (.agg #[.int .i64 0,.int .i64 0]) 2 16 Tryz.underlying193 hi z c d rfl (by decide) _ _ _ rfl (K.alloc _) ⟨w2.heap.size,0,none⟩ 1 1 [nv (i+1),nv g] rfl rfl ?c1 ?c2 ?c3 ?c4 ?c5 ?_)
     |go_in)
    case c1=>
     intro j u C
     match j,C with
     |0,C=>simp at C;subst C;simp[Addr.add,go_sem,nv]
     |1,C=>simp at C;subst C;simp[Addr.add,go_sem,nv]
    case c2=>first|exact⟨rfl,rfl⟩|(intro u x;simp at x;rcases x with rfl|rfl<;>rfl)
    case c3=>unfold maxLen;omega
    case c4=>omega
    case c5=>have:=Y.size;first|omega|(simp;omega)
    intro v' f R D _;have M:ax w.heap.size w f:=(Y.alloc Y.size _).grown D (by have:=Y.size;simp;omega) (fun j C=>(K.lt j C).1);have I:f.ownsRow w.heap.size 173 2 v' (lr t p k (i+1)).length (jU (lr t p k (i+1))):=by
     rw[E.out,fh,YP];exact R
    have V:mo f H (mA t p (i+1)) (p.size+1):=by
     have hk:=N.out;unfold mo at hk⊢;rw[D.block H (by simp;omega) (fun e=>yv K hk (by decide) e.symm),alE w2 _ a];exact hk
    obtain⟨X,cap,y,rfl⟩:∃X cap y,v'=.slice (some ⟨X,0,none⟩) y cap:=by
     rcases R.2 with⟨_,h0⟩|⟨X,cap,n,hv,_⟩
     ·omega
     ·exact⟨X,cap,_,hv⟩
    have Z:=laid V;clear R D K V;go_wp2
    go_roundw
    case rel=>go_light;exact⟨i+1,H,by go_num,rfl,by omega,Z.out,I,M⟩
    case measure=>go_light;simp[intOf];omega
   ·have E:Hid (lr t p k (i+1)=lr t p k i):=laid (by rw[lr,if_neg o]);have I:w2.ownsRow w.heap.size 173 2 u7 (lr t p k (i+1)).length (jU (lr t p k (i+1))):=by
     rw[E.out];exact K
    generalize J:mA t p (i+1) p.size=g at *;clear J;go_wp2
    go_roundw
    case rel=>go_light;exact⟨i+1,H,by go_num,rfl,by omega,N.out,I,Y⟩
    case measure=>go_light;simp[intOf];omega
  ·have S:i=t.size:=by omega
   have m:Hid (wr.ownsRow w.heap.size 173 2 u7 (lE t p k).length (jU (lE t p k))):=laid (by unfold lE;rw[<-S];exact A);clear S A;go_wp2
   go_ret
   exact⟨u7,rfl,m.out,U⟩
noncomputable def ER:=match bR.body with
 |some (.seq a _)=>a
 |_=>.skip
noncomputable def sO:=match bR.body with
 |some (.seq _ (.seq b _))=>b
 |_=>.skip
theorem Xk(X:ByteArray)(k q st len b:Nat)(w:ae)(hX:X.size<=1000)(hk:k<=6)(U:st<=200)(R:len<=1000)(H:b *st<=X.size)(D:b<=100000):
  aj ai 77 #[.agg #[.int .i64 (k:Int),.int .i64 (q:Int),.int .i64 (st:Int)],.string X,.int .i64 (len:Int),.int .i64 (b:Int)] w fun e w'=>e=.returned (.string (X.extract (b *st) (min (b *st+st+len+k) X.size)))/\ax w.heap.size w w':=by
 obtain⟨m,Y,I⟩:∃m:Nat,b *st=m/\(b:Int) *(st:Int)=(m:Int):=⟨b *st,rfl,by simp⟩;rw[Y]at H⊢;clear Y;have K:min ((m:Int)+(st:Int)+(len:Int)+(k:Int)) (X.size:Int)=((min (m+st+len+k) X.size:Nat):Int):=by omega
 go_wp2
 go_ret
 exact⟨rfl,(br _ _).alloc (ao _) _⟩
structure Reads(w:ae)(By Rf Sg:Nat)(k q st:Nat)(X P:ByteArray):Prop where
 c0:w.cell? ⟨By,0,none⟩=some (.int .i64 (k:Int))
 c1:w.cell? ⟨By,1,none⟩=some (.int .i64 (q:Int))
 c2:w.cell? ⟨By,2,none⟩=some (.int .i64 (st:Int))
 x:w.cell? ⟨Rf,0,none⟩=some (.string X)
 p:w.cell? ⟨Sg,0,none⟩=some (.string P)
def pt(b:Nat):Value:=.pointer (some ⟨b,0,none⟩)
def nK(x By Rf Sg Fp:Nat)(v:af)(u:Nat->af):Array Value:=
 #[.int .i64 (x:Int),pt By,pt Rf,pt Sg,pt Fp,.tuple #[],v,u 7,u 8,u 9,u 10,u 11,u 12,u 13,u 14,u 15,u 16,u 17,u 18,u 19,u 20,u 21,u 22,u 23,u 24,u 25,u 26,u 27,u 28,u 29,u 30,u 31,u 32,u 33,u 34,u 35,u 36,u 37,u 38]
theorem QR(x By Rf Sg Fp:Nat)(v X Z a9 Y K H D R U C F J M a20 N a22 a23 a24 a25 a26 a27 a28 O Q a31 a32 a33 S a35 a36 a37 V:af):#[.int .i64 x,pt By,pt Rf,pt Sg,pt Fp,.tuple #[],v,X,Z,a9,Y,K,H,D,R,U,C,F,J,M,a20,N,a22,a23,a24,a25,a26,a27,a28,O,Q,a31,a32,a33,S,a35,a36,a37,V]=nK x By Rf Sg Fp v (fun i=>[X,Z,a9,Y,K,H,D,R,U,C,F,J,M,a20,N,a22,a23,a24,a25,a26,a27,a28,O,Q,a31,a32,a33,S,a35,a36,a37,V].getD (i-7) (.tuple #[])):=rfl
def uA(By k q st x:Nat)(X P Y:ByteArray)(v:af):Nat->Value:=fun i=>[.tuple #[],.agg #[.int .i64 (k:Int),.int .i64 (q:Int),.int .i64 (st:Int)],.string X,.string P,.int .i64 (P.size:Int),.int .i64 (x:Int),.string Y,.string P,pt By,.int .i64 (k:Int),v].getD (i-7) (.tuple #[])
def jI(X P:ByteArray)(k st x:Nat):=X.extract (x *st) (min (x *st+st+P.size+k) X.size)
theorem ags(x By Rf Sg Fp k q st:Nat)(X P:ByteArray)(w:ae)(J:Reads w By Rf Sg k q st X P)(hX:X.size<=200)(hP:P.size<=30)(hk:k<=6)(Q:st<=200)(S:x *st<=X.size)(U:x<=100000):
  ER.wp ai (fun e a w'=>e=.normal/\∃v,a=⟨nK x By Rf Sg Fp v (uA By k q st x X P (jI X P k st x) v),[]⟩/\w'.ownsRow w.heap.size 173 2 v (lE (jI X P k st x) P k).length (jU (lE (jI X P k st x) P k))/\ax w.heap.size w w') ⟨nK x By Rf Sg Fp (.tuple #[]) (fun _=>.tuple #[]),[]⟩ w:=by
 obtain⟨c0,c1,c2,A,cp⟩:=J;have H:=laid (fun W=>Xk X k q st P.size x W (by omega) hk Q (by omega) S U);have I:=laid (fun W=>WH (jI X P k st x) P k W (by unfold jI;rw[ej];omega) (by omega) (by omega));have M:By<w.heap.size:=cG c0;have N:Rf<w.heap.size:=cG A;have O:Sg<w.heap.size:=cG cp;rw[show X.extract (x *st) (min (x *st+st+P.size+k) X.size)=jI X P k st x from rfl]at H;generalize lE (jI X P k st x) P k=L at *;generalize jI X P k st x=V at *;unfold ER bR nK;dsimp only;simp only[pt]
 go_region_held3 (fun w'=>w'.cell? ⟨By,0,none⟩=some (.int .i64 (k:Int))/\w'.cell? ⟨By,1,none⟩=some (.int .i64 (q:Int))/\w'.cell? ⟨By,2,none⟩=some (.int .i64 (st:Int))/\w'.cell? ⟨Rf,0,none⟩=some (.string X)/\w'.cell? ⟨Sg,0,none⟩=some (.string P))
  (first|go_keep|((try dsimp only);(repeat' apply And.intro);all_goals(first
   |(rw[D.cell (by have:=Y.size;simp at this⊢;omega),Y.cell (by first|omega|(simp;omega))];assumption)
   |(rw[Y.cell (by first|omega|(simp;omega))];assumption))))
  (first
   |(go_at_call 77;refine(H.out _).mono ?_;rintro e w' ⟨rfl,Y⟩)
   |(go_at_call 139;refine(I.out _).mono ?_;rintro e T ⟨v,rfl,K,D⟩))
 refine⟨rfl,v,rfl,?_,?_⟩
 ·rcases K.2 with h'|⟨g,cap,R,B,C,F⟩
  ·exact⟨K.1,.inl h'⟩
  ·exact⟨K.1,.inr ⟨g,cap,R,B,aJ Y.size C,F⟩⟩
 ·exact(show ax w.heap.size w w' from⟨Y.os,Y.tape,Y.output,Y.size,Y.block⟩).trans (D.mono Y.size)
def kN(m:Nat)(L:List (Nat×Nat))(j:Nat):=(L.take j).map (fun h=>(h.1+m,h.2))++L.drop j
theorem ab_(L:List _)(i:Nat)(Y:i<L.length):(jU L)[i *2]?=some (nv (L[i]).1):=by
 induction L generalizing i with
 |nil=>simp at Y
 |cons a L K=>
  cases i with
  |zero=>rfl
  |succ i=>
   rw[show(i+1) *2=i *2+1+1 by omega];simp[jU]at *;simpa using K i _
theorem aca(L:List _)(i:Nat)(z:Nat)(Y:i<L.length):(jU L).set (i *2) (nv z)=jU (L.set i (z,(L[i]).2)):=by
 induction L generalizing i with
 |nil=>simp at Y
 |cons a L K=>
  cases i with
  |zero=>rfl
  |succ i=>
   rw[show(i+1) *2=i *2+1+1 by omega];simp[jU,fc,List.cons_append,List.nil_append,List.set_cons_succ,List.getElem_cons_succ]at *;rw[K i _]
theorem yw(m:Nat)(L:List _)(j:Nat):(kN m L j).length=L.length:=by
 simp[kN];omega
theorem PO(m:Nat)(L:List _)(j:Nat)(Y:j<L.length):(kN m L j)[j]?=some L[j]:=by
 unfold kN;have e:((L.take j).map fun h=>(h.1+m,h.2)).length=j:=by simp;omega
 rw[List.getElem?_append_right (by omega),e,ald,dh Y];rfl
theorem aam(m:Nat)(L:List _)(j:Nat)(Y:j<L.length):(kN m L j).set j ((L[j]).1+m,(L[j]).2)=kN m L (j+1):=by
 unfold kN;have e:((L.take j).map fun h=>(h.1+m,h.2)).length=j:=by simp;omega
 rw[List.set_append_right _ _ (by omega),e,ald,fy Y,fi,cv,dh Y];rfl
theorem agt(x By Rf Sg Fp k q st:Nat)(X P:ByteArray)(L:List (Nat×Nat))(v:af)(u:Nat->af)(B:Nat)(w:ae)(s:Reads w By Rf Sg k q st X P)(f:∀g,v.ownBlock=some g->g≠By)(hL:L.length<=1000)(U:∀h∈L,h.1<=1000)(hx:x *st<=1000)(gF:st<=1000)(hx':x<=100000)
  (Y:w.ownsRow B 173 2 v L.length (jU L)):
  sO.wp ai (fun e a w'=>e=.normal/\∃H,a=⟨nK x By Rf Sg Fp v H,[]⟩/\w'.ownsRow B 173 2 v L.length (jU (kN (x *st) L L.length))) ⟨nK x By Rf Sg Fp v u,[]⟩ w:=by
 have F:Hid (∀(t:Array af) (H:Nat->af) (w':ae),t=nK x By Rf Sg Fp v H->w'.ownsRow B 173 2 v L.length (jU (kN (x *st) L L.length))->(fun(e:Exit) (a:Act) (w':ae)=>e=.normal/\∃H,a=⟨nK x By Rf Sg Fp v H,[]⟩/\w'.ownsRow B 173 2 v L.length (jU (kN (x *st) L L.length))) .normal ⟨t,[]⟩ w'):=
  laid (fun t H w' e r=>⟨rfl,H,by rw[e],r⟩)
 generalize(fun(e:Exit) (a:Act) (w':ae)=>e=.normal/\∃H,a=⟨nK x By Rf Sg Fp v H,[]⟩/\w'.ownsRow B 173 2 v L.length (jU (kN (x *st) L L.length)))=Q at F⊢;have c2:=s.c2;clear s;obtain⟨m,d,j⟩:∃m:Nat,m=x *st/\(x:Int) *(st:Int)=(m:Int):=⟨x *st,rfl,by simp⟩;rw[<-d]at hx F;clear d;have N:=laid U;clear U;rcases Y.2 with⟨c,J⟩|⟨g,cap,o,c,hg,_⟩
 ·have Z:L=[]:=List.length_eq_zero_iff.1 J;subst Z c;have O:=laid Y;clear Y;unfold sO bR;dsimp only;rw[show nK x By Rf Sg Fp (_:af) u=_ from rfl];simp only[nK,pt];go_wp2
  go_loopw [20] (fun iv w2=>iv=.int .i64 0/\w2=w) (fun _ _=>0)
  case atStart=>exact⟨rfl,rfl⟩
  case round=>
   obtain⟨rfl,rfl⟩:=hrel;go_wp2
   exact F.out _ _ _ (QR x By Rf Sg Fp _ _ _ _ _ _ _ _ _ _ _ _ _ _ _ _ _ _ _ _ _ _ _ _ _ _ _ _ _ _ _ _ _) O.out
 ·subst c;have G:=f g rfl;have O:=laid Y;clear Y f;generalize J:L.length=n at *;have l:=laid J;clear J;unfold sO bR;dsimp only;rw[show nK x By Rf Sg Fp (_:af) u=_ from rfl];simp only[nK,pt];go_wp2
  go_loopw [20] (fun iv w2=>∃i:Nat,iv=.int .i64 (i:Int)/\i<=n/\w2.ownsRow B 173 2 (.slice (some ⟨g,0,none⟩) n cap) n (jU (kN m L i))/\w2.cell? ⟨By,2,none⟩=some (.int .i64 (st:Int))) (fun iv _=>n-(intOf iv).toNat)
  case atStart=>exact⟨0,rfl,bk _,O.out,c2⟩
  case round=>
   obtain⟨i,rfl,y,Y,R⟩:=hrel;by_cases b:i<n
   ·have K:i<L.length:=by have:=l.out;omega
    have b1:(i:Int)<(n:Int):=by omega
    have b2:(0:Int)<=(i:Int):=dc _;have s1:wr.cell? ⟨By,2,none⟩=some (.int .i64 (st:Int)):=R;have s2:wr.cell? ⟨g,i *2,none⟩=some (.int .i64 ((L[i]).1:Int)):=by
     rw[Y.cellAt (i *2) (by omega)];have h:=ab_ (kN m L i) i (by rw[yw];exact K);rw[h];have A:=PO m L i K;rw[cx (by rw[yw];exact K)]at A;rw[Option.some.inj A];rfl
    have s3:=Y.frozenAt (i *2);have hE:=N.out (L[i]) (List.getElem_mem K);have x1:aT.wrap ((x:Int) *(st:Int))=(m:Int):=by rw[j];exact aZ _ (by omega)
    have x2:aT.wrap (((L[i]).1:Int)+(m:Int))=((L[i]).1:Int)+(m:Int):=aZ _ (by omega);have I:=Y.stored (i *2) (nv ((L[i]).1+m));have T:Hid ((wr.setCell ⟨g,i *2,none⟩ (nv ((L[i]).1+m))).ownsRow B 173 2 (.slice (some ⟨g,0,none⟩) n cap) n (jU (kN m L (i+1)))):=laid (by
     have h:=I.1;have A:=PO m L i K;rw[cx (by rw[yw];exact K)]at A;rw[aca _ i _ (by rw[yw];exact K),Option.some.inj A,aam m L i K]at h;exact h)
    have D:Hid (∀z:af,(wr.setCell ⟨g,i *2,none⟩ z).cell? ⟨By,2,none⟩=some (.int .i64 (st:Int))):=laid fun z=>(aX wr ⟨g,i *2,none⟩ ⟨By,2,none⟩ z (by intro e;injection e with p e2;exact G p)).trans s1;clear I Y R;generalize(L[i]).1=E at *;have C:nv (E+m)=.int .i64 ((E:Int)+(m:Int)):=by simp[nv]
    rw[C]at T;clear C;have V:Hid ((wr.setCell ⟨g,i *2,none⟩ (.int .i64 ((E:Int)+(m:Int)))).drew.ownsRow B 173 2 (.slice (some ⟨g,0,none⟩) n cap) n (jU (kN m L (i+1)))):=T;have M:Hid ((wr.setCell ⟨g,i *2,none⟩ (.int .i64 ((E:Int)+(m:Int)))).drew.cell? ⟨By,2,none⟩=some (.int .i64 (st:Int))):=laid (D.out _);clear T D;go_wp2
    go_region
    generalize(wr.setCell ⟨g,i *2,none⟩ (.int .i64 ((E:Int)+(m:Int)))).drew=W2 at *;go_wp2
    go_roundw
    case rel=>go_light;exact⟨i+1,by go_num,by omega,V.out,M.out⟩
    case measure=>go_light;simp[intOf];omega
   ·have W:i=n:=by omega
    subst W;have S:=laid Y;clear Y;go_wp2
    exact F.out _ _ _ (QR x By Rf Sg Fp _ _ _ _ _ _ _ _ _ _ _ _ _ _ _ _ _ _ _ _ _ _ _ _ _ _ _ _ _ _ _ _ _) S.out
def RD(w:ae)(b:Nat)(s:ByteArray)(p:Int)(c:Int):=
 w.heap[b]?=some (.cells #[.string s,.int .i64 p,.int .i64 c] 98 (0,0))
theorem RD.c0{s:ByteArray}{p c:Int}(h:RD w b s p c):w.cell? ⟨b,0,none⟩=some (.string s):=by
 rw[bq w b 0 _ _ _ h];rfl
theorem RD.c1{s:ByteArray}{p c:Int}(h:RD w b s p c):w.cell? ⟨b,1,none⟩=some (.int .i64 p):=by
 rw[bq w b 1 _ _ _ h];rfl
theorem RD.c2{s:ByteArray}{p c:Int}(h:RD w b s p c):w.cell? ⟨b,2,none⟩=some (.int .i64 c):=by
 rw[bq w b 2 _ _ _ h];rfl
theorem RD.fz{s:ByteArray}{p c:Int}(h:RD w b s p c)(j:Nat):w.frozen? ⟨b,j,none⟩=false:=cI w b j _ _ h
def nQ(c p:Int):List PanicEntry:=[{v:=.iface 70 (.agg #[.int .i64 c,.int .i64 p]),recovered:=false}]
theorem oc(w:ae)(b:Nat)(s:ByteArray)(p c:Int)(h:RD w b s p c):
  aj ai 65 #[.pointer (some ⟨b,0,none⟩)] w fun e w'=>e=.returned (.bool (p==(s.size:Int)))/\∃m,w'=w.drewN m:=by
 have Y:=h.c0;have K:=h.c1;go_wp2
 go_quiet(fail)
 go_wp2
 go_ret
 exact⟨rfl,nq,rfl⟩
theorem o9(w:ae)(b:Nat)(s:ByteArray)(p c:Int)(h:RD w b s p c):
  aj ai 69 #[.pointer (some ⟨b,0,none⟩)] w fun e w'=>e=.panicked (nQ c p)/\∃m,w'=w.drewN m:=by
 have Y:=h.c1;have K:=h.c2;go_wp2
 go_region_dies
 all_goals(try go_wp2)
 all_goals exact⟨rfl,rfl,1,rfl⟩
def iH(f:UInt8->Bool)(l:List _)(m:Nat):=((l.take m).takeWhile f).length
theorem N7(f:UInt8->Bool)(m:Nat):iH f [] m=0:=by simp[iH]
theorem GC(f:UInt8->Bool)(l:List _):iH f l 0=0:=by simp[iH]
theorem pM(f:UInt8->Bool)(x:UInt8)(l:List _)(m:Nat):iH f (x::l) (m+1)=if f x=true then iH f l m+1 else 0:=by
 unfold iH;by_cases h:f x=true<;>simp[h]
theorem re(f:UInt8->Bool):∀l m,iH f l m<=m/\iH f l m<=l.length
 |[],m=>by rw[N7];simp
 |x::l,0=>by rw[GC];simp
 |x::l,m+1=>by
  have:=re f l m;rw[pM];split<;>simp<;>omega
theorem Cp(f:UInt8->Bool):∀l m k h,k<=iH f l m->k<m->f l[k]=true->k+1<=iH f l m
 |[],m,k,h,_,_,_=>by simp at h
 |x::l,0,k,h,_,K,_=>by omega
 |x::l,m+1,0,h,_,_,Y=>by
  rw[pM,if_pos (by simp_all)];omega
 |x::l,m+1,k+1,h,hk,K,Y=>by
  rw[pM]at hk⊢;by_cases H:f x=true
  ·rw[if_pos H]at hk⊢;have:=Cp f l m k _ (by omega) (by omega) (by simpa using Y);omega
  ·simp_all
theorem Cq(f:UInt8->Bool):∀l m k h,k<=iH f l m->f l[k]=false->iH f l m=k
 |[],m,k,h,_,_=>by simp at h
 |x::l,0,k,h,hk,_=>by rw[GC]at hk⊢;omega
 |x::l,m+1,0,h,_,Y=>by
  rw[pM,if_neg (by simp_all)]
 |x::l,m+1,k+1,h,hk,Y=>by
  rw[pM]at hk⊢;by_cases K:f x=true
  ·rw[if_pos K]at hk⊢;have:=Cq f l m k _ (by omega) (by simpa using Y);omega
  ·simp_all
def rest(s:ByteArray)(p:Nat):=s.data.toList.drop p
theorem nD(s:ByteArray)(p:Nat):(rest s p).length=s.size-p:=by simp[rest]
theorem aej(s:ByteArray)(p k:Nat)(h:p+k<s.size):(rest s p)[k]'(by rw[nD];omega)=s[p+k]:=by
 simp[rest,ByteArray.getElem_eq_getElem_data]
theorem RD.put{s:ByteArray}{p c:Int}(h:RD w b s p c)(q:Int):RD (w.setCell ⟨b,1,none⟩ (.int .i64 q)) b s q c:=by
 unfold RD at *;have:=heap_setCell_same w b 1 _ _ (.int .i64 q) h;simp_all
theorem oZ(w:ae)(b:Nat)(j:Nat)(v:af):w.grownBy (w.setCell ⟨b,j,none⟩ v) (some b):=
 ⟨rfl,rfl,rfl,by simp,fun k hk Y=>heap_setCell_other w _ k v (by simp_all)⟩
theorem Gr(w:ae)(r:Option Nat):w.grownBy w r:=⟨rfl,rfl,rfl,ao _,fun _ _ _=>rfl⟩
theorem nB(w:ae)(n:Nat)(r:Option Nat):w.grownBy (w.drewN n) r:=⟨rfl,rfl,rfl,ao _,fun _ _ _=>rfl⟩
theorem jA{a b c:ae}{r:Option Nat}(h:a.grownBy b r)(k:b.grownBy c r):a.grownBy c r:=
 ⟨k.os.trans h.os,k.tape.trans h.tape,k.output.trans h.output,aJ h.size k.size,fun j K Y=>(k.block j (bu K h.size) Y).trans (h.block j K Y)⟩
theorem RD.drewN{s:ByteArray}{p c:Int}(h:RD w b s p c)(n:Nat):RD (w.drewN n) b s p c:=h
theorem Cr(x:UInt8)(w:ae):
  aj ai 71 #[.int .u8 x.toNat] w fun e w'=>e=.returned (.bool (iM x))/\w'=w:=YI _ (AT x) (yN x) w
def Ir(w:ae)(b:Nat)(s:ByteArray)(p:Nat)(c:Int)(f:UInt8->Bool)(m:Nat)(q:Nat)(wr:ae):Prop:=
 p<=q/\q<=p+iH f (rest s p) m/\RD wr b s (q:Int) c/\w.grownBy wr (some b)
theorem yD(s:ByteArray)(p q:Nat)(Y:p<=q)(h:q<s.size):(rest s p)[q-p]'(by rw[nD];omega)=s[q]:=by
 rw[aej s p _ (by omega)];simp_all
def mZ(w:ae)(b:Nat):=(intOf ((w.cell? ⟨b,1,none⟩).getD ar)).toNat
theorem RD.mZ{s:ByteArray}{p c:Int}(h:RD w b s p c):mZ w b=p.toNat:=by
 unfold Go.Proofs.YtdcjnhipenbcfaaGreatDoor.mZ;rw[h.c1];rfl
def yE(w:ae)(b:Nat)(s:ByteArray)(p:Nat)(c:Int)(n:Nat)(least:Int)(e:ck)(w':ae):Prop:=
 (least<=(n:Int)->e=.returned (.string (s.extract p (p+n))))/\((n:Int)<least->e=.panicked (nQ c ((p:Int)+(n:Int))))/\RD w' b s ((p:Int)+(n:Int)) c/\w.grownBy w' (some b)
theorem ti{s:ByteArray}{p:Nat}{c:Int}{wr:ae}(D:q=p+n)(R:p<=q)(H:¬(q:Int)-(p:Int)<least)
  (Y:RD wr b s (q:Int) c)(K:w.grownBy wr (some b))(m:Nat):yE w b s p c n least (.returned (.string (s.extract p q))) (wr.drewN m):=by
 subst D;refine⟨fun _=>rfl,fun h=>absurd h (by omega),?_,jA K (nB wr m _)⟩;have:=Y.drewN m
 rwa [show((p+n))=p+n by omega]at this
theorem th{s:ByteArray}{p:Nat}{c:Int}{wr:ae}(D:q=p+n)(R:p<=q)(H:(q:Int)-(p:Int)<least)
  (Y:RD wr b s (q:Int) c)(K:w.grownBy wr (some b))(m:Nat):yE w b s p c n least (.panicked (nQ c q)) (wr.drewN m):=by
 subst D;refine⟨fun h=>absurd h (by omega),fun _=>by simp,?_,jA K (nB wr m _)⟩;have:=Y.drewN m
 rwa [show((p+n))=p+n by omega]at this
theorem Gs(w:ae)(b:Nat)(s:ByteArray)(p:Nat)(c:Int)(least Y:Int)(h:RD w b s p c)(m:s.size<=1000)(g:p<=s.size)(f:0<=Y)(E:Y<=1000)(W:0<=least)(X:least<=1000):
  aj ai 70 #[.pointer (some ⟨b,0,none⟩),.func (.func 71) #[] #[],.int .i64 least,.int .i64 Y] w fun e w'=>
   yE w b s p c (iH iM (rest s p) Y.toNat) least e w':=by
 have T:=h.c1
 go_enter dC,dE
 go_wp2
 clear T
 go_loopw [] (fun wr=>∃q:Nat,Ir w b s p c iM Y.toNat q wr) (fun wr=>s.size-mZ wr b)
 case atStart=>exact⟨p,ao _,by omega,h,Gr _ _⟩
 case round=>
  obtain⟨q,J,j,K,B⟩:=hrel;have C:=re iM (rest s p) Y.toNat;rw[nD]at C;have c0:=K.c0;have c1:=K.c1;have f1:=K.fz 1;have G:aT.wrap ((q:Int)-(p:Int))=(q:Int)-(p:Int):=aZ _ (by omega);by_cases Z:(q:Int)-(p:Int)<Y
  ·have L:decide ((q:Int)-(p:Int)<Y)=true:=by simp;omega
   by_cases A:q<s.size
   ·have O:((q:Int)==(s.size:Int))=false:=by simp;omega
    have V:(q:Int)<(s.size:Int):=by omega
    by_cases R:iM s[q]=true
    ·go_wp2_with fail
     go_quiet((first|(go_at_call 65;exact aH (oc _ _ _ _ _ (K.drewN _)))|(go_at_call 71;exact aM (Cr _ _))))
     have N:=Cp iM (rest s p) Y.toNat (q-p) (by rw[nD];omega) (by omega) (by omega) (by rw[yD s p q J A];exact R);go_wp2
     have U:=(K.drewN nq).put ((q:Int)+1);have M:=jA B (jA (nB wr nq (some b)) (oZ (wr.drewN nq) b 1 (.int .i64 ((q:Int)+1))))
     go_roundw
     case rel=>go_light;exact⟨q+1,by omega,by omega,U,M⟩
     case measure=>go_light;have Q:=K.mZ;have S:=U.mZ;rw[Q,S];omega
    ·rw[az]at R;have D:Hid (q=p+iH iM (rest s p) Y.toNat):=by
      have:=Cq iM (rest s p) Y.toNat (q-p) (by rw[nD];omega) (by omega) (by rw[yD s p q J A];exact R);exact laid (by omega)
     go_wp2_with fail
     go_quiet((first|(go_at_call 65;exact aH (oc _ _ _ _ _ (K.drewN _)))|(go_at_call 71;exact aM (Cr _ _))))
     have H:=K.drewN nq;have I:=jA B (nB wr nq (some b));by_cases F:(q:Int)-(p:Int)<least
     ·go_wp2_with(go_at_call 69;refine(o9 _ _ _ _ _ H).mono ?_;rintro e w' ⟨rfl,P,rfl⟩)
      exact⟨rfl,th (least:=least) D.out (by omega) (by omega) K B _⟩
     ·go_wp2
      go_quiet(fail)
      go_wp2
      go_ret
      exact ti (least:=least) D.out (by omega) (by omega) H I _
   ·have O:((q:Int)==(s.size:Int))=true:=by simp;omega
    have D:Hid (q=p+iH iM (rest s p) Y.toNat):=laid (by omega);go_wp2_with fail
    go_quiet((first|(go_at_call 65;exact aH (oc _ _ _ _ _ (K.drewN _)))|(go_at_call 71;exact aM (Cr _ _))))
    have H:=K.drewN nq;have I:=jA B (nB wr nq (some b));by_cases F:(q:Int)-(p:Int)<least
    ·go_wp2_with(go_at_call 69;refine(o9 _ _ _ _ _ H).mono ?_;rintro e w' ⟨rfl,P,rfl⟩)
     exact⟨rfl,th (least:=least) D.out (by omega) (by omega) K B _⟩
    ·go_wp2
     go_quiet(fail)
     go_wp2
     go_ret
     exact ti (least:=least) D.out (by omega) (by omega) H I _
  ·have L:decide ((q:Int)-(p:Int)<Y)=false:=by simp;omega
   have D:Hid (q=p+iH iM (rest s p) Y.toNat):=laid (by omega);go_wp2_with fail
   go_quiet((first|(go_at_call 65;exact aH (oc _ _ _ _ _ (K.drewN _)))|(go_at_call 71;exact aM (Cr _ _))))
   have H:=K.drewN nq;have I:=jA B (nB wr nq (some b));by_cases F:(q:Int)-(p:Int)<least
   ·go_wp2_with(go_at_call 69;refine(o9 _ _ _ _ _ H).mono ?_;rintro e w' ⟨rfl,P,rfl⟩)
    exact⟨rfl,th (least:=least) D.out (by omega) (by omega) K B _⟩
   ·go_wp2
    go_quiet(fail)
    go_wp2
    go_ret
    exact ti (least:=least) D.out (by omega) (by omega) H I _
def Eu(n:Int):=decide (65<=n/\n<=90)||decide (97<=n/\n<=122)||decide (48<=n/\n<=57)||decide (n=95)||decide (n=46)
def Ev(n:Int):=decide (33<=n/\n<=126)
def lA(b:UInt8):=Eu b.toNat
def kT(b:UInt8):=Ev b.toNat
theorem YQ(n:Int)(Y:0<=n)(K:n<=255)(w:ae):
  aj ai 95 #[.int .u8 n] w fun e w'=>e=.returned (.bool (Eu n))/\w'=w:=by
 all_goals
  go_enter Tryz.func95,Tryz.ntmps95
  go_wp2
  all_goals go_ret
  all_goals(go_light;refine⟨pa ?_,rfl⟩;first|(simp_all[Eu];done)|(rw[bY];simp[Eu];omega))
theorem YR(n:Int)(Y:0<=n)(K:n<=255)(w:ae):
  aj ai 120 #[.int .u8 n] w fun e w'=>e=.returned (.bool (Ev n))/\w'=w:=by
 by_cases a1:33<=n<;>by_cases a2:n<=126;all_goals
  go_wp2
  all_goals go_ret
  all_goals(exact⟨pa (by simp_all[Ev]),rfl⟩)
theorem Cs(x:UInt8)(w:ae):
  aj ai 95 #[.int .u8 x.toNat] w fun e w'=>e=.returned (.bool (lA x))/\w'=w:=YQ _ (AT x) (yN x) w
theorem Ct(x:UInt8)(w:ae):
  aj ai 120 #[.int .u8 x.toNat] w fun e w'=>e=.returned (.bool (kT x))/\w'=w:=YR _ (AT x) (yN x) w
def iJ(st:Nat×Bool)(f:Nat->Nat×Bool):=if st.2=true then st else f st.1
theorem wv{st:Nat×Bool}(h:st.2=true)(f:Nat->Nat×Bool):iJ st f=st:=if_pos h
theorem kX{st:Nat×Bool}(h:st.2=false)(f:Nat->Nat×Bool):iJ st f=f st.1:=if_neg (by simp[h])
def ik(s:ByteArray)(c:UInt8)(p:Nat):=if h:p<s.size then(if s[p]=c then(p+1,false)else(p,true))else(p,true)
def lT(s:ByteArray)(f:UInt8->Bool)(least Y p:Nat):=(p+iH f (rest s p) Y,decide (iH f (rest s p) Y<least))
def qF(s:ByteArray)(p:Nat):=iJ (lT s lA 1 10 p) (ik s 10)
def ju(s:ByteArray)(Y p:Nat):=iJ (lT s iM 1 Y p) (ik s 10)
def j9(s:ByteArray)(Y p:Nat):=iH iM (rest s p) Y
def xj(s:ByteArray):Nat->Nat->Nat->Nat×Bool
 |0,_,p=>(p,false)
 |fuel+1,n,p=>if s.size<=p then(p,false)else iJ (ju s (200-n) p) (xj s fuel (n+j9 s (200-n) p))
def jV(s:ByteArray):=
 iJ (ik s 62 0) fun p=>iJ (qF s p) fun p=>iJ (ju s 200 p) (xj s (s.size+1) (j9 s 200 p))
def mc(s:ByteArray)(p:Nat):=
 iJ (ik s 64 p) fun p=>iJ (qF s p) fun p=>iJ (ju s 30 p) fun p'=>iJ (ik s 43 p') fun p'=>iJ (ik s 10 p') fun p'=>iJ (lT s kT (j9 s 30 p) (j9 s 30 p) p') (ik s 10)
def lu(s:ByteArray)
 |0,p=>(p,decide (p<s.size))
 |n+1,p=>if s.size<=p then(p,false)else iJ (mc s p) (lu s n)
theorem qA(s:ByteArray)(c:UInt8)(p:Nat)(h:p<=s.size):p<=(ik s c p).1/\(ik s c p).1<=s.size:=by
 unfold ik;split
 ·split<;>simp<;>omega
 ·omega
theorem N8(s:ByteArray)(c:UInt8)(p:Nat)(h:(ik s c p).2=false):(ik s c p).1=p+1/\p<s.size:=by
 unfold ik at *;split at h
 ·split at h
  ·simp_all
  simp_all
 simp_all
theorem wy(s:ByteArray)(f:UInt8->Bool)(least Y p:Nat)(h:p<=s.size):p<=(lT s f least Y p).1/\(lT s f least Y p).1<=s.size:=by
 have:=(re f (rest s p) Y).2;rw[nD]at this;unfold lT;omega
theorem pV{s:ByteArray}{st:Nat×Bool}{f:Nat->Nat×Bool}{p:Nat}(h:p<=st.1/\st.1<=s.size)(Y:∀q,q<=s.size->q<=(f q).1/\(f q).1<=s.size):p<=(iJ st f).1/\(iJ st f).1<=s.size:=by
 unfold iJ;split
 ·exact h
 ·have:=Y _ h.2;omega
theorem PQ(s:ByteArray)(p:Nat)(h:p<=s.size):p<=(qF s p).1/\(qF s p).1<=s.size:=pV (wy s _ _ _ p h) fun q Y=>qA s _ q Y
theorem uK(s:ByteArray)(m p:Nat)(h:p<=s.size):p<=(ju s m p).1/\(ju s m p).1<=s.size:=pV (wy s _ _ _ p h) fun q Y=>qA s _ q Y
theorem r6{st:Nat×Bool}{f:Nat->Nat×Bool}(h:(iJ st f).2=false):st.2=false/\(f st.1).2=false:=by
 unfold iJ at h;split at h
 ·simp_all
 ·simp_all
theorem GQ(s:ByteArray)(m p:Nat)(h:(ju s m p).2=false):(ju s m p).1=p+j9 s m p+1/\1<=j9 s m p/\p+j9 s m p<s.size:=by
 unfold ju at *;obtain⟨Y,K⟩:=r6 h;rw[kX Y];have:=N8 s 10 _ K;unfold lT at this Y⊢;simp at Y this⊢;unfold j9;omega
theorem AL(s:ByteArray)(m p:Nat):j9 s m p<=m:=(re _ _ _).1
def RF(w:ae)(b:Nat)(s:ByteArray)(p:Nat)(bad:Bool):Prop:=
 w.heap[b]?=some (.cells #[.string s,.int .i64 (p:Int),.bool bad] 143 (0,0))
def cut(s:ByteArray)(p q:Nat):ByteArray:=str ((rest s p).take (q-p))
def su(s:ByteArray)(st:Nat×Bool):ByteArray:=if st.2=true then⟨#[]⟩else cut s st.1 (st.1+iH lA (rest s st.1) 10)
def zw(s:ByteArray)(p q:Nat):ByteArray:=str (((rest s p).take (q-p)).map gb)
theorem aan(s:ByteArray)(p q:Nat)(Y:q<=s.size):(zw s p q).size=q-p:=by
 unfold zw;rw[ia,List.length_map,List.length_take,nD];omega
def sx(s:ByteArray)(m p:Nat):ByteArray:=zw s p (p+j9 s m p)
theorem Hb(s:ByteArray)(m p:Nat)(Y:p<=s.size):(sx s m p).size=j9 s m p:=by
 have:=(re iM (rest s p) m).2;rw[nD]at this;unfold sx j9;rw[aan _ _ _ (by omega)];omega
def zx(s:ByteArray)(m:Nat)(st:Nat×Bool):ByteArray:=if st.2=true then⟨#[]⟩else sx s m st.1
def sP(s:ByteArray)(m p:Nat):=((rest s p).take (j9 s m p)).map gb
theorem QS(s:ByteArray)(m p:Nat):sx s m p=str (sP s m p):=by
 unfold sx zw sP;simp_all
theorem Is(s:ByteArray)(m p:Nat)(Y:p<=s.size):(sP s m p).length=j9 s m p:=by
 have h:=Hb s m p Y;rw[QS,ia]at h;exact h
def nP(s:ByteArray):Nat->List UInt8->Nat×Bool->(Nat×Bool)×List UInt8
 |0,acc,st=>(st,acc)
 |f+1,acc,st=>if st.2=false/\(acc=[]\/st.1<s.size)then nP s f (acc++sP s (200-acc.length) st.1) (ju s (200-acc.length) st.1)else(st,acc)
def kY(s:ByteArray):=nP s (s.size+2) [] (iJ (ik s 62 0) (qF s))
def xd(s:ByteArray):=su s (ik s 62 0)
theorem CA{s:ByteArray}{f:Nat}{acc:List _}{st:Nat×Bool}{R:(Nat×Bool)×List _}(H:0<f)(K:st.2=false)(Y:acc=[]\/st.1<s.size)(h:nP s f acc st=R):
  nP s (f-1) (acc++sP s (200-acc.length) st.1) (ju s (200-acc.length) st.1)=R:=by
 cases f with
 |zero=>omega
 |succ f=>rw[<-h];simp only[nP,Nat.add_sub_cancel];simp_all
theorem yk{s:ByteArray}{f:Nat}{acc:List _}{st:Nat×Bool}{R:(Nat×Bool)×List _}(K:st.2=true\/(acc≠ []/\s.size<=st.1))(h:nP s f acc st=R):R=(st,acc):=by
 cases f with
 |zero=>rw[<-h];rfl
 |succ f=>
  rw[<-h];simp only[nP];rw[if_neg];rintro⟨I,Y⟩;rcases K with K|⟨H,D⟩
  ·simp_all
  ·rcases Y with Y|Y
   ·simp_all
   ·omega
def xU(a b:ByteArray):=a.toList==b.toList
theorem Dk(a b:ByteArray):xU a b=true↔a=b:=by
 unfold xU;rw[ek,ek,beq_iff_eq];constructor
 ·intro h;exact ByteArray.ext (bV h)
 ·simp_all
def xt(r s:ByteArray)
 |0=>0
 |k+1=>xt r s k+(if xU (s.extract k (k+r.size)) r=true then 1 else 0)
def pn(r s:ByteArray):=xt r s (s.size+1-r.size)
def JU(p s:ByteArray)(q i:Nat):=
 if 0<pn (p.extract i (i+q)) (p.extract 0 (i+q-1))\/0<pn ⟨#[78]⟩ (p.extract i (i+q))then 0 else min (pn (p.extract i (i+q)) p) (pn (p.extract i (i+q)) s)
def D6(p s:ByteArray)(q:Nat)
 |0=>0
 |k+1=>D6 p s q k+JU p s q k
def sy(p s:ByteArray)(q:Nat):=D6 p s q (p.size+1-q)
def dg(d:Nat):=dH (48+d)
def vb
 |0,n=>[dg n]
 |f+1,n=>if n<=9 then [dg n]else vb f (n/10)++[dg (n%10)]
def gV(n:Nat):=vb n n
theorem GR:∀f n,n<=f->vb f n=vb n n
 |0,n,h=>by simp_all
 |f+1,n,h=>by
  cases n with
  |zero=>simp[vb]
  |succ n=>
   simp[vb];split
   ·rfl
   ·rw[GR f _ (by omega),GR n _ (by omega)]
theorem tj(n:Nat)(h:n<=9):gV n=[dg n]:=by
 unfold gV;cases n with
 |zero=>rfl
 |succ n=>simp only[vb];simp_all
theorem uL(n:Nat)(h:¬n<=9):gV n=gV (n/10)++[dg (n%10)]:=by
 unfold gV;cases n with
 |zero=>omega
 |succ n=>simp only[vb];rw[if_neg h,GR n _ (by omega)]
def pZ(k many q step:Int):=decide (0<=k/\k<=6/\k<many/\1<=q/\q<=8/\1<=step/\step<=200)
theorem Xl(w:ae)(b:Nat)(s:ByteArray)(p:Nat)(c:Int)(least Y:Int)(h:RD w b s p c)(m:s.size<=1000)(g:p<=s.size)(f:0<=Y)(E:Y<=1000)(W:0<=least)(X:least<=1000):
  aj ai 70 #[.pointer (some ⟨b,0,none⟩),.func (.func 95) #[] #[],.int .i64 least,.int .i64 Y] w fun e w'=>
   yE w b s p c (iH lA (rest s p) Y.toNat) least e w':=by
 have T:=h.c1
 go_enter dC,dE
 go_wp2
 clear T
 go_loopw [] (fun wr=>∃q:Nat,Ir w b s p c lA Y.toNat q wr) (fun wr=>s.size-mZ wr b)
 case atStart=>exact⟨p,ao _,by omega,h,Gr _ _⟩
 case round=>
  obtain⟨q,J,j,K,B⟩:=hrel;have C:=re lA (rest s p) Y.toNat;rw[nD]at C;have c0:=K.c0;have c1:=K.c1;have f1:=K.fz 1;have G:aT.wrap ((q:Int)-(p:Int))=(q:Int)-(p:Int):=aZ _ (by omega);by_cases Z:(q:Int)-(p:Int)<Y
  ·have L:decide ((q:Int)-(p:Int)<Y)=true:=by simp;omega
   by_cases A:q<s.size
   ·have O:((q:Int)==(s.size:Int))=false:=by simp;omega
    have V:(q:Int)<(s.size:Int):=by omega
    by_cases R:lA s[q]=true
    ·go_wp2_with fail
     go_quiet((first|(go_at_call 65;exact aH (oc _ _ _ _ _ (K.drewN _)))|(go_at_call 95;exact aM (Cs _ _))))
     have N:=Cp lA (rest s p) Y.toNat (q-p) (by rw[nD];omega) (by omega) (by omega) (by rw[yD s p q J A];exact R);go_wp2
     have U:=(K.drewN nq).put ((q:Int)+1);have M:=jA B (jA (nB wr nq (some b)) (oZ (wr.drewN nq) b 1 (.int .i64 ((q:Int)+1))))
     go_roundw
     case rel=>go_light;exact⟨q+1,by omega,by omega,U,M⟩
     case measure=>go_light;have Q:=K.mZ;have S:=U.mZ;rw[Q,S];omega
    ·rw[az]at R;have D:Hid (q=p+iH lA (rest s p) Y.toNat):=by
      have:=Cq lA (rest s p) Y.toNat (q-p) (by rw[nD];omega) (by omega) (by rw[yD s p q J A];exact R);exact laid (by omega)
     go_wp2_with fail
     go_quiet((first|(go_at_call 65;exact aH (oc _ _ _ _ _ (K.drewN _)))|(go_at_call 95;exact aM (Cs _ _))))
     have H:=K.drewN nq;have I:=jA B (nB wr nq (some b));by_cases F:(q:Int)-(p:Int)<least
     ·go_wp2_with(go_at_call 69;refine(o9 _ _ _ _ _ H).mono ?_;rintro e w' ⟨rfl,P,rfl⟩)
      exact⟨rfl,th (least:=least) D.out (by omega) (by omega) K B _⟩
     ·go_wp2
      go_quiet(fail)
      go_wp2
      go_ret
      exact ti (least:=least) D.out (by omega) (by omega) H I _
   ·have O:((q:Int)==(s.size:Int))=true:=by simp;omega
    have D:Hid (q=p+iH lA (rest s p) Y.toNat):=laid (by omega);go_wp2_with fail
    go_quiet((first|(go_at_call 65;exact aH (oc _ _ _ _ _ (K.drewN _)))|(go_at_call 95;exact aM (Cs _ _))))
    have H:=K.drewN nq;have I:=jA B (nB wr nq (some b));by_cases F:(q:Int)-(p:Int)<least
    ·go_wp2_with(go_at_call 69;refine(o9 _ _ _ _ _ H).mono ?_;rintro e w' ⟨rfl,P,rfl⟩)
     exact⟨rfl,th (least:=least) D.out (by omega) (by omega) K B _⟩
    ·go_wp2
     go_quiet(fail)
     go_wp2
     go_ret
     exact ti (least:=least) D.out (by omega) (by omega) H I _
  ·have L:decide ((q:Int)-(p:Int)<Y)=false:=by simp;omega
   have D:Hid (q=p+iH lA (rest s p) Y.toNat):=laid (by omega);go_wp2_with fail
   go_quiet((first|(go_at_call 65;exact aH (oc _ _ _ _ _ (K.drewN _)))|(go_at_call 95;exact aM (Cs _ _))))
   have H:=K.drewN nq;have I:=jA B (nB wr nq (some b));by_cases F:(q:Int)-(p:Int)<least
   ·go_wp2_with(go_at_call 69;refine(o9 _ _ _ _ _ H).mono ?_;rintro e w' ⟨rfl,P,rfl⟩)
    exact⟨rfl,th (least:=least) D.out (by omega) (by omega) K B _⟩
   ·go_wp2
    go_quiet(fail)
    go_wp2
    go_ret
    exact ti (least:=least) D.out (by omega) (by omega) H I _
theorem Xm(w:ae)(b:Nat)(s:ByteArray)(p:Nat)(c:Int)(least Y:Int)(h:RD w b s p c)(m:s.size<=1000)(g:p<=s.size)(f:0<=Y)(E:Y<=1000)(W:0<=least)(X:least<=1000):
  aj ai 70 #[.pointer (some ⟨b,0,none⟩),.func (.func 120) #[] #[],.int .i64 least,.int .i64 Y] w fun e w'=>
   yE w b s p c (iH kT (rest s p) Y.toNat) least e w':=by
 have T:=h.c1
 go_enter dC,dE
 go_wp2
 clear T
 go_loopw [] (fun wr=>∃q:Nat,Ir w b s p c kT Y.toNat q wr) (fun wr=>s.size-mZ wr b)
 case atStart=>exact⟨p,ao _,by omega,h,Gr _ _⟩
 case round=>
  obtain⟨q,J,j,K,B⟩:=hrel;have C:=re kT (rest s p) Y.toNat;rw[nD]at C;have c0:=K.c0;have c1:=K.c1;have f1:=K.fz 1;have G:aT.wrap ((q:Int)-(p:Int))=(q:Int)-(p:Int):=aZ _ (by omega);by_cases Z:(q:Int)-(p:Int)<Y
  ·have L:decide ((q:Int)-(p:Int)<Y)=true:=by simp;omega
   by_cases A:q<s.size
   ·have O:((q:Int)==(s.size:Int))=false:=by simp;omega
    have V:(q:Int)<(s.size:Int):=by omega
    by_cases R:kT s[q]=true
    ·go_wp2_with fail
     go_quiet((first|(go_at_call 65;exact aH (oc _ _ _ _ _ (K.drewN _)))|(go_at_call 120;exact aM (Ct _ _))))
     have N:=Cp kT (rest s p) Y.toNat (q-p) (by rw[nD];omega) (by omega) (by omega) (by rw[yD s p q J A];exact R);go_wp2
     have U:=(K.drewN nq).put ((q:Int)+1);have M:=jA B (jA (nB wr nq (some b)) (oZ (wr.drewN nq) b 1 (.int .i64 ((q:Int)+1))))
     go_roundw
     case rel=>go_light;exact⟨q+1,by omega,by omega,U,M⟩
     case measure=>go_light;have Q:=K.mZ;have S:=U.mZ;rw[Q,S];omega
    ·rw[az]at R;have D:Hid (q=p+iH kT (rest s p) Y.toNat):=by
      have:=Cq kT (rest s p) Y.toNat (q-p) (by rw[nD];omega) (by omega) (by rw[yD s p q J A];exact R);exact laid (by omega)
     go_wp2_with fail
     go_quiet((first|(go_at_call 65;exact aH (oc _ _ _ _ _ (K.drewN _)))|(go_at_call 120;exact aM (Ct _ _))))
     have H:=K.drewN nq;have I:=jA B (nB wr nq (some b));by_cases F:(q:Int)-(p:Int)<least
     ·go_wp2_with(go_at_call 69;refine(o9 _ _ _ _ _ H).mono ?_;rintro e w' ⟨rfl,P,rfl⟩)
      exact⟨rfl,th (least:=least) D.out (by omega) (by omega) K B _⟩
     ·go_wp2
      go_quiet(fail)
      go_wp2
      go_ret
      exact ti (least:=least) D.out (by omega) (by omega) H I _
   ·have O:((q:Int)==(s.size:Int))=true:=by simp;omega
    have D:Hid (q=p+iH kT (rest s p) Y.toNat):=laid (by omega);go_wp2_with fail
    go_quiet((first|(go_at_call 65;exact aH (oc _ _ _ _ _ (K.drewN _)))|(go_at_call 120;exact aM (Ct _ _))))
    have H:=K.drewN nq;have I:=jA B (nB wr nq (some b));by_cases F:(q:Int)-(p:Int)<least
    ·go_wp2_with(go_at_call 69;refine(o9 _ _ _ _ _ H).mono ?_;rintro e w' ⟨rfl,P,rfl⟩)
     exact⟨rfl,th (least:=least) D.out (by omega) (by omega) K B _⟩
    ·go_wp2
     go_quiet(fail)
     go_wp2
     go_ret
     exact ti (least:=least) D.out (by omega) (by omega) H I _
  ·have L:decide ((q:Int)-(p:Int)<Y)=false:=by simp;omega
   have D:Hid (q=p+iH kT (rest s p) Y.toNat):=laid (by omega);go_wp2_with fail
   go_quiet((first|(go_at_call 65;exact aH (oc _ _ _ _ _ (K.drewN _)))|(go_at_call 120;exact aM (Ct _ _))))
   have H:=K.drewN nq;have I:=jA B (nB wr nq (some b));by_cases F:(q:Int)-(p:Int)<least
   ·go_wp2_with(go_at_call 69;refine(o9 _ _ _ _ _ H).mono ?_;rintro e w' ⟨rfl,P,rfl⟩)
    exact⟨rfl,th (least:=least) D.out (by omega) (by omega) K B _⟩
   ·go_wp2
    go_quiet(fail)
    go_wp2
    go_ret
    exact ti (least:=least) D.out (by omega) (by omega) H I _
def pP(w:ae)(b:Nat)(s:ByteArray)(c:Int)(st:Nat×Bool)(v:af)(e:ck)(w':ae):Prop:=
 (st.2=false->e=.returned v)/\(st.2=true->e=.panicked (nQ c (st.1:Int)))/\RD w' b s (st.1:Int) c/\w.grownBy w' (some b)
theorem Hc(w:ae)(b:Nat)(s:ByteArray)(p:Nat)(c:Int)(h:RD w b s p c)(Y:s.size=p):
  aj ai 65 #[.pointer (some ⟨b,0,none⟩)] w fun e w'=>e=.returned (.bool true)/\∃m,w'=w.drewN m:=by
 have:=oc w b s p c h;simp_all
theorem CZ(w:ae)(b:Nat)(s:ByteArray)(p:Nat)(c:Int)(h:RD w b s p c)(Y:p<s.size):
  aj ai 65 #[.pointer (some ⟨b,0,none⟩)] w fun e w'=>e=.returned (.bool false)/\∃m,w'=w.drewN m:=by
 have:=oc w b s p c h
 rwa [show(p==(s.size:Int))=false by simp;omega]at this
theorem YS(w:ae)(b:Nat)(s:ByteArray)(p:Nat)(c:Int)(x:UInt8)(h:RD w b s p c)(C:s.size<=1000)(U:p<=s.size):
  aj ai 94 #[.pointer (some ⟨b,0,none⟩),.int .u8 (x.toNat:Int)] w fun e w'=>pP w b s c (ik s x p) (.tuple #[]) e w':=by
 have c0:=h.c0;have c1:=h.c1;have f1:=h.fz 1;by_cases Y:p<s.size
 ·have R:(p:Int)<(s.size:Int):=by omega
  by_cases H:s[p]=x
  ·have hd:((s[p].toNat:Int) != (x.toNat:Int))=false:=by rw[H];simp
   have gF:ik s x p=(p+1,false):=by unfold ik;rw[dif_pos Y,if_pos H]
   rw[gF];clear gF H
   go_enter dD,dG
   go_wp2_with fail
   go_quiet((go_at_call 65;exact aH (CZ _ _ _ _ _ (h.drewN _) Y)))
   go_wp2
   go_end0
   have D:=(h.drewN nq).put ((p:Int)+1);exact⟨fun _=>rfl,fun K=>bZ K,D,jA (nB w nq (some b)) (oZ _ b 1 _)⟩
  ·have hd:((s[p].toNat:Int) != (x.toNat:Int))=true:=by
    rw[bne_iff_ne];intro K;exact H (UInt8.toNat.inj (by omega))
   have gF:ik s x p=(p,true):=by unfold ik;rw[dif_pos Y,if_neg H]
   rw[gF];clear gF H
   go_enter dD,dG
   go_wp2_with fail
   go_quiet((go_at_call 65;exact aH (CZ _ _ _ _ _ (h.drewN _) Y)))
   go_wp2_with(go_at_call 69;refine(o9 _ _ _ _ _ (h.drewN _)).mono ?_;rintro e w' ⟨rfl,I,rfl⟩)
   exact⟨rfl,fun K=>bZ K,fun _=>rfl,h.drewN _,nB w _ (some b)⟩
 ·have gF:ik s x p=(p,true):=by unfold ik;rw[dif_neg Y]
  rw[gF];clear gF
  go_enter dD,dG
  go_wp2_with fail
  go_quiet((go_at_call 65;exact aH (Hc _ _ _ _ _ (h.drewN _) (by omega))))
  go_wp2_with(go_at_call 69;refine(o9 _ _ _ _ _ (h.drewN _)).mono ?_;rintro e w' ⟨rfl,I,rfl⟩)
  exact⟨rfl,fun K=>bZ K,fun _=>rfl,h.drewN _,nB w _ (some b)⟩
theorem yx(w:ae)(b:Nat)(s:ByteArray)(p:Nat)(c:Int)(n:Int)(x:UInt8)(Y:n=x.toNat)(h:RD w b s p c)(H:s.size<=1000)(K:p<=s.size):
  aj ai 94 #[.pointer (some ⟨b,0,none⟩),.int .u8 n] w fun e w'=>pP w b s c (ik s x p) (.tuple #[]) e w':=by
 subst Y;exact YS w b s p c x h H K
theorem Gm{s:ByteArray}{p:Nat}{c:Int}{f:UInt8->Bool}{least vn:Nat}{e:ck}
  (h:yE w b s p c (iH f (rest s p) vn) least e w'):pP w b s c (lT s f least vn p) (.string (s.extract p (p+iH f (rest s p) vn))) e w':=by
 obtain⟨Y,D,R,K⟩:=h;unfold lT;refine⟨fun H=>Y ?_,fun H=>?_,?_,K⟩
 ·simp_all
 ·simp_all
 ·simp_all
theorem WU(w:ae)(b:Nat)(s:ByteArray)(p:Nat)(c:Int)(l m:Int)(least Y:Nat)(K:l=least)(D:m=Y)(H:least<=1000)(R:Y<=1000)
  (h:RD w b s p c)(C:s.size<=1000)(U:p<=s.size):
  aj ai 70 #[.pointer (some ⟨b,0,none⟩),.func (.func 71) #[] #[],.int .i64 l,.int .i64 m] w fun e w'=>
   pP w b s c (lT s iM least Y p) (.string (s.extract p (p+iH iM (rest s p) Y))) e w':=by
 subst K D;refine(Gs w b s p c _ _ h C U (by omega) (by omega) (by omega) (by omega)).mono ?_;intro e w' I;exact Gm I
theorem WV(w:ae)(b:Nat)(s:ByteArray)(p:Nat)(c:Int)(l m:Int)(least Y:Nat)(K:l=least)(D:m=Y)(H:least<=1000)(R:Y<=1000)
  (h:RD w b s p c)(C:s.size<=1000)(U:p<=s.size):
  aj ai 70 #[.pointer (some ⟨b,0,none⟩),.func (.func 95) #[] #[],.int .i64 l,.int .i64 m] w fun e w'=>
   pP w b s c (lT s lA least Y p) (.string (s.extract p (p+iH lA (rest s p) Y))) e w':=by
 subst K D;refine(Xl w b s p c _ _ h C U (by omega) (by omega) (by omega) (by omega)).mono ?_;intro e w' I;exact Gm I
theorem WW(w:ae)(b:Nat)(s:ByteArray)(p:Nat)(c:Int)(l m:Int)(least Y:Nat)(K:l=least)(D:m=Y)(H:least<=1000)(R:Y<=1000)
  (h:RD w b s p c)(C:s.size<=1000)(U:p<=s.size):
  aj ai 70 #[.pointer (some ⟨b,0,none⟩),.func (.func 120) #[] #[],.int .i64 l,.int .i64 m] w fun e w'=>
   pP w b s c (lT s kT least Y p) (.string (s.extract p (p+iH kT (rest s p) Y))) e w':=by
 subst K D;refine(Xm w b s p c _ _ h C U (by omega) (by omega) (by omega) (by omega)).mono ?_;intro e w' I;exact Gm I
theorem q9{w1:ae}{s:ByteArray}{c:Int}{st:Nat×Bool}{v:af}(gF:st.2=true)(hr:RD w1 b s (st.1) c)(Y:w.grownBy w1 (some b)):
  pP w b s c st v (.panicked (nQ c (st.1))) w1:=
 ⟨fun h=>by simp_all,fun _=>rfl,hr,Y⟩
theorem Gn{w1:ae}{s:ByteArray}{c:Int}{st:Nat×Bool}{v:af}(gF:st.2=false)(hr:RD w1 b s (st.1) c)(Y:w.grownBy w1 (some b)):
  pP w b s c st v (.returned v) w1:=
 ⟨fun _=>rfl,fun h=>by simp_all,hr,Y⟩
def kZ(s:ByteArray)(x:UInt8)(p:Nat):=iJ (ik s x p) (qF s)
theorem ts{st R:Nat×Bool}{f:Nat->Nat×Bool}(h:iJ st f=R)(gF:st.2=true):st=R:=by rw[<-h,wv gF]
theorem tK{st R:Nat×Bool}{f:Nat->Nat×Bool}(h:iJ st f=R)(gF:st.2=false):f st.1=R:=by rw[<-h,kX gF]
theorem o8{w1:ae}{s:ByteArray}{c:Int}{st R:Nat×Bool}{v:af}{e:ck}(Y:st=R)(h:pP w b s c st v e w1):pP w b s c R v e w1:=by simp_all
def ug(s:ByteArray)(p:Nat):=s.extract p (p+iH lA (rest s p) 10)
theorem Na(w:ae)(b:Nat)(s:ByteArray)(p:Nat)(c:Int)(n:Int)(x:UInt8)(Z:n=(x.toNat:Int))(h:RD w b s p c)(S:s.size<=1000)(E:p<=s.size):
  aj ai 62 #[.pointer (some ⟨b,0,none⟩),.int .u8 n] w fun e w'=>pP w b s c (kZ s x p) (.string (ug s (ik s x p).1)) e w':=by
 have q:=laid Z;clear Z;generalize V:kZ s x p=R;have N:=laid V;clear V;generalize hX:ug s (ik s x p).1=X;have T:=laid (show s.extract (ik s x p).1 _=X from hX);clear hX
 go_enter Tryz.func62,Tryz.ntmps62
 go_wp2_with fail
 refine(yx _ _ s p c n x q.out h S E).mono ?_;rintro e w1 ⟨H,D,F,B⟩;have C:=qA s x p E;by_cases gF:(ik s x p).2=true
 ·obtain rfl:=D gF;exact⟨rfl,o8 (ts N.out gF) (q9 gF F B)⟩
 ·rw[az]at gF;obtain rfl:=H gF;clear H D;have I:=laid (tK N.out gF);generalize(ik s x p).1=M at *;clear gF N;go_wp2_with fail
  refine(WV _ _ s M c _ _ 1 10 rfl rfl (by omega) (by omega) F S C.2).mono ?_;rintro e w2 ⟨H,D,J,O⟩;have Y:=jA B O;have Q:=wy s lA 1 10 M C.2;by_cases gF:(lT s lA 1 10 M).2=true
  ·obtain rfl:=D gF;exact⟨rfl,o8 (ts I.out gF) (q9 gF J Y)⟩
  ·rw[az]at gF;have U:=H gF;rw[T.out]at U;obtain rfl:=U;clear H D;have A:=laid (tK I.out gF);clear T;generalize(lT s lA 1 10 M).1=G at *;go_wp2_with fail
   refine(yx _ _ s G c _ 10 rfl J S Q.2).mono ?_;rintro e w3 ⟨H,D,L,P⟩;have K:=jA Y P;by_cases gF:(ik s 10 G).2=true
   ·obtain rfl:=D gF;exact⟨rfl,o8 A.out (q9 gF L K)⟩
   ·rw[az]at gF;obtain rfl:=H gF;have W:=laid (o8 (v:=.string X) A.out (Gn gF L K));clear gF;go_wp2
    go_ret
    exact W.out
theorem XI(s:ByteArray)(f:UInt8->Bool)(m p:Nat)(Y:p<=s.size):(s.extract p (p+iH f (rest s p) m)).size=iH f (rest s p) m:=by
 have:=(re f (rest s p) m).2;rw[nD]at this;rw[ej];omega
def oo(s:ByteArray)(m p:Nat):=s.extract p (p+j9 s m p)
theorem GU(s:ByteArray)(m p:Nat)(Y:p<=s.size):(oo s m p).size=j9 s m p:=XI s iM m p Y
theorem Gt(w:ae)(b:Nat)(s:ByteArray)(p:Nat)(c:Int)(n:Int)(m:Nat)(M:n=m)(V:m<=1000)(h:RD w b s p c)(O:s.size<=1000)(N:p<=s.size):
  aj ai 64 #[.pointer (some ⟨b,0,none⟩),.int .i64 n] w fun e w'=>pP w b s c (ju s m p) (.string (oo s m p)) e w':=by
 have S:=laid M;clear M;generalize L:ju s m p=R;have J:=laid L;clear L;generalize hX:oo s m p=X;have T:=laid (show s.extract p (p+iH iM (rest s p) m)=X from hX);clear hX
 go_enter Tryz.func64,Tryz.ntmps64
 go_wp2_with fail
 refine(WU _ _ s p c _ n 1 m rfl S.out (by omega) V h O N).mono ?_;rintro e w1 ⟨U,B,I,D⟩;have F:=wy s iM 1 m p N;by_cases gF:(lT s iM 1 m p).2=true
 ·obtain rfl:=B gF;exact⟨rfl,o8 (ts J.out gF) (q9 gF I D)⟩
 ·rw[az]at gF;have H:=U gF;rw[T.out]at H;obtain rfl:=H;have K:=laid (tK J.out gF);generalize(lT s iM 1 m p).1=P at *;go_wp2_with fail
  refine(yx _ _ s P c _ 10 rfl I O F.2).mono ?_;rintro e w3 ⟨U,B,A,C⟩;have Y:=jA D C;by_cases gF:(ik s 10 P).2=true
  ·obtain rfl:=B gF;exact⟨rfl,o8 K.out (q9 gF A Y)⟩
  ·rw[az]at gF;obtain rfl:=U gF;have Q:=laid (o8 (v:=.string X) K.out (Gn gF A Y));go_wp2
   go_ret
   exact Q.out
theorem Gu(w:ae)(b:Nat)(s:ByteArray)(p c:Int)(h:RD w b s p c)(D:p=s.size):
  aj ai 72 #[.pointer (some ⟨b,0,none⟩)] w fun e w'=>e=.returned (.tuple #[])/\∃m,w'=w.drewN m:=by
 have K:=oc w b s p c h;have Y:=laid K
 go_enter Tryz.func72,alm
 go_wp2_with(refine(Y.out).mono ?_;rintro e w' ⟨rfl,H,rfl⟩)
 go_end0
 exact⟨rfl,H,rfl⟩
theorem MW(w:ae)(b:Nat)(s:ByteArray)(p c:Int)(h:RD w b s p c)(H:p≠(s.size:Int)):
  aj ai 72 #[.pointer (some ⟨b,0,none⟩)] w fun e w'=>e=.panicked (nQ c p)/\∃m,w'=w.drewN m:=by
 have R:(p==s.size)=false:=by simp[H]
 have K:=oc w b s p c h;have Y:=laid K
 go_enter Tryz.func72,alm
 go_wp2_with(first|(refine(Y.out).mono ?_;rintro e w' ⟨rfl,D,rfl⟩)|(refine(o9 _ _ _ _ _ (h.drewN _)).mono ?_;rintro e w' ⟨rfl,D,rfl⟩))
 exact⟨rfl,rfl,_,rfl⟩
theorem N9(f:UInt8->Bool):∀l,l.all f=true->iH f l l.length=l.length
 |[],_=>by simp[iH]
 |x::l,h=>by
  simp only[List.all_cons,cP]at h;rw[di,pM,if_pos h.1,N9 f l h.2]
theorem Ns(f:UInt8->Bool):∀l,l.all f=false->iH f l l.length<l.length
 |[],h=>by simp at h
 |x::l,h=>by
  rw[di,pM];by_cases Y:f x=true
  ·rw[if_pos Y];have:=Ns f l (by simp_all);omega
  ·simp_all
theorem aao(s:ByteArray):rest s 0=s.data.toList:=by simp[rest]
theorem ape(s:ByteArray):s.extract 0 s.size=s:=by simp
theorem Nc(h:(w.alloc o).grownBy w' (some w.heap.size)):ax w.heap.size w w':=
 Below.grown ((br _ _).alloc (ao _) o) h (by simp) (by simp)
theorem yF(w:ae)(s:ByteArray)(p c:Int):RD (w.alloc (.cells #[.string s,.int .i64 p,.int .i64 c] 98)) w.heap.size s p c:=cJ w _
theorem Nt(f:UInt8->Bool):∀l a b,a<=b->iH f l a<=iH f l b
 |[],a,b,_=>by cases a<;>cases b<;>simp[iH]
 |x::l,0,b,_=>by simp[iH]
 |x::l,a+1,0,h=>by omega
 |x::l,a+1,b+1,h=>by
  rw[pM,pM];by_cases Y:f x=true
  ·rw[if_pos Y,if_pos Y];have:=Nt f l a b (by omega);omega
  ·simp_all
theorem YT(f:UInt8->Bool)(l:List _)(m:Nat)(h:l.length<=m):iH f l m=iH f l l.length:=by
 induction l generalizing m with
 |nil=>cases m<;>simp[iH]
 |cons x l Y=>
  cases m with
  |zero=>simp at h
  |succ m=>
   simp at h⊢;rw[pM,pM];simp_all
theorem YU(w:ae)(b:Nat)(s:ByteArray)(c:Int)(least Y:Int)(h:RD w b s 0 c)(C:0<=least)(D:least<=s.size)(F:s.size<=Y)(R:Y<=200)(H:s.data.toList.all iM=true):
  aj ai 70 #[.pointer (some ⟨b,0,none⟩),.func (.func 71) #[] #[],.int .i64 least,.int .i64 Y] w fun e w'=>
   e=.returned (.string s)/\RD w' b s s.size c/\w.grownBy w' (some b):=by
 have hr:=N9 iM _ H;rw[Ha,<-aao s]at hr;have I:iH iM (rest s 0) Y.toNat=s.size:=by
  have K:=re iM (rest s 0) Y.toNat;rw[nD]at K;have A:=Nt iM (rest s 0) s.size Y.toNat (by omega);omega
 refine(Gs w b s 0 c _ _ h (by omega) (by omega) (by omega) (by omega) (by omega) (by omega)).mono ?_;rintro e w' ⟨K,_,U,B⟩;simp_all
theorem XJ(w:ae)(b:Nat)(s:ByteArray)(c:Int)(least Y:Int)(h:RD w b s 0 c)(F:0<=least)(U:least<=s.size)(J:s.size<=Y)(C:Y<=200)(R:s.data.toList.all iM=false):
  aj ai 70 #[.pointer (some ⟨b,0,none⟩),.func (.func 71) #[] #[],.int .i64 least,.int .i64 Y] w fun e w'=>
   ((∃x,e=.returned (.string x))\/∃p,e=.panicked (nQ c p))/\(∃p,RD w' b s p c/\p≠s.size)/\w.grownBy w' (some b):=by
 have hr:=Ns iM _ R;have A:iH iM (rest s 0) Y.toNat<s.size:=by
  rw[YT iM _ _ (by rw[nD];omega),nD];exact hr
 refine(Gs w b s 0 c _ _ h (by omega) (by omega) (by omega) (by omega) (by omega) (by omega)).mono ?_;rintro e w' ⟨B,K,H,D⟩;refine⟨?_,⟨_,H,by omega⟩,D⟩;by_cases I:least<=((iH iM (rest s 0) Y.toNat))
 ·simp_all
 ·exact .inr ⟨_,K (by omega)⟩
theorem Xn(s:ByteArray)(least Y:Int)(w:ae)(F:0<=least)(D:least<=(s.size:Int))(J:(s.size:Int)<=Y)(R:Y<=200)(U:s.data.toList.all iM=true):
  aj ai 44 #[.string s,.int .i64 least,.int .i64 Y] w fun e w'=>e=.returned (.string (str (s.data.toList.map gb)))/\ax w.heap.size w w':=by
 have B:=laid U;clear U;have C:decide ((s.size:Int)<least)=false:=by simp;omega
 go_enter cC,cD
 go_wp2_with fail
 refine(YU _ _ s 5 least Y (yF w s 0 5) F D J R B.out).mono ?_;rintro e w1 ⟨rfl,I,A⟩;have K:=Nc A;clear A;go_wp2_with fail
 refine(Gu _ _ s _ 5 I rfl).mono ?_;rintro e w2 ⟨rfl,L,rfl⟩;go_wp2_with fail
 refine(Gi s _ (by omega)).mono ?_;rintro e w3 ⟨rfl,H⟩;go_wp2
 go_ret
 exact⟨rfl,(Go.below_drewN K L).trans (H.mono K.size)⟩
theorem WX(s:ByteArray)(least Y:Int)(w:ae)(J:0<=least)(H:least<=(s.size:Int))(M:(s.size:Int)<=Y)(D:Y<=200)(U:s.data.toList.all iM=false):
  aj ai 44 #[.string s,.int .i64 least,.int .i64 Y] w fun e w'=>(∃p,e=.panicked (nQ 5 p))/\ax w.heap.size w w':=by
 have B:=laid U;clear U;have C:decide (Y<(s.size:Int))=false:=by simp;omega
 go_enter cC,cD
 go_wp2_with fail
 refine(XJ _ _ s 5 least Y (yF w s 0 5) J H M D B.out).mono ?_;rintro e w1 ⟨F,⟨p,I,R⟩,A⟩;have K:=Nc A;clear A;rcases F with⟨x,rfl⟩|⟨p',rfl⟩
 ·go_wp2_with fail
  refine(MW _ _ s _ 5 I R).mono ?_;rintro e w2 ⟨rfl,L,rfl⟩;exact⟨rfl,⟨p,rfl⟩,Go.below_drewN K L⟩
 ·exact⟨rfl,⟨p',rfl⟩,K⟩
theorem WI(s:ByteArray)(least Y:Int)(w:ae)(D:s.size<=maxLen)(H:(s.size:Int)<least\/Y<(s.size:Int)):
  aj ai 44 #[.string s,.int .i64 least,.int .i64 Y] w fun e w'=>(∃p,e=.panicked (nQ 5 p))/\ax w.heap.size w w':=by
 unfold maxLen at D;by_cases R:(s.size:Int)<least
 ·clear H
  go_enter cC,cD
  go_wp2_with fail
  refine(o9 _ _ _ _ _ (yF w s 0 5)).mono ?_;rintro e w2 ⟨rfl,K,rfl⟩;exact⟨rfl,⟨_,rfl⟩,Go.below_drewN ((br _ _).alloc (ao _) _) K⟩
 ·have I:Y<(s.size:Int):=by omega
  clear H
  go_enter cC,cD
  go_wp2_with fail
  refine(o9 _ _ _ _ _ (yF w s 0 5)).mono ?_;rintro e w2 ⟨rfl,K,rfl⟩;exact⟨rfl,⟨_,rfl⟩,Go.below_drewN ((br _ _).alloc (ao _) _) K⟩
theorem vd{W w1:ae}(Y:ax W.heap.size W w1):(∀b o,b<W.heap.size->w1.cell? ⟨b,o,none⟩=W.cell? ⟨b,o,none⟩)/\(∀b o,b<W.heap.size->w1.frozen? ⟨b,o,none⟩=W.frozen? ⟨b,o,none⟩):=
 ⟨fun b o h=>Y.cell h,fun b o h=>Y.frozen h⟩
theorem rZ(h:ax w.heap.size w w')(r:Option Nat):w.grownBy w' r:=
 ⟨h.os,h.tape,h.output,h.size,fun k hk _=>h.block k hk⟩
theorem Xo(c p:Int)(w:ae):(db (.iface 70 (.agg #[.int .i64 c,.int .i64 p])) 20 70 true).run ai w=.ok (.tuple #[.agg #[.int .i64 c,.int .i64 p],.bool true]) w:=by kernel_rfl
theorem N_(m:Nat)(a0 a1 c p:Int)(Y:List PanicEntry)(w:ae)(R:w.cell? ⟨m,0,none⟩=some (.int .i64 a0))(J:w.cell? ⟨m,1,none⟩=some (.int .i64 a1))(U:w.frozen? ⟨m,0,none⟩=false)(C:w.frozen? ⟨m,1,none⟩=false):
  CallsD ai 61 #[.pointer (some ⟨m,0,none⟩)] (.panicking ({v:=.iface 70 (.agg #[.int .i64 c,.int .i64 p]),recovered:=false}::Y)) w fun e F w'=>
   e=.returned (.tuple #[])/\F=.panicking ({v:=.iface 70 (.agg #[.int .i64 c,.int .i64 p]),recovered:=true}::Y)/\w'=((w.setCell ⟨m,0,none⟩ (.int .i64 c)).setCell ⟨m,1,none⟩ (.int .i64 p)).alloc (.cells #[.int .i64 c,.int .i64 p] 70):=by
 refine alB Tryz.func61 rfl fun H cs K=>?_;apply wpS_seq;apply wpS_region;simp[wpOpsS,go_sem,recoverD,K,alk,Exit.thenS];refine wpS_of_wp ?_;generalize I:Value.iface 70 (.agg #[.int .i64 c,.int .i64 p])=V;have D:(#[bF (some ⟨m,0,none⟩)]++((bW 15 ar).setIfInBounds 3 V).setIfInBounds 0 V)=#[.pointer (some ⟨m,0,none⟩),V,ar,ar,V,ar,ar,ar,ar,ar,ar,ar,ar,ar,ar,ar]:=rfl;rw[D];clear D;subst I;have B:=laid K;clear K;have A:=Xo c p;have L:m<w.heap.size:=by have:=cG R;simpa using this
 go_wp2
 simp[bodyPostS,dO,aln]
theorem Oa(m:Nat)(w:ae):
  CallsD ai 61 #[.pointer (some ⟨m,0,none⟩)] .returning w fun e R w'=>
   e=.returned (.tuple #[])/\R=.returning/\w'=w:=by
 refine alB Tryz.func61 rfl fun Y cs K=>?_;apply wpS_seq;apply wpS_region;simp[wpOpsS,go_sem,recoverD,K,alk,Exit.thenS];refine wpS_of_wp ?_;have H:(#[bF _]++((bW 15 ar).setIfInBounds 3 alr).setIfInBounds 0 alr)=#[.pointer (some ⟨m,0,none⟩),.nilIface,ar,ar,.nilIface,ar,ar,ar,ar,ar,ar,ar,ar,ar,ar,ar]:=rfl;rw[H];clear H;have D:=laid K;clear K;go_wp2
 have K:=D.out;cases Y;simp_all[bodyPostS,dO,aln]
theorem rk{w1:ae}(a b:af)(n0:w1.cell? ⟨n,0,none⟩=some u0)(n1:w1.cell? ⟨n,1,none⟩=some u1):
  ((w1.setCell ⟨n,0,none⟩ a).setCell ⟨n,1,none⟩ b).cell? ⟨n,0,none⟩=some a/\((w1.setCell ⟨n,0,none⟩ a).setCell ⟨n,1,none⟩ b).cell? ⟨n,1,none⟩=some b/\
   w1.grownBy ((w1.setCell ⟨n,0,none⟩ a).setCell ⟨n,1,none⟩ b) (some n):=by
 have Y:=dK w1 _ a n0;have K:(w1.setCell ⟨n,0,none⟩ a).cell? ⟨n,1,none⟩=some u1:=by
  rw[aX (h:=by simp)];exact n1
 refine⟨?_,dK _ _ b K,jA (oZ w1 n 0 a) (oZ _ n 1 b)⟩;rw[aX (h:=by simp)];exact Y
theorem aap{w1 w2:ae}{y:Nat}(Y:(w.alloc o).grownBy w1 (some y))(K:w1.grownBy w2 (some w.heap.size)):w.grownBy w2 (some y):=by
 refine⟨K.os.trans Y.os,K.tape.trans Y.tape,K.output.trans Y.output,?_,fun k hk H=>?_⟩
 ·have:=Y.size;have:=K.size;simp at *;omega
 ·have D:=Y.size;simp at D;rw[K.block k (by omega) (by simp;omega),Y.block k (by simp;omega) H,ef w o k hk]
theorem ON{r:Option Nat}(H:w.grownBy w' r)(K:b<w.heap.size)(Y:some b≠r):w'.cell? ⟨b,j,none⟩=w.cell? ⟨b,j,none⟩:=
 World.cell?_of_block (H.block b K Y)
theorem GV(st:Nat×Bool)(f g:Nat->Nat×Bool):iJ (iJ st f) g=iJ st fun q=>iJ (f q) g:=by
 unfold iJ;by_cases h:st.2=true
 ·simp_all
 ·simp_all
theorem wN(s:ByteArray)(x:UInt8)(p:Nat)(h:p<=s.size):p<=(kZ s x p).1/\(kZ s x p).1<=s.size:=pV (qA s x p h) fun q Y=>PQ s q Y
theorem HO(s:ByteArray)(p:Nat):mc s p=iJ (kZ s 64 p) fun p=>iJ (ju s 30 p) fun p'=>iJ (ik s 43 p') fun p'=>iJ (ik s 10 p') fun p'=>iJ (lT s kT (j9 s 30 p) (j9 s 30 p) p') (ik s 10):=by
 unfold mc kZ;rw[GV]
theorem acb(s:ByteArray)(p:Nat)(h:p<=s.size):p<=(mc s p).1/\(mc s p).1<=s.size:=by
 rw[HO];refine pV (wN s 64 p h) fun q R=>pV (uK s 30 q R) fun I Y=>pV (qA s 43 I Y) fun A K=>pV (qA s 10 A K) fun U H=>pV (wy s _ _ _ U H) fun B D=>qA s 10 B D
def xV(s:ByteArray)(p:Nat):=ug s (ik s 64 p).1
def xW(s:ByteArray)(p:Nat):=str ((oo s 30 (kZ s 64 p).1).data.toList.map gb)
def ES(s:ByteArray)(p:Nat):=(ik s 10 (ik s 43 (ju s 30 (kZ s 64 p).1).1).1).1
def xX(s:ByteArray)(p:Nat):=s.extract (ES s p) (ES s p+iH kT (rest s (ES s p)) (j9 s 30 (kZ s 64 p).1))
def oQ(s:ByteArray)(p:Nat):Value:=.agg #[.string (xV s p),.string (xW s p),.string (xX s p)]
theorem RD.lt{s:ByteArray}{p c:Int}(h:RD w b s p c):b<w.heap.size:=by
 rcases bP b _ with h'|h'
 ·omega
 ·unfold RD at h;simp_all
theorem RD.alloc{s:ByteArray}{p c:Int}(h:RD w b s p c)(o:Obj):RD (w.alloc o) b s p c:=by
 have:=h.lt;unfold RD at *;rw[alE w o this];exact h
theorem RD.below{B:Nat}{s:ByteArray}{p c:Int}(h:RD w b s p c)(K:ax B w w')(Y:b<B):RD w' b s p c:=by
 unfold RD at *;rw[K.block b Y];exact h
theorem RD.kept{r:Nat}{s:ByteArray}{p c:Int}(h:RD w b s p c)(Y:w.grownBy w' (some r))(K:b≠r):RD w' b s p c:=by
 have:=h.lt;unfold RD at *;rw[Y.block b this (by simp_all)];exact h
theorem acd{w1:ae}{u2:af}(a b c:af)(n0:w1.cell? ⟨n,0,none⟩=some u0)(n1:w1.cell? ⟨n,1,none⟩=some u1)(n2:w1.cell? ⟨n,2,none⟩=some u2):
  (((w1.setCell ⟨n,0,none⟩ a).setCell ⟨n,1,none⟩ b).setCell ⟨n,2,none⟩ c).cell? ⟨n,0,none⟩=some a/\(((w1.setCell ⟨n,0,none⟩ a).setCell ⟨n,1,none⟩ b).setCell ⟨n,2,none⟩ c).cell? ⟨n,1,none⟩=some b/\
   (((w1.setCell ⟨n,0,none⟩ a).setCell ⟨n,1,none⟩ b).setCell ⟨n,2,none⟩ c).cell? ⟨n,2,none⟩=some c/\
   w1.grownBy (((w1.setCell ⟨n,0,none⟩ a).setCell ⟨n,1,none⟩ b).setCell ⟨n,2,none⟩ c) (some n):=by
 obtain⟨m0,H,K⟩:=rk a b n0 n1;have Y:((w1.setCell ⟨n,0,none⟩ a).setCell ⟨n,1,none⟩ b).cell? ⟨n,2,none⟩=some u2:=by
  rw[aX (h:=by simp),aX (h:=by simp)];exact n2
 refine⟨?_,?_,dK _ _ c Y,jA K (oZ _ n 2 c)⟩
 ·rw[aX (h:=by simp)];exact m0
 ·rw[aX (h:=by simp)];exact H
theorem yy{r:Option Nat}(h:(w.alloc o).grownBy w' r):w.grownBy w' r:=by
 refine⟨h.os,h.tape,h.output,?_,fun k hk Y=>?_⟩
 ·have:=h.size;simp at this;omega
 ·rw[h.block k (by simp;omega) Y,ef w o k hk]
theorem XK(w:ae)(b:Nat)(s:ByteArray)(p:Nat)(c:Int)(h:RD w b s p c)(V:s.size<=1000)(hp:p<=s.size):
  aj ai 109 #[.pointer (some ⟨b,0,none⟩)] w fun e w'=>pP w b s c (mc s p) (oQ s p) e w':=by
 generalize hR:mc s p=R;rw[HO]at hR;have HR:=laid hR;clear hR;have apm:=h.lt;unfold oQ;generalize q:xV s p=PN;generalize j:xW s p=k;generalize z:xX s p=i;have X:=laid (show ug s (ik s 64 p).1=PN from q);have Z:=laid (show str ((oo s 30 (kZ s 64 p).1).data.toList.map gb)=k from j);have E:=laid (show s.extract (ik s 10 (ik s 43 (ju s 30 (kZ s 64 p).1).1).1).1 ((ik s 10 (ik s 43 (ju s 30 (kZ s 64 p).1).1).1).1+iH kT (rest s (ik s 10 (ik s 43 (ju s 30 (kZ s 64 p).1).1).1).1) (j9 s 30 (kZ s 64 p).1))=i from z);clear q j z
 go_enter Tryz.func109,Tryz.ntmps109
 go_wp2_with fail
 refine(Na _ _ s p c _ 64 rfl (h.alloc _) V hp).mono ?_;rw[X.out];clear X;rintro e w1 ⟨Y,K,u,d⟩;have Q:=wN s 64 p hp;by_cases gF:(kZ s 64 p).2=true
 ·obtain rfl:=K gF;exact⟨rfl,o8 (ts HR.out gF) (q9 gF u (yy d))⟩
 ·rw[az]at gF;obtain rfl:=Y gF;clear Y K;have L:=laid (tK HR.out gF);generalize(kZ s 64 p).1=J at *;clear gF HR;go_wp2_with fail
  refine(Gt _ _ s J c _ 30 rfl (by omega) u V Q.2).mono ?_;rintro e w2 ⟨Y,K,x,A⟩;replace A:=jA d A;have g:=uK s 30 J Q.2;by_cases gF:(ju s 30 J).2=true
  ·obtain rfl:=K gF;exact⟨rfl,o8 (ts L.out gF) (q9 gF x (yy A))⟩
  ·rw[az]at gF;obtain rfl:=Y gF;clear Y K;have M:=laid (tK L.out gF);have hnl:=AL s 30 J;have HXS:=laid (GU s 30 J Q.2);generalize oo s 30 J=X30 at *;generalize j9 s 30 J=F at *;generalize(ju s 30 J).1=p2 at *;clear gF L;have ET:=HXS.out;go_wp2_with fail
   refine(yx _ _ s p2 c _ 43 rfl x V g.2).mono ?_;rintro e w3 ⟨Y,K,y,U⟩;replace U:=jA A U;have l:=qA s 43 p2 g.2;by_cases gF:(ik s 43 p2).2=true
   ·obtain rfl:=K gF;exact⟨rfl,o8 (ts M.out gF) (q9 gF y (yy U))⟩
   ·rw[az]at gF;obtain rfl:=Y gF;clear Y K;have N:=laid (tK M.out gF);generalize(ik s 43 p2).1=p3 at *;clear gF M;go_wp2_with fail
    refine(yx _ _ s p3 c _ 10 rfl y V l.2).mono ?_;rintro e w4 ⟨Y,K,m,B⟩;replace B:=jA U B;have o:=qA s 10 p3 l.2;by_cases gF:(ik s 10 p3).2=true
    ·obtain rfl:=K gF;exact⟨rfl,o8 (ts N.out gF) (q9 gF m (yy B))⟩
    ·rw[az]at gF;obtain rfl:=Y gF;clear Y K;have O:=laid (tK N.out gF);generalize(ik s 10 p3).1=p4 at *;clear gF N;go_wp2_with fail
     refine(WW _ _ s p4 c _ _ F F rfl rfl (by omega) (by omega) m V o.2).mono ?_;rintro e w5 ⟨Y,K,n,C⟩;replace C:=jA B C;have EU:=wy s kT F F p4 o.2;by_cases gF:(lT s kT F F p4).2=true
     ·obtain rfl:=K gF;exact⟨rfl,o8 (ts O.out gF) (q9 gF n (yy C))⟩
     ·rw[az]at gF;have W:=Y gF;rw[E.out]at W;obtain rfl:=W;clear Y K E;have G:=laid (tK O.out gF);generalize(lT s kT F F p4).1=p5 at *;clear gF O;go_wp2_with fail
      refine(yx _ _ s p5 c _ 10 rfl n V EU.2).mono ?_;rintro e w6 ⟨Y,K,S,D⟩;replace D:=jA C D;by_cases gF:(ik s 10 p5).2=true
      ·obtain rfl:=K gF;exact⟨rfl,o8 G.out (q9 gF S (yy D))⟩
      ·rw[az]at gF;obtain rfl:=Y gF;clear Y K;have EV:=S.lt;have r:b≠w.heap.size:=by omega
       have hN:=D.block w.heap.size (by simp) (by simpa using fun h=>r h.symm);rw[cJ]at hN;go_wp2_with fail
       refine(Gi X30 _ (by omega)).mono ?_;rintro e T ⟨rfl,I⟩;rw[Z.out];clear Z;have Kq:w.heap.size<w6.heap.size:=by have:=D.size;simp at this;omega
       have H:=I.block w.heap.size Kq;rw[hN]at H;have n0:T.cell? ⟨w.heap.size,0,none⟩=some (.string ⟨#[]⟩):=by rw[bq _ _ _ _ _ _ H];rfl
       have n1:T.cell? ⟨w.heap.size,1,none⟩=some (.string ⟨#[]⟩):=by rw[bq _ _ _ _ _ _ H];rfl
       have n2:T.cell? ⟨w.heap.size,2,none⟩=some (.string ⟨#[]⟩):=by rw[bq _ _ _ _ _ _ H];rfl
       have z0:T.frozen? ⟨w.heap.size,0,none⟩=false:=cI _ _ _ _ _ H;have z1:T.frozen? ⟨w.heap.size,1,none⟩=false:=cI _ _ _ _ _ H;have z2:T.frozen? ⟨w.heap.size,2,none⟩=false:=cI _ _ _ _ _ H;have f:=jA D (rZ I (some b));have t:=S.below I EV;obtain⟨m0,m1,m2,P⟩:=acd (.string PN) (.string k) (.string i) n0 n1 n2;have a:=t.kept P r;have HF:=laid (o8 (v:=.agg #[.string PN,.string k,.string i]) G.out (Gn gF a (aap f P)));clear gF hN H P a f I t;go_wp2
       refine bodyPost_ret (v:=.agg #[.string PN,.string k,.string i]) ?_ rfl HF.out;simp[dO,Tryz.results109,go_sem,m0,m1,m2]
def xE(s:ByteArray)(Y:Nat)(st:Nat×Bool):ByteArray:=if st.2=true then⟨#[]⟩else cut s st.1 (st.1+iH kT (rest s st.1) Y)
def vz(s:ByteArray)(p:Nat):Nat×Bool:=ik s 64 p
def nx(s:ByteArray)(p:Nat):Nat×Bool:=iJ (vz s p) (qF s)
def vO(s:ByteArray)(p:Nat):Nat×Bool:=iJ (nx s p) (ju s 30)
def vP(s:ByteArray)(p:Nat):Nat×Bool:=iJ (vO s p) (ik s 43)
def sQ(s:ByteArray)(p:Nat):Nat×Bool:=iJ (vP s p) (ik s 10)
def nL(s:ByteArray)(p:Nat):ByteArray:=zx s 30 (nx s p)
def Kr(s:ByteArray)(p:Nat):Nat×Bool:=iJ (sQ s p) (lT s kT (nL s p).size (nL s p).size)
def Ui(s:ByteArray)(p:Nat):Nat×Bool:=iJ (Kr s p) (ik s 10)
def ve(s:ByteArray)(p:Nat):ByteArray×ByteArray×ByteArray:=(su s (vz s p),nL s p,xE s (nL s p).size (sQ s p))
theorem agu(s:ByteArray)(p:Nat)(D:p<=s.size):Ui s p=mc s p:=by
 rw[HO];unfold Ui Kr sQ vP vO;by_cases h:(nx s p).2=true
 ·have e:kZ s 64 p=nx s p:=rfl;rw[e,wv h,wv h];simp only[wv h]
 ·rw[az]at h;have e:kZ s 64 p=nx s p:=rfl;have K:nL s p=sx s 30 (nx s p).1:=by unfold nL zx;rw[if_neg (by simp[h])]
  have Y:=(wN s 64 p D).2;have H:(nL s p).size=j9 s 30 (nx s p).1:=by rw[K];exact Hb s 30 _ Y
  rw[e,kX h,kX h,H];simp only[GV]
def ji(s:ByteArray):Nat->Nat->List (ByteArray×ByteArray×ByteArray)
 |0,_=>[]
 |n+1,p=>if s.size<=p then []else ve s p::(if(mc s p).2=true then []else ji s n (mc s p).1)
def lU(L:List (ByteArray×ByteArray×ByteArray)):List Value:=L.flatMap fun r=>[.string r.1,.string r.2.1,.string r.2.2]
theorem YV(L:List (ByteArray×ByteArray×ByteArray))(r:ByteArray×ByteArray×ByteArray):lU (L++[r])=lU L++[.string r.1,.string r.2.1,.string r.2.2]:=by
 unfold lU;simp
theorem GF(s:ByteArray)(p q:Nat):cut s p q=s.extract p q:=by
 apply ByteArray.ext;apply bV;simp only[ei,d_];rfl
theorem agv(s:ByteArray)(h:(ik s 62 0).2=false):xd s=ug s (ik s 62 0).1:=by
 unfold xd su ug;rw[if_neg (by simp[h]),GF]
theorem agw(s:ByteArray)(p:Nat)(C:p<=s.size)(h:(mc s p).2=false):(xV s p,xW s p,xX s p)=ve s p:=by
 rw[<-agu s p C]at h;obtain⟨N,_⟩:=r6 (show(iJ (Kr s p) (ik s 10)).2=false from h);obtain⟨A,_⟩:=r6 (show(iJ (sQ s p) (lT s kT (nL s p).size (nL s p).size)).2=false from N);obtain⟨I,_⟩:=r6 (show(iJ (vP s p) (ik s 10)).2=false from A);obtain⟨R,_⟩:=r6 (show(iJ (vO s p) (ik s 43)).2=false from I);obtain⟨Y,_⟩:=r6 (show(iJ (nx s p) (ju s 30)).2=false from R);obtain⟨M,_⟩:=r6 (show(iJ (vz s p) (qF s)).2=false from Y);have H:(nx s p).1<=s.size:=(wN s 64 p C).2;have D:(kZ s 64 p).1=(nx s p).1:=rfl;have F:(ju s 30 (nx s p).1).1=(vO s p).1:=by unfold vO;rw[kX Y]
 have J:(ik s 43 (vO s p).1).1=(vP s p).1:=by unfold vP;rw[kX R]
 have L:(ik s 10 (vP s p).1).1=(sQ s p).1:=by unfold sQ;rw[kX I]
 have U:nL s p=sx s 30 (nx s p).1:=by unfold nL zx;rw[if_neg (by simp[Y])]
 have K:(nL s p).size=j9 s 30 (nx s p).1:=by rw[U];exact Hb s 30 _ H
 have b1:xV s p=su s (vz s p):=by
  unfold xV ug su;rw[if_neg (by simp[M]),GF];rfl
 have b2:xW s p=nL s p:=by
  rw[U];unfold xW sx zw;rw[D,show(nx s p).1+j9 s 30 (nx s p).1-(nx s p).1=j9 s 30 (nx s p).1 by omega];congr 2;unfold oo;simp only[ei,d_,rest];simp[List.extract_eq_take_drop]
 have B:xX s p=xE s (nL s p).size (sQ s p):=by
  unfold xX xE ES;rw[if_neg (by simp[A]),GF,D,F,J,L,K]
 unfold ve;rw[b1,b2,B]
structure qG(w:ae)(B:Nat)(p t:ByteArray)(v:af)(i:Nat)(g:Nat->Nat):Prop where
 own:w.ownsRow B 25 1 v i ((dj i).map (sv t g))
 rows:∀x,x<i->u_ w (g x) p t x
 base:∀x,x<i->B<=g x
theorem aek:(ai.info? 25).map (fun i=>(i.zero,i.size,i.bytes))=some (some (.slice none 0 0),1,24):=by kernel_rfl
theorem yG(g i:Nat):(⟨g,0,none⟩:Addr).add i=⟨g,i,none⟩:=by
 by_cases Y:i=0
 ·simp[Addr.add]
 ·simp[Addr.add,Y]
theorem qG.get{B:Nat}{t:ByteArray}{v:af}{g:Nat->Nat}(h:qG w B p t v n g)(U:0<n):
  ∃G cap,v=.slice (some ⟨G,0,none⟩) n cap/\G<w.heap.size/\∀i,i<n->w.cell? ⟨G,i,none⟩=some (.slice (some ⟨g i,0,none⟩) (t.size+1) (t.size+1)):=by
 rcases h.own.2 with⟨_,H⟩|⟨G,cap,K,Y,D,I,R⟩
 ·omega
 ·refine⟨G,cap,Y,?_,fun i A=>?_⟩
  ·rcases bP G _ with h'|h'
   ·omega
   ·simp_all
  ·have h:=h.own.cells (by rw[Y];rfl) i (sv t g i) (by simp_all)
   rwa [yG]at h
def jd(p t:ByteArray):=dT p t p.size t.size
def nF(p t:ByteArray)(k e:Nat)
 |0=>(k+1,0)
 |c+1=>if jd p (t.extract (e-c) e)<(nF p t k e c).1 then(jd p (t.extract (e-c) e),e-c)else nF p t k e c
def tries(p:ByteArray)(k e:Nat):=min e (p.size+k)+1
def iy(p t:ByteArray)(k e:Nat):=nF p t k e (tries p k e)
def lQ(p t:ByteArray)(k:Nat)
 |0=>[]
 |e+1=>if(iy p t k e).1<=k then lQ p t k e++[((iy p t k e).2,e,(iy p t k e).1)]else lQ p t k e
def iL(p t:ByteArray)(k:Nat):=lQ p t k (t.size+1)
theorem aaq(p t:ByteArray)(k e:Nat):∀c,(nF p t k e c).1<=k+1
 |0=>ao _
 |c+1=>by
  have:=aaq p t k e c;simp[nF];split
  ·omega
  ·omega
theorem Gw(p t:ByteArray)(k e:Nat):∀c,(nF p t k e c).2<=e
 |0=>bk _
 |c+1=>by
  have:=Gw p t k e c;simp[nF];split
  ·simp
  ·omega
theorem CB(p t:ByteArray)(k:Nat):∀n,(lQ p t k n).length<=n
 |0=>ao _
 |n+1=>by
  have:=CB p t k n;simp[lQ];split
  ·simp_all
  ·omega
def HT(w:ae)(b:Nat)(s e d:Nat):Prop:=w.heap[b]?=some (.cells #[.int .i64 (s:Int),.int .i64 (e:Int),.int .i64 (d:Int)] 148 (0,0))
def pD(p t:ByteArray)(i j:Nat):Bool:=decide (0<i)&&decide (0<j)&&decide (dT p t i j=dT p t (i-1) (j-1)+cost p t (i-1) (j-1))
def oz(p t:ByteArray)(i j:Nat):Bool:=decide (0<i)&&decide (dT p t i j=dT p t (i-1) j+1)
def iR(p t:ByteArray):Nat->Nat->Nat->List UInt8
 |0,_,_=>[]
 |f+1,i,j=>if i=0/\j=0 then []else if pD p t i j=true then iR p t f (i-1) (j-1)++[77]else if oz p t i j=true then iR p t f (i-1) j++[73]else iR p t f i (j-1)++[68]
def iu(p t:ByteArray):List UInt8:=iR p t (p.size+t.size) p.size t.size
theorem QU(p t:ByteArray)(i:Nat)(h:0<i):oz p t i 0=true:=by
 obtain⟨a,rfl⟩:∃a,i=a+1:=⟨i-1,by omega⟩;unfold oz;cases a with
 |zero=>simp[dT]
 |succ a=>simp[dT]
theorem Dm{t:ByteArray}(h:pD p t i j=true):0<i/\0<j/\dT p t i j=dT p t (i-1) (j-1)+cost p t (i-1) (j-1):=by
 unfold pD at h;simp only[cP,decide_eq_true_eq]at h;exact⟨h.1.1,h.1.2,h.2⟩
theorem Dn{t:ByteArray}(h:oz p t i j=true):0<i/\dT p t i j=dT p t (i-1) j+1:=by
 unfold oz at h;simp only[cP,decide_eq_true_eq]at h;exact h
theorem C0{t:ByteArray}(h:oz p t i j=false)(K:¬(i=0/\j=0)):0<j:=by
 rcases cA j with rfl|H
 ·rcases cA i with rfl|Y
  ·omega
  ·rw[QU p t i Y]at h;exact bZ h
 ·omega
theorem tt(p t:ByteArray):∀(f i j:Nat),i+j<=f->iR p t f i j=iR p t (i+j) i j
 |0,i,j,h=>by
  have:i+j=0:=by omega
  rw[this]
 |f+1,i,j,h=>by
  rcases cA (i+j)with H|H
  ·rw[H];have:i=0/\j=0:=by omega
   show iR p t (f+1) i j=[]
   rw[iR.eq_def];exact if_pos this
  ·obtain⟨n,R⟩:∃n,i+j=n+1:=⟨i+j-1,by omega⟩;rw[R,iR,iR];have Y:¬(i=0/\j=0):=by omega
   rw[if_neg Y,if_neg Y];split
   ·rename_i D;have:=Dm D;rw[tt p t f (i-1) (j-1) (by omega),tt p t n (i-1) (j-1) (by omega)]
   ·split
    ·rename_i K;have:=Dn K;rw[tt p t f (i-1) j (by omega),tt p t n (i-1) j (by omega)]
    ·rename_i K;have:=C0 (by simpa using K) Y;rw[tt p t f i (j-1) (by omega),tt p t n i (j-1) (by omega)]
theorem agx{t:ByteArray}{acc:List UInt8}(Y:pD p t i j=true)(h:iR p t (i+j) i j++acc=L):iR p t (i-1+(j-1)) (i-1) (j-1)++(77::acc)=L:=by
 have H:=Dm Y;obtain⟨n,K⟩:∃n,i+j=n+1:=⟨i+j-1,by omega⟩;rw[K,iR,if_neg (by omega),if_pos Y,tt p t n _ _ (by omega),cv]at h;exact h
theorem agy{t:ByteArray}{acc:List UInt8}(K:pD p t i j=false)(Y:oz p t i j=true)(h:iR p t (i+j) i j++acc=L):iR p t (i-1+j) (i-1) j++(73::acc)=L:=by
 have D:=Dn Y;obtain⟨n,H⟩:∃n,i+j=n+1:=⟨i+j-1,by omega⟩;rw[H,iR,if_neg (by omega),if_neg (by simp[K]),if_pos Y,tt p t n _ j (by omega),cv]at h;exact h
theorem agz{t:ByteArray}{acc:List UInt8}(Y:¬(i=0/\j=0))(H:pD p t i j=false)(K:oz p t i j=false)(h:iR p t (i+j) i j++acc=L):iR p t (i+(j-1)) i (j-1)++(68::acc)=L:=by
 have R:=C0 K Y;obtain⟨n,D⟩:∃n,i+j=n+1:=⟨i+j-1,by omega⟩;rw[D,iR,if_neg Y,if_neg (by simp[H]),if_neg (by simp[K]),tt p t n i _ (by omega),cv]at h;exact h
theorem C1(p t:ByteArray):∀(f i j:Nat),(iR p t f i j).length<=f
 |0,_,_=>by simp[iR]
 |f+1,i,j=>by
  rw[iR];split
  ·simp
  ·split
   ·have:=C1 p t f (i-1) (j-1);simp;omega
   ·split
    ·have:=C1 p t f (i-1) j;simp;omega
    ·have:=C1 p t f i (j-1);simp;omega
theorem AM(p t:ByteArray):(iu p t).length<=p.size+t.size:=C1 _ _ _ _ _
end
section
open ChangeShapes WideShapes ChangeAt RowKit
def vf:List (String×DataW Unit):=Rows.checksRow.laid
theorem aar:("internal/strconv.uint64pow10",(Lib.tabData .u64 fa:DataW Unit))∈vf:=by
 exact .tail _ (.tail _ (.head _))
theorem XL{W:ae}(h:laidMetH ai vf W):iN W:=by
 obtain⟨I,t',cs,fuel,p,K,H,Y,hd⟩:=Lib.laidMet.reads h aar;have R:alg ai "internal/strconv.uint64pow10"=some 0:=by kernel_rfl
 have D:((ai).globals[0]?).map (·.type)=some 202:=by kernel_rfl
 obtain rfl:=Option.some.inj (R.symm.trans K);obtain rfl:=Option.some.inj (D.symm.trans H);unfold iN de;rw[Y,<-Lib.cells_of_tab Tryz.underlying202 Tryz.underlying176 (by kernel_rfl) (by kernel_rfl) hd]
theorem ace(os:Os)(args:Array af):laidMetH ai vf ((World.doorLaid ai 400 os).forCall (fun _ _=>0) ⟨#[],args,[]⟩).memory:=
 laidMetH_of_parts3 (fuel:=8) (laidMet_of_run' 8 (by kernel_rfl) (by kernel_rfl)) (by kernel_rfl) (by kernel_rfl)
end
namespace Ren
theorem Hd{α:Type}:∀(x:Ask α) (w:ae),w.drawn<=(w.ask x).2.drawn
 |.done a,w=>ao _
 |.ask _ _ k,w=>by
  unfold World.ask;dsimp only;split
  ·exact Hd _ w
  ·exact aJ (Nat.le_succ _) (Hd _ {w with drawn:=w.drawn+1})
theorem aas(w:ae)(c:Sys):w.drawn<=(w.sys c).2.drawn:=by
 have:=Hd (Kernel.perform c w.os) w;unfold World.sys;split
 ·simp
 ·simp_all
theorem Wt{p:ak}{w1:ae}{u:ah}{k:Addr}{v:af}{a:Bool}{l:List Addr}(h:w.viewStore p at_ u k v a=.ok (w1,l)):w1.drawn=w.drawn:=by
 unfold dL at h;simp only[bind,Except.bind,cy,throwThe,cz]at h
 repeat' split at h
 all_goals first|(cases h;rfl)|(cases h)
theorem WJ{p:ak}{w1:ae}{v:af}{at_:Bool}{l:List _}(h:w.farStore p a v at_=.ok (w1,l)):w1.drawn=w.drawn:=by
 unfold alv at h;split at h
 ·split at h
  ·rename_i e;rw[Except.ok.inj h]at e;exact Wt e
  ·cases h
 ·cases h
def _root_.Go.Result.world{α:Type}:Result α->ae
 |.ok _ w=>w
 |.halt _ w=>w
theorem CJ{α:Type}(s:Sem α):∀(w:ae),w.drawn<=(s.run P w).world.drawn:=by
 induction s with
 |pure a=>exact fun w=>ao _
 |halt h=>exact fun w=>ao _
 |load m a k Y=>
  intro w;simp only[Sem.run]
  repeat' split
  all_goals first|exact Y _ _|exact ao _
 |store m a v k Y=>
  intro w;cases v<;>simp only[Sem.run]<;>(repeat' split)<;>first
   |exact ao _
   |exact Y (w.setCell a _)
   |(rename_i e;exact aJ (alb (WJ e).symm) (Y _))
 |new o k Y=>exact fun w=>Y _ {w with heap:=w.heap.push o}
 |shape r k Y=>exact fun w=>Y _ _
 |freeze a n k Y=>
  intro w;refine aJ (alb ?_) (Y (w.freeze a n));unfold alw;split<;>rfl
 |frozen a k Y=>exact fun w=>Y _ _
 |getObj r k Y=>
  intro w;simp only[Sem.run];split
  ·exact ao _
  ·exact Y _ _
  ·exact ao _
 |setObj r o k Y=>
  intro w;simp only[Sem.run];split
  ·exact ao _
  ·exact Y {w with heap:=w.heap.setIfInBounds r o}
  ·exact ao _
 |choose q k Y=>
  intro w;simp only[Sem.run];split
  ·exact Y _ _
  ·exact aJ (Nat.le_succ _) (Y _ {w with drawn:=w.drawn+1})
 |sys c k Y=>exact fun w=>aJ (aas w c) (Y _ _)
 |program k Y=>exact fun w=>Y _ _
 |mark m k Y=>exact fun w=>Y _
class gK where
 size:Nat
 iz:bh->Prop
 code:Code->Prop
 methods:String->Prop
 rQ:Nat->Prop
 wall:Array Oper->Prop
 ro:Nat->Prop
 jC:Nat->Nat->Prop
 rest:List Item->Prop
 jm:List aN->Prop
 qN:Bool
section jo
variable[gK]
structure Rn where
 f:Nat->Option Nat
 inj:∀b b' c,f b=some c->f b'=some c->b=b'
 jo:∀b c,f b=some c->(b<gK.size↔c<gK.size)
instance:CoeFun Rn (fun _=>Nat->Option Nat):=⟨Rn.f⟩
def Le(r s:Rn):=∀b c,r b=some c->s b=some c
theorem Le.refl(r:Rn):Le r r:=fun _ _ h=>h
theorem Le.trans{r s t:Rn}(h:Le r s)(k:Le s t):Le r t:=fun b c e=>k b c (h b c e)
structure Ad(r:Rn)(a a':Addr):Prop where
 block:r a.block=some a'.block
 off:a'.off=a.off
 spot:a'.spot=a.spot
theorem Ad.mono{r s:Rn}(h:Le r s)(k:Ad r a a'):Ad s a a':=⟨h _ _ k.block,k.off,k.spot⟩
def Hid:af->Bool
 |.agg _|.pointer none|.nilIface|.nilFunc|.bool _=>false
 |.func .. =>gK.qN
 |_=>true
def Ew:af->Bool
 |.agg _|.pointer none|.nilIface|.nilFunc|.func .. |.bool _=>false
 |_=>true
theorem Ew.up(h:Ew y=true):Hid y=true:=by
 cases y with
 |pointer a=>cases a<;>first|rfl|cases h
 |_=>first|rfl|cases h
inductive qp(r:Rn):Fn->Fn->Prop
 |func {f:bh}:gK.iz f->qp r (.func f) (.func f)
 |method {n:String}:gK.methods n->qp r (.method n) (.method n)
 |yield {l l':Nat}:r l=some l'->qp r (.yield l) (.yield l')
inductive qs(r:Rn):Fn->Fn->Prop
 |func {f:bh}:gK.iz f->qs r (.func f) (.func f)
 |yield {l l':Nat}:r l=some l'->qs r (.yield l) (.yield l')
theorem qs.mono{r s:Rn}(h:Le r s){f f':Fn}(k:qs r f f'):qs s f f':=by
 cases k with
 |func g=>exact .func g
 |yield e=>exact .yield (h _ _ e)
theorem qs.toR{r:Rn}{f f':Fn}(k:qs r f f'):qp r f f':=by
 cases k with
 |func g=>exact .func g
 |yield e=>exact .yield e
theorem qp.mono{r s:Rn}(h:Le r s){f f':Fn}(k:qp r f f'):qp s f f':=by
 cases k with
 |func g=>exact .func g
 |method g=>exact .method g
 |yield e=>exact .yield (h _ _ e)
inductive V(r:Rn):af->af->Prop
 |blank {y:af}:Hid y=true->V r (.tuple #[]) y
 |bool (b:Bool):V r (.bool b) (.bool b)
 |int (k:aI) (n:Int):V r (.int k n) (.int k n)
 |string (s:ByteArray):V r (.string s) (.string s)
 |nilPtr:V r (.pointer none) (.pointer none)
 |ptr {a a':Addr}:Ad r a a'->V r (.pointer (some a)) (.pointer (some a'))
 |kW (l c:Nat):V r (.slice none l c) (.slice none l c)
 |slice {a a':Addr} (l c:Nat):Ad r a a'->V r (.slice (some a) l c) (.slice (some a') l c)
 |oJ:V r (.map none) (.map none)
 |map {b b':Nat}:r b=some b'->V r (.map (some b)) (.map (some b'))
 |pW:V r (.chan none) (.chan none)
 |chan {b b':Nat}:r b=some b'->V r (.chan (some b)) (.chan (some b'))
 |func {fn je:Fn} {f f' c c':Array af}:qs r fn je->f.size=f'.size->(∀(i:Nat) x x',f[i]?=some x->f'[i]?=some x'->V r x x')->
   c.size=c'.size->(∀(i:Nat) x x',c[i]?=some x->c'[i]?=some x'->V r x x')->V r (.func fn f c) (.func je f' c')
 |nilFunc:V r .nilFunc .nilFunc
 |iface (t:ah) {v v':af}:V r v v'->V r (.iface t v) (.iface t v')
 |nilIface:V r .nilIface .nilIface
 |agg {c c':Array af}:c.size=c'.size->(∀(i:Nat) x x',c[i]?=some x->c'[i]?=some x'->V r x x')->V r (.agg c) (.agg c')
 |tuple {c c':Array af}:c.size=c'.size->(∀(i:Nat) x x',c[i]?=some x->c'[i]?=some x'->V r x x')->V r (.tuple c) (.tuple c')
theorem V.mono{r s:Rn}(h:Le r s)(k:V r x y):V s x y:=by
 induction k with
 |blank h=>exact .blank h
 |bool b=>exact .bool b
 |int k n=>exact .int k n
 |string s=>exact .string s
 |nilPtr=>exact .nilPtr
 |ptr a=>exact .ptr (a.mono h)
 |kW l c=>exact .kW l c
 |slice l c a=>exact .slice l c (a.mono h)
 |oJ=>exact .oJ
 |map e=>exact .map (h _ _ e)
 |pW=>exact .pW
 |chan e=>exact .chan (h _ _ e)
 |func n s1 _ K _ Y i2=>exact .func (n.mono h) s1 Y K i2
 |nilFunc=>exact .nilFunc
 |iface t _ i=>exact .iface t i
 |nilIface=>exact .nilIface
 |agg s _ i=>exact .agg s i
 |tuple s _ i=>exact .tuple s i
structure VA(r:Rn)(c c':Array af):Prop where
 size:c.size=c'.size
 at_:∀(i:Nat) x x',c[i]?=some x->c'[i]?=some x'->V r x x'
structure En(r:Rn)(e e':ay):Prop where
 key:V r e.key e'.key
 val:V r e.val e'.val
 born:e'.born=e.born
inductive Tg(r:Rn):cB->cB->Prop
 |fn {f f':Fn} {c c':Array af}:qp r f f'->VA r c c'->Tg r (.fn f c) (.fn f' c')
 |nil:Tg r .nil .nil
 |collected {b b':Nat}:r b=some b'->Tg r (.collected b) (.collected b')
structure Df(r:Rn)(d d':aN):Prop where
 target:Tg r d.target d'.target
 args:VA r d.args d'.args
inductive DL(r:Rn):List aN->List aN->Prop
 |nil:DL r [] []
 |cons {d d':aN} {l l':List aN}:Df r d d'->DL r l l'->DL r (d::l) (d'::l')
structure Lp(r:Rn)(l l':Loop):Prop where
 state:l'.state=l.state
 pending:l'.pending=l.pending
 fn:l'.fn=l.fn
 params:l'.params=l.params
 assign:l'.assign=l.assign
 body:l'.body=l.body
 tmps:VA r l.tmps l'.tmps
 defers:r l.defers=some l'.defers
 cp:∀c,l.pending=some c->gK.code c
 ca:gK.code l.assign
 cb:gK.code l.body
inductive DO(r:Rn):Option (List aN)->Option (List aN)->Prop
 |none:DO r none none
 |some {l l':List aN}:DL r l l'->DO r (some l) (some l')
inductive O(r:Rn):Obj->Obj->Prop
 |loop {l l':Loop}:Lp r l l'->O r (.loop l) (.loop l')
 |view {a a':Addr} (t:ah):¬gK.ro a.block->Ad r a a'->O r (.view a t) (.view a' t)
 |number {a a':Addr} (l:Bool):Ad r a a'->O r (.number a l) (.number a' l)
 |deferred {d d':Option (List aN)}:DO r d d'->O r (.deferred d) (.deferred d')
 |cells {c c':Array af} (e:ah) (fz:Nat×Nat):VA r c c'->O r (.cells c e fz) (.cells c' e fz)
 |map {es iK:Array ay} (clock:Nat):es.size=iK.size->(∀(i:Nat) x x',es[i]?=some x->iK[i]?=some x'->En r x x')->O r (.map es clock) (.map iK clock)
 |stringIter (s:ByteArray) (p:Nat):O r (.stringIter s p) (.stringIter s p)
 |qx (a:Nat) (s:Array Nat) (n:Nat):O r (.mapIter none a s n) (.mapIter none a s n)
 |mapIter {b b':Nat} (a:Nat) (s:Array Nat) (n:Nat):r b=some b'->O r (.mapIter (some b) a s n) (.mapIter (some b') a s n)
theorem VA.mono{r s:Rn}(h:Le r s){c c':Array _}(k:VA r c c'):VA s c c':=⟨k.size,fun i x x' e e'=>(k.at_ i x x' e e').mono h⟩
theorem En.mono{r s:Rn}(h:Le r s){e e':ay}(k:En r e e'):En s e e':=⟨k.key.mono h,k.val.mono h,k.born⟩
theorem Tg.mono{r s:Rn}(h:Le r s){t t':cB}(k:Tg r t t'):Tg s t t':=by
 cases k with
 |fn f c=>exact .fn (f.mono h) (c.mono h)
 |nil=>exact .nil
 |collected e=>exact .collected (h _ _ e)
theorem Df.mono{r s:Rn}(h:Le r s)(k:Df r d d'):Df s d d':=⟨k.target.mono h,k.args.mono h⟩
theorem DL.mono{r s:Rn}(h:Le r s){d d':List _}(k:DL r d d'):DL s d d':=by
 induction k with
 |nil=>exact .nil
 |cons x _ Y=>exact .cons (x.mono h) Y
theorem DO.mono{r s:Rn}(h:Le r s){d d':Option _}(k:DO r d d'):DO s d d':=by
 cases k with
 |none=>exact .none
 |some x=>exact .some (x.mono h)
theorem Lp.mono{r s:Rn}(h:Le r s){l l':Loop}(k:Lp r l l'):Lp s l l':=⟨k.state,k.pending,k.fn,k.params,k.assign,k.body,k.tmps.mono h,h _ _ k.defers,k.cp,k.ca,k.cb⟩
theorem O.mono{r s:Rn}(h:Le r s)(k:O r o o'):O s o o':=by
 cases k with
 |loop l=>exact .loop (l.mono h)
 |view t n a=>exact .view t n (a.mono h)
 |number l a=>exact .number l (a.mono h)
 |deferred d=>exact .deferred (d.mono h)
 |cells e fz a=>exact .cells e fz (a.mono h)
 |map Y H K=>exact .map Y H fun i x x' e e'=>(K i x x' e e').mono h
 |stringIter s p=>exact .stringIter s p
 |qx a s n=>exact .qx a s n
 |mapIter a s n e=>exact .mapIter a s n (h _ _ e)
inductive OB(r:Rn)(b:Nat):Obj->Obj->Prop
 |same {o o':Obj}:¬gK.ro b->O r o o'->OB r b o o'
 |ro {c c':Array af} {fz:Nat×Nat} (e:ah):gK.ro b->VA r c c'->(∀i,gK.jC b i->c[i]?=some (.tuple #[]))->OB r b (.cells c e (0,c.size)) (.cells c' e fz)
theorem OB.mono{r s:Rn}(h:Le r s)(k:OB r b o o'):OB s b o o':=by
 cases k with
 |same n o=>exact .same n (o.mono h)
 |ro e n a Y=>exact .ro e n (a.mono h) Y
structure W(r:Rn)(c:Nat)(v w:ae):Prop where
 obj:∀b b',r b=some b'->∃o o',v.heap[b]?=some o/\w.heap[b']?=some o'/\OB r b o o'
 gv:gK.size<=v.heap.size
 gw:gK.size<=w.heap.size
 old:∀b,gK.ro b->b<v.heap.size
 tape:∀i q,i<c->v.tape (v.drawn+i) q=w.tape (w.drawn+i) q
 env:w.os.env=v.os.env
inductive Hl(r:Rn):Halt->Halt->Prop
 |panic {v v':af}:V r v v'->Hl r (.panic v) (.panic v')
def Dy:Unsupported->Bool
 |.initOrder _=>true
 |_=>false
def rI(h:Halt):=(∃u,h=.unsupported u/\Dy u=false)\/∃y,h=.stuck y
inductive SR(P:ak){α:Type}(A:Rn->α->α->Prop):Rn->Sem α->Sem α->Prop
 |pure {r:Rn} {a a':α}:A r a a'->SR P A r (.pure a) (.pure a')
 |load {r:Rn} {a a':Addr} {k k':af->Sem α}:Ad r a a'->(∀s v v',Le r s->V s v v'->SR P A s (k v) (k' v'))->SR P A r (.load .plain a k) (.load .plain a' k')
 |store {r:Rn} {a a':Addr} {v v':af} {k k':Sem α}:Ad r a a'->V r v v'->(∀s,Le r s->SR P A s k k')->SR P A r (.store .plain a v k) (.store .plain a' v' k')
 |new {r:Rn} {o o':Obj} {k k':Nat->Sem α}:O r o o'->(∀s b b',Le r s->s b=some b'->SR P A s (k b) (k' b'))->SR P A r (.new o k) (.new o' k')
 |shape {r:Rn} {b b':Nat} {k k':Option (ah×Nat)->Sem α}:r b=some b'->(∀s x,Le r s->SR P A s (k x) (k' x))->SR P A r (.shape b k) (.shape b' k')
 |freeze {r:Rn} {a a':Addr} (n:Nat) {k k':Sem α}:(∀b,¬gK.ro b)->Ad r a a'->(∀s,Le r s->SR P A s k k')->SR P A r (.freeze a n k) (.freeze a' n k')
 |frozen {r:Rn} {a a':Addr} {k k':Bool->Sem α}:(∀b,¬gK.ro b)->Ad r a a'->(∀s x,Le r s->SR P A s (k x) (k' x))->SR P A r (.frozen a k) (.frozen a' k')
 |getObj {r:Rn} {b b':Nat} {k k':Obj->Sem α}:r b=some b'->(∀s o o',Le r s->O s o o'->SR P A s (k o) (k' o'))->SR P A r (.getObj b k) (.getObj b' k')
 |setObj {r:Rn} {b b':Nat} {o o':Obj} {k k':Sem α}:r b=some b'->O r o o'->(∀s,Le r s->SR P A s k k')->SR P A r (.setObj b o k) (.setObj b' o' k')
 |choose {r:Rn} (q:Question) {k k':Nat->Sem α}:(∀s n,Le r s->SR P A s (k n) (k' n))->SR P A r (.choose q k) (.choose q k')
 |env {r:Rn} {k k':SysRet->Sem α}:(∀s x,Le r s->SR P A s (k x) (k' x))->SR P A r (.sys .env k) (.sys .env k')
 |program {r:Rn} {k k':ak->Sem α}:(∀s,Le r s->SR P A s (k P) (k' P))->SR P A r (.program k) (.program k')
 |mark {r:Rn} (m:Mark) {k k':Sem α}:(m=.noRoom\/∃f,m=.extern f)->(∀s,Le r s->SR P A s k k')->SR P A r (.mark m k) (.mark m k')
 |halt {r:Rn} {h h':Halt}:Hl r h h'->SR P A r (.halt h) (.halt h')
 |lost {r:Rn} {s s':Sem α}:(∀v,∃h v1,s.run P v=.halt h v1/\rI h)->SR P A r s s'
theorem SR.bind{α H:Type}{A:Rn->α->α->Prop}{B:Rn->H->H->Prop}{r:Rn}{s s':Sem α}{f f':α->Sem H}(h:SR P A r s s')
  (k:∀t a a',Le r t->A t a a'->SR P B t (f a) (f' a')):SR P B r (s.bind f) (s'.bind f'):=by
 induction h with
 |pure a=>exact k _ _ _ (.refl _) a
 |load a _ Y=>exact .load a fun t v v' l e=>Y t v v' l e fun u a a' K=>k u a a' (l.trans K)
 |store a v _ Y=>exact .store a v fun t l=>Y t l fun u a a' K=>k u a a' (l.trans K)
 |new o _ Y=>exact .new o fun t b b' l e=>Y t b b' l e fun u a a' K=>k u a a' (l.trans K)
 |shape e _ Y=>exact .shape e fun t x l=>Y t x l fun u a a' K=>k u a a' (l.trans K)
 |freeze n z a _ Y=>exact .freeze n z a fun t l=>Y t l fun u a a' K=>k u a a' (l.trans K)
 |frozen z a _ Y=>exact .frozen z a fun t x l=>Y t x l fun u a a' K=>k u a a' (l.trans K)
 |getObj e _ Y=>exact .getObj e fun t o o' l e=>Y t o o' l e fun u a a' K=>k u a a' (l.trans K)
 |setObj e o _ Y=>exact .setObj e o fun t l=>Y t l fun u a a' K=>k u a a' (l.trans K)
 |choose q _ Y=>exact .choose q fun t n l=>Y t n l fun u a a' K=>k u a a' (l.trans K)
 |env _ Y=>exact .env fun t x l=>Y t x l fun u a a' K=>k u a a' (l.trans K)
 |program _ Y=>exact .program fun t l=>Y t l fun u a a' K=>k u a a' (l.trans K)
 |mark m R _ Y=>exact .mark m R fun t l=>Y t l fun u a a' K=>k u a a' (l.trans K)
 |halt h=>exact .halt h
 |lost h=>
  refine .lost fun v=>?_;obtain⟨x,v1,e,D⟩:=h v;refine⟨x,v1,?_,D⟩;rw[aW,e];rfl
theorem SR.imp{α:Type}{A B:Rn->α->α->Prop}{r:Rn}{s s':Sem α}(h:SR P A r s s')(k:∀t a a',Le r t->A t a a'->B t a a'):SR P B r s s':=by
 induction h with
 |pure a=>exact .pure (k _ _ _ (.refl _) a)
 |load a _ Y=>exact .load a fun t v v' l e=>Y t v v' l e fun u a a' K=>k u a a' (l.trans K)
 |store a v _ Y=>exact .store a v fun t l=>Y t l fun u a a' K=>k u a a' (l.trans K)
 |new o _ Y=>exact .new o fun t b b' l e=>Y t b b' l e fun u a a' K=>k u a a' (l.trans K)
 |shape e _ Y=>exact .shape e fun t x l=>Y t x l fun u a a' K=>k u a a' (l.trans K)
 |freeze n z a _ Y=>exact .freeze n z a fun t l=>Y t l fun u a a' K=>k u a a' (l.trans K)
 |frozen z a _ Y=>exact .frozen z a fun t x l=>Y t x l fun u a a' K=>k u a a' (l.trans K)
 |getObj e _ Y=>exact .getObj e fun t o o' l e=>Y t o o' l e fun u a a' K=>k u a a' (l.trans K)
 |setObj e o _ Y=>exact .setObj e o fun t l=>Y t l fun u a a' K=>k u a a' (l.trans K)
 |choose q _ Y=>exact .choose q fun t n l=>Y t n l fun u a a' K=>k u a a' (l.trans K)
 |env _ Y=>exact .env fun t x l=>Y t x l fun u a a' K=>k u a a' (l.trans K)
 |program _ Y=>exact .program fun t l=>Y t l fun u a a' K=>k u a a' (l.trans K)
 |mark m H _ Y=>exact .mark m H fun t l=>Y t l fun u a a' K=>k u a a' (l.trans K)
 |halt h=>exact .halt h
 |lost h=>exact .lost h
section agA
variable{r:Rn}{c:Nat}{v w:ae}
theorem W.lt(h:W r c v w)(e:r b=some b'):b<v.heap.size/\b'<w.heap.size:=by
 obtain⟨o,o',Y,K,_⟩:=h.obj b b' e;exact⟨(bC.1 Y).1,(bC.1 K).1⟩
structure Out(r r1:Rn)(c c1:Nat)(v w v1 w1:ae):Prop where
 drew:v1.drawn+c1=v.drawn+c
 zf:w1.drawn+c1=w.drawn+c
 later:v.drawn<=v1.drawn
 le:Le r r1
 wl:W r1 c1 v1 w1
 grow:w.heap.size<=w1.heap.size
 Js:v.heap.size<=v1.heap.size
 kept:∀a,a<w.heap.size->(∀b,r b=some a->gK.ro b)->w1.heap[a]?=w.heap[a]?
 fresh:∀b a,r1 b=some a->r b=some a\/(w.heap.size<=a/\v.heap.size<=b)
 range:∀a,w.heap.size<=a->a<w1.heap.size->∃b,r1 b=some a
 tape:w1.tape=w.tape
 Jt:v1.tape=v.tape
 os:w1.os=w.os
 output:w1.output=w.output
 Uj:v1.os=v.os
 QV:v1.output=v.output
theorem Out.refl(h:W r c v w):Out r r c c v w v w:=⟨rfl,rfl,ao _,.refl _,h,ao _,ao _,fun _ _ _=>rfl,fun _ _ e=>.inl e,fun a K Y=>absurd Y (by omega),rfl,rfl,rfl,rfl,rfl,rfl⟩
theorem Out.trans{r1 r2:Rn}{c1 c2:Nat}{v1 w1 v2 w2:ae}(h:Out r r1 c c1 v w v1 w1)(k:Out r1 r2 c1 c2 v1 w1 v2 w2):Out r r2 c c2 v w v2 w2:=by
 refine⟨k.drew.trans h.drew,k.zf.trans h.zf,aJ h.later k.later,h.le.trans k.le,k.wl,aJ h.grow k.grow,aJ h.Js k.Js,fun a Y hr=>?_,fun b a e=>?_,fun a H D=>?_,k.tape.trans h.tape,k.Jt.trans h.Jt,k.os.trans h.os,k.output.trans h.output,k.Uj.trans h.Uj,k.QV.trans h.QV⟩
 ·rw[k.kept a (bu Y h.grow) fun b e=>?_]
  ·exact h.kept a Y hr
  ·rcases h.fresh b a e with e'|⟨e',_⟩
   ·simp_all
   ·omega
 ·rcases k.fresh b a e with e'|⟨e',K⟩
  ·exact h.fresh b a e'
  ·exact .inr ⟨aJ h.grow e',aJ h.Js K⟩
 ·by_cases Y:a<w1.heap.size
  ·obtain⟨b,e⟩:=h.range a H Y;exact⟨b,k.le _ _ e⟩
  ·exact k.range a (by omega) D
theorem Out.set(h:W r c v w)(e:r b=some b')(H:¬gK.ro b)(U:O r o o'):
  Out r r c c v w {v with heap:=v.heap.setIfInBounds b o} {w with heap:=w.heap.setIfInBounds b' o'}:=by
 have C:=h.lt e;refine⟨rfl,rfl,ao _,.refl _,⟨fun x x' D=>?_,by simpa using h.gv,by simpa using h.gw,by simpa using h.old,h.tape,h.env⟩,by simp,by simp,fun a B hr=>?_,fun _ _ x=>.inl x,fun a I R=>absurd R (by simp;omega),rfl,rfl,rfl,rfl,rfl,rfl⟩
 ·by_cases Y:x=b
  ·subst Y;obtain rfl:x'=b':=Option.some.inj (D.symm.trans e);exact⟨o,o',by simp_all,by simp_all,.same H U⟩
  ·have K:x'≠b':=fun y=>Y (r.inj _ _ _ D (y▸e));obtain⟨p,p',I,R,A⟩:=h.obj x x' D;exact⟨p,p',by simp[Ne.symm Y,I],by simp[Ne.symm K,R],A⟩
 ·have:a≠b':=fun x=>H (hr b (x▸e));simp[Ne.symm this]
def ext(r:Rn)(b a:Nat)(R:∀x,r x≠some a)(C:gK.size<=b)(U:gK.size<=a):Rn where
 f:=fun x=>if x=b then some a else r x
 jo:=fun x y h=>by
  by_cases Y:x=b
  ·simp only[Y,if_true,dy]at h;omega
  ·simp only[Y,if_false]at h;exact r.jo x y h
 inj:=fun x y z K H=>by
  by_cases Y:x=b<;>by_cases D:y=b
  ·omega
  ·simp only[Y,if_true,dy]at K;simp only[D,if_false]at H;exact absurd (K▸H) (R y)
  ·simp only[D,if_true,dy]at H;simp only[Y,if_false]at K;exact absurd (H▸K) (R x)
  ·simp only[Y,D,if_false]at K H;exact r.inj _ _ _ K H
theorem W.past(h:W r c v w):∀x,r x≠some w.heap.size:=fun x e=>by have:=(h.lt e).2;omega
theorem Out.new(h:W r c v w){o o':Obj}(U:O r o o'):
  Out r (ext r _ _ h.past h.gv h.gw) c c v w {v with heap:=v.heap.push o} {w with heap:=w.heap.push o'}:=by
 have le:Le r (ext r v.heap.size w.heap.size h.past h.gv h.gw):=fun b a e=>by
  have:=(h.lt e).1;show(if b=v.heap.size then some _ else r b)=some a
  rw[if_neg (by omega)];exact e
 have old:∀b a,ext r v.heap.size w.heap.size h.past h.gv h.gw b=some a->r b=some a\/(b=v.heap.size/\a=w.heap.size):=fun b a e=>by
  have e:(if b=v.heap.size then some _ else r b)=some a:=e;split at e
  ·simp_all
  simp_all
 refine⟨rfl,rfl,ao _,le,⟨fun b b' e=>?_,by have:=h.gv;simp;omega,by have:=h.gw;simp;omega,fun b I=>by have:=h.old b I;simp;omega,h.tape,h.env⟩,by simp,by simp,fun a A hr=>?_,fun b a e=>?_,fun a K Y=>⟨v.heap.size,?_⟩,rfl,rfl,rfl,rfl,rfl,rfl⟩
 ·rcases old _ _ e with x|⟨H,D⟩
  ·obtain⟨p,p',K,Y,R⟩:=h.obj b b' x;have:=h.lt x;exact⟨p,p',by simp only[bK];rw[if_neg (by omega)];exact K,by simp only[bK];rw[if_neg (by omega)];exact Y,R.mono le⟩
  ·subst H;subst D;exact⟨o,o',by simp,by simp,.same (fun hr=>by have:=h.old _ hr;omega) (U.mono le)⟩
 ·simp only[bK];rw[if_neg (by omega)]
 ·rcases old _ _ e with x|⟨H,D⟩
  ·exact .inl x
  ·omega
 ·simp at Y;show(if v.heap.size=v.heap.size then some _ else r _)=some a
  rw[if_pos rfl];congr 1;omega
theorem Out.draw(h:W r (c+1) v w):Out r r (c+1) c v w {v with drawn:=v.drawn+1} {w with drawn:=w.drawn+1}:=
 ⟨by simp;omega,by simp;omega,by simp,.refl _,⟨h.obj,h.gv,h.gw,h.old,fun i q H=>by have:=h.tape (1+i) q (by omega);simpa[Nat.add_assoc]using this,h.env⟩,ao _,ao _,fun _ _ _=>rfl,fun _ _ e=>.inl e,fun a K Y=>absurd Y (by simp;omega),rfl,rfl,rfl,rfl,rfl,rfl⟩
end agA
section runs
variable{r:Rn}{c:Nat}{v w:ae}
omit [gK]in
theorem modify_eq{h:Array Obj}{f:Obj->Obj}(e:h[b]?=some o):h.modify b f=h.setIfInBounds b (f o):=by
 obtain⟨K,R⟩:=bC.1 e;refine Array.ext (by simp) fun i H D=>?_;rw[Array.getElem_modify];by_cases Y:b=i
 ·simp_all
 ·rw[if_neg Y,Array.getElem_setIfInBounds,if_neg Y]
theorem VA.get{c c':Array _}(h:VA r c c')(e:c[i]?=some x):∃x',c'[i]?=some x'/\V r x x':=by
 obtain⟨Y,_⟩:=bC.1 e;have K:=h.size▸Y;exact⟨c'[i],by simp,h.at_ i x _ e (by simp)⟩
theorem VA.none{c c':Array _}(h:VA r c c')(e:c[i]?=none):c'[i]?=none:=by
 simp at e⊢;have:=h.size;omega
theorem VA.set{c c':Array _}(h:VA r c c')(i:Nat)(K:V r x x'):VA r (c.setIfInBounds i x) (c'.setIfInBounds i x'):=by
 refine⟨by simp[h.size],fun j y I e e'=>?_⟩;simp[Array.getElem?_setIfInBounds]at e e';by_cases Y:i=j
 ·simp_all
 ·rw[if_neg Y]at e e';exact h.at_ j y I e e'
theorem W.cell(h:W r c v w)(H:Ad r a a')(e:v.cell? a=some x):∃x',w.cell? a'=some x'/\V r x x':=by
 obtain⟨o,o',R,I,K⟩:=h.obj _ _ H.block;simp[bU,R]at e;simp[bU,I];have cells:∀{cs gW:Array _},VA r cs gW->(if a.spot.isSome=true then none else cs[a.off]?)=some x->∃x',(if a'.spot.isSome=true then none else gW[a'.off]?)=some x'/\V r x x':=by
  intro cs gW Y e;rw[H.spot,H.off];split at e
  ·cases e
  ·rename_i A;rw[if_neg A];exact Y.get e
 cases K with
 |ro D n Y U=>exact cells Y e
 |same n K=>
  cases K with
  |cells D fz Y=>exact cells Y e
  |_=>cases e
theorem W.noCell(h:W r c v w)(H:Ad r a a')(e:v.cell? a=none):w.cell? a'=none:=by
 obtain⟨o,o',R,I,K⟩:=h.obj _ _ H.block;simp[bU,R]at e;simp[bU,I];have cells:∀{cs gW:Array _},VA r cs gW->(if a.spot.isSome=true then none else cs[a.off]?)=none->(if a'.spot.isSome=true then none else gW[a'.off]?)=none:=by
  intro cs gW Y e;rw[H.spot,H.off];split at e
  ·simp_all
  ·rename_i A;rw[if_neg A];exact Y.none e
 cases K with
 |ro D n Y U=>exact cells Y e
 |same n K=>
  cases K with
  |cells D fz Y=>exact cells Y e
  |_=>rfl
theorem W.frozen(h:W r c v w){a a':Addr}(K:Ad r a a')(R:¬gK.ro a.block):w.frozen? a'=v.frozen? a:=by
 obtain⟨o,o',H,D,Y⟩:=h.obj _ _ K.block;simp[alx,H,D];cases Y with
 |ro I n U A=>exact absurd n R
 |same n Y=>cases Y<;>simp[K.off]
theorem W.acf(h:W r c v w)(H:Ad r a a')(D:gK.ro a.block)(e:v.cell? a=some x):v.frozen? a=true:=by
 obtain⟨o,o',Y,I,K⟩:=h.obj _ _ H.block;simp[bU,Y]at e;simp[alx,Y];cases K with
 |ro R n U A=>
  simp only at e⊢;split at e
  ·cases e
  ·have:=(bC.1 e).1;simp[this]
 |same n K=>exact absurd D n
theorem W.shape(h:W r c v w){b b':Nat}(e:r b=some b'):w.shape? b'=v.shape? b:=by
 obtain⟨o,o',D,R,Y⟩:=h.obj _ _ e;simp[World.shape?,D,R];cases Y with
 |ro H n K I=>simp[K.size]
 |same n Y=>
  cases Y with
  |cells H fz K=>simp[K.size]
  |_=>rfl
theorem OO(h:V r x x'){bs:List _}(e:x.bytes?=some bs):x'=x:=by
 cases h<;>first|rfl|(simp[Value.bytes?]at e)
theorem MX(p:ak)(h:VA r cs gW)(e:ah):∀(f x stop:Nat) {l:List (Nat×Nat×List UInt8)},bI p cs e f x stop=.ok l->bI p gW e f x stop=.ok l
 |0,_,_,_,h'=>by simp[bI]at h'
 |f+1,x,stop,l,h'=>by
  unfold bI at h'⊢;split at h'
  ·simp_all
  ·rename_i R;rw[if_neg R];simp only at h'⊢;split at h'
   ·cases h'
   ·rename_i hw;rw[if_neg hw];split at h'
    ·omega
    ·rename_i i s A;split at h'
     ·cases h'
     ·rename_i v I;obtain⟨v',K,H⟩:=h.get I;rw[K];simp only;split at h'
      ·cases h'
      ·cases h'
      ·rename_i bs n D;rw[OO H D,D];simp only;cases Y:bI p cs e f _ stop with
       |error y=>rw[Y]at h';cases h'
       |ok l'=>
        rw[Y]at h';rw[MX p h e f _ _ Y];exact h'
theorem PS(h:W r c v w)(P:ak){JV k k':Addr}(U:Ad r at_ JV)(Q:k'.off=k.off)(S:k'.spot=k.spot)(C:¬gK.ro at_.block)(u:ah)
  {e:ah}{fz:Nat×Nat}{first:Nat}{l:List (Nat×Nat×List UInt8)}(Y:v.seen P at_ u k false=.ok (cs,e,fz,first,JR,l)):
  ∃gW,w.seen P JV u k' false=.ok (gW,e,fz,first,JR,l)/\VA r cs gW/\v.heap[at_.block]?=some (.cells cs e fz)/\w.heap[JV.block]?=some (.cells gW e fz)/\∃d,dM P d u k.off=some JR:=by
 unfold World.seen at Y⊢;rw[Q,S,U.off,U.spot];simp only[bind,Except.bind,pure,bO,cy,throwThe,cz,bt,if_false]at Y⊢;cases B:(k.spot.isSome||at_.spot.isSome)with
 |true=>rw[B]at Y;simp at Y
 |false=>
  rw[B]at Y;simp only[bt,if_false]at Y⊢;cases R:dM P P.depth u k.off with
  |none=>rw[R]at Y;simp at Y
  |some K=>
   rw[R]at Y;simp only at Y⊢;cases F:K.bytes?.map (·.length)with
   |none=>rw[F]at Y;simp at Y
   |some size=>
    rw[F]at Y;cases J:byteOfCell P P.depth u k.off with
    |none=>rw[J]at Y;simp at Y
    |some V=>
     rw[J]at Y;obtain⟨o,o',N,T,A⟩:=h.obj _ _ U.block;rw[N]at Y;rw[T];cases A with
     |ro H n _ _=>exact absurd n C
     |same n A=>
      cases A with
      |cells H O D=>
       rename_i d d';by_cases L:P.cellsOf H=0
       ·simp[L]at Y
       ·simp only[L,if_false]at Y⊢;cases M:byteOfCell P P.depth H _ with
        |none=>rw[M]at Y;simp at Y
        |some b0=>
         rw[M]at Y;simp only at Y⊢;cases I:bI P d H (size+1) _ _ with
         |error y=>rw[I]at Y;simp at Y
         |ok l0=>
          rw[I]at Y;rw[MX P D H _ _ _ I];simp only[cX,Prod.mk.injEq]at Y⊢;obtain⟨rfl,rfl,rfl,rfl,rfl,rfl⟩:=Y;exact⟨_,⟨rfl,rfl,rfl,rfl,rfl,rfl⟩,D,N,rfl,_,R⟩
      |_=>simp at Y
def Ex(P:ak):=∀d u k x,dM P d u k=some x->(∃b,x=.bool b)\/∃k n,x=.int k n
theorem W.farLoad(h:W r c v w)(U:Ex P)(R:Ad r a a'):
  (∃x,v.farLoad P a false=.error x/\rI x)\/∃x l l',v.farLoad P a false=.ok (x,l)/\w.farLoad P a' false=.ok (x,l')/\V r x x/\∀y∈l',∃b,r b=some y.block:=by
 obtain⟨o,o',B,C,D⟩:=h.obj _ _ R.block;simp only[World.farLoad,aly,B,C];cases D with
 |ro N n O K=>exact .inl ⟨_,rfl,.inr ⟨_,rfl⟩⟩
 |same n D=>
  cases D with
  |view t n at_=>
   rename_i b b';simp only;cases Y:v.viewLoad P b t a _ with
   |error y=>exact .inl ⟨_,rfl,.inl ⟨_,rfl,rfl⟩⟩
   |ok q=>
    unfold alz at Y;simp only[bind,Except.bind]at Y;cases A:v.seen P b t a _ with
    |error y=>rw[A]at Y;simp at Y
    |ok q=>
     obtain⟨cs,e,fz,first,H,J⟩:=q;rw[A]at Y;simp only at Y;obtain⟨gW,L,Q,S,T,M,I⟩:=PS h P at_ R.off R.spot n t A;cases K:H.ofBytes _ with
     |none=>rw[K]at Y;simp at Y
     |some y=>
      rw[K]at Y;obtain⟨rfl,rfl⟩:=Y;refine .inr ⟨y,_,J.map fun x=>{block:=b'.block,off:=x.1},rfl,?_,?_,?_⟩
      ·unfold alz;simp only[bind,Except.bind,pure,bO,L,K]
      ·rcases U _ _ _ _ I with⟨b,rfl⟩|⟨k,n,rfl⟩<;>simp only[dI]at K<;>(split at K<;>first|(rw[<-Option.some.inj K];constructor)|cases K)
      ·intro y F;obtain⟨z,_,rfl⟩:=fj.1 F;exact⟨_,at_.block⟩
  |_=>exact .inl ⟨_,rfl,.inr ⟨_,rfl⟩⟩
theorem OP{X:Type}{f:Array _->X->Except String _}(D:∀cs gW x c1,VA r cs gW->f cs x=.ok c1->∃Y,f gW x=.ok Y/\VA r c1 Y):∀(l:List X) {cs gW c1:Array _},VA r cs gW->l.foldlM f cs=.ok c1->∃Y,l.foldlM f gW=.ok Y/\VA r c1 Y
 |[],cs,gW,c1,h,K=>by
  simp[List.foldlM_nil,pure,bO,cX]at K⊢;simp_all
 |x::l,cs,gW,c1,h,K=>by
  simp[List.foldlM_cons,bind,Except.bind]at K⊢;cases H:f cs x with
  |error y=>rw[H]at K;simp at K
  |ok c2=>
   obtain⟨R,e,I⟩:=D _ _ _ _ h H;rw[H]at K;rw[e];exact OP D l I K
theorem W.farStore(h:W r c v w)(P:ak)(M:Ad r a a')(f:V r x x'):
  (∃y,v.farStore P a x false=.error y/\rI y)\/∃b b' o o' l l',¬gK.ro b/\r b=some b'/\O r o o'/\v.farStore P a x false=.ok ({v with heap:=v.heap.setIfInBounds b o},l)/\w.farStore P a' x' false=.ok ({w with heap:=w.heap.setIfInBounds b' o'},l')/\∀y∈l',y.block=b':=by
 obtain⟨o,o',Z,E,R⟩:=h.obj _ _ M.block;simp only[alv,aly,Z,E];cases R with
 |ro k n hv I=>exact .inl ⟨_,rfl,.inr ⟨_,rfl⟩⟩
 |same n R=>
  cases R with
  |view t n at_=>
   rename_i b b';simp only;cases Y:v.viewStore P b t a x false with
   |error y=>exact .inl ⟨_,rfl,.inl ⟨_,rfl,rfl⟩⟩
   |ok q=>
    obtain⟨v1,l⟩:=q;unfold dL at Y;simp only[bind,Except.bind,pure,bO,cy,throwThe,cz]at Y;cases S:tight P P.depth t with
    |false=>rw[S]at Y;simp at Y
    |true=>
     rw[S]at Y;simp only[cQ,bt,if_false]at Y;cases Q:v.seen P b t a false with
     |error y=>rw[Q]at Y;simp at Y
     |ok q=>
      obtain⟨cs,e,fz,first,B,g⟩:=q;rw[Q]at Y;simp only at Y;obtain⟨gW,p,u,q3,q4,m,j⟩:=PS h P at_ M.off M.spot n t Q;cases I:x.bytes? with
      |none=>rw[I]at Y;simp at Y
      |some bytes=>
       have ex:=OO f I;subst ex;rw[I]at Y;simp only at Y;by_cases U:some bytes.length≠B.bytes?.map (·.length)
       ·rw[if_pos U]at Y;simp at Y
       ·rw[if_neg U]at Y;split at Y
        ·cases Y
        ·rename_i c1 N;have key:=OP (r:=r) ?_ _ u N
         ·obtain⟨F,A,D⟩:=key;obtain⟨rfl,rfl⟩:=Y;refine .inr ⟨b.block,b'.block,.cells c1 e fz,.cells F e fz,_,g.map fun x=>{block:=b'.block,off:=x.1},n,at_.block,.cells _ _ D,rfl,?_,fun y d=>?_⟩
          ·unfold dL;simp only[bind,Except.bind,pure,bO,cy,throwThe,cz,S,p,I,cQ,bt,if_false,if_neg U,A]
          ·obtain⟨z,_,rfl⟩:=fj.1 d;rfl
         ·rintro cs gW ⟨i,s,bs⟩ c2 D K;simp only at K⊢;split at K
          ·cases K
          ·rename_i R;rw[if_neg R];split at K
           ·cases K
           ·rename_i G;rw[if_neg G];cases J:cs[i]? with
            |none=>rw[J]at K;simp at K
            |some old=>
             obtain⟨C,L,T⟩:=D.get J;rw[J]at K;rw[L];simp only at K⊢;cases H:old.ofBytes ((bytes.drop (s-first)).take bs.length)with
             |none=>rw[H]at K;simp at K
             |some new=>
              have X:C=old:=by cases T<;>first|rfl|(simp[dI]at H;done)
              have U:V r new new:=by cases T<;>simp only[dI]at H<;>first|cases H|(split at H<;>first|(rw[<-Option.some.inj H];constructor)|cases H)
              rw[H]at K;rw[X,H];simp only[cX]at K⊢;subst K;exact⟨_,rfl,D.set _ U⟩
  |_=>exact .inl ⟨_,rfl,.inr ⟨_,rfl⟩⟩
theorem Out.setCell(h:W r c v w)(K:Ad r a a')(Y:¬gK.ro a.block)(F:V r x x'):Out r r c c v w (v.setCell a x) (w.setCell a' x'):=by
 obtain⟨o,o',A,U,H⟩:=h.obj _ _ K.block;simp[World.setCell];rw[modify_eq A,modify_eq U];refine Out.set h K.block Y ?_;cases H with
 |ro I n D J=>exact absurd n Y
 |same n H=>
  cases H with
  |cells I fz D=>
   simp only;rw[K.spot,K.off];split
   ·exact .cells _ _ D
   ·exact .cells _ _ (D.set _ F)
  |map R C B=>exact .map R C B
  |stringIter s p=>exact .stringIter s p
  |qx a s n=>exact .qx a s n
  |mapIter a s n e=>exact .mapIter a s n e
  |loop l=>exact .loop l
  |view t n a=>exact .view t n a
  |number l a=>exact .number l a
  |deferred d=>exact .deferred d
theorem Out.freeze(h:W r c v w){a a':Addr}(H:Ad r a a')(Y:¬gK.ro a.block)(n:Nat):Out r r c c v w (v.freeze a n) (w.freeze a' n):=by
 obtain⟨o,o',A,U,K⟩:=h.obj _ _ H.block;simp[alw];split
 ·exact .refl h
 rw[modify_eq A,modify_eq U];refine Out.set h H.block Y ?_;cases K with
 |ro I n D F=>exact absurd n Y
 |same n K=>
  cases K with
  |cells I fz D=>simp[H.off];exact .cells _ _ D
  |map R C B=>exact .map R C B
  |stringIter s p=>exact .stringIter s p
  |qx a s n=>exact .qx a s n
  |mapIter a s n e=>exact .mapIter a s n e
  |loop l=>exact .loop l
  |view t n a=>exact .view t n a
  |number l a=>exact .number l a
  |deferred d=>exact .deferred d
def mj(r:Rn)(w:ae)(u:Nat)(e:aO):=
 (∃a:Addr,e.loc=.cell a/\e.sync=false/\((∃b,r b=some a.block/\(e.write=true->¬gK.ro b))\/(w.heap.size<=a.block/\a.block<u)))\/
 (∃a:Nat,e.loc=.obj a/\e.sync=false/\((∃b,r b=some a/\(e.write=true->¬gK.ro b))\/(w.heap.size<=a/\a<u)))\/
 (∃m,e.loc=.mark m/\(m=.noRoom\/∃f,m=.extern f))\/e.loc=.output
theorem mj.mono{u':Nat}(D:u<=u'){e:aO}(h:mj r w u e):mj r w u' e:=by
 rcases h with⟨a,Y,K,H⟩|⟨a,Y,K,H⟩|h
 ·exact .inl ⟨a,Y,K,H.imp id fun x=>⟨x.1,bu x.2 D⟩⟩
 ·exact .inr (.inl ⟨a,Y,K,H.imp id fun x=>⟨x.1,bu x.2 D⟩⟩)
 ·exact .inr (.inr h)
theorem mj.back{r1:Rn}{c1:Nat}{w1:ae}(o:Out r r1 c c1 v w v1 w1)(R:w1.heap.size<=u){e:aO}(h:mj r1 w1 u e):mj r w u e:=by
 have key:∀(a:Nat) (wr:Bool),((∃b,r1 b=some a/\(wr=true->¬gK.ro b))\/(w1.heap.size<=a/\a<u))->(∃b,r b=some a/\(wr=true->¬gK.ro b))\/(w.heap.size<=a/\a<u):=by
  rintro a wr (⟨b,Y,hw⟩|Y)
  ·rcases o.fresh b a Y with x|x
   ·exact .inl ⟨b,x,hw⟩
   ·exact .inr ⟨x.1,bu (o.wl.lt Y).2 R⟩
  ·exact .inr ⟨aJ o.grow Y.1,Y.2⟩
 rcases h with⟨a,K,H,D⟩|⟨a,K,H,D⟩|h
 ·exact .inl ⟨a,K,H,key _ _ D⟩
 ·exact .inr (.inl ⟨a,K,H,key _ _ D⟩)
 ·exact .inr (.inr h)
inductive RR{α:Type}(A:Rn->α->α->Prop)(r:Rn)(c:Nat)(es:Array aO)(v w:ae):Result α->Result α×Array aO->Prop
 |ok {a a':α} {v1 w1:ae} {fs:Array aO} (r1:Rn) (c1:Nat):Out r r1 c c1 v w v1 w1->A r1 a a'->(∀e∈fs,e∈es\/mj r w w1.heap.size e)->RR A r c es v w (.ok a v1) (.ok a' w1,fs)
 |halt {h h':Halt} {v1 w1:ae} {fs:Array aO} (r1:Rn) (c1:Nat):Out r r1 c c1 v w v1 w1->Hl r1 h h'->(∀e∈fs,e∈es\/mj r w w1.heap.size e)->RR A r c es v w (.halt h v1) (.halt h' w1,fs)
 |lost {h:Halt} {v1:ae} {x:Result α×Array aO}:rI h->RR A r c es v w (.halt h v1) x
 |lM {x:Result α} {y:Result α×Array aO}:v.drawn+c<x.world.drawn->w.drawn+c<y.1.world.drawn->RR A r c es v w x y
theorem RR.after{α:Type}{A:Rn->α->α->Prop}{r1:Rn}{c1:Nat}{es Y:Array _}{w1:ae}{x:Result α}{x':Result α×Array _}(o:Out r r1 c c1 v w v1 w1)(K:∀e∈Y,e∈es\/mj r w 0 e)(h:RR A r1 c1 Y v1 w1 x x'):RR A r c es v w x x':=by
 have ev:∀{fs:Array _} {u:Nat},w1.heap.size<=u->(∀e∈fs,e∈Y\/mj r1 w1 u e)->∀e∈fs,e∈es\/mj r w u e:=fun D k e H=>(k e H).elim (fun x=>(K e x).imp id fun y=>y.mono (bk _)) fun x=>.inr (x.back o D);cases h with
 |ok r2 c2 o2 a f=>exact .ok r2 c2 (o.trans o2) a (ev o2.grow f)
 |halt r2 c2 o2 a f=>exact .halt r2 c2 (o.trans o2) a (ev o2.grow f)
 |lost h=>exact .lost h
 |lM h k=>exact .lM (by have:=o.drew;omega) (by have:=o.zf;omega)
theorem RR.stuck{α:Type}{A:Rn->α->α->Prop}{es:Array _}(y:String){x:Result α×Array _}:RR A r c es v w (.halt (.stuck y) v) x:=.lost (.inr ⟨_,rfl⟩)
theorem RR.here{α:Type}{A:Rn->α->α->Prop}{es Y:Array _}{x:Result α}{x':Result α×Array _}(h:W r c v w)(K:∀e∈Y,e∈es\/mj r w 0 e)(k:RR A r c Y v w x x'):RR A r c es v w x x':=k.after (.refl h) K
omit [gK]in
theorem mem_push{es:Array _}{e x:aO}(h:x∈es.push e):x∈es\/x=e:=Array.mem_push.1 h
omit [gK]in
theorem AN{es:Array _}{Q:aO->Prop}:∀e∈es,e∈es\/Q e:=fun _ h=>.inl h
theorem SR.run{α:Type}{A:Rn->α->α->Prop}(g:Ex P){s s':Sem α}(h:SR P A r s s'):∀{c:Nat} {v w:ae} (es:Array aO),W r c v w->RR A r c es v w (s.run P v) (s'.runT P w es):=by
 induction h with
 |pure a=>exact fun es hw=>.ok _ _ (.refl hw) a AN
 |@load r a a' k k' D _ Y=>
  intro c v w es hw;simp only[Sem.run,a_];cases L:v.cell? a with
  |some x=>
   obtain⟨x',G,J⟩:=hw.cell D L;rw[G];refine(Y r x x' (.refl _) J _ hw).here hw fun e K=>?_;rcases mem_push K with K|rfl
   ·exact .inl K
   ·exact .inr (.inl ⟨a',rfl,rfl,.inl ⟨_,D.block,fun x=>by cases x⟩⟩)
  |none=>
   rw[hw.noCell D L];have X:(Mode.plain==Mode.atomic)=false:=rfl;simp only[X];rcases hw.farLoad g D with⟨y,e,M⟩|⟨x,l,l',e,e',J,j⟩
   ·rw[e];exact .lost M
   ·rw[e,e'];simp only;refine(Y r x x (.refl _) J _ hw).here hw fun z R=>?_;rcases dX.1 R with R|R
    ·exact .inl R
    ·simp only[dY,fq]at R;obtain⟨y,N,rfl⟩:=R;obtain⟨b,C⟩:=j y N;exact .inr (.inl ⟨y,rfl,rfl,.inl ⟨b,C,fun x=>by cases x⟩⟩)
 |@store r a a' x x' k k' D Q _ Y=>
  intro c v w es hw;have main:(∀c,x≠.agg c)->(∀c,x≠.tuple c)->(∀c,x'≠.agg c)->(∀c,x'≠.tuple c)->RR A r c es v w ((Sem.store .plain a x k).run P v) ((Sem.store .plain a' x' k').runT P w es):=by
   intro n1 n2 n3 n4;have T:=Sem.run.eq_5 P v .plain a x k n1 n2;have V:=Sem.runT.eq_5 P w es .plain a' x' k' n3 n4;rw[T,V];cases L:v.cell? a with
   |some y=>
    obtain⟨I,f,_⟩:=hw.cell D L;rw[f];simp only;by_cases H:gK.ro a.block
    ·rw[hw.acf D H L];exact .lost (.inl ⟨_,rfl,rfl⟩)
    ·rw[hw.frozen D H];split
     ·exact .lost (.inl ⟨_,rfl,rfl⟩)
     ·refine(Y r (.refl _) _ (Out.setCell hw D H Q).wl).after (Out.setCell hw D H Q) fun e K=>?_;rcases mem_push K with K|rfl
      ·exact .inl K
      ·exact .inr (.inl ⟨a',rfl,rfl,.inl ⟨_,D.block,fun _=>H⟩⟩)
   |none=>
    rw[hw.noCell D L];have X:(Mode.plain==Mode.atomic)=false:=rfl;simp only[X];rcases hw.farStore P D Q with⟨y,e,M⟩|⟨b,b',o,o',l,l',H,C,U,e,e',j⟩
    ·rw[e];exact .lost M
    ·rw[e,e'];simp only;refine(Y r (.refl _) _ (Out.set hw C H U).wl).after (Out.set hw C H U) fun z R=>?_;rcases dX.1 R with R|R
     ·exact .inl R
     ·simp only[dY,fq]at R;obtain⟨y,N,rfl⟩:=R;exact .inr (.inl ⟨y,rfl,rfl,.inl ⟨b,by rw[j y N];exact C,fun _=>H⟩⟩)
  cases Q with
  |agg _ _=>exact .stuck _
  |tuple _ _=>exact .stuck _
  |blank _=>exact .stuck _
  |_=>exact main (fun _ h=>by cases h) (fun _ h=>by cases h) (fun _ h=>by cases h) (fun _ h=>by cases h)
 |@new r o o' k k' U _ Y=>
  intro c v w es hw;simp only[Sem.run,a_];have q:=Out.new hw U;exact(Y _ _ _ q.le (by show(if v.heap.size=v.heap.size then some w.heap.size else r v.heap.size)=_;rw[if_pos rfl]) es q.wl).after q AN
 |@shape r b b' k k' e _ Y=>
  intro c v w es hw;simp only[Sem.run,a_,hw.shape e];exact Y r _ (.refl _) es hw
 |@freeze r a a' n k k' z D _ Y=>
  intro c v w es hw;simp only[Sem.run,a_];exact(Y r (.refl _) es (Out.freeze hw D (z _) n).wl).after (Out.freeze hw D (z _) n) AN
 |@frozen r a a' k k' z D _ Y=>
  intro c v w es hw;simp only[Sem.run,a_,hw.frozen D (z _)];exact Y r _ (.refl _) es hw
 |@getObj r b b' k k' e _ Y=>
  intro c v w es hw;obtain⟨o,o',Z,E,B⟩:=hw.obj _ _ e;simp only[Sem.run,a_,Z,E];cases B with
  |ro S n J C=>exact .stuck _
  |same n B=>
   have go:∀{p p':Obj},O r p p'->p'.isChan=false->RR A r c es v w ((k p).run P v) ((k' p').runT P w (es.push ⟨.obj b',false,p'.isChan⟩)):=by
    intro p p' hp F;refine(Y r _ _ (.refl _) hp _ hw).here hw fun x K=>?_;rcases mem_push K with K|rfl
    ·exact .inl K
    ·exact .inr (.inr (.inl ⟨b',rfl,F,.inl ⟨_,e,fun x=>by cases x⟩⟩))
   cases B with
   |cells S fz J=>exact .stuck _
   |map u hs hi=>exact go (.map u hs hi) rfl
   |stringIter s p=>exact go (.stringIter s p) rfl
   |qx a s n=>exact go (.qx a s n) rfl
   |mapIter a s n e=>exact go (.mapIter a s n e) rfl
   |loop l=>exact go (.loop l) rfl
   |view t n a=>exact go (.view t n a) rfl
   |number l a=>exact go (.number l a) rfl
   |deferred d=>exact go (.deferred d) rfl
 |@setObj r b b' o o' k k' e U _ Y=>
  intro c v w es hw;obtain⟨p,p',Z,E,B⟩:=hw.obj _ _ e;simp only[Sem.run,a_,Z,E];have F:o'.isChan=false:=by cases U<;>rfl
  cases B with
  |ro S n J C=>exact .stuck _
  |same n B=>
   have go:RR A r c es v w (k.run P {v with heap:=v.heap.setIfInBounds b o}) (k'.runT P {w with heap:=w.heap.setIfInBounds b' o'} (es.push ⟨.obj b',true,o'.isChan⟩)):=by
    refine(Y r (.refl _) _ (Out.set hw e n U).wl).after (Out.set hw e n U) fun x K=>?_;rcases mem_push K with K|rfl
    ·exact .inl K
    ·exact .inr (.inr (.inl ⟨b',rfl,F,.inl ⟨_,e,fun _=>n⟩⟩))
   cases B with
   |cells S fz J=>exact .stuck _
   |_=>exact go
 |@choose r q k k' _ Y=>
  intro c v w es hw;simp only[Sem.run,a_];split
  ·exact Y r _ (.refl _) es hw
  ·cases c with
   |zero=>
    refine .lM ?_ ?_
    ·exact bu (alc _) (CJ (P:=P) (k (q.cut (v.tape v.drawn q))) {v with drawn:=v.drawn+1})
    ·rw[Sem.runT_eq];exact bu (alc _) (CJ (P:=P) (k' (q.cut (w.tape w.drawn q))) {w with drawn:=w.drawn+1})
   |succ c=>
    have:=hw.tape 0 q (by omega);simp only[Nat.add_zero]at this;rw[<-this];exact(Y r _ (.refl _) es (Out.draw hw).wl).after (Out.draw hw) AN
 |@env r k k' _ Y=>
  intro c v w es hw;have T:(Sem.sys .env k).run P v=(k (.strings v.os.env)).run P v:=rfl;have V:(Sem.sys .env k').runT P w es=(k' (.strings w.os.env)).runT P w (es.push ⟨.output,true,false⟩):=rfl;rw[T,V,hw.env];refine(Y r _ (.refl _) _ hw).here hw fun e K=>?_;rcases mem_push K with K|rfl
  ·exact .inl K
  ·exact .inr (.inr (.inr (.inr rfl)))
 |program _ Y=>exact fun es hw=>Y _ (.refl _) es hw
 |mark m N _ Y=>
  intro c v w es hw;simp only[Sem.run,a_];refine(Y _ (.refl _) _ hw).here hw fun e K=>?_;rcases mem_push K with K|rfl
  ·exact .inl K
  ·exact .inr (.inr (.inr (.inl ⟨m,rfl,N⟩)))
 |halt i=>exact fun es hw=>.halt _ _ (.refl hw) i AN
 |lost M=>
  intro c v w es hw;obtain⟨x,v1,e,h⟩:=M v;rw[e];exact .lost h
end runs
end jo
abbrev iB[gK]{α:Type}:Rn->α->α->Prop:=fun _ a b=>a=b
def qH[gK](P:ak):=∀t i z,P.info? t=some i->i.zero=some z->∀r,V r z z
section
variable[gK]{P:ak}{r:Rn}{α:Type}{A:Rn->α->α->Prop}
theorem gO(Y:String){s:Sem α}:SR P A r (stuck Y) s:=.lost fun _=>⟨_,_,rfl,.inr ⟨_,rfl⟩⟩
theorem iC(u:Unsupported)(Y:Dy u=false:=by rfl){s:Sem α}:SR P A r (cM u) s:=.lost fun _=>⟨_,_,rfl,.inl ⟨_,rfl,Y⟩⟩
theorem wV{v:af}(h:V r v v'):SR P A r (goPanic v) (goPanic v'):=.halt (.panic h)
theorem mX:SR P (fun _ a b=>a=P/\b=P) r program program:=.program fun _ _=>.pure ⟨rfl,rfl⟩
theorem rh(q:Question):SR P iB r (choose q) (choose q):=.choose q fun _ _ _=>.pure rfl
theorem Dp(h:Ad r a a'):SR P V r (load a) (load a'):=.load h fun _ _ _ _ e=>.pure e
theorem acg(h:Ad r a a'){v:af}(Y:V r v v'):SR P iB r (store a v) (store a' v'):=.store h Y fun _ _=>.pure rfl
theorem xk(h:O r o o'):SR P (fun r b b'=>r b=some b') r (newObj o) (newObj o'):=.new h fun _ _ _ _ e=>.pure e
theorem pQ(h:r b=some b'):SR P iB r (shape b) (shape b'):=.shape h fun _ _ _=>.pure rfl
theorem CK(z:∀b,¬gK.ro b)(h:Ad r a a'):SR P iB r (frozen a) (frozen a'):=.frozen z h fun _ _ _=>.pure rfl
theorem OQ(z:∀b,¬gK.ro b)(h:Ad r a a')(n:Nat):SR P iB r (freeze a n) (freeze a' n):=.freeze n z h fun _ _=>.pure rfl
theorem oF(h:r b=some b'):SR P O r (getObj b) (getObj b'):=.getObj h fun _ _ _ _ e=>.pure e
theorem uF(h:r b=some b')(Y:O r o o'):SR P iB r (setObj b o) (setObj b' o'):=.setObj h Y fun _ _=>.pure rfl
theorem GX(n:Nat):SR P iB r (bB n) (bB n):=by
 unfold bB;split
 ·exact .mark _ (.inl rfl) fun _ _=>.pure rfl
 ·exact .pure rfl
theorem q_(t:ah):SR P (fun _ i j=>i=j/\P.info? t=some i) r (aP t) (aP t):=by
 refine SR.bind mX ?_;rintro s p q _ ⟨Y,K⟩;rw[Y,K];cases h:P.info? t with
 |some i=>exact .pure ⟨rfl,rfl⟩
 |none=>exact gO _
theorem kL(t:ah):SR P iB r (underlying t) (underlying t):=by
 refine SR.bind mX ?_;rintro s p q _ ⟨Y,K⟩;rw[Y,K];cases h:P.underlying t with
 |some i=>exact .pure rfl
 |none=>exact gO _
theorem mY(t:ah):SR P iB r (sizeOf t) (sizeOf t):=by
 refine SR.bind (q_ t) ?_;rintro s i _ _ ⟨rfl,_⟩;exact .pure rfl
theorem xe(Z:qH P)(t:ah):SR P V r (zeroValue t) (zeroValue t):=by
 refine SR.bind (q_ t) ?_;rintro s i _ _ ⟨rfl,h⟩;cases Y:i.zero with
 |some z=>exact .pure (Z t i z h Y s)
 |none=>exact iC _
theorem PU(t:ah):SR P iB r (isAgg t) (isAgg t):=by
 refine SR.bind (kL t) ?_;rintro s d _ _ rfl;split<;>exact .pure rfl
theorem He(t:ah):SR P iB r (elemOf t) (elemOf t):=by
 refine SR.bind (kL t) ?_;rintro s d _ _ rfl;split
 ·exact .pure rfl
 ·exact gO _
theorem Ad.add(h:Ad r a a')(n:Nat):Ad r (a.add n) (a'.add n):=by
 unfold Addr.add;split
 ·exact h
 ·exact⟨h.block,by simp[h.off],rfl⟩
theorem VA.push{c c':Array _}(h:VA r c c')(H:V r x x'):VA r (c.push x) (c'.push x'):=by
 refine⟨by simp[h.size],fun i y I e e'=>?_⟩;have K:=h.size;rw[bK]at e e';rw[<-K]at e';split at e
 ·simp_all
 ·rename_i Y;rw[if_neg Y]at e';exact h.at_ i y I e e'
theorem VA.nil:VA r #[] #[]:=⟨rfl,fun i x x' e=>by simp⟩
theorem VA.extract{c c':Array _}(h:VA r c c')(i j:Nat):VA r (c.extract i j) (c'.extract i j):=by
 have Y:=h.size;refine⟨by simp[Y],fun k x x' e e'=>?_⟩;simp only[Array.getElem?_extract,Y]at e e';split at e
 ·rename_i hk;rw[if_pos hk]at e';exact h.at_ _ x x' e e'
 ·cases e
theorem MH:∀n i {r:Rn} {a a':Addr} {c c':Array _},Ad r a a'->VA r c c'->SR P VA r (alF a i n c) (alF a' i n c')
 |0,i,r,a,a',c,c',h,Y=>.pure Y
 |n+1,i,r,a,a',c,c',h,Y=>by
  refine SR.bind (Dp (h.add i)) ?_;intro s v v' l K;exact MH n _ (h.mono l) ((Y.mono l).push K)
theorem Gx(n:Nat)(h:Ad r a a'):SR P VA r (loadCells a n) (loadCells a' n):=MH n 0 h .nil
inductive VL(r:Rn):List af->List af->Prop
 |nil:VL r [] []
 |cons {x y:af} {xs ys:List af}:V r x y->VL r xs ys->VL r (x::xs) (y::ys)
theorem VL.mono{s:Rn}(h:Le r s){xs ys:List _}(k:VL r xs ys):VL s xs ys:=by
 induction k with
 |nil=>exact .nil
 |cons x _ Y=>exact .cons (x.mono h) Y
theorem VA.toList{c c':Array _}(h:VA r c c'):VL r c.toList c'.toList:=by
 obtain⟨c⟩:=c;obtain⟨c'⟩:=c';obtain⟨Y,K⟩:=h;induction c generalizing c' with
 |nil=>cases c' with
  |nil=>exact .nil
  |cons y ys=>simp at Y
 |cons x xs H=>cases c' with
  |nil=>simp at Y
  |cons y ys=>exact .cons (K 0 x y rfl rfl) (H ys (by simpa using Y) fun i a b e e'=>K (i+1) a b (by simpa using e) (by simpa using e'))
theorem VL.toArray{xs ys:List _}(h:VL r xs ys):VA r xs.toArray ys.toArray:=by
 induction h with
 |nil=>exact .nil
 |cons x _ H=>
  obtain⟨K,Y⟩:=H;simp at K Y;refine⟨by simp_all,fun i a b e e'=>?_⟩;simp at e e';cases i with
  |zero=>simp at e e';simp_all
  |succ i=>exact Y i a b e e'
theorem yi:∀{xs ys:List _} i {r:Rn} {a a':Addr},Ad r a a'->VL r xs ys->SR P iB r (cL a xs i) (cL a' ys i)
 |_,_,i,r,a,a',h,.nil=>.pure rfl
 |_,_,i,r,a,a',h,.cons x xs=>by
  refine SR.bind (acg (h.add i) x) ?_;intro s _ _ l _;exact yi _ (h.mono l) (VL.mono l xs)
theorem V.cells{x y:af}(h:V r x y):VA r x.cells y.cells:=by
 have one:∀{x y:af},V r x y->VA r _ _:=fun h=>(VL.toArray (.cons h .nil));cases h with
 |agg K Y=>exact⟨K,Y⟩
 |blank h=>
  have e:y.cells=#[y]:=by cases y<;>first|rfl|simp[Hid]at h
  rw[e];exact one (.blank h)
 |func a b c d e=>exact one (.func a b c d e)
 |tuple K Y=>exact one (.tuple K Y)
 |iface t h=>exact one (.iface t h)
 |ptr a=>exact one (.ptr a)
 |slice l c a=>exact one (.slice l c a)
 |map e=>exact one (.map e)
 |chan e=>exact one (.chan e)
 |bool b=>exact one (.bool b)
 |int k n=>exact one (.int k n)
 |string s=>exact one (.string s)
 |nilPtr=>exact one .nilPtr
 |kW l c=>exact one (.kW l c)
 |oJ=>exact one .oJ
 |pW=>exact one .pW
 |nilFunc=>exact one .nilFunc
 |nilIface=>exact one .nilIface
theorem Ob(t:ah)(h:Ad r a a'):SR P V r (loadVar t a) (loadVar t a'):=by
 refine SR.bind (PU t) ?_;rintro s b _ l rfl;split
 ·refine SR.bind (mY t) ?_;rintro u n _ K rfl;refine SR.bind (Gx n ((h.mono l).mono K)) ?_;intro q c c' _ Y;exact .pure (.agg Y.size Y.at_)
 ·exact Dp (h.mono l)
theorem XM(t:ah)(h:Ad r a a')(Y:V r x x'):SR P iB r (storeVar t a x) (storeVar t a' x'):=by
 refine SR.bind (mY t) ?_;rintro s n _ l rfl;rw[Y.cells.size];split
 ·refine SR.bind (gO (A:=iB) _) ?_;rintro u _ _ K rfl;exact yi 0 ((h.mono l).mono K) ((Y.cells.toList.mono l).mono K)
 ·exact yi 0 (h.mono l) (Y.cells.toList.mono l)
theorem wh(t:ah){c c':Array _}(h:VA r c c'):SR P Ad r (newRow t c) (newRow t c'):=by
 refine SR.bind (xk (.cells t _ h)) ?_;intro s b b' l e;exact .pure ⟨e,rfl,rfl⟩
theorem Hf(t:ah)(h:V r x x'):SR P Ad r (newVar t x) (newVar t x'):=wh t h.cells
theorem Dq(t:ah){c c':Array _}(h:VA r c c')(o:Nat):SR P V r (part t c o) (part t c' o):=by
 refine SR.bind (PU t) ?_;rintro s b _ l rfl;split
 ·refine SR.bind (mY t) ?_;rintro u n _ H rfl;have q:=((h.mono l).mono H).extract o (o+n);exact .pure (.agg q.size q.at_)
 ·cases Y:c[o]? with
  |some x=>
   obtain⟨x',e,K⟩:=h.get Y;rw[e];exact .pure (K.mono l)
  |none=>exact gO _
end
section
variable[gK]{P:ak}{r:Rn}{α:Type}{A:Rn->α->α->Prop}
theorem VA.one(h:V r x y):VA r #[x] #[y]:=(VL.toArray (.cons h .nil))
theorem VA.two(h:V r x y)(h':V r x' I):VA r #[x,x'] #[y,I]:=(VL.toArray (.cons h (.cons h' .nil)))
theorem VA.three{x2 y2:af}(h:V r x y)(h':V r x' I)(Y:V r x2 y2):VA r #[x,x',x2] #[y,I,y2]:=(VL.toArray (.cons h (.cons h' (.cons Y .nil))))
theorem V.D7{c c':Array _}(h:VA r c c'):V r (.agg c) (.agg c'):=.agg h.size h.at_
theorem V.r8{c c':Array _}(h:VA r c c'):V r (.tuple c) (.tuple c'):=.tuple h.size h.at_
def PV:dA->Prop
 |.bounds .. |.error _|.plain _|.nilDeref=>True
 |_=>False
theorem mH{e:dA}(h:PV e):SR P A r (bH e) (bH e):=by
 refine SR.bind mX ?_;rintro s p q _ ⟨Y,K⟩;rw[Y,K];cases e with
 |bounds x y sg c=>exact wV (.iface _ (.D7 (VL.toArray (.cons (.int _ _) (.cons (.int _ _) (.cons (.bool _) (.cons (.int _ _) .nil)))))))
 |error m=>exact wV (.iface _ (.string _))
 |plain m=>exact wV (.iface _ (.string _))
 |nilDeref=>exact wV (.iface _ (.string _))
 |typeAssertion=>exact h.elim
 |panicNil=>exact h.elim
 |unhashable=>exact h.elim
theorem Ap(k:aI)(x y:Int)(c:cR):SR P A r (bG k x y c) (bG k x y c):=by
 unfold bG;split
 ·refine SR.bind (A:=iB) (SR.bind (rh _) fun s a b _ e=>e▸ .pure rfl) ?_;rintro s a _ _ rfl;exact mH trivial
 ·refine SR.bind (A:=iB) (.pure rfl) ?_;rintro s a _ _ rfl;exact mH trivial
theorem CC(h:V r x x'):SR P iB r (asIntOf x) (asIntOf x'):=by
 cases h with
 |int k n=>exact .pure rfl
 |ptr a=>exact iC _
 |_=>exact gO _
theorem yH(h:V r x x'):SR P iB r (asInt x) (asInt x'):=by
 exact SR.bind (CC h) fun s a b _ e=>e▸ .pure rfl
theorem OR(h:V r x x'):SR P iB r (asBool x) (asBool x'):=by
 cases h with
 |bool b=>exact .pure rfl
 |_=>exact gO _
theorem ach(h:V r x x'):SR P VA r (asAgg x) (asAgg x'):=by
 cases h with
 |agg s i=>exact .pure ⟨s,i⟩
 |_=>exact gO _
theorem OS(h:V r x x'):SR P Ad r (asAddr x) (asAddr x'):=by
 cases h with
 |ptr a=>exact .pure a
 |nilPtr=>exact mH (e:=.nilDeref) trivial
 |_=>exact gO _
theorem Ax(h:V r x x'):SR P Ad r (eZ x) (eZ x'):=by
 cases h with
 |ptr a=>exact .pure a
 |_=>exact gO _
theorem agB(t:ah)(h:V r x x'):SR P V r (Instr.box t x) (Instr.box t x'):=
 SR.bind (Hf t h) fun s a b _ e=>.pure (.ptr e)
theorem aci(Z:qH P)(t:ah):SR P V r (Instr.alloc t true (.tuple #[])) (Instr.alloc t true (.tuple #[])):=by
 refine SR.bind (xe Z t) fun s a b _ e=>?_;exact SR.bind (Hf t e) fun s a b _ e=>.pure (.ptr e)
theorem aat(t:ah)(h:V r x x'):SR P V r (eP t x) (eP t x'):=
 SR.bind (Ax h) fun s a b _ e=>Ob t e
theorem YW(t:ah)(h:V r x x')(Y:V r y I):SR P iB r (eY t x y) (eY t x' I):=
 SR.bind (Ax h) fun s a b l e=>XM t e (Y.mono l)
theorem YX(h:V r x x')(i:Nat):SR P V r (c7 x i) (c7 x' i):=by
 cases h with
 |tuple s K=>
  rename_i c c';have q:VA r c c':=⟨s,K⟩;simp[c7];cases Y:c[i]? with
  |some y=>obtain⟨I,e,H⟩:=q.get Y;rw[e];exact .pure H
  |none=>exact gO _
 |_=>exact gO _
theorem Wn(t:ah)(h:V r x x'):SR P V r (eR t x) (eR t x'):=by
 refine SR.bind (kL t) ?_;rintro s d _ l rfl;split
 ·exact gO _
 ·exact .pure (.iface t (h.mono l))
theorem acj(t:ah)(h:V r x x')(i:Nat):SR P V r (Instr.field t x i) (Instr.field t x' i):=by
 refine SR.bind (kL t) ?_;rintro s d _ l rfl;split
 ·split
  ·exact SR.bind (ach (h.mono l)) fun _ _ _ _ e=>Dq _ e _
  ·exact gO _
 ·exact gO _
theorem ack(t:ah)(h:V r x x')(R:V r y I):SR P V r (Instr.index t x y) (Instr.index t x' I):=by
 refine SR.bind (CC R) ?_;rintro s ⟨k,i⟩ _ l rfl;refine SR.bind (kL t) ?_;rintro u d _ A rfl;have K:=(h.mono l).mono A;cases d with
 |array len Y=>
  cases K with
  |agg D H=>
   simp only;split
   ·exact SR.bind (mY _) fun w a b U e=>e▸Dq _ (VA.mono U ⟨D,H⟩) _
   ·exact Ap ..
  |_=>exact gO _
 |string=>
  cases K with
  |string b=>
   simp only;split
   ·exact .pure (.int _ _)
   ·exact Ap ..
  |_=>exact gO _
 |_=>exact gO _
def VW(r:Rn)(x y:Option (Addr×ah)):=(x=none/\y=none)\/∃a a' t,x=some (a,t)/\y=some (a',t)/\Ad r a a'
theorem CL(h:r b=some b'):SR P VW r (viewAt b) (viewAt b'):=by
 refine SR.bind (pQ h) ?_;rintro s x _ l rfl;split
 ·exact .pure (.inl ⟨rfl,rfl⟩)
 ·refine SR.bind (oF (l _ _ h)) ?_;intro u o o' _ Y;cases Y with
  |view t n a=>exact .pure (.inr ⟨_,_,_,rfl,rfl,a⟩)
  |_=>exact .pure (.inl ⟨rfl,rfl⟩)
theorem Hg(h:Ad r a a'):SR P iB r (noView a) (noView a'):=by
 refine SR.bind (CL h.block) ?_;rintro s x y l (⟨rfl,rfl⟩|⟨_,_,_,rfl,rfl,_⟩)
 ·exact .pure rfl
 ·exact iC _
theorem wi(h:Ad r a a'):SR P iB r (byteOf a) (byteOf a'):=by
 unfold byteOf;rw[h.spot,h.off];dsimp only;split
 ·exact .pure rfl
 ·refine SR.bind mX ?_;rintro s p q l ⟨Y,K⟩;rw[Y,K];refine SR.bind (Hg (h.mono l)) ?_;rintro u _ _ H _;refine SR.bind (pQ ((h.mono l).mono H).block) ?_;rintro w x _ D rfl;split
  ·split
   ·exact .pure rfl
   ·split
    ·exact .pure rfl
    ·exact gO _
  ·exact gO _
theorem aau(h:Ad r a a')(c b:Nat):SR P Ad r (partAt a c b) (partAt a' c b):=by
 refine SR.bind (wi h) ?_;rintro s x _ l rfl;have Y:Ad s {block:=a.block,off:=a.off+c} {block:=a'.block,off:=a'.off+c}:=⟨l _ _ h.block,by simp[h.off],rfl⟩;refine SR.bind (wi Y) ?_;rintro u y _ K rfl;split
 ·exact .pure (Y.mono K)
 ·exact .pure ⟨K _ _ Y.block,Y.off,rfl⟩
theorem WY(h:Ad r a a')(f:Field):SR P Ad r (fieldPlace a f) (fieldPlace a' f):=by
 refine SR.bind (mY _) ?_;rintro s n _ l rfl;split
 ·exact aau (h.mono l) _ _
 ·exact .pure ((h.mono l).add _)
theorem YY(t:ah)(h:V r x x')(i:Nat):SR P V r (eM t x i) (eM t x' i):=by
 refine SR.bind (kL t) ?_;rintro s d _ l rfl;split
 ·split
  ·refine SR.bind (Ax (h.mono l)) fun u a b Y e=>?_;exact SR.bind (WY e _) fun w a b _ e=>.pure (.ptr e)
  ·exact gO _
 ·exact gO _
theorem Nf(t Y:ah)(k:aI)(i:Int)(len:Nat)(h:Ad r a a')(f:bA->Bool):
  SR P V r (do let d<-underlying t;if 0<=i/\i<len then(do let n<-sizeOf Y;pure (bF (some (a.add (i.toNat *n)))))else if(decide (len<=1)&&f d)=true then cM (.noEntry "op/indexAddr.an index out of range at an array of length 0 or 1 (ledger 616)")else bG k i len .index)
   (do let d<-underlying t;if 0<=i/\i<len then(do let n<-sizeOf Y;pure (bF (some (a'.add (i.toNat *n)))))else if(decide (len<=1)&&f d)=true then cM (.noEntry "op/indexAddr.an index out of range at an array of length 0 or 1 (ledger 616)")else bG k i len .index):=by
 refine SR.bind (kL t) ?_;rintro s d _ l rfl;split
 ·refine SR.bind (mY _) ?_;rintro u n _ K rfl;exact .pure (.ptr (((h.mono l).mono K).add _))
 ·split
  ·exact iC _
  ·exact Ap ..
theorem YZ(t:ah)(h:V r x x')(H:V r y I):SR P V r (eO t x y) (eO t x' I):=by
 refine SR.bind (CC H) ?_;rintro s ⟨k,i⟩ _ l rfl;refine SR.bind (kL t) ?_;rintro u d _ D rfl;have K:=(h.mono l).mono D;cases d with
 |array len Y=>
  refine SR.bind (Ax K) fun w a b R e=>?_;exact Nf t _ k i len e _
 |slice Y=>
  cases K with
  |slice len cap e=>exact Nf t _ k i len e _
  |kW len cap=>
   show SR P V u (underlying t >>= fun _=>bG k i 0 _) _
   exact SR.bind (kL t) fun _ _ _ _ _=>Ap ..
  |_=>exact SR.lost fun _=>⟨_,_,rfl,.inr ⟨_,rfl⟩⟩
 |_=>exact SR.lost fun _=>⟨_,_,rfl,.inr ⟨_,rfl⟩⟩
theorem WZ(h:V r x x')(y:Nat)(c:cR):SR P iB r (cu x y c) (cu x' y c):=by
 refine SR.bind (CC h) ?_;rintro s ⟨k,i⟩ _ l rfl;dsimp only;split
 ·exact .pure rfl
 ·exact Ap ..
inductive VO(r:Rn):Option af->Option af->Prop
 |none:VO r none none
 |some {x y:af}:V r x y->VO r (some x) (some y)
theorem VO.mono{s:Rn}(h:Le r s){x y:Option _}(k:VO r x y):VO s x y:=by
 cases k with
 |none=>exact .none
 |some e=>exact .some (e.mono h)
theorem VO.isSome{x y:Option _}(k:VO r x y):y.isSome=x.isSome:=by cases k<;>rfl
theorem Aq(b:Bool)(len cap:Nat){J D F H M R:Option _}(N:VO r J D)(C:VO r F H)(U:VO r M R):
  SR P iB r (eX b len cap J F M) (eX b len cap D H R):=by
 have step:∀{I:Type} {B:Rn->I->I->Prop} {s:Rn} {x x':af} (l:Le r s) (h:V r x x') (y:Nat) (c:cR) {f f':Nat->Sem I},(∀t n,Le r t->SR P B t (f n) (f' n))->
   SR P B s (cu x y c >>= f) (cu x' y c >>= f'):=
  by
  intro I B s x x' l h y c f f' k;refine SR.bind (WZ (h.mono l) y c) fun t a b lt e=>?_;obtain rfl:a=b:=e;exact k t a (l.trans lt)
 cases N with
 |none=>cases C with
  |none=>cases U with
   |none=>exact .pure rfl
   |some Y=>exact step (.refl _) Y _ _ fun t n l=>SR.lost fun _=>⟨_,_,rfl,.inr ⟨_,rfl⟩⟩
  |some K=>cases U with
   |none=>exact step (.refl _) K _ _ fun t n l=>.pure rfl
   |some Y=>exact step (.refl _) Y _ _ fun t n l=>step l K _ _ fun t n l=>.pure rfl
 |some A=>cases C with
  |none=>cases U with
   |none=>exact step (.refl _) A _ _ fun t n l=>.pure rfl
   |some Y=>exact step (.refl _) Y _ _ fun t n l=>SR.lost fun _=>⟨_,_,rfl,.inr ⟨_,rfl⟩⟩
  |some K=>cases U with
   |none=>exact step (.refl _) K _ _ fun t n l=>step l A _ _ fun t n l=>.pure rfl
   |some Y=>exact step (.refl _) Y _ _ fun t n l=>step l K _ _ fun t n l=>step l A _ _ fun t n l=>.pure rfl
theorem acm(t:ah)(h:V r x x'){lo Uk hi EW mx Ul:Option af}(D:VO r lo Uk)(R:VO r hi EW)(U:VO r mx Ul):
  SR P V r (Instr.slice t x lo hi mx) (Instr.slice t x' Uk EW Ul):=by
 refine SR.bind (kL t) ?_;rintro s d _ l rfl;have I:=h.mono l;cases d with
 |string=>
  cases I with
  |string b=>
   dsimp only;rw[U.isSome];split
   ·exact SR.lost fun _=>⟨_,_,rfl,.inr ⟨_,rfl⟩⟩
   ·refine SR.bind (Aq _ _ _ (D.mono l) (R.mono l) .none) ?_;rintro u ⟨a,b,c⟩ _ Y rfl;exact .pure (.string _)
  |_=>exact gO _
 |slice H=>
  cases I with
  |slice len cap e=>
   refine SR.bind (Aq _ _ _ (D.mono l) (R.mono l) (U.mono l)) ?_;rintro u ⟨a,b,c⟩ _ Y rfl;refine SR.bind (mY _) ?_;rintro w n _ K rfl;split
   ·exact .pure (.slice _ _ ((e.mono Y).mono K))
   ·exact .pure (.slice _ _ (((e.mono Y).mono K).add _))
  |kW len cap=>
   refine SR.bind (Aq _ _ _ (D.mono l) (R.mono l) (U.mono l)) ?_;rintro u ⟨a,b,c⟩ _ Y rfl;refine SR.bind (mY _) ?_;rintro w n _ K rfl;split<;>exact .pure (.kW _ _)
  |_=>exact gO _
 |pointer arr=>
  refine SR.bind (OS I) fun u a a' Y e=>?_;refine SR.bind (kL arr) ?_;rintro w d _ K rfl;cases d with
  |array n H=>
   refine SR.bind (Aq _ _ _ (((D.mono l).mono Y).mono K) (((R.mono l).mono Y).mono K) (((U.mono l).mono Y).mono K)) ?_;rintro z ⟨a1,b1,c1⟩ _ C rfl;refine SR.bind (mY _) ?_;rintro y n _ B rfl;have A:=((e.mono K).mono C).mono B;split
   ·exact .pure (.slice _ _ A)
   ·exact .pure (.slice _ _ (A.add _))
  |_=>exact gO _
 |_=>exact gO _
theorem Y0(t:ah)(h:V r x x'){M K J Y N H:Option _}(U:VO r M K)(C:VO r J Y)(F:VO r N H):
  SR P V r (eW t x M J N) (eW t x' K Y H):=by
 refine SR.bind (kL t) ?_;rintro s d _ l rfl;have A:=h.mono l;split
 ·rename_i n I;refine SR.bind (Ax A) fun u a a' D e=>?_;refine SR.bind (Aq _ _ _ ((U.mono l).mono D) ((C.mono l).mono D) ((F.mono l).mono D)) ?_;rintro z ⟨a1,b1,c1⟩ _ L rfl;refine SR.bind (mY _) ?_;rintro y n _ B rfl;have R:=(e.mono L).mono B;split
  ·exact .pure (.slice _ _ R)
  ·exact .pure (.slice _ _ (R.add _))
 ·exact acm t A (U.mono l) (C.mono l) (F.mono l)
end
section
variable[gK]{P:ak}{r:Rn}{α:Type}{A:Rn->α->α->Prop}
theorem VA.append{a a' b b':Array _}(h:VA r a a')(k:VA r b b'):VA r (a++b) (a'++b'):=by
 refine⟨by simp[h.size,k.size],fun i x x' e e'=>?_⟩;have K:=h.size;rw[Array.getElem?_append]at e e';rw[<-K]at e';split at e
 ·rename_i Y;rw[if_pos Y]at e';exact h.at_ i x x' e e'
 ·rename_i Y;rw[if_neg Y]at e';exact k.at_ _ x x' e e'
theorem VA.D8{z Y:Array _}(h:VA r z Y)(n:Nat):VA r ((bc n).map (z[· %z.size]!)) ((bc n).map (Y[· %Y.size]!)):=by
 refine⟨by simp,fun i x x' e e'=>?_⟩;simp only[dV,Array.getElem?_range,dx]at e e';obtain⟨j,H,rfl⟩:=e;obtain⟨C,K,rfl⟩:=e';split at H
 ·rename_i I;rw[if_pos I]at K;obtain rfl:=Option.some.inj H;obtain rfl:=Option.some.inj K;have A:=h.size;by_cases U:z.size=0
  ·rw[getElem!_neg z _ (by omega),getElem!_neg Y _ (by omega)];exact .bool _
  have D:0<z.size:=by omega
  have R:i%z.size<z.size:=Nat.mod_lt _ D;have B:i%Y.size<Y.size:=Nat.mod_lt _ (A▸D);refine h.at_ (i%z.size) _ _ (by simp[R]) ?_;simp_all
 ·cases H
theorem VA.bytes(b:ByteArray):VA r (b.data.map fun b=>aQ .u8 b.toNat) (b.data.map fun b=>aQ .u8 b.toNat):=by
 refine⟨rfl,fun i x x' e e'=>?_⟩;obtain rfl:x=x':=Option.some.inj (e.symm.trans e');simp at e;obtain⟨_,_,rfl⟩:=e;exact .int _ _
theorem VA.rep(n:Nat)(h:V r x x'):VA r (bW n x) (bW n x'):=by
 refine⟨by simp,fun i y I e e'=>?_⟩;simp[Array.getElem?_replicate]at e e';simp_all
theorem XO{fn je:Fn}(Y:qs r fn je){a a' c c':Array _}(h:VA r a a')(k:VA r c c'):SR P V r (eQ fn a c) (eQ je a' c'):=
 .pure (.func Y h.size h.at_ k.size k.at_)
theorem Y1(t:ah){x x':Option _}(h:VO r x x'):SR P V r (eS t x) (eS t x'):=by
 have fin:∀{s:Rn},SR P V s (newObj (.map #[] 0) >>= fun b=>pure (Value.map (some b))) (newObj (.map #[] 0) >>= fun b=>pure (Value.map (some b))):=by
  refine SR.bind (xk (.map 0 rfl fun i x x' e=>by simp)) fun _ _ _ _ e=>.pure (.map e)
 cases h with
 |none=>exact fin
 |some e=>
  refine SR.bind (kL t) ?_;rintro s d _ l rfl;cases d with
  |map key Y=>exact SR.bind (yH (e.mono l)) fun _ _ _ _ _=>fin
  |_=>exact SR.lost fun _=>⟨_,_,rfl,.inr ⟨_,rfl⟩⟩
theorem HU(h:V r x x'):SR P iB r (bg x) (bg x'):=by
 cases h with
 |slice l c a=>exact .pure rfl
 |kW l c=>exact .pure rfl
 |string s=>exact .pure rfl
 |_=>exact gO _
theorem Ar(size n:Nat)(h:V r x x'):SR P VA r (aL size n x) (aL size n x'):=by
 cases h with
 |slice l c a=>exact Gx _ a
 |kW l c=>exact .pure .nil
 |string s=>exact .pure (.bytes _)
 |_=>exact gO _
theorem Cu(Z:qH P)(Y:ah)(b l c:Nat):
  SR P V r (do bB b;let n<-sizeOf Y;if c *n=0 then(do let zero<-pure #[];let a<-newRow Y ((bc (c *n)).map fun x=>zero[x%zero.size]!);pure (bp (some a) l c))else(do let z<-zeroValue Y;let zero<-pure z.cells;let a<-newRow Y ((bc (c *n)).map fun x=>zero[x%zero.size]!);pure (bp (some a) l c)))
   (do bB b;let n<-sizeOf Y;if c *n=0 then(do let zero<-pure #[];let a<-newRow Y ((bc (c *n)).map fun x=>zero[x%zero.size]!);pure (bp (some a) l c))else(do let z<-zeroValue Y;let zero<-pure z.cells;let a<-newRow Y ((bc (c *n)).map fun x=>zero[x%zero.size]!);pure (bp (some a) l c))):=by
 refine SR.bind (GX b) fun s _ _ l1 _=>?_;refine SR.bind (mY _) ?_;rintro s n _ l2 rfl;split
 ·exact SR.bind (.pure .nil) fun _ _ _ _ e=>SR.bind (wh _ (VA.D8 e _)) fun _ _ _ _ e=>SR.pure (V.slice _ _ e)
 ·exact SR.bind (xe Z _) fun _ _ _ _ e=>SR.bind (.pure e.cells) fun _ _ _ _ e=>SR.bind (wh _ (VA.D8 e _)) fun _ _ _ _ e=>SR.pure (V.slice _ _ e)
theorem Xp(Z:qH P)(t:ah)(h:V r x x')(K:V r y I):SR P V r (bE t x y) (bE t x' I):=by
 unfold bE;refine SR.bind (kL t) ?_;rintro s d _ l rfl;cases d with
 |slice Y=>
  refine SR.bind (yH (h.mono l)) ?_;rintro s1 a _ l1 rfl;refine SR.bind (yH ((K.mono l).mono l1)) ?_;rintro R b _ l2 rfl;refine SR.bind (q_ Y) ?_;rintro U i _ D ⟨rfl,H⟩;dsimp only;split
  ·split
   ·exact SR.bind (A:=iB) (mH (e:=.error _) trivial) fun _ _ _ _ _=>Cu Z Y _ _ _
   ·split
    ·exact SR.bind (A:=iB) (mH (e:=.error _) trivial) fun _ _ _ _ _=>Cu Z Y _ _ _
    ·refine SR.bind (rh _) ?_;rintro B q _ l4 rfl;exact SR.bind (A:=iB) (mH (e:=.error _) trivial) fun _ _ _ _ _=>Cu Z Y _ _ _
  ·exact Cu Z Y _ _ _
 |_=>exact gO _
theorem ael(D:Array _)(t:ah){a a':Array _}(h:VA r a a'):SR P V r (cU D t a) (cU D t a'):=by
 unfold cU;cases O:D[0]? with
 |none=>exact gO _
 |some A=>
  cases C:a[0]? with
  |none=>exact gO _
  |some x=>
   cases F:a[1]? with
   |none=>exact gO _
   |some y=>
    obtain⟨x',U,H⟩:=h.get C;obtain⟨I,B,R⟩:=h.get F;rw[U,B];refine SR.bind (kL A) ?_;rintro s d _ l rfl;cases d with
    |slice Y=>
     have H:=H.mono l;have go:∀{b b':Option _} (q:Nat),((b=none/\b'=none)\/∃c c',b=some c/\b'=some c'/\Ad s c c')->
       SR P V s (do let n<-bg y;let K<-sizeOf Y;let cells<-aL K (Nat.min n q) y;(match b with|some c=>cL c cells.toList >>= fun _=>pure (goInt (Nat.min n q))|none=>pure (goInt (Nat.min n q))))
        (do let n<-bg I;let K<-sizeOf Y;let cells<-aL K (Nat.min n q) I;(match b' with|some c=>cL c cells.toList >>= fun _=>pure (goInt (Nat.min n q))|none=>pure (goInt (Nat.min n q)))):=by
      intro b b' q J;refine SR.bind (HU (R.mono l)) ?_;rintro s1 n _ l1 rfl;refine SR.bind (mY _) ?_;rintro Q K _ l2 rfl;refine SR.bind (Ar _ _ (((R.mono l).mono l1).mono l2)) fun S c c' N L=>?_;rcases J with⟨rfl,rfl⟩|⟨p,p',rfl,rfl,M⟩
      ·exact .pure (.int _ _)
      ·exact SR.bind (yi 0 (((M.mono l1).mono l2).mono N) L.toList) fun _ _ _ _ _=>.pure (.int _ _)
     cases H with
     |slice q c e=>exact go q (.inr ⟨_,_,rfl,rfl,e⟩)
     |kW q c=>exact go q (.inl ⟨rfl,rfl⟩)
     |_=>exact gO _
    |_=>exact gO _
theorem agC(H:Array _)(t:ah){a a':Array _}(h:VA r a a'):SR P V r (cV H t a) (cV H t a'):=by
 unfold cV;cases F:H[0]? with
 |none=>exact gO _
 |some I=>
  cases U:a[0]? with
  |none=>exact gO _
  |some x=>
   obtain⟨x',A,Y⟩:=h.get U;rw[A];refine SR.bind (kL I) ?_;rintro s d _ l rfl;have Y:=Y.mono l;cases d with
   |string=>cases Y with
    |string b=>exact .pure (.int _ _)
    |_=>exact gO _
   |array n e=>exact .pure (.int _ _)
   |pointer arr=>
    refine SR.bind (kL arr) ?_;rintro u d _ R rfl;cases d with
    |array n e=>exact .pure (.int _ _)
    |_=>exact gO _
   |slice D=>cases Y with
    |slice q c e=>exact .pure (.int _ _)
    |kW q c=>exact .pure (.int _ _)
    |_=>exact gO _
   |map k e=>cases Y with
    |oJ=>exact .pure (.int _ _)
    |map e=>
     refine SR.bind (oF e) fun u o o' R K=>?_;cases K with
     |map C B J=>dsimp only;rw[B];exact .pure (.int _ _)
     |_=>exact gO _
    |_=>exact gO _
   |chan a e=>cases Y with
    |pW=>exact .pure (.int _ _)
    |chan e=>
     refine SR.bind (oF e) fun u o o' R K=>?_;cases K<;>exact gO _
    |_=>exact gO _
   |_=>exact gO _
end
section
variable[gK]{P:ak}{r:Rn}{α:Type}{A:Rn->α->α->Prop}
theorem R2(op:aK)(k:aI)(a b:Int):SR P V r (dp op k a b) (dp op k a b):=by
 unfold dp;split<;>first|exact .pure (.int _ _)|exact gO _
theorem R3(op:aK)(a b:Int):SR P V r (dq op a b) (dq op a b):=by
 unfold dq;split<;>first|exact .pure (.bool _)|exact gO _
theorem IX(op:aK)(a b:ByteArray):SR P V r (bQ op a b) (bQ op a b):=by
 unfold bQ;split
 ·split
  ·exact iC _
  ·exact .pure (.string _)
 all_goals first|exact .pure (.bool _)|exact gO _
theorem W3(z:∀b,¬gK.ro b)(t:ah)(s:ByteArray):SR P V r (ep t s) (ep t s):=by
 refine SR.bind (rh _) ?_;rintro u c _ l rfl;refine SR.bind (wh t ((VA.bytes s).append (.rep _ (.int _ _)))) fun u a a' l e=>?_;refine SR.bind (A:=iB) ?_ fun _ _ _ l _=>.pure (.slice _ _ (e.mono l));refine SR.bind (pQ e.block) ?_;rintro u x _ l rfl;split
 ·exact OQ z (a:=⟨a.block,_,none⟩) (a':=⟨a'.block,_,none⟩) ⟨l _ _ e.block,rfl,rfl⟩ _
 ·exact .pure rfl
def AO(r:Rn)(b b':Option _):=(b=none/\b'=none)\/∃a a',b=some a/\b'=some a'/\Ad r a a'
theorem AO.mono{s:Rn}(l:Le r s){b b':Option _}(h:AO r b b'):AO s b b':=by
 rcases h with h|⟨a,a',Y,K,H⟩
 ·exact .inl h
 ·exact .inr ⟨a,a',Y,K,H.mono l⟩
theorem AO.slice{b b':Option _}(h:AO r b b')(l c:Nat):V r (.slice b l c) (.slice b' l c):=by
 rcases h with⟨rfl,rfl⟩|⟨a,a',rfl,rfl,Y⟩
 ·exact .kW l c
 ·exact .slice l c Y
omit [gK]in
theorem Nu(size K n:Nat)(b:Option Addr)(x:af)(v:ae):∃t,(b_ size K n b x).run P v=.ok t v:=by
 have Y:∀(a:Addr) (m:Nat),∃t,(eg a m).run P v=.ok t v:=fun a m=>by
  unfold eg;simp only[dB,shape,Sem.run,dz];split<;>exact⟨_,rfl⟩
 unfold b_;cases b with
 |none=>
  simp only[dB,alh,dz,cQ,bt,if_false];split
  ·rename_i c _ _;obtain⟨t,e⟩:=Y c (n *size);simp_all
  ·simp
 |some a=>
  obtain⟨t,e⟩:=Y a (K *size);simp only[dB,e,frozen,Sem.run,alh,dz];split
  ·simp
  ·split
   ·rename_i c _ _;obtain⟨t,e⟩:=Y c (n *size);simp_all
   ·simp
theorem VA.tR{z Y:Array _}(h:VA r z Y)(n:Nat):VA r (bN z n) (bN Y n):=by
 unfold bN;rw[<-h.size];have:=h.D8 (n *z.size);rw[<-h.size]at this;omega
theorem iD{c:Prop}[Decidable c]{x x' y I:Sem α}(Y:c->SR P A r x x')(K:¬c->SR P A r y I):SR P A r (if c then x else y) (if c then x' else I):=by
 split
 ·simp_all
 ·simp_all
end
section
variable[gK]{P:ak}{r:Rn}{α:Type}{A:Rn->α->α->Prop}
theorem acn(h:V r x x'):(∃base Y n c,x=.slice base n c/\x'=.slice Y n c/\AO r base Y)\/∀b n c,x≠.slice b n c:=by
 cases h with
 |kW l c=>exact .inl ⟨none,none,l,c,rfl,rfl,.inl ⟨rfl,rfl⟩⟩
 |slice l c K=>exact .inl ⟨_,_,l,c,rfl,rfl,.inr ⟨_,_,rfl,rfl,K⟩⟩
 |_=>exact .inr fun _ _ _ e=>by cases e
theorem OT(Z:qH P)(K:ah)(size R H D n:Nat)(F:V r x x')(J:V r y I):
  SR P V r (do
    let Y<-choose (.appendCap H D K)
    bB (Y *(<-aP K).bytes)
    let old<-aL size R x
    let new<-aL size n y
    let rest:=bN (<-zeroValue K).cells (Y-H)
    pure (bp (some (<-newRow K (old++new++rest))) H Y))
   (do
    let Y<-choose (.appendCap H D K)
    bB (Y *(<-aP K).bytes)
    let old<-aL size R x'
    let new<-aL size n I
    let rest:=bN (<-zeroValue K).cells (Y-H)
    pure (bp (some (<-newRow K (old++new++rest))) H Y)):=by
 refine SR.bind (rh _) ?_;rintro t1 O _ l1 rfl;refine SR.bind (q_ _) ?_;rintro t2 i _ l2 ⟨rfl,_⟩;refine SR.bind (GX _) ?_;rintro t3 _ _ A _;refine SR.bind (Ar _ _ (((F.mono l1).mono l2).mono A)) ?_;intro t4 o o' l4 C;refine SR.bind (Ar _ n ((((J.mono l1).mono l2).mono A).mono l4)) ?_;intro t5 c c' M B;refine SR.bind (xe Z _) ?_;intro Q z T l6 L;refine SR.bind (wh _ ((((C.mono M).append B).mono l6).append (L.cells.tR _))) ?_;intro S a a' N U;exact .pure (.slice _ _ U)
theorem Ay{Y:Type}{s s':Sem Y}{f f':Y->Sem α}(h:SR P (fun _ _ _=>False) r s s'):SR P A r (s.bind f) (s'.bind f'):=SR.bind h fun _ _ _ _ e=>e.elim
theorem R4{e:dA}(h:PV e){Y:Type}:SR P (fun _ (_ _:Y)=>False) r (bH e) (bH e):=mH h
theorem mW(t:ah):SR P (fun _ d d'=>d=d'/\P.underlying t=some d) r (underlying t) (underlying t):=by
 refine SR.bind mX ?_;rintro s p q _ ⟨Y,K⟩;rw[Y,K];cases h:P.underlying t with
 |some i=>exact .pure ⟨rfl,rfl⟩
 |none=>exact gO _
theorem aav(Z:qH P)(N:Array ah)(t:ah)(m:∀O d,N[1]?=some O->P.underlying O=some d->∀k,d≠.int k){a a':Array af}(h:VA r a a'):SR P V r (cS N t a) (cS N t a'):=by
 unfold cS;cases y:N[0]? with
 |none=>exact gO _
 |some sT=>
  cases G:a[0]? with
  |none=>rw[h.none G];exact gO _
  |some s=>
   obtain⟨s',f,q⟩:=h.get G;rw[f];cases W:a[1]? with
   |none=>rw[h.none W];exact gO _
   |some x=>
    obtain⟨x',g,p⟩:=h.get W;rw[g];simp only;refine SR.bind (kL sT) ?_;rintro t1 d _ l1 rfl;cases d with
    |slice Y=>
     simp only;rcases acn q with⟨base,Q,K,B,rfl,rfl,o⟩|U
     ·simp only;refine SR.bind (mY Y) ?_;rintro t2 size _ l2 rfl;have J:=(p.mono l1).mono l2;have F:=(o.mono l1).mono l2;cases hz:N[1]? with
      |none=>
       refine SR.bind (A:=fun _ z E=>z=false/\E=false) (.pure ⟨rfl,rfl⟩) ?_;rintro t3 _ _ L ⟨rfl,rfl⟩;have D:=J.mono L;have R:=F.mono L;change SR P V t3 (Sem.bind (bg x) _) (Sem.bind (bg x') _);refine SR.bind (HU D) ?_;rintro t4 n _ l4 rfl;refine iD (fun S=>?_) (fun S=>?_)
       ·change SR P V t4 (Sem.bind (aL size n x) _) (Sem.bind (aL size n x') _);refine SR.bind (Ar size n (D.mono l4)) ?_;intro t5 c c' I C;rcases R with⟨rfl,rfl⟩|⟨b,b',rfl,rfl,H⟩
        ·exact .pure (.kW _ _)
        ·refine SR.bind (yi 0 (((H.mono l4).mono I).add _) C.toList) ?_;rintro X _ _ l6 _;exact .pure (.slice _ _ (((H.mono l4).mono I).mono l6))
       ·change SR P V t4 (Sem.bind (aP Y) _) (Sem.bind (aP Y) _);refine SR.bind (q_ Y) ?_;rintro t5 i _ I ⟨rfl,_⟩;refine iD (fun _=>?_) (fun _=>?_)
        ·exact Ay (R4 (e:=.error "growslice: len out of range") trivial)
        ·change SR P V t5 (Sem.bind (aP Y) _) (Sem.bind (aP Y) _);refine SR.bind (q_ Y) ?_;rintro X j _ l6 ⟨rfl,_⟩;refine iD (fun _=>?_) (fun _=>?_)
         ·refine .lost fun v=>?_;obtain⟨b,e⟩:=Nu (P:=P) size K n base x v;change∃h v1,Sem.run P (Sem.bind (Sem.bind (b_ size K n base x) _) _) v=.halt h v1/\rI h;rw[aW,aW,e];cases b
          ·exact⟨_,_,rfl,.inl ⟨_,rfl,rfl⟩⟩
          ·exact⟨_,_,rfl,.inl ⟨_,rfl,rfl⟩⟩
         ·exact OT Z Y size K (K+n) B n ((AO.mono ((l4.trans I).trans l6) R).slice _ _) (((D.mono l4).mono I).mono l6)
      |some O=>
       refine SR.bind (mW O) ?_;rintro u d _ T ⟨rfl,hd⟩;refine SR.bind (A:=fun _ z E=>z=false/\E=false) (.pure ?_) ?_
       ·simp_all
       rintro t3 _ _ M ⟨rfl,rfl⟩;have L:=T.trans M;have D:=J.mono L;have R:=F.mono L;change SR P V t3 (Sem.bind (bg x) _) (Sem.bind (bg x') _);refine SR.bind (HU D) ?_;rintro t4 n _ l4 rfl;refine iD (fun S=>?_) (fun S=>?_)
       ·change SR P V t4 (Sem.bind (aL size n x) _) (Sem.bind (aL size n x') _);refine SR.bind (Ar size n (D.mono l4)) ?_;intro t5 c c' I C;rcases R with⟨rfl,rfl⟩|⟨b,b',rfl,rfl,H⟩
        ·exact .pure (.kW _ _)
        ·refine SR.bind (yi 0 (((H.mono l4).mono I).add _) C.toList) ?_;rintro X _ _ l6 _;exact .pure (.slice _ _ (((H.mono l4).mono I).mono l6))
       ·change SR P V t4 (Sem.bind (aP Y) _) (Sem.bind (aP Y) _);refine SR.bind (q_ Y) ?_;rintro t5 i _ I ⟨rfl,_⟩;refine iD (fun _=>?_) (fun _=>?_)
        ·exact Ay (R4 (e:=.error "growslice: len out of range") trivial)
        ·change SR P V t5 (Sem.bind (aP Y) _) (Sem.bind (aP Y) _);refine SR.bind (q_ Y) ?_;rintro X j _ l6 ⟨rfl,_⟩;refine iD (fun _=>?_) (fun _=>?_)
         ·refine .lost fun v=>?_;obtain⟨b,e⟩:=Nu (P:=P) size K n base x v;change∃h v1,Sem.run P (Sem.bind (Sem.bind (b_ size K n base x) _) _) v=.halt h v1/\rI h;rw[aW,aW,e];cases b
          ·exact⟨_,_,rfl,.inl ⟨_,rfl,rfl⟩⟩
          ·exact⟨_,_,rfl,.inl ⟨_,rfl,rfl⟩⟩
         ·exact OT Z Y size K (K+n) B n ((AO.mono ((l4.trans I).trans l6) R).slice _ _) (((D.mono l4).mono I).mono l6)
     ·cases q with
      |kW l c=>exact absurd rfl (U _ _ _)
      |slice l c w=>exact absurd rfl (U _ _ _)
      |_=>exact gO _
    |_=>exact gO _
end
section
variable[gK]{P:ak}{r:Rn}{α:Type}{A:Rn->α->α->Prop}
theorem QW{Y γ:Type}(g:Y->Sem γ)(h:∀b t,SR P iB t (g b) (g b)):∀(l:List Y) r,SR P iB r (l.mapM g) (l.mapM g)
 |[],r=>by exact .pure rfl
 |b::l,r=>by
  rw[List.mapM_cons];refine SR.bind (h b r) ?_;rintro t x _ l1 rfl;refine SR.bind (QW g h l t) ?_;rintro u xs _ l2 rfl;exact .pure rfl
theorem aco{Y γ:Type}(g:Y->Sem γ)(h:∀b t,SR P iB t (g b) (g b))(a:Array Y):SR P iB r (a.mapM g) (a.mapM g):=by
 rw[Array.mapM_eq_mapM_toList];refine SR.bind (QW g h _ r) ?_;rintro t x _ l rfl;exact .pure rfl
inductive PL(r:Rn):List (Nat×af)->List (Nat×af)->Prop
 |nil:PL r [] []
 |cons (i:Nat) {x y:af} {xs ys:List (Nat×af)}:V r x y->PL r xs ys->PL r ((i,x)::xs) ((i,y)::ys)
theorem PL.mono{s:Rn}(h:Le r s){xs ys:List _}(k:PL r xs ys):PL s xs ys:=by
 induction k with
 |nil=>exact .nil
 |cons i x _ Y=>exact .cons i (x.mono h) Y
theorem PW(off:Nat):∀{xs ys:List _} k {c c':Array _},VL r xs ys->VA r c c'->
  VA r ((xs.zipIdx k).foldl (fun cs p=>cs.setIfInBounds (off+p.2) p.1) c) ((ys.zipIdx k).foldl (fun cs p=>cs.setIfInBounds (off+p.2) p.1) c')
 |_,_,k,c,c',.nil,h=>h
 |_,_,k,c,c',.cons x xs,h=>by
  exact PW off (k+1) xs (h.set _ x)
theorem C2(place:Nat->Option _):∀{ps Y:List _} {c c':Array _},PL r ps Y->VA r c c'->
  (Instr.fill place c ps=none/\Instr.fill place c' Y=none)\/∃d d',Instr.fill place c ps=some d/\Instr.fill place c' Y=some d'/\VA r d d'
 |_,_,c,c',.nil,h=>.inr ⟨c,c',rfl,rfl,h⟩
 |_,_,c,c',.cons i K rest,h=>by
  unfold Instr.fill;cases place i with
  |none=>exact .inl ⟨rfl,rfl⟩
  |some p=>
   obtain⟨off,size⟩:=p;simp only;rw[<-K.cells.size,<-h.size];split
   ·simp
   ·refine C2 _ rest ?_;rw[<-cO,<-cO,ed,ed];exact PW off 0 K.cells.toList h
theorem acp(Z:qH P)(t:ah){ps C:Array _}(h:PL r ps.toList C.toList):SR P V r (Instr.build t ps) (Instr.build t C):=by
 refine SR.bind (xe Z t) ?_;intro t1 z F l1 B;refine SR.bind (kL t) ?_;rintro t2 d _ l2 rfl;have A:=B.cells.mono l2;have U:=(h.mono l1).mono l2;cases d with
 |struct D=>
  refine SR.bind (aco _ (fun f u=>SR.bind (mY _) fun _ _ _ _ e=>e▸ .pure rfl) _) ?_;rintro t3 R _ H rfl;rcases C2 _ (U.mono H) (A.mono H)with⟨Y,K⟩|⟨d,d',Y,K,hd⟩
  ·rw[Y];exact gO _
  ·rw[Y,K];exact .pure (.D7 hd)
 |array len I=>
  refine SR.bind (mY _) ?_;rintro t3 size _ H rfl;rcases C2 _ (U.mono H) (A.mono H)with⟨Y,K⟩|⟨d,d',Y,K,hd⟩
  ·rw[Y];exact gO _
  ·rw[Y,K];exact .pure (.D7 hd)
 |_=>exact gO _
theorem W4(Z:qH P)(t:ah)(len:Nat){ps U:Array _}(h:PL r ps.toList U.toList):SR P V r (eI t len ps) (eI t len U):=by
 refine SR.bind (kL t) ?_;rintro t1 d _ l1 rfl;cases d with
 |slice Y=>
  refine SR.bind (mY _) ?_;rintro t2 size _ l2 rfl;refine iD (fun _=>Ay (iC _)) (fun _=>?_);have go:∀{t3:Rn} {z K:Array _},Le t2 t3->VA t3 z K->SR P V t3
    (match Instr.fill (fun i=>some (i *size,size)) ((bc (len *size)).map (z[· %z.size]!)) ps.toList with
     |some cells=>do pure (bp (some (<-newRow Y cells)) len len)
     |_=>stuck "buildSlice: a part of the wrong size")
    (match Instr.fill (fun i=>some (i *size,size)) ((bc (len *size)).map (K[· %K.size]!)) U.toList with
     |some cells=>do pure (bp (some (<-newRow Y cells)) len len)
     |_=>stuck "buildSlice: a part of the wrong size"):=by
   intro t3 z K R D;rcases C2 _ (((h.mono l1).mono l2).mono R) (D.D8 _)with⟨H,I⟩|⟨d,d',H,I,hd⟩
   ·rw[H];exact gO _
   ·rw[H,I];exact SR.bind (wh _ hd) fun _ _ _ _ e=>.pure (.slice _ _ e)
  refine iD (fun _=>?_) (fun _=>?_)
  ·exact go (.refl _) .nil
  ·refine SR.bind (xe Z _) ?_;intro t3 z K R D;exact go R D.cells
 |_=>exact gO _
def plainKey(d:bA):=(∃k,d=.int k)\/d=.string\/d=.bool
theorem Nv(e:Bool)(t:ah)(v v':af)(h:∀d,P.underlying t=some d->plainKey d):SR P iB r (cm e 10000 t v) (cm e 10000 t v'):=by
 refine SR.bind (mW t) ?_;rintro t1 d _ l1 ⟨rfl,hd⟩;rcases h d hd with⟨k,rfl⟩|rfl|rfl<;>exact .pure rfl
inductive Full:af->Prop
 |int (k:aI) (n:Int):Full (.int k n)
 |string (s:ByteArray):Full (.string s)
 |bool (b:Bool):Full (.bool b)
 |ptr (a:Addr):Full (.pointer (some a))
def Met(k:af)(es:List ay)(i j:Nat):=Full k/\i<=j/\∃x,es[j-i]?=some x/\Full x.key
theorem Met.cons{es:List _}(x:ay)(h:Met k es (i+1) j):Met k (x::es) i j:=by
 obtain⟨Y,H,y,D,K⟩:=h;refine⟨Y,by omega,y,?_,K⟩;rw[show j-i=(j-(i+1))+1 by omega];simp_all
theorem Ng{d:bA}{e:af}{b:Bool}(h:bj d k e=some b):Full k/\Full e:=by
 unfold bj at h;split at h
 ·exact⟨.int _ _,.int _ _⟩
 ·exact⟨.string _,.string _⟩
 ·exact⟨.bool _,.bool _⟩
 ·cases h
def Blank(x:af):=x=.tuple #[]
theorem XP{d:bA}{e e':af}(hd:plainKey d)(h:V r k k')(h':V r e e')(n:¬Blank k)(Y:¬Blank e):bj d k' e'=bj d k e:=by
 cases h with
 |blank _=>exact absurd rfl n
 |_=>
  cases h' with
  |blank _=>exact absurd rfl Y
  |_=>rcases hd with⟨j,rfl⟩|rfl|rfl<;>rfl
omit [gK]in
theorem W5{d:bA}{e:af}(h:Blank k\/Blank e):bj d k e=none:=by
 rcases h with h|h<;>(rw[h];cases d<;>first|rfl|(cases k<;>rfl))
omit [gK]in
theorem Nw{e:af}(hk:∀d,P.underlying t=some d->plainKey d)(h:Blank k\/Blank e)(v:ae):∃x v1,(au t k e).run P v=.halt x v1/\rI x:=by
 unfold au bm;rw[show(10000:Nat)=9999+1 from rfl];unfold aU underlying program;cases hd:P.underlying t with
 |none=>exact⟨.stuck "no such type",v,by simp[Sem.run,bind,Sem.bind,hd,stuck],.inr ⟨_,rfl⟩⟩
 |some d=>
  have key:∀{x:Sem Bool},(∃u,x=cM u/\Dy u=false)\/(∃y,x=stuck y)->∃z v1,x.run P v=.halt z v1/\rI z:=by
   rintro x (⟨u,rfl,Y⟩|⟨y,rfl⟩)
   ·exact⟨_,_,rfl,.inl ⟨_,rfl,Y⟩⟩
   ·exact⟨_,_,rfl,.inr ⟨_,rfl⟩⟩
  simp only[bind,Sem.bind,Sem.run,hd];rcases hk d hd with⟨j,rfl⟩|rfl|rfl<;>rcases h with h|h<;>rw[h]<;>(first|(cases k with|pointer a=>(cases a<;>exact key (by first|exact .inl ⟨_,rfl,rfl⟩|exact .inr ⟨_,rfl⟩))|_=>exact key (by first|exact .inl ⟨_,rfl,rfl⟩|exact .inr ⟨_,rfl⟩))|(cases e with|pointer a=>(cases a<;>exact key (by first|exact .inl ⟨_,rfl,rfl⟩|exact .inr ⟨_,rfl⟩))|_=>exact key (by first|exact .inl ⟨_,rfl,rfl⟩|exact .inr ⟨_,rfl⟩)))
omit [gK]in
theorem aaw{d:bA}{e:af}{b:Bool}(hd:P.underlying t=some d)(h:bj d k e=some b)(v:ae):(au t k e).run P v=.ok b v:=by
 unfold au bm;rw[show(10000:Nat)=9999+1 from rfl];unfold aU underlying program;simp only[bind,Sem.bind,Sem.run,hd];unfold bj at h;split at h
 ·split at h
  ·rename_i hk;subst hk;rw[<-Option.some.inj h];simp[pure,Sem.bind]
  ·cases h
 ·rw[<-Option.some.inj h];rfl
 ·rw[<-Option.some.inj h];rfl
 ·cases h
inductive EL(r:Rn):List ay->List ay->Prop
 |nil:EL r [] []
 |cons {x y:ay} {xs ys:List ay}:En r x y->EL r xs ys->EL r (x::xs) (y::ys)
theorem EL.mono{s:Rn}(h:Le r s){xs ys:List _}(k:EL r xs ys):EL s xs ys:=by
 induction k with
 |nil=>exact .nil
 |cons x _ Y=>exact .cons (x.mono h) Y
def ain(P:ak)(t:ah)(k:af)(es:List ay):Prop:=∀(i:Nat) (v:ae),∃x v1,(c9 t k es i).run P v=.halt x v1/\rI x
theorem Ny{d:bA}(D:P.underlying t=some d)(hd:plainKey d)(h:V r k k'):∀{es iK:List _} i,EL r es iK->
  (aY d k es i=none/\ain P t k es)\/
  (aY d k es i=none/\aY d k' iK i=none)\/(aY d k es i=some none/\aY d k' iK i=some none)\/
   ∃j v v',aY d k es i=some (some (j,v))/\aY d k' iK i=some (some (j,v'))/\V r v v'/\Met k es i j
 |_,_,i,.nil=>.inr (.inr (.inl ⟨rfl,rfl⟩))
 |_,_,i,.cons (x:=x) (y:=y) R rest=>by
  have hk:∀d',P.underlying t=some d'->plainKey d':=fun d' e=>by simp_all
  by_cases Y:Blank k\/Blank x.key
  ·refine .inl ⟨by unfold aY;rw[W5 Y],fun j v=>?_⟩;obtain⟨z,v1,e,K⟩:=Nw hk Y v;refine⟨z,v1,?_,K⟩;show(Sem.bind _ _).run P v=_
   rw[aW,e];rfl
  ·have n1:=fun z=>Y (.inl z);have n2:=fun z=>Y (.inr z);unfold aY;rw[XP hd h R.key n1 n2];cases H:bj d k _ with
   |none=>exact .inr (.inl ⟨rfl,rfl⟩)
   |some b=>
    cases b with
    |true=>exact .inr (.inr (.inr ⟨i,x.val,y.val,rfl,rfl,R.val,(Ng H).1,ao _,x,by simp,(Ng H).2⟩))
    |false=>
     rcases Ny D hd h _ rest with⟨I,A⟩|q
     ·refine .inl ⟨I,fun j v=>?_⟩;obtain⟨z,v1,e,K⟩:=A _ v;refine⟨z,v1,?_,K⟩;show(Sem.bind _ _).run P v=_
      rw[aW,aaw D H v];exact e
     ·exact .inr (q.imp id (Or.imp id fun⟨j,v,v',a1,a2,a3,a4⟩=>⟨j,v,v',a1,a2,a3,a4.cons x⟩))
def NW(r:Rn)(x y:Option (Addr×Bool)):=(x=none/\y=none)\/∃a a' t,x=some (a,t)/\y=some (a',t)/\Ad r a a'
theorem Nz(h:r b=some b'):SR P NW r (numberAt b) (numberAt b'):=by
 refine SR.bind (pQ h) ?_;rintro t x _ l rfl;split
 ·exact .pure (.inl ⟨rfl,rfl⟩)
 ·refine SR.bind (oF (l _ _ h)) ?_;intro u o o' _ Y;cases Y with
  |number l a=>exact .pure (.inr ⟨_,_,_,rfl,rfl,a⟩)
  |_=>exact .pure (.inl ⟨rfl,rfl⟩)
theorem wj(h:Ad r a a'):SR P (fun s x y=>Ad s x.1 y.1/\x.2=y.2) r (alA a) (alA a'):=by
 refine SR.bind (Nz h.block) ?_;rintro t x y l (⟨rfl,rfl⟩|⟨_,_,_,rfl,rfl,Y⟩)
 ·exact .pure ⟨h.mono l,rfl⟩
 ·exact .pure ⟨Y,rfl⟩
theorem Ad.eq_iff{b b':Addr}(h:Ad r a a')(k:Ad r b b'):(a'==b')=(a==b):=by
 rw[bY];simp;constructor
 ·intro e;have Y:=r.inj _ _ _ h.block (by rw[k.block,e]);have K:a.off=b.off:=by rw[<-h.off,<-k.off,e]
  have H:a.spot=b.spot:=by rw[<-h.spot,<-k.spot,e]
  obtain⟨x,y,z⟩:=a;simp_all
 ·intro e;have Y:=by have:=h.block;rw[e,k.block]at this;exact(Option.some.inj this).symm
  have K:a'.off=b'.off:=by rw[h.off,k.off,e]
  have H:a'.spot=b'.spot:=by rw[h.spot,k.spot,e]
  obtain⟨x,y,z⟩:=a';simp_all
theorem Ad.It{b b':Addr}(h:Ad r a a')(k:Ad r b b'):(a'.block==b'.block)=(a.block==b.block):=by
 rw[bY];simp;constructor
 ·exact fun e=>r.inj _ _ _ h.block (by rw[k.block,e])
 ·intro e;have:=h.block;rw[e,k.block]at this;simp_all
theorem Oc(M:gK.size=P.globals.size)(hk:∀d,P.underlying t=some d->plainKey d)(S:V r x x')(X:V r y I)(D:Nat):SR P (fun _ b b'=>b=b'/\(b=true->Full x/\Full y)) r (aU (D+1) t x y) (aU (D+1) t x' I):=by
 unfold aU;refine SR.bind (mW t) ?_;rintro t1 d _ l1 ⟨rfl,hd⟩;have R:=S.mono l1;have Y:=X.mono l1;rcases hk d hd with⟨k,rfl⟩|rfl|rfl
 ·cases R with
  |int W n1=>
   cases Y with
   |int T n2=>exact iD (fun _=>.pure ⟨rfl,fun _=>⟨.int _ _,.int _ _⟩⟩) (fun _=>gO _)
   |ptr C=>
    by_cases A:n1=0
    ·subst A;exact .pure ⟨rfl,fun h=>by cases h⟩
    ·simp only;split<;>first|(exfalso;simp_all;done)|exact .pure ⟨rfl,fun h=>by cases h⟩|exact iC _|exact gO _
   |nilPtr=>exact iC _
   |_=>exact gO _
  |nilPtr=>cases Y<;>first|exact iC _|exact gO _
  |ptr N=>
   cases Y with
   |int T n2=>
    by_cases A:n2=0
    ·subst A;exact .pure ⟨rfl,fun h=>by cases h⟩
    ·simp only;split<;>first|(exfalso;simp_all;done)|exact .pure ⟨rfl,fun h=>by cases h⟩|exact iC _|exact gO _
   |ptr C=>
    simp only;refine SR.bind (wj N) ?_;rintro t2 ⟨a1,la⟩ ⟨a2,E⟩ l2 ⟨U,_⟩;refine SR.bind (wj (C.mono l2)) ?_;rintro t3 ⟨b1,j⟩ ⟨b2,G⟩ Z ⟨H,_⟩;have K:=U.mono Z;simp only at K H;refine SR.bind mX ?_;rintro t4 p q l4 ⟨O,Q⟩;rw[O,Q];have J:=K.It H;have L:=K.eq_iff H;have B:=t3.jo _ _ K.block;rw[M]at B;simp only[J,L,decide_eq_decide.2 B.symm];refine iD (fun _=>?_) (fun _=>?_)
    ·refine SR.bind (wi (K.mono l4)) ?_;rintro t5 u _ F rfl;refine SR.bind (wi ((H.mono l4).mono F)) ?_;rintro z v _ l6 rfl;exact .pure ⟨rfl,fun _=>⟨.ptr _,.ptr _⟩⟩
    ·refine SR.bind (q_ t) ?_;rintro t5 i _ F ⟨rfl,_⟩;split
     ·exact iD (fun _=>.pure ⟨rfl,fun _=>⟨.ptr _,.ptr _⟩⟩) (fun _=>iC _)
     ·exact iC _
   |_=>exact iC _
  |_=>cases Y<;>first|exact iC _|exact gO _
 ·cases R with
  |string a=>
   cases Y with
   |string b=>exact .pure ⟨rfl,fun _=>⟨.string _,.string _⟩⟩
   |_=>exact gO _
  |_=>exact gO _
 ·cases R with
  |bool a=>
   cases Y with
   |bool b=>exact .pure ⟨rfl,fun _=>⟨.bool _,.bool _⟩⟩
   |_=>exact gO _
  |_=>exact gO _
theorem PX(Y:gK.size=P.globals.size)(hk:∀d,P.underlying t=some d->plainKey d)(K:V r x x')(H:V r y I):SR P (fun _ b b'=>b=b'/\(b=true->Full x/\Full y)) r (au t x y) (au t x' I):=Oc Y hk K H 9999
theorem MY(Y:gK.size=P.globals.size)(hk:∀d,P.underlying t=some d->plainKey d):∀{es iK:List _} i {r:Rn},V r k k'->EL r es iK->
  SR P (fun r o o'=>(o=none/\o'=none)\/∃j v v',o=some (j,v)/\o'=some (j,v')/\V r v v'/\Met k es i j) r (c9 t k es i) (c9 t k' iK i)
 |_,_,i,r,h,.nil=>.pure (.inl ⟨rfl,rfl⟩)
 |_,_,i,r,h,.cons D rest=>by
  refine SR.bind (PX Y hk h D.key) ?_;rintro t1 b _ l1 ⟨rfl,H⟩;refine iD (fun K=>.pure (.inr ⟨i,_,_,rfl,rfl,D.val.mono l1,(H K).1,ao _,_,by simp,(H K).2⟩)) (fun _=>?_);exact(MY Y hk _ (h.mono l1) (rest.mono l1)).imp fun t a a' _ R=>R.imp id fun⟨j,v,v',a1,a2,a3,a4⟩=>⟨j,v,v',a1,a2,a3,a4.cons _⟩
theorem Od(D:gK.size=P.globals.size)(hk:∀d,P.underlying t=some d->plainKey d)(h:V r k k'){es iK:List _}(H:EL r es iK):
  SR P (fun r o o'=>(o=none/\o'=none)\/∃j v v',o=some (j,v)/\o'=some (j,v')/\V r v v'/\Met k es 0 j) r (cn t k es) (cn t k' iK):=by
 refine SR.bind (mW t) ?_;rintro t1 d _ l1 ⟨rfl,hd⟩;rcases Ny hd (hk d hd) (h.mono l1) 0 (H.mono l1)with⟨Y,K⟩|⟨Y,K⟩|⟨Y,K⟩|⟨j,v,v',Y,K,I,R⟩
 ·rw[Y];exact .lost fun v=>K 0 v
 ·rw[Y,K];exact MY D hk 0 (h.mono l1) (H.mono l1)
 ·rw[Y,K];exact .pure (.inl ⟨rfl,rfl⟩)
 ·rw[Y,K];exact .pure (.inr ⟨j,v,v',rfl,rfl,I,R⟩)
structure EA(r:Rn)(es iK:Array ay):Prop where
 size:es.size=iK.size
 at_:∀(i:Nat) x x',es[i]?=some x->iK[i]?=some x'->En r x x'
theorem EA.mono{s:Rn}(h:Le r s){es iK:Array _}(k:EA r es iK):EA s es iK:=⟨k.size,fun i x x' e e'=>(k.at_ i x x' e e').mono h⟩
theorem EA.toList{c c':Array _}(h:EA r c c'):EL r c.toList c'.toList:=by
 obtain⟨c⟩:=c;obtain⟨c'⟩:=c';obtain⟨Y,K⟩:=h;induction c generalizing c' with
 |nil=>cases c' with
  |nil=>exact .nil
  |cons y ys=>simp at Y
 |cons x xs H=>cases c' with
  |nil=>simp at Y
  |cons y ys=>exact .cons (K 0 x y rfl rfl) (H ys (by simpa using Y) fun i a b e e'=>K (i+1) a b (by simpa using e) (by simpa using e'))
theorem EL.toArray{xs ys:List _}(h:EL r xs ys):EA r xs.toArray ys.toArray:=by
 induction h with
 |nil=>exact⟨rfl,fun i x x' e=>by simp⟩
 |cons x _ H=>
  obtain⟨K,Y⟩:=H;simp at K Y;refine⟨by simp_all,fun i a b e e'=>?_⟩;simp at e e';cases i with
  |zero=>simp at e e';simp_all
  |succ i=>exact Y i a b e e'
theorem EA.push{c c':Array _}(h:EA r c c'){x x':ay}(H:En r x x'):EA r (c.push x) (c'.push x'):=by
 refine⟨by simp[h.size],fun i y I e e'=>?_⟩;have K:=h.size;rw[bK]at e e';rw[<-K]at e';split at e
 ·simp_all
 ·rename_i Y;rw[if_neg Y]at e';exact h.at_ i y I e e'
theorem EA.get{c c':Array _}(h:EA r c c'){x:ay}(e:c[i]?=some x):∃x',c'[i]?=some x'/\En r x x':=by
 obtain⟨Y,_⟩:=bC.1 e;have K:=h.size▸Y;exact⟨c'[i],by simp,h.at_ i x _ e (by simp)⟩
theorem EA.none{c c':Array _}(h:EA r c c')(e:c[i]?=none):c'[i]?=none:=by
 simp at e⊢;have:=h.size;omega
theorem EA.modify{c c':Array _}(h:EA r c c')(i:Nat)(f f':ay->ay)(H:∀x x',En r x x'->En r (f x) (f' x')):EA r (c.modify i f) (c'.modify i f'):=by
 refine⟨by simp[h.size],fun j y I e e'=>?_⟩;rw[Array.getElem?_modify]at e e';by_cases Y:i=j
 ·rw[if_pos Y]at e e';obtain⟨x,D,rfl⟩:=dx.1 e;obtain⟨x',K,rfl⟩:=dx.1 e';exact H x x' (h.at_ j x x' D K)
 ·rw[if_neg Y]at e e';exact h.at_ j y I e e'
theorem O.mapOf{c c':Array _}(h:EA r c c')(n:Nat):O r (.map c n) (.map c' n):=.map n h.size h.at_
theorem aax(Z:qH P)(C:gK.size=P.globals.size)(M:∀k e,P.underlying t=some (.map k e)->∀d,P.underlying k=some d->plainKey d)(N:V r x x')(O:V r y I)(ok:Bool):
  SR P V r (da t x y ok) (da t x' I ok):=by
 unfold da;refine SR.bind (mW t) ?_;rintro t1 d _ l1 ⟨rfl,hd⟩;cases d with
 |map key K=>
  have hk:=M key K hd;simp only;have tail:∀{s:Rn} {es iK:Array ay},Le t1 s->EA s es iK->SR P V s
    (do
      cm es.isEmpty 10000 key y
      let o<-cn key y es.toList
      match o with
       |some (_,v)=>(do let(v,Y)<-pure (v,true);pure (if ok=true then bT #[v,.bool Y]else v))
       |none=>(do let z<-zeroValue K;let(v,Y)<-pure (z,false);pure (if ok=true then bT #[v,.bool Y]else v)))
    (do
      cm iK.isEmpty 10000 key I
      let o<-cn key I iK.toList
      match o with
       |some (_,v)=>(do let(v,Y)<-pure (v,true);pure (if ok=true then bT #[v,.bool Y]else v))
       |none=>(do let z<-zeroValue K;let(v,Y)<-pure (z,false);pure (if ok=true then bT #[v,.bool Y]else v))):=by
   intro s es iK l R;have H:iK.isEmpty=es.isEmpty:=by
    have:=R.size;rw[bY];simp[dW,this]
   rw[H];refine SR.bind (Nv _ _ _ _ hk) ?_;rintro t2 _ _ l2 _;refine SR.bind (Od C hk (((O.mono l1).mono l).mono l2) (R.mono l2).toList) ?_;rintro t3 o o' Q (⟨rfl,rfl⟩|⟨j,v,v',rfl,rfl,A,_⟩)
   ·refine SR.bind (xe Z K) ?_;intro t4 z S l4 U;cases ok
    ·exact .pure U
    ·exact .pure (.r8 (.two U (.bool _)))
   ·cases ok
    ·exact .pure A
    ·exact .pure (.r8 (.two A (.bool _)))
  have D:=N.mono l1;cases D with
  |oJ=>exact tail (.refl _) ⟨rfl,fun i x x' e=>by simp at e⟩
  |map e=>
   refine SR.bind (oF e) ?_;intro t2 o o' l2 F;cases F with
   |map L J B=>exact tail l2 ⟨J,B⟩
   |_=>exact gO _
  |_=>exact gO _
 |_=>exact gO _
end
section
variable[gK]{P:ak}{r:Rn}{α:Type}{A:Rn->α->α->Prop}
theorem Xq{a a' b b':af}(Y:Full a)(K:Full b)(h:V r a a')(k:V r b b'):eV n a' b'=eV n a b:=by
 have ptr:∀{a a' b b':Addr},Ad r a a'->Ad r b b'->((some a')==some b')=(some a==some b):=fun h k=>by
  have:=h.eq_iff k;simp_all
 cases Y<;>cases h<;>cases K<;>cases k<;>cases n<;>first|rfl|(exact ptr (by omega) (by omega))
theorem XQ{a a' b b':af}(K:Full a)(H:Full b)(h:V r a a')(k:V r b b'):SR P V r (c_ a b) (c_ a' b'):=by
 unfold c_;rw[Xq K H h k];refine iD (fun _=>.pure k) (fun _=>?_);refine SR.bind (rh _) ?_;rintro t n _ l rfl;by_cases Y:n=0
 ·simp[Y];exact .pure (k.mono l)
 ·simp[Y];exact .pure (h.mono l)
theorem Xr(S:gK.size=P.globals.size)(E:∀k e,P.underlying t=some (.map k e)->∀d,P.underlying k=some d->plainKey d){z z':af}(W:V r x x')(f:V r y I)(O:V r z z'):
  SR P iB r (eT t x y z) (eT t x' I z'):=by
 refine SR.bind (mW t) ?_;rintro t1 d _ l1 ⟨rfl,hd⟩;cases d with
 |map key M=>
  have hk:=E key _ hd;have U:=W.mono l1;cases U with
  |oJ=>exact mH trivial
  |map e=>
   refine SR.bind (oF e) ?_;intro t2 o o' l2 X;cases X with
   |map L Z T=>
    rename_i es iK;have H:EA t2 es iK:=⟨Z,T⟩;refine SR.bind (Nv _ _ _ _ hk) ?_;rintro t3 _ _ Y _;have K:=((f.mono l1).mono l2).mono Y;refine SR.bind (Od S hk K (H.mono Y).toList) ?_;rintro t4 o o' l4 (⟨rfl,rfl⟩|⟨j,v,v',rfl,rfl,c,Q,_,xm,C,fx⟩)
    ·exact uF (((l2.trans Y).trans l4) _ _ e) (.mapOf (((H.mono Y).mono l4).push (x:={key:=y,val:=z,born:=L}) (x':={key:=I,val:=z',born:=L}) ⟨K.mono l4,O.mono (((l1.trans l2).trans Y).trans l4),rfl⟩) _)
    ·simp only;have N:=by simpa using C
     obtain⟨q,D,B⟩:=H.get N;rw[N,D];refine SR.bind (XQ fx Q ((B.key.mono Y).mono l4) (K.mono l4)) ?_;intro t5 G F J R;exact uF ((((l2.trans Y).trans l4).trans J) _ _ e) (.mapOf ((((H.mono Y).mono l4).mono J).modify j (fun e=>{e with key:=G,val:=z}) (fun e=>{e with key:=F,val:=z'}) fun x x' A=>⟨R,O.mono ((((l1.trans l2).trans Y).trans l4).trans J),A.born⟩) _)
   |_=>exact gO _
  |_=>exact gO _
 |_=>exact gO _
theorem acr(t:ah)(D:V r x x'):SR P V r (Instr.range t x) (Instr.range t x'):=by
 refine SR.bind (kL t) ?_;rintro t1 d _ l1 rfl;have fin:∀{s:Rn} {o o':Obj},O s o o'->SR P V s (do pure (bF (some ⟨<-newObj o,0,none⟩))) (do pure (bF (some ⟨<-newObj o',0,none⟩))):=fun K=>
  SR.bind (xk K) fun s b b' _ e=>.pure (.ptr ⟨e,rfl,rfl⟩)
 have Y:=D.mono l1;cases d with
 |string=>
  cases Y with
  |string s=>exact fin (.stringIter s 0)
  |_=>exact gO _
 |map k e=>
  cases Y with
  |oJ=>exact fin (.qx _ _ _)
  |map H=>
   refine SR.bind (oF H) ?_;intro t2 o o' l2 K;cases K with
   |map R A I=>exact fin (.mapIter _ _ _ (l2 _ _ H))
   |_=>exact gO _
  |_=>exact gO _
 |_=>exact gO _
theorem EL.filter{xs ys:List _}(h:EL r xs ys)(f:ay->Bool)(Y:∀x y,En r x y->f y=f x):EL r (xs.filter f) (ys.filter f):=by
 induction h with
 |nil=>exact .nil
 |cons x _ K=>
  rw[fb,fb,Y _ _ x];split
  ·exact .cons x K
  ·omega
theorem EA.filter{c c':Array _}(h:EA r c c')(f:ay->Bool)(Y:∀x y,En r x y->f y=f x):EA r (c.filter f) (c'.filter f):=by
 have:=(h.toList.filter f Y).toArray;rw[<-ec,<-ec,bX,bX]at this;omega
theorem EA.append{a a' b b':Array _}(h:EA r a a')(k:EA r b b'):EA r (a++b) (a'++b'):=by
 have app:∀{xs ys us Y:List _},EL r xs ys->EL r us Y->EL r (xs++us) (ys++Y):=fun h k=>by
  induction h with
  |nil=>exact k
  |cons x _ K=>exact .cons x K
 have:=(app h.toList k.toList).toArray;rw[<-dZ,<-dZ,bX,bX]at this;omega
theorem EA.all{c c':Array _}(h:EA r c c')(f:ay->Bool)(Y:∀x y,En r x y->f y=f x):c'.all f=c.all f:=by
 have key:∀{xs ys:List _},EL r xs ys->ys.all f=xs.all f:=fun h=>by
  induction h with
  |nil=>rfl
  |cons x _ K=>simp;rw[Y _ _ x,K]
 have:=key h.toList;simp_all
theorem EA.isEmpty{c c':Array _}(h:EA r c c'):c'.isEmpty=c.isEmpty:=by
 have:=h.size;simp[dW,this]
theorem acs{c c':Array _}(h:EA r c c')(b:Bool):((if b=true then#[none]else#[])++c'.map some).size=((if b=true then#[none]else#[])++c.map some).size/\
  ∀i:Nat,(((if b=true then#[none]else#[])++c.map some)[i]?=none/\((if b=true then#[none]else#[])++c'.map some)[i]?=none)\/(((if b=true then#[none]else#[])++c.map some)[i]?=some none/\((if b=true then#[none]else#[])++c'.map some)[i]?=some none)\/
   ∃e e',((if b=true then#[none]else#[])++c.map some)[i]?=some (some e)/\((if b=true then#[none]else#[])++c'.map some)[i]?=some (some e')/\En r e e':=by
 have Y:=h.size;have one:∀i:Nat,((c.map some)[i]?=none/\(c'.map some)[i]?=none)\/∃e e',(c.map some)[i]?=some (some e)/\(c'.map some)[i]?=some (some e')/\En r e e':=by
  intro i;simp;cases D:c[i]? with
  |none=>left;simp_all
  |some x=>obtain⟨x',e',R⟩:=h.get D;simp_all
 cases b with
 |false=>
  simp only[bt,if_false,Array.empty_append];exact⟨by simp[Y],fun i=>(one i).imp id .inr⟩
 |true=>
  simp only[if_true];refine⟨by simp[Y],fun i=>?_⟩;cases i with
  |zero=>exact .inr (.inl ⟨by rw[dR (by simp)];rfl,by rw[dR (by simp)];rfl⟩)
  |succ i=>
   have K:(#[none]++c.map _)[i+1]?=(c.map some)[i]?:=dU (by simp);have H:(#[none]++c'.map some)[i+1]?=(c'.map _)[i]?:=dU (by simp);rw[K,H];exact(one i).imp id .inr
theorem aem(X:V r x x')(b:Bool)(t:ah):SR P V r (Instr.next x b t) (Instr.next x' b t):=by
 cases X with
 |ptr Q=>
  rename_i a a';obtain⟨ab,Z,aqY⟩:=a;obtain⟨M,B,N⟩:=a';obtain⟨C,O,E⟩:=Q;subst O;cases B with
  |zero=>
   refine SR.bind (oF C) ?_;intro t1 o o' l1 J;cases J with
   |stringIter s p=>
    cases b with
    |true=>
     refine iD (fun _=>?_) (fun _=>.pure (.r8 (.one (.bool _))));refine SR.bind (uF (l1 _ _ C) (.stringIter _ _)) ?_;rintro t2 _ _ l2 _;exact .pure (.r8 (.three (.bool _) (.int _ _) (.int _ _)))
    |false=>exact gO _
   |qx a s n=>
    cases b with
    |true=>exact gO _
    |false=>exact .pure (.r8 (.one (.bool _)))
   |mapIter since seen last L=>
    cases b with
    |true=>exact gO _
    |false=>
     refine SR.bind (oF L) ?_;intro t2 o o' l2 J;cases J with
     |map clock T S=>
      rename_i es iK;have F:EA t2 es iK:=⟨T,S⟩;simp only;rw[F.isEmpty,F.all _ fun x y h=>by rw[h.born]];refine iD (fun _=>Ay (iC _)) (fun _=>?_);have Y:=F.filter (fun e=>!seen.contains e.born) fun x y h=>by rw[h.born]
      have K:=Y.filter (fun e=>decide (e.born<since)) fun x y h=>by rw[h.born]
      have I:=Y.filter (fun e=>decide (e.born>=since)) fun x y h=>by rw[h.born]
      have R:=K.append I;rw[K.isEmpty];obtain⟨c1,c2⟩:=acs R _;rw[c1];refine SR.bind (rh _) ?_;rintro t3 i _ U rfl;rcases c2 i with⟨D,A⟩|⟨D,A⟩|⟨e,e',D,A,H⟩
      ·rw[D];exact gO _
      ·rw[D,A];exact .pure (.r8 (.one (.bool _)))
      ·rw[D,A];simp only;rw[H.born];refine SR.bind (uF (((l1.trans l2).trans U) _ _ C) (.mapIter _ _ _ ((l2.trans U) _ _ L))) ?_;rintro t4 _ _ l4 _;exact .pure (.r8 (.three (.bool _) ((H.key.mono U).mono l4) ((H.val.mono U).mono l4)))
     |_=>exact gO _
   |_=>exact gO _
  |succ n=>exact gO _
 |_=>exact gO _
theorem agD{c c':Array _}(h:EA r c c')(f:ay->Bool)(Y:∀x y,En r x y->f y=f x):(c.find? f=none/\c'.find? f=none)\/∃e e',c.find? f=some e/\c'.find? f=some e'/\En r e e':=by
 have key:∀{xs ys:List _},EL r xs ys->(xs.find? f=none/\ys.find? f=none)\/∃e e',xs.find? f=some e/\ys.find? f=some e'/\En r e e':=fun h=>by
  induction h with
  |nil=>exact .inl ⟨rfl,rfl⟩
  |cons x _ K=>
   simp only[List.find?_cons];rw[Y _ _ x];split
   ·simp_all
   ·omega
 have:=key h.toList;simp_all
theorem acu(O:V r x x'):SR P V r (Instr.entry x) (Instr.entry x'):=by
 cases O with
 |ptr J=>
  rename_i a a';obtain⟨ab,Q,aqY⟩:=a;obtain⟨A,H,U⟩:=a';obtain⟨C,F,S⟩:=J;subst F;cases H with
  |zero=>
   refine SR.bind (oF C) ?_;intro t1 o o' l1 R;cases R with
   |mapIter since seen last B=>
    simp only;split
    ·refine SR.bind (oF B) ?_;intro t2 o o' l2 R;cases R with
     |map clock N M=>
      rename_i es iK;have L:EA t2 es iK:=⟨N,M⟩;refine iD (fun _=>Ay (iC _)) (fun _=>?_);rename_i Y _ _;rcases agD L (fun e=>e.born==Y) (fun x y h=>by rw[h.born])with⟨D,I⟩|⟨e,e',D,I,K⟩
      ·rw[D];exact iC _
      ·rw[D,I];exact .pure (.r8 (.two K.key K.val))
     |_=>exact gO _
    ·exact gO _
   |_=>exact gO _
  |succ n=>exact gO _
 |_=>exact gO _
theorem W6(Z:qH P)(U:V r x x')(H a:ah)(D:∀ms,P.underlying a≠some (.interface ms)):SR P V r (db x H a true) (db x' H a true):=by
 refine SR.bind (mW a) ?_;rintro t1 d _ l1 ⟨rfl,hd⟩;have Y:∀{s:Rn},SR P V s (do pure (bT #[<-zeroValue a,.bool false])) _:=fun{s}=>
  SR.bind (xe Z a) fun _ _ _ _ e=>.pure (.r8 (.two e (.bool _)))
 have K:=U.mono l1;cases d with
 |interface ms=>exact absurd hd (D ms)
 |_=>
  cases K with
  |nilIface=>exact Y
  |iface t R=>
   refine iD (fun _=>.pure (.r8 (.two R (.bool _)))) (fun _=>Y)
  |_=>exact gO _
theorem XR:SR P A r (bH .panicNil) (bH .panicNil):=by
 refine SR.bind mX ?_;rintro s p q _ ⟨K,H⟩;rw[K,H];refine SR.bind (He _) ?_;rintro t1 e _ l1 rfl;refine SR.bind (Hf e (.D7 (VA.nil))) ?_;intro t2 a a' l2 Y;exact wV (.iface _ (.ptr Y))
theorem Y2(D:V r x x'):SR P V r (Instr.panic x) (Instr.panic x'):=by
 cases D with
 |iface t H=>exact wV (.iface t H)
 |nilIface=>
  have q:SR P iB r eU eU:=by
   refine SR.bind (.env fun _ _ _=>.pure rfl) ?_;rintro t1 x _ l1 rfl;split
   ·refine SR.bind mX ?_;rintro t2 p q l2 ⟨Y,K⟩;rw[Y,K];exact .pure rfl
   ·exact gO _
  refine SR.bind q ?_;rintro t1 n _ l1 rfl;exact iD (fun _=>wV .nilIface) (fun _=>XR)
 |_=>exact gO _
end
section
variable[gK]{P:ak}{r:Rn}{α:Type}{A:Rn->α->α->Prop}
theorem Y3(op:aK)(k:aI)(a b:Int):SR P V r (Op.intBits op k a b) (Op.intBits op k a b):=by
 cases op<;>first|exact .pure (.int _ _)|exact gO _
theorem aay(op:aK)(k:aI)(a b:Int):SR P V r (dt op k a b) (dt op k a b):=by
 unfold dt;split
 ·exact mH trivial
 ·cases op<;>first|exact .pure (.int _ _)|exact gO _
theorem PY(op:aK)(k:aI)(a:Int)(j:aI)(b:Int):SR P V r (du op k a j b) (du op k a j b):=by
 unfold du;split
 ·exact mH trivial
 ·cases op<;>first|exact .pure (.int _ _)|exact gO _
theorem acv(op:UnOp)(h:V r x x'):SR P V r (Op.unary op x) (Op.unary op x'):=by
 cases h<;>cases op<;>first|exact R2 _ _ _ _|exact .pure (.int _ _)|exact .pure (.bool _)|exact iC _|exact gO _
theorem Nh(t:ah)(h:Ad r a a')(D:V r y I):SR P (fun s x x'=>∃b b',x=.pointer (some b)/\x'=.pointer (some b')/\Ad s b b') r (cf #[] t #[.pointer (some a),y]) (cf #[] t #[.pointer (some a'),I]):=by
 refine SR.bind (yH D) ?_;rintro t1 n _ l1 rfl;have Y:=h.mono l1;refine iD (fun _=>?_) (fun _=>?_)
 ·refine SR.bind (CL Y.block) ?_;rintro t2 x y l2 (⟨rfl,rfl⟩|⟨_,_,_,rfl,rfl,_⟩)
  ·exact .pure ⟨_,_,rfl,rfl,Y.mono l2⟩
  ·exact iC _
 ·refine iD (fun _=>?_) (fun _=>?_)
  ·exact iC _
  ·refine SR.bind (pQ Y.block) ?_;rintro t2 x _ l2 rfl;split
   ·refine SR.bind mX ?_;rintro t3 p q R ⟨K,H⟩;rw[K,H,Y.off];split
    ·exact .pure ⟨_,_,rfl,rfl,⟨(l2.trans R) _ _ Y.block,rfl,Y.spot⟩⟩
    ·exact iC _
   ·exact iC _
theorem XS(h:Ad r a a')(b:Bool):SR P V r (asNumber a b) (asNumber a' b):=by
 exact SR.bind (xk (.number b h)) fun s x x' l e=>.pure (.ptr ⟨e,rfl,rfl⟩)
theorem OU(t:ah)(Y:V r y I):SR P (fun _ _ _=>False) r (cf #[] t #[.pointer none,y]) (cf #[] t #[.pointer none,I]):=by
 refine SR.bind (yH Y) ?_;rintro t1 n _ l1 rfl;refine iD (fun _=>?_) (fun _=>?_)
 ·exact iC _
 ·refine iD (fun _=>?_) (fun _=>?_)
  ·exact iC _
  ·exact iC _
theorem yh(t:ah)(U:V r x x')(C:V r y I)(h:(∃a,x=.pointer a)):SR P V r (movedNumber t x y) (movedNumber t x' I):=by
 refine SR.bind (kL t) ?_;rintro t1 d _ l1 rfl;refine iD (fun _=>?_) (fun _=>?_)
 ·exact iC _
 have H:=U.mono l1;have Y:=C.mono l1;obtain⟨a,rfl⟩:=h;cases H with
 |nilPtr=>exact(OU t Y).imp fun _ _ _ _ h=>h.elim
 |ptr D=>
  refine SR.bind (wj D) ?_;rintro t3 ⟨a1,b1⟩ ⟨a2,b2⟩ A ⟨K,e⟩;subst e;refine SR.bind (Nh t K (Y.mono A)) ?_;rintro t4 _ _ l4 ⟨b,b',rfl,rfl,R⟩;exact XS R _
theorem MJ(t:ah)(D:V r x x')(K:V r y I)(h:(∃a,x=.pointer a)):SR P V r (alG t x y) (alG t x' I):=by
 obtain⟨a,rfl⟩:=h;cases D with
 |nilPtr=>exact(OU t K).imp fun _ _ _ _ h=>h.elim
 |ptr Y=>
  refine SR.bind (Nz Y.block) ?_;rintro t1 x y l1 (⟨rfl,rfl⟩|⟨_,_,_,rfl,rfl,_⟩)
  ·refine(Nh t (Y.mono l1) (K.mono l1)).imp ?_;rintro _ _ _ _ ⟨b,b',rfl,rfl,H⟩;exact V.ptr H
  ·exact iC _
theorem Ni(C:gK.size=P.globals.size){b b':Addr}(Y:Ad r a a')(K:Ad r b b'):SR P iB r (alf a b) (alf a' b'):=by
 refine SR.bind mX ?_;rintro t1 p q l1 ⟨R,I⟩;rw[R,I];have H:=Y.It K;have U:=r.jo _ _ Y.block;have D:(a'.block != b'.block||decide (a'.block>=P.globals.size))=(a.block != b.block||decide (a.block>=P.globals.size)):=by
  rw[bne,bne,H];congr 1;rw[decide_eq_decide];omega
 rw[D];refine iD (fun _=>?_) (fun _=>?_)
 ·exact iC _
 refine SR.bind (wi (Y.mono l1)) ?_;rintro t3 x _ A rfl;refine SR.bind (wi ((K.mono l1).mono A)) ?_;rintro t4 y _ l4 rfl;exact .pure rfl
theorem Y4(Y:gK.size=P.globals.size)(k:aI){b b':Addr}(K:Ad r a a')(H:Ad r b b'):SR P V r (Op.addrSub k a b) (Op.addrSub k a' b'):=by
 refine SR.bind (Ni Y K H) ?_;rintro t1 x _ l1 rfl;exact .pure (.int _ _)
theorem Y5(Y:gK.size=P.globals.size)(op:aK){b b':Addr}(K:Ad r a a')(H:Ad r b b'):SR P V r (Op.addrCmp op a b) (Op.addrCmp op a' b'):=by
 refine SR.bind (Ni Y K H) ?_;rintro t1 x _ l1 rfl;cases op<;>first|exact .pure (.bool _)|exact iC _
theorem Oe(k:aI)(Y:Ad r a a')(n:Int):SR P V r (Op.addrMod k a n) (Op.addrMod k a' n):=by
 refine SR.bind (pQ Y.block) ?_;rintro t1 x _ l1 rfl;split
 ·refine SR.bind (q_ _) ?_;rintro t2 i _ l2 ⟨rfl,_⟩;refine iD (fun _=>?_) (fun _=>?_)
  ·exact iC _
  refine SR.bind (wi ((Y.mono l1).mono l2)) ?_;rintro t4 y _ l4 rfl;exact .pure (.int _ _)
 ·exact iC _
theorem Nj(z:∀b,¬gK.ro b)(h:Ad r a a'):SR P iB r (stringish a) (stringish a'):=by
 refine SR.bind (CK z h) ?_;rintro t1 b _ l1 rfl;refine iD (fun _=>?_) (fun _=>?_)
 ·exact .pure rfl
 ·refine SR.bind (pQ (h.mono l1).block) ?_;rintro t2 x _ l2 rfl;split
  ·exact CK z ⟨(l1.trans l2) _ _ h.block,rfl,rfl⟩
  ·exact .pure rfl
theorem XT(z:∀b,¬gK.ro b){b b':Addr}(Y:Ad r a a')(K:Ad r b b'):SR P iB r (mayBeOne a b) (mayBeOne a' b'):=by
 refine SR.bind (Nj z Y) ?_;rintro t1 x _ l1 rfl;refine SR.bind (Nj z (K.mono l1)) ?_;rintro t2 y _ l2 rfl;refine SR.bind (SR.bind (pQ ((Y.mono l1).mono l2).block) fun _ _ _ _ e=>by subst e;exact .pure rfl) ?_;rintro t3 u _ H rfl;refine SR.bind (SR.bind (pQ (((K.mono l1).mono l2).mono H).block) fun _ _ _ _ e=>by subst e;exact .pure rfl) ?_;rintro t4 u _ l4 rfl;exact .pure rfl
theorem XU(z:∀b,¬gK.ro b){b b':Addr}(H:Ad r a a')(D:Ad r b b'):SR P iB r (dP a b) (dP a' b'):=by
 unfold dP;rw[H.It D,H.eq_iff D];refine iD (fun _=>?_) (fun _=>?_)
 ·exact .pure rfl
 refine SR.bind (CK z H) ?_;rintro t1 x _ l1 rfl;refine SR.bind (CK z (D.mono l1)) ?_;rintro t2 y _ l2 rfl;refine iD (fun _=>?_) (fun _=>?_)
 ·exact iC _
 have Y:=(H.mono l1).mono l2;have K:=(D.mono l1).mono l2;refine SR.bind (Hg Y) ?_;rintro t3 _ _ R _;refine SR.bind (Hg (K.mono R)) ?_;rintro t4 _ _ l4 _;refine SR.bind (XT z ((Y.mono R).mono l4) ((K.mono R).mono l4)) ?_;rintro t5 u _ I rfl;refine iD (fun _=>?_) (fun _=>?_)
 ·refine SR.bind (rh _) ?_;rintro A n _ l6 rfl;exact .pure rfl
 ·exact .pure rfl
theorem XV(z:∀b,¬gK.ro b){e:ah}(R:P.underlying t=some (.pointer e))(U:V r x x')(C:V r y I):SR P iB r (au t x y) (au t x' I):=by
 refine SR.bind (mW t) ?_;rintro t1 d _ l1 ⟨rfl,hd⟩;rw[R]at hd;obtain rfl:=Option.some.inj hd;have K:=U.mono l1;have Y:=C.mono l1;cases K with
 |nilPtr=>
  cases Y with
  |nilPtr=>exact .pure rfl
  |ptr _=>exact .pure rfl
  |_=>exact gO _
 |ptr H=>
  cases Y with
  |nilPtr=>exact .pure rfl
  |ptr D=>
   refine SR.bind (mY _) ?_;rintro t2 n _ l2 rfl;refine iD (fun _=>?_) (fun _=>?_)
   ·exact XU z (H.mono l2) (D.mono l2)
   ·rw[(H.mono l2).eq_iff (D.mono l2)];refine iD (fun _=>?_) (fun _=>?_)
    ·exact .pure rfl
    ·refine SR.bind (rh _) ?_;rintro t3 k _ A rfl;exact .pure rfl
  |_=>exact gO _
 |_=>exact gO _
theorem NA{m:Array _}(K:P.underlying t=some (.interface m))(H:V r x x'):SR P iB r (au t x .nilIface) (au t x' .nilIface):=by
 refine SR.bind (mW t) ?_;rintro t1 d _ l1 ⟨rfl,hd⟩;rw[K]at hd;obtain rfl:=Option.some.inj hd;have Y:=H.mono l1;cases Y with
 |nilIface=>exact .pure rfl
 |iface _ _=>exact .pure rfl
 |_=>exact gO _
end
section
variable[gK]{P:ak}{r:Rn}{α:Type}{A:Rn->α->α->Prop}
def SI(P:ak)(t:ah):Prop:=∃fs,P.underlying t=some (.struct fs)/\P.stoodInHeld t=false/\∀f∈fs.toList,∀d,P.underlying f.type=some d->plainKey d
def Bo(P:ak)(t:ah):Prop:=(∀d,P.underlying t=some d->plainKey d)\/(∃e,P.underlying t=some (.pointer e))\/SI P t
theorem OV{Y γ:Type}(f f':γ->Y->Sem (ForInStep Y)):∀{xs:List γ} (b:Y) {r:Rn},(∀t x b,x∈xs->Le r t->SR P iB t (f x b) (f' x b))->SR P iB r (forIn xs b f) (forIn xs b f')
 |[],b,r,h=>.pure rfl
 |x::xs,b,r,h=>by
  rw[cw,cw];refine SR.bind (h r x b (by simp) (.refl _)) ?_;rintro t1 x _ l1 rfl;cases x with
  |done b=>exact .pure rfl
  |yield b=>exact OV f f' b (fun t x b m l=>h t x b (by simp[m]) (l1.trans l))
theorem XW(C:gK.size=P.globals.size)(h:SI P t)(O:V r x x')(Q:V r y I):SR P iB r (au t x y) (au t x' I):=by
 obtain⟨fs,A,U,B⟩:=h;unfold au bm;rw[show(10000:Nat)=9998+1+1 from rfl];rw[aU,aU];refine SR.bind (mW t) ?_;rintro t1 d _ l1 ⟨rfl,hd⟩;rw[A]at hd;cases hd;have Y:=O.mono l1;have K:=Q.mono l1;cases Y with
 |agg D v1=>
  cases K with
  |agg R v2=>
   refine SR.bind mX ?_;rintro t2 p q l2 ⟨M,N⟩;rw[M,N,U];simp only[bt,if_false,<-dQ];refine SR.bind (OV _ _ _ ?_) ?_
   ·intro t3 f b L H;refine iD (fun _=>?_) (fun _=>.pure rfl);refine SR.bind (Dq f.type (VA.mono (l2.trans H) ⟨D,v1⟩) f.offset) ?_;intro t4 a a' l4 F;refine SR.bind (Dq f.type (VA.mono ((l2.trans H).trans l4) ⟨R,v2⟩) f.offset) ?_;intro t5 c c' S J;refine SR.bind (Oc C (B f L) (F.mono S) J 9998) ?_;rintro T o _ l6 ⟨rfl,_⟩;exact iD (fun _=>.pure rfl) (fun _=>.pure rfl)
   ·rintro t3 s _ H rfl;split<;>exact .pure rfl
  |_=>exact gO _
 |_=>exact gO _
theorem Of(H:gK.size=P.globals.size)(z:(∃e,P.underlying t=some (.pointer e))->∀b,¬gK.ro b)(h:Bo P t)(Y:V r x x')(K:V r y I):SR P iB r (au t x y) (au t x' I):=by
 rcases h with h|⟨e,h⟩|h
 ·exact(PX H h Y K).imp fun _ _ _ _ q=>q.1
 ·exact XV (z ⟨e,h⟩) h Y K
 ·exact XW H h Y K
theorem OW{s s':Sem Bool}(h:SR P iB r s s'):SR P V r (do pure (cE (<-s))) (do pure (cE (<-s'))):=SR.bind h fun _ _ _ _ e=>by subst e;exact .pure (.bool _)
theorem PZ{s s':Sem Bool}(h:SR P iB r s s'):SR P V r (do pure (cE (!(<-s)))) (do pure (cE (!(<-s')))):=SR.bind h fun _ _ _ _ e=>by subst e;exact .pure (.bool _)
def pR:af->af->Bool
 |.int ..,.int .. |.string _,.string _=>true
 |_,_=>false
theorem binOp_eql(t:ah)(h:pR x y=false)(K:∀k b,x≠.float k b)(Y:∀k a b,x≠.complex k a b):binOp .eql t x y=(do pure (.bool (<-au t x y)))/\binOp .neq t x y=(do pure (.bool (!(<-au t x y)))):=by
 cases x<;>first|exact absurd rfl (K _ _)|exact absurd rfl (Y _ _ _)|(cases y<;>first|exact⟨rfl,rfl⟩|(simp[pR]at h))
theorem V.sC(h:V r x x'):(∀k b,x≠.float k b)/\(∀k a b,x≠.complex k a b):=⟨fun _ _ e=>(by subst e;cases h),fun _ _ _ e=>(by subst e;cases h)⟩
theorem V.SJ(h:V r x x')(n:x≠.tuple #[]):(∀k b,x'≠.float k b)/\(∀k a b,x'≠.complex k a b):=by
 cases h with
 |blank _=>exact absurd rfl n
 |_=>exact⟨fun _ _ e=>(by cases e),fun _ _ _ e=>(by cases e)⟩
theorem NB(U:gK.size=P.globals.size){op:aK}(Y:op≠.eql/\op≠.neq)(C:V r x x')(R:V r y I):SR P V r (binOp op t x y) (binOp op t x' I):=by
 cases C with
 |int k a=>
  cases R with
  |int k' b=>
   cases op<;>first|exact absurd rfl Y.1|exact absurd rfl Y.2|exact PY .shl k a k' b|exact PY .shr k a k' b|exact iD (fun _=>gO _) (fun _=>R2 _ _ _ _)|exact iD (fun _=>gO _) (fun _=>aay _ _ _ _)|exact iD (fun _=>gO _) (fun _=>Y3 _ _ _ _)|exact iD (fun _=>gO _) (fun _=>R3 _ _ _)
  |ptr H=>cases op<;>first|exact absurd rfl Y.1|exact absurd rfl Y.2|exact yh t (.ptr H) (.int _ _) ⟨_,rfl⟩|(refine SR.bind (wj H) ?_;rintro t1 ⟨a1,b1⟩ ⟨a2,b2⟩ l1 ⟨K,_⟩;exact Oe _ K _)|exact iC _|exact gO _
  |nilPtr=>cases op<;>first|exact absurd rfl Y.1|exact absurd rfl Y.2|exact yh t .nilPtr (.int _ _) ⟨_,rfl⟩|exact iC _|exact gO _
  |_=>cases op<;>first|exact absurd rfl Y.1|exact absurd rfl Y.2|exact gO _
 |string a=>
  cases R with
  |string b=>
   have e:binOp op t (.string a) (.string b)=bQ op a b:=by cases op<;>rfl
   rw[e];exact IX op a b
  |ptr H=>cases op<;>first|exact absurd rfl Y.1|exact absurd rfl Y.2|exact iC _|exact gO _
  |nilPtr=>cases op<;>first|exact absurd rfl Y.1|exact absurd rfl Y.2|exact iC _|exact gO _
  |_=>cases op<;>first|exact absurd rfl Y.1|exact absurd rfl Y.2|exact gO _
 |ptr D=>
  cases R with
  |int k b=>
   cases op<;>first|exact absurd rfl Y.1|exact absurd rfl Y.2|exact yh t (.ptr D) (.int _ _) ⟨_,rfl⟩|(refine SR.bind (kL t) ?_;rintro t1 d _ l1 rfl;exact iD (fun _=>MJ t (.ptr (D.mono l1)) (.int _ _) ⟨_,rfl⟩) (fun _=>yh t (.ptr (D.mono l1)) (.int _ _) ⟨_,rfl⟩))|(refine SR.bind (wj D) ?_;rintro t1 ⟨a1,b1⟩ ⟨a2,b2⟩ l1 ⟨K,_⟩;exact Oe _ K _)|exact iC _|exact gO _
  |ptr H=>
   cases op<;>first|exact absurd rfl Y.1|exact absurd rfl Y.2|(refine SR.bind (wj D) ?_;rintro t1 ⟨a1,b1⟩ ⟨a2,b2⟩ l1 ⟨K,_⟩;refine SR.bind (wj (H.mono l1)) ?_;rintro t2 ⟨a3,B⟩ ⟨a4,b4⟩ l2 ⟨A,_⟩;first|exact Y4 U _ (K.mono l2) A|exact Y5 U _ (K.mono l2) A)|exact iC _|exact gO _
  |_=>cases op<;>first|exact absurd rfl Y.1|exact absurd rfl Y.2|exact iC _|exact gO _
 |nilPtr=>
  cases R with
  |int k b=>cases op<;>first|exact absurd rfl Y.1|exact absurd rfl Y.2|exact yh t .nilPtr (.int _ _) ⟨_,rfl⟩|(refine SR.bind (kL t) ?_;rintro t1 d _ l1 rfl;exact iD (fun _=>MJ t .nilPtr (.int _ _) ⟨_,rfl⟩) (fun _=>yh t .nilPtr (.int _ _) ⟨_,rfl⟩))|exact iC _|exact gO _
  |_=>cases op<;>first|exact absurd rfl Y.1|exact absurd rfl Y.2|exact iC _|exact gO _
 |_=>
  cases R with
  |ptr H=>cases op<;>first|exact absurd rfl Y.1|exact absurd rfl Y.2|exact iC _|exact gO _
  |nilPtr=>cases op<;>first|exact absurd rfl Y.1|exact absurd rfl Y.2|exact iC _|exact gO _
  |_=>cases op<;>first|exact absurd rfl Y.1|exact absurd rfl Y.2|exact gO _
theorem acw(Y:V r x x')(K:V r y I)(h:pR x y=false)(h':pR x' I=true):x=.tuple #[]\/y=.tuple #[]:=by
 cases Y<;>first|exact .inl rfl|(cases K<;>first|exact .inr rfl|(simp[pR]at h h'))
theorem Y6(h:Bo P t)(Y:x=.tuple #[]\/y=.tuple #[])(v:ae):∃z v1,(au t x y).run P v=.halt z v1/\rI z:=by
 rcases h with h|⟨e,h⟩|⟨e,h,_⟩
 ·exact Nw h Y v
 ·unfold au bm;rw[show(10000:Nat)=9999+1 from rfl];unfold aU underlying program;simp only[bind,Sem.bind,Sem.run,h];rcases Y with rfl|rfl
  ·exact⟨_,_,rfl,.inr ⟨_,rfl⟩⟩
  ·cases x with
   |pointer a=>cases a<;>exact⟨_,_,rfl,.inr ⟨_,rfl⟩⟩
   |_=>exact⟨_,_,rfl,.inr ⟨_,rfl⟩⟩
 ·unfold au bm;rw[show(10000:Nat)=9999+1 from rfl];unfold aU underlying program;simp only[bind,Sem.bind,Sem.run,h];rcases Y with rfl|rfl
  ·exact⟨_,_,rfl,.inr ⟨_,rfl⟩⟩
  ·cases x<;>exact⟨_,_,rfl,.inr ⟨_,rfl⟩⟩
theorem acx(F:gK.size=P.globals.size){op:aK}(U:op=.eql\/op=.neq)(z:(∃e,P.underlying t=some (.pointer e))->∀b,¬gK.ro b)(C:Bo P t)(K:V r x x')(H:V r y I):SR P V r (binOp op t x y) (binOp op t x' I):=by
 by_cases Y:pR x y=true
 ·cases K with
  |int k a=>
   cases H with
   |int k' b=>rcases U with rfl|rfl<;>exact iD (fun _=>gO _) (fun _=>R3 _ _ _)
   |_=>simp[pR]at Y
  |string a=>
   cases H with
   |string b=>
    have e:binOp op t (.string a) (.string b)=bQ op a b:=by cases op<;>rfl
    rw[e];exact IX op a b
   |_=>simp[pR]at Y
  |_=>simp[pR]at Y
 ·have Y:pR x y=false:=by simpa using Y
  obtain⟨L,M⟩:=binOp_eql t Y K.sC.1 K.sC.2;by_cases A:x=.tuple #[]\/y=.tuple #[]
  ·refine .lost fun v=>?_;obtain⟨q,v1,e,N⟩:=Y6 C A v;rcases U with rfl|rfl
   ·simp_all
   ·simp_all
  ·have B:pR x' I=false:=by
    cases h:pR x' I with
    |false=>rfl
    |true=>exact absurd (acw K H Y h) A
   have J:=K.SJ fun e=>A (.inl e);obtain⟨D,R⟩:=binOp_eql t B J.1 J.2;rcases U with rfl|rfl
   ·rw[L,D];exact OW (Of F z C K H)
   ·rw[M,R];exact PZ (Of F z C K H)
theorem aaz{op:aK}(U:op=.eql\/op=.neq){m:Array (String×ah)}(D:P.underlying t=some (.interface m))(Y:V r x x'):SR P V r (binOp op t x .nilIface) (binOp op t x' .nilIface):=by
 by_cases R:x=.tuple #[]
 ·subst R;refine .lost fun v=>?_;have e:∃q v1,(au t (.tuple #[]) .nilIface).run P v=.halt q v1/\rI q:=by
   unfold au bm;unfold aU underlying program;simp only[bind,Sem.bind,Sem.run,D];exact⟨_,_,rfl,.inr ⟨_,rfl⟩⟩
  obtain⟨q,v1,e,C⟩:=e;refine⟨q,v1,?_,C⟩;rcases U with rfl|rfl
  ·show(Sem.bind _ _).run P v=_;rw[aW,e];rfl
  ·show(Sem.bind _ _).run P v=_;rw[aW,e];rfl
 ·have tp:∀y,pR y .nilIface=false:=fun y=>by cases y<;>rfl
  obtain⟨A,B⟩:=binOp_eql t (tp x) Y.sC.1 Y.sC.2;have I:=Y.SJ R;obtain⟨K,H⟩:=binOp_eql t (tp x') I.1 I.2;rcases U with rfl|rfl
  ·rw[A,K];exact OW (NA D Y)
  ·rw[B,H];exact PZ (NA D Y)
end
section
variable[gK]{P:ak}{r:Rn}{α:Type}{A:Rn->α->α->Prop}
theorem P0{K:Type}(f f':af->K->Sem _):∀{xs ys:List _} b {r:Rn},(∀t x x' b,Le r t->V t x x'->SR P iB t (f x b) (f' x' b))->VL r xs ys->SR P iB r (forIn xs b f) (forIn ys b f')
 |_,_,b,r,h,.nil=>.pure rfl
 |_,_,b,r,h,.cons Y rest=>by
  rw[cw,cw];refine SR.bind (h r _ _ b (.refl _) Y) ?_;rintro t1 x _ l1 rfl;cases x with
  |done b=>exact .pure rfl
  |yield b=>exact P0 f f' b (fun t x x' b l=>h t x x' b (l1.trans l)) (VL.mono l1 rest)
theorem Wo(Y:V r x x'):SR P V r (eo x) (eo x'):=by
 cases Y with
 |kW l c=>exact .pure (.string _)
 |slice l c K=>
  refine SR.bind (Gx l K) ?_;intro t1 cs gW l1 H;simp[<-dQ];refine SR.bind (P0 _ _ _ ?_ H.toList) ?_
  ·intro t x x' b l Y;cases Y with
   |int k n=>cases k<;>first|exact .pure rfl|exact gO _
   |_=>exact gO _
  ·rintro t2 s _ l2 rfl;exact .pure (.string _)
 |_=>exact gO _
theorem Y7(h:r b=some b'):SR P iB r (cellsIn b) (cellsIn b'):=by
 refine SR.bind (pQ h) ?_;rintro t1 x _ l1 rfl;split
 ·exact .pure rfl
 ·refine SR.bind (oF (l1 _ _ h)) ?_;intro t2 o o' l2 Y;cases Y<;>exact .pure rfl
theorem MP(h:Ad r a a')(u:ah)(n:Nat):SR P iB r (variablesAt a u n) (variablesAt a' u n):=by
 refine SR.bind mX ?_;rintro t1 p q l1 ⟨Y,K⟩;rw[Y,K];refine SR.bind (pQ (l1 _ _ h.block)) ?_;rintro t2 x _ l2 rfl;rw[h.off];split<;>exact .pure rfl
theorem OX(h:Ad r a a'):SR P Ad r (Conv.seenAt a) (Conv.seenAt a'):=by
 refine SR.bind (CL h.block) ?_;rintro t1 x y l1 (⟨rfl,rfl⟩|⟨b,b',u,rfl,rfl,Y⟩)
 ·exact .pure (h.mono l1)
 ·rw[h.off,h.spot];refine iD (fun _=>.pure Y) (fun _=>?_);rw[Y.spot];refine iD (fun _=>?_) (fun _=>?_)
  ·exact iC _
  refine SR.bind mX ?_;rintro t2 p q l2 ⟨K,H⟩;rw[K,H];split
  ·refine SR.bind (pQ (l2 _ _ Y.block)) ?_;rintro t3 x _ D rfl;split
   ·refine iD (fun _=>?_) (fun _=>?_)
    ·exact iC _
    rw[Y.off];split
    ·exact .pure ⟨(l2.trans D) _ _ Y.block,rfl,rfl⟩
    ·exact iC _
   ·exact iC _
  ·exact iC _
theorem GY(z:∀b,¬gK.ro b)(h:Ad r a a')(t:ah):SR P V r (do let b<-newObj (.view a t);pure (.pointer (some ⟨b,0,none⟩))) (do let b<-newObj (.view a' t);pure (.pointer (some ⟨b,0,none⟩))):=
 SR.bind (xk (.view t (z _) h)) fun _ _ _ _ e=>.pure (.ptr ⟨e,rfl,rfl⟩)
theorem XY(z:∀b,¬gK.ro b){e:ah}(D:P.underlying src=some (.pointer e))(R:P.underlying dst=some .unsafePointer)(U:V r x x'):SR P V r (cj src dst x) (cj src dst x'):=by
 refine SR.bind (mW src) ?_;rintro t1 d _ l1 ⟨rfl,hd⟩;rw[D]at hd;obtain rfl:=Option.some.inj hd;refine SR.bind (mW dst) ?_;rintro t2 d _ l2 ⟨rfl,hd⟩;rw[R]at hd;obtain rfl:=Option.some.inj hd;have H:=(U.mono l1).mono l2;cases H with
 |nilPtr=>exact .pure .nilPtr
 |ptr I=>
  refine SR.bind (OX I) ?_;intro t3 s s' B K;refine SR.bind (Y7 K.block) ?_;rintro t4 n _ l4 rfl;rw[K.off,K.spot];refine SR.bind (mY _) ?_;rintro t5 m _ A rfl;have Y:=(K.mono l4).mono A;refine iD (fun _=>?_) (fun _=>.pure (.ptr Y));exact GY z Y _
 |_=>exact gO _
theorem W7(z:∀b,¬gK.ro b){e:ah}(U:P.underlying src=some .unsafePointer)(C:P.underlying dst=some (.pointer e))(F:V r x x'):SR P V r (cj src dst x) (cj src dst x'):=by
 refine SR.bind (mW src) ?_;rintro t1 d _ l1 ⟨rfl,hd⟩;rw[U]at hd;obtain rfl:=Option.some.inj hd;refine SR.bind (mW dst) ?_;rintro t2 d _ l2 ⟨rfl,hd⟩;rw[C]at hd;obtain rfl:=Option.some.inj hd;have D:=(F.mono l1).mono l2;cases D with
 |nilPtr=>exact .pure .nilPtr
 |ptr I=>
  refine SR.bind (OX I) ?_;intro t3 s s' L R;refine SR.bind (mY _) ?_;rintro t4 m _ l4 rfl;refine SR.bind (MP (R.mono l4) _ _) ?_;rintro t5 b _ A rfl;have Y:=(R.mono l4).mono A;refine iD (fun _=>.pure (.ptr Y)) (fun _=>?_);refine SR.bind (pQ Y.block) ?_;rintro M x _ l6 rfl;split
  ·refine SR.bind mX ?_;rintro N p q B ⟨K,H⟩;rw[K,H];refine SR.bind mX ?_;rintro O p q J ⟨K,H⟩;rw[K,H];refine iD (fun _=>?_) (fun _=>?_)
   ·exact iC _
   ·exact GY z (((Y.mono l6).mono B).mono J) _
  ·exact iC _
 |_=>exact gO _
inductive vo(P:ak)(src dst:ah):Prop
 |int {k k':aI}:P.underlying src=some (.int k)->P.underlying dst=some (.int k')->vo P src dst
 |toStr {e:ah}:P.underlying src=some (.slice e)->P.underlying e=some (.int .u8)->P.underlying dst=some .string->vo P src dst
 |toBytes {e:ah}:P.underlying src=some .string->P.underlying dst=some (.slice e)->P.underlying e=some (.int .u8)->vo P src dst
 |toUns {e:ah}:P.underlying src=some (.pointer e)->P.underlying dst=some .unsafePointer->vo P src dst
 |QX {e:ah}:P.underlying src=some .unsafePointer->P.underlying dst=some (.pointer e)->vo P src dst
theorem Y8(M:(∃k,P.underlying src=some (.int k))\/(∃e,P.underlying src=some (.slice e))\/∀b,¬gK.ro b)(h:vo P src dst)(F:V r x x'):SR P V r (convert src dst x) (convert src dst x'):=by
 have A:(∀k,P.underlying src≠some (.int k))->(∀e,P.underlying src≠some (.slice e))->∀b,¬gK.ro b:=fun H R=>by simp_all
 unfold convert;refine SR.bind (mW src) ?_;rintro t1 d1 _ l1 ⟨rfl,Y⟩;refine SR.bind (mW dst) ?_;rintro t2 d2 _ l2 ⟨rfl,K⟩;have D:=(F.mono l1).mono l2;cases h with
 |int H R=>
  rw[H]at Y;obtain rfl:=Option.some.inj Y;rw[R]at K;obtain rfl:=Option.some.inj K;cases D<;>first|exact .pure (.int _ _)|exact iC _|exact gO _
 |toStr H U R=>
  rw[H]at Y;obtain rfl:=Option.some.inj Y;rw[R]at K;obtain rfl:=Option.some.inj K;rename_i e;have I:=D;cases D with
  |int k n=>exact .pure (.string _)
  |string s=>exact .pure (.string _)
  |blank J=>
   refine .lost fun v=>⟨.stuck "bytesToString: slice expected",v,?_,.inr ⟨_,rfl⟩⟩;show(Sem.bind (underlying e) _).run P v=_
   have C:(underlying e).run P v=.ok (.int .u8) v:=by simp[underlying,program,bind,Sem.bind,Sem.run,U,pure]
   rw[aW,C];rfl
  |_=>
   refine SR.bind (mW e) ?_;rintro t3 d _ B ⟨rfl,hd⟩;rw[U]at hd;obtain rfl:=Option.some.inj hd;exact Wo (I.mono B)
 |toBytes H R U=>
  have z:=A (fun k x=>by rw[H]at x;cases x) (fun k x=>by rw[H]at x;cases x);rw[H]at Y;obtain rfl:=Option.some.inj Y;rw[R]at K;obtain rfl:=Option.some.inj K;cases D with
  |string s=>
   refine SR.bind (mW _) ?_;rintro t3 d _ B ⟨rfl,hd⟩;rw[U]at hd;obtain rfl:=Option.some.inj hd;exact W3 z _ _
  |_=>first|exact iC _|exact gO _
 |toUns H R=>
  have z:=A (fun k x=>by rw[H]at x;cases x) (fun k x=>by rw[H]at x;cases x);rw[H]at Y;obtain rfl:=Option.some.inj Y;rw[R]at K;obtain rfl:=Option.some.inj K;have I:=D;cases D<;>exact XY z H R I
 |QX H R=>
  have z:=A (fun k x=>by rw[H]at x;cases x) (fun k x=>by rw[H]at x;cases x);rw[H]at Y;obtain rfl:=Option.some.inj Y;rw[R]at K;obtain rfl:=Option.some.inj K;have I:=D;cases D<;>exact W7 z H R I
end
section
variable[gK]{P:ak}{r:Rn}{α:Type}{A:Rn->α->α->Prop}
theorem aen(H:V r x x')(Y:V r y I):SR P V r (bL x y) (bL x' I):=by
 cases H with
 |int k a=>
  cases Y with
  |int k' b=>exact .pure (.int _ _)
  |_=>first|exact iC _|exact gO _
 |string a=>
  cases Y with
  |string b=>
   refine SR.bind (IX .leq a b) ?_;intro t1 u D l1 K;refine SR.bind (OR K) ?_;rintro t2 c _ l2 rfl;exact .pure (.string _)
  |_=>first|exact iC _|exact gO _
 |ptr a=>exact iC _
 |_=>cases Y<;>first|exact iC _|exact gO _
theorem QY:∀{xs ys:List _} {r:Rn} {x x':af},VL r xs ys->V r x x'->SR P V r (xs.foldlM bL x) (ys.foldlM bL x')
 |_,_,r,x,x',.nil,Y=>.pure Y
 |_,_,r,x,x',.cons H rest,Y=>by
  refine SR.bind (aen Y H) ?_;intro t1 u D l1 K;exact QY (VL.mono l1 rest) K
theorem agE(D:Array _)(t:ah){a a':Array _}(h:VA r a a'):SR P V r (bM D t a) (bM D t a'):=by
 unfold bM;have Y:=h.toList;cases H:a.toList with
 |nil=>exact gO _
 |cons x xs=>
  rw[H]at Y;cases K:a'.toList with
  |nil=>rw[K]at Y;cases Y
  |cons y ys=>
   rw[K]at Y;cases Y with
   |cons R rest=>exact QY rest R
theorem agF(Y:Array ah)(t:ah)(h:V r x x'):SR P V r (cT Y t #[x]) (cT Y t #[x']):=by
 unfold cT;cases D:Y[0]? with
 |none=>exact gO _
 |some t=>
  refine SR.bind (s:=underlying t) (s':=underlying t) (kL t) ?_;rintro t1 d _ l1 rfl;have K:=h.mono l1;cases d with
  |array n e=>exact .pure (.int _ _)
  |pointer arr=>
   refine SR.bind (kL arr) ?_;rintro t2 d _ l2 rfl;cases d<;>first|exact .pure (.int _ _)|exact gO _
  |slice e=>cases K<;>first|exact .pure (.int _ _)|exact gO _
  |chan dir e=>
   cases K with
   |pW=>exact .pure (.int _ _)
   |chan e=>
    refine SR.bind (oF e) ?_;intro t2 o o' l2 H;cases H<;>exact gO _
   |_=>exact gO _
  |_=>exact gO _
theorem Xs(z:∀b,¬gK.ro b)(K:Array _)(t:ah)(h:V r x x'):SR P V r (eh K t #[x]) (eh K t #[x']):=by
 cases h with
 |kW l c=>exact .pure .nilPtr
 |slice l c Y=>
  refine iD (fun _=>.pure (.ptr Y)) (fun _=>?_);refine SR.bind (CL Y.block) ?_;rintro t1 x y l1 (⟨rfl,rfl⟩|⟨b,b',u,rfl,rfl,H⟩)
  ·refine SR.bind (He t) ?_;rintro t2 e _ l2 rfl;exact GY z ((Y.mono l1).mono l2) _
  ·exact .pure (.ptr (Y.mono l1))
 |_=>exact gO _
theorem Nk:∀n acc {r:Rn} {a a':Addr},Ad r a a'->SR P iB r (loadBytes a acc n) (loadBytes a' acc n)
 |0,acc,r,a,a',h=>.pure rfl
 |n+1,acc,r,a,a',h=>by
  refine SR.bind (Dp h) ?_;intro t1 x x' l1 Y;cases Y with
  |int k b=>cases k<;>first|exact Nk n _ ((h.mono l1).add 1)|exact gO _
  |_=>exact gO _
theorem Wu(z:∀b,¬gK.ro b)(K:Array _)(t:ah)(h:V r x x')(U:V r y I):SR P V r (cg K t #[x,y]) (cg K t #[x',I]):=by
 have main:∀{p p':Option _},((p=none/\p'=none)\/∃a a',p=some a/\p'=some a'/\Ad r a a')->SR P V r (cg K t #[.pointer p,y]) (cg K t #[.pointer p',I]):=by
  intro p p' R;refine SR.bind (yH U) ?_;rintro t1 n _ l1 rfl;cases K[0]? with
  |none=>exact gO _
  |some pt=>
   refine iD (fun _=>?_) (fun _=>?_)
   ·exact SR.bind (A:=fun _ _ _=>False) (mH trivial) fun _ _ _ _ h=>h.elim
   refine iD (fun _=>?_) (fun _=>?_)
   ·exact iC _
   rcases R with⟨rfl,rfl⟩|⟨a,a',rfl,rfl,H⟩
   ·refine iD (fun _=>.pure (.string _)) (fun _=>?_);exact mH trivial
   ·refine iD (fun _=>.pure (.string _)) (fun _=>?_);refine SR.bind (He pt) ?_;rintro t2 e _ l2 rfl;have Y:=(H.mono l1).mono l2;refine SR.bind (MP Y _ _) ?_;rintro t3 b _ D rfl;refine iD (fun _=>?_) (fun _=>?_)
    ·refine SR.bind (Nk _ _ (Y.mono D)) ?_;rintro t4 s _ l4 rfl;refine SR.bind (OQ z ((Y.mono D).mono l4) _) ?_;rintro t5 _ _ B _;exact .pure (.string _)
    ·exact iC _
 cases h with
 |nilPtr=>exact main (.inl ⟨rfl,rfl⟩)
 |ptr H=>exact main (.inr ⟨_,_,rfl,rfl,H⟩)
 |_=>exact gO _
theorem XZ{a a':Array _}(h:VA r a a'):SR P V r (et a) (et a'):=by
 obtain⟨l⟩:=a;obtain⟨l'⟩:=a';have Y:=h.toList;cases Y with
 |nil=>exact gO _
 |cons K rest=>
  cases rest with
  |nil=>exact .pure K
  |cons _ _=>exact gO _
theorem Y9(h:V r x x'):SR P iB r (ez x) (ez x'):=by
 have D:∀(n:Nat) (acc:ByteArray) {r:Rn} {a a':Addr},Ad r a a'->SR P iB r (eG a n acc) (eG a' n acc):=by
  intro n;induction n with
  |zero=>exact fun acc _ _ _ _=>.pure rfl
  |succ n H=>
   intro acc r a a' h;refine SR.bind (Dp h) ?_;intro t1 x x' l1 K;cases K with
   |int k b=>cases k<;>first|exact H _ ((h.mono l1).add 1)|exact gO _
   |_=>exact gO _
 cases h with
 |string s=>exact .pure rfl
 |kW l c=>exact .pure rfl
 |slice l c Y=>exact D _ _ Y
 |_=>exact gO _
theorem Xt{a a':Array _}(h:VA r a a'):SR P V r (eu a) (eu a'):=by
 obtain⟨l⟩:=a;obtain⟨l'⟩:=a';have K:=h.toList;cases K with
 |nil=>exact gO _
 |cons H rest=>
  cases rest with
  |nil=>exact gO _
  |cons D rest=>
   cases rest with
   |nil=>
    rename_i x x' y I;refine SR.bind (Y9 H) ?_;rintro t1 b _ l1 rfl;have ab:SR P iB t1 (ey y) (ey I):=by
     have Y:=D.mono l1;cases Y with
     |int k n=>cases k<;>first|exact .pure rfl|exact gO _
     |_=>exact gO _
    refine SR.bind ab ?_;rintro t2 c _ l2 rfl;split<;>exact .pure (.int _ _)
   |cons _ _=>exact gO _
theorem VA.digits:∀n t {a a':Array _},VA r a a'->VA r (ew n t a) (ew n t a')
 |0,t,a,a',h=>h
 |n+1,t,a,a',h=>VA.digits n _ (h.push (.int _ _))
theorem W8(ps rs:Array _){a a':Array _}(h:VA r a a'):SR P V r (cY ps rs a) (cY ps rs a'):=by
 obtain⟨l⟩:=a;obtain⟨l'⟩:=a';have H:=h.toList;cases H with
 |nil=>exact gO _
 |cons D rest=>
  cases rest with
  |nil=>
   cases D with
   |int k n=>
    cases k with
    |i64=>
     unfold cY;cases hr:rs[0]? with
     |none=>exact gO _
     |some t=>
      refine SR.bind (kL t) ?_;rintro t1 d _ l1 rfl;cases d with
      |slice Y=>
       refine iD (fun _=>?_) (fun _=>?_)
       ·exact SR.bind (A:=fun _ _ _=>False) (mH trivial) fun _ _ _ _ h=>h.elim
       refine SR.bind (rh _) ?_;rintro t2 c _ l2 rfl;refine SR.bind (GX c) ?_;rintro t3 _ _ R _;refine SR.bind (rh _) ?_;rintro t4 b _ l4 rfl;refine SR.bind (wh _ (VA.digits _ _ .nil)) ?_;intro t5 a a' I K;exact .pure (.slice _ _ K)
      |_=>exact gO _
    |_=>exact gO _
   |_=>exact gO _
  |cons _ _=>exact gO _
def A3(P:ak)(name:String):=∀t i m,P.info? t=some i->i.methods.find? (·.name==name)=some m->m.path=#[]/\(∃f,m.func=some (f,false)/\gK.iz f)/\∀e,P.underlying t≠some (.pointer e)
theorem aaA(U:A3 P name)(n:Nat)(t:ah){v:af}(h:V r v v'):SR P (fun s x y=>x.1=y.1/\gK.iz x.1/\V s x.2 y.2) r (method n t v name) (method n t v' name):=by
 cases n with
 |zero=>exact iC _
 |succ n=>
  refine SR.bind (q_ t) ?_;rintro t1 i _ l1 ⟨rfl,I⟩;cases D:i.methods.find? _ with
  |none=>exact gO _
  |some m=>
   obtain⟨B,⟨f,Y,R⟩,K⟩:=U t i m I D;simp[B,Y];refine SR.bind (A:=fun s x y=>x=(t,Place.val v)/\y=(t,Place.val v')) (.pure ⟨rfl,rfl⟩) ?_;rintro t2 _ _ l2 ⟨rfl,rfl⟩;refine SR.bind ?_ fun s x y l H=>.pure ⟨rfl,R,H⟩;refine SR.bind (mW t) ?_;rintro t3 d _ C ⟨rfl,hd⟩;cases d with
   |pointer e=>exact absurd hd (K e)
   |_=>exact .pure (((h.mono l1).mono l2).mono C)
end
section
variable[gK]{P:ak}{r:Rn}{α:Type}{A:Rn->α->α->Prop}{bb:Bool}
theorem AA(h:r l=some l'):SR P Lp r (eN l) (eN l'):=by
 refine SR.bind (oF h) ?_;intro t1 o o' l1 Y;cases Y with
 |loop q=>exact .pure q
 |_=>exact gO _
inductive LO(r:Rn):Option Nat->Option Nat->Prop
 |none:LO r none none
 |some {l l':Nat}:r l=some l'->LO r (some l) (some l')
theorem LO.mono{s:Rn}(h:Le r s){a b:Option Nat}(k:LO r a b):LO s a b:=by
 cases k with
 |none=>exact .none
 |some e=>exact .some (h _ _ e)
theorem Xu(fn:bh){tmps Y:Array _}(U:VA r tmps Y)(ps:Array Tmp){aqY bd:Code}(K:gK.code aqY)(H:gK.code bd){o o':Option Nat}(R:LO r o o'):
  SR P (fun s x y=>s x.1=some y.1/\DL s x.2 y.2) r (cZ fn tmps ps aqY bd o) (cZ fn Y ps aqY bd o'):=by
 unfold cZ;have fin:∀{s:Rn} {d d':Nat} {m m':List _},Le r s->s d=some d'->DL s m m'->
   SR P (fun s x y=>s x.1=some y.1/\DL s x.2 y.2) s (do let b<-newObj (.loop {state:=.ready,pending:=none,fn,tmps,params:=ps,assign:=aqY,body:=bd,defers:=d});pure (b,m)) (do let b<-newObj (.loop {state:=.ready,pending:=none,fn,tmps:=Y,params:=ps,assign:=aqY,body:=bd,defers:=d'});pure (b,m')):=by
  intro s d d' m m' l hd D;refine SR.bind (xk (.loop ⟨rfl,rfl,rfl,rfl,rfl,rfl,U.mono l,hd,(fun c e=>by cases e),K,H⟩)) ?_;intro t b b' l' e;exact .pure ⟨e,D.mono l'⟩
 cases R with
 |none=>
  refine SR.bind (xk (.deferred (.some .nil))) ?_;intro t1 b b' l1 e;exact fin l1 e (.cons ⟨.collected e,.nil⟩ .nil)
 |some e=>
  refine SR.bind (AA e) ?_;intro t1 q A l1 I;exact fin l1 I.defers .nil
theorem NC:∀{Y:List Tmp} {xs ys:List _} {c c':Array _},VL r xs ys->VA r c c'->
  VA r ((Y.zip xs).foldl (fun tmps p=>tmps.setIfInBounds p.1 p.2) c) ((Y.zip ys).foldl (fun tmps p=>tmps.setIfInBounds p.1 p.2) c')
 |[],_,_,_,_,_,h=>h
 |_::_,_,_,_,_,.nil,h=>h
 |t::Y,_,_,_,_,.cons K rest,h=>by
  simp;exact NC rest (h.set _ K)
theorem VA.round{ps:Array Tmp}{a a' c c':Array _}(h:VA r a a')(k:VA r c c'):
  VA r ((ps.zip a).foldl (fun tmps x=>tmps.setIfInBounds x.1 x.2) c) ((ps.zip a').foldl (fun tmps x=>tmps.setIfInBounds x.1 x.2) c'):=by
 simp only[<-cO,Array.toList_zip];exact NC h.toList k
inductive NX(bb:Bool)(r:Rn):Next->Next->Prop
 |value {v v':af}:V r v v'->NX bb r (.value v) (.value v')
 |skip:NX bb r .skip .skip
 |enter {f:bh} {a a':Array af}:gK.iz f->VA r a a'->NX bb r (.enter f a) (.enter f a')
 |defer {d d':aN}:Df r d d'->NX bb r (.defer d) (.defer d')
 |recover:bb=true->NX bb r .recover .recover
 |round {l l':Nat} {f:bh} {t t':Array af} {aqY bd:Code}:r l=some l'->VA r t t'->gK.code aqY->gK.code bd->NX bb r (.round l f t aqY bd) (.round l' f t' aqY bd)
theorem acy(h:r l=some l'){a a':Array _}(K:VA r a a'):SR P (NX bb) r (Instr.yield l a) (Instr.yield l' a'):=by
 refine SR.bind (AA h) ?_;intro t1 q H l1 Y;rw[Y.params,K.size,Y.fn,Y.assign,Y.body];refine iD (fun _=>?_) (fun _=>?_)
 ·exact gO _
 ·exact .pure (.round (l1 _ _ h) (VA.round (K.mono l1) Y.tmps) Y.ca Y.cb)
theorem W9(h:r l=some l'):SR P iB r (eH l) (eH l'):=by
 refine SR.bind (AA h) ?_;intro t1 q K l1 Y;refine SR.bind (uF (l1 _ _ h) (.loop ⟨rfl,Y.pending,Y.fn,Y.params,Y.assign,Y.body,Y.tmps,Y.defers,Y.cp,Y.ca,Y.cb⟩)) ?_;rintro t2 _ _ l2 _;rw[Y.state];cases q.state<;>first|exact .pure rfl|exact mH trivial
theorem X0(h:r l=some l'){j:Option _}(K:∀c,j=some c->gK.code c):SR P V r (eL l j) (eL l' j):=by
 refine SR.bind (AA h) ?_;intro t1 q H l1 Y;refine SR.bind (uF (l1 _ _ h) (.loop ⟨rfl,rfl,Y.fn,Y.params,Y.assign,Y.body,Y.tmps,Y.defers,K,Y.ca,Y.cb⟩)) ?_;rintro t2 _ _ l2 _;exact .pure (.bool _)
theorem Y_(h:r l=some l'):SR P (fun _ x y=>x=y/\∀c,x=some c->gK.code c) r (eK l) (eK l'):=by
 refine SR.bind (AA h) ?_;intro t1 q K l1 Y;rw[Y.state];refine iD (fun _=>?_) (fun _=>?_)
 ·exact SR.bind (A:=fun _ _ _=>False) (mH trivial) fun _ _ _ _ h=>h.elim
 ·refine SR.bind (uF (l1 _ _ h) (.loop ⟨rfl,Y.pending,Y.fn,Y.params,Y.assign,Y.body,Y.tmps,Y.defers,Y.cp,Y.ca,Y.cb⟩)) ?_;rintro t2 _ _ l2 _;exact .pure ⟨Y.pending.symm,Y.cp⟩
theorem Wv(h:r b=some b'):SR P DL r (e_ b) (e_ b'):=by
 refine SR.bind (oF h) ?_;intro t1 o o' l1 Y;cases Y with
 |deferred d=>
  cases d with
  |none=>exact gO _
  |some q=>
   refine SR.bind (uF (l1 _ _ h) (.deferred .none)) ?_;rintro t2 _ _ l2 _;exact .pure (q.mono l2)
 |_=>exact gO _
structure D9(P:ak)(f:bh)(fn:Func):Prop where
 has:P.funcs[f]?=some fn
 name:(fn.name== "runtime.NumGoroutine")=false
 ext:fn.body=none->Extern.findNext fn=none/\∃e,Extern.find fn=some e/\∀r a a',VA r a a'->SR P V r (e a) (e a')
theorem ND(U:∀f,gK.iz f->∃fn,D9 P f fn){f:bh}(h:gK.iz f){a a':Array _}(K:VA r a a'):SR P (NX bb) r (callFunc f a) (callFunc f a'):=by
 obtain⟨fn,Y⟩:=U f h;refine SR.bind mX ?_;rintro t1 p q l1 ⟨A,B⟩;rw[A,B];simp[Y.has,Y.name];cases R:fn.body with
 |some c=>exact .pure (.enter h (K.mono l1))
 |none=>
  obtain⟨H,e,D,I⟩:=Y.ext R;simp[H,D];refine SR.bind (.mark _ (.inr ⟨_,rfl⟩) fun _ _=>.pure rfl) ?_;rintro t2 _ _ l2 _;refine SR.bind (I t2 _ _ ((K.mono l1).mono l2)) ?_;intro t3 v v' F C;exact .pure (.value C)
theorem VA.tail{a a':Array _}(h:VA r a a'):VA r (a.extract 1 a.size) (a'.extract 1 a'.size):=by
 rw[<-h.size];exact h.extract 1 _
theorem W_(H:∀f,gK.iz f->∃fn,D9 P f fn)(D:A3 P name)(C:V r x x'){a a':Array _}(K:VA r a a'):SR P (NX bb) r (callMethod x name a) (callMethod x' name a'):=by
 cases C with
 |iface t U=>
  refine SR.bind mX ?_;rintro t1 p q l1 ⟨R,I⟩;rw[R,I];refine SR.bind (aaA D _ t (U.mono l1)) ?_;rintro t2 ⟨f,u⟩ ⟨f',B⟩ l2 ⟨e,Y,A⟩;subst e;exact ND H Y ((VA.one A).append ((K.mono l1).mono l2))
 |nilIface=>exact mH (e:=.nilDeref) trivial
 |_=>exact gO _
theorem Za(H:V r x x'){a a':Array _}(Y:VA r a a'):SR P Df r (bD x a) (bD x' a'):=by
 cases H with
 |func K s1 D R i2=>exact .pure ⟨.fn K.toR ⟨R,i2⟩,VA.append ⟨s1,D⟩ Y⟩
 |nilFunc=>exact .pure ⟨.nil,Y⟩
 |_=>exact gO _
theorem CM(K:∀f,gK.iz f->∃fn,D9 P f fn)(U:∀n,gK.methods n->A3 P n)(h:Df r d d')(C:∀b,d.target≠.collected b):SR P (NX bb) r (invoke d.target d.args) (invoke d'.target d'.args):=by
 obtain⟨I,Y⟩:=h;obtain⟨t,a⟩:=d;obtain⟨t',a'⟩:=d';unfold invoke;cases I with
 |fn R D=>
  cases R with
  |func g=>exact ND K g (Y.append D)
  |method g=>
   cases H:a[0]? with
   |none=>exact gO _
   |some x=>
    obtain⟨x',e,A⟩:=Y.get H;rw[e];exact W_ K (U _ g) A Y.tail
  |yield e=>exact acy e Y
 |nil=>exact mH trivial
 |collected e=>exact absurd rfl (C _)
end
section
variable[gK]{P:ak}{r:Rn}{α:Type}{A:Rn->α->α->Prop}{bb:Bool}
def jF:aV->Prop
 |.tmp _=>True
 |.const v=>∀r,V r v v
 |.global g=>gK.rQ g
 |.func f=>gK.iz f
def Ey:=∀b,¬gK.ro b
def zg:Option aV->Prop
 |none=>True
 |some x=>jF x
def r9:aK->Bool
 |.eql|.neq=>false
 |_=>true
def SK(P:ak)(t:ah)(y:aV):=P.eqGuardType P.depth t=false/\((Bo P t/\((∃e,P.underlying t=some (.pointer e))->Ey))\/(y=.const .nilIface/\∃m,P.underlying t=some (.interface m)))
def Hh(P:ak)(b:Builtin)(K:Array ah)(n:Nat):Prop:=
 match b with
 |.append=>∀Y d,K[1]?=some Y->P.underlying Y=some d->∀k,d≠.int k
 |.cap=>n=1
 |.copy|.len|.min|.recover=>True
 |.unsafeSliceData=>n=1/\Ey
 |.unsafeString=>n=2/\Ey
 |_=>False
def Dz(P:ak)(c:Call):=
 (∀x∈c.args,jF x)/\
 match c.callee with
 |.value f=>jF f
 |.invoke x name=>jF x/\gK.methods name
 |.builtin b=>Hh P b c.argTypes c.args.size
def HV(P:ak)(t:ah):=∀k e,P.underlying t=some (.map k e)->∀d,P.underlying k=some d->plainKey d
def Ez(P:ak):Op->Prop
 |.move x|.assign x|.box _ x|.load _ x|.unOp _ _ x|.makeInterface _ x|.fieldAddr _ x _|.field _ x _|.range _ x|.next x _|.entry x|.extract x _|.panic x=>jF x
 |.nilCheck x=>jF x/\gK.qN=false
 |.pick c a b=>jF c/\jF a/\jF b
 |.alloc _=>True
 |.build _ ps|.buildSlice _ _ ps=>∀p∈ps,jF p.2
 |.store _ a x|.makeSlice _ a x|.indexAddr _ a x|.index _ a x=>jF a/\jF x
 |.binOp op t x y _=>jF x/\jF y/\(r9 op=true\/SK P t y)
 |.convert s d x=>jF x/\vo P s d/\((∃k,P.underlying s=some (.int k))\/(∃e,P.underlying s=some (.slice e))\/Ey)
 |.makeFunc fn first cap=>(∃f,fn=.func f/\gK.iz f)/\(∀x∈first,jF x)/\∀x∈cap,jF x
 |.makeMap _ x=>zg x
 |.slice _ x K Y H=>jF x/\zg K/\zg Y/\zg H
 |.lookup t x i _=>jF x/\jF i/\HV P t
 |.mapUpdate t m k x=>jF m/\jF k/\jF x/\HV P t
 |.typeAssert x _ a ok=>jF x/\ok=true/\∀ms,P.underlying a≠some (.interface ms)
 |.call c=>Dz P c
 |.defer c=>Dz P c/\∃f,c.callee=.value f
 |_=>False
structure Fit(P:ak):Prop where
 tR:qH P
 jo:gK.size=P.globals.size
 sC:Ex P
 iz:∀f,gK.iz f->∃fn,D9 P f fn
 EB:∀n,gK.methods n->A3 P n
theorem VA.mapOf{l:Array _}{H Y:aV->af}(h:∀x∈l,V r (H x) (Y x)):VA r (l.map H) (l.map Y):=by
 refine⟨by simp,fun i x x' e e'=>?_⟩;simp only[dV]at e e';cases K:l[i]? with
 |none=>rw[K]at e;cases e
 |some y=>
  rw[K]at e e';simp at e e';rw[<-e,<-e'];exact h y (Array.mem_of_getElem? K)
theorem VO.mapOf{o:Option _}{K Y:aV->af}(h:∀x,jF x->V r (K x) (Y x))(H:zg o):VO r (o.map K) (o.map Y):=by
 cases o with
 |none=>exact .none
 |some x=>exact .some (h x H)
theorem PL.mapOf{D Y:aV->af}(h:∀x,jF x->V r (D x) (Y x)){l:Array (Nat×aV)}(K:∀p∈l,jF p.2):
  PL r (l.map fun x=>(x.1,D x.2)).toList (l.map fun x=>(x.1,Y x.2)).toList:=by
 obtain⟨l⟩:=l;simp;have K:=fun p R=>K p (by simpa using R);rename_i H;clear H;induction l with
 |nil=>exact .nil
 |cons p l A=>exact .cons _ (h _ (K p (by simp))) (A fun q I=>K q (by simp[I]))
theorem jW{s s':Sem _}(h:SR P V r s s'):SR P (NX bb) r (do pure (Next.value (<-s))) (do pure (Next.value (<-s'))):=SR.bind h fun _ _ _ _ e=>.pure (.value e)
theorem JW{s s':Sem _}(h:SR P iB r s s'):SR P (NX bb) r (do s;pure Next.skip) (do s';pure Next.skip):=SR.bind h fun _ _ _ _ _=>.pure .skip
theorem Zb{op:aK}(R:P.eqGuardType P.depth t=false)(x y:aV){a a' b b':af}(D:V r a a')(H:V r b b'):SR P iB r (cH op t x y a b) (cH op t x y a' b'):=by
 refine iD (fun _=>?_) (fun _=>?_)
 ·exact .pure rfl
 cases D with
 |blank h=>cases a'<;>first|(simp[Hid]at h;done)|exact .pure rfl
 |nilIface=>
  cases H with
  |blank h=>cases b'<;>first|(simp[Hid]at h;done)|exact .pure rfl
  |nilIface=>
   refine iD (fun _=>?_) (fun _=>?_)
   ·exact .pure rfl
   have q:SR P iB r (ale bm t .nilIface .nilIface) (ale bm t .nilIface .nilIface):=by
    refine SR.bind (kL t) ?_;rintro t1 d _ l1 rfl;cases d<;>exact .pure rfl
   refine SR.bind q ?_;rintro t1 b _ l1 rfl;refine iD (fun _=>?_) (fun _=>?_)
   ·exact iC _
   ·exact .pure rfl
  |_=>exact .pure rfl
 |agg A I=>
  cases H with
  |blank h=>cases b'<;>first|(simp[Hid]at h;done)|exact .pure rfl
  |agg ks U=>
   refine SR.bind mX ?_;rintro t1 p q l1 ⟨Y,K⟩;rw[Y,K];refine SR.bind mX ?_;rintro t2 p q l2 ⟨Y,K⟩;rw[Y,K,R];exact .pure rfl
  |_=>exact .pure rfl
 |_=>exact .pure rfl
theorem Zc(F:Fit P){b:Builtin}{Y:Array _}{cs:Array _}{a a':Array _}(h:Hh P b Y a.size)(hr:b=.recover->bb=true)(K:VA r a a'):SR P (NX bb) r (builtin b Y t cs a) (builtin b Y t cs a'):=by
 cases b with
 |append=>exact jW (aav F.tR Y t h K)
 |copy=>exact jW (ael Y t K)
 |len=>exact jW (agC Y t K)
 |min=>exact jW (agE Y t K)
 |recover=>exact .pure (.recover (hr rfl))
 |cap=>
  obtain⟨l⟩:=a;obtain⟨l'⟩:=a';have H:=K.toList;have h:l.length=1:=h;cases H with
  |nil=>simp at h
  |cons D rest=>
   cases rest with
   |nil=>exact jW (agF Y t D)
   |cons _ _=>simp at h
 |unsafeSliceData=>
  obtain⟨h,z⟩:=h;obtain⟨l⟩:=a;obtain⟨l'⟩:=a';have H:=K.toList;cases H with
  |nil=>simp at h
  |cons D rest=>
   cases rest with
   |nil=>exact jW (Xs z Y t D)
   |cons _ _=>simp at h
 |unsafeString=>
  obtain⟨h,z⟩:=h;obtain⟨l⟩:=a;obtain⟨l'⟩:=a';have H:=K.toList;cases H with
  |nil=>simp at h
  |cons D rest=>
   cases rest with
   |nil=>simp at h
   |cons R rest=>
    cases rest with
    |nil=>exact jW (Wu z Y t D R)
    |cons _ _=>simp at h
 |_=>exact h.elim
theorem NF(H:V r x x'){a a':Array _}(Y:VA r a a'):SR P (fun s d d'=>Df s d d'/\∀b,d.target≠.collected b) r (bD x a) (bD x' a'):=by
 cases H with
 |func K s1 D R i2=>exact .pure ⟨⟨.fn K.toR ⟨R,i2⟩,VA.append ⟨s1,D⟩ Y⟩,fun b e=>by cases e⟩
 |nilFunc=>exact .pure ⟨⟨.nil,Y⟩,fun b e=>by cases e⟩
 |_=>exact gO _
theorem aeo(F:Fit P){D Y:aV->af}(K:∀x,jF x->V r (D x) (Y x)){c:Call}(h:Dz P c)(hr:c.callee=.builtin .recover->bb=true)(t:ah):SR P (NX bb) r (do let d<-resolve D c t;invoke d.target d.args) (do let d<-resolve Y c t;invoke d.target d.args):=by
 obtain⟨A,H⟩:=h;have R:=VA.mapOf fun x U=>K x (A x U);unfold resolve;cases I:c.callee with
 |builtin b=>
  rw[I]at H;exact Zc F (by simp_all) (fun e=>hr (by simp_all)) R
 |invoke x name=>
  rw[I]at H;exact CM F.iz F.EB (d:={target:=.fn _ #[],args:=#[D x]++c.args.map D}) (d':={target:=.fn _ #[],args:=#[Y x]++c.args.map Y}) ⟨.fn (.method H.2) .nil,(VA.one (K x H.1)).append R⟩ (fun b e=>by cases e)
 |value f=>
  rw[I]at H;exact SR.bind (NF (K f H) R) fun t1 d d' l1 hd=>CM F.iz F.EB hd.1 hd.2
theorem OY(F:Fit P){C H:aV->af}(Y:∀x,jF x->V r (C x) (H x))(J:∀v,C (.const v)=v/\H (.const v)=v)(o:Oper)(h:Ez P o.op)(hr:∀c,o.op=.call c->c.callee=.builtin .recover->bb=true):SR P (NX bb) r (execOp C o) (execOp H o):=by
 obtain⟨dst,op,O,pos,after,guard⟩:=o;unfold execOp;simp only at h⊢;cases op with
 |move x=>exact .pure (.value (Y x h))
 |assign x=>exact .pure (.value (Y x h))
 |pick c a b=>
  refine SR.bind (OR (Y c h.1)) ?_;rintro t1 t _ l1 rfl;cases t
  ·exact .pure (.value ((Y b h.2.2).mono l1))
  ·exact .pure (.value ((Y a h.2.1).mono l1))
 |alloc e=>exact jW (aci F.tR e)
 |box e x=>exact jW (agB e (Y x h))
 |build t ps=>exact jW (acp F.tR t (PL.mapOf Y h))
 |buildSlice t n ps=>exact jW (W4 F.tR t n (PL.mapOf Y h))
 |load t a=>exact jW (aat t (Y a h))
 |store t a x=>exact JW (YW t (Y a h.1) (Y x h.2))
 |nilCheck x=>
  have K:=Y x h.1;have hw:=h.2;simp only;generalize C x=u at K⊢;generalize H x=W at K⊢;cases K with
  |blank h=>
   cases W with
   |pointer a=>cases a<;>first|(simp[Hid]at h;done)|exact SR.pure (A:=NX bb) (NX.value (V.blank (y:=.pointer (some _)) rfl))
   |_=>first|(simp[Hid,hw]at h;done)|exact SR.pure (A:=NX bb) (NX.value (V.blank h))
  |nilPtr=>exact mH (e:=.nilDeref) trivial
  |nilIface=>exact mH (e:=.nilDeref) trivial
  |nilFunc=>exact mH (e:=.nilDeref) trivial
  |func B s1 E G i2=>
   have N:=V.func B s1 E G i2;cases B with
   |func _=>exact .pure (.value N)
   |yield _=>exact .pure (.value N)
  |ptr a=>exact .pure (.value (.ptr a))
  |bool=>exact .pure (.value (.bool _))
  |int=>exact .pure (.value (.int _ _))
  |string=>exact .pure (.value (.string _))
  |kW=>exact .pure (.value (.kW _ _))
  |slice l c a=>exact .pure (.value (.slice l c a))
  |oJ=>exact .pure (.value .oJ)
  |map e=>exact .pure (.value (.map e))
  |pW=>exact .pure (.value .pW)
  |chan e=>exact .pure (.value (.chan e))
  |iface t h=>exact .pure (.value (.iface t h))
  |agg s i=>exact .pure (.value (.agg s i))
  |tuple s i=>exact .pure (.value (.tuple s i))
 |binOp op t x y p=>
  obtain⟨R,D,I⟩:=h;have K:=Y x R;have L:=Y y D;rcases I with I|⟨Z,I⟩
  ·refine jW (SR.bind (A:=iB) ?_ fun t1 _ _ l1 _=>NB F.jo ⟨fun e=>(by subst e;simp[r9]at I),fun e=>(by subst e;simp[r9]at I)⟩ (K.mono l1) (L.mono l1));unfold cH;cases op<;>first|exact .pure rfl|simp[r9]at I
  ·by_cases U:r9 op=true
   ·refine jW (SR.bind (A:=iB) ?_ fun t1 _ _ l1 _=>NB F.jo ⟨fun e=>(by subst e;simp[r9]at U),fun e=>(by subst e;simp[r9]at U)⟩ (K.mono l1) (L.mono l1));unfold cH;cases op<;>first|exact .pure rfl|simp[r9]at U
   ·have U:op=.eql\/op=.neq:=by cases op<;>first|exact .inl rfl|exact .inr rfl|simp[r9]at U
    refine jW (SR.bind (Zb Z x y K L) fun t1 _ _ l1 _=>?_);rcases I with⟨T,z⟩|⟨rfl,m,X⟩
    ·exact acx F.jo U z T (K.mono l1) (L.mono l1)
    ·rw[(J .nilIface).1,(J .nilIface).2];exact aaz U X (K.mono l1)
 |unOp op t x=>exact jW (acv op (Y x h))
 |convert s d x=>exact jW (Y8 h.2.2 h.2.1 (Y x h.1))
 |makeInterface t x=>exact jW (Wn t (Y x h))
 |makeFunc fn first cap=>
  obtain⟨⟨f,rfl,B⟩,R,D⟩:=h;exact jW (XO (.func B) (VA.mapOf fun x K=>Y x (R x K)) (VA.mapOf fun x K=>Y x (D x K)))
 |makeMap t x=>exact jW (Y1 t (VO.mapOf Y h))
 |makeSlice t l c=>exact jW (Xp F.tR t (Y l h.1) (Y c h.2))
 |slice t x j q g=>exact jW (Y0 t (Y x h.1) (VO.mapOf Y h.2.1) (VO.mapOf Y h.2.2.1) (VO.mapOf Y h.2.2.2))
 |fieldAddr t x f=>exact jW (YY t (Y x h) f)
 |field t x f=>exact jW (acj t (Y x h) f)
 |indexAddr t x i=>exact jW (YZ t (Y x h.1) (Y i h.2))
 |index t x i=>exact jW (ack t (Y x h.1) (Y i h.2))
 |lookup t x i ok=>exact jW (aax F.tR F.jo h.2.2 (Y x h.1) (Y i h.2.1) ok)
 |mapUpdate t m k x=>exact JW (Xr F.jo h.2.2.2 (Y m h.1) (Y k h.2.1) (Y x h.2.2.1))
 |range t x=>exact jW (acr t (Y x h))
 |next x b=>exact jW (aem (Y x h) b O)
 |entry x=>exact jW (acu (Y x h))
 |typeAssert x t a ok=>
  obtain⟨R,rfl,D⟩:=h;exact jW (W6 F.tR (Y x R) t a D)
 |extract x i=>exact jW (YX (Y x h) i)
 |panic x=>exact jW (Y2 (Y x h))
 |call c=>exact aeo F Y h (hr c rfl) O
 |defer c=>
  obtain⟨⟨R,D⟩,f,J⟩:=h;have M:VA r (c.args.map C) (c.args.map H):=VA.mapOf fun x K=>Y x (R x K);obtain⟨S,args,Q⟩:=c;simp only at J M D;subst J;refine SR.bind (s:=bD (C f) (args.map C)) (s':=bD (H f) (args.map H)) (Za (Y f D) M) ?_;intro t1 d d' l1 hd;exact .pure (.defer hd)
 |_=>exact h.elim
end
structure Bz(A B:gK):Prop where
 size:A.size=B.size
 iz:∀f,A.iz f->B.iz f
 methods:∀n,A.methods n->B.methods n
 code:∀c,A.code c->B.code c
 ro:∀b,A.ro b↔B.ro b
 jC:∀b i,B.jC b i->A.jC b i
 qN:A.qN=B.qN
def oK{A B:gK}(h:Bz A B)(r:@Rn A):@Rn B:=@Rn.mk B (@Rn.f A r) (@Rn.inj A r) (fun b c e=>by rw[<-h.size];exact @Rn.jo A r b c e)
section
variable{A B:gK}(h:Bz A B){r:@Rn A}
include h
theorem DC(k:@Ad A r a a'):@Ad B (oK h r) a a':=by
 obtain⟨Y,K,H⟩:=k;exact @Ad.mk B _ _ _ Y K H
theorem aep{f f':Fn}(k:@qs A r f f'):@qs B (oK h r) f f':=by
 cases k with
 |func g=>exact @qs.func B _ _ (h.iz _ g)
 |yield e=>exact @qs.yield B _ _ _ e
theorem aeq{f f':Fn}(k:@qp A r f f'):@qp B (oK h r) f f':=by
 cases k with
 |func g=>exact @qp.func B _ _ (h.iz _ g)
 |method g=>exact @qp.method B _ _ (h.methods _ g)
 |yield e=>exact @qp.yield B _ _ _ e
theorem aer:@Hid A y=@Hid B y:=by
 cases y with
 |func _ _ _=>exact h.qN
 |pointer a=>cases a<;>rfl
 |_=>rfl
theorem Ju(k:@V A r x y):@V B (oK h r) x y:=by
 letI:=B
 induction k with
 |blank e=>exact .blank (aer h▸e)
 |bool b=>exact .bool b
 |int k n=>exact .int k n
 |string s=>exact .string s
 |nilPtr=>exact .nilPtr
 |ptr a=>exact .ptr (DC h a)
 |kW l c=>exact .kW l c
 |slice l c a=>exact .slice l c (DC h a)
 |oJ=>exact .oJ
 |map e=>exact .map e
 |pW=>exact .pW
 |chan e=>exact .chan e
 |func n s1 _ K _ Y i2=>exact .func (aep h n) s1 Y K i2
 |nilFunc=>exact .nilFunc
 |iface t _ i=>exact .iface t i
 |nilIface=>exact .nilIface
 |agg s _ i=>exact .agg s i
 |tuple s _ i=>exact .tuple s i
theorem uT{c c':Array _}(k:@VA A r c c'):@VA B (oK h r) c c':=by
 obtain⟨Y,K⟩:=k;exact @VA.mk B _ _ _ Y fun i x x' e e'=>Ju h (K i x x' e e')
theorem agG{e e':ay}(k:@En A r e e'):@En B (oK h r) e e':=by
 obtain⟨Y,K,H⟩:=k;exact @En.mk B _ _ _ (Ju h Y) (Ju h K) H
theorem agH{t t':cB}(k:@Tg A r t t'):@Tg B (oK h r) t t':=by
 cases k with
 |fn f c=>exact .fn (aeq h f) (uT h c)
 |nil=>exact .nil
 |collected e=>exact .collected e
theorem agI{d d':List _}(k:@DL A r d d'):@DL B (oK h r) d d':=by
 induction k with
 |nil=>exact .nil
 |cons x _ H=>
  obtain⟨Y,K⟩:=x;exact .cons ⟨agH h Y,uT h K⟩ H
theorem aio(k:@O A r o o'):@O B (oK h r) o o':=by
 cases k with
 |loop l=>
  obtain⟨a1,a2,a3,a4,a5,Y,K,H,a9,b1,b2⟩:=l;exact .loop ⟨a1,a2,a3,a4,a5,Y,uT h K,H,fun c e=>h.code _ (a9 c e),h.code _ b1,h.code _ b2⟩
 |view t n a=>exact .view t (fun y=>n ((h.ro _).2 y)) (DC h a)
 |number l a=>exact .number l (DC h a)
 |deferred d=>
  cases d with
  |none=>exact .deferred .none
  |some x=>exact .deferred (.some (agI h x))
 |cells e fz a=>exact .cells e fz (uT h a)
 |map D I R=>exact .map D I fun i x x' e e'=>agG h (R i x x' e e')
 |stringIter s p=>exact .stringIter s p
 |qx a s n=>exact .qx a s n
 |mapIter a s n e=>exact .mapIter a s n e
theorem agJ(k:@OB A r b o o'):@OB B (oK h r) b o o':=by
 cases k with
 |same n o=>exact .same (fun y=>n ((h.ro _).2 y)) (aio h o)
 |ro e n a Y=>exact .ro e ((h.ro _).1 n) (uT h a) fun i K=>Y i (h.jC _ _ K)
theorem Jv{c:Nat}{v:ae}(k:@W A r c v w):@W B (oK h r) c v w:=by
 obtain⟨D,R,I,U,C,F⟩:=k;refine @W.mk B _ _ _ _ (fun b b' e=>?_) (by rw[<-h.size];exact R) (by rw[<-h.size];exact I) (fun b J=>U b ((h.ro b).2 J)) C F;obtain⟨o,o',Y,K,H⟩:=D b b' e;exact⟨o,o',Y,K,agJ h H⟩
end
end Ren
end Go.Proofs.YtdcjnhipenbcfaaGreatDoor
