/-
  Own text. Part 1 of what the claim rests on.
-/
import Derived.Test.YtdcjnhipenbcfaaGreatDoorProg
import Derived.WalkKit
import Derived.WalkSpells
import Derived.WalkLawsBesides
import Derived.Deep.Light
import Derived.Lib.LaidTab
import Derived.Lib.ItoaNum
import Derived.Below
import Derived.Laws.MakeOwn
import Derived.Laws.OwnMore
import Derived.Laws.IdiomStrings
import Derived.Deep.RegionHeld3
import Derived.Deep.QuietTactic
import Derived.BigQuiet
import Derived.RegionTactic
import Derived.Lib.Builder
import Derived.OwnWalk
import Derived.Lib.MinMax
import Derived.ChangeAlike
import Derived.RegionDies
import Derived.Defers
import Derived.Recover
import Derived.Handy
import Derived.Test.YtdcjnhipenbcfaaGreatDoorRows
import Derived.ProofKit
import Derived.LaidMore
import Derived.Stop.Joined
import Derived.Lib.LaidU8
import GoSem.Step
import Derived.Laws.Sem
import Derived.StepT
import GoSem.Dispatch
set_option linter.unusedVariables false
set_option linter.unusedSectionVars false
set_option linter.unusedSimpArgs false
set_option maxRecDepth 100000
set_option maxHeartbeats 16000000
open Array renaming range->aY,getElem?_eq_some_iff->bt,getElem?_push->bE,ext'->bO,replicate->bP,toArray_toList->bQ,foldl_toList->cG,forIn_toList->dH,getElem?_append_left->dI,getElem?_append_right->dJ,getElem?_map->dK,isEmpty->dL,mem_append->dM,mem_map->dO,toList_append->dP,toList_extract->dQ,toList_filter->dR,toList_zipIdx->dU
open Bool renaming not_eq_true->az,false_eq_true->bm,eq_iff_iff->bS,noConfusion->bT,not_true->cH,and_eq_true->dW
open ByteArray renaming data_extract->dZ,size_extract->d_
open Except renaming pure->bI
open Except.ok renaming injEq->cP
open Go renaming World->ae,Value->af,TypeId->ah,Program->aj,Calls->ak,undef->ar,MapEntry->ax,IntKind->aB,BinOp->aH,Deferred->aK,Event->aL,typeInfo->aM,Operand->aQ,FuncId->a_,cell_of_row->bk,TypeDesc->bq,askRoom->br,boundsPanic->bB,runtimePanic->bC,seenCells->bD,Ending->bZ,Target->cw,block_lt_of_cell->cy,eqGuard->cz,frozen_of_row->cA,heap_alloc_new->cB,madeCells->cC,storeCells->cD,unsupported->cE,BoundsCode->cI,RuntimeError->dk,plainCell->dD,results->dE,sameAddr->dG,behindNumber->akH,callsD_of_wpS->akI,heap_alloc_old->akJ,loadCellsFrom->akK,movedPointer->akL,run_makeSlice->akM,toList_madeCells_one->akN
open Go.Builtin renaming firstCells->aI,lenOf->aZ,min2->bF,min_->bG,zeroCells->bH,mayShare->bU,unsafeAdd_->bV,unsafeString_->bW,append_->cJ,cap_->cK,copy_->cL,len_->cM,holdsCells->dX,unsafeSliceData_->dY
open Go.ByteArray renaming toList_eq->ec
open Go.Calls renaming quiet_of->aA,quiet_of_same->aJ
open Go.Conv renaming unsafePointer->bX,bytesToString->ed,stringToBytes->ef
open Go.Deferred renaming ofValue->bY
open Go.Ending renaming returned->cO
open Go.Extern.AbiNoEscape renaming same->eg
open Go.Extern.BytealgIndexByte renaming indexByte->ei
open Go.Extern.BytealgMakeNoZero renaming makeNoZero->cQ,digits->ej
open Go.Extern.Bytes renaming asByte->ek,bytesOf->eo,loadBytes->ep
open Go.Instr renaming findNow->aV,sameNow->bc,makeSlice->bu,checkKey->b_,findKey->cf,sliceBound->cg,enterLoop->cR,extract->cS,findAsking->cT,keyThatStays->cU,lookup->cV,typeAssert->cW,beginRound->et,buildSlice->eu,endLoop->ew,endRound->ey,fieldAt->ez,getLoop->eA,indexAt->eB,loadAt->eC,makeFunc->eD,makeInterface->eE,makeMap->eG,mapUpdate->eH,panicnil->eI,sameBits->eJ,sliceAt->eK,sliceBounds->eL,storeAt->eM,sureAddr->eN,takeDeferred->eO
open Go.IntKind renaming i64->aO
open Go.IntWalk renaming i64_in->aW
open Go.Lib renaming TabIs->cY,pow10Tab->eP
open Go.Op renaming equal->au,equalIn->aP,maxDepth->bh,stringOp->bK,intArith->da,intCmp->db,intDiv->dc,shift->de,eqGuardIn->ako,twoPlaces->akp
open Go.Program renaming globalNamed->akq
open Go.Proofs.Tryz renaming prog->ai,f138->bL,func70->dq,func94->dt,ntmps70->du,ntmps94->dx,func165->aks,ntmps165->akt,ntmps61->aku,ntmps72->akv,results61->akw,underlying79->akx
open Go.Result renaming andThen_ok->dj
open Go.RowKit renaming Below->ay
open Go.RowKit.Below renaming refl->bR,heap_alloc->dV
open Go.Sem renaming run_bind'->aT,runT->aX,run_bind->dp,run_pure->akr
open Go.Value renaming int->aN,slice->bj,pointer->bA,tuple->bM,bool->cx,ofBytes->dz,nilIface->akz,string->akA
open Go.World renaming cell?_setCell_other->aU,cell?->bN,cell?_alloc_at->dA,cell?_setCell_same->dB,viewStore->dC,cell?_alloc_past->akB,farStore->akC,freeze->akD,frozen?->akE,noCell->akF,viewLoad->akG
open Int renaming natCast_nonneg->cX
open List renaming append_assoc->cj,forIn_cons->ck,getElem?_eq_getElem->cm,drop_eq_getElem_cons->cZ,range->c9,replicate->c_,filter_cons->eQ,flatMap_cons->eR,getD_eq_getElem?_getD->eS,getElem?_range->eT,length_append->eU,map_append->eV,mem_map->eW,mem_toArray->eX,replicate_succ->eY,take_of_length_le->eZ,take_succ_eq_append_getElem->e_
open MonadExcept renaming throw->cn
open MonadExceptOf renaming throw->cu
open Nat renaming le_refl->ao,le_trans->aD,zero_le->bg,lt_of_lt_of_le->bp,lt_or_ge->bJ,eq_zero_or_pos->cv,le_of_eq->fa,lt_succ_self->fb,sub_self->fc
open Option renaming map_eq_some_iff->dh
open Option.some renaming injEq->di
open UInt8 renaming ofNat->dy,toNat_ofNat'->aky
namespace Go.Proofs.YtdcjnhipenbcfaaGreatDoor
variable {a a' at_:Addr}{cs gL:Array af}{p:ByteArray}{d d':aK}{least:Int}{L:List UInt8}{G b b' i j l l' n q u z:Nat}{o o':Obj}{P:aj}{name:String}{T dst src t:ah}{k k' Jf u0 u1 v' x x' y I:af}{v1 w w':ae}
section
open RowKit
theorem yl{k:aB}{a b:Int}(h:a=b):cO (.int k a)=.returned (.int k b):=by rw[h]
theorem oZ{a b:Bool}(h:a=b):cO (.bool a)=.returned (.bool b):=by rw[h]
def oL(n:Int):=if 97<=n/\n<=122 then n-32 else n
def Jg(n:Int):=decide (oL n=65)||decide (oL n=67)||decide (oL n=71)||decide (oL n=84)||decide (oL n=78)
def pW(n:Int):Int:=if n=65 then 84 else if n=84 then 65 else if n=67 then 71 else if n=71 then 67 else 78
theorem NY(n:Int)(H:0<=n)(D:n<=255)(w:ae):
  ak ai 97 #[.int .u8 n] w fun e w'=>e=.returned (.int .u8 (oL n))/\w'=w:=by
 by_cases Y:97<=n
 ·by_cases K:n<=122
  ·go_wp2
   go_ret
   exact⟨yl (by unfold oL;rw[if_pos ⟨Y,K⟩];omega),rfl⟩
  ·go_wp2
   go_ret
   exact⟨yl (by unfold oL;rw[if_neg (by omega)]),rfl⟩
 ·go_enter Tryz.func97,Tryz.ntmps97
  go_wp2
  go_ret
  exact⟨yl (by unfold oL;rw[if_neg (by omega)]),rfl⟩
theorem Yg(n:Int)(Y:0<=n)(K:n<=255)(w:ae):
  ak ai 71 #[.int .u8 n] w fun e w'=>e=.returned (.bool (Jg n))/\w'=w:=by
 go_enter Tryz.func71,Tryz.ntmps71
 go_wp2_with(refine(NY _ Y K _).mono ?_;rintro e w' ⟨rfl,rfl⟩)
 all_goals go_ret
 all_goals(exact⟨oZ (by simp_all[Jg]),rfl⟩)
theorem Xh(n:Int)(Y:0<=n)(K:n<=255)(w:ae):
  ak ai 79 #[.int .u8 n] w fun e w'=>e=.returned (.int .u8 (pW n))/\w'=w:=by
 go_wp2
 all_goals go_ret
 all_goals(exact⟨yl (by simp_all[pW]),rfl⟩)
theorem Qa{a b:ByteArray}(h:a=b):cO (.string a)=.returned (.string b):=by rw[h]
def gb(b:UInt8):=dy (oL b.toNat).toNat
def kO(b:UInt8):=Jg b.toNat
def pb(b:UInt8):=dy (pW b.toNat).toNat
theorem Af(b:UInt8):0<=(b.toNat:Int):=by omega
theorem ym(b:UInt8):(b.toNat:Int)<=255:=by have:=b.toNat_lt;omega
theorem laid{p:Prop}(h:p):Hid p:=h
def iS(w:ae):=cY ai w "internal/strconv.uint64pow10" .u64 eP
theorem iS.on(h:iS w)(H:ay w.heap.size w w'):iS w':=by
 unfold iS cY World.var? at *;cases K:akq _ _ with
 |none=>simp[K]at h
 |some g=>
  simp[K,Option.bind_some]at h⊢;have Y:g<w.heap.size:=by
   rcases bJ g _ with h'|h'
   ·omega
   ·simp_all
  rw[H.block g Y];exact h
def str(l:List UInt8):ByteArray:=⟨l.toArray⟩
theorem gR(l:List _):(str l).size=l.length:=rfl
theorem oy(l m:List _):str l++str m=str (l++m):=by
 apply ByteArray.ext;simp[str]
theorem Cw(l:List _)(b:UInt8):str l++⟨#[b]⟩=str (l++[b]):=oy l [b]
theorem NZ(s:ByteArray):s.data.toList.length=s.size:=by simp
theorem N0(s:ByteArray)(k:Nat)(h:k<s.size):s.data.toList.take (k+1)=s.data.toList.take k++[s[k]]:=by
 rw[e_ _];rfl
theorem ij{k:aB}{a b:Int}(h:a=b):aN k a=aN k b:=by rw[h]
theorem yn{a b:ByteArray}(h:a=b):akA a=akA b:=by rw[h]
def iA(s:ByteArray)(j:Nat):=str ((s.data.toList.drop j).map pb).reverse
theorem B8(s:ByteArray)(j:Nat):(iA s j).size<=s.size:=by
 unfold iA;rw[gR];simp
theorem drop_cons(s:ByteArray)(k:Nat)(h:k<s.size):s.data.toList.drop k=s[k]::s.data.toList.drop (k+1):=by
 rw[cZ _];rfl
theorem Yh(s:ByteArray)(j:Nat)(h:j<s.size):iA s (j+1)++⟨#[pb s[j]]⟩=iA s j:=by
 unfold iA;rw[drop_cons s j h,Cw];simp
theorem ajf(b:UInt8)(h:((b.toNat:Int)==65)=true):pb b=84:=by
 have h':=eq_of_beq h;unfold pb pW;simp_all
theorem ajg(b:UInt8)(h:((b.toNat:Int)==84)=true):pb b=65:=by
 have h':=eq_of_beq h;unfold pb pW;simp_all
theorem ajh(b:UInt8)(h:((b.toNat:Int)==67)=true):pb b=71:=by
 have h':=eq_of_beq h;unfold pb pW;simp_all
theorem aji(b:UInt8)(h:((b.toNat:Int)==71)=true):pb b=67:=by
 have h':=eq_of_beq h;unfold pb pW;simp_all
theorem ajj(b:UInt8)(Y:((b.toNat:Int)==65)=false)(H:((b.toNat:Int)==84)=false)(R:((b.toNat:Int)==67)=false)(U:((b.toNat:Int)==71)=false):pb b=78:=by
 have K:=beq_eq_false_iff_ne.1 Y;have D:=beq_eq_false_iff_ne.1 H;have I:=beq_eq_false_iff_ne.1 R;have A:=beq_eq_false_iff_ne.1 U;unfold pb pW;simp_all
def SE(s:ByteArray)(t i:af):=
 (i=.int .i64 (-1)/\t=.string (iA s 0))\/∃j:Nat,j<s.size/\i=.int .i64 j/\t=.string (iA s (j+1))
theorem zX(s:ByteArray)(j:Nat)(h:j<s.size)(c:UInt8)(Y:pb s[j]=c):SE s (.string (iA s (j+1)++⟨#[c]⟩)) (.int .i64 (j-1)):=by
 subst Y;rw[Yh s j h];rcases cv j with rfl|K
 ·exact .inl ⟨rfl,rfl⟩
 ·exact .inr ⟨j-1,by omega,ij (by omega),by rw[show j-1+1=j by omega]⟩
theorem infoByte:(ai.info? 5).map (fun i=>(i.zero,i.size,i.bytes))=some (some (.int .u8 0),1,1):=by kernel_rfl
def bv(b:UInt8):Value:=.int .u8 (b.toNat:Int)
def qH(l:List _)(m:Nat):=(l.map bv++c_ m (aN .u8 0)).toArray
def uP(m:Nat)(l:List _):=(c_ m (aN .u8 0)++l.map bv).toArray
theorem Nj(n:Nat)(R:n<=1000)(w:ae):
  (bu 79 (.int .i64 n) (.int .i64 n)).run ai w=.ok (.slice (some ⟨w.heap.size,0,none⟩) n n) (w.alloc (.cells (qH [] n) 5)):=by
 have h:=infoByte;rcases Y:ai.info? 5 with _|i
 ·simp_all
 ·rw[Y]at h;simp at h;obtain⟨D,K,H⟩:=h;have:=akM w 79 5 i _ akx Y D .i64 .i64 n n (by omega) (by omega) (by rw[K];omega) (by rw[H];omega) (by omega);rw[this];have e:cC (aN IntKind.u8 0).cells ((n:Int).toNat *i.size)=qH [] n:=by
   apply bO;rw[K];show(cC #[aN _ 0] _).toList=_
   have:=akN (.int .u8 0) n;simpa[qH]using this
  simp_all
theorem Nk(l:List _)(n:Nat)(H:l.length=n)(C:Array _)(Y:C=(l.map bv).toArray)(w:ae)(cap:Nat):
  (convert 79 9 (.slice (some ⟨w.heap.size,0,none⟩) n cap)).run ai (w.alloc (.cells C 5))=.ok (.string (str l)) (w.alloc (.cells C 5)):=by
 subst H Y;refine run_convert_bytes_back _ 79 9 5 _ cap l akx Tryz.underlying5 Tryz.underlying9 ?_;intro j K;have:(⟨w.heap.size,0,none⟩:Addr).add j=⟨w.heap.size,j,none⟩:=by unfold Addr.add;simp_all
 rw[this,dA _ _ _ _ rfl];simp[bv,K]
theorem adp(l:List _)(m k:Nat)(hk:k=l.length)(Y:0<m):(qH l m)[k]?=some (.int .u8 0):=by
 subst hk;unfold qH;simp_all
theorem abl(l:List _)(m k:Nat)(hk:k=l.length)(K:0<m)(b:UInt8)(v:af)(Y:v=bv b):(qH l m).setIfInBounds k v=qH (l++[b]) (m-1):=by
 subst hk Y;cases m with
 |zero=>omega
 |succ m=>
  simp[qH,eY]
def gl(s:ByteArray)(k:Nat):=(s.data.toList.take k).map gb
theorem Q0(s:ByteArray)(k:Nat)(h:k<=s.size):(gl s k).length=k:=by
 unfold gl;simp;omega
theorem adq(s:ByteArray)(k:Nat)(h:k<s.size):gl s (k+1)=gl s k++[gb s[k]]:=by
 unfold gl;rw[N0 s k h];simp
theorem afy(s:ByteArray)(k:Nat)(h:s.size<=k):gl s k=s.data.toList.map gb:=by
 unfold gl;rw[eZ (by exact h)]
theorem afz(b:UInt8):0<=oL b.toNat/\oL b.toNat<=255:=by
 have:=ym b;unfold oL;omega
theorem afA(b:UInt8):((gb b).toNat)=oL b.toNat:=by
 have h:=afz b;unfold gb;rw[aky];omega
def uy(s:ByteArray)(k:Nat):=qH (gl s k) (s.size-k)
theorem Zy(s:ByteArray)(k:Nat)(h:k<s.size):(uy s k)[k]?=some (.int .u8 0):=
 adp _ _ _ (Q0 s k (by omega)).symm (by omega)
theorem Yi(s:ByteArray)(k:Nat)(h:k<s.size):(uy s k).setIfInBounds k (.int .u8 (oL s[k].toNat))=uy s (k+1):=by
 unfold uy;rw[abl _ _ _ (Q0 s k (by omega)).symm (by omega) _ _ (by unfold bv;rw[afA]),<-adq s k h];congr 1
theorem Yj(s:ByteArray)(k:Nat)(h:s.size<=k):uy s k=((s.data.toList.map gb).map bv).toArray:=by
 unfold uy qH;rw[afy s k h,show s.size-k=0 by omega];simp
theorem L7(s:ByteArray)(w:ae)(R:s.size<=200):
  ak ai 67 #[.string s] w fun e w'=>e=.returned (.string (str (s.data.toList.map gb)))/\ay w.heap.size w w':=by
 have K:=Nj s.size (by omega);go_wp2
 clear K
 go_loopw [10] (fun i wr=>∃k:Nat,k<=s.size/\i=.int .i64 k/\wr=w.alloc (.cells (uy s k) 5)) (fun i _=>s.size-(intOf i).toNat)
 case atStart=>exact⟨0,bg _,rfl,rfl⟩
 case round=>
  obtain⟨k,hk,rfl,rfl⟩:=hrel;by_cases Y:k<s.size
  ·have H:=Zy s k Y;go_wp2_with(go_at_call 97;refine(NY _ (Af _) (ym _) _).mono ?_;rintro e w' ⟨rfl,rfl⟩)
   go_roundw
   case rel=>go_light;exact⟨k+1,by omega,by go_num,by rw[Yi s k Y]⟩
   case measure=>go_light;simp[intOf];omega
  ·have D:=Nk (s.data.toList.map gb) s.size (by simp) (uy s k) (Yj s k (by omega)) w s.size;go_wp2
   go_ret
   exact⟨rfl,(bR _ _).alloc (ao _) _⟩
theorem adr(n:Int):0<=pW n/\pW n<=255:=by
 unfold pW;omega
theorem afB(b:UInt8):((pb b).toNat)=pW b.toNat:=by
 have h:=adr b.toNat;unfold pb;rw[aky];omega
theorem ads(m:Nat)(l:List _)(k:Nat)(hk:k+1=m):(uP m l)[k]?=some (.int .u8 0):=by
 subst hk;unfold uP;simp[List.getElem?_append]
theorem abm(m:Nat)(l:List _)(k:Nat)(hk:k+1=m)(b:UInt8)(v:af)(Y:v=bv b):(uP m l).setIfInBounds k v=uP k (b::l):=by
 subst hk Y;simp only[uP,List.replicate_succ'];simp
def pl(s:ByteArray)(k:Nat):=((s.data.toList.take k).map pb).reverse
theorem adt(s:ByteArray)(k:Nat)(h:k<s.size):pl s (k+1)=pb s[k]::pl s k:=by
 unfold pl;rw[N0 s k h];simp
theorem afC(s:ByteArray)(k:Nat)(h:s.size<=k):pl s k=(s.data.toList.map pb).reverse:=by
 unfold pl;rw[eZ (by exact h)]
def rX(s:ByteArray)(k:Nat):=uP (s.size-k) (pl s k)
theorem Zz(s:ByteArray)(k j:Nat)(h:k<s.size)(Y:j+1+k=s.size):(rX s k)[j]?=some (.int .u8 0):=
 ads _ _ _ (by omega)
theorem Yk(s:ByteArray)(k j:Nat)(h:k<s.size)(Y:j+1+k=s.size):(rX s k).setIfInBounds j (.int .u8 (pW s[k].toNat))=rX s (k+1):=by
 unfold rX;rw[abm _ _ _ (by omega) _ _ (by unfold bv;rw[afB]),<-adt s k h,show s.size-(k+1)=j by omega]
theorem Yl(s:ByteArray)(k:Nat)(h:s.size<=k):rX s k=((s.data.toList.map pb).reverse.map bv).toArray:=by
 unfold rX uP;rw[afC s k h,show s.size-k=0 by omega];simp
theorem WK(s:ByteArray):rX s 0=qH [] s.size:=by
 unfold rX uP qH pl;simp
theorem abn(s:ByteArray)(w:ae)(U:s.size<=200):
  ak ai 51 #[.string s] w fun e w'=>e=.returned (.string (iA s 0))/\ay w.heap.size w w':=by
 have K:=Nj s.size (by omega)
 go_enter Tryz.func51,Tryz.ntmps51
 go_wp2
 clear K
 go_loopw [10] (fun i wr=>∃k:Nat,k<=s.size/\i=.int .i64 k/\wr=w.alloc (.cells (rX s k) 5)) (fun i _=>s.size-(intOf i).toNat)
 case atStart=>exact⟨0,bg _,rfl,by rw[WK]⟩
 case round=>
  obtain⟨k,hk,rfl,rfl⟩:=hrel;by_cases Y:k<s.size
  ·have H:s.size-1-k+1+k=s.size:=by omega
   have R:=Zz s k _ Y H;have D:=laid H;clear H;go_wp2_with(go_at_call 79;refine(Xh _ (Af _) (ym _) _).mono ?_;rintro e w' ⟨rfl,rfl⟩)
   go_roundw
   case rel=>go_light;exact⟨k+1,by omega,by go_num,by rw[Yk s k _ Y D.out]⟩
   case measure=>go_light;simp[intOf];omega
  ·have I:=Nk (s.data.toList.map pb).reverse s.size (by simp) (rX s k) (Yl s k (by omega)) w s.size;go_wp2
   go_ret
   exact⟨rfl,(bR _ _).alloc (ao _) _⟩
def ag(a b:UInt8):=a==b&&a != 78
def at8(s:ByteArray)(i:Nat):=s.data.toList.getD i 0
theorem jJ(s:ByteArray)(i:Nat)(h:i<s.size):s[i]=at8 s i:=by
 unfold at8;rw[eS,cm _];rfl
def cost(p t:ByteArray)(i j:Nat):=if ag (at8 p i) (at8 t j)=true then 0 else 1
def dT(p t:ByteArray)
 |0,j=>j
 |i+1,0=>i+1
 |i+1,j+1=>min (min (dT p t i j+cost p t i j) (dT p t i (j+1)+1)) (dT p t (i+1) j+1)
theorem AN(p t:ByteArray):∀i j,dT p t i j<=i+j
 |0,j=>by simp[dT]
 |i+1,0=>by simp[dT]
 |i+1,j+1=>by have:=AN p t i (j+1);rw[dT];omega
theorem ahx:(ai.info? 3).map (fun i=>(i.zero,i.size,i.bytes))=some (some (.int .i64 0),1,8):=by kernel_rfl
def nv(z:Nat):Value:=.int .i64 (z:Int)
def oF(l:List Nat)(m:Nat):=(l.map nv++c_ m (aN .i64 0)).toArray
theorem ZA(n:Nat)(R:n<=1000)(w:ae):
  (bu 25 (.int .i64 n) (.int .i64 n)).run ai w=.ok (.slice (some ⟨w.heap.size,0,none⟩) n n) (w.alloc (.cells (oF [] n) 3)):=by
 have h:=ahx;rcases Y:ai.info? 3 with _|i
 ·simp_all
 ·rw[Y]at h;simp at h;obtain⟨D,K,H⟩:=h;have:=akM w 25 3 i _ Tryz.underlying25 Y D .i64 .i64 n n (by omega) (by omega) (by rw[K];omega) (by rw[H];omega) (by omega);rw[this];have e:cC (aN aO 0).cells ((n:Int).toNat *i.size)=oF [] n:=by
   apply bO;rw[K];show(cC #[aN _ 0] _).toList=_
   have:=akN (.int .i64 0) n;simpa[oF]using this
  simp_all
theorem N1(l:List Nat)(m k:Nat)(hk:k=l.length)(Y:0<m):(oF l m)[k]?=some (.int .i64 0):=by
 subst hk;unfold oF;simp_all
theorem O0(l:List Nat)(m k:Nat)(hk:k<l.length):(oF l m)[k]?=some (nv (l.getD k 0)):=by
 unfold oF;rw[List.getElem?_toArray,List.getElem?_append_left (by simp_all),List.getElem?_map,eS,cm hk];rfl
theorem abo(l:List Nat)(m k:Nat)(hk:k=l.length)(K:0<m)(b:Nat)(v:af)(Y:v=nv b):(oF l m).setIfInBounds k v=oF (l++[b]) (m-1):=by
 subst hk Y;cases m with
 |zero=>omega
 |succ m=>
  simp[oF,eY]
def tl(p t:ByteArray)(i j:Nat):=(c9 j).map (dT p t i)
theorem afD(p t:ByteArray)(i j:Nat):(tl p t i j).length=j:=by simp[tl]
theorem ahy(p t:ByteArray)(i j k:Nat)(h:k<j):(tl p t i j).getD k 0=dT p t i k:=by
 simp[tl,eT h]
def Ia(p t:ByteArray)(i j:Nat):=oF (tl p t i j) (t.size+1-j)
theorem Ym(p t:ByteArray)(i j k:Nat)(h:k<j):(Ia p t i j)[k]?=some (.int .i64 (dT p t i k)):=by
 unfold Ia;rw[O0 _ _ _ (by rw[afD];exact h),ahy p t i j k h];rfl
def uE(w:ae)(g:Nat)(p t:ByteArray)(i:Nat):=w.heap[g]?=some (.cells (Ia p t i (t.size+1)) 3 (0,0))
theorem uE.cell{g:Nat}{t:ByteArray}(h:uE w g p t i)(j:Nat)(Y:j<=t.size):w.cell? ⟨g,j,none⟩=some (.int .i64 (dT p t i j)):=by
 rw[bk w g j _ _ _ h];exact Ym p t i _ j (by omega)
theorem uE.lt{g:Nat}{t:ByteArray}(h:uE w g p t i):g<w.heap.size:=by
 rcases bJ g _ with h'|h'
 ·omega
 ·unfold uE at h;simp_all
def sv(t:ByteArray)(g:Nat->Nat)(x:Nat):Value:=.slice (some ⟨g x,0,none⟩) (t.size+1) (t.size+1)
theorem ZC{P:aj}(w:ae)(Y:Array _)(t:ah)(x y z:Int):
  (bG Y t #[.int .i64 x,.int .i64 y,.int .i64 z]).run P w=.ok (.int .i64 (min (min x y) z)) w:=by
 have e:∀a b:Int,(if b<a then b else a)=min a b:=fun a b=>by omega
 simp[bG,bF,e]
theorem Ht(a b:UInt8)(w:ae):
  ak ai 150 #[.int .u8 (a.toNat:Int),.int .u8 (b.toNat:Int)] w fun e w'=>e=.returned (.bool (ag a b))/\w'=w:=by
 by_cases h:a=b
 ·go_wp2
  go_ret
  refine⟨oZ ?_,rfl⟩;unfold ag;subst h;simp only[beq_self_eq_true,Bool.true_and];by_cases Y:a=78
  ·subst Y;rfl
  ·have K:(a != 78)=true:=by simpa using Y
   have H:((a.toNat:Int) != 78)=true:=by
    rw[bne_iff_ne];intro D;apply Y;apply UInt8.toNat.inj;have:((78:UInt8).toNat:Int)=78:=rfl;omega
   rw[K,H]
 ·have R:(a.toNat:Int)≠(b.toNat:Int):=by intro D;exact h (UInt8.toNat.inj (by omega))
  go_wp2
  go_ret
  refine⟨oZ ?_,rfl⟩;unfold ag;rw[show(a==b)=false by simpa using h];rfl
def co(a b:UInt8):=if ag a b=true then 0 else 1
theorem RY(a b:UInt8):co a b<=1:=by unfold co;split<;>omega
theorem O1(a b:UInt8)(w:ae):
  ak ai 165 #[.int .u8 (a.toNat:Int),.int .u8 (b.toNat:Int)] w fun e w'=>e=.returned (.int .i64 (co a b:Int))/\w'=w:=by
 by_cases h:ag a b=true
 ·have Y:co a b=0:=if_pos h;rw[Y]
  go_enter aks,akt
  go_wp2_with fail
  refine(Ht a b _).mono ?_;rintro e w' ⟨rfl,rfl⟩;go_wp2
  go_ret
  exact⟨rfl,rfl⟩
 ·have Y:co a b=1:=if_neg h;rw[Y];rw[az]at h
  go_enter aks,akt
  go_wp2_with fail
  refine(Ht a b _).mono ?_;rintro e w' ⟨rfl,rfl⟩;go_wp2
  go_ret
  exact⟨rfl,rfl⟩
def pN(g:Nat->Nat)(n j:Nat):=oF ((c9 j).map g) (n-j)
theorem MK(g:Nat->Nat)(n j:Nat)(h:j<n):(pN g n j)[j]?=some (.int .i64 0):=N1 _ _ _ (by simp) (by omega)
theorem Nl(g:Nat->Nat)(n j i:Nat)(h:i<j):(pN g n j)[i]?=some (.int .i64 (g i)):=by
 unfold pN;rw[O0 _ _ _ (by simp_all)];simp[nv,eT h]
theorem Gc(g:Nat->Nat)(n j:Nat)(h:j<n)(z:Int)(Y:z=(g j)):(pN g n j).setIfInBounds j (.int .i64 z)=pN g n (j+1):=by
 unfold pN;rw[abo _ _ _ (by simp) (by omega) _ _ (by unfold nv;rw[Y]),List.range_succ,eV];congr 1
theorem WL(g:Nat->Nat)(n:Nat):pN g n 0=oF [] n:=rfl
def lP(w:ae)(G:Nat)(g:Nat->Nat)(n:Nat):=w.heap[G]?=some (.cells (pN g n n) 3 (0,0))
theorem lP.cell{g:Nat->Nat}(h:lP w G g n)(j:Nat)(Y:j<n):w.cell? ⟨G,j,none⟩=some (.int .i64 (g j)):=by
 rw[bk w G j _ _ _ h];exact Nl g n n j Y
theorem lP.lt{g:Nat->Nat}(h:lP w G g n):G<w.heap.size:=by
 rcases bJ G _ with h'|h'
 ·omega
 ·unfold lP at h;simp_all
theorem O2(w:ae)(c:Array _)(T:ah)(d j:Nat)(v:af):((w.alloc (.cells c T)).drewN d).setCell ⟨w.heap.size,j,none⟩ v=(w.alloc (.cells (c.setIfInBounds j v) T)).drewN d:=by
 have h:(w.alloc (.cells c T)).setCell ⟨w.heap.size,j,none⟩ v=w.alloc (.cells (c.setIfInBounds j v) T):=by simp[World.setCell_alloc_at]
 have Y:((w.alloc (.cells c T)).drewN d).setCell ⟨w.heap.size,j,none⟩ v=((w.alloc _).setCell _ v).drewN d:=rfl;rw[Y,h]
theorem Nn(w:ae)(o:Obj)(d:Nat):ay w.heap.size w ((w.alloc o).drewN d):=Go.below_drewN ((bR _ _).alloc (ao _) o) d
theorem N3(n:Nat)(Y:n<=900)(w:ae):
  (bu 25 (.int .i64 (n+1)) (.int .i64 (n+1))).run ai w=.ok (.slice (some ⟨w.heap.size,0,none⟩) (n+1) (n+1)) (w.alloc (.cells (oF [] (n+1)) 3)):=by
 have:=ZA (n+1) (by omega) w;simp_all
theorem FP(n:Nat)(w:ae)(U:n<=300):
  ak ai 144 #[.int .i64 (n:Int)] w fun e w'=>e=.returned (.slice (some ⟨w.heap.size,0,none⟩) (n+1) (n+1))/\lP w' w.heap.size id (n+1)/\ay w.heap.size w w':=by
 have R:=N3 n (by omega);go_wp2
 go_loopw [10] (fun K w2=>∃(j d:Nat),K=.int .i64 (j:Int)/\j<=n+1/\w2=(w.alloc (.cells (pN id (n+1) j) 3)).drewN d) (fun K _=>n+1-(intOf K).toNat)
 case atStart=>exact⟨0,0,rfl,bg _,rfl⟩
 case round=>
  obtain⟨j,d,rfl,D,rfl⟩:=hrel;by_cases H:j<=n
  ·have I:=MK id (n+1) j (by omega);go_wp2
   go_roundw
   case rel=>go_light;exact⟨j+1,d,by go_num,by omega,by rw[O2,Gc id (n+1) j (by omega) (j:Int) rfl]⟩
   case measure=>go_light;simp[intOf];omega
  ·have Y:Hid (j=n+1):=laid (by omega);go_wp2
   go_ret
   refine⟨rfl,?_,Nn _ _ _⟩;rw[Y.out];exact cB w _
def mr(g:Nat->Nat)(first:Nat)(b:UInt8)(o:ByteArray)
 |0=>first
 |j+1=>min (min (g j+co b (at8 o j)) (g (j+1)+1)) (mr g first b o j+1)
theorem C0(g:Nat->Nat)(first:Nat)(b:UInt8)(o:ByteArray):∀j,mr g first b o j<=first+j
 |0=>ao _
 |j+1=>by have:=C0 g first b o j;rw[mr];omega
theorem ZD{wr W:ae}{g:Nat->Nat}{d H:Nat}{z:Int}(K:(wr.alloc (.cells (pN g n j) 3)).drewN d=W)(Y:wr.heap.size=H)(D:j<n)(R:z=(g j)):
  (W.setCell ⟨H,j,none⟩ (.int .i64 z)).drew=(wr.alloc (.cells (pN g n (j+1)) 3)).drewN (d+1):=by
 subst K Y;rw[O2,Gc g n j D z R];rfl
theorem FV(g:Nat->Nat)(first:Nat)(b:UInt8)(o:ByteArray)(G:Nat)(w:ae)(ho:o.size<=300)(hf:first<=300)(Q:∀j,j<=o.size->g j<=1000)(F:lP w G g (o.size+1)):
  ak ai 145 #[.slice (some ⟨G,0,none⟩) (o.size+1) (o.size+1),.int .i64 (first:Int),.int .u8 (b.toNat:Int),.string o] w fun e w'=>
   e=.returned (.slice (some ⟨w.heap.size,0,none⟩) (o.size+1) (o.size+1))/\lP w' w.heap.size (mr g first b o) (o.size+1)/\ay w.heap.size w w':=by
 have E:=N3 o.size (by omega);have O:=F.lt;have J:=laid Q;have L:=laid F;clear Q F;have z:(oF [] (o.size+1))[0]?=some (.int .i64 0):=N1 [] _ 0 rfl (by omega)
 go_enter Tryz.func145,Tryz.ntmps145
 go_wp2
 go_loopw [19] (fun B w2=>∃(j d:Nat),B=.int .i64 (j:Int)/\j<=o.size/\w2=(w.alloc (.cells (pN (mr g first b o) (o.size+1) (j+1)) 3)).drewN d) (fun B _=>o.size-(intOf B).toNat)
 case atStart=>exact⟨0,0,rfl,bg _,by rw[<-WL (mr g first b o),Gc _ _ 0 (by omega) (first:Int) rfl];rfl⟩
 case round=>
  obtain⟨j,d,rfl,T,rfl⟩:=hrel;by_cases U:j<o.size
  ·obtain⟨m,H⟩:∃m,m=j+1:=⟨_,rfl⟩;generalize K:(w.alloc (.cells (pN (mr g first b o) (o.size+1) (j+1)) 3)).drewN d=W;have P:=laid K;have p:W.cell? ⟨G,j,none⟩=some (.int .i64 (g j:Int)):=by
    rw[<-K];show(w.alloc _).cell? _=_;rw[akB _ _ _ O];exact L.out.cell j (by omega)
   have r:W.cell? ⟨G,m,none⟩=some (.int .i64 (g m:Int)):=by
    rw[<-K];show(w.alloc _).cell? _=_;rw[akB _ _ _ O];exact L.out.cell m (by omega)
   have s:W.cell? ⟨w.heap.size,j,none⟩=some (.int .i64 (mr g first b o j:Int)):=by
    rw[<-K];show(w.alloc _).cell? _=_;rw[dA _ _ _ _ rfl];exact Nl _ _ _ j (by omega)
   have k:W.cell? ⟨w.heap.size,m,none⟩=some (.int .i64 0):=by
    rw[<-K,H];show(w.alloc _).cell? _=_;rw[dA _ _ _ _ rfl];exact MK _ _ _ (by omega)
   have i:W.frozen? ⟨w.heap.size,m,none⟩=false:=by
    rw[<-K];show(w.alloc _).frozen? _=_;rw[World.frozen?_alloc_at _ _ _ _ rfl]
   have S:Hid (mr g first b o m=min (min (g j+co b (at8 o j)) (g m+1)) (mr g first b o j+1)):=laid (by rw[H];rfl);have hX:=J.out j (by omega);have n:=J.out m (by omega);have t:mr g first b o j<=700:=by have:=C0 g first b o j;omega
   have y:=RY b (at8 o j)
   have q:=jJ o j U;have u:(0:Int)<=(j:Int):=cX _;have x:(j:Int)<(o.size:Int)+1:=by omega
   have b4:(j:Int)<(o.size:Int):=by omega
   have b5:(0:Int)<=(m:Int):=cX _;have b6:(m:Int)<(o.size:Int)+1:=by omega
   generalize mr g first b o j=Z at *
   generalize g j=X at *;generalize g m=Y at *;have I:∀W:ae,ak ai 165 #[.int .u8 (b.toNat:Int),.int .u8 ((at8 o j).toNat:Int)] W fun e w'=>e=.returned (.int .i64 (co b (at8 o j):Int))/\w'=W:=fun W=>O1 b (at8 o j) W;generalize co b (at8 o j)=C at *;clear K;have D:G≠w.heap.size:=by omega
   have c:∀v,(W.setCell ⟨w.heap.size,m,none⟩ v).drew.cell? ⟨G,j,none⟩=some (.int .i64 (X:Int)):=fun v=>(aU W ⟨w.heap.size,m,none⟩ ⟨G,j,none⟩ v (by intro e;injection e with R N;exact D R.symm)).trans p;have f:∀v,(W.setCell ⟨w.heap.size,m,none⟩ v).drew.cell? ⟨G,m,none⟩=some (.int .i64 (Y:Int)):=fun v=>(aU W ⟨w.heap.size,m,none⟩ ⟨G,m,none⟩ v (by intro e;injection e with R N;exact D R.symm)).trans r;have l:∀v,(W.setCell ⟨w.heap.size,m,none⟩ v).drew.cell? ⟨w.heap.size,j,none⟩=some (.int .i64 (Z:Int)):=fun v=>(aU W ⟨w.heap.size,m,none⟩ ⟨w.heap.size,j,none⟩ v (by intro e;injection e with R N;omega)).trans s;have x0:aO.wrap ((X:Int)+(C:Int))=(X:Int)+(C:Int):=aW _ (by omega);have y1:aO.wrap ((Y:Int)+1)=(Y:Int)+1:=aW _ (by omega);have h:aO.wrap ((Z:Int)+1)=(Z:Int)+1:=aW _ (by omega);have a:aO.wrap ((j:Int)+1)=(m:Int):=by rw[show(j:Int)+1=(m:Int) by omega];exact aW _ (by omega)
   have M:=laid H;clear H;have V:=@ZC ai;go_wp2_with fail
   go_region_held3 (fun w'=>w'.cell? ⟨G,j,none⟩=some (.int .i64 (X:Int))/\w'.cell? ⟨G,m,none⟩=some (.int .i64 (Y:Int))/\w'.cell? ⟨w.heap.size,j,none⟩=some (.int .i64 (Z:Int)))
    (first|go_keep|exact⟨c _,f _,l _⟩)
    (first|(go_at_call 165;refine(I _).mono ?_;rintro e w' ⟨rfl,rfl⟩))
   go_wp2
   go_roundw
   case rel=>go_light;have H:=M.out;exact⟨m,d+1,by go_num,by omega,ZD (by have:=P.out;rw[<-H]at this;exact this) rfl (by omega) (by have:=S.out;omega)⟩
   case measure=>go_light;have H:=M.out;simp[intOf];omega
  ·have A:Hid (j=o.size):=laid (by omega);go_wp2
   go_ret
   refine⟨rfl,?_,Nn _ _ _⟩;rw[A.out];exact cB w _
def lX(t p:ByteArray)
 |0=>id
 |i+1=>mr (lX t p i) 0 (at8 t i) p
theorem Q2(t p:ByteArray):∀i j,lX t p i j<=j
 |0,j=>ao _
 |i+1,j=>by have:=C0 (lX t p i) 0 (at8 t i) p j;rw[lX];omega
def kK(t p:ByteArray)(k:Nat)
 |0=>[]
 |i+1=>if lX t p (i+1) p.size<=k then kK t p k i++[(i+1,lX t p (i+1) p.size)]else kK t p k i
theorem B9(t p:ByteArray)(k:Nat):∀n,(kK t p k n).length<=n
 |0=>ao _
 |n+1=>by
  have:=B9 t p k n;simp[kK];split
  ·simp_all
  ·omega
def kU(t p:ByteArray)(k:Nat):=kK t p k t.size
def jB(L:List (Nat×Nat)):=L.flatMap fun h=>[nv h.1,nv h.2]
theorem ZG(L:List _):(jB L).length=L.length *2:=by
 induction L with
 |nil=>rfl
 |cons a L Y=>simp[jB,eR,eU,List.length_cons,List.length_nil]at *;omega
theorem Yn(L:List _)(h:Nat×Nat):jB (L++[h])=jB L++[nv h.1,nv h.2]:=by simp[jB]
theorem abp:(ai.info? 173).map (fun i=>(i.zero,i.size,i.bytes))=some (some (.agg #[.int .i64 0,.int .i64 0]),2,16):=by kernel_rfl
theorem uv{B:Nat}{e:ah}{v:af}{xs:List _}(h:w.ownsRow B e z v n xs)(Y:ay w.heap.size w w'):w'.ownsRow B e z v n xs:=
 h.kept (row:=none) ⟨Y.os,Y.tape,Y.output,Y.size,fun k hk _=>Y.block k hk⟩ (by cases v.ownBlock<;>simp)
theorem x7{B:Nat}{e:ah}{v:af}{xs:List _}{cs:Array _}{fr:Nat×Nat}(D:w.ownsRow B e z v n xs)(C:w.heap[b]?=some (.cells cs T fr))(U:T≠e):v.ownBlock≠some b:=by
 intro Y;rcases D.2 with⟨K,_⟩|⟨g,cap,H,K,_,I,_⟩
 ·rw[K]at Y;cases Y
 ·rw[K]at Y;injection Y with R
  simp_all
theorem V6(t p:ByteArray)(k:Nat)(w:ae)(ht:t.size<=300)(s:p.size<=300)(hk:k<=100):
  ak ai 139 #[.string t,.string p,.int .i64 (k:Int)] w fun e w'=>∃v,e=.returned v/\w'.ownsRow w.heap.size 173 2 v (kU t p k).length (jB (kU t p k))/\ay w.heap.size w w':=by
 obtain⟨i0,hi,z,c,d⟩:=info_parts abp;have O:=FP p.size w s
 go_enter Tryz.func139,Tryz.ntmps139
 go_wp2_with fail
 refine O.mono ?_;rintro e w1 ⟨rfl,T,Q⟩;clear O;go_wp2
 go_loopw [7,8,16] (fun v lv iv wr=>∃i G:Nat,iv=.int .i64 (i:Int)/\lv=.slice (some ⟨G,0,none⟩) (p.size+1) (p.size+1)/\i<=t.size/\lP wr G (lX t p i) (p.size+1)/\wr.ownsRow w.heap.size 173 2 v (kK t p k i).length (jB (kK t p k i))/\ay w.heap.size w wr) (fun _ _ iv _=>t.size-(intOf iv).toNat)
 case atStart=>exact⟨0,w.heap.size,rfl,rfl,bg _,T,World.ownsRow_nil _ _ _ _,Q⟩
 case round=>
  obtain⟨i,G,rfl,rfl,hit,B,A,U⟩:=hrel;clear T Q;have r:=B9 t p k i;by_cases q:i<t.size
  ·have hta:=jJ t i q;have P:Hid (∀W:ae,lP W G (lX t p i) (p.size+1)->ak ai 145 #[.slice (some ⟨G,0,none⟩) (p.size+1) (p.size+1),.int .i64 0,.int .u8 ((at8 t i).toNat:Int),.string p] W fun e w'=>e=.returned (.slice (some ⟨W.heap.size,0,none⟩) (p.size+1) (p.size+1))/\lP w' W.heap.size (lX t p (i+1)) (p.size+1)/\ay W.heap.size W w'):=laid fun W h=>FV (lX t p i) 0 (at8 t i) p G W s (by omega) (fun j C=>by have:=Q2 t p i j;omega) h;have b1:(i:Int)<(t.size:Int):=by omega
   have l:=laid B;clear B;go_wp2_with fail
   refine(P.out _ l.out).mono ?_;rintro e w2 ⟨rfl,F,L⟩;have K:=uv A L;have Y:=U.trans (L.mono U.size);have hc:=F.cell p.size (by omega);have b:=Q2 t p (i+1) p.size;have N:=laid F;have a:wr.heap.size<w2.heap.size:=F.lt;clear L P l A F;generalize wr.heap.size=H at *;by_cases o:lX t p (i+1) p.size<=k
   ·have E:Hid (kK t p k (i+1)=kK t p k i++[(i+1,lX t p (i+1) p.size)]):=laid (by rw[kK,if_pos o]);generalize J:lX t p (i+1) p.size=g at *;clear J;go_wp2_with(first
     |(at_builtin;refine wpList_append_own _ rfl _ _ 193 rfl w.heap.size 173 i0 (.agg #[.int .i64 0,.int .i64 0]) 2 16 Tryz.underlying193 hi z c d rfl (by decide) _ _ _ rfl (K.alloc _) ⟨w2.heap.size,0,none⟩ 1 1 [nv (i+1),nv g] rfl rfl ?c1 ?c2 ?c3 ?c4 ?c5 ?_)
     |go_in)
    case c1=>
     intro j u C
     match j,C with
     |0,C=>simp at C;subst C;simp[Addr.add,go_sem,nv]
     |1,C=>simp at C;subst C;simp[Addr.add,go_sem,nv]
    case c2=>first|exact⟨rfl,rfl⟩|(intro u x;simp at x;rcases x with rfl|rfl<;>rfl)
    case c3=>unfold maxLen;omega
    case c4=>omega
    case c5=>have:=Y.size;first|omega|(simp;omega)
    intro v' f R D _;have M:ay w.heap.size w f:=(Y.alloc Y.size _).grown D (by have:=Y.size;simp;omega) (fun j C=>(K.lt j C).1);have I:f.ownsRow w.heap.size 173 2 v' (kK t p k (i+1)).length (jB (kK t p k (i+1))):=by
     rw[E.out,eU,Yn];exact R
    have V:lP f H (lX t p (i+1)) (p.size+1):=by
     have hk:=N.out;unfold lP at hk⊢;rw[D.block H (by simp;omega) (fun e=>x7 K hk (by decide) e.symm),akJ w2 _ a];exact hk
    obtain⟨X,cap,y,rfl⟩:∃X cap y,v'=.slice (some ⟨X,0,none⟩) y cap:=by
     rcases R.2 with⟨_,h0⟩|⟨X,cap,n,hv,_⟩
     ·omega
     ·exact⟨X,cap,_,hv⟩
    have Z:=laid V;clear R D K V;go_wp2
    go_roundw
    case rel=>go_light;exact⟨i+1,H,by go_num,rfl,by omega,Z.out,I,M⟩
    case measure=>go_light;simp[intOf];omega
   ·have E:Hid (kK t p k (i+1)=kK t p k i):=laid (by rw[kK,if_neg o]);have I:w2.ownsRow w.heap.size 173 2 u7 (kK t p k (i+1)).length (jB (kK t p k (i+1))):=by
     rw[E.out];exact K
    generalize J:lX t p (i+1) p.size=g at *;clear J;go_wp2
    go_roundw
    case rel=>go_light;exact⟨i+1,H,by go_num,rfl,by omega,N.out,I,Y⟩
    case measure=>go_light;simp[intOf];omega
  ·have S:i=t.size:=by omega
   have m:Hid (wr.ownsRow w.heap.size 173 2 u7 (kU t p k).length (jB (kU t p k))):=laid (by unfold kU;rw[<-S];exact A);clear S A;go_wp2
   go_ret
   exact⟨u7,rfl,m.out,U⟩
noncomputable def Em:=match bL.body with
 |some (.seq a _)=>a
 |_=>.skip
noncomputable def ss:=match bL.body with
 |some (.seq _ (.seq b _))=>b
 |_=>.skip
theorem WM(X:ByteArray)(k q st len b:Nat)(w:ae)(hX:X.size<=1000)(hk:k<=6)(U:st<=200)(R:len<=1000)(H:b *st<=X.size)(D:b<=100000):
  ak ai 77 #[.agg #[.int .i64 (k:Int),.int .i64 (q:Int),.int .i64 (st:Int)],.string X,.int .i64 (len:Int),.int .i64 (b:Int)] w fun e w'=>e=.returned (.string (X.extract (b *st) (min (b *st+st+len+k) X.size)))/\ay w.heap.size w w':=by
 obtain⟨m,Y,I⟩:∃m:Nat,b *st=m/\(b:Int) *(st:Int)=(m:Int):=⟨b *st,rfl,by simp⟩;rw[Y]at H⊢;clear Y;have K:min ((m:Int)+(st:Int)+(len:Int)+(k:Int)) (X.size:Int)=((min (m+st+len+k) X.size:Nat):Int):=by omega
 go_wp2
 go_ret
 exact⟨rfl,(bR _ _).alloc (ao _) _⟩
structure Reads(w:ae)(By Rf Sg:Nat)(k q st:Nat)(X P:ByteArray):Prop where
 c0:w.cell? ⟨By,0,none⟩=some (.int .i64 (k:Int))
 c1:w.cell? ⟨By,1,none⟩=some (.int .i64 (q:Int))
 c2:w.cell? ⟨By,2,none⟩=some (.int .i64 (st:Int))
 x:w.cell? ⟨Rf,0,none⟩=some (.string X)
 p:w.cell? ⟨Sg,0,none⟩=some (.string P)
def pt(b:Nat):Value:=.pointer (some ⟨b,0,none⟩)
def nD(x By Rf Sg Fp:Nat)(v:af)(u:Nat->af):Array Value:=
 #[.int .i64 (x:Int),pt By,pt Rf,pt Sg,pt Fp,.tuple #[],v,u 7,u 8,u 9,u 10,u 11,u 12,u 13,u 14,u 15,u 16,u 17,u 18,u 19,u 20,u 21,u 22,u 23,u 24,u 25,u 26,u 27,u 28,u 29,u 30,u 31,u 32,u 33,u 34,u 35,u 36,u 37,u 38]
theorem Qb(x By Rf Sg Fp:Nat)(v X Z a9 Y K H D R U C F J M a20 N a22 a23 a24 a25 a26 a27 a28 O Q a31 a32 a33 S a35 a36 a37 V:af):#[.int .i64 x,pt By,pt Rf,pt Sg,pt Fp,.tuple #[],v,X,Z,a9,Y,K,H,D,R,U,C,F,J,M,a20,N,a22,a23,a24,a25,a26,a27,a28,O,Q,a31,a32,a33,S,a35,a36,a37,V]=nD x By Rf Sg Fp v (fun i=>[X,Z,a9,Y,K,H,D,R,U,C,F,J,M,a20,N,a22,a23,a24,a25,a26,a27,a28,O,Q,a31,a32,a33,S,a35,a36,a37,V].getD (i-7) (.tuple #[])):=rfl
def uA(By k q st x:Nat)(X P TT:ByteArray)(v:af):Nat->Value:=fun i=>[.tuple #[],.agg #[.int .i64 (k:Int),.int .i64 (q:Int),.int .i64 (st:Int)],.string X,.string P,.int .i64 (P.size:Int),.int .i64 (x:Int),.string TT,.string P,pt By,.int .i64 (k:Int),v].getD (i-7) (.tuple #[])
def jh(X P:ByteArray)(k st x:Nat):=X.extract (x *st) (min (x *st+st+P.size+k) X.size)
theorem afE(x By Rf Sg Fp k q st:Nat)(X P:ByteArray)(w:ae)(J:Reads w By Rf Sg k q st X P)(hX:X.size<=200)(hP:P.size<=30)(hk:k<=6)(Q:st<=200)(S:x *st<=X.size)(U:x<=100000):
  Em.wp ai (fun e a w'=>e=.normal/\∃v,a=⟨nD x By Rf Sg Fp v (uA By k q st x X P (jh X P k st x) v),[]⟩/\w'.ownsRow w.heap.size 173 2 v (kU (jh X P k st x) P k).length (jB (kU (jh X P k st x) P k))/\ay w.heap.size w w') ⟨nD x By Rf Sg Fp (.tuple #[]) (fun _=>.tuple #[]),[]⟩ w:=by
 obtain⟨c0,c1,c2,A,cp⟩:=J;have H:=laid (fun W=>WM X k q st P.size x W (by omega) hk Q (by omega) S U);have I:=laid (fun W=>V6 (jh X P k st x) P k W (by unfold jh;rw[d_];omega) (by omega) (by omega));have M:By<w.heap.size:=cy c0;have N:Rf<w.heap.size:=cy A;have O:Sg<w.heap.size:=cy cp;rw[show X.extract (x *st) (min (x *st+st+P.size+k) X.size)=jh X P k st x from rfl]at H;generalize kU (jh X P k st x) P k=L at *;generalize jh X P k st x=TT at *;unfold Em bL nD;dsimp only;simp only[pt]
 go_region_held3 (fun w'=>w'.cell? ⟨By,0,none⟩=some (.int .i64 (k:Int))/\w'.cell? ⟨By,1,none⟩=some (.int .i64 (q:Int))/\w'.cell? ⟨By,2,none⟩=some (.int .i64 (st:Int))/\w'.cell? ⟨Rf,0,none⟩=some (.string X)/\w'.cell? ⟨Sg,0,none⟩=some (.string P))
  (first|go_keep|((try dsimp only);(repeat' apply And.intro);all_goals(first
   |(rw[D.cell (by have:=Y.size;simp at this⊢;omega),Y.cell (by first|omega|(simp;omega))];assumption)
   |(rw[Y.cell (by first|omega|(simp;omega))];assumption))))
  (first
   |(go_at_call 77;refine(H.out _).mono ?_;rintro e w' ⟨rfl,Y⟩)
   |(go_at_call 139;refine(I.out _).mono ?_;rintro e T ⟨v,rfl,K,D⟩))
 refine⟨rfl,v,rfl,?_,?_⟩
 ·rcases K.2 with h'|⟨g,cap,R,B,C,F⟩
  ·exact⟨K.1,.inl h'⟩
  ·exact⟨K.1,.inr ⟨g,cap,R,B,aD Y.size C,F⟩⟩
 ·exact(show ay w.heap.size w w' from⟨Y.os,Y.tape,Y.output,Y.size,Y.block⟩).trans (D.mono Y.size)
def ki(m:Nat)(L:List (Nat×Nat))(j:Nat):=(L.take j).map (fun h=>(h.1+m,h.2))++L.drop j
theorem abq(L:List _)(i:Nat)(Y:i<L.length):(jB L)[i *2]?=some (nv (L[i]).1):=by
 induction L generalizing i with
 |nil=>simp at Y
 |cons a L K=>
  cases i with
  |zero=>rfl
  |succ i=>
   rw[show(i+1) *2=i *2+1+1 by omega];simp[jB]at *;simpa using K i _
theorem abr(L:List _)(i:Nat)(z:Nat)(Y:i<L.length):(jB L).set (i *2) (nv z)=jB (L.set i (z,(L[i]).2)):=by
 induction L generalizing i with
 |nil=>simp at Y
 |cons a L K=>
  cases i with
  |zero=>rfl
  |succ i=>
   rw[show(i+1) *2=i *2+1+1 by omega];simp[jB,eR,List.cons_append,List.nil_append,List.set_cons_succ,List.getElem_cons_succ]at *;rw[K i _]
theorem x8(m:Nat)(L:List _)(j:Nat):(ki m L j).length=L.length:=by
 simp[ki];omega
theorem O3(m:Nat)(L:List _)(j:Nat)(Y:j<L.length):(ki m L j)[j]?=some L[j]:=by
 unfold ki;have e:((L.take j).map fun h=>(h.1+m,h.2)).length=j:=by simp;omega
 rw[List.getElem?_append_right (by omega),e,fc,cZ Y];rfl
theorem ZH(m:Nat)(L:List _)(j:Nat)(Y:j<L.length):(ki m L j).set j ((L[j]).1+m,(L[j]).2)=ki m L (j+1):=by
 unfold ki;have e:((L.take j).map fun h=>(h.1+m,h.2)).length=j:=by simp;omega
 rw[List.set_append_right _ _ (by omega),e,fc,e_ Y,eV,cj,cZ Y];rfl
theorem afF(x By Rf Sg Fp k q st:Nat)(X P:ByteArray)(L:List (Nat×Nat))(v:af)(u:Nat->af)(B:Nat)(w:ae)(s:Reads w By Rf Sg k q st X P)(f:∀g,v.ownBlock=some g->g≠By)(hL:L.length<=1000)(U:∀h∈L,h.1<=1000)(hx:x *st<=1000)(gj:st<=1000)(hx':x<=100000)
  (Y:w.ownsRow B 173 2 v L.length (jB L)):
  ss.wp ai (fun e a w'=>e=.normal/\∃H,a=⟨nD x By Rf Sg Fp v H,[]⟩/\w'.ownsRow B 173 2 v L.length (jB (ki (x *st) L L.length))) ⟨nD x By Rf Sg Fp v u,[]⟩ w:=by
 have F:Hid (∀(t:Array af) (H:Nat->af) (w':ae),t=nD x By Rf Sg Fp v H->w'.ownsRow B 173 2 v L.length (jB (ki (x *st) L L.length))->(fun(e:Exit) (a:Act) (w':ae)=>e=.normal/\∃H,a=⟨nD x By Rf Sg Fp v H,[]⟩/\w'.ownsRow B 173 2 v L.length (jB (ki (x *st) L L.length))) .normal ⟨t,[]⟩ w'):=
  laid (fun t H w' e r=>⟨rfl,H,by rw[e],r⟩)
 generalize(fun(e:Exit) (a:Act) (w':ae)=>e=.normal/\∃H,a=⟨nD x By Rf Sg Fp v H,[]⟩/\w'.ownsRow B 173 2 v L.length (jB (ki (x *st) L L.length)))=Q at F⊢;have c2:=s.c2;clear s;obtain⟨m,d,j⟩:∃m:Nat,m=x *st/\(x:Int) *(st:Int)=(m:Int):=⟨x *st,rfl,by simp⟩;rw[<-d]at hx F;clear d;have N:=laid U;clear U;rcases Y.2 with⟨c,J⟩|⟨g,cap,o,c,hg,_⟩
 ·have Z:L=[]:=List.length_eq_zero_iff.1 J;subst Z c;have O:=laid Y;clear Y;unfold ss bL;dsimp only;rw[show nD x By Rf Sg Fp (_:af) u=_ from rfl];simp only[nD,pt];go_wp2
  go_loopw [20] (fun iv w2=>iv=.int .i64 0/\w2=w) (fun _ _=>0)
  case atStart=>exact⟨rfl,rfl⟩
  case round=>
   obtain⟨rfl,rfl⟩:=hrel;go_wp2
   exact F.out _ _ _ (Qb x By Rf Sg Fp _ _ _ _ _ _ _ _ _ _ _ _ _ _ _ _ _ _ _ _ _ _ _ _ _ _ _ _ _ _ _ _ _) O.out
 ·subst c;have G:=f g rfl;have O:=laid Y;clear Y f;generalize J:L.length=n at *;have l:=laid J;clear J;unfold ss bL;dsimp only;rw[show nD x By Rf Sg Fp (_:af) u=_ from rfl];simp only[nD,pt];go_wp2
  go_loopw [20] (fun iv w2=>∃i:Nat,iv=.int .i64 (i:Int)/\i<=n/\w2.ownsRow B 173 2 (.slice (some ⟨g,0,none⟩) n cap) n (jB (ki m L i))/\w2.cell? ⟨By,2,none⟩=some (.int .i64 (st:Int))) (fun iv _=>n-(intOf iv).toNat)
  case atStart=>exact⟨0,rfl,bg _,O.out,c2⟩
  case round=>
   obtain⟨i,rfl,y,Y,R⟩:=hrel;by_cases b:i<n
   ·have K:i<L.length:=by have:=l.out;omega
    have b1:(i:Int)<(n:Int):=by omega
    have b2:(0:Int)<=(i:Int):=cX _;have s1:wr.cell? ⟨By,2,none⟩=some (.int .i64 (st:Int)):=R;have s2:wr.cell? ⟨g,i *2,none⟩=some (.int .i64 ((L[i]).1:Int)):=by
     rw[Y.cellAt (i *2) (by omega)];have h:=abq (ki m L i) i (by rw[x8];exact K);rw[h];have A:=O3 m L i K;rw[cm (by rw[x8];exact K)]at A;rw[Option.some.inj A];rfl
    have s3:=Y.frozenAt (i *2);have hE:=N.out (L[i]) (List.getElem_mem K);have x1:aO.wrap ((x:Int) *(st:Int))=(m:Int):=by rw[j];exact aW _ (by omega)
    have x2:aO.wrap (((L[i]).1:Int)+(m:Int))=((L[i]).1:Int)+(m:Int):=aW _ (by omega);have I:=Y.stored (i *2) (nv ((L[i]).1+m));have T:Hid ((wr.setCell ⟨g,i *2,none⟩ (nv ((L[i]).1+m))).ownsRow B 173 2 (.slice (some ⟨g,0,none⟩) n cap) n (jB (ki m L (i+1)))):=laid (by
     have h:=I.1;have A:=O3 m L i K;rw[cm (by rw[x8];exact K)]at A;rw[abr _ i _ (by rw[x8];exact K),Option.some.inj A,ZH m L i K]at h;exact h)
    have D:Hid (∀z:af,(wr.setCell ⟨g,i *2,none⟩ z).cell? ⟨By,2,none⟩=some (.int .i64 (st:Int))):=laid fun z=>(aU wr ⟨g,i *2,none⟩ ⟨By,2,none⟩ z (by intro e;injection e with p e2;exact G p)).trans s1;clear I Y R;generalize(L[i]).1=E at *;have C:nv (E+m)=.int .i64 ((E:Int)+(m:Int)):=by simp[nv]
    rw[C]at T;clear C;have V:Hid ((wr.setCell ⟨g,i *2,none⟩ (.int .i64 ((E:Int)+(m:Int)))).drew.ownsRow B 173 2 (.slice (some ⟨g,0,none⟩) n cap) n (jB (ki m L (i+1)))):=T;have M:Hid ((wr.setCell ⟨g,i *2,none⟩ (.int .i64 ((E:Int)+(m:Int)))).drew.cell? ⟨By,2,none⟩=some (.int .i64 (st:Int))):=laid (D.out _);clear T D;go_wp2
    go_region
    generalize(wr.setCell ⟨g,i *2,none⟩ (.int .i64 ((E:Int)+(m:Int)))).drew=W2 at *;go_wp2
    go_roundw
    case rel=>go_light;exact⟨i+1,by go_num,by omega,V.out,M.out⟩
    case measure=>go_light;simp[intOf];omega
   ·have W:i=n:=by omega
    subst W;have S:=laid Y;clear Y;go_wp2
    exact F.out _ _ _ (Qb x By Rf Sg Fp _ _ _ _ _ _ _ _ _ _ _ _ _ _ _ _ _ _ _ _ _ _ _ _ _ _ _ _ _ _ _ _ _) S.out
def RD(w:ae)(b:Nat)(s:ByteArray)(p:Int)(c:Int):=
 w.heap[b]?=some (.cells #[.string s,.int .i64 p,.int .i64 c] 98 (0,0))
theorem RD.c0{s:ByteArray}{p c:Int}(h:RD w b s p c):w.cell? ⟨b,0,none⟩=some (.string s):=by
 rw[bk w b 0 _ _ _ h];rfl
theorem RD.c1{s:ByteArray}{p c:Int}(h:RD w b s p c):w.cell? ⟨b,1,none⟩=some (.int .i64 p):=by
 rw[bk w b 1 _ _ _ h];rfl
theorem RD.c2{s:ByteArray}{p c:Int}(h:RD w b s p c):w.cell? ⟨b,2,none⟩=some (.int .i64 c):=by
 rw[bk w b 2 _ _ _ h];rfl
theorem RD.fz{s:ByteArray}{p c:Int}(h:RD w b s p c)(j:Nat):w.frozen? ⟨b,j,none⟩=false:=cA w b j _ _ h
def qz(c p:Int):List PanicEntry:=[{v:=.iface 70 (.agg #[.int .i64 c,.int .i64 p]),recovered:=false}]
theorem nZ(w:ae)(b:Nat)(s:ByteArray)(p c:Int)(h:RD w b s p c):
  ak ai 65 #[.pointer (some ⟨b,0,none⟩)] w fun e w'=>e=.returned (.bool (p==(s.size:Int)))/\∃m,w'=w.drewN m:=by
 have Y:=h.c0;have K:=h.c1;go_wp2
 go_quiet(fail)
 go_wp2
 go_ret
 exact⟨rfl,nq,rfl⟩
theorem qj(w:ae)(b:Nat)(s:ByteArray)(p c:Int)(h:RD w b s p c):
  ak ai 69 #[.pointer (some ⟨b,0,none⟩)] w fun e w'=>e=.panicked (qz c p)/\∃m,w'=w.drewN m:=by
 have Y:=h.c1;have K:=h.c2;go_wp2
 go_region_dies
 all_goals(try go_wp2)
 all_goals exact⟨rfl,rfl,1,rfl⟩
def iN(f:UInt8->Bool)(l:List _)(m:Nat):=((l.take m).takeWhile f).length
theorem Np(f:UInt8->Bool)(m:Nat):iN f [] m=0:=by simp[iN]
theorem F2(f:UInt8->Bool)(l:List _):iN f l 0=0:=by simp[iN]
theorem vs(f:UInt8->Bool)(x:UInt8)(l:List _)(m:Nat):iN f (x::l) (m+1)=if f x=true then iN f l m+1 else 0:=by
 unfold iN;by_cases h:f x=true<;>simp[h]
theorem rO(f:UInt8->Bool):∀l m,iN f l m<=m/\iN f l m<=l.length
 |[],m=>by rw[Np];simp
 |x::l,0=>by rw[F2];simp
 |x::l,m+1=>by
  have:=rO f l m;rw[vs];split<;>simp<;>omega
theorem B0(f:UInt8->Bool):∀l m k h,k<=iN f l m->k<m->f l[k]=true->k+1<=iN f l m
 |[],m,k,h,_,_,_=>by simp at h
 |x::l,0,k,h,_,K,_=>by omega
 |x::l,m+1,0,h,_,_,Y=>by
  rw[vs,if_pos (by simp_all)];omega
 |x::l,m+1,k+1,h,hk,K,Y=>by
  rw[vs]at hk⊢;by_cases H:f x=true
  ·rw[if_pos H]at hk⊢;have:=B0 f l m k _ (by omega) (by omega) (by simpa using Y);omega
  ·simp_all
theorem B1(f:UInt8->Bool):∀l m k h,k<=iN f l m->f l[k]=false->iN f l m=k
 |[],m,k,h,_,_=>by simp at h
 |x::l,0,k,h,hk,_=>by rw[F2]at hk⊢;omega
 |x::l,m+1,0,h,_,Y=>by
  rw[vs,if_neg (by simp_all)]
 |x::l,m+1,k+1,h,hk,Y=>by
  rw[vs]at hk⊢;by_cases K:f x=true
  ·rw[if_pos K]at hk⊢;have:=B1 f l m k _ (by omega) (by simpa using Y);omega
  ·simp_all
def rest(s:ByteArray)(p:Nat):=s.data.toList.drop p
theorem oA(s:ByteArray)(p:Nat):(rest s p).length=s.size-p:=by simp[rest]
theorem adu(s:ByteArray)(p k:Nat)(h:p+k<s.size):(rest s p)[k]'(by rw[oA];omega)=s[p+k]:=by
 simp[rest,ByteArray.getElem_eq_getElem_data]
theorem RD.put{s:ByteArray}{p c:Int}(h:RD w b s p c)(q:Int):RD (w.setCell ⟨b,1,none⟩ (.int .i64 q)) b s q c:=by
 unfold RD at *;have:=heap_setCell_same w b 1 _ _ (.int .i64 q) h;simp_all
theorem qi(w:ae)(b:Nat)(j:Nat)(v:af):w.grownBy (w.setCell ⟨b,j,none⟩ v) (some b):=
 ⟨rfl,rfl,rfl,by simp,fun k hk Y=>heap_setCell_other w _ k v (by simp_all)⟩
theorem FW(w:ae)(r:Option Nat):w.grownBy w r:=⟨rfl,rfl,rfl,ao _,fun _ _ _=>rfl⟩
theorem nk(w:ae)(n:Nat)(r:Option Nat):w.grownBy (w.drewN n) r:=⟨rfl,rfl,rfl,ao _,fun _ _ _=>rfl⟩
theorem js{a b c:ae}{r:Option Nat}(h:a.grownBy b r)(k:b.grownBy c r):a.grownBy c r:=
 ⟨k.os.trans h.os,k.tape.trans h.tape,k.output.trans h.output,aD h.size k.size,fun j K Y=>(k.block j (bp K h.size) Y).trans (h.block j K Y)⟩
theorem RD.drewN{s:ByteArray}{p c:Int}(h:RD w b s p c)(n:Nat):RD (w.drewN n) b s p c:=h
theorem B2(x:UInt8)(w:ae):
  ak ai 71 #[.int .u8 x.toNat] w fun e w'=>e=.returned (.bool (kO x))/\w'=w:=Yg _ (Af x) (ym x) w
def Hu(w:ae)(b:Nat)(s:ByteArray)(p:Nat)(c:Int)(f:UInt8->Bool)(m:Nat)(q:Nat)(wr:ae):Prop:=
 p<=q/\q<=p+iN f (rest s p) m/\RD wr b s (q:Int) c/\w.grownBy wr (some b)
theorem yc(s:ByteArray)(p q:Nat)(Y:p<=q)(h:q<s.size):(rest s p)[q-p]'(by rw[oA];omega)=s[q]:=by
 rw[adu s p _ (by omega)];simp_all
def mO(w:ae)(b:Nat):=(intOf ((w.cell? ⟨b,1,none⟩).getD ar)).toNat
theorem RD.mO{s:ByteArray}{p c:Int}(h:RD w b s p c):mO w b=p.toNat:=by
 unfold Go.Proofs.YtdcjnhipenbcfaaGreatDoor.mO;rw[h.c1];rfl
def ye(w:ae)(b:Nat)(s:ByteArray)(p:Nat)(c:Int)(n:Nat)(least:Int)(e:bZ)(w':ae):Prop:=
 (least<=(n:Int)->e=.returned (.string (s.extract p (p+n))))/\((n:Int)<least->e=.panicked (qz c ((p:Int)+(n:Int))))/\RD w' b s ((p:Int)+(n:Int)) c/\w.grownBy w' (some b)
theorem sO{s:ByteArray}{p:Nat}{c:Int}{wr:ae}(D:q=p+n)(R:p<=q)(H:¬(q:Int)-(p:Int)<least)
  (Y:RD wr b s (q:Int) c)(K:w.grownBy wr (some b))(m:Nat):ye w b s p c n least (.returned (.string (s.extract p q))) (wr.drewN m):=by
 subst D;refine⟨fun _=>rfl,fun h=>absurd h (by omega),?_,js K (nk wr m _)⟩;have:=Y.drewN m
 rwa [show((p+n))=p+n by omega]at this
theorem sN{s:ByteArray}{p:Nat}{c:Int}{wr:ae}(D:q=p+n)(R:p<=q)(H:(q:Int)-(p:Int)<least)
  (Y:RD wr b s (q:Int) c)(K:w.grownBy wr (some b))(m:Nat):ye w b s p c n least (.panicked (qz c q)) (wr.drewN m):=by
 subst D;refine⟨fun h=>absurd h (by omega),fun _=>by simp,?_,js K (nk wr m _)⟩;have:=Y.drewN m
 rwa [show((p+n))=p+n by omega]at this
theorem WN(w:ae)(b:Nat)(s:ByteArray)(p:Nat)(c:Int)(least Y:Int)(h:RD w b s p c)(m:s.size<=1000)(g:p<=s.size)(f:0<=Y)(E:Y<=1000)(W:0<=least)(X:least<=1000):
  ak ai 70 #[.pointer (some ⟨b,0,none⟩),.func (.func 71) #[] #[],.int .i64 least,.int .i64 Y] w fun e w'=>
   ye w b s p c (iN kO (rest s p) Y.toNat) least e w':=by
 have T:=h.c1
 go_enter dq,du
 go_wp2
 clear T
 go_loopw [] (fun wr=>∃q:Nat,Hu w b s p c kO Y.toNat q wr) (fun wr=>s.size-mO wr b)
 case atStart=>exact⟨p,ao _,by omega,h,FW _ _⟩
 case round=>
  obtain⟨q,J,j,K,B⟩:=hrel;have C:=rO kO (rest s p) Y.toNat;rw[oA]at C;have c0:=K.c0;have c1:=K.c1;have f1:=K.fz 1;have G:aO.wrap ((q:Int)-(p:Int))=(q:Int)-(p:Int):=aW _ (by omega);by_cases Z:(q:Int)-(p:Int)<Y
  ·have L:decide ((q:Int)-(p:Int)<Y)=true:=by simp;omega
   by_cases A:q<s.size
   ·have O:((q:Int)==(s.size:Int))=false:=by simp;omega
    have V:(q:Int)<(s.size:Int):=by omega
    by_cases R:kO s[q]=true
    ·go_wp2_with fail
     go_quiet((first|(go_at_call 65;exact aA (nZ _ _ _ _ _ (K.drewN _)))|(go_at_call 71;exact aJ (B2 _ _))))
     have N:=B0 kO (rest s p) Y.toNat (q-p) (by rw[oA];omega) (by omega) (by omega) (by rw[yc s p q J A];exact R);go_wp2
     have U:=(K.drewN nq).put ((q:Int)+1);have M:=js B (js (nk wr nq (some b)) (qi (wr.drewN nq) b 1 (.int .i64 ((q:Int)+1))))
     go_roundw
     case rel=>go_light;exact⟨q+1,by omega,by omega,U,M⟩
     case measure=>go_light;have Q:=K.mO;have S:=U.mO;rw[Q,S];omega
    ·rw[az]at R;have D:Hid (q=p+iN kO (rest s p) Y.toNat):=by
      have:=B1 kO (rest s p) Y.toNat (q-p) (by rw[oA];omega) (by omega) (by rw[yc s p q J A];exact R);exact laid (by omega)
     go_wp2_with fail
     go_quiet((first|(go_at_call 65;exact aA (nZ _ _ _ _ _ (K.drewN _)))|(go_at_call 71;exact aJ (B2 _ _))))
     have H:=K.drewN nq;have I:=js B (nk wr nq (some b));by_cases F:(q:Int)-(p:Int)<least
     ·go_wp2_with(go_at_call 69;refine(qj _ _ _ _ _ H).mono ?_;rintro e w' ⟨rfl,P,rfl⟩)
      exact⟨rfl,sN (least:=least) D.out (by omega) (by omega) K B _⟩
     ·go_wp2
      go_quiet(fail)
      go_wp2
      go_ret
      exact sO (least:=least) D.out (by omega) (by omega) H I _
   ·have O:((q:Int)==(s.size:Int))=true:=by simp;omega
    have D:Hid (q=p+iN kO (rest s p) Y.toNat):=laid (by omega);go_wp2_with fail
    go_quiet((first|(go_at_call 65;exact aA (nZ _ _ _ _ _ (K.drewN _)))|(go_at_call 71;exact aJ (B2 _ _))))
    have H:=K.drewN nq;have I:=js B (nk wr nq (some b));by_cases F:(q:Int)-(p:Int)<least
    ·go_wp2_with(go_at_call 69;refine(qj _ _ _ _ _ H).mono ?_;rintro e w' ⟨rfl,P,rfl⟩)
     exact⟨rfl,sN (least:=least) D.out (by omega) (by omega) K B _⟩
    ·go_wp2
     go_quiet(fail)
     go_wp2
     go_ret
     exact sO (least:=least) D.out (by omega) (by omega) H I _
  ·have L:decide ((q:Int)-(p:Int)<Y)=false:=by simp;omega
   have D:Hid (q=p+iN kO (rest s p) Y.toNat):=laid (by omega);go_wp2_with fail
   go_quiet((first|(go_at_call 65;exact aA (nZ _ _ _ _ _ (K.drewN _)))|(go_at_call 71;exact aJ (B2 _ _))))
   have H:=K.drewN nq;have I:=js B (nk wr nq (some b));by_cases F:(q:Int)-(p:Int)<least
   ·go_wp2_with(go_at_call 69;refine(qj _ _ _ _ _ H).mono ?_;rintro e w' ⟨rfl,P,rfl⟩)
    exact⟨rfl,sN (least:=least) D.out (by omega) (by omega) K B _⟩
   ·go_wp2
    go_quiet(fail)
    go_wp2
    go_ret
    exact sO (least:=least) D.out (by omega) (by omega) H I _
def DX(n:Int):=decide (65<=n/\n<=90)||decide (97<=n/\n<=122)||decide (48<=n/\n<=57)||decide (n=95)||decide (n=46)
def DY(n:Int):=decide (33<=n/\n<=126)
def kQ(b:UInt8):=DX b.toNat
def ku(b:UInt8):=DY b.toNat
theorem Yo(n:Int)(Y:0<=n)(K:n<=255)(w:ae):
  ak ai 95 #[.int .u8 n] w fun e w'=>e=.returned (.bool (DX n))/\w'=w:=by
 all_goals
  go_enter Tryz.func95,Tryz.ntmps95
  go_wp2
  all_goals go_ret
  all_goals(go_light;refine⟨oZ ?_,rfl⟩;first|(simp_all[DX];done)|(rw[bS];simp[DX];omega))
theorem Yp(n:Int)(Y:0<=n)(K:n<=255)(w:ae):
  ak ai 120 #[.int .u8 n] w fun e w'=>e=.returned (.bool (DY n))/\w'=w:=by
 by_cases a1:33<=n<;>by_cases a2:n<=126;all_goals
  go_wp2
  all_goals go_ret
  all_goals(exact⟨oZ (by simp_all[DY]),rfl⟩)
theorem B3(x:UInt8)(w:ae):
  ak ai 95 #[.int .u8 x.toNat] w fun e w'=>e=.returned (.bool (kQ x))/\w'=w:=Yo _ (Af x) (ym x) w
theorem B4(x:UInt8)(w:ae):
  ak ai 120 #[.int .u8 x.toNat] w fun e w'=>e=.returned (.bool (ku x))/\w'=w:=Yp _ (Af x) (ym x) w
def iB(st:Nat×Bool)(f:Nat->Nat×Bool):=if st.2=true then st else f st.1
theorem vJ{st:Nat×Bool}(h:st.2=true)(f:Nat->Nat×Bool):iB st f=st:=if_pos h
theorem kz{st:Nat×Bool}(h:st.2=false)(f:Nat->Nat×Bool):iB st f=f st.1:=if_neg (by simp[h])
def gW(s:ByteArray)(c:UInt8)(p:Nat):=if h:p<s.size then(if s[p]=c then(p+1,false)else(p,true))else(p,true)
def lC(s:ByteArray)(f:UInt8->Bool)(least Y p:Nat):=(p+iN f (rest s p) Y,decide (iN f (rest s p) Y<least))
def qA(s:ByteArray)(p:Nat):=iB (lC s kQ 1 10 p) (gW s 10)
def iX(s:ByteArray)(Y p:Nat):=iB (lC s kO 1 Y p) (gW s 10)
def jK(s:ByteArray)(Y p:Nat):=iN kO (rest s p) Y
def vY(s:ByteArray):Nat->Nat->Nat->Nat×Bool
 |0,_,p=>(p,false)
 |fuel+1,n,p=>if s.size<=p then(p,false)else iB (iX s (200-n) p) (vY s fuel (n+jK s (200-n) p))
def lU(s:ByteArray):=
 iB (gW s 62 0) fun p=>iB (qA s p) fun p=>iB (iX s 200 p) (vY s (s.size+1) (jK s 200 p))
def lL(s:ByteArray)(p:Nat):=
 iB (gW s 64 p) fun p=>iB (qA s p) fun p=>iB (iX s 30 p) fun p'=>iB (gW s 43 p') fun p'=>iB (gW s 10 p') fun p'=>iB (lC s ku (jK s 30 p) (jK s 30 p) p') (gW s 10)
def kL(s:ByteArray)
 |0,p=>(p,decide (p<s.size))
 |n+1,p=>if s.size<=p then(p,false)else iB (lL s p) (kL s n)
theorem qs(s:ByteArray)(c:UInt8)(p:Nat)(h:p<=s.size):p<=(gW s c p).1/\(gW s c p).1<=s.size:=by
 unfold gW;split
 ·split<;>simp<;>omega
 ·omega
theorem Nq(s:ByteArray)(c:UInt8)(p:Nat)(h:(gW s c p).2=false):(gW s c p).1=p+1/\p<s.size:=by
 unfold gW at *;split at h
 ·split at h
  ·simp_all
  simp_all
 simp_all
theorem vK(s:ByteArray)(f:UInt8->Bool)(least Y p:Nat)(h:p<=s.size):p<=(lC s f least Y p).1/\(lC s f least Y p).1<=s.size:=by
 have:=(rO f (rest s p) Y).2;rw[oA]at this;unfold lC;omega
theorem pL{s:ByteArray}{st:Nat×Bool}{f:Nat->Nat×Bool}{p:Nat}(h:p<=st.1/\st.1<=s.size)(Y:∀q,q<=s.size->q<=(f q).1/\(f q).1<=s.size):p<=(iB st f).1/\(iB st f).1<=s.size:=by
 unfold iB;split
 ·exact h
 ·have:=Y _ h.2;omega
theorem O4(s:ByteArray)(p:Nat)(h:p<=s.size):p<=(qA s p).1/\(qA s p).1<=s.size:=pL (vK s _ _ _ p h) fun q Y=>qs s _ q Y
theorem uj(s:ByteArray)(m p:Nat)(h:p<=s.size):p<=(iX s m p).1/\(iX s m p).1<=s.size:=pL (vK s _ _ _ p h) fun q Y=>qs s _ q Y
theorem rM{st:Nat×Bool}{f:Nat->Nat×Bool}(h:(iB st f).2=false):st.2=false/\(f st.1).2=false:=by
 unfold iB at h;split at h
 ·simp_all
 ·simp_all
theorem Gd(s:ByteArray)(m p:Nat)(h:(iX s m p).2=false):(iX s m p).1=p+jK s m p+1/\1<=jK s m p/\p+jK s m p<s.size:=by
 unfold iX at *;obtain⟨Y,K⟩:=rM h;rw[kz Y];have:=Nq s 10 _ K;unfold lC at this Y⊢;simp at Y this⊢;unfold jK;omega
theorem z7(s:ByteArray)(m p:Nat):jK s m p<=m:=(rO _ _ _).1
def cut(s:ByteArray)(p q:Nat):ByteArray:=str ((rest s p).take (q-p))
def r_(s:ByteArray)(st:Nat×Bool):ByteArray:=if st.2=true then⟨#[]⟩else cut s st.1 (st.1+iN kQ (rest s st.1) 10)
def yT(s:ByteArray)(p q:Nat):ByteArray:=str (((rest s p).take (q-p)).map gb)
theorem ZI(s:ByteArray)(p q:Nat)(Y:q<=s.size):(yT s p q).size=q-p:=by
 unfold yT;rw[gR,List.length_map,List.length_take,oA];omega
def sa(s:ByteArray)(m p:Nat):ByteArray:=yT s p (p+jK s m p)
theorem Gt(s:ByteArray)(m p:Nat)(Y:p<=s.size):(sa s m p).size=jK s m p:=by
 have:=(rO kO (rest s p) m).2;rw[oA]at this;unfold sa jK;rw[ZI _ _ _ (by omega)];omega
def yU(s:ByteArray)(m:Nat)(st:Nat×Bool):ByteArray:=if st.2=true then⟨#[]⟩else sa s m st.1
def su(s:ByteArray)(m p:Nat):=((rest s p).take (jK s m p)).map gb
theorem Qc(s:ByteArray)(m p:Nat):sa s m p=str (su s m p):=by
 unfold sa yT su;simp_all
theorem Hv(s:ByteArray)(m p:Nat)(Y:p<=s.size):(su s m p).length=jK s m p:=by
 have h:=Gt s m p Y;rw[Qc,gR]at h;exact h
def nM(s:ByteArray):Nat->List UInt8->Nat×Bool->(Nat×Bool)×List UInt8
 |0,acc,st=>(st,acc)
 |f+1,acc,st=>if st.2=false/\(acc=[]\/st.1<s.size)then nM s f (acc++su s (200-acc.length) st.1) (iX s (200-acc.length) st.1)else(st,acc)
def mQ(s:ByteArray):=nM s (s.size+2) [] (iB (gW s 62 0) (qA s))
def vS(s:ByteArray):=r_ s (gW s 62 0)
theorem B_{s:ByteArray}{f:Nat}{acc:List _}{st:Nat×Bool}{R:(Nat×Bool)×List _}(H:0<f)(K:st.2=false)(Y:acc=[]\/st.1<s.size)(h:nM s f acc st=R):
  nM s (f-1) (acc++su s (200-acc.length) st.1) (iX s (200-acc.length) st.1)=R:=by
 cases f with
 |zero=>omega
 |succ f=>rw[<-h];simp only[nM,Nat.add_sub_cancel];simp_all
theorem xW{s:ByteArray}{f:Nat}{acc:List _}{st:Nat×Bool}{R:(Nat×Bool)×List _}(K:st.2=true\/(acc≠ []/\s.size<=st.1))(h:nM s f acc st=R):R=(st,acc):=by
 cases f with
 |zero=>rw[<-h];rfl
 |succ f=>
  rw[<-h];simp only[nM];rw[if_neg];rintro⟨I,Y⟩;rcases K with K|⟨H,D⟩
  ·simp_all
  ·rcases Y with Y|Y
   ·simp_all
   ·omega
def xB(a b:ByteArray):=a.toList==b.toList
theorem CO(a b:ByteArray):xB a b=true↔a=b:=by
 unfold xB;rw[ec,ec,beq_iff_eq];constructor
 ·intro h;exact ByteArray.ext (bO h)
 ·simp_all
def wN(r s:ByteArray)
 |0=>0
 |k+1=>wN r s k+(if xB (s.extract k (k+r.size)) r=true then 1 else 0)
def pd(r s:ByteArray):=wN r s (s.size+1-r.size)
def Jh(p s:ByteArray)(q i:Nat):=
 if 0<pd (p.extract i (i+q)) (p.extract 0 (i+q-1))\/0<pd ⟨#[78]⟩ (p.extract i (i+q))then 0 else min (pd (p.extract i (i+q)) p) (pd (p.extract i (i+q)) s)
def Dm(p s:ByteArray)(q:Nat)
 |0=>0
 |k+1=>Dm p s q k+Jh p s q k
def sb(p s:ByteArray)(q:Nat):=Dm p s q (p.size+1-q)
def dg(d:Nat):=dy (48+d)
def uF
 |0,n=>[dg n]
 |f+1,n=>if n<=9 then [dg n]else uF f (n/10)++[dg (n%10)]
def gJ(n:Nat):=uF n n
theorem Ge:∀f n,n<=f->uF f n=uF n n
 |0,n,h=>by simp_all
 |f+1,n,h=>by
  cases n with
  |zero=>simp[uF]
  |succ n=>
   simp[uF];split
   ·rfl
   ·rw[Ge f _ (by omega),Ge n _ (by omega)]
theorem ql(n:Nat)(h:n<=9):gJ n=[dg n]:=by
 unfold gJ;cases n with
 |zero=>rfl
 |succ n=>simp only[uF];simp_all
theorem rQ(n:Nat)(h:¬n<=9):gJ n=gJ (n/10)++[dg (n%10)]:=by
 unfold gJ;cases n with
 |zero=>omega
 |succ n=>simp only[uF];rw[if_neg h,Ge n _ (by omega)]
def vZ(k many q step:Int):=decide (0<=k/\k<=6/\k<many/\1<=q/\q<=8/\1<=step/\step<=200)
theorem WO(w:ae)(b:Nat)(s:ByteArray)(p:Nat)(c:Int)(least Y:Int)(h:RD w b s p c)(m:s.size<=1000)(g:p<=s.size)(f:0<=Y)(E:Y<=1000)(W:0<=least)(X:least<=1000):
  ak ai 70 #[.pointer (some ⟨b,0,none⟩),.func (.func 95) #[] #[],.int .i64 least,.int .i64 Y] w fun e w'=>
   ye w b s p c (iN kQ (rest s p) Y.toNat) least e w':=by
 have T:=h.c1
 go_enter dq,du
 go_wp2
 clear T
 go_loopw [] (fun wr=>∃q:Nat,Hu w b s p c kQ Y.toNat q wr) (fun wr=>s.size-mO wr b)
 case atStart=>exact⟨p,ao _,by omega,h,FW _ _⟩
 case round=>
  obtain⟨q,J,j,K,B⟩:=hrel;have C:=rO kQ (rest s p) Y.toNat;rw[oA]at C;have c0:=K.c0;have c1:=K.c1;have f1:=K.fz 1;have G:aO.wrap ((q:Int)-(p:Int))=(q:Int)-(p:Int):=aW _ (by omega);by_cases Z:(q:Int)-(p:Int)<Y
  ·have L:decide ((q:Int)-(p:Int)<Y)=true:=by simp;omega
   by_cases A:q<s.size
   ·have O:((q:Int)==(s.size:Int))=false:=by simp;omega
    have V:(q:Int)<(s.size:Int):=by omega
    by_cases R:kQ s[q]=true
    ·go_wp2_with fail
     go_quiet((first|(go_at_call 65;exact aA (nZ _ _ _ _ _ (K.drewN _)))|(go_at_call 95;exact aJ (B3 _ _))))
     have N:=B0 kQ (rest s p) Y.toNat (q-p) (by rw[oA];omega) (by omega) (by omega) (by rw[yc s p q J A];exact R);go_wp2
     have U:=(K.drewN nq).put ((q:Int)+1);have M:=js B (js (nk wr nq (some b)) (qi (wr.drewN nq) b 1 (.int .i64 ((q:Int)+1))))
     go_roundw
     case rel=>go_light;exact⟨q+1,by omega,by omega,U,M⟩
     case measure=>go_light;have Q:=K.mO;have S:=U.mO;rw[Q,S];omega
    ·rw[az]at R;have D:Hid (q=p+iN kQ (rest s p) Y.toNat):=by
      have:=B1 kQ (rest s p) Y.toNat (q-p) (by rw[oA];omega) (by omega) (by rw[yc s p q J A];exact R);exact laid (by omega)
     go_wp2_with fail
     go_quiet((first|(go_at_call 65;exact aA (nZ _ _ _ _ _ (K.drewN _)))|(go_at_call 95;exact aJ (B3 _ _))))
     have H:=K.drewN nq;have I:=js B (nk wr nq (some b));by_cases F:(q:Int)-(p:Int)<least
     ·go_wp2_with(go_at_call 69;refine(qj _ _ _ _ _ H).mono ?_;rintro e w' ⟨rfl,P,rfl⟩)
      exact⟨rfl,sN (least:=least) D.out (by omega) (by omega) K B _⟩
     ·go_wp2
      go_quiet(fail)
      go_wp2
      go_ret
      exact sO (least:=least) D.out (by omega) (by omega) H I _
   ·have O:((q:Int)==(s.size:Int))=true:=by simp;omega
    have D:Hid (q=p+iN kQ (rest s p) Y.toNat):=laid (by omega);go_wp2_with fail
    go_quiet((first|(go_at_call 65;exact aA (nZ _ _ _ _ _ (K.drewN _)))|(go_at_call 95;exact aJ (B3 _ _))))
    have H:=K.drewN nq;have I:=js B (nk wr nq (some b));by_cases F:(q:Int)-(p:Int)<least
    ·go_wp2_with(go_at_call 69;refine(qj _ _ _ _ _ H).mono ?_;rintro e w' ⟨rfl,P,rfl⟩)
     exact⟨rfl,sN (least:=least) D.out (by omega) (by omega) K B _⟩
    ·go_wp2
     go_quiet(fail)
     go_wp2
     go_ret
     exact sO (least:=least) D.out (by omega) (by omega) H I _
  ·have L:decide ((q:Int)-(p:Int)<Y)=false:=by simp;omega
   have D:Hid (q=p+iN kQ (rest s p) Y.toNat):=laid (by omega);go_wp2_with fail
   go_quiet((first|(go_at_call 65;exact aA (nZ _ _ _ _ _ (K.drewN _)))|(go_at_call 95;exact aJ (B3 _ _))))
   have H:=K.drewN nq;have I:=js B (nk wr nq (some b));by_cases F:(q:Int)-(p:Int)<least
   ·go_wp2_with(go_at_call 69;refine(qj _ _ _ _ _ H).mono ?_;rintro e w' ⟨rfl,P,rfl⟩)
    exact⟨rfl,sN (least:=least) D.out (by omega) (by omega) K B _⟩
   ·go_wp2
    go_quiet(fail)
    go_wp2
    go_ret
    exact sO (least:=least) D.out (by omega) (by omega) H I _
theorem WR(w:ae)(b:Nat)(s:ByteArray)(p:Nat)(c:Int)(least Y:Int)(h:RD w b s p c)(m:s.size<=1000)(g:p<=s.size)(f:0<=Y)(E:Y<=1000)(W:0<=least)(X:least<=1000):
  ak ai 70 #[.pointer (some ⟨b,0,none⟩),.func (.func 120) #[] #[],.int .i64 least,.int .i64 Y] w fun e w'=>
   ye w b s p c (iN ku (rest s p) Y.toNat) least e w':=by
 have T:=h.c1
 go_enter dq,du
 go_wp2
 clear T
 go_loopw [] (fun wr=>∃q:Nat,Hu w b s p c ku Y.toNat q wr) (fun wr=>s.size-mO wr b)
 case atStart=>exact⟨p,ao _,by omega,h,FW _ _⟩
 case round=>
  obtain⟨q,J,j,K,B⟩:=hrel;have C:=rO ku (rest s p) Y.toNat;rw[oA]at C;have c0:=K.c0;have c1:=K.c1;have f1:=K.fz 1;have G:aO.wrap ((q:Int)-(p:Int))=(q:Int)-(p:Int):=aW _ (by omega);by_cases Z:(q:Int)-(p:Int)<Y
  ·have L:decide ((q:Int)-(p:Int)<Y)=true:=by simp;omega
   by_cases A:q<s.size
   ·have O:((q:Int)==(s.size:Int))=false:=by simp;omega
    have V:(q:Int)<(s.size:Int):=by omega
    by_cases R:ku s[q]=true
    ·go_wp2_with fail
     go_quiet((first|(go_at_call 65;exact aA (nZ _ _ _ _ _ (K.drewN _)))|(go_at_call 120;exact aJ (B4 _ _))))
     have N:=B0 ku (rest s p) Y.toNat (q-p) (by rw[oA];omega) (by omega) (by omega) (by rw[yc s p q J A];exact R);go_wp2
     have U:=(K.drewN nq).put ((q:Int)+1);have M:=js B (js (nk wr nq (some b)) (qi (wr.drewN nq) b 1 (.int .i64 ((q:Int)+1))))
     go_roundw
     case rel=>go_light;exact⟨q+1,by omega,by omega,U,M⟩
     case measure=>go_light;have Q:=K.mO;have S:=U.mO;rw[Q,S];omega
    ·rw[az]at R;have D:Hid (q=p+iN ku (rest s p) Y.toNat):=by
      have:=B1 ku (rest s p) Y.toNat (q-p) (by rw[oA];omega) (by omega) (by rw[yc s p q J A];exact R);exact laid (by omega)
     go_wp2_with fail
     go_quiet((first|(go_at_call 65;exact aA (nZ _ _ _ _ _ (K.drewN _)))|(go_at_call 120;exact aJ (B4 _ _))))
     have H:=K.drewN nq;have I:=js B (nk wr nq (some b));by_cases F:(q:Int)-(p:Int)<least
     ·go_wp2_with(go_at_call 69;refine(qj _ _ _ _ _ H).mono ?_;rintro e w' ⟨rfl,P,rfl⟩)
      exact⟨rfl,sN (least:=least) D.out (by omega) (by omega) K B _⟩
     ·go_wp2
      go_quiet(fail)
      go_wp2
      go_ret
      exact sO (least:=least) D.out (by omega) (by omega) H I _
   ·have O:((q:Int)==(s.size:Int))=true:=by simp;omega
    have D:Hid (q=p+iN ku (rest s p) Y.toNat):=laid (by omega);go_wp2_with fail
    go_quiet((first|(go_at_call 65;exact aA (nZ _ _ _ _ _ (K.drewN _)))|(go_at_call 120;exact aJ (B4 _ _))))
    have H:=K.drewN nq;have I:=js B (nk wr nq (some b));by_cases F:(q:Int)-(p:Int)<least
    ·go_wp2_with(go_at_call 69;refine(qj _ _ _ _ _ H).mono ?_;rintro e w' ⟨rfl,P,rfl⟩)
     exact⟨rfl,sN (least:=least) D.out (by omega) (by omega) K B _⟩
    ·go_wp2
     go_quiet(fail)
     go_wp2
     go_ret
     exact sO (least:=least) D.out (by omega) (by omega) H I _
  ·have L:decide ((q:Int)-(p:Int)<Y)=false:=by simp;omega
   have D:Hid (q=p+iN ku (rest s p) Y.toNat):=laid (by omega);go_wp2_with fail
   go_quiet((first|(go_at_call 65;exact aA (nZ _ _ _ _ _ (K.drewN _)))|(go_at_call 120;exact aJ (B4 _ _))))
   have H:=K.drewN nq;have I:=js B (nk wr nq (some b));by_cases F:(q:Int)-(p:Int)<least
   ·go_wp2_with(go_at_call 69;refine(qj _ _ _ _ _ H).mono ?_;rintro e w' ⟨rfl,P,rfl⟩)
    exact⟨rfl,sN (least:=least) D.out (by omega) (by omega) K B _⟩
   ·go_wp2
    go_quiet(fail)
    go_wp2
    go_ret
    exact sO (least:=least) D.out (by omega) (by omega) H I _
def pG(w:ae)(b:Nat)(s:ByteArray)(c:Int)(st:Nat×Bool)(v:af)(e:bZ)(w':ae):Prop:=
 (st.2=false->e=.returned v)/\(st.2=true->e=.panicked (qz c (st.1:Int)))/\RD w' b s (st.1:Int) c/\w.grownBy w' (some b)
theorem Gu(w:ae)(b:Nat)(s:ByteArray)(p:Nat)(c:Int)(h:RD w b s p c)(Y:s.size=p):
  ak ai 65 #[.pointer (some ⟨b,0,none⟩)] w fun e w'=>e=.returned (.bool true)/\∃m,w'=w.drewN m:=by
 have:=nZ w b s p c h;simp_all
theorem Cx(w:ae)(b:Nat)(s:ByteArray)(p:Nat)(c:Int)(h:RD w b s p c)(Y:p<s.size):
  ak ai 65 #[.pointer (some ⟨b,0,none⟩)] w fun e w'=>e=.returned (.bool false)/\∃m,w'=w.drewN m:=by
 have:=nZ w b s p c h
 rwa [show(p==(s.size:Int))=false by simp;omega]at this
theorem Yq(w:ae)(b:Nat)(s:ByteArray)(p:Nat)(c:Int)(x:UInt8)(h:RD w b s p c)(C:s.size<=1000)(U:p<=s.size):
  ak ai 94 #[.pointer (some ⟨b,0,none⟩),.int .u8 (x.toNat:Int)] w fun e w'=>pG w b s c (gW s x p) (.tuple #[]) e w':=by
 have c0:=h.c0;have c1:=h.c1;have f1:=h.fz 1;by_cases Y:p<s.size
 ·have R:(p:Int)<(s.size:Int):=by omega
  by_cases H:s[p]=x
  ·have hd:((s[p].toNat:Int) != (x.toNat:Int))=false:=by rw[H];simp
   have gj:gW s x p=(p+1,false):=by unfold gW;rw[dif_pos Y,if_pos H]
   rw[gj];clear gj H
   go_enter dt,dx
   go_wp2_with fail
   go_quiet((go_at_call 65;exact aA (Cx _ _ _ _ _ (h.drewN _) Y)))
   go_wp2
   go_end0
   have D:=(h.drewN nq).put ((p:Int)+1);exact⟨fun _=>rfl,fun K=>bT K,D,js (nk w nq (some b)) (qi _ b 1 _)⟩
  ·have hd:((s[p].toNat:Int) != (x.toNat:Int))=true:=by
    rw[bne_iff_ne];intro K;exact H (UInt8.toNat.inj (by omega))
   have gj:gW s x p=(p,true):=by unfold gW;rw[dif_pos Y,if_neg H]
   rw[gj];clear gj H
   go_enter dt,dx
   go_wp2_with fail
   go_quiet((go_at_call 65;exact aA (Cx _ _ _ _ _ (h.drewN _) Y)))
   go_wp2_with(go_at_call 69;refine(qj _ _ _ _ _ (h.drewN _)).mono ?_;rintro e w' ⟨rfl,I,rfl⟩)
   exact⟨rfl,fun K=>bT K,fun _=>rfl,h.drewN _,nk w _ (some b)⟩
 ·have gj:gW s x p=(p,true):=by unfold gW;rw[dif_neg Y]
  rw[gj];clear gj
  go_enter dt,dx
  go_wp2_with fail
  go_quiet((go_at_call 65;exact aA (Gu _ _ _ _ _ (h.drewN _) (by omega))))
  go_wp2_with(go_at_call 69;refine(qj _ _ _ _ _ (h.drewN _)).mono ?_;rintro e w' ⟨rfl,I,rfl⟩)
  exact⟨rfl,fun K=>bT K,fun _=>rfl,h.drewN _,nk w _ (some b)⟩
theorem x9(w:ae)(b:Nat)(s:ByteArray)(p:Nat)(c:Int)(n:Int)(x:UInt8)(Y:n=x.toNat)(h:RD w b s p c)(H:s.size<=1000)(K:p<=s.size):
  ak ai 94 #[.pointer (some ⟨b,0,none⟩),.int .u8 n] w fun e w'=>pG w b s c (gW s x p) (.tuple #[]) e w':=by
 subst Y;exact Yq w b s p c x h H K
theorem FQ{s:ByteArray}{p:Nat}{c:Int}{f:UInt8->Bool}{least Ji:Nat}{e:bZ}
  (h:ye w b s p c (iN f (rest s p) Ji) least e w'):pG w b s c (lC s f least Ji p) (.string (s.extract p (p+iN f (rest s p) Ji))) e w':=by
 obtain⟨Y,D,R,K⟩:=h;unfold lC;refine⟨fun H=>Y ?_,fun H=>?_,?_,K⟩
 ·simp_all
 ·simp_all
 ·simp_all
theorem Wi(w:ae)(b:Nat)(s:ByteArray)(p:Nat)(c:Int)(l m:Int)(least Y:Nat)(K:l=least)(D:m=Y)(H:least<=1000)(R:Y<=1000)
  (h:RD w b s p c)(C:s.size<=1000)(U:p<=s.size):
  ak ai 70 #[.pointer (some ⟨b,0,none⟩),.func (.func 71) #[] #[],.int .i64 l,.int .i64 m] w fun e w'=>
   pG w b s c (lC s kO least Y p) (.string (s.extract p (p+iN kO (rest s p) Y))) e w':=by
 subst K D;refine(WN w b s p c _ _ h C U (by omega) (by omega) (by omega) (by omega)).mono ?_;intro e w' I;exact FQ I
theorem Wj(w:ae)(b:Nat)(s:ByteArray)(p:Nat)(c:Int)(l m:Int)(least Y:Nat)(K:l=least)(D:m=Y)(H:least<=1000)(R:Y<=1000)
  (h:RD w b s p c)(C:s.size<=1000)(U:p<=s.size):
  ak ai 70 #[.pointer (some ⟨b,0,none⟩),.func (.func 95) #[] #[],.int .i64 l,.int .i64 m] w fun e w'=>
   pG w b s c (lC s kQ least Y p) (.string (s.extract p (p+iN kQ (rest s p) Y))) e w':=by
 subst K D;refine(WO w b s p c _ _ h C U (by omega) (by omega) (by omega) (by omega)).mono ?_;intro e w' I;exact FQ I
theorem Wk(w:ae)(b:Nat)(s:ByteArray)(p:Nat)(c:Int)(l m:Int)(least Y:Nat)(K:l=least)(D:m=Y)(H:least<=1000)(R:Y<=1000)
  (h:RD w b s p c)(C:s.size<=1000)(U:p<=s.size):
  ak ai 70 #[.pointer (some ⟨b,0,none⟩),.func (.func 120) #[] #[],.int .i64 l,.int .i64 m] w fun e w'=>
   pG w b s c (lC s ku least Y p) (.string (s.extract p (p+iN ku (rest s p) Y))) e w':=by
 subst K D;refine(WR w b s p c _ _ h C U (by omega) (by omega) (by omega) (by omega)).mono ?_;intro e w' I;exact FQ I
theorem qV{w1:ae}{s:ByteArray}{c:Int}{st:Nat×Bool}{v:af}(gj:st.2=true)(hr:RD w1 b s (st.1) c)(Y:w.grownBy w1 (some b)):
  pG w b s c st v (.panicked (qz c (st.1))) w1:=
 ⟨fun h=>by simp_all,fun _=>rfl,hr,Y⟩
theorem FT{w1:ae}{s:ByteArray}{c:Int}{st:Nat×Bool}{v:af}(gj:st.2=false)(hr:RD w1 b s (st.1) c)(Y:w.grownBy w1 (some b)):
  pG w b s c st v (.returned v) w1:=
 ⟨fun _=>rfl,fun h=>by simp_all,hr,Y⟩
def kA(s:ByteArray)(x:UInt8)(p:Nat):=iB (gW s x p) (qA s)
theorem sU{st R:Nat×Bool}{f:Nat->Nat×Bool}(h:iB st f=R)(gj:st.2=true):st=R:=by rw[<-h,vJ gj]
theorem tf{st R:Nat×Bool}{f:Nat->Nat×Bool}(h:iB st f=R)(gj:st.2=false):f st.1=R:=by rw[<-h,kz gj]
theorem oW{w1:ae}{s:ByteArray}{c:Int}{st R:Nat×Bool}{v:af}{e:bZ}(Y:st=R)(h:pG w b s c st v e w1):pG w b s c R v e w1:=by simp_all
def tK(s:ByteArray)(p:Nat):=s.extract p (p+iN kQ (rest s p) 10)
theorem Mx(w:ae)(b:Nat)(s:ByteArray)(p:Nat)(c:Int)(n:Int)(x:UInt8)(Z:n=(x.toNat:Int))(h:RD w b s p c)(S:s.size<=1000)(E:p<=s.size):
  ak ai 62 #[.pointer (some ⟨b,0,none⟩),.int .u8 n] w fun e w'=>pG w b s c (kA s x p) (.string (tK s (gW s x p).1)) e w':=by
 have q:=laid Z;clear Z;generalize V:kA s x p=R;have N:=laid V;clear V;generalize hX:tK s (gW s x p).1=X;have T:=laid (show s.extract (gW s x p).1 _=X from hX);clear hX
 go_enter Tryz.func62,Tryz.ntmps62
 go_wp2_with fail
 refine(x9 _ _ s p c n x q.out h S E).mono ?_;rintro e w1 ⟨H,D,F,B⟩;have C:=qs s x p E;by_cases gj:(gW s x p).2=true
 ·obtain rfl:=D gj;exact⟨rfl,oW (sU N.out gj) (qV gj F B)⟩
 ·rw[az]at gj;obtain rfl:=H gj;clear H D;have I:=laid (tf N.out gj);generalize(gW s x p).1=M at *;clear gj N;go_wp2_with fail
  refine(Wj _ _ s M c _ _ 1 10 rfl rfl (by omega) (by omega) F S C.2).mono ?_;rintro e w2 ⟨H,D,J,O⟩;have Y:=js B O;have Q:=vK s kQ 1 10 M C.2;by_cases gj:(lC s kQ 1 10 M).2=true
  ·obtain rfl:=D gj;exact⟨rfl,oW (sU I.out gj) (qV gj J Y)⟩
  ·rw[az]at gj;have U:=H gj;rw[T.out]at U;obtain rfl:=U;clear H D;have A:=laid (tf I.out gj);clear T;generalize(lC s kQ 1 10 M).1=G at *;go_wp2_with fail
   refine(x9 _ _ s G c _ 10 rfl J S Q.2).mono ?_;rintro e w3 ⟨H,D,L,P⟩;have K:=js Y P;by_cases gj:(gW s 10 G).2=true
   ·obtain rfl:=D gj;exact⟨rfl,oW A.out (qV gj L K)⟩
   ·rw[az]at gj;obtain rfl:=H gj;have W:=laid (oW (v:=.string X) A.out (FT gj L K));clear gj;go_wp2
    go_ret
    exact W.out
theorem Xi(s:ByteArray)(f:UInt8->Bool)(m p:Nat)(Y:p<=s.size):(s.extract p (p+iN f (rest s p) m)).size=iN f (rest s p) m:=by
 have:=(rO f (rest s p) m).2;rw[oA]at this;rw[d_];omega
def od(s:ByteArray)(m p:Nat):=s.extract p (p+jK s m p)
theorem Gf(s:ByteArray)(m p:Nat)(Y:p<=s.size):(od s m p).size=jK s m p:=Xi s kO m p Y
theorem FX(w:ae)(b:Nat)(s:ByteArray)(p:Nat)(c:Int)(n:Int)(m:Nat)(M:n=m)(V:m<=1000)(h:RD w b s p c)(O:s.size<=1000)(N:p<=s.size):
  ak ai 64 #[.pointer (some ⟨b,0,none⟩),.int .i64 n] w fun e w'=>pG w b s c (iX s m p) (.string (od s m p)) e w':=by
 have S:=laid M;clear M;generalize L:iX s m p=R;have J:=laid L;clear L;generalize hX:od s m p=X;have T:=laid (show s.extract p (p+iN kO (rest s p) m)=X from hX);clear hX
 go_enter Tryz.func64,Tryz.ntmps64
 go_wp2_with fail
 refine(Wi _ _ s p c _ n 1 m rfl S.out (by omega) V h O N).mono ?_;rintro e w1 ⟨U,B,I,D⟩;have F:=vK s kO 1 m p N;by_cases gj:(lC s kO 1 m p).2=true
 ·obtain rfl:=B gj;exact⟨rfl,oW (sU J.out gj) (qV gj I D)⟩
 ·rw[az]at gj;have H:=U gj;rw[T.out]at H;obtain rfl:=H;have K:=laid (tf J.out gj);generalize(lC s kO 1 m p).1=P at *;go_wp2_with fail
  refine(x9 _ _ s P c _ 10 rfl I O F.2).mono ?_;rintro e w3 ⟨U,B,A,C⟩;have Y:=js D C;by_cases gj:(gW s 10 P).2=true
  ·obtain rfl:=B gj;exact⟨rfl,oW K.out (qV gj A Y)⟩
  ·rw[az]at gj;obtain rfl:=U gj;have Q:=laid (oW (v:=.string X) K.out (FT gj A Y));go_wp2
   go_ret
   exact Q.out
theorem My(w:ae)(b:Nat)(s:ByteArray)(p c:Int)(h:RD w b s p c)(D:p=s.size):
  ak ai 72 #[.pointer (some ⟨b,0,none⟩)] w fun e w'=>e=.returned (.tuple #[])/\∃m,w'=w.drewN m:=by
 have K:=nZ w b s p c h;have Y:=laid K
 go_enter Tryz.func72,akv
 go_wp2_with(refine(Y.out).mono ?_;rintro e w' ⟨rfl,H,rfl⟩)
 go_end0
 exact⟨rfl,H,rfl⟩
theorem Wm(w:ae)(b:Nat)(s:ByteArray)(p c:Int)(h:RD w b s p c)(H:p≠(s.size:Int)):
  ak ai 72 #[.pointer (some ⟨b,0,none⟩)] w fun e w'=>e=.panicked (qz c p)/\∃m,w'=w.drewN m:=by
 have R:(p==s.size)=false:=by simp[H]
 have K:=nZ w b s p c h;have Y:=laid K
 go_enter Tryz.func72,akv
 go_wp2_with(first|(refine(Y.out).mono ?_;rintro e w' ⟨rfl,D,rfl⟩)|(refine(qj _ _ _ _ _ (h.drewN _)).mono ?_;rintro e w' ⟨rfl,D,rfl⟩))
 exact⟨rfl,rfl,_,rfl⟩
theorem O5(w:ae)(s:ByteArray)(p c:Int):RD (w.alloc (.cells #[.string s,.int .i64 p,.int .i64 c] 98)) w.heap.size s p c:=cB w _
theorem RZ{W w1:ae}(Y:ay W.heap.size W w1):(∀b o,b<W.heap.size->w1.cell? ⟨b,o,none⟩=W.cell? ⟨b,o,none⟩)/\(∀b o,b<W.heap.size->w1.frozen? ⟨b,o,none⟩=W.frozen? ⟨b,o,none⟩):=
 ⟨fun b o h=>Y.cell h,fun b o h=>Y.frozen h⟩
theorem xS(h:ay w.heap.size w w')(r:Option Nat):w.grownBy w' r:=
 ⟨h.os,h.tape,h.output,h.size,fun k hk _=>h.block k hk⟩
theorem WT(c p:Int)(w:ae):(cW (.iface 70 (.agg #[.int .i64 c,.int .i64 p])) 20 70 true).run ai w=.ok (.tuple #[.agg #[.int .i64 c,.int .i64 p],.bool true]) w:=by kernel_rfl
theorem Yr(m:Nat)(a0 a1 c p:Int)(Y:List PanicEntry)(w:ae)(R:w.cell? ⟨m,0,none⟩=some (.int .i64 a0))(J:w.cell? ⟨m,1,none⟩=some (.int .i64 a1))(U:w.frozen? ⟨m,0,none⟩=false)(C:w.frozen? ⟨m,1,none⟩=false):
  CallsD ai 61 #[.pointer (some ⟨m,0,none⟩)] (.panicking ({v:=.iface 70 (.agg #[.int .i64 c,.int .i64 p]),recovered:=false}::Y)) w fun e F w'=>
   e=.returned (.tuple #[])/\F=.panicking ({v:=.iface 70 (.agg #[.int .i64 c,.int .i64 p]),recovered:=true}::Y)/\w'=((w.setCell ⟨m,0,none⟩ (.int .i64 c)).setCell ⟨m,1,none⟩ (.int .i64 p)).alloc (.cells #[.int .i64 c,.int .i64 p] 70):=by
 refine akI Tryz.func61 rfl fun H cs K=>?_;apply wpS_seq;apply wpS_region;simp[wpOpsS,go_sem,recoverD,K,aku,Exit.thenS];refine wpS_of_wp ?_;generalize I:Value.iface 70 (.agg #[.int .i64 c,.int .i64 p])=V;have D:(#[bA (some ⟨m,0,none⟩)]++((bP 15 ar).setIfInBounds 3 V).setIfInBounds 0 V)=#[.pointer (some ⟨m,0,none⟩),V,ar,ar,V,ar,ar,ar,ar,ar,ar,ar,ar,ar,ar,ar]:=rfl;rw[D];clear D;subst I;have B:=laid K;clear K;have A:=WT c p;have L:m<w.heap.size:=by have:=cy R;simpa using this
 go_wp2
 simp[bodyPostS,dE,akw]
theorem Ys(m:Nat)(w:ae):
  CallsD ai 61 #[.pointer (some ⟨m,0,none⟩)] .returning w fun e R w'=>
   e=.returned (.tuple #[])/\R=.returning/\w'=w:=by
 refine akI Tryz.func61 rfl fun Y cs K=>?_;apply wpS_seq;apply wpS_region;simp[wpOpsS,go_sem,recoverD,K,aku,Exit.thenS];refine wpS_of_wp ?_;have H:(#[bA _]++((bP 15 ar).setIfInBounds 3 akz).setIfInBounds 0 akz)=#[.pointer (some ⟨m,0,none⟩),.nilIface,ar,ar,.nilIface,ar,ar,ar,ar,ar,ar,ar,ar,ar,ar,ar]:=rfl;rw[H];clear H;have D:=laid K;clear K;go_wp2
 have K:=D.out;cases Y;simp_all[bodyPostS,dE,akw]
theorem vT{w1:ae}(a b:af)(n0:w1.cell? ⟨n,0,none⟩=some u0)(n1:w1.cell? ⟨n,1,none⟩=some u1):
  ((w1.setCell ⟨n,0,none⟩ a).setCell ⟨n,1,none⟩ b).cell? ⟨n,0,none⟩=some a/\((w1.setCell ⟨n,0,none⟩ a).setCell ⟨n,1,none⟩ b).cell? ⟨n,1,none⟩=some b/\
   w1.grownBy ((w1.setCell ⟨n,0,none⟩ a).setCell ⟨n,1,none⟩ b) (some n):=by
 have Y:=dB w1 _ a n0;have K:(w1.setCell ⟨n,0,none⟩ a).cell? ⟨n,1,none⟩=some u1:=by
  rw[aU (h:=by simp)];exact n1
 refine⟨?_,dB _ _ b K,js (qi w1 n 0 a) (qi _ n 1 b)⟩;rw[aU (h:=by simp)];exact Y
theorem ZJ{w1 w2:ae}{y:Nat}(Y:(w.alloc o).grownBy w1 (some y))(K:w1.grownBy w2 (some w.heap.size)):w.grownBy w2 (some y):=by
 refine⟨K.os.trans Y.os,K.tape.trans Y.tape,K.output.trans Y.output,?_,fun k hk H=>?_⟩
 ·have:=Y.size;have:=K.size;simp at *;omega
 ·have D:=Y.size;simp at D;rw[K.block k (by omega) (by simp;omega),Y.block k (by simp;omega) H,dV w o k hk]
theorem aom{r:Option Nat}(H:w.grownBy w' r)(K:b<w.heap.size)(Y:some b≠r):w'.cell? ⟨b,j,none⟩=w.cell? ⟨b,j,none⟩:=
 World.cell?_of_block (H.block b K Y)
theorem Gg(st:Nat×Bool)(f g:Nat->Nat×Bool):iB (iB st f) g=iB st fun q=>iB (f q) g:=by
 unfold iB;by_cases h:st.2=true
 ·simp_all
 ·simp_all
theorem vL(s:ByteArray)(x:UInt8)(p:Nat)(h:p<=s.size):p<=(kA s x p).1/\(kA s x p).1<=s.size:=pL (qs s x p h) fun q Y=>O4 s q Y
theorem G1(s:ByteArray)(p:Nat):lL s p=iB (kA s 64 p) fun p=>iB (iX s 30 p) fun p'=>iB (gW s 43 p') fun p'=>iB (gW s 10 p') fun p'=>iB (lC s ku (jK s 30 p) (jK s 30 p) p') (gW s 10):=by
 unfold lL kA;rw[Gg]
theorem abt(s:ByteArray)(p:Nat)(h:p<=s.size):p<=(lL s p).1/\(lL s p).1<=s.size:=by
 rw[G1];refine pL (vL s 64 p h) fun q R=>pL (uj s 30 q R) fun I Y=>pL (qs s 43 I Y) fun A K=>pL (qs s 10 A K) fun U H=>pL (vK s _ _ _ U H) fun B D=>qs s 10 B D
def xC(s:ByteArray)(p:Nat):=tK s (gW s 64 p).1
def xD(s:ByteArray)(p:Nat):=str ((od s 30 (kA s 64 p).1).data.toList.map gb)
def Eo(s:ByteArray)(p:Nat):=(gW s 10 (gW s 43 (iX s 30 (kA s 64 p).1).1).1).1
def xE(s:ByteArray)(p:Nat):=s.extract (Eo s p) (Eo s p+iN ku (rest s (Eo s p)) (jK s 30 (kA s 64 p).1))
def oM(s:ByteArray)(p:Nat):Value:=.agg #[.string (xC s p),.string (xD s p),.string (xE s p)]
theorem RD.lt{s:ByteArray}{p c:Int}(h:RD w b s p c):b<w.heap.size:=by
 rcases bJ b _ with h'|h'
 ·omega
 ·unfold RD at h;simp_all
theorem RD.alloc{s:ByteArray}{p c:Int}(h:RD w b s p c)(o:Obj):RD (w.alloc o) b s p c:=by
 have:=h.lt;unfold RD at *;rw[akJ w o this];exact h
theorem RD.below{B:Nat}{s:ByteArray}{p c:Int}(h:RD w b s p c)(K:ay B w w')(Y:b<B):RD w' b s p c:=by
 unfold RD at *;rw[K.block b Y];exact h
theorem RD.kept{r:Nat}{s:ByteArray}{p c:Int}(h:RD w b s p c)(Y:w.grownBy w' (some r))(K:b≠r):RD w' b s p c:=by
 have:=h.lt;unfold RD at *;rw[Y.block b this (by simp_all)];exact h
theorem abu{w1:ae}{u2:af}(a b c:af)(n0:w1.cell? ⟨n,0,none⟩=some u0)(n1:w1.cell? ⟨n,1,none⟩=some u1)(n2:w1.cell? ⟨n,2,none⟩=some u2):
  (((w1.setCell ⟨n,0,none⟩ a).setCell ⟨n,1,none⟩ b).setCell ⟨n,2,none⟩ c).cell? ⟨n,0,none⟩=some a/\(((w1.setCell ⟨n,0,none⟩ a).setCell ⟨n,1,none⟩ b).setCell ⟨n,2,none⟩ c).cell? ⟨n,1,none⟩=some b/\
   (((w1.setCell ⟨n,0,none⟩ a).setCell ⟨n,1,none⟩ b).setCell ⟨n,2,none⟩ c).cell? ⟨n,2,none⟩=some c/\
   w1.grownBy (((w1.setCell ⟨n,0,none⟩ a).setCell ⟨n,1,none⟩ b).setCell ⟨n,2,none⟩ c) (some n):=by
 obtain⟨m0,H,K⟩:=vT a b n0 n1;have Y:((w1.setCell ⟨n,0,none⟩ a).setCell ⟨n,1,none⟩ b).cell? ⟨n,2,none⟩=some u2:=by
  rw[aU (h:=by simp),aU (h:=by simp)];exact n2
 refine⟨?_,?_,dB _ _ c Y,js K (qi _ n 2 c)⟩
 ·rw[aU (h:=by simp)];exact m0
 ·rw[aU (h:=by simp)];exact H
theorem x_{r:Option Nat}(h:(w.alloc o).grownBy w' r):w.grownBy w' r:=by
 refine⟨h.os,h.tape,h.output,?_,fun k hk Y=>?_⟩
 ·have:=h.size;simp at this;omega
 ·rw[h.block k (by simp;omega) Y,dV w o k hk]
theorem Xj(w:ae)(b:Nat)(s:ByteArray)(p:Nat)(c:Int)(h:RD w b s p c)(V:s.size<=1000)(hp:p<=s.size):
  ak ai 109 #[.pointer (some ⟨b,0,none⟩)] w fun e w'=>pG w b s c (lL s p) (oM s p) e w':=by
 generalize hR:lL s p=R;rw[G1]at hR;have HR:=laid hR;clear hR;have aot:=h.lt;unfold oM;generalize q:xC s p=PN;generalize j:xD s p=k;generalize z:xE s p=i;have X:=laid (show tK s (gW s 64 p).1=PN from q);have Z:=laid (show str ((od s 30 (kA s 64 p).1).data.toList.map gb)=k from j);have E:=laid (show s.extract (gW s 10 (gW s 43 (iX s 30 (kA s 64 p).1).1).1).1 ((gW s 10 (gW s 43 (iX s 30 (kA s 64 p).1).1).1).1+iN ku (rest s (gW s 10 (gW s 43 (iX s 30 (kA s 64 p).1).1).1).1) (jK s 30 (kA s 64 p).1))=i from z);clear q j z
 go_enter Tryz.func109,Tryz.ntmps109
 go_wp2_with fail
 refine(Mx _ _ s p c _ 64 rfl (h.alloc _) V hp).mono ?_;rw[X.out];clear X;rintro e w1 ⟨Y,K,u,d⟩;have Q:=vL s 64 p hp;by_cases gj:(kA s 64 p).2=true
 ·obtain rfl:=K gj;exact⟨rfl,oW (sU HR.out gj) (qV gj u (x_ d))⟩
 ·rw[az]at gj;obtain rfl:=Y gj;clear Y K;have L:=laid (tf HR.out gj);generalize(kA s 64 p).1=J at *;clear gj HR;go_wp2_with fail
  refine(FX _ _ s J c _ 30 rfl (by omega) u V Q.2).mono ?_;rintro e w2 ⟨Y,K,x,A⟩;replace A:=js d A;have g:=uj s 30 J Q.2;by_cases gj:(iX s 30 J).2=true
  ·obtain rfl:=K gj;exact⟨rfl,oW (sU L.out gj) (qV gj x (x_ A))⟩
  ·rw[az]at gj;obtain rfl:=Y gj;clear Y K;have M:=laid (tf L.out gj);have hnl:=z7 s 30 J;have HXS:=laid (Gf s 30 J Q.2);generalize od s 30 J=X30 at *;generalize jK s 30 J=F at *;generalize(iX s 30 J).1=p2 at *;clear gj L;have Ep:=HXS.out;go_wp2_with fail
   refine(x9 _ _ s p2 c _ 43 rfl x V g.2).mono ?_;rintro e w3 ⟨Y,K,y,U⟩;replace U:=js A U;have l:=qs s 43 p2 g.2;by_cases gj:(gW s 43 p2).2=true
   ·obtain rfl:=K gj;exact⟨rfl,oW (sU M.out gj) (qV gj y (x_ U))⟩
   ·rw[az]at gj;obtain rfl:=Y gj;clear Y K;have N:=laid (tf M.out gj);generalize(gW s 43 p2).1=p3 at *;clear gj M;go_wp2_with fail
    refine(x9 _ _ s p3 c _ 10 rfl y V l.2).mono ?_;rintro e w4 ⟨Y,K,m,B⟩;replace B:=js U B;have o:=qs s 10 p3 l.2;by_cases gj:(gW s 10 p3).2=true
    ·obtain rfl:=K gj;exact⟨rfl,oW (sU N.out gj) (qV gj m (x_ B))⟩
    ·rw[az]at gj;obtain rfl:=Y gj;clear Y K;have O:=laid (tf N.out gj);generalize(gW s 10 p3).1=p4 at *;clear gj N;go_wp2_with fail
     refine(Wk _ _ s p4 c _ _ F F rfl rfl (by omega) (by omega) m V o.2).mono ?_;rintro e w5 ⟨Y,K,n,C⟩;replace C:=js B C;have Er:=vK s ku F F p4 o.2;by_cases gj:(lC s ku F F p4).2=true
     ·obtain rfl:=K gj;exact⟨rfl,oW (sU O.out gj) (qV gj n (x_ C))⟩
     ·rw[az]at gj;have W:=Y gj;rw[E.out]at W;obtain rfl:=W;clear Y K E;have G:=laid (tf O.out gj);generalize(lC s ku F F p4).1=p5 at *;clear gj O;go_wp2_with fail
      refine(x9 _ _ s p5 c _ 10 rfl n V Er.2).mono ?_;rintro e w6 ⟨Y,K,S,D⟩;replace D:=js C D;by_cases gj:(gW s 10 p5).2=true
      ·obtain rfl:=K gj;exact⟨rfl,oW G.out (qV gj S (x_ D))⟩
      ·rw[az]at gj;obtain rfl:=Y gj;clear Y K;have Es:=S.lt;have r:b≠w.heap.size:=by omega
       have hN:=D.block w.heap.size (by simp) (by simpa using fun h=>r h.symm);rw[cB]at hN;go_wp2_with fail
       refine(L7 X30 _ (by omega)).mono ?_;rintro e T ⟨rfl,I⟩;rw[Z.out];clear Z;have JI:w.heap.size<w6.heap.size:=by have:=D.size;simp at this;omega
       have H:=I.block w.heap.size JI;rw[hN]at H;have n0:T.cell? ⟨w.heap.size,0,none⟩=some (.string ⟨#[]⟩):=by rw[bk _ _ _ _ _ _ H];rfl
       have n1:T.cell? ⟨w.heap.size,1,none⟩=some (.string ⟨#[]⟩):=by rw[bk _ _ _ _ _ _ H];rfl
       have n2:T.cell? ⟨w.heap.size,2,none⟩=some (.string ⟨#[]⟩):=by rw[bk _ _ _ _ _ _ H];rfl
       have z0:T.frozen? ⟨w.heap.size,0,none⟩=false:=cA _ _ _ _ _ H;have z1:T.frozen? ⟨w.heap.size,1,none⟩=false:=cA _ _ _ _ _ H;have z2:T.frozen? ⟨w.heap.size,2,none⟩=false:=cA _ _ _ _ _ H;have f:=js D (xS I (some b));have t:=S.below I Es;obtain⟨m0,m1,m2,P⟩:=abu (.string PN) (.string k) (.string i) n0 n1 n2;have a:=t.kept P r;have HF:=laid (oW (v:=.agg #[.string PN,.string k,.string i]) G.out (FT gj a (ZJ f P)));clear gj hN H P a f I t;go_wp2
       refine bodyPost_ret (v:=.agg #[.string PN,.string k,.string i]) ?_ rfl HF.out;simp[dE,Tryz.results109,go_sem,m0,m1,m2]
def xe(s:ByteArray)(Y:Nat)(st:Nat×Bool):ByteArray:=if st.2=true then⟨#[]⟩else cut s st.1 (st.1+iN ku (rest s st.1) Y)
def vd(s:ByteArray)(p:Nat):Nat×Bool:=gW s 64 p
def nc(s:ByteArray)(p:Nat):Nat×Bool:=iB (vd s p) (qA s)
def ve(s:ByteArray)(p:Nat):Nat×Bool:=iB (nc s p) (iX s 30)
def vf(s:ByteArray)(p:Nat):Nat×Bool:=iB (ve s p) (gW s 43)
def sx(s:ByteArray)(p:Nat):Nat×Bool:=iB (vf s p) (gW s 10)
def nE(s:ByteArray)(p:Nat):ByteArray:=yU s 30 (nc s p)
def JJ(s:ByteArray)(p:Nat):Nat×Bool:=iB (sx s p) (lC s ku (nE s p).size (nE s p).size)
def Tw(s:ByteArray)(p:Nat):Nat×Bool:=iB (JJ s p) (gW s 10)
def uG(s:ByteArray)(p:Nat):ByteArray×ByteArray×ByteArray:=(r_ s (vd s p),nE s p,xe s (nE s p).size (sx s p))
theorem afG(s:ByteArray)(p:Nat)(D:p<=s.size):Tw s p=lL s p:=by
 rw[G1];unfold Tw JJ sx vf ve;by_cases h:(nc s p).2=true
 ·have e:kA s 64 p=nc s p:=rfl;rw[e,vJ h,vJ h];simp only[vJ h]
 ·rw[az]at h;have e:kA s 64 p=nc s p:=rfl;have K:nE s p=sa s 30 (nc s p).1:=by unfold nE yU;rw[if_neg (by simp[h])]
  have Y:=(vL s 64 p D).2;have H:(nE s p).size=jK s 30 (nc s p).1:=by rw[K];exact Gt s 30 _ Y
  rw[e,kz h,kz h,H];simp only[Gg]
def iR(s:ByteArray):Nat->Nat->List (ByteArray×ByteArray×ByteArray)
 |0,_=>[]
 |n+1,p=>if s.size<=p then []else uG s p::(if(lL s p).2=true then []else iR s n (lL s p).1)
def lD(L:List (ByteArray×ByteArray×ByteArray)):List Value:=L.flatMap fun r=>[.string r.1,.string r.2.1,.string r.2.2]
theorem Yt(L:List (ByteArray×ByteArray×ByteArray))(r:ByteArray×ByteArray×ByteArray):lD (L++[r])=lD L++[.string r.1,.string r.2.1,.string r.2.2]:=by
 unfold lD;simp
theorem F3(s:ByteArray)(p q:Nat):cut s p q=s.extract p q:=by
 apply ByteArray.ext;apply bO;simp only[dZ,dQ];rfl
theorem afH(s:ByteArray)(h:(gW s 62 0).2=false):vS s=tK s (gW s 62 0).1:=by
 unfold vS r_ tK;rw[if_neg (by simp[h]),F3]
theorem afI(s:ByteArray)(p:Nat)(C:p<=s.size)(h:(lL s p).2=false):(xC s p,xD s p,xE s p)=uG s p:=by
 rw[<-afG s p C]at h;obtain⟨P,_⟩:=rM (show(iB (JJ s p) (gW s 10)).2=false from h);obtain⟨A,_⟩:=rM (show(iB (sx s p) (lC s ku (nE s p).size (nE s p).size)).2=false from P);obtain⟨I,_⟩:=rM (show(iB (vf s p) (gW s 10)).2=false from A);obtain⟨R,_⟩:=rM (show(iB (ve s p) (gW s 43)).2=false from I);obtain⟨Y,_⟩:=rM (show(iB (nc s p) (iX s 30)).2=false from R);obtain⟨O,_⟩:=rM (show(iB (vd s p) (qA s)).2=false from Y);have H:(nc s p).1<=s.size:=(vL s 64 p C).2;have D:(kA s 64 p).1=(nc s p).1:=rfl;have L:(iX s 30 (nc s p).1).1=(ve s p).1:=by unfold ve;rw[kz Y]
 have M:(gW s 43 (ve s p).1).1=(vf s p).1:=by unfold vf;rw[kz R]
 have N:(gW s 10 (vf s p).1).1=(sx s p).1:=by unfold sx;rw[kz I]
 have U:nE s p=sa s 30 (nc s p).1:=by unfold nE yU;rw[if_neg (by simp[Y])]
 have K:(nE s p).size=jK s 30 (nc s p).1:=by rw[U];exact Gt s 30 _ H
 have B:xC s p=r_ s (vd s p):=by
  unfold xC tK r_;rw[if_neg (by simp[O]),F3];rfl
 have F:xD s p=nE s p:=by
  rw[U];unfold xD sa yT;rw[D,show(nc s p).1+jK s 30 (nc s p).1-(nc s p).1=jK s 30 (nc s p).1 by omega];congr 2;unfold od;simp only[dZ,dQ,rest];simp[List.extract_eq_take_drop]
 have J:xE s p=xe s (nE s p).size (sx s p):=by
  unfold xE xe Eo;rw[if_neg (by simp[A]),F3,D,L,M,N,K]
 unfold uG;rw[B,F,J]
structure qB(w:ae)(B:Nat)(p t:ByteArray)(v:af)(i:Nat)(g:Nat->Nat):Prop where
 own:w.ownsRow B 25 1 v i ((c9 i).map (sv t g))
 rows:∀x,x<i->uE w (g x) p t x
 base:∀x,x<i->B<=g x
theorem adv:(ai.info? 25).map (fun i=>(i.zero,i.size,i.bytes))=some (some (.slice none 0 0),1,24):=by kernel_rfl
theorem yf(g i:Nat):(⟨g,0,none⟩:Addr).add i=⟨g,i,none⟩:=by
 by_cases Y:i=0
 ·simp[Addr.add]
 ·simp[Addr.add,Y]
theorem qB.get{B:Nat}{t:ByteArray}{v:af}{g:Nat->Nat}(h:qB w B p t v n g)(U:0<n):
  ∃G cap,v=.slice (some ⟨G,0,none⟩) n cap/\G<w.heap.size/\∀i,i<n->w.cell? ⟨G,i,none⟩=some (.slice (some ⟨g i,0,none⟩) (t.size+1) (t.size+1)):=by
 rcases h.own.2 with⟨_,H⟩|⟨G,cap,K,Y,D,I,R⟩
 ·omega
 ·refine⟨G,cap,Y,?_,fun i A=>?_⟩
  ·rcases bJ G _ with h'|h'
   ·omega
   ·simp_all
  ·have h:=h.own.cells (by rw[Y];rfl) i (sv t g i) (by simp_all)
   rwa [yf]at h
def iY(p t:ByteArray):=dT p t p.size t.size
def nz(p t:ByteArray)(k e:Nat)
 |0=>(k+1,0)
 |c+1=>if iY p (t.extract (e-c) e)<(nz p t k e c).1 then(iY p (t.extract (e-c) e),e-c)else nz p t k e c
def tries(p:ByteArray)(k e:Nat):=min e (p.size+k)+1
def ib(p t:ByteArray)(k e:Nat):=nz p t k e (tries p k e)
def lA(p t:ByteArray)(k:Nat)
 |0=>[]
 |e+1=>if(ib p t k e).1<=k then lA p t k e++[((ib p t k e).2,e,(ib p t k e).1)]else lA p t k e
def iE(p t:ByteArray)(k:Nat):=lA p t k (t.size+1)
theorem ZK(p t:ByteArray)(k e:Nat):∀c,(nz p t k e c).1<=k+1
 |0=>ao _
 |c+1=>by
  have:=ZK p t k e c;simp[nz];split
  ·omega
  ·omega
theorem FY(p t:ByteArray)(k e:Nat):∀c,(nz p t k e c).2<=e
 |0=>bg _
 |c+1=>by
  have:=FY p t k e c;simp[nz];split
  ·simp
  ·omega
theorem Ca(p t:ByteArray)(k:Nat):∀n,(lA p t k n).length<=n
 |0=>ao _
 |n+1=>by
  have:=Ca p t k n;simp[lA];split
  ·simp_all
  ·omega
def HT(w:ae)(b:Nat)(s e d:Nat):Prop:=w.heap[b]?=some (.cells #[.int .i64 (s:Int),.int .i64 (e:Int),.int .i64 (d:Int)] 148 (0,0))
def oo(p t:ByteArray)(i j:Nat):Bool:=decide (0<i)&&decide (0<j)&&decide (dT p t i j=dT p t (i-1) (j-1)+cost p t (i-1) (j-1))
def nF(p t:ByteArray)(i j:Nat):Bool:=decide (0<i)&&decide (dT p t i j=dT p t (i-1) j+1)
def iC(p t:ByteArray):Nat->Nat->Nat->List UInt8
 |0,_,_=>[]
 |f+1,i,j=>if i=0/\j=0 then []else if oo p t i j=true then iC p t f (i-1) (j-1)++[77]else if nF p t i j=true then iC p t f (i-1) j++[73]else iC p t f i (j-1)++[68]
def gO(p t:ByteArray):List UInt8:=iC p t (p.size+t.size) p.size t.size
theorem Qd(p t:ByteArray)(i:Nat)(h:0<i):nF p t i 0=true:=by
 obtain⟨a,rfl⟩:∃a,i=a+1:=⟨i-1,by omega⟩;unfold nF;cases a with
 |zero=>simp[dT]
 |succ a=>simp[dT]
theorem Ag{t:ByteArray}(h:oo p t i j=true):0<i/\0<j/\dT p t i j=dT p t (i-1) (j-1)+cost p t (i-1) (j-1):=by
 unfold oo at h;simp only[dW,decide_eq_true_eq]at h;exact⟨h.1.1,h.1.2,h.2⟩
theorem Ah{t:ByteArray}(h:nF p t i j=true):0<i/\dT p t i j=dT p t (i-1) j+1:=by
 unfold nF at h;simp only[dW,decide_eq_true_eq]at h;exact h
theorem z8{t:ByteArray}(h:nF p t i j=false)(K:¬(i=0/\j=0)):0<j:=by
 rcases cv j with rfl|H
 ·rcases cv i with rfl|Y
  ·omega
  ·rw[Qd p t i Y]at h;exact bT h
 ·omega
theorem sW(p t:ByteArray):∀(f i j:Nat),i+j<=f->iC p t f i j=iC p t (i+j) i j
 |0,i,j,h=>by
  have:i+j=0:=by omega
  rw[this]
 |f+1,i,j,h=>by
  rcases cv (i+j)with H|H
  ·rw[H];have:i=0/\j=0:=by omega
   show iC p t (f+1) i j=[]
   rw[iC.eq_def];exact if_pos this
  ·obtain⟨n,R⟩:∃n,i+j=n+1:=⟨i+j-1,by omega⟩;rw[R,iC,iC];have Y:¬(i=0/\j=0):=by omega
   rw[if_neg Y,if_neg Y];split
   ·rename_i D;have:=Ag D;rw[sW p t f (i-1) (j-1) (by omega),sW p t n (i-1) (j-1) (by omega)]
   ·split
    ·rename_i K;have:=Ah K;rw[sW p t f (i-1) j (by omega),sW p t n (i-1) j (by omega)]
    ·rename_i K;have:=z8 (by simpa using K) Y;rw[sW p t f i (j-1) (by omega),sW p t n i (j-1) (by omega)]
theorem afJ{t:ByteArray}{acc:List UInt8}(Y:oo p t i j=true)(h:iC p t (i+j) i j++acc=L):iC p t (i-1+(j-1)) (i-1) (j-1)++(77::acc)=L:=by
 have H:=Ag Y;obtain⟨n,K⟩:∃n,i+j=n+1:=⟨i+j-1,by omega⟩;rw[K,iC,if_neg (by omega),if_pos Y,sW p t n _ _ (by omega),cj]at h;exact h
theorem afK{t:ByteArray}{acc:List UInt8}(K:oo p t i j=false)(Y:nF p t i j=true)(h:iC p t (i+j) i j++acc=L):iC p t (i-1+j) (i-1) j++(73::acc)=L:=by
 have D:=Ah Y;obtain⟨n,H⟩:∃n,i+j=n+1:=⟨i+j-1,by omega⟩;rw[H,iC,if_neg (by omega),if_neg (by simp[K]),if_pos Y,sW p t n _ j (by omega),cj]at h;exact h
theorem afL{t:ByteArray}{acc:List UInt8}(Y:¬(i=0/\j=0))(H:oo p t i j=false)(K:nF p t i j=false)(h:iC p t (i+j) i j++acc=L):iC p t (i+(j-1)) i (j-1)++(68::acc)=L:=by
 have R:=z8 K Y;obtain⟨n,D⟩:∃n,i+j=n+1:=⟨i+j-1,by omega⟩;rw[D,iC,if_neg Y,if_neg (by simp[H]),if_neg (by simp[K]),sW p t n i _ (by omega),cj]at h;exact h
theorem Cy(p t:ByteArray):∀(f i j:Nat),(iC p t f i j).length<=f
 |0,_,_=>by simp[iC]
 |f+1,i,j=>by
  rw[iC];split
  ·simp
  ·split
   ·have:=Cy p t f (i-1) (j-1);simp;omega
   ·split
    ·have:=Cy p t f (i-1) j;simp;omega
    ·have:=Cy p t f i (j-1);simp;omega
theorem yg(p t:ByteArray):(gO p t).length<=p.size+t.size:=Cy _ _ _ _ _
end
section
open ChangeShapes WideShapes ChangeAt RowKit
def uH:List (String×DataW Unit):=Rows.checksRow.laid
theorem ZL:("internal/strconv.uint64pow10",(Lib.tabData .u64 eP:DataW Unit))∈uH:=by
 exact .tail _ (.tail _ (.head _))
theorem Xk{W:ae}(h:laidMetH ai uH W):iS W:=by
 obtain⟨I,t',cs,fuel,p,K,H,Y,hd⟩:=Lib.laidMet.reads h ZL;have R:akq ai "internal/strconv.uint64pow10"=some 0:=by kernel_rfl
 have D:((ai).globals[0]?).map (·.type)=some 202:=by kernel_rfl
 obtain rfl:=Option.some.inj (R.symm.trans K);obtain rfl:=Option.some.inj (D.symm.trans H);unfold iS cY;rw[Y,<-Lib.cells_of_tab Tryz.underlying202 Tryz.underlying176 (by kernel_rfl) (by kernel_rfl) hd]
theorem abv(os:Os)(args:Array af):laidMetH ai uH ((World.doorLaid ai 400 os).forCall (fun _ _=>0) ⟨#[],args,[]⟩).memory:=
 laidMetH_of_parts3 (fuel:=8) (laidMet_of_run' 8 (by kernel_rfl) (by kernel_rfl)) (by kernel_rfl) (by kernel_rfl)
end
namespace Ren
theorem Gw{α:Type}:∀(x:Ask α) (w:ae),w.drawn<=(w.ask x).2.drawn
 |.done a,w=>ao _
 |.ask _ _ k,w=>by
  unfold World.ask;dsimp only;split
  ·exact Gw _ w
  ·exact aD (Nat.le_succ _) (Gw _ {w with drawn:=w.drawn+1})
theorem ZM(w:ae)(c:Sys):w.drawn<=(w.sys c).2.drawn:=by
 have:=Gw (Kernel.perform c w.os) w;unfold World.sys;split
 ·simp
 ·simp_all
theorem VY{p:aj}{w1:ae}{u:ah}{k:Addr}{v:af}{a:Bool}{l:List Addr}(h:w.viewStore p at_ u k v a=.ok (w1,l)):w1.drawn=w.drawn:=by
 unfold dC at h;simp only[bind,Except.bind,cn,throwThe,cu]at h
 repeat' split at h
 all_goals first|(cases h;rfl)|(cases h)
theorem V7{p:aj}{w1:ae}{v:af}{at_:Bool}{l:List _}(h:w.farStore p a v at_=.ok (w1,l)):w1.drawn=w.drawn:=by
 unfold akC at h;split at h
 ·split at h
  ·rename_i e;rw[Except.ok.inj h]at e;exact VY e
  ·cases h
 ·cases h
def _root_.Go.Result.world{α:Type}:Result α->ae
 |.ok _ w=>w
 |.halt _ w=>w
theorem Ch{α:Type}(s:Sem α):∀(w:ae),w.drawn<=(s.run P w).world.drawn:=by
 induction s with
 |pure a=>exact fun w=>ao _
 |halt h=>exact fun w=>ao _
 |load m a k Y=>
  intro w;simp only[Sem.run]
  repeat' split
  all_goals first|exact Y _ _|exact ao _
 |store m a v k Y=>
  intro w;cases v<;>simp only[Sem.run]<;>(repeat' split)<;>first
   |exact ao _
   |exact Y (w.setCell a _)
   |(rename_i e;exact aD (fa (V7 e).symm) (Y _))
 |new o k Y=>exact fun w=>Y _ {w with heap:=w.heap.push o}
 |shape r k Y=>exact fun w=>Y _ _
 |freeze a n k Y=>
  intro w;refine aD (fa ?_) (Y (w.freeze a n));unfold akD;split<;>rfl
 |frozen a k Y=>exact fun w=>Y _ _
 |getObj r k Y=>
  intro w;simp only[Sem.run];split
  ·exact ao _
  ·exact Y _ _
  ·exact ao _
 |setObj r o k Y=>
  intro w;simp only[Sem.run];split
  ·exact ao _
  ·exact Y {w with heap:=w.heap.setIfInBounds r o}
  ·exact ao _
 |choose q k Y=>
  intro w;simp only[Sem.run];split
  ·exact Y _ _
  ·exact aD (Nat.le_succ _) (Y _ {w with drawn:=w.drawn+1})
 |sys c k Y=>exact fun w=>aD (ZM w c) (Y _ _)
 |program k Y=>exact fun w=>Y _ _
 |mark m k Y=>exact fun w=>Y _
class gq where
 size:Nat
 il:a_->Prop
 code:Code->Prop
 methods:String->Prop
 sy:Nat->Prop
 wall:Array Oper->Prop
 ro:Nat->Prop
 jy:Nat->Nat->Prop
 rest:List Item->Prop
 jd:List aK->Prop
section jc
variable[gq]
structure Rn where
 f:Nat->Option Nat
 inj:∀b b' c,f b=some c->f b'=some c->b=b'
 jc:∀b c,f b=some c->(b<gq.size↔c<gq.size)
instance:CoeFun Rn (fun _=>Nat->Option Nat):=⟨Rn.f⟩
def Le(r s:Rn):=∀b c,r b=some c->s b=some c
theorem Le.refl(r:Rn):Le r r:=fun _ _ h=>h
theorem Le.trans{r s t:Rn}(h:Le r s)(k:Le s t):Le r t:=fun b c e=>k b c (h b c e)
structure Ad(r:Rn)(a a':Addr):Prop where
 block:r a.block=some a'.block
 off:a'.off=a.off
 spot:a'.spot=a.spot
theorem Ad.mono{r s:Rn}(h:Le r s)(k:Ad r a a'):Ad s a a':=⟨h _ _ k.block,k.off,k.spot⟩
def Hid:af->Bool
 |.agg _|.pointer none|.nilIface|.nilFunc|.func .. |.bool _=>false
 |_=>true
inductive qb(r:Rn):Fn->Fn->Prop
 |func {f:a_}:gq.il f->qb r (.func f) (.func f)
 |method {n:String}:gq.methods n->qb r (.method n) (.method n)
 |yield {l l':Nat}:r l=some l'->qb r (.yield l) (.yield l')
inductive qc(r:Rn):Fn->Fn->Prop
 |func {f:a_}:gq.il f->qc r (.func f) (.func f)
 |yield {l l':Nat}:r l=some l'->qc r (.yield l) (.yield l')
theorem qc.mono{r s:Rn}(h:Le r s){f f':Fn}(k:qc r f f'):qc s f f':=by
 cases k with
 |func g=>exact .func g
 |yield e=>exact .yield (h _ _ e)
theorem qc.toR{r:Rn}{f f':Fn}(k:qc r f f'):qb r f f':=by
 cases k with
 |func g=>exact .func g
 |yield e=>exact .yield e
theorem qb.mono{r s:Rn}(h:Le r s){f f':Fn}(k:qb r f f'):qb s f f':=by
 cases k with
 |func g=>exact .func g
 |method g=>exact .method g
 |yield e=>exact .yield (h _ _ e)
inductive V(r:Rn):af->af->Prop
 |blank {y:af}:Hid y=true->V r (.tuple #[]) y
 |bool (b:Bool):V r (.bool b) (.bool b)
 |int (k:aB) (n:Int):V r (.int k n) (.int k n)
 |string (s:ByteArray):V r (.string s) (.string s)
 |nilPtr:V r (.pointer none) (.pointer none)
 |ptr {a a':Addr}:Ad r a a'->V r (.pointer (some a)) (.pointer (some a'))
 |kJ (l c:Nat):V r (.slice none l c) (.slice none l c)
 |slice {a a':Addr} (l c:Nat):Ad r a a'->V r (.slice (some a) l c) (.slice (some a') l c)
 |oD:V r (.map none) (.map none)
 |map {b b':Nat}:r b=some b'->V r (.map (some b)) (.map (some b'))
 |pM:V r (.chan none) (.chan none)
 |chan {b b':Nat}:r b=some b'->V r (.chan (some b)) (.chan (some b'))
 |func {fn iO:Fn} {f f' c c':Array af}:qc r fn iO->f.size=f'.size->(∀(i:Nat) x x',f[i]?=some x->f'[i]?=some x'->V r x x')->
   c.size=c'.size->(∀(i:Nat) x x',c[i]?=some x->c'[i]?=some x'->V r x x')->V r (.func fn f c) (.func iO f' c')
 |nilFunc:V r .nilFunc .nilFunc
 |iface (t:ah) {v v':af}:V r v v'->V r (.iface t v) (.iface t v')
 |nilIface:V r .nilIface .nilIface
 |agg {c c':Array af}:c.size=c'.size->(∀(i:Nat) x x',c[i]?=some x->c'[i]?=some x'->V r x x')->V r (.agg c) (.agg c')
 |tuple {c c':Array af}:c.size=c'.size->(∀(i:Nat) x x',c[i]?=some x->c'[i]?=some x'->V r x x')->V r (.tuple c) (.tuple c')
theorem V.mono{r s:Rn}(h:Le r s)(k:V r x y):V s x y:=by
 induction k with
 |blank h=>exact .blank h
 |bool b=>exact .bool b
 |int k n=>exact .int k n
 |string s=>exact .string s
 |nilPtr=>exact .nilPtr
 |ptr a=>exact .ptr (a.mono h)
 |kJ l c=>exact .kJ l c
 |slice l c a=>exact .slice l c (a.mono h)
 |oD=>exact .oD
 |map e=>exact .map (h _ _ e)
 |pM=>exact .pM
 |chan e=>exact .chan (h _ _ e)
 |func n s1 _ K _ Y i2=>exact .func (n.mono h) s1 Y K i2
 |nilFunc=>exact .nilFunc
 |iface t _ i=>exact .iface t i
 |nilIface=>exact .nilIface
 |agg s _ i=>exact .agg s i
 |tuple s _ i=>exact .tuple s i
structure VA(r:Rn)(c c':Array af):Prop where
 size:c.size=c'.size
 at_:∀(i:Nat) x x',c[i]?=some x->c'[i]?=some x'->V r x x'
structure En(r:Rn)(e e':ax):Prop where
 key:V r e.key e'.key
 val:V r e.val e'.val
 born:e'.born=e.born
inductive Tg(r:Rn):cw->cw->Prop
 |fn {f f':Fn} {c c':Array af}:qb r f f'->VA r c c'->Tg r (.fn f c) (.fn f' c')
 |nil:Tg r .nil .nil
 |collected {b b':Nat}:r b=some b'->Tg r (.collected b) (.collected b')
structure Df(r:Rn)(d d':aK):Prop where
 target:Tg r d.target d'.target
 args:VA r d.args d'.args
inductive DL(r:Rn):List aK->List aK->Prop
 |nil:DL r [] []
 |cons {d d':aK} {l l':List aK}:Df r d d'->DL r l l'->DL r (d::l) (d'::l')
structure Lp(r:Rn)(l l':Loop):Prop where
 state:l'.state=l.state
 pending:l'.pending=l.pending
 fn:l'.fn=l.fn
 params:l'.params=l.params
 assign:l'.assign=l.assign
 body:l'.body=l.body
 tmps:VA r l.tmps l'.tmps
 defers:r l.defers=some l'.defers
 cp:∀c,l.pending=some c->gq.code c
 ca:gq.code l.assign
 cb:gq.code l.body
inductive DO(r:Rn):Option (List aK)->Option (List aK)->Prop
 |none:DO r none none
 |some {l l':List aK}:DL r l l'->DO r (some l) (some l')
inductive O(r:Rn):Obj->Obj->Prop
 |loop {l l':Loop}:Lp r l l'->O r (.loop l) (.loop l')
 |view {a a':Addr} (t:ah):¬gq.ro a.block->Ad r a a'->O r (.view a t) (.view a' t)
 |number {a a':Addr} (l:Bool):Ad r a a'->O r (.number a l) (.number a' l)
 |deferred {d d':Option (List aK)}:DO r d d'->O r (.deferred d) (.deferred d')
 |cells {c c':Array af} (e:ah) (fz:Nat×Nat):VA r c c'->O r (.cells c e fz) (.cells c' e fz)
 |map {es iD:Array ax} (clock:Nat):es.size=iD.size->(∀(i:Nat) x x',es[i]?=some x->iD[i]?=some x'->En r x x')->O r (.map es clock) (.map iD clock)
 |stringIter (s:ByteArray) (p:Nat):O r (.stringIter s p) (.stringIter s p)
 |qm (a:Nat) (s:Array Nat) (n:Nat):O r (.mapIter none a s n) (.mapIter none a s n)
 |mapIter {b b':Nat} (a:Nat) (s:Array Nat) (n:Nat):r b=some b'->O r (.mapIter (some b) a s n) (.mapIter (some b') a s n)
theorem VA.mono{r s:Rn}(h:Le r s){c c':Array _}(k:VA r c c'):VA s c c':=⟨k.size,fun i x x' e e'=>(k.at_ i x x' e e').mono h⟩
theorem En.mono{r s:Rn}(h:Le r s){e e':ax}(k:En r e e'):En s e e':=⟨k.key.mono h,k.val.mono h,k.born⟩
theorem Tg.mono{r s:Rn}(h:Le r s){t t':cw}(k:Tg r t t'):Tg s t t':=by
 cases k with
 |fn f c=>exact .fn (f.mono h) (c.mono h)
 |nil=>exact .nil
 |collected e=>exact .collected (h _ _ e)
theorem Df.mono{r s:Rn}(h:Le r s)(k:Df r d d'):Df s d d':=⟨k.target.mono h,k.args.mono h⟩
theorem DL.mono{r s:Rn}(h:Le r s){d d':List _}(k:DL r d d'):DL s d d':=by
 induction k with
 |nil=>exact .nil
 |cons x _ Y=>exact .cons (x.mono h) Y
theorem DO.mono{r s:Rn}(h:Le r s){d d':Option _}(k:DO r d d'):DO s d d':=by
 cases k with
 |none=>exact .none
 |some x=>exact .some (x.mono h)
theorem Lp.mono{r s:Rn}(h:Le r s){l l':Loop}(k:Lp r l l'):Lp s l l':=⟨k.state,k.pending,k.fn,k.params,k.assign,k.body,k.tmps.mono h,h _ _ k.defers,k.cp,k.ca,k.cb⟩
theorem O.mono{r s:Rn}(h:Le r s)(k:O r o o'):O s o o':=by
 cases k with
 |loop l=>exact .loop (l.mono h)
 |view t n a=>exact .view t n (a.mono h)
 |number l a=>exact .number l (a.mono h)
 |deferred d=>exact .deferred (d.mono h)
 |cells e fz a=>exact .cells e fz (a.mono h)
 |map Y H K=>exact .map Y H fun i x x' e e'=>(K i x x' e e').mono h
 |stringIter s p=>exact .stringIter s p
 |qm a s n=>exact .qm a s n
 |mapIter a s n e=>exact .mapIter a s n (h _ _ e)
inductive OB(r:Rn)(b:Nat):Obj->Obj->Prop
 |same {o o':Obj}:¬gq.ro b->O r o o'->OB r b o o'
 |ro {c c':Array af} (e:ah):gq.ro b->VA r c c'->(∀i,gq.jy b i->c[i]?=some (.tuple #[]))->OB r b (.cells c e (0,c.size)) (.cells c' e)
theorem OB.mono{r s:Rn}(h:Le r s)(k:OB r b o o'):OB s b o o':=by
 cases k with
 |same n o=>exact .same n (o.mono h)
 |ro e n a Y=>exact .ro e n (a.mono h) Y
structure W(r:Rn)(c:Nat)(v w:ae):Prop where
 obj:∀b b',r b=some b'->∃o o',v.heap[b]?=some o/\w.heap[b']?=some o'/\OB r b o o'
 gv:gq.size<=v.heap.size
 gw:gq.size<=w.heap.size
 old:∀b,gq.ro b->b<v.heap.size
 tape:∀i q,i<c->v.tape (v.drawn+i) q=w.tape (w.drawn+i) q
 env:w.os.env=v.os.env
inductive Hl(r:Rn):Halt->Halt->Prop
 |panic {v v':af}:V r v v'->Hl r (.panic v) (.panic v')
def C1:Unsupported->Bool
 |.initOrder _=>true
 |_=>false
def rq(h:Halt):=(∃u,h=.unsupported u/\C1 u=false)\/∃y,h=.stuck y
inductive SR(P:aj){α:Type}(A:Rn->α->α->Prop):Rn->Sem α->Sem α->Prop
 |pure {r:Rn} {a a':α}:A r a a'->SR P A r (.pure a) (.pure a')
 |load {r:Rn} {a a':Addr} {k k':af->Sem α}:Ad r a a'->(∀s v v',Le r s->V s v v'->SR P A s (k v) (k' v'))->SR P A r (.load .plain a k) (.load .plain a' k')
 |store {r:Rn} {a a':Addr} {v v':af} {k k':Sem α}:Ad r a a'->V r v v'->(∀s,Le r s->SR P A s k k')->SR P A r (.store .plain a v k) (.store .plain a' v' k')
 |new {r:Rn} {o o':Obj} {k k':Nat->Sem α}:O r o o'->(∀s b b',Le r s->s b=some b'->SR P A s (k b) (k' b'))->SR P A r (.new o k) (.new o' k')
 |shape {r:Rn} {b b':Nat} {k k':Option (ah×Nat)->Sem α}:r b=some b'->(∀s x,Le r s->SR P A s (k x) (k' x))->SR P A r (.shape b k) (.shape b' k')
 |freeze {r:Rn} {a a':Addr} (n:Nat) {k k':Sem α}:(∀b,¬gq.ro b)->Ad r a a'->(∀s,Le r s->SR P A s k k')->SR P A r (.freeze a n k) (.freeze a' n k')
 |frozen {r:Rn} {a a':Addr} {k k':Bool->Sem α}:(∀b,¬gq.ro b)->Ad r a a'->(∀s x,Le r s->SR P A s (k x) (k' x))->SR P A r (.frozen a k) (.frozen a' k')
 |getObj {r:Rn} {b b':Nat} {k k':Obj->Sem α}:r b=some b'->(∀s o o',Le r s->O s o o'->SR P A s (k o) (k' o'))->SR P A r (.getObj b k) (.getObj b' k')
 |setObj {r:Rn} {b b':Nat} {o o':Obj} {k k':Sem α}:r b=some b'->O r o o'->(∀s,Le r s->SR P A s k k')->SR P A r (.setObj b o k) (.setObj b' o' k')
 |choose {r:Rn} (q:Question) {k k':Nat->Sem α}:(∀s n,Le r s->SR P A s (k n) (k' n))->SR P A r (.choose q k) (.choose q k')
 |env {r:Rn} {k k':SysRet->Sem α}:(∀s x,Le r s->SR P A s (k x) (k' x))->SR P A r (.sys .env k) (.sys .env k')
 |program {r:Rn} {k k':aj->Sem α}:(∀s,Le r s->SR P A s (k P) (k' P))->SR P A r (.program k) (.program k')
 |mark {r:Rn} (m:Mark) {k k':Sem α}:(m=.noRoom\/∃f,m=.extern f)->(∀s,Le r s->SR P A s k k')->SR P A r (.mark m k) (.mark m k')
 |halt {r:Rn} {h h':Halt}:Hl r h h'->SR P A r (.halt h) (.halt h')
 |lost {r:Rn} {s s':Sem α}:(∀v,∃h v1,s.run P v=.halt h v1/\rq h)->SR P A r s s'
theorem SR.bind{α H:Type}{A:Rn->α->α->Prop}{B:Rn->H->H->Prop}{r:Rn}{s s':Sem α}{f f':α->Sem H}(h:SR P A r s s')
  (k:∀t a a',Le r t->A t a a'->SR P B t (f a) (f' a')):SR P B r (s.bind f) (s'.bind f'):=by
 induction h with
 |pure a=>exact k _ _ _ (.refl _) a
 |load a _ Y=>exact .load a fun t v v' l e=>Y t v v' l e fun u a a' K=>k u a a' (l.trans K)
 |store a v _ Y=>exact .store a v fun t l=>Y t l fun u a a' K=>k u a a' (l.trans K)
 |new o _ Y=>exact .new o fun t b b' l e=>Y t b b' l e fun u a a' K=>k u a a' (l.trans K)
 |shape e _ Y=>exact .shape e fun t x l=>Y t x l fun u a a' K=>k u a a' (l.trans K)
 |freeze n z a _ Y=>exact .freeze n z a fun t l=>Y t l fun u a a' K=>k u a a' (l.trans K)
 |frozen z a _ Y=>exact .frozen z a fun t x l=>Y t x l fun u a a' K=>k u a a' (l.trans K)
 |getObj e _ Y=>exact .getObj e fun t o o' l e=>Y t o o' l e fun u a a' K=>k u a a' (l.trans K)
 |setObj e o _ Y=>exact .setObj e o fun t l=>Y t l fun u a a' K=>k u a a' (l.trans K)
 |choose q _ Y=>exact .choose q fun t n l=>Y t n l fun u a a' K=>k u a a' (l.trans K)
 |env _ Y=>exact .env fun t x l=>Y t x l fun u a a' K=>k u a a' (l.trans K)
 |program _ Y=>exact .program fun t l=>Y t l fun u a a' K=>k u a a' (l.trans K)
 |mark m R _ Y=>exact .mark m R fun t l=>Y t l fun u a a' K=>k u a a' (l.trans K)
 |halt h=>exact .halt h
 |lost h=>
  refine .lost fun v=>?_;obtain⟨x,v1,e,D⟩:=h v;refine⟨x,v1,?_,D⟩;rw[aT,e];rfl
theorem SR.imp{α:Type}{A B:Rn->α->α->Prop}{r:Rn}{s s':Sem α}(h:SR P A r s s')(k:∀t a a',Le r t->A t a a'->B t a a'):SR P B r s s':=by
 induction h with
 |pure a=>exact .pure (k _ _ _ (.refl _) a)
 |load a _ Y=>exact .load a fun t v v' l e=>Y t v v' l e fun u a a' K=>k u a a' (l.trans K)
 |store a v _ Y=>exact .store a v fun t l=>Y t l fun u a a' K=>k u a a' (l.trans K)
 |new o _ Y=>exact .new o fun t b b' l e=>Y t b b' l e fun u a a' K=>k u a a' (l.trans K)
 |shape e _ Y=>exact .shape e fun t x l=>Y t x l fun u a a' K=>k u a a' (l.trans K)
 |freeze n z a _ Y=>exact .freeze n z a fun t l=>Y t l fun u a a' K=>k u a a' (l.trans K)
 |frozen z a _ Y=>exact .frozen z a fun t x l=>Y t x l fun u a a' K=>k u a a' (l.trans K)
 |getObj e _ Y=>exact .getObj e fun t o o' l e=>Y t o o' l e fun u a a' K=>k u a a' (l.trans K)
 |setObj e o _ Y=>exact .setObj e o fun t l=>Y t l fun u a a' K=>k u a a' (l.trans K)
 |choose q _ Y=>exact .choose q fun t n l=>Y t n l fun u a a' K=>k u a a' (l.trans K)
 |env _ Y=>exact .env fun t x l=>Y t x l fun u a a' K=>k u a a' (l.trans K)
 |program _ Y=>exact .program fun t l=>Y t l fun u a a' K=>k u a a' (l.trans K)
 |mark m H _ Y=>exact .mark m H fun t l=>Y t l fun u a a' K=>k u a a' (l.trans K)
 |halt h=>exact .halt h
 |lost h=>exact .lost h
section afM
variable{r:Rn}{c:Nat}{v w:ae}
theorem W.lt(h:W r c v w)(e:r b=some b'):b<v.heap.size/\b'<w.heap.size:=by
 obtain⟨o,o',Y,K,_⟩:=h.obj b b' e;exact⟨(bt.1 Y).1,(bt.1 K).1⟩
structure Out(r r1:Rn)(c c1:Nat)(v w v1 w1:ae):Prop where
 drew:v1.drawn+c1=v.drawn+c
 yH:w1.drawn+c1=w.drawn+c
 later:v.drawn<=v1.drawn
 le:Le r r1
 wl:W r1 c1 v1 w1
 grow:w.heap.size<=w1.heap.size
 IK:v.heap.size<=v1.heap.size
 kept:∀a,a<w.heap.size->(∀b,r b=some a->gq.ro b)->w1.heap[a]?=w.heap[a]?
 fresh:∀b a,r1 b=some a->r b=some a\/(w.heap.size<=a/\v.heap.size<=b)
 range:∀a,w.heap.size<=a->a<w1.heap.size->∃b,r1 b=some a
 tape:w1.tape=w.tape
 IM:v1.tape=v.tape
 os:w1.os=w.os
 output:w1.output=w.output
 Tx:v1.os=v.os
 Qe:v1.output=v.output
theorem Out.refl(h:W r c v w):Out r r c c v w v w:=⟨rfl,rfl,ao _,.refl _,h,ao _,ao _,fun _ _ _=>rfl,fun _ _ e=>.inl e,fun a K Y=>absurd Y (by omega),rfl,rfl,rfl,rfl,rfl,rfl⟩
theorem Out.trans{r1 r2:Rn}{c1 c2:Nat}{v1 w1 v2 w2:ae}(h:Out r r1 c c1 v w v1 w1)(k:Out r1 r2 c1 c2 v1 w1 v2 w2):Out r r2 c c2 v w v2 w2:=by
 refine⟨k.drew.trans h.drew,k.yH.trans h.yH,aD h.later k.later,h.le.trans k.le,k.wl,aD h.grow k.grow,aD h.IK k.IK,fun a Y hr=>?_,fun b a e=>?_,fun a H D=>?_,k.tape.trans h.tape,k.IM.trans h.IM,k.os.trans h.os,k.output.trans h.output,k.Tx.trans h.Tx,k.Qe.trans h.Qe⟩
 ·rw[k.kept a (bp Y h.grow) fun b e=>?_]
  ·exact h.kept a Y hr
  ·rcases h.fresh b a e with e'|⟨e',_⟩
   ·simp_all
   ·omega
 ·rcases k.fresh b a e with e'|⟨e',K⟩
  ·exact h.fresh b a e'
  ·exact .inr ⟨aD h.grow e',aD h.IK K⟩
 ·by_cases Y:a<w1.heap.size
  ·obtain⟨b,e⟩:=h.range a H Y;exact⟨b,k.le _ _ e⟩
  ·exact k.range a (by omega) D
theorem Out.set(h:W r c v w)(e:r b=some b')(H:¬gq.ro b)(U:O r o o'):
  Out r r c c v w {v with heap:=v.heap.setIfInBounds b o} {w with heap:=w.heap.setIfInBounds b' o'}:=by
 have C:=h.lt e;refine⟨rfl,rfl,ao _,.refl _,⟨fun x x' D=>?_,by simpa using h.gv,by simpa using h.gw,by simpa using h.old,h.tape,h.env⟩,by simp,by simp,fun a B hr=>?_,fun _ _ x=>.inl x,fun a I R=>absurd R (by simp;omega),rfl,rfl,rfl,rfl,rfl,rfl⟩
 ·by_cases Y:x=b
  ·subst Y;obtain rfl:x'=b':=Option.some.inj (D.symm.trans e);exact⟨o,o',by simp_all,by simp_all,.same H U⟩
  ·have K:x'≠b':=fun y=>Y (r.inj _ _ _ D (y▸e));obtain⟨p,p',I,R,A⟩:=h.obj x x' D;exact⟨p,p',by simp[Ne.symm Y,I],by simp[Ne.symm K,R],A⟩
 ·have:a≠b':=fun x=>H (hr b (x▸e));simp[Ne.symm this]
def ext(r:Rn)(b a:Nat)(R:∀x,r x≠some a)(C:gq.size<=b)(U:gq.size<=a):Rn where
 f:=fun x=>if x=b then some a else r x
 jc:=fun x y h=>by
  by_cases Y:x=b
  ·simp only[Y,if_true,di]at h;omega
  ·simp only[Y,if_false]at h;exact r.jc x y h
 inj:=fun x y z K H=>by
  by_cases Y:x=b<;>by_cases D:y=b
  ·omega
  ·simp only[Y,if_true,di]at K;simp only[D,if_false]at H;exact absurd (K▸H) (R y)
  ·simp only[D,if_true,di]at H;simp only[Y,if_false]at K;exact absurd (H▸K) (R x)
  ·simp only[Y,D,if_false]at K H;exact r.inj _ _ _ K H
theorem W.past(h:W r c v w):∀x,r x≠some w.heap.size:=fun x e=>by have:=(h.lt e).2;omega
theorem Out.new(h:W r c v w){o o':Obj}(U:O r o o'):
  Out r (ext r _ _ h.past h.gv h.gw) c c v w {v with heap:=v.heap.push o} {w with heap:=w.heap.push o'}:=by
 have le:Le r (ext r v.heap.size w.heap.size h.past h.gv h.gw):=fun b a e=>by
  have:=(h.lt e).1;show(if b=v.heap.size then some _ else r b)=some a
  rw[if_neg (by omega)];exact e
 have old:∀b a,ext r v.heap.size w.heap.size h.past h.gv h.gw b=some a->r b=some a\/(b=v.heap.size/\a=w.heap.size):=fun b a e=>by
  have e:(if b=v.heap.size then some _ else r b)=some a:=e;split at e
  ·simp_all
  simp_all
 refine⟨rfl,rfl,ao _,le,⟨fun b b' e=>?_,by have:=h.gv;simp;omega,by have:=h.gw;simp;omega,fun b I=>by have:=h.old b I;simp;omega,h.tape,h.env⟩,by simp,by simp,fun a A hr=>?_,fun b a e=>?_,fun a K Y=>⟨v.heap.size,?_⟩,rfl,rfl,rfl,rfl,rfl,rfl⟩
 ·rcases old _ _ e with x|⟨H,D⟩
  ·obtain⟨p,p',K,Y,R⟩:=h.obj b b' x;have:=h.lt x;exact⟨p,p',by simp only[bE];rw[if_neg (by omega)];exact K,by simp only[bE];rw[if_neg (by omega)];exact Y,R.mono le⟩
  ·subst H;subst D;exact⟨o,o',by simp,by simp,.same (fun hr=>by have:=h.old _ hr;omega) (U.mono le)⟩
 ·simp only[bE];rw[if_neg (by omega)]
 ·rcases old _ _ e with x|⟨H,D⟩
  ·exact .inl x
  ·omega
 ·simp at Y;show(if v.heap.size=v.heap.size then some _ else r _)=some a
  rw[if_pos rfl];congr 1;omega
theorem Out.draw(h:W r (c+1) v w):Out r r (c+1) c v w {v with drawn:=v.drawn+1} {w with drawn:=w.drawn+1}:=
 ⟨by simp;omega,by simp;omega,by simp,.refl _,⟨h.obj,h.gv,h.gw,h.old,fun i q H=>by have:=h.tape (1+i) q (by omega);simpa[Nat.add_assoc]using this,h.env⟩,ao _,ao _,fun _ _ _=>rfl,fun _ _ e=>.inl e,fun a K Y=>absurd Y (by simp;omega),rfl,rfl,rfl,rfl,rfl,rfl⟩
end afM
section runs
variable{r:Rn}{c:Nat}{v w:ae}
omit [gq]in
theorem modify_eq{h:Array Obj}{f:Obj->Obj}(e:h[b]?=some o):h.modify b f=h.setIfInBounds b (f o):=by
 obtain⟨K,R⟩:=bt.1 e;refine Array.ext (by simp) fun i H D=>?_;rw[Array.getElem_modify];by_cases Y:b=i
 ·simp_all
 ·rw[if_neg Y,Array.getElem_setIfInBounds,if_neg Y]
theorem VA.get{c c':Array _}(h:VA r c c')(e:c[i]?=some x):∃x',c'[i]?=some x'/\V r x x':=by
 obtain⟨Y,_⟩:=bt.1 e;have K:=h.size▸Y;exact⟨c'[i],by simp,h.at_ i x _ e (by simp)⟩
theorem VA.none{c c':Array _}(h:VA r c c')(e:c[i]?=none):c'[i]?=none:=by
 simp at e⊢;have:=h.size;omega
theorem VA.set{c c':Array _}(h:VA r c c')(i:Nat)(K:V r x x'):VA r (c.setIfInBounds i x) (c'.setIfInBounds i x'):=by
 refine⟨by simp[h.size],fun j y I e e'=>?_⟩;simp[Array.getElem?_setIfInBounds]at e e';by_cases Y:i=j
 ·simp_all
 ·rw[if_neg Y]at e e';exact h.at_ j y I e e'
theorem W.cell(h:W r c v w)(H:Ad r a a')(e:v.cell? a=some x):∃x',w.cell? a'=some x'/\V r x x':=by
 obtain⟨o,o',R,I,K⟩:=h.obj _ _ H.block;simp[bN,R]at e;simp[bN,I];have cells:∀{cs gL:Array _},VA r cs gL->(if a.spot.isSome=true then none else cs[a.off]?)=some x->∃x',(if a'.spot.isSome=true then none else gL[a'.off]?)=some x'/\V r x x':=by
  intro cs gL Y e;rw[H.spot,H.off];split at e
  ·cases e
  ·rename_i A;rw[if_neg A];exact Y.get e
 cases K with
 |ro D n Y U=>exact cells Y e
 |same n K=>
  cases K with
  |cells D fz Y=>exact cells Y e
  |_=>cases e
theorem W.noCell(h:W r c v w)(H:Ad r a a')(e:v.cell? a=none):w.cell? a'=none:=by
 obtain⟨o,o',R,I,K⟩:=h.obj _ _ H.block;simp[bN,R]at e;simp[bN,I];have cells:∀{cs gL:Array _},VA r cs gL->(if a.spot.isSome=true then none else cs[a.off]?)=none->(if a'.spot.isSome=true then none else gL[a'.off]?)=none:=by
  intro cs gL Y e;rw[H.spot,H.off];split at e
  ·simp_all
  ·rename_i A;rw[if_neg A];exact Y.none e
 cases K with
 |ro D n Y U=>exact cells Y e
 |same n K=>
  cases K with
  |cells D fz Y=>exact cells Y e
  |_=>rfl
theorem W.frozen(h:W r c v w){a a':Addr}(K:Ad r a a')(R:¬gq.ro a.block):w.frozen? a'=v.frozen? a:=by
 obtain⟨o,o',H,D,Y⟩:=h.obj _ _ K.block;simp[akE,H,D];cases Y with
 |ro I n U A=>exact absurd n R
 |same n Y=>cases Y<;>simp[K.off]
theorem W.abw(h:W r c v w)(H:Ad r a a')(D:gq.ro a.block)(e:v.cell? a=some x):v.frozen? a=true:=by
 obtain⟨o,o',Y,I,K⟩:=h.obj _ _ H.block;simp[bN,Y]at e;simp[akE,Y];cases K with
 |ro R n U A=>
  simp only at e⊢;split at e
  ·cases e
  ·have:=(bt.1 e).1;simp[this]
 |same n K=>exact absurd D n
theorem W.shape(h:W r c v w){b b':Nat}(e:r b=some b'):w.shape? b'=v.shape? b:=by
 obtain⟨o,o',D,R,Y⟩:=h.obj _ _ e;simp[World.shape?,D,R];cases Y with
 |ro H n K I=>simp[K.size]
 |same n Y=>
  cases Y with
  |cells H fz K=>simp[K.size]
  |_=>rfl
theorem N4(h:V r x x'){bs:List _}(e:x.bytes?=some bs):x'=x:=by
 cases h<;>first|rfl|(simp[Value.bytes?]at e)
theorem Mk(p:aj)(h:VA r cs gL)(e:ah):∀(f x stop:Nat) {l:List (Nat×Nat×List UInt8)},bD p cs e f x stop=.ok l->bD p gL e f x stop=.ok l
 |0,_,_,_,h'=>by simp[bD]at h'
 |f+1,x,stop,l,h'=>by
  unfold bD at h'⊢;split at h'
  ·simp_all
  ·rename_i R;rw[if_neg R];simp only at h'⊢;split at h'
   ·cases h'
   ·rename_i hw;rw[if_neg hw];split at h'
    ·omega
    ·rename_i i s A;split at h'
     ·cases h'
     ·rename_i v I;obtain⟨v',K,H⟩:=h.get I;rw[K];simp only;split at h'
      ·cases h'
      ·cases h'
      ·rename_i bs n D;rw[N4 H D,D];simp only;cases Y:bD p cs e f _ stop with
       |error y=>rw[Y]at h';cases h'
       |ok l'=>
        rw[Y]at h';rw[Mk p h e f _ _ Y];exact h'
theorem O6(h:W r c v w)(P:aj){Jj k k':Addr}(U:Ad r at_ Jj)(Q:k'.off=k.off)(S:k'.spot=k.spot)(C:¬gq.ro at_.block)(u:ah)
  {e:ah}{fz:Nat×Nat}{first:Nat}{l:List (Nat×Nat×List UInt8)}(Y:v.seen P at_ u k false=.ok (cs,e,fz,first,Jf,l)):
  ∃gL,w.seen P Jj u k' false=.ok (gL,e,fz,first,Jf,l)/\VA r cs gL/\v.heap[at_.block]?=some (.cells cs e fz)/\w.heap[Jj.block]?=some (.cells gL e fz)/\∃d,dD P d u k.off=some Jf:=by
 unfold World.seen at Y⊢;rw[Q,S,U.off,U.spot];simp only[bind,Except.bind,pure,bI,cn,throwThe,cu,bm,if_false]at Y⊢;cases B:(k.spot.isSome||at_.spot.isSome)with
 |true=>rw[B]at Y;simp at Y
 |false=>
  rw[B]at Y;simp only[bm,if_false]at Y⊢;cases R:dD P P.depth u k.off with
  |none=>rw[R]at Y;simp at Y
  |some K=>
   rw[R]at Y;simp only at Y⊢;cases F:K.bytes?.map (·.length)with
   |none=>rw[F]at Y;simp at Y
   |some size=>
    rw[F]at Y;cases J:byteOfCell P P.depth u k.off with
    |none=>rw[J]at Y;simp at Y
    |some V=>
     rw[J]at Y;obtain⟨o,o',N,T,A⟩:=h.obj _ _ U.block;rw[N]at Y;rw[T];cases A with
     |ro H n _ _=>exact absurd n C
     |same n A=>
      cases A with
      |cells H O D=>
       rename_i d d';by_cases L:P.cellsOf H=0
       ·simp[L]at Y
       ·simp only[L,if_false]at Y⊢;cases M:byteOfCell P P.depth H _ with
        |none=>rw[M]at Y;simp at Y
        |some b0=>
         rw[M]at Y;simp only at Y⊢;cases I:bD P d H (size+1) _ _ with
         |error y=>rw[I]at Y;simp at Y
         |ok l0=>
          rw[I]at Y;rw[Mk P D H _ _ _ I];simp only[cP,Prod.mk.injEq]at Y⊢;obtain⟨rfl,rfl,rfl,rfl,rfl,rfl⟩:=Y;exact⟨_,⟨rfl,rfl,rfl,rfl,rfl,rfl⟩,D,N,rfl,_,R⟩
      |_=>simp at Y
def DZ(P:aj):=∀d u k x,dD P d u k=some x->(∃b,x=.bool b)\/∃k n,x=.int k n
theorem W.farLoad(h:W r c v w)(U:DZ P)(R:Ad r a a'):
  (∃x,v.farLoad P a false=.error x/\rq x)\/∃x l l',v.farLoad P a false=.ok (x,l)/\w.farLoad P a' false=.ok (x,l')/\V r x x/\∀y∈l',∃b,r b=some y.block:=by
 obtain⟨o,o',B,C,D⟩:=h.obj _ _ R.block;simp only[World.farLoad,akF,B,C];cases D with
 |ro N n O K=>exact .inl ⟨_,rfl,.inr ⟨_,rfl⟩⟩
 |same n D=>
  cases D with
  |view t n at_=>
   rename_i b b';simp only;cases Y:v.viewLoad P b t a _ with
   |error y=>exact .inl ⟨_,rfl,.inl ⟨_,rfl,rfl⟩⟩
   |ok q=>
    unfold akG at Y;simp only[bind,Except.bind]at Y;cases A:v.seen P b t a _ with
    |error y=>rw[A]at Y;simp at Y
    |ok q=>
     obtain⟨cs,e,fz,first,H,J⟩:=q;rw[A]at Y;simp only at Y;obtain⟨gL,L,Q,S,T,M,I⟩:=O6 h P at_ R.off R.spot n t A;cases K:H.ofBytes _ with
     |none=>rw[K]at Y;simp at Y
     |some y=>
      rw[K]at Y;obtain⟨rfl,rfl⟩:=Y;refine .inr ⟨y,_,J.map fun x=>{block:=b'.block,off:=x.1},rfl,?_,?_,?_⟩
      ·unfold akG;simp only[bind,Except.bind,pure,bI,L,K]
      ·rcases U _ _ _ _ I with⟨b,rfl⟩|⟨k,n,rfl⟩<;>simp only[dz]at K<;>(split at K<;>first|(rw[<-Option.some.inj K];constructor)|cases K)
      ·intro y F;obtain⟨z,_,rfl⟩:=eW.1 F;exact⟨_,at_.block⟩
  |_=>exact .inl ⟨_,rfl,.inr ⟨_,rfl⟩⟩
theorem N5{X:Type}{f:Array _->X->Except String _}(D:∀cs gL x c1,VA r cs gL->f cs x=.ok c1->∃Y,f gL x=.ok Y/\VA r c1 Y):∀(l:List X) {cs gL c1:Array _},VA r cs gL->l.foldlM f cs=.ok c1->∃Y,l.foldlM f gL=.ok Y/\VA r c1 Y
 |[],cs,gL,c1,h,K=>by
  simp[List.foldlM_nil,pure,bI,cP]at K⊢;simp_all
 |x::l,cs,gL,c1,h,K=>by
  simp[List.foldlM_cons,bind,Except.bind]at K⊢;cases H:f cs x with
  |error y=>rw[H]at K;simp at K
  |ok c2=>
   obtain⟨R,e,I⟩:=D _ _ _ _ h H;rw[H]at K;rw[e];exact N5 D l I K
theorem W.farStore(h:W r c v w)(P:aj)(M:Ad r a a')(f:V r x x'):
  (∃y,v.farStore P a x false=.error y/\rq y)\/∃b b' o o' l l',¬gq.ro b/\r b=some b'/\O r o o'/\v.farStore P a x false=.ok ({v with heap:=v.heap.setIfInBounds b o},l)/\w.farStore P a' x' false=.ok ({w with heap:=w.heap.setIfInBounds b' o'},l')/\∀y∈l',y.block=b':=by
 obtain⟨o,o',Z,E,R⟩:=h.obj _ _ M.block;simp only[akC,akF,Z,E];cases R with
 |ro k n hv I=>exact .inl ⟨_,rfl,.inr ⟨_,rfl⟩⟩
 |same n R=>
  cases R with
  |view t n at_=>
   rename_i b b';simp only;cases Y:v.viewStore P b t a x false with
   |error y=>exact .inl ⟨_,rfl,.inl ⟨_,rfl,rfl⟩⟩
   |ok q=>
    obtain⟨v1,l⟩:=q;unfold dC at Y;simp only[bind,Except.bind,pure,bI,cn,throwThe,cu]at Y;cases S:tight P P.depth t with
    |false=>rw[S]at Y;simp at Y
    |true=>
     rw[S]at Y;simp only[cH,bm,if_false]at Y;cases Q:v.seen P b t a false with
     |error y=>rw[Q]at Y;simp at Y
     |ok q=>
      obtain⟨cs,e,fz,first,B,g⟩:=q;rw[Q]at Y;simp only at Y;obtain⟨gL,p,u,q3,q4,m,j⟩:=O6 h P at_ M.off M.spot n t Q;cases I:x.bytes? with
      |none=>rw[I]at Y;simp at Y
      |some bytes=>
       have ex:=N4 f I;subst ex;rw[I]at Y;simp only at Y;by_cases U:some bytes.length≠B.bytes?.map (·.length)
       ·rw[if_pos U]at Y;simp at Y
       ·rw[if_neg U]at Y;split at Y
        ·cases Y
        ·rename_i c1 N;have key:=N5 (r:=r) ?_ _ u N
         ·obtain⟨F,A,D⟩:=key;obtain⟨rfl,rfl⟩:=Y;refine .inr ⟨b.block,b'.block,.cells c1 e fz,.cells F e fz,_,g.map fun x=>{block:=b'.block,off:=x.1},n,at_.block,.cells _ _ D,rfl,?_,fun y d=>?_⟩
          ·unfold dC;simp only[bind,Except.bind,pure,bI,cn,throwThe,cu,S,p,I,cH,bm,if_false,if_neg U,A]
          ·obtain⟨z,_,rfl⟩:=eW.1 d;rfl
         ·rintro cs gL ⟨i,s,bs⟩ c2 D K;simp only at K⊢;split at K
          ·cases K
          ·rename_i R;rw[if_neg R];split at K
           ·cases K
           ·rename_i G;rw[if_neg G];cases J:cs[i]? with
            |none=>rw[J]at K;simp at K
            |some old=>
             obtain⟨C,L,T⟩:=D.get J;rw[J]at K;rw[L];simp only at K⊢;cases H:old.ofBytes ((bytes.drop (s-first)).take bs.length)with
             |none=>rw[H]at K;simp at K
             |some new=>
              have X:C=old:=by cases T<;>first|rfl|(simp[dz]at H;done)
              have U:V r new new:=by cases T<;>simp only[dz]at H<;>first|cases H|(split at H<;>first|(rw[<-Option.some.inj H];constructor)|cases H)
              rw[H]at K;rw[X,H];simp only[cP]at K⊢;subst K;exact⟨_,rfl,D.set _ U⟩
  |_=>exact .inl ⟨_,rfl,.inr ⟨_,rfl⟩⟩
theorem Out.setCell(h:W r c v w)(K:Ad r a a')(Y:¬gq.ro a.block)(F:V r x x'):Out r r c c v w (v.setCell a x) (w.setCell a' x'):=by
 obtain⟨o,o',A,U,H⟩:=h.obj _ _ K.block;simp[World.setCell];rw[modify_eq A,modify_eq U];refine Out.set h K.block Y ?_;cases H with
 |ro I n D J=>exact absurd n Y
 |same n H=>
  cases H with
  |cells I fz D=>
   simp only;rw[K.spot,K.off];split
   ·exact .cells _ _ D
   ·exact .cells _ _ (D.set _ F)
  |map R C B=>exact .map R C B
  |stringIter s p=>exact .stringIter s p
  |qm a s n=>exact .qm a s n
  |mapIter a s n e=>exact .mapIter a s n e
  |loop l=>exact .loop l
  |view t n a=>exact .view t n a
  |number l a=>exact .number l a
  |deferred d=>exact .deferred d
theorem Out.freeze(h:W r c v w){a a':Addr}(H:Ad r a a')(Y:¬gq.ro a.block)(n:Nat):Out r r c c v w (v.freeze a n) (w.freeze a' n):=by
 obtain⟨o,o',A,U,K⟩:=h.obj _ _ H.block;simp[akD];split
 ·exact .refl h
 rw[modify_eq A,modify_eq U];refine Out.set h H.block Y ?_;cases K with
 |ro I n D F=>exact absurd n Y
 |same n K=>
  cases K with
  |cells I fz D=>simp[H.off];exact .cells _ _ D
  |map R C B=>exact .map R C B
  |stringIter s p=>exact .stringIter s p
  |qm a s n=>exact .qm a s n
  |mapIter a s n e=>exact .mapIter a s n e
  |loop l=>exact .loop l
  |view t n a=>exact .view t n a
  |number l a=>exact .number l a
  |deferred d=>exact .deferred d
def lN(r:Rn)(w:ae)(u:Nat)(e:aL):=
 (∃a:Addr,e.loc=.cell a/\e.sync=false/\((∃b,r b=some a.block/\(e.write=true->¬gq.ro b))\/(w.heap.size<=a.block/\a.block<u)))\/
 (∃a:Nat,e.loc=.obj a/\e.sync=false/\((∃b,r b=some a/\(e.write=true->¬gq.ro b))\/(w.heap.size<=a/\a<u)))\/
 (∃m,e.loc=.mark m/\(m=.noRoom\/∃f,m=.extern f))\/e.loc=.output
theorem lN.mono{u':Nat}(D:u<=u'){e:aL}(h:lN r w u e):lN r w u' e:=by
 rcases h with⟨a,Y,K,H⟩|⟨a,Y,K,H⟩|h
 ·exact .inl ⟨a,Y,K,H.imp id fun x=>⟨x.1,bp x.2 D⟩⟩
 ·exact .inr (.inl ⟨a,Y,K,H.imp id fun x=>⟨x.1,bp x.2 D⟩⟩)
 ·exact .inr (.inr h)
theorem lN.back{r1:Rn}{c1:Nat}{w1:ae}(o:Out r r1 c c1 v w v1 w1)(R:w1.heap.size<=u){e:aL}(h:lN r1 w1 u e):lN r w u e:=by
 have key:∀(a:Nat) (wr:Bool),((∃b,r1 b=some a/\(wr=true->¬gq.ro b))\/(w1.heap.size<=a/\a<u))->(∃b,r b=some a/\(wr=true->¬gq.ro b))\/(w.heap.size<=a/\a<u):=by
  rintro a wr (⟨b,Y,hw⟩|Y)
  ·rcases o.fresh b a Y with x|x
   ·exact .inl ⟨b,x,hw⟩
   ·exact .inr ⟨x.1,bp (o.wl.lt Y).2 R⟩
  ·exact .inr ⟨aD o.grow Y.1,Y.2⟩
 rcases h with⟨a,K,H,D⟩|⟨a,K,H,D⟩|h
 ·exact .inl ⟨a,K,H,key _ _ D⟩
 ·exact .inr (.inl ⟨a,K,H,key _ _ D⟩)
 ·exact .inr (.inr h)
inductive RR{α:Type}(A:Rn->α->α->Prop)(r:Rn)(c:Nat)(es:Array aL)(v w:ae):Result α->Result α×Array aL->Prop
 |ok {a a':α} {v1 w1:ae} {fs:Array aL} (r1:Rn) (c1:Nat):Out r r1 c c1 v w v1 w1->A r1 a a'->(∀e∈fs,e∈es\/lN r w w1.heap.size e)->RR A r c es v w (.ok a v1) (.ok a' w1,fs)
 |halt {h h':Halt} {v1 w1:ae} {fs:Array aL} (r1:Rn) (c1:Nat):Out r r1 c c1 v w v1 w1->Hl r1 h h'->(∀e∈fs,e∈es\/lN r w w1.heap.size e)->RR A r c es v w (.halt h v1) (.halt h' w1,fs)
 |lost {h:Halt} {v1:ae} {x:Result α×Array aL}:rq h->RR A r c es v w (.halt h v1) x
 |lq {x:Result α} {y:Result α×Array aL}:v.drawn+c<x.world.drawn->w.drawn+c<y.1.world.drawn->RR A r c es v w x y
theorem RR.after{α:Type}{A:Rn->α->α->Prop}{r1:Rn}{c1:Nat}{es Y:Array _}{w1:ae}{x:Result α}{x':Result α×Array _}(o:Out r r1 c c1 v w v1 w1)(K:∀e∈Y,e∈es\/lN r w 0 e)(h:RR A r1 c1 Y v1 w1 x x'):RR A r c es v w x x':=by
 have ev:∀{fs:Array _} {u:Nat},w1.heap.size<=u->(∀e∈fs,e∈Y\/lN r1 w1 u e)->∀e∈fs,e∈es\/lN r w u e:=fun D k e H=>(k e H).elim (fun x=>(K e x).imp id fun y=>y.mono (bg _)) fun x=>.inr (x.back o D);cases h with
 |ok r2 c2 o2 a f=>exact .ok r2 c2 (o.trans o2) a (ev o2.grow f)
 |halt r2 c2 o2 a f=>exact .halt r2 c2 (o.trans o2) a (ev o2.grow f)
 |lost h=>exact .lost h
 |lq h k=>exact .lq (by have:=o.drew;omega) (by have:=o.yH;omega)
theorem RR.stuck{α:Type}{A:Rn->α->α->Prop}{es:Array _}(y:String){x:Result α×Array _}:RR A r c es v w (.halt (.stuck y) v) x:=.lost (.inr ⟨_,rfl⟩)
theorem RR.here{α:Type}{A:Rn->α->α->Prop}{es Y:Array _}{x:Result α}{x':Result α×Array _}(h:W r c v w)(K:∀e∈Y,e∈es\/lN r w 0 e)(k:RR A r c Y v w x x'):RR A r c es v w x x':=k.after (.refl h) K
omit [gq]in
theorem mem_push{es:Array _}{e x:aL}(h:x∈es.push e):x∈es\/x=e:=Array.mem_push.1 h
omit [gq]in
theorem z_{es:Array _}{Q:aL->Prop}:∀e∈es,e∈es\/Q e:=fun _ h=>.inl h
theorem SR.run{α:Type}{A:Rn->α->α->Prop}(g:DZ P){s s':Sem α}(h:SR P A r s s'):∀{c:Nat} {v w:ae} (es:Array aL),W r c v w->RR A r c es v w (s.run P v) (s'.runT P w es):=by
 induction h with
 |pure a=>exact fun es hw=>.ok _ _ (.refl hw) a z_
 |@load r a a' k k' D _ Y=>
  intro c v w es hw;simp only[Sem.run,aX];cases L:v.cell? a with
  |some x=>
   obtain⟨x',G,J⟩:=hw.cell D L;rw[G];refine(Y r x x' (.refl _) J _ hw).here hw fun e K=>?_;rcases mem_push K with K|rfl
   ·exact .inl K
   ·exact .inr (.inl ⟨a',rfl,rfl,.inl ⟨_,D.block,fun x=>by cases x⟩⟩)
  |none=>
   rw[hw.noCell D L];have X:(Mode.plain==Mode.atomic)=false:=rfl;simp only[X];rcases hw.farLoad g D with⟨y,e,M⟩|⟨x,l,l',e,e',J,j⟩
   ·rw[e];exact .lost M
   ·rw[e,e'];simp only;refine(Y r x x (.refl _) J _ hw).here hw fun z R=>?_;rcases dM.1 R with R|R
    ·exact .inl R
    ·simp only[dO,eX]at R;obtain⟨y,N,rfl⟩:=R;obtain⟨b,C⟩:=j y N;exact .inr (.inl ⟨y,rfl,rfl,.inl ⟨b,C,fun x=>by cases x⟩⟩)
 |@store r a a' x x' k k' D Q _ Y=>
  intro c v w es hw;have main:(∀c,x≠.agg c)->(∀c,x≠.tuple c)->(∀c,x'≠.agg c)->(∀c,x'≠.tuple c)->RR A r c es v w ((Sem.store .plain a x k).run P v) ((Sem.store .plain a' x' k').runT P w es):=by
   intro n1 n2 n3 n4;have T:=Sem.run.eq_5 P v .plain a x k n1 n2;have V:=Sem.runT.eq_5 P w es .plain a' x' k' n3 n4;rw[T,V];cases L:v.cell? a with
   |some y=>
    obtain⟨I,f,_⟩:=hw.cell D L;rw[f];simp only;by_cases H:gq.ro a.block
    ·rw[hw.abw D H L];exact .lost (.inl ⟨_,rfl,rfl⟩)
    ·rw[hw.frozen D H];split
     ·exact .lost (.inl ⟨_,rfl,rfl⟩)
     ·refine(Y r (.refl _) _ (Out.setCell hw D H Q).wl).after (Out.setCell hw D H Q) fun e K=>?_;rcases mem_push K with K|rfl
      ·exact .inl K
      ·exact .inr (.inl ⟨a',rfl,rfl,.inl ⟨_,D.block,fun _=>H⟩⟩)
   |none=>
    rw[hw.noCell D L];have X:(Mode.plain==Mode.atomic)=false:=rfl;simp only[X];rcases hw.farStore P D Q with⟨y,e,M⟩|⟨b,b',o,o',l,l',H,C,U,e,e',j⟩
    ·rw[e];exact .lost M
    ·rw[e,e'];simp only;refine(Y r (.refl _) _ (Out.set hw C H U).wl).after (Out.set hw C H U) fun z R=>?_;rcases dM.1 R with R|R
     ·exact .inl R
     ·simp only[dO,eX]at R;obtain⟨y,N,rfl⟩:=R;exact .inr (.inl ⟨y,rfl,rfl,.inl ⟨b,by rw[j y N];exact C,fun _=>H⟩⟩)
  cases Q with
  |agg _ _=>exact .stuck _
  |tuple _ _=>exact .stuck _
  |blank _=>exact .stuck _
  |_=>exact main (fun _ h=>by cases h) (fun _ h=>by cases h) (fun _ h=>by cases h) (fun _ h=>by cases h)
 |@new r o o' k k' U _ Y=>
  intro c v w es hw;simp only[Sem.run,aX];have q:=Out.new hw U;exact(Y _ _ _ q.le (by show(if v.heap.size=v.heap.size then some w.heap.size else r v.heap.size)=_;rw[if_pos rfl]) es q.wl).after q z_
 |@shape r b b' k k' e _ Y=>
  intro c v w es hw;simp only[Sem.run,aX,hw.shape e];exact Y r _ (.refl _) es hw
 |@freeze r a a' n k k' z D _ Y=>
  intro c v w es hw;simp only[Sem.run,aX];exact(Y r (.refl _) es (Out.freeze hw D (z _) n).wl).after (Out.freeze hw D (z _) n) z_
 |@frozen r a a' k k' z D _ Y=>
  intro c v w es hw;simp only[Sem.run,aX,hw.frozen D (z _)];exact Y r _ (.refl _) es hw
 |@getObj r b b' k k' e _ Y=>
  intro c v w es hw;obtain⟨o,o',Z,E,B⟩:=hw.obj _ _ e;simp only[Sem.run,aX,Z,E];cases B with
  |ro S n J C=>exact .stuck _
  |same n B=>
   have go:∀{p p':Obj},O r p p'->p'.isChan=false->RR A r c es v w ((k p).run P v) ((k' p').runT P w (es.push ⟨.obj b',false,p'.isChan⟩)):=by
    intro p p' hp F;refine(Y r _ _ (.refl _) hp _ hw).here hw fun x K=>?_;rcases mem_push K with K|rfl
    ·exact .inl K
    ·exact .inr (.inr (.inl ⟨b',rfl,F,.inl ⟨_,e,fun x=>by cases x⟩⟩))
   cases B with
   |cells S fz J=>exact .stuck _
   |map u hs hi=>exact go (.map u hs hi) rfl
   |stringIter s p=>exact go (.stringIter s p) rfl
   |qm a s n=>exact go (.qm a s n) rfl
   |mapIter a s n e=>exact go (.mapIter a s n e) rfl
   |loop l=>exact go (.loop l) rfl
   |view t n a=>exact go (.view t n a) rfl
   |number l a=>exact go (.number l a) rfl
   |deferred d=>exact go (.deferred d) rfl
 |@setObj r b b' o o' k k' e U _ Y=>
  intro c v w es hw;obtain⟨p,p',Z,E,B⟩:=hw.obj _ _ e;simp only[Sem.run,aX,Z,E];have F:o'.isChan=false:=by cases U<;>rfl
  cases B with
  |ro S n J C=>exact .stuck _
  |same n B=>
   have go:RR A r c es v w (k.run P {v with heap:=v.heap.setIfInBounds b o}) (k'.runT P {w with heap:=w.heap.setIfInBounds b' o'} (es.push ⟨.obj b',true,o'.isChan⟩)):=by
    refine(Y r (.refl _) _ (Out.set hw e n U).wl).after (Out.set hw e n U) fun x K=>?_;rcases mem_push K with K|rfl
    ·exact .inl K
    ·exact .inr (.inr (.inl ⟨b',rfl,F,.inl ⟨_,e,fun _=>n⟩⟩))
   cases B with
   |cells S fz J=>exact .stuck _
   |_=>exact go
 |@choose r q k k' _ Y=>
  intro c v w es hw;simp only[Sem.run,aX];split
  ·exact Y r _ (.refl _) es hw
  ·cases c with
   |zero=>
    refine .lq ?_ ?_
    ·exact bp (fb _) (Ch (P:=P) (k (q.cut (v.tape v.drawn q))) {v with drawn:=v.drawn+1})
    ·rw[Sem.runT_eq];exact bp (fb _) (Ch (P:=P) (k' (q.cut (w.tape w.drawn q))) {w with drawn:=w.drawn+1})
   |succ c=>
    have:=hw.tape 0 q (by omega);simp only[Nat.add_zero]at this;rw[<-this];exact(Y r _ (.refl _) es (Out.draw hw).wl).after (Out.draw hw) z_
 |@env r k k' _ Y=>
  intro c v w es hw;have T:(Sem.sys .env k).run P v=(k (.strings v.os.env)).run P v:=rfl;have V:(Sem.sys .env k').runT P w es=(k' (.strings w.os.env)).runT P w (es.push ⟨.output,true,false⟩):=rfl;rw[T,V,hw.env];refine(Y r _ (.refl _) _ hw).here hw fun e K=>?_;rcases mem_push K with K|rfl
  ·exact .inl K
  ·exact .inr (.inr (.inr (.inr rfl)))
 |program _ Y=>exact fun es hw=>Y _ (.refl _) es hw
 |mark m N _ Y=>
  intro c v w es hw;simp only[Sem.run,aX];refine(Y _ (.refl _) _ hw).here hw fun e K=>?_;rcases mem_push K with K|rfl
  ·exact .inl K
  ·exact .inr (.inr (.inr (.inl ⟨m,rfl,N⟩)))
 |halt i=>exact fun es hw=>.halt _ _ (.refl hw) i z_
 |lost M=>
  intro c v w es hw;obtain⟨x,v1,e,h⟩:=M v;rw[e];exact .lost h
end runs
end jc
abbrev ie[gq]{α:Type}:Rn->α->α->Prop:=fun _ a b=>a=b
def qC[gq](P:aj):=∀t i z,P.info? t=some i->i.zero=some z->∀r,V r z z
section
variable[gq]{P:aj}{r:Rn}{α:Type}{A:Rn->α->α->Prop}
theorem gy(Y:String){s:Sem α}:SR P A r (stuck Y) s:=.lost fun _=>⟨_,_,rfl,.inr ⟨_,rfl⟩⟩
theorem ig(u:Unsupported)(Y:C1 u=false:=by rfl){s:Sem α}:SR P A r (cE u) s:=.lost fun _=>⟨_,_,rfl,.inl ⟨_,rfl,Y⟩⟩
theorem vM{v:af}(h:V r v v'):SR P A r (goPanic v) (goPanic v'):=.halt (.panic h)
theorem mK:SR P (fun _ a b=>a=P/\b=P) r program program:=.program fun _ _=>.pure ⟨rfl,rfl⟩
theorem qY(q:Question):SR P ie r (choose q) (choose q):=.choose q fun _ _ _=>.pure rfl
theorem CP(h:Ad r a a'):SR P V r (load a) (load a'):=.load h fun _ _ _ _ e=>.pure e
theorem abx(h:Ad r a a'){v:af}(Y:V r v v'):SR P ie r (store a v) (store a' v'):=.store h Y fun _ _=>.pure rfl
theorem v_(h:O r o o'):SR P (fun r b b'=>r b=some b') r (newObj o) (newObj o'):=.new h fun _ _ _ _ e=>.pure e
theorem pH(h:r b=some b'):SR P ie r (shape b) (shape b'):=.shape h fun _ _ _=>.pure rfl
theorem Ci(z:∀b,¬gq.ro b)(h:Ad r a a'):SR P ie r (frozen a) (frozen a'):=.frozen z h fun _ _ _=>.pure rfl
theorem N6(z:∀b,¬gq.ro b)(h:Ad r a a')(n:Nat):SR P ie r (freeze a n) (freeze a' n):=.freeze n z h fun _ _=>.pure rfl
theorem oz(h:r b=some b'):SR P O r (getObj b) (getObj b'):=.getObj h fun _ _ _ _ e=>.pure e
theorem t_(h:r b=some b')(Y:O r o o'):SR P ie r (setObj b o) (setObj b' o'):=.setObj h Y fun _ _=>.pure rfl
theorem Gh(n:Nat):SR P ie r (br n) (br n):=by
 unfold br;split
 ·exact .mark _ (.inl rfl) fun _ _=>.pure rfl
 ·exact .pure rfl
theorem qW(t:ah):SR P (fun _ i j=>i=j/\P.info? t=some i) r (aM t) (aM t):=by
 refine SR.bind mK ?_;rintro s p q _ ⟨Y,K⟩;rw[Y,K];cases h:P.info? t with
 |some i=>exact .pure ⟨rfl,rfl⟩
 |none=>exact gy _
theorem kg(t:ah):SR P ie r (underlying t) (underlying t):=by
 refine SR.bind mK ?_;rintro s p q _ ⟨Y,K⟩;rw[Y,K];cases h:P.underlying t with
 |some i=>exact .pure rfl
 |none=>exact gy _
theorem mM(t:ah):SR P ie r (sizeOf t) (sizeOf t):=by
 refine SR.bind (qW t) ?_;rintro s i _ _ ⟨rfl,_⟩;exact .pure rfl
theorem vU(Z:qC P)(t:ah):SR P V r (zeroValue t) (zeroValue t):=by
 refine SR.bind (qW t) ?_;rintro s i _ _ ⟨rfl,h⟩;cases Y:i.zero with
 |some z=>exact .pure (Z t i z h Y s)
 |none=>exact ig _
theorem O7(t:ah):SR P ie r (isAgg t) (isAgg t):=by
 refine SR.bind (kg t) ?_;rintro s d _ _ rfl;split<;>exact .pure rfl
theorem Gx(t:ah):SR P ie r (elemOf t) (elemOf t):=by
 refine SR.bind (kg t) ?_;rintro s d _ _ rfl;split
 ·exact .pure rfl
 ·exact gy _
theorem Ad.add(h:Ad r a a')(n:Nat):Ad r (a.add n) (a'.add n):=by
 unfold Addr.add;split
 ·exact h
 ·exact⟨h.block,by simp[h.off],rfl⟩
theorem VA.push{c c':Array _}(h:VA r c c')(H:V r x x'):VA r (c.push x) (c'.push x'):=by
 refine⟨by simp[h.size],fun i y I e e'=>?_⟩;have K:=h.size;rw[bE]at e e';rw[<-K]at e';split at e
 ·simp_all
 ·rename_i Y;rw[if_neg Y]at e';exact h.at_ i y I e e'
theorem VA.nil:VA r #[] #[]:=⟨rfl,fun i x x' e=>by simp⟩
theorem VA.extract{c c':Array _}(h:VA r c c')(i j:Nat):VA r (c.extract i j) (c'.extract i j):=by
 have Y:=h.size;refine⟨by simp[Y],fun k x x' e e'=>?_⟩;simp only[Array.getElem?_extract,Y]at e e';split at e
 ·rename_i hk;rw[if_pos hk]at e';exact h.at_ _ x x' e e'
 ·cases e
theorem L8:∀n i {r:Rn} {a a':Addr} {c c':Array _},Ad r a a'->VA r c c'->SR P VA r (akK a i n c) (akK a' i n c')
 |0,i,r,a,a',c,c',h,Y=>.pure Y
 |n+1,i,r,a,a',c,c',h,Y=>by
  refine SR.bind (CP (h.add i)) ?_;intro s v v' l K;exact L8 n _ (h.mono l) ((Y.mono l).push K)
theorem FZ(n:Nat)(h:Ad r a a'):SR P VA r (loadCells a n) (loadCells a' n):=L8 n 0 h .nil
inductive VL(r:Rn):List af->List af->Prop
 |nil:VL r [] []
 |cons {x y:af} {xs ys:List af}:V r x y->VL r xs ys->VL r (x::xs) (y::ys)
theorem VL.mono{s:Rn}(h:Le r s){xs ys:List _}(k:VL r xs ys):VL s xs ys:=by
 induction k with
 |nil=>exact .nil
 |cons x _ Y=>exact .cons (x.mono h) Y
theorem VA.toList{c c':Array _}(h:VA r c c'):VL r c.toList c'.toList:=by
 obtain⟨c⟩:=c;obtain⟨c'⟩:=c';obtain⟨Y,K⟩:=h;induction c generalizing c' with
 |nil=>cases c' with
  |nil=>exact .nil
  |cons y ys=>simp at Y
 |cons x xs H=>cases c' with
  |nil=>simp at Y
  |cons y ys=>exact .cons (K 0 x y rfl rfl) (H ys (by simpa using Y) fun i a b e e'=>K (i+1) a b (by simpa using e) (by simpa using e'))
theorem VL.toArray{xs ys:List _}(h:VL r xs ys):VA r xs.toArray ys.toArray:=by
 induction h with
 |nil=>exact .nil
 |cons x _ H=>
  obtain⟨K,Y⟩:=H;simp at K Y;refine⟨by simp_all,fun i a b e e'=>?_⟩;simp at e e';cases i with
  |zero=>simp at e e';simp_all
  |succ i=>exact Y i a b e e'
theorem xU:∀{xs ys:List _} i {r:Rn} {a a':Addr},Ad r a a'->VL r xs ys->SR P ie r (cD a xs i) (cD a' ys i)
 |_,_,i,r,a,a',h,.nil=>.pure rfl
 |_,_,i,r,a,a',h,.cons x xs=>by
  refine SR.bind (abx (h.add i) x) ?_;intro s _ _ l _;exact xU _ (h.mono l) (VL.mono l xs)
theorem V.cells{x y:af}(h:V r x y):VA r x.cells y.cells:=by
 have one:∀{x y:af},V r x y->VA r _ _:=fun h=>(VL.toArray (.cons h .nil));cases h with
 |agg K Y=>exact⟨K,Y⟩
 |blank h=>
  have e:y.cells=#[y]:=by cases y<;>first|rfl|simp[Hid]at h
  rw[e];exact one (.blank h)
 |func a b c d e=>exact one (.func a b c d e)
 |tuple K Y=>exact one (.tuple K Y)
 |iface t h=>exact one (.iface t h)
 |ptr a=>exact one (.ptr a)
 |slice l c a=>exact one (.slice l c a)
 |map e=>exact one (.map e)
 |chan e=>exact one (.chan e)
 |bool b=>exact one (.bool b)
 |int k n=>exact one (.int k n)
 |string s=>exact one (.string s)
 |nilPtr=>exact one .nilPtr
 |kJ l c=>exact one (.kJ l c)
 |oD=>exact one .oD
 |pM=>exact one .pM
 |nilFunc=>exact one .nilFunc
 |nilIface=>exact one .nilIface
theorem Nr(t:ah)(h:Ad r a a'):SR P V r (loadVar t a) (loadVar t a'):=by
 refine SR.bind (O7 t) ?_;rintro s b _ l rfl;split
 ·refine SR.bind (mM t) ?_;rintro u n _ K rfl;refine SR.bind (FZ n ((h.mono l).mono K)) ?_;intro q c c' _ Y;exact .pure (.agg Y.size Y.at_)
 ·exact CP (h.mono l)
theorem Xl(t:ah)(h:Ad r a a')(Y:V r x x'):SR P ie r (storeVar t a x) (storeVar t a' x'):=by
 refine SR.bind (mM t) ?_;rintro s n _ l rfl;rw[Y.cells.size];split
 ·refine SR.bind (gy (A:=ie) _) ?_;rintro u _ _ K rfl;exact xU 0 ((h.mono l).mono K) ((Y.cells.toList.mono l).mono K)
 ·exact xU 0 (h.mono l) (Y.cells.toList.mono l)
theorem vx(t:ah){c c':Array _}(h:VA r c c'):SR P Ad r (newRow t c) (newRow t c'):=by
 refine SR.bind (v_ (.cells t _ h)) ?_;intro s b b' l e;exact .pure ⟨e,rfl,rfl⟩
theorem Gy(t:ah)(h:V r x x'):SR P Ad r (newVar t x) (newVar t x'):=vx t h.cells
theorem CQ(t:ah){c c':Array _}(h:VA r c c')(o:Nat):SR P V r (part t c o) (part t c' o):=by
 refine SR.bind (O7 t) ?_;rintro s b _ l rfl;split
 ·refine SR.bind (mM t) ?_;rintro u n _ H rfl;have q:=((h.mono l).mono H).extract o (o+n);exact .pure (.agg q.size q.at_)
 ·cases Y:c[o]? with
  |some x=>
   obtain⟨x',e,K⟩:=h.get Y;rw[e];exact .pure (K.mono l)
  |none=>exact gy _
end
section
variable[gq]{P:aj}{r:Rn}{α:Type}{A:Rn->α->α->Prop}
theorem VA.one(h:V r x y):VA r #[x] #[y]:=(VL.toArray (.cons h .nil))
theorem VA.two(h:V r x y)(h':V r x' I):VA r #[x,x'] #[y,I]:=(VL.toArray (.cons h (.cons h' .nil)))
theorem VA.three{x2 y2:af}(h:V r x y)(h':V r x' I)(Y:V r x2 y2):VA r #[x,x',x2] #[y,I,y2]:=(VL.toArray (.cons h (.cons h' (.cons Y .nil))))
theorem V.Dn{c c':Array _}(h:VA r c c'):V r (.agg c) (.agg c'):=.agg h.size h.at_
theorem V.rR{c c':Array _}(h:VA r c c'):V r (.tuple c) (.tuple c'):=.tuple h.size h.at_
def O8:dk->Prop
 |.bounds .. |.error _|.plain _|.nilDeref=>True
 |_=>False
theorem mh{e:dk}(h:O8 e):SR P A r (bC e) (bC e):=by
 refine SR.bind mK ?_;rintro s p q _ ⟨Y,K⟩;rw[Y,K];cases e with
 |bounds x y sg c=>exact vM (.iface _ (.Dn (VL.toArray (.cons (.int _ _) (.cons (.int _ _) (.cons (.bool _) (.cons (.int _ _) .nil)))))))
 |error m=>exact vM (.iface _ (.string _))
 |plain m=>exact vM (.iface _ (.string _))
 |nilDeref=>exact vM (.iface _ (.string _))
 |typeAssertion=>exact h.elim
 |panicNil=>exact h.elim
 |unhashable=>exact h.elim
theorem zK(k:aB)(x y:Int)(c:cI):SR P A r (bB k x y c) (bB k x y c):=by
 unfold bB;split
 ·refine SR.bind (A:=ie) (SR.bind (qY _) fun s a b _ e=>e▸ .pure rfl) ?_;rintro s a _ _ rfl;exact mh trivial
 ·refine SR.bind (A:=ie) (.pure rfl) ?_;rintro s a _ _ rfl;exact mh trivial
theorem Cb(h:V r x x'):SR P ie r (asIntOf x) (asIntOf x'):=by
 cases h with
 |int k n=>exact .pure rfl
 |ptr a=>exact ig _
 |_=>exact gy _
theorem yh(h:V r x x'):SR P ie r (asInt x) (asInt x'):=by
 exact SR.bind (Cb h) fun s a b _ e=>e▸ .pure rfl
theorem N7(h:V r x x'):SR P ie r (asBool x) (asBool x'):=by
 cases h with
 |bool b=>exact .pure rfl
 |_=>exact gy _
theorem aby(h:V r x x'):SR P VA r (asAgg x) (asAgg x'):=by
 cases h with
 |agg s i=>exact .pure ⟨s,i⟩
 |_=>exact gy _
theorem N8(h:V r x x'):SR P Ad r (asAddr x) (asAddr x'):=by
 cases h with
 |ptr a=>exact .pure a
 |nilPtr=>exact mh (e:=.nilDeref) trivial
 |_=>exact gy _
theorem zQ(h:V r x x'):SR P Ad r (eN x) (eN x'):=by
 cases h with
 |ptr a=>exact .pure a
 |_=>exact gy _
theorem afN(t:ah)(h:V r x x'):SR P V r (Instr.box t x) (Instr.box t x'):=
 SR.bind (Gy t h) fun s a b _ e=>.pure (.ptr e)
theorem abz(Z:qC P)(t:ah):SR P V r (Instr.alloc t true (.tuple #[])) (Instr.alloc t true (.tuple #[])):=by
 refine SR.bind (vU Z t) fun s a b _ e=>?_;exact SR.bind (Gy t e) fun s a b _ e=>.pure (.ptr e)
theorem ZN(t:ah)(h:V r x x'):SR P V r (eC t x) (eC t x'):=
 SR.bind (zQ h) fun s a b _ e=>Nr t e
theorem Yu(t:ah)(h:V r x x')(Y:V r y I):SR P ie r (eM t x y) (eM t x' I):=
 SR.bind (zQ h) fun s a b l e=>Xl t e (Y.mono l)
theorem Yv(h:V r x x')(i:Nat):SR P V r (cS x i) (cS x' i):=by
 cases h with
 |tuple s K=>
  rename_i c c';have q:VA r c c':=⟨s,K⟩;simp[cS];cases Y:c[i]? with
  |some y=>obtain⟨I,e,H⟩:=q.get Y;rw[e];exact .pure H
  |none=>exact gy _
 |_=>exact gy _
theorem VS(t:ah)(h:V r x x'):SR P V r (eE t x) (eE t x'):=by
 refine SR.bind (kg t) ?_;rintro s d _ l rfl;split
 ·exact gy _
 ·exact .pure (.iface t (h.mono l))
theorem abA(t:ah)(h:V r x x')(i:Nat):SR P V r (Instr.field t x i) (Instr.field t x' i):=by
 refine SR.bind (kg t) ?_;rintro s d _ l rfl;split
 ·split
  ·exact SR.bind (aby (h.mono l)) fun _ _ _ _ e=>CQ _ e _
  ·exact gy _
 ·exact gy _
theorem abB(t:ah)(h:V r x x')(R:V r y I):SR P V r (Instr.index t x y) (Instr.index t x' I):=by
 refine SR.bind (Cb R) ?_;rintro s ⟨k,i⟩ _ l rfl;refine SR.bind (kg t) ?_;rintro u d _ A rfl;have K:=(h.mono l).mono A;cases d with
 |array len Y=>
  cases K with
  |agg D H=>
   simp only;split
   ·exact SR.bind (mM _) fun w a b U e=>e▸CQ _ (VA.mono U ⟨D,H⟩) _
   ·exact zK ..
  |_=>exact gy _
 |string=>
  cases K with
  |string b=>
   simp only;split
   ·exact .pure (.int _ _)
   ·exact zK ..
  |_=>exact gy _
 |_=>exact gy _
def VW(r:Rn)(x y:Option (Addr×ah)):=(x=none/\y=none)\/∃a a' t,x=some (a,t)/\y=some (a',t)/\Ad r a a'
theorem Cj(h:r b=some b'):SR P VW r (viewAt b) (viewAt b'):=by
 refine SR.bind (pH h) ?_;rintro s x _ l rfl;split
 ·exact .pure (.inl ⟨rfl,rfl⟩)
 ·refine SR.bind (oz (l _ _ h)) ?_;intro u o o' _ Y;cases Y with
  |view t n a=>exact .pure (.inr ⟨_,_,_,rfl,rfl,a⟩)
  |_=>exact .pure (.inl ⟨rfl,rfl⟩)
theorem Gz(h:Ad r a a'):SR P ie r (noView a) (noView a'):=by
 refine SR.bind (Cj h.block) ?_;rintro s x y l (⟨rfl,rfl⟩|⟨_,_,_,rfl,rfl,_⟩)
 ·exact .pure rfl
 ·exact ig _
theorem vy(h:Ad r a a'):SR P ie r (byteOf a) (byteOf a'):=by
 unfold byteOf;rw[h.spot,h.off];dsimp only;split
 ·exact .pure rfl
 ·refine SR.bind mK ?_;rintro s p q l ⟨Y,K⟩;rw[Y,K];refine SR.bind (Gz (h.mono l)) ?_;rintro u _ _ H _;refine SR.bind (pH ((h.mono l).mono H).block) ?_;rintro w x _ D rfl;split
  ·split
   ·exact .pure rfl
   ·split
    ·exact .pure rfl
    ·exact gy _
  ·exact gy _
theorem ZO(h:Ad r a a')(c b:Nat):SR P Ad r (partAt a c b) (partAt a' c b):=by
 refine SR.bind (vy h) ?_;rintro s x _ l rfl;have Y:Ad s {block:=a.block,off:=a.off+c} {block:=a'.block,off:=a'.off+c}:=⟨l _ _ h.block,by simp[h.off],rfl⟩;refine SR.bind (vy Y) ?_;rintro u y _ K rfl;split
 ·exact .pure (Y.mono K)
 ·exact .pure ⟨K _ _ Y.block,Y.off,rfl⟩
theorem Wn(h:Ad r a a')(f:Field):SR P Ad r (fieldPlace a f) (fieldPlace a' f):=by
 refine SR.bind (mM _) ?_;rintro s n _ l rfl;split
 ·exact ZO (h.mono l) _ _
 ·exact .pure ((h.mono l).add _)
theorem Yw(t:ah)(h:V r x x')(i:Nat):SR P V r (ez t x i) (ez t x' i):=by
 refine SR.bind (kg t) ?_;rintro s d _ l rfl;split
 ·split
  ·refine SR.bind (zQ (h.mono l)) fun u a b Y e=>?_;exact SR.bind (Wn e _) fun w a b _ e=>.pure (.ptr e)
  ·exact gy _
 ·exact gy _
theorem Mz(t Y:ah)(k:aB)(i:Int)(len:Nat)(h:Ad r a a')(f:bq->Bool):
  SR P V r (do let d<-underlying t;if 0<=i/\i<len then(do let n<-sizeOf Y;pure (bA (some (a.add (i.toNat *n)))))else if(decide (len<=1)&&f d)=true then cE (.noEntry "op/indexAddr.an index out of range at an array of length 0 or 1 (ledger 616)")else bB k i len .index)
   (do let d<-underlying t;if 0<=i/\i<len then(do let n<-sizeOf Y;pure (bA (some (a'.add (i.toNat *n)))))else if(decide (len<=1)&&f d)=true then cE (.noEntry "op/indexAddr.an index out of range at an array of length 0 or 1 (ledger 616)")else bB k i len .index):=by
 refine SR.bind (kg t) ?_;rintro s d _ l rfl;split
 ·refine SR.bind (mM _) ?_;rintro u n _ K rfl;exact .pure (.ptr (((h.mono l).mono K).add _))
 ·split
  ·exact ig _
  ·exact zK ..
theorem Yx(t:ah)(h:V r x x')(H:V r y I):SR P V r (eB t x y) (eB t x' I):=by
 refine SR.bind (Cb H) ?_;rintro s ⟨k,i⟩ _ l rfl;refine SR.bind (kg t) ?_;rintro u d _ D rfl;have K:=(h.mono l).mono D;cases d with
 |array len Y=>
  refine SR.bind (zQ K) fun w a b R e=>?_;exact Mz t _ k i len e _
 |slice Y=>
  cases K with
  |slice len cap e=>exact Mz t _ k i len e _
  |kJ len cap=>
   show SR P V u (underlying t >>= fun _=>bB k i 0 _) _
   exact SR.bind (kg t) fun _ _ _ _ _=>zK ..
  |_=>exact SR.lost fun _=>⟨_,_,rfl,.inr ⟨_,rfl⟩⟩
 |_=>exact SR.lost fun _=>⟨_,_,rfl,.inr ⟨_,rfl⟩⟩
theorem Wo(h:V r x x')(y:Nat)(c:cI):SR P ie r (cg x y c) (cg x' y c):=by
 refine SR.bind (Cb h) ?_;rintro s ⟨k,i⟩ _ l rfl;dsimp only;split
 ·exact .pure rfl
 ·exact zK ..
inductive VO(r:Rn):Option af->Option af->Prop
 |none:VO r none none
 |some {x y:af}:V r x y->VO r (some x) (some y)
theorem VO.mono{s:Rn}(h:Le r s){x y:Option _}(k:VO r x y):VO s x y:=by
 cases k with
 |none=>exact .none
 |some e=>exact .some (e.mono h)
theorem VO.isSome{x y:Option _}(k:VO r x y):y.isSome=x.isSome:=by cases k<;>rfl
theorem zL(b:Bool)(len cap:Nat){J D F H M R:Option _}(N:VO r J D)(C:VO r F H)(U:VO r M R):
  SR P ie r (eL b len cap J F M) (eL b len cap D H R):=by
 have step:∀{I:Type} {B:Rn->I->I->Prop} {s:Rn} {x x':af} (l:Le r s) (h:V r x x') (y:Nat) (c:cI) {f f':Nat->Sem I},(∀t n,Le r t->SR P B t (f n) (f' n))->
   SR P B s (cg x y c >>= f) (cg x' y c >>= f'):=
  by
  intro I B s x x' l h y c f f' k;refine SR.bind (Wo (h.mono l) y c) fun t a b lt e=>?_;obtain rfl:a=b:=e;exact k t a (l.trans lt)
 cases N with
 |none=>cases C with
  |none=>cases U with
   |none=>exact .pure rfl
   |some Y=>exact step (.refl _) Y _ _ fun t n l=>SR.lost fun _=>⟨_,_,rfl,.inr ⟨_,rfl⟩⟩
  |some K=>cases U with
   |none=>exact step (.refl _) K _ _ fun t n l=>.pure rfl
   |some Y=>exact step (.refl _) Y _ _ fun t n l=>step l K _ _ fun t n l=>.pure rfl
 |some A=>cases C with
  |none=>cases U with
   |none=>exact step (.refl _) A _ _ fun t n l=>.pure rfl
   |some Y=>exact step (.refl _) Y _ _ fun t n l=>SR.lost fun _=>⟨_,_,rfl,.inr ⟨_,rfl⟩⟩
  |some K=>cases U with
   |none=>exact step (.refl _) K _ _ fun t n l=>step l A _ _ fun t n l=>.pure rfl
   |some Y=>exact step (.refl _) Y _ _ fun t n l=>step l K _ _ fun t n l=>step l A _ _ fun t n l=>.pure rfl
theorem abC(t:ah)(h:V r x x'){lo Ty hi Et mx TA:Option af}(D:VO r lo Ty)(R:VO r hi Et)(U:VO r mx TA):
  SR P V r (Instr.slice t x lo hi mx) (Instr.slice t x' Ty Et TA):=by
 refine SR.bind (kg t) ?_;rintro s d _ l rfl;have I:=h.mono l;cases d with
 |string=>
  cases I with
  |string b=>
   dsimp only;rw[U.isSome];split
   ·exact SR.lost fun _=>⟨_,_,rfl,.inr ⟨_,rfl⟩⟩
   ·refine SR.bind (zL _ _ _ (D.mono l) (R.mono l) .none) ?_;rintro u ⟨a,b,c⟩ _ Y rfl;exact .pure (.string _)
  |_=>exact gy _
 |slice H=>
  cases I with
  |slice len cap e=>
   refine SR.bind (zL _ _ _ (D.mono l) (R.mono l) (U.mono l)) ?_;rintro u ⟨a,b,c⟩ _ Y rfl;refine SR.bind (mM _) ?_;rintro w n _ K rfl;split
   ·exact .pure (.slice _ _ ((e.mono Y).mono K))
   ·exact .pure (.slice _ _ (((e.mono Y).mono K).add _))
  |kJ len cap=>
   refine SR.bind (zL _ _ _ (D.mono l) (R.mono l) (U.mono l)) ?_;rintro u ⟨a,b,c⟩ _ Y rfl;refine SR.bind (mM _) ?_;rintro w n _ K rfl;split<;>exact .pure (.kJ _ _)
  |_=>exact gy _
 |pointer arr=>
  refine SR.bind (N8 I) fun u a a' Y e=>?_;refine SR.bind (kg arr) ?_;rintro w d _ K rfl;cases d with
  |array n H=>
   refine SR.bind (zL _ _ _ (((D.mono l).mono Y).mono K) (((R.mono l).mono Y).mono K) (((U.mono l).mono Y).mono K)) ?_;rintro z ⟨a1,F,c1⟩ _ C rfl;refine SR.bind (mM _) ?_;rintro y n _ B rfl;have A:=((e.mono K).mono C).mono B;split
   ·exact .pure (.slice _ _ A)
   ·exact .pure (.slice _ _ (A.add _))
  |_=>exact gy _
 |_=>exact gy _
theorem Yy(t:ah)(h:V r x x'){M K J Y N H:Option _}(U:VO r M K)(C:VO r J Y)(F:VO r N H):
  SR P V r (eK t x M J N) (eK t x' K Y H):=by
 refine SR.bind (kg t) ?_;rintro s d _ l rfl;have A:=h.mono l;split
 ·rename_i n I;refine SR.bind (zQ A) fun u a a' D e=>?_;refine SR.bind (zL _ _ _ ((U.mono l).mono D) ((C.mono l).mono D) ((F.mono l).mono D)) ?_;rintro z ⟨a1,O,c1⟩ _ L rfl;refine SR.bind (mM _) ?_;rintro y n _ B rfl;have R:=(e.mono L).mono B;split
  ·exact .pure (.slice _ _ R)
  ·exact .pure (.slice _ _ (R.add _))
 ·exact abC t A (U.mono l) (C.mono l) (F.mono l)
end
section
variable[gq]{P:aj}{r:Rn}{α:Type}{A:Rn->α->α->Prop}
theorem VA.append{a a' b b':Array _}(h:VA r a a')(k:VA r b b'):VA r (a++b) (a'++b'):=by
 refine⟨by simp[h.size,k.size],fun i x x' e e'=>?_⟩;have K:=h.size;rw[Array.getElem?_append]at e e';rw[<-K]at e';split at e
 ·rename_i Y;rw[if_pos Y]at e';exact h.at_ i x x' e e'
 ·rename_i Y;rw[if_neg Y]at e';exact k.at_ _ x x' e e'
theorem VA.Dp{z Y:Array _}(h:VA r z Y)(n:Nat):VA r ((aY n).map (z[· %z.size]!)) ((aY n).map (Y[· %Y.size]!)):=by
 refine⟨by simp,fun i x x' e e'=>?_⟩;simp only[dK,Array.getElem?_range,dh]at e e';obtain⟨j,H,rfl⟩:=e;obtain⟨C,K,rfl⟩:=e';split at H
 ·rename_i I;rw[if_pos I]at K;obtain rfl:=Option.some.inj H;obtain rfl:=Option.some.inj K;have A:=h.size;by_cases U:z.size=0
  ·rw[getElem!_neg z _ (by omega),getElem!_neg Y _ (by omega)];exact .bool _
  have D:0<z.size:=by omega
  have R:i%z.size<z.size:=Nat.mod_lt _ D;have B:i%Y.size<Y.size:=Nat.mod_lt _ (A▸D);refine h.at_ (i%z.size) _ _ (by simp[R]) ?_;simp_all
 ·cases H
theorem VA.bytes(b:ByteArray):VA r (b.data.map fun b=>aN .u8 b.toNat) (b.data.map fun b=>aN .u8 b.toNat):=by
 refine⟨rfl,fun i x x' e e'=>?_⟩;obtain rfl:x=x':=Option.some.inj (e.symm.trans e');simp at e;obtain⟨_,_,rfl⟩:=e;exact .int _ _
theorem VA.rep(n:Nat)(h:V r x x'):VA r (bP n x) (bP n x'):=by
 refine⟨by simp,fun i y I e e'=>?_⟩;simp[Array.getElem?_replicate]at e e';simp_all
theorem Xm{fn iO:Fn}(Y:qc r fn iO){a a' c c':Array _}(h:VA r a a')(k:VA r c c'):SR P V r (eD fn a c) (eD iO a' c'):=
 .pure (.func Y h.size h.at_ k.size k.at_)
theorem Yz(t:ah){x x':Option _}(h:VO r x x'):SR P V r (eG t x) (eG t x'):=by
 have fin:∀{s:Rn},SR P V s (newObj (.map #[] 0) >>= fun b=>pure (Value.map (some b))) (newObj (.map #[] 0) >>= fun b=>pure (Value.map (some b))):=by
  refine SR.bind (v_ (.map 0 rfl fun i x x' e=>by simp)) fun _ _ _ _ e=>.pure (.map e)
 cases h with
 |none=>exact fin
 |some e=>
  refine SR.bind (kg t) ?_;rintro s d _ l rfl;cases d with
  |map key Y=>exact SR.bind (yh (e.mono l)) fun _ _ _ _ _=>fin
  |_=>exact SR.lost fun _=>⟨_,_,rfl,.inr ⟨_,rfl⟩⟩
theorem G2(h:V r x x'):SR P ie r (aZ x) (aZ x'):=by
 cases h with
 |slice l c a=>exact .pure rfl
 |kJ l c=>exact .pure rfl
 |string s=>exact .pure rfl
 |_=>exact gy _
theorem zM(size n:Nat)(h:V r x x'):SR P VA r (aI size n x) (aI size n x'):=by
 cases h with
 |slice l c a=>exact FZ _ a
 |kJ l c=>exact .pure .nil
 |string s=>exact .pure (.bytes _)
 |_=>exact gy _
theorem B5(Z:qC P)(Y:ah)(b l c:Nat):
  SR P V r (do br b;let n<-sizeOf Y;if c *n=0 then(do let zero<-pure #[];let a<-newRow Y ((aY (c *n)).map fun x=>zero[x%zero.size]!);pure (bj (some a) l c))else(do let z<-zeroValue Y;let zero<-pure z.cells;let a<-newRow Y ((aY (c *n)).map fun x=>zero[x%zero.size]!);pure (bj (some a) l c)))
   (do br b;let n<-sizeOf Y;if c *n=0 then(do let zero<-pure #[];let a<-newRow Y ((aY (c *n)).map fun x=>zero[x%zero.size]!);pure (bj (some a) l c))else(do let z<-zeroValue Y;let zero<-pure z.cells;let a<-newRow Y ((aY (c *n)).map fun x=>zero[x%zero.size]!);pure (bj (some a) l c))):=by
 refine SR.bind (Gh b) fun s _ _ l1 _=>?_;refine SR.bind (mM _) ?_;rintro s n _ l2 rfl;split
 ·exact SR.bind (.pure .nil) fun _ _ _ _ e=>SR.bind (vx _ (VA.Dp e _)) fun _ _ _ _ e=>SR.pure (V.slice _ _ e)
 ·exact SR.bind (vU Z _) fun _ _ _ _ e=>SR.bind (.pure e.cells) fun _ _ _ _ e=>SR.bind (vx _ (VA.Dp e _)) fun _ _ _ _ e=>SR.pure (V.slice _ _ e)
theorem WU(Z:qC P)(t:ah)(h:V r x x')(K:V r y I):SR P V r (bu t x y) (bu t x' I):=by
 unfold bu;refine SR.bind (kg t) ?_;rintro s d _ l rfl;cases d with
 |slice Y=>
  refine SR.bind (yh (h.mono l)) ?_;rintro s1 a _ l1 rfl;refine SR.bind (yh ((K.mono l).mono l1)) ?_;rintro R b _ l2 rfl;refine SR.bind (qW Y) ?_;rintro U i _ D ⟨rfl,H⟩;dsimp only;split
  ·split
   ·exact SR.bind (A:=ie) (mh (e:=.error _) trivial) fun _ _ _ _ _=>B5 Z Y _ _ _
   ·split
    ·exact SR.bind (A:=ie) (mh (e:=.error _) trivial) fun _ _ _ _ _=>B5 Z Y _ _ _
    ·refine SR.bind (qY _) ?_;rintro B q _ l4 rfl;exact SR.bind (A:=ie) (mh (e:=.error _) trivial) fun _ _ _ _ _=>B5 Z Y _ _ _
  ·exact B5 Z Y _ _ _
 |_=>exact gy _
theorem adw(D:Array _)(t:ah){a a':Array _}(h:VA r a a'):SR P V r (cL D t a) (cL D t a'):=by
 unfold cL;cases O:D[0]? with
 |none=>exact gy _
 |some A=>
  cases C:a[0]? with
  |none=>exact gy _
  |some x=>
   cases F:a[1]? with
   |none=>exact gy _
   |some y=>
    obtain⟨x',U,H⟩:=h.get C;obtain⟨I,B,R⟩:=h.get F;rw[U,B];refine SR.bind (kg A) ?_;rintro s d _ l rfl;cases d with
    |slice Y=>
     have H:=H.mono l;have go:∀{b b':Option _} (q:Nat),((b=none/\b'=none)\/∃c c',b=some c/\b'=some c'/\Ad s c c')->
       SR P V s (do let n<-aZ y;let K<-sizeOf Y;let cells<-aI K (Nat.min n q) y;(match b with|some c=>cD c cells.toList >>= fun _=>pure (goInt (Nat.min n q))|none=>pure (goInt (Nat.min n q))))
        (do let n<-aZ I;let K<-sizeOf Y;let cells<-aI K (Nat.min n q) I;(match b' with|some c=>cD c cells.toList >>= fun _=>pure (goInt (Nat.min n q))|none=>pure (goInt (Nat.min n q)))):=by
      intro b b' q J;refine SR.bind (G2 (R.mono l)) ?_;rintro s1 n _ l1 rfl;refine SR.bind (mM _) ?_;rintro Q K _ l2 rfl;refine SR.bind (zM _ _ (((R.mono l).mono l1).mono l2)) fun S c c' N L=>?_;rcases J with⟨rfl,rfl⟩|⟨p,p',rfl,rfl,M⟩
      ·exact .pure (.int _ _)
      ·exact SR.bind (xU 0 (((M.mono l1).mono l2).mono N) L.toList) fun _ _ _ _ _=>.pure (.int _ _)
     cases H with
     |slice q c e=>exact go q (.inr ⟨_,_,rfl,rfl,e⟩)
     |kJ q c=>exact go q (.inl ⟨rfl,rfl⟩)
     |_=>exact gy _
    |_=>exact gy _
theorem afO(H:Array _)(t:ah){a a':Array _}(h:VA r a a'):SR P V r (cM H t a) (cM H t a'):=by
 unfold cM;cases F:H[0]? with
 |none=>exact gy _
 |some I=>
  cases U:a[0]? with
  |none=>exact gy _
  |some x=>
   obtain⟨x',A,Y⟩:=h.get U;rw[A];refine SR.bind (kg I) ?_;rintro s d _ l rfl;have Y:=Y.mono l;cases d with
   |string=>cases Y with
    |string b=>exact .pure (.int _ _)
    |_=>exact gy _
   |array n e=>exact .pure (.int _ _)
   |pointer arr=>
    refine SR.bind (kg arr) ?_;rintro u d _ R rfl;cases d with
    |array n e=>exact .pure (.int _ _)
    |_=>exact gy _
   |slice D=>cases Y with
    |slice q c e=>exact .pure (.int _ _)
    |kJ q c=>exact .pure (.int _ _)
    |_=>exact gy _
   |map k e=>cases Y with
    |oD=>exact .pure (.int _ _)
    |map e=>
     refine SR.bind (oz e) fun u o o' R K=>?_;cases K with
     |map C B J=>dsimp only;rw[B];exact .pure (.int _ _)
     |_=>exact gy _
    |_=>exact gy _
   |chan a e=>cases Y with
    |pM=>exact .pure (.int _ _)
    |chan e=>
     refine SR.bind (oz e) fun u o o' R K=>?_;cases K<;>exact gy _
    |_=>exact gy _
   |_=>exact gy _
end
section
variable[gq]{P:aj}{r:Rn}{α:Type}{A:Rn->α->α->Prop}
theorem Q3(op:aH)(k:aB)(a b:Int):SR P V r (da op k a b) (da op k a b):=by
 unfold da;split<;>first|exact .pure (.int _ _)|exact gy _
theorem Q4(op:aH)(a b:Int):SR P V r (db op a b) (db op a b):=by
 unfold db;split<;>first|exact .pure (.bool _)|exact gy _
theorem Ib(op:aH)(a b:ByteArray):SR P V r (bK op a b) (bK op a b):=by
 unfold bK;split
 ·split
  ·exact ig _
  ·exact .pure (.string _)
 all_goals first|exact .pure (.bool _)|exact gy _
theorem Wp(z:∀b,¬gq.ro b)(t:ah)(s:ByteArray):SR P V r (ef t s) (ef t s):=by
 refine SR.bind (qY _) ?_;rintro u c _ l rfl;refine SR.bind (vx t ((VA.bytes s).append (.rep _ (.int _ _)))) fun u a a' l e=>?_;refine SR.bind (A:=ie) ?_ fun _ _ _ l _=>.pure (.slice _ _ (e.mono l));refine SR.bind (pH e.block) ?_;rintro u x _ l rfl;split
 ·exact N6 z (a:=⟨a.block,_,none⟩) (a':=⟨a'.block,_,none⟩) ⟨l _ _ e.block,rfl,rfl⟩ _
 ·exact .pure rfl
def AO(r:Rn)(b b':Option _):=(b=none/\b'=none)\/∃a a',b=some a/\b'=some a'/\Ad r a a'
theorem AO.mono{s:Rn}(l:Le r s){b b':Option _}(h:AO r b b'):AO s b b':=by
 rcases h with h|⟨a,a',Y,K,H⟩
 ·exact .inl h
 ·exact .inr ⟨a,a',Y,K,H.mono l⟩
theorem AO.slice{b b':Option _}(h:AO r b b')(l c:Nat):V r (.slice b l c) (.slice b' l c):=by
 rcases h with⟨rfl,rfl⟩|⟨a,a',rfl,rfl,Y⟩
 ·exact .kJ l c
 ·exact .slice l c Y
omit [gq]in
theorem ML(size K n:Nat)(b:Option Addr)(x:af)(v:ae):∃t,(bU size K n b x).run P v=.ok t v:=by
 have Y:∀(a:Addr) (m:Nat),∃t,(dX a m).run P v=.ok t v:=fun a m=>by
  unfold dX;simp only[dp,shape,Sem.run,dj];split<;>exact⟨_,rfl⟩
 unfold bU;cases b with
 |none=>
  simp only[dp,akr,dj,cH,bm,if_false];split
  ·rename_i c _ _;obtain⟨t,e⟩:=Y c (n *size);simp_all
  ·simp
 |some a=>
  obtain⟨t,e⟩:=Y a (K *size);simp only[dp,e,frozen,Sem.run,akr,dj];split
  ·simp
  ·split
   ·rename_i c _ _;obtain⟨t,e⟩:=Y c (n *size);simp_all
   ·simp
theorem VA.tq{z Y:Array _}(h:VA r z Y)(n:Nat):VA r (bH z n) (bH Y n):=by
 unfold bH;rw[<-h.size];have:=h.Dp (n *z.size);rw[<-h.size]at this;omega
theorem ik{c:Prop}[Decidable c]{x x' y I:Sem α}(Y:c->SR P A r x x')(K:¬c->SR P A r y I):SR P A r (if c then x else y) (if c then x' else I):=by
 split
 ·simp_all
 ·simp_all
end
section
variable[gq]{P:aj}{r:Rn}{α:Type}{A:Rn->α->α->Prop}
theorem abD(h:V r x x'):(∃base Y n c,x=.slice base n c/\x'=.slice Y n c/\AO r base Y)\/∀b n c,x≠.slice b n c:=by
 cases h with
 |kJ l c=>exact .inl ⟨none,none,l,c,rfl,rfl,.inl ⟨rfl,rfl⟩⟩
 |slice l c K=>exact .inl ⟨_,_,l,c,rfl,rfl,.inr ⟨_,_,rfl,rfl,K⟩⟩
 |_=>exact .inr fun _ _ _ e=>by cases e
theorem N9(Z:qC P)(K:ah)(size R H D n:Nat)(F:V r x x')(J:V r y I):
  SR P V r (do
    let Y<-choose (.appendCap H D K)
    br (Y *(<-aM K).bytes)
    let old<-aI size R x
    let new<-aI size n y
    let rest:=bH (<-zeroValue K).cells (Y-H)
    pure (bj (some (<-newRow K (old++new++rest))) H Y))
   (do
    let Y<-choose (.appendCap H D K)
    br (Y *(<-aM K).bytes)
    let old<-aI size R x'
    let new<-aI size n I
    let rest:=bH (<-zeroValue K).cells (Y-H)
    pure (bj (some (<-newRow K (old++new++rest))) H Y)):=by
 refine SR.bind (qY _) ?_;rintro t1 O _ l1 rfl;refine SR.bind (qW _) ?_;rintro t2 i _ l2 ⟨rfl,_⟩;refine SR.bind (Gh _) ?_;rintro t3 _ _ A _;refine SR.bind (zM _ _ (((F.mono l1).mono l2).mono A)) ?_;intro t4 o o' l4 C;refine SR.bind (zM _ n ((((J.mono l1).mono l2).mono A).mono l4)) ?_;intro t5 c c' M B;refine SR.bind (vU Z _) ?_;intro Q z T l6 L;refine SR.bind (vx _ ((((C.mono M).append B).mono l6).append (L.cells.tq _))) ?_;intro S a a' N U;exact .pure (.slice _ _ U)
theorem zR{Y:Type}{s s':Sem Y}{f f':Y->Sem α}(h:SR P (fun _ _ _=>False) r s s'):SR P A r (s.bind f) (s'.bind f'):=SR.bind h fun _ _ _ _ e=>e.elim
theorem Q5{e:dk}(h:O8 e){Y:Type}:SR P (fun _ (_ _:Y)=>False) r (bC e) (bC e):=mh h
theorem mG(t:ah):SR P (fun _ d d'=>d=d'/\P.underlying t=some d) r (underlying t) (underlying t):=by
 refine SR.bind mK ?_;rintro s p q _ ⟨Y,K⟩;rw[Y,K];cases h:P.underlying t with
 |some i=>exact .pure ⟨rfl,rfl⟩
 |none=>exact gy _
theorem ZP(Z:qC P)(N:Array ah)(t:ah)(m:∀O d,N[1]?=some O->P.underlying O=some d->∀k,d≠.int k){a a':Array af}(h:VA r a a'):SR P V r (cJ N t a) (cJ N t a'):=by
 unfold cJ;cases y:N[0]? with
 |none=>exact gy _
 |some sT=>
  cases G:a[0]? with
  |none=>rw[h.none G];exact gy _
  |some s=>
   obtain⟨s',f,q⟩:=h.get G;rw[f];cases W:a[1]? with
   |none=>rw[h.none W];exact gy _
   |some x=>
    obtain⟨x',g,p⟩:=h.get W;rw[g];simp only;refine SR.bind (kg sT) ?_;rintro t1 d _ l1 rfl;cases d with
    |slice Y=>
     simp only;rcases abD q with⟨base,Q,K,B,rfl,rfl,o⟩|U
     ·simp only;refine SR.bind (mM Y) ?_;rintro t2 size _ l2 rfl;have J:=(p.mono l1).mono l2;have F:=(o.mono l1).mono l2;cases hz:N[1]? with
      |none=>
       refine SR.bind (A:=fun _ z E=>z=false/\E=false) (.pure ⟨rfl,rfl⟩) ?_;rintro t3 _ _ L ⟨rfl,rfl⟩;have D:=J.mono L;have R:=F.mono L;change SR P V t3 (Sem.bind (aZ x) _) (Sem.bind (aZ x') _);refine SR.bind (G2 D) ?_;rintro t4 n _ l4 rfl;refine ik (fun S=>?_) (fun S=>?_)
       ·change SR P V t4 (Sem.bind (aI size n x) _) (Sem.bind (aI size n x') _);refine SR.bind (zM size n (D.mono l4)) ?_;intro t5 c c' I C;rcases R with⟨rfl,rfl⟩|⟨b,b',rfl,rfl,H⟩
        ·exact .pure (.kJ _ _)
        ·refine SR.bind (xU 0 (((H.mono l4).mono I).add _) C.toList) ?_;rintro X _ _ l6 _;exact .pure (.slice _ _ (((H.mono l4).mono I).mono l6))
       ·change SR P V t4 (Sem.bind (aM Y) _) (Sem.bind (aM Y) _);refine SR.bind (qW Y) ?_;rintro t5 i _ I ⟨rfl,_⟩;refine ik (fun _=>?_) (fun _=>?_)
        ·exact zR (Q5 (e:=.error "growslice: len out of range") trivial)
        ·change SR P V t5 (Sem.bind (aM Y) _) (Sem.bind (aM Y) _);refine SR.bind (qW Y) ?_;rintro X j _ l6 ⟨rfl,_⟩;refine ik (fun _=>?_) (fun _=>?_)
         ·refine .lost fun v=>?_;obtain⟨b,e⟩:=ML (P:=P) size K n base x v;change∃h v1,Sem.run P (Sem.bind (Sem.bind (bU size K n base x) _) _) v=.halt h v1/\rq h;rw[aT,aT,e];cases b
          ·exact⟨_,_,rfl,.inl ⟨_,rfl,rfl⟩⟩
          ·exact⟨_,_,rfl,.inl ⟨_,rfl,rfl⟩⟩
         ·exact N9 Z Y size K (K+n) B n ((AO.mono ((l4.trans I).trans l6) R).slice _ _) (((D.mono l4).mono I).mono l6)
      |some O=>
       refine SR.bind (mG O) ?_;rintro u d _ T ⟨rfl,hd⟩;refine SR.bind (A:=fun _ z E=>z=false/\E=false) (.pure ?_) ?_
       ·simp_all
       rintro t3 _ _ M ⟨rfl,rfl⟩;have L:=T.trans M;have D:=J.mono L;have R:=F.mono L;change SR P V t3 (Sem.bind (aZ x) _) (Sem.bind (aZ x') _);refine SR.bind (G2 D) ?_;rintro t4 n _ l4 rfl;refine ik (fun S=>?_) (fun S=>?_)
       ·change SR P V t4 (Sem.bind (aI size n x) _) (Sem.bind (aI size n x') _);refine SR.bind (zM size n (D.mono l4)) ?_;intro t5 c c' I C;rcases R with⟨rfl,rfl⟩|⟨b,b',rfl,rfl,H⟩
        ·exact .pure (.kJ _ _)
        ·refine SR.bind (xU 0 (((H.mono l4).mono I).add _) C.toList) ?_;rintro X _ _ l6 _;exact .pure (.slice _ _ (((H.mono l4).mono I).mono l6))
       ·change SR P V t4 (Sem.bind (aM Y) _) (Sem.bind (aM Y) _);refine SR.bind (qW Y) ?_;rintro t5 i _ I ⟨rfl,_⟩;refine ik (fun _=>?_) (fun _=>?_)
        ·exact zR (Q5 (e:=.error "growslice: len out of range") trivial)
        ·change SR P V t5 (Sem.bind (aM Y) _) (Sem.bind (aM Y) _);refine SR.bind (qW Y) ?_;rintro X j _ l6 ⟨rfl,_⟩;refine ik (fun _=>?_) (fun _=>?_)
         ·refine .lost fun v=>?_;obtain⟨b,e⟩:=ML (P:=P) size K n base x v;change∃h v1,Sem.run P (Sem.bind (Sem.bind (bU size K n base x) _) _) v=.halt h v1/\rq h;rw[aT,aT,e];cases b
          ·exact⟨_,_,rfl,.inl ⟨_,rfl,rfl⟩⟩
          ·exact⟨_,_,rfl,.inl ⟨_,rfl,rfl⟩⟩
         ·exact N9 Z Y size K (K+n) B n ((AO.mono ((l4.trans I).trans l6) R).slice _ _) (((D.mono l4).mono I).mono l6)
     ·cases q with
      |kJ l c=>exact absurd rfl (U _ _ _)
      |slice l c w=>exact absurd rfl (U _ _ _)
      |_=>exact gy _
    |_=>exact gy _
end
section
variable[gq]{P:aj}{r:Rn}{α:Type}{A:Rn->α->α->Prop}
theorem Qf{Y γ:Type}(g:Y->Sem γ)(h:∀b t,SR P ie t (g b) (g b)):∀(l:List Y) r,SR P ie r (l.mapM g) (l.mapM g)
 |[],r=>by exact .pure rfl
 |b::l,r=>by
  rw[List.mapM_cons];refine SR.bind (h b r) ?_;rintro t x _ l1 rfl;refine SR.bind (Qf g h l t) ?_;rintro u xs _ l2 rfl;exact .pure rfl
theorem abE{Y γ:Type}(g:Y->Sem γ)(h:∀b t,SR P ie t (g b) (g b))(a:Array Y):SR P ie r (a.mapM g) (a.mapM g):=by
 rw[Array.mapM_eq_mapM_toList];refine SR.bind (Qf g h _ r) ?_;rintro t x _ l rfl;exact .pure rfl
inductive PL(r:Rn):List (Nat×af)->List (Nat×af)->Prop
 |nil:PL r [] []
 |cons (i:Nat) {x y:af} {xs ys:List (Nat×af)}:V r x y->PL r xs ys->PL r ((i,x)::xs) ((i,y)::ys)
theorem PL.mono{s:Rn}(h:Le r s){xs ys:List _}(k:PL r xs ys):PL s xs ys:=by
 induction k with
 |nil=>exact .nil
 |cons i x _ Y=>exact .cons i (x.mono h) Y
theorem O9(off:Nat):∀{xs ys:List _} k {c c':Array _},VL r xs ys->VA r c c'->
  VA r ((xs.zipIdx k).foldl (fun cs p=>cs.setIfInBounds (off+p.2) p.1) c) ((ys.zipIdx k).foldl (fun cs p=>cs.setIfInBounds (off+p.2) p.1) c')
 |_,_,k,c,c',.nil,h=>h
 |_,_,k,c,c',.cons x xs,h=>by
  exact O9 off (k+1) xs (h.set _ x)
theorem Cz(place:Nat->Option _):∀{ps Y:List _} {c c':Array _},PL r ps Y->VA r c c'->
  (Instr.fill place c ps=none/\Instr.fill place c' Y=none)\/∃d d',Instr.fill place c ps=some d/\Instr.fill place c' Y=some d'/\VA r d d'
 |_,_,c,c',.nil,h=>.inr ⟨c,c',rfl,rfl,h⟩
 |_,_,c,c',.cons i K rest,h=>by
  unfold Instr.fill;cases place i with
  |none=>exact .inl ⟨rfl,rfl⟩
  |some p=>
   obtain⟨off,size⟩:=p;simp only;rw[<-K.cells.size,<-h.size];split
   ·simp
   ·refine Cz _ rest ?_;rw[<-cG,<-cG,dU,dU];exact O9 off 0 K.cells.toList h
theorem abF(Z:qC P)(t:ah){ps C:Array _}(h:PL r ps.toList C.toList):SR P V r (Instr.build t ps) (Instr.build t C):=by
 refine SR.bind (vU Z t) ?_;intro t1 z F l1 B;refine SR.bind (kg t) ?_;rintro t2 d _ l2 rfl;have A:=B.cells.mono l2;have U:=(h.mono l1).mono l2;cases d with
 |struct D=>
  refine SR.bind (abE _ (fun f u=>SR.bind (mM _) fun _ _ _ _ e=>e▸ .pure rfl) _) ?_;rintro t3 R _ H rfl;rcases Cz _ (U.mono H) (A.mono H)with⟨Y,K⟩|⟨d,d',Y,K,hd⟩
  ·rw[Y];exact gy _
  ·rw[Y,K];exact .pure (.Dn hd)
 |array len I=>
  refine SR.bind (mM _) ?_;rintro t3 size _ H rfl;rcases Cz _ (U.mono H) (A.mono H)with⟨Y,K⟩|⟨d,d',Y,K,hd⟩
  ·rw[Y];exact gy _
  ·rw[Y,K];exact .pure (.Dn hd)
 |_=>exact gy _
theorem Wq(Z:qC P)(t:ah)(len:Nat){ps U:Array _}(h:PL r ps.toList U.toList):SR P V r (eu t len ps) (eu t len U):=by
 refine SR.bind (kg t) ?_;rintro t1 d _ l1 rfl;cases d with
 |slice Y=>
  refine SR.bind (mM _) ?_;rintro t2 size _ l2 rfl;refine ik (fun _=>zR (ig _)) (fun _=>?_);have go:∀{t3:Rn} {z K:Array _},Le t2 t3->VA t3 z K->SR P V t3
    (match Instr.fill (fun i=>some (i *size,size)) ((aY (len *size)).map (z[· %z.size]!)) ps.toList with
     |some cells=>do pure (bj (some (<-newRow Y cells)) len len)
     |_=>stuck "buildSlice: a part of the wrong size")
    (match Instr.fill (fun i=>some (i *size,size)) ((aY (len *size)).map (K[· %K.size]!)) U.toList with
     |some cells=>do pure (bj (some (<-newRow Y cells)) len len)
     |_=>stuck "buildSlice: a part of the wrong size"):=by
   intro t3 z K R D;rcases Cz _ (((h.mono l1).mono l2).mono R) (D.Dp _)with⟨H,I⟩|⟨d,d',H,I,hd⟩
   ·rw[H];exact gy _
   ·rw[H,I];exact SR.bind (vx _ hd) fun _ _ _ _ e=>.pure (.slice _ _ e)
  refine ik (fun _=>?_) (fun _=>?_)
  ·exact go (.refl _) .nil
  ·refine SR.bind (vU Z _) ?_;intro t3 z K R D;exact go R D.cells
 |_=>exact gy _
def plainKey(d:bq):=(∃k,d=.int k)\/d=.string\/d=.bool
theorem MM(e:Bool)(t:ah)(v v':af)(h:∀d,P.underlying t=some d->plainKey d):SR P ie r (b_ e 10000 t v) (b_ e 10000 t v'):=by
 refine SR.bind (mG t) ?_;rintro t1 d _ l1 ⟨rfl,hd⟩;rcases h d hd with⟨k,rfl⟩|rfl|rfl<;>exact .pure rfl
inductive Full:af->Prop
 |int (k:aB) (n:Int):Full (.int k n)
 |string (s:ByteArray):Full (.string s)
 |bool (b:Bool):Full (.bool b)
 |ptr (a:Addr):Full (.pointer (some a))
def Met(k:af)(es:List ax)(i j:Nat):=Full k/\i<=j/\∃x,es[j-i]?=some x/\Full x.key
theorem Met.cons{es:List _}(x:ax)(h:Met k es (i+1) j):Met k (x::es) i j:=by
 obtain⟨Y,H,y,D,K⟩:=h;refine⟨Y,by omega,y,?_,K⟩;rw[show j-i=(j-(i+1))+1 by omega];simp_all
theorem MA{d:bq}{e:af}{b:Bool}(h:bc d k e=some b):Full k/\Full e:=by
 unfold bc at h;split at h
 ·exact⟨.int _ _,.int _ _⟩
 ·exact⟨.string _,.string _⟩
 ·exact⟨.bool _,.bool _⟩
 ·cases h
def Blank(x:af):=x=.tuple #[]
theorem Xn{d:bq}{e e':af}(hd:plainKey d)(h:V r k k')(h':V r e e')(n:¬Blank k)(Y:¬Blank e):bc d k' e'=bc d k e:=by
 cases h with
 |blank _=>exact absurd rfl n
 |_=>
  cases h' with
  |blank _=>exact absurd rfl Y
  |_=>rcases hd with⟨j,rfl⟩|rfl|rfl<;>rfl
omit [gq]in
theorem Ws{d:bq}{e:af}(h:Blank k\/Blank e):bc d k e=none:=by
 rcases h with h|h<;>(rw[h];cases d<;>first|rfl|(cases k<;>rfl))
omit [gq]in
theorem MN{e:af}(hk:∀d,P.underlying t=some d->plainKey d)(h:Blank k\/Blank e)(v:ae):∃x v1,(au t k e).run P v=.halt x v1/\rq x:=by
 unfold au bh;rw[show(10000:Nat)=9999+1 from rfl];unfold aP underlying program;cases hd:P.underlying t with
 |none=>exact⟨.stuck "no such type",v,by simp[Sem.run,bind,Sem.bind,hd,stuck],.inr ⟨_,rfl⟩⟩
 |some d=>
  have key:∀{x:Sem Bool},(∃u,x=cE u/\C1 u=false)\/(∃y,x=stuck y)->∃z v1,x.run P v=.halt z v1/\rq z:=by
   rintro x (⟨u,rfl,Y⟩|⟨y,rfl⟩)
   ·exact⟨_,_,rfl,.inl ⟨_,rfl,Y⟩⟩
   ·exact⟨_,_,rfl,.inr ⟨_,rfl⟩⟩
  simp only[bind,Sem.bind,Sem.run,hd];rcases hk d hd with⟨j,rfl⟩|rfl|rfl<;>rcases h with h|h<;>rw[h]<;>(first|(cases k with|pointer a=>(cases a<;>exact key (by first|exact .inl ⟨_,rfl,rfl⟩|exact .inr ⟨_,rfl⟩))|_=>exact key (by first|exact .inl ⟨_,rfl,rfl⟩|exact .inr ⟨_,rfl⟩))|(cases e with|pointer a=>(cases a<;>exact key (by first|exact .inl ⟨_,rfl,rfl⟩|exact .inr ⟨_,rfl⟩))|_=>exact key (by first|exact .inl ⟨_,rfl,rfl⟩|exact .inr ⟨_,rfl⟩)))
omit [gq]in
theorem ZQ{d:bq}{e:af}{b:Bool}(hd:P.underlying t=some d)(h:bc d k e=some b)(v:ae):(au t k e).run P v=.ok b v:=by
 unfold au bh;rw[show(10000:Nat)=9999+1 from rfl];unfold aP underlying program;simp only[bind,Sem.bind,Sem.run,hd];unfold bc at h;split at h
 ·split at h
  ·rename_i hk;subst hk;rw[<-Option.some.inj h];simp[pure,Sem.bind]
  ·cases h
 ·rw[<-Option.some.inj h];rfl
 ·rw[<-Option.some.inj h];rfl
 ·cases h
inductive EL(r:Rn):List ax->List ax->Prop
 |nil:EL r [] []
 |cons {x y:ax} {xs ys:List ax}:En r x y->EL r xs ys->EL r (x::xs) (y::ys)
theorem EL.mono{s:Rn}(h:Le r s){xs ys:List _}(k:EL r xs ys):EL s xs ys:=by
 induction k with
 |nil=>exact .nil
 |cons x _ Y=>exact .cons (x.mono h) Y
def ahz(P:aj)(t:ah)(k:af)(es:List ax):Prop:=∀(i:Nat) (v:ae),∃x v1,(cT t k es i).run P v=.halt x v1/\rq x
theorem MO{d:bq}(D:P.underlying t=some d)(hd:plainKey d)(h:V r k k'):∀{es iD:List _} i,EL r es iD->
  (aV d k es i=none/\ahz P t k es)\/
  (aV d k es i=none/\aV d k' iD i=none)\/(aV d k es i=some none/\aV d k' iD i=some none)\/
   ∃j v v',aV d k es i=some (some (j,v))/\aV d k' iD i=some (some (j,v'))/\V r v v'/\Met k es i j
 |_,_,i,.nil=>.inr (.inr (.inl ⟨rfl,rfl⟩))
 |_,_,i,.cons (x:=x) (y:=y) R rest=>by
  have hk:∀d',P.underlying t=some d'->plainKey d':=fun d' e=>by simp_all
  by_cases Y:Blank k\/Blank x.key
  ·refine .inl ⟨by unfold aV;rw[Ws Y],fun j v=>?_⟩;obtain⟨z,v1,e,K⟩:=MN hk Y v;refine⟨z,v1,?_,K⟩;show(Sem.bind _ _).run P v=_
   rw[aT,e];rfl
  ·have n1:=fun z=>Y (.inl z);have n2:=fun z=>Y (.inr z);unfold aV;rw[Xn hd h R.key n1 n2];cases H:bc d k _ with
   |none=>exact .inr (.inl ⟨rfl,rfl⟩)
   |some b=>
    cases b with
    |true=>exact .inr (.inr (.inr ⟨i,x.val,y.val,rfl,rfl,R.val,(MA H).1,ao _,x,by simp,(MA H).2⟩))
    |false=>
     rcases MO D hd h _ rest with⟨I,A⟩|q
     ·refine .inl ⟨I,fun j v=>?_⟩;obtain⟨z,v1,e,K⟩:=A _ v;refine⟨z,v1,?_,K⟩;show(Sem.bind _ _).run P v=_
      rw[aT,ZQ D H v];exact e
     ·exact .inr (q.imp id (Or.imp id fun⟨j,v,v',a1,a2,a3,a4⟩=>⟨j,v,v',a1,a2,a3,a4.cons x⟩))
def NW(r:Rn)(x y:Option (Addr×Bool)):=(x=none/\y=none)\/∃a a' t,x=some (a,t)/\y=some (a',t)/\Ad r a a'
theorem MP(h:r b=some b'):SR P NW r (numberAt b) (numberAt b'):=by
 refine SR.bind (pH h) ?_;rintro t x _ l rfl;split
 ·exact .pure (.inl ⟨rfl,rfl⟩)
 ·refine SR.bind (oz (l _ _ h)) ?_;intro u o o' _ Y;cases Y with
  |number l a=>exact .pure (.inr ⟨_,_,_,rfl,rfl,a⟩)
  |_=>exact .pure (.inl ⟨rfl,rfl⟩)
theorem vz(h:Ad r a a'):SR P (fun s x y=>Ad s x.1 y.1/\x.2=y.2) r (akH a) (akH a'):=by
 refine SR.bind (MP h.block) ?_;rintro t x y l (⟨rfl,rfl⟩|⟨_,_,_,rfl,rfl,Y⟩)
 ·exact .pure ⟨h.mono l,rfl⟩
 ·exact .pure ⟨Y,rfl⟩
theorem Ad.eq_iff{b b':Addr}(h:Ad r a a')(k:Ad r b b'):(a'==b')=(a==b):=by
 rw[bS];simp;constructor
 ·intro e;have Y:=r.inj _ _ _ h.block (by rw[k.block,e]);have K:a.off=b.off:=by rw[<-h.off,<-k.off,e]
  have H:a.spot=b.spot:=by rw[<-h.spot,<-k.spot,e]
  obtain⟨x,y,z⟩:=a;simp_all
 ·intro e;have Y:=by have:=h.block;rw[e,k.block]at this;exact(Option.some.inj this).symm
  have K:a'.off=b'.off:=by rw[h.off,k.off,e]
  have H:a'.spot=b'.spot:=by rw[h.spot,k.spot,e]
  obtain⟨x,y,z⟩:=a';simp_all
theorem Ad.Hw{b b':Addr}(h:Ad r a a')(k:Ad r b b'):(a'.block==b'.block)=(a.block==b.block):=by
 rw[bS];simp;constructor
 ·exact fun e=>r.inj _ _ _ h.block (by rw[k.block,e])
 ·intro e;have:=h.block;rw[e,k.block]at this;simp_all
theorem Ns(M:gq.size=P.globals.size)(hk:∀d,P.underlying t=some d->plainKey d)(S:V r x x')(X:V r y I)(D:Nat):SR P (fun _ b b'=>b=b'/\(b=true->Full x/\Full y)) r (aP (D+1) t x y) (aP (D+1) t x' I):=by
 unfold aP;refine SR.bind (mG t) ?_;rintro t1 d _ l1 ⟨rfl,hd⟩;have R:=S.mono l1;have Y:=X.mono l1;rcases hk d hd with⟨k,rfl⟩|rfl|rfl
 ·cases R with
  |int z n1=>
   cases Y with
   |int T n2=>exact ik (fun _=>.pure ⟨rfl,fun _=>⟨.int _ _,.int _ _⟩⟩) (fun _=>gy _)
   |ptr C=>
    by_cases A:n1=0
    ·subst A;exact .pure ⟨rfl,fun h=>by cases h⟩
    ·simp only;split<;>first|(exfalso;simp_all;done)|exact .pure ⟨rfl,fun h=>by cases h⟩|exact ig _|exact gy _
   |nilPtr=>exact ig _
   |_=>exact gy _
  |nilPtr=>cases Y<;>first|exact ig _|exact gy _
  |ptr N=>
   cases Y with
   |int T n2=>
    by_cases A:n2=0
    ·subst A;exact .pure ⟨rfl,fun h=>by cases h⟩
    ·simp only;split<;>first|(exfalso;simp_all;done)|exact .pure ⟨rfl,fun h=>by cases h⟩|exact ig _|exact gy _
   |ptr C=>
    simp only;refine SR.bind (vz N) ?_;rintro t2 ⟨a1,la⟩ ⟨a2,E⟩ l2 ⟨U,_⟩;refine SR.bind (vz (C.mono l2)) ?_;rintro t3 ⟨W,c⟩ ⟨j,G⟩ Z ⟨H,_⟩;have K:=U.mono Z;simp only at K H;refine SR.bind mK ?_;rintro t4 p q l4 ⟨O,Q⟩;rw[O,Q];have J:=K.Hw H;have L:=K.eq_iff H;have B:=t3.jc _ _ K.block;rw[M]at B;simp only[J,L,decide_eq_decide.2 B.symm];refine ik (fun _=>?_) (fun _=>?_)
    ·refine SR.bind (vy (K.mono l4)) ?_;rintro t5 u _ F rfl;refine SR.bind (vy ((H.mono l4).mono F)) ?_;rintro f v _ l6 rfl;exact .pure ⟨rfl,fun _=>⟨.ptr _,.ptr _⟩⟩
    ·refine SR.bind (qW t) ?_;rintro t5 i _ F ⟨rfl,_⟩;split
     ·exact ik (fun _=>.pure ⟨rfl,fun _=>⟨.ptr _,.ptr _⟩⟩) (fun _=>ig _)
     ·exact ig _
   |_=>exact ig _
  |_=>cases Y<;>first|exact ig _|exact gy _
 ·cases R with
  |string a=>
   cases Y with
   |string b=>exact .pure ⟨rfl,fun _=>⟨.string _,.string _⟩⟩
   |_=>exact gy _
  |_=>exact gy _
 ·cases R with
  |bool a=>
   cases Y with
   |bool b=>exact .pure ⟨rfl,fun _=>⟨.bool _,.bool _⟩⟩
   |_=>exact gy _
  |_=>exact gy _
theorem O_(Y:gq.size=P.globals.size)(hk:∀d,P.underlying t=some d->plainKey d)(K:V r x x')(H:V r y I):SR P (fun _ b b'=>b=b'/\(b=true->Full x/\Full y)) r (au t x y) (au t x' I):=Ns Y hk K H 9999
theorem Ml(Y:gq.size=P.globals.size)(hk:∀d,P.underlying t=some d->plainKey d):∀{es iD:List _} i {r:Rn},V r k k'->EL r es iD->
  SR P (fun r o o'=>(o=none/\o'=none)\/∃j v v',o=some (j,v)/\o'=some (j,v')/\V r v v'/\Met k es i j) r (cT t k es i) (cT t k' iD i)
 |_,_,i,r,h,.nil=>.pure (.inl ⟨rfl,rfl⟩)
 |_,_,i,r,h,.cons D rest=>by
  refine SR.bind (O_ Y hk h D.key) ?_;rintro t1 b _ l1 ⟨rfl,H⟩;refine ik (fun K=>.pure (.inr ⟨i,_,_,rfl,rfl,D.val.mono l1,(H K).1,ao _,_,by simp,(H K).2⟩)) (fun _=>?_);exact(Ml Y hk _ (h.mono l1) (rest.mono l1)).imp fun t a a' _ R=>R.imp id fun⟨j,v,v',a1,a2,a3,a4⟩=>⟨j,v,v',a1,a2,a3,a4.cons _⟩
theorem Nt(D:gq.size=P.globals.size)(hk:∀d,P.underlying t=some d->plainKey d)(h:V r k k'){es iD:List _}(H:EL r es iD):
  SR P (fun r o o'=>(o=none/\o'=none)\/∃j v v',o=some (j,v)/\o'=some (j,v')/\V r v v'/\Met k es 0 j) r (cf t k es) (cf t k' iD):=by
 refine SR.bind (mG t) ?_;rintro t1 d _ l1 ⟨rfl,hd⟩;rcases MO hd (hk d hd) (h.mono l1) 0 (H.mono l1)with⟨Y,K⟩|⟨Y,K⟩|⟨Y,K⟩|⟨j,v,v',Y,K,I,R⟩
 ·rw[Y];exact .lost fun v=>K 0 v
 ·rw[Y,K];exact Ml D hk 0 (h.mono l1) (H.mono l1)
 ·rw[Y,K];exact .pure (.inl ⟨rfl,rfl⟩)
 ·rw[Y,K];exact .pure (.inr ⟨j,v,v',rfl,rfl,I,R⟩)
structure EA(r:Rn)(es iD:Array ax):Prop where
 size:es.size=iD.size
 at_:∀(i:Nat) x x',es[i]?=some x->iD[i]?=some x'->En r x x'
theorem EA.mono{s:Rn}(h:Le r s){es iD:Array _}(k:EA r es iD):EA s es iD:=⟨k.size,fun i x x' e e'=>(k.at_ i x x' e e').mono h⟩
theorem EA.toList{c c':Array _}(h:EA r c c'):EL r c.toList c'.toList:=by
 obtain⟨c⟩:=c;obtain⟨c'⟩:=c';obtain⟨Y,K⟩:=h;induction c generalizing c' with
 |nil=>cases c' with
  |nil=>exact .nil
  |cons y ys=>simp at Y
 |cons x xs H=>cases c' with
  |nil=>simp at Y
  |cons y ys=>exact .cons (K 0 x y rfl rfl) (H ys (by simpa using Y) fun i a b e e'=>K (i+1) a b (by simpa using e) (by simpa using e'))
theorem EL.toArray{xs ys:List _}(h:EL r xs ys):EA r xs.toArray ys.toArray:=by
 induction h with
 |nil=>exact⟨rfl,fun i x x' e=>by simp⟩
 |cons x _ H=>
  obtain⟨K,Y⟩:=H;simp at K Y;refine⟨by simp_all,fun i a b e e'=>?_⟩;simp at e e';cases i with
  |zero=>simp at e e';simp_all
  |succ i=>exact Y i a b e e'
theorem EA.push{c c':Array _}(h:EA r c c'){x x':ax}(H:En r x x'):EA r (c.push x) (c'.push x'):=by
 refine⟨by simp[h.size],fun i y I e e'=>?_⟩;have K:=h.size;rw[bE]at e e';rw[<-K]at e';split at e
 ·simp_all
 ·rename_i Y;rw[if_neg Y]at e';exact h.at_ i y I e e'
theorem EA.get{c c':Array _}(h:EA r c c'){x:ax}(e:c[i]?=some x):∃x',c'[i]?=some x'/\En r x x':=by
 obtain⟨Y,_⟩:=bt.1 e;have K:=h.size▸Y;exact⟨c'[i],by simp,h.at_ i x _ e (by simp)⟩
theorem EA.none{c c':Array _}(h:EA r c c')(e:c[i]?=none):c'[i]?=none:=by
 simp at e⊢;have:=h.size;omega
theorem EA.modify{c c':Array _}(h:EA r c c')(i:Nat)(f f':ax->ax)(H:∀x x',En r x x'->En r (f x) (f' x')):EA r (c.modify i f) (c'.modify i f'):=by
 refine⟨by simp[h.size],fun j y I e e'=>?_⟩;rw[Array.getElem?_modify]at e e';by_cases Y:i=j
 ·rw[if_pos Y]at e e';obtain⟨x,D,rfl⟩:=dh.1 e;obtain⟨x',K,rfl⟩:=dh.1 e';exact H x x' (h.at_ j x x' D K)
 ·rw[if_neg Y]at e e';exact h.at_ j y I e e'
theorem O.mapOf{c c':Array _}(h:EA r c c')(n:Nat):O r (.map c n) (.map c' n):=.map n h.size h.at_
theorem ZR(Z:qC P)(C:gq.size=P.globals.size)(M:∀k e,P.underlying t=some (.map k e)->∀d,P.underlying k=some d->plainKey d)(N:V r x x')(O:V r y I)(ok:Bool):
  SR P V r (cV t x y ok) (cV t x' I ok):=by
 unfold cV;refine SR.bind (mG t) ?_;rintro t1 d _ l1 ⟨rfl,hd⟩;cases d with
 |map key K=>
  have hk:=M key K hd;simp only;have tail:∀{s:Rn} {es iD:Array ax},Le t1 s->EA s es iD->SR P V s
    (do
      b_ es.isEmpty 10000 key y
      let o<-cf key y es.toList
      match o with
       |some (_,v)=>(do let(v,Y)<-pure (v,true);pure (if ok=true then bM #[v,.bool Y]else v))
       |none=>(do let z<-zeroValue K;let(v,Y)<-pure (z,false);pure (if ok=true then bM #[v,.bool Y]else v)))
    (do
      b_ iD.isEmpty 10000 key I
      let o<-cf key I iD.toList
      match o with
       |some (_,v)=>(do let(v,Y)<-pure (v,true);pure (if ok=true then bM #[v,.bool Y]else v))
       |none=>(do let z<-zeroValue K;let(v,Y)<-pure (z,false);pure (if ok=true then bM #[v,.bool Y]else v))):=by
   intro s es iD l R;have H:iD.isEmpty=es.isEmpty:=by
    have:=R.size;rw[bS];simp[dL,this]
   rw[H];refine SR.bind (MM _ _ _ _ hk) ?_;rintro t2 _ _ l2 _;refine SR.bind (Nt C hk (((O.mono l1).mono l).mono l2) (R.mono l2).toList) ?_;rintro t3 o o' Q (⟨rfl,rfl⟩|⟨j,v,v',rfl,rfl,A,_⟩)
   ·refine SR.bind (vU Z K) ?_;intro t4 z S l4 U;cases ok
    ·exact .pure U
    ·exact .pure (.rR (.two U (.bool _)))
   ·cases ok
    ·exact .pure A
    ·exact .pure (.rR (.two A (.bool _)))
  have D:=N.mono l1;cases D with
  |oD=>exact tail (.refl _) ⟨rfl,fun i x x' e=>by simp at e⟩
  |map e=>
   refine SR.bind (oz e) ?_;intro t2 o o' l2 F;cases F with
   |map L J B=>exact tail l2 ⟨J,B⟩
   |_=>exact gy _
  |_=>exact gy _
 |_=>exact gy _
end
section
variable[gq]{P:aj}{r:Rn}{α:Type}{A:Rn->α->α->Prop}
theorem WV{a a' b b':af}(Y:Full a)(K:Full b)(h:V r a a')(k:V r b b'):eJ n a' b'=eJ n a b:=by
 have ptr:∀{a a' b b':Addr},Ad r a a'->Ad r b b'->((some a')==some b')=(some a==some b):=fun h k=>by
  have:=h.eq_iff k;simp_all
 cases Y<;>cases h<;>cases K<;>cases k<;>cases n<;>first|rfl|(exact ptr (by omega) (by omega))
theorem Xo{a a' b b':af}(K:Full a)(H:Full b)(h:V r a a')(k:V r b b'):SR P V r (cU a b) (cU a' b'):=by
 unfold cU;rw[WV K H h k];refine ik (fun _=>.pure k) (fun _=>?_);refine SR.bind (qY _) ?_;rintro t n _ l rfl;by_cases Y:n=0
 ·simp[Y];exact .pure (k.mono l)
 ·simp[Y];exact .pure (h.mono l)
theorem WW(S:gq.size=P.globals.size)(E:∀k e,P.underlying t=some (.map k e)->∀d,P.underlying k=some d->plainKey d){z z':af}(W:V r x x')(f:V r y I)(O:V r z z'):
  SR P ie r (eH t x y z) (eH t x' I z'):=by
 refine SR.bind (mG t) ?_;rintro t1 d _ l1 ⟨rfl,hd⟩;cases d with
 |map key M=>
  have hk:=E key _ hd;have U:=W.mono l1;cases U with
  |oD=>exact mh trivial
  |map e=>
   refine SR.bind (oz e) ?_;intro t2 o o' l2 X;cases X with
   |map L Z T=>
    rename_i es iD;have H:EA t2 es iD:=⟨Z,T⟩;refine SR.bind (MM _ _ _ _ hk) ?_;rintro t3 _ _ Y _;have K:=((f.mono l1).mono l2).mono Y;refine SR.bind (Nt S hk K (H.mono Y).toList) ?_;rintro t4 o o' l4 (⟨rfl,rfl⟩|⟨j,v,v',rfl,rfl,c,Q,_,xm,C,fx⟩)
    ·exact t_ (((l2.trans Y).trans l4) _ _ e) (.mapOf (((H.mono Y).mono l4).push (x:={key:=y,val:=z,born:=L}) (x':={key:=I,val:=z',born:=L}) ⟨K.mono l4,O.mono (((l1.trans l2).trans Y).trans l4),rfl⟩) _)
    ·simp only;have N:=by simpa using C
     obtain⟨q,D,B⟩:=H.get N;rw[N,D];refine SR.bind (Xo fx Q ((B.key.mono Y).mono l4) (K.mono l4)) ?_;intro t5 G F J R;exact t_ ((((l2.trans Y).trans l4).trans J) _ _ e) (.mapOf ((((H.mono Y).mono l4).mono J).modify j (fun e=>{e with key:=G,val:=z}) (fun e=>{e with key:=F,val:=z'}) fun x x' A=>⟨R,O.mono ((((l1.trans l2).trans Y).trans l4).trans J),A.born⟩) _)
   |_=>exact gy _
  |_=>exact gy _
 |_=>exact gy _
theorem abG(t:ah)(D:V r x x'):SR P V r (Instr.range t x) (Instr.range t x'):=by
 refine SR.bind (kg t) ?_;rintro t1 d _ l1 rfl;have fin:∀{s:Rn} {o o':Obj},O s o o'->SR P V s (do pure (bA (some ⟨<-newObj o,0,none⟩))) (do pure (bA (some ⟨<-newObj o',0,none⟩))):=fun K=>
  SR.bind (v_ K) fun s b b' _ e=>.pure (.ptr ⟨e,rfl,rfl⟩)
 have Y:=D.mono l1;cases d with
 |string=>
  cases Y with
  |string s=>exact fin (.stringIter s 0)
  |_=>exact gy _
 |map k e=>
  cases Y with
  |oD=>exact fin (.qm _ _ _)
  |map H=>
   refine SR.bind (oz H) ?_;intro t2 o o' l2 K;cases K with
   |map R A I=>exact fin (.mapIter _ _ _ (l2 _ _ H))
   |_=>exact gy _
  |_=>exact gy _
 |_=>exact gy _
theorem EL.filter{xs ys:List _}(h:EL r xs ys)(f:ax->Bool)(Y:∀x y,En r x y->f y=f x):EL r (xs.filter f) (ys.filter f):=by
 induction h with
 |nil=>exact .nil
 |cons x _ K=>
  rw[eQ,eQ,Y _ _ x];split
  ·exact .cons x K
  ·omega
theorem EA.filter{c c':Array _}(h:EA r c c')(f:ax->Bool)(Y:∀x y,En r x y->f y=f x):EA r (c.filter f) (c'.filter f):=by
 have:=(h.toList.filter f Y).toArray;rw[<-dR,<-dR,bQ,bQ]at this;omega
theorem EA.append{a a' b b':Array _}(h:EA r a a')(k:EA r b b'):EA r (a++b) (a'++b'):=by
 have app:∀{xs ys us Y:List _},EL r xs ys->EL r us Y->EL r (xs++us) (ys++Y):=fun h k=>by
  induction h with
  |nil=>exact k
  |cons x _ K=>exact .cons x K
 have:=(app h.toList k.toList).toArray;rw[<-dP,<-dP,bQ,bQ]at this;omega
theorem EA.all{c c':Array _}(h:EA r c c')(f:ax->Bool)(Y:∀x y,En r x y->f y=f x):c'.all f=c.all f:=by
 have key:∀{xs ys:List _},EL r xs ys->ys.all f=xs.all f:=fun h=>by
  induction h with
  |nil=>rfl
  |cons x _ K=>simp;rw[Y _ _ x,K]
 have:=key h.toList;simp_all
theorem EA.isEmpty{c c':Array _}(h:EA r c c'):c'.isEmpty=c.isEmpty:=by
 have:=h.size;simp[dL,this]
theorem abH{c c':Array _}(h:EA r c c')(b:Bool):((if b=true then#[none]else#[])++c'.map some).size=((if b=true then#[none]else#[])++c.map some).size/\
  ∀i:Nat,(((if b=true then#[none]else#[])++c.map some)[i]?=none/\((if b=true then#[none]else#[])++c'.map some)[i]?=none)\/(((if b=true then#[none]else#[])++c.map some)[i]?=some none/\((if b=true then#[none]else#[])++c'.map some)[i]?=some none)\/
   ∃e e',((if b=true then#[none]else#[])++c.map some)[i]?=some (some e)/\((if b=true then#[none]else#[])++c'.map some)[i]?=some (some e')/\En r e e':=by
 have Y:=h.size;have one:∀i:Nat,((c.map some)[i]?=none/\(c'.map some)[i]?=none)\/∃e e',(c.map some)[i]?=some (some e)/\(c'.map some)[i]?=some (some e')/\En r e e':=by
  intro i;simp;cases D:c[i]? with
  |none=>left;simp_all
  |some x=>obtain⟨x',e',R⟩:=h.get D;simp_all
 cases b with
 |false=>
  simp only[bm,if_false,Array.empty_append];exact⟨by simp[Y],fun i=>(one i).imp id .inr⟩
 |true=>
  simp only[if_true];refine⟨by simp[Y],fun i=>?_⟩;cases i with
  |zero=>exact .inr (.inl ⟨by rw[dI (by simp)];rfl,by rw[dI (by simp)];rfl⟩)
  |succ i=>
   have K:(#[none]++c.map _)[i+1]?=(c.map some)[i]?:=dJ (by simp);have H:(#[none]++c'.map some)[i+1]?=(c'.map _)[i]?:=dJ (by simp);rw[K,H];exact(one i).imp id .inr
theorem adx(X:V r x x')(b:Bool)(t:ah):SR P V r (Instr.next x b t) (Instr.next x' b t):=by
 cases X with
 |ptr Q=>
  rename_i a a';obtain⟨ab,Z,ap6⟩:=a;obtain⟨M,B,N⟩:=a';obtain⟨C,O,E⟩:=Q;subst O;cases B with
  |zero=>
   refine SR.bind (oz C) ?_;intro t1 o o' l1 J;cases J with
   |stringIter s p=>
    cases b with
    |true=>
     refine ik (fun _=>?_) (fun _=>.pure (.rR (.one (.bool _))));refine SR.bind (t_ (l1 _ _ C) (.stringIter _ _)) ?_;rintro t2 _ _ l2 _;exact .pure (.rR (.three (.bool _) (.int _ _) (.int _ _)))
    |false=>exact gy _
   |qm a s n=>
    cases b with
    |true=>exact gy _
    |false=>exact .pure (.rR (.one (.bool _)))
   |mapIter since seen last L=>
    cases b with
    |true=>exact gy _
    |false=>
     refine SR.bind (oz L) ?_;intro t2 o o' l2 J;cases J with
     |map clock T S=>
      rename_i es iD;have F:EA t2 es iD:=⟨T,S⟩;simp only;rw[F.isEmpty,F.all _ fun x y h=>by rw[h.born]];refine ik (fun _=>zR (ig _)) (fun _=>?_);have Y:=F.filter (fun e=>!seen.contains e.born) fun x y h=>by rw[h.born]
      have K:=Y.filter (fun e=>decide (e.born<since)) fun x y h=>by rw[h.born]
      have I:=Y.filter (fun e=>decide (e.born>=since)) fun x y h=>by rw[h.born]
      have R:=K.append I;rw[K.isEmpty];obtain⟨c1,c2⟩:=abH R _;rw[c1];refine SR.bind (qY _) ?_;rintro t3 i _ U rfl;rcases c2 i with⟨D,A⟩|⟨D,A⟩|⟨e,e',D,A,H⟩
      ·rw[D];exact gy _
      ·rw[D,A];exact .pure (.rR (.one (.bool _)))
      ·rw[D,A];simp only;rw[H.born];refine SR.bind (t_ (((l1.trans l2).trans U) _ _ C) (.mapIter _ _ _ ((l2.trans U) _ _ L))) ?_;rintro t4 _ _ l4 _;exact .pure (.rR (.three (.bool _) ((H.key.mono U).mono l4) ((H.val.mono U).mono l4)))
     |_=>exact gy _
   |_=>exact gy _
  |succ n=>exact gy _
 |_=>exact gy _
theorem afP{c c':Array _}(h:EA r c c')(f:ax->Bool)(Y:∀x y,En r x y->f y=f x):(c.find? f=none/\c'.find? f=none)\/∃e e',c.find? f=some e/\c'.find? f=some e'/\En r e e':=by
 have key:∀{xs ys:List _},EL r xs ys->(xs.find? f=none/\ys.find? f=none)\/∃e e',xs.find? f=some e/\ys.find? f=some e'/\En r e e':=fun h=>by
  induction h with
  |nil=>exact .inl ⟨rfl,rfl⟩
  |cons x _ K=>
   simp only[List.find?_cons];rw[Y _ _ x];split
   ·simp_all
   ·omega
 have:=key h.toList;simp_all
theorem abI(O:V r x x'):SR P V r (Instr.entry x) (Instr.entry x'):=by
 cases O with
 |ptr J=>
  rename_i a a';obtain⟨ab,Q,ap6⟩:=a;obtain⟨A,H,U⟩:=a';obtain⟨C,F,S⟩:=J;subst F;cases H with
  |zero=>
   refine SR.bind (oz C) ?_;intro t1 o o' l1 R;cases R with
   |mapIter since seen last B=>
    simp only;split
    ·refine SR.bind (oz B) ?_;intro t2 o o' l2 R;cases R with
     |map clock N M=>
      rename_i es iD;have L:EA t2 es iD:=⟨N,M⟩;refine ik (fun _=>zR (ig _)) (fun _=>?_);rename_i Y _ _;rcases afP L (fun e=>e.born==Y) (fun x y h=>by rw[h.born])with⟨D,I⟩|⟨e,e',D,I,K⟩
      ·rw[D];exact ig _
      ·rw[D,I];exact .pure (.rR (.two K.key K.val))
     |_=>exact gy _
    ·exact gy _
   |_=>exact gy _
  |succ n=>exact gy _
 |_=>exact gy _
theorem Wt(Z:qC P)(U:V r x x')(H a:ah)(D:∀ms,P.underlying a≠some (.interface ms)):SR P V r (cW x H a true) (cW x' H a true):=by
 refine SR.bind (mG a) ?_;rintro t1 d _ l1 ⟨rfl,hd⟩;have Y:∀{s:Rn},SR P V s (do pure (bM #[<-zeroValue a,.bool false])) _:=fun{s}=>
  SR.bind (vU Z a) fun _ _ _ _ e=>.pure (.rR (.two e (.bool _)))
 have K:=U.mono l1;cases d with
 |interface ms=>exact absurd hd (D ms)
 |_=>
  cases K with
  |nilIface=>exact Y
  |iface t R=>
   refine ik (fun _=>.pure (.rR (.two R (.bool _)))) (fun _=>Y)
  |_=>exact gy _
theorem Xp:SR P A r (bC .panicNil) (bC .panicNil):=by
 refine SR.bind mK ?_;rintro s p q _ ⟨K,H⟩;rw[K,H];refine SR.bind (Gx _) ?_;rintro t1 e _ l1 rfl;refine SR.bind (Gy e (.Dn (VA.nil))) ?_;intro t2 a a' l2 Y;exact vM (.iface _ (.ptr Y))
theorem YA(D:V r x x'):SR P V r (Instr.panic x) (Instr.panic x'):=by
 cases D with
 |iface t H=>exact vM (.iface t H)
 |nilIface=>
  have q:SR P ie r eI eI:=by
   refine SR.bind (.env fun _ _ _=>.pure rfl) ?_;rintro t1 x _ l1 rfl;split
   ·refine SR.bind mK ?_;rintro t2 p q l2 ⟨Y,K⟩;rw[Y,K];exact .pure rfl
   ·exact gy _
  refine SR.bind q ?_;rintro t1 n _ l1 rfl;exact ik (fun _=>vM .nilIface) (fun _=>Xp)
 |_=>exact gy _
end
section
variable[gq]{P:aj}{r:Rn}{α:Type}{A:Rn->α->α->Prop}
theorem YB(op:aH)(k:aB)(a b:Int):SR P V r (Op.intBits op k a b) (Op.intBits op k a b):=by
 cases op<;>first|exact .pure (.int _ _)|exact gy _
theorem ZS(op:aH)(k:aB)(a b:Int):SR P V r (dc op k a b) (dc op k a b):=by
 unfold dc;split
 ·exact mh trivial
 ·cases op<;>first|exact .pure (.int _ _)|exact gy _
theorem Pa(op:aH)(k:aB)(a:Int)(j:aB)(b:Int):SR P V r (de op k a j b) (de op k a j b):=by
 unfold de;split
 ·exact mh trivial
 ·cases op<;>first|exact .pure (.int _ _)|exact gy _
theorem abJ(op:UnOp)(h:V r x x'):SR P V r (Op.unary op x) (Op.unary op x'):=by
 cases h<;>cases op<;>first|exact Q3 _ _ _ _|exact .pure (.int _ _)|exact .pure (.bool _)|exact ig _|exact gy _
theorem MB(t:ah)(h:Ad r a a')(D:V r y I):SR P (fun s x x'=>∃b b',x=.pointer (some b)/\x'=.pointer (some b')/\Ad s b b') r (bV #[] t #[.pointer (some a),y]) (bV #[] t #[.pointer (some a'),I]):=by
 refine SR.bind (yh D) ?_;rintro t1 n _ l1 rfl;have Y:=h.mono l1;refine ik (fun _=>?_) (fun _=>?_)
 ·refine SR.bind (Cj Y.block) ?_;rintro t2 x y l2 (⟨rfl,rfl⟩|⟨_,_,_,rfl,rfl,_⟩)
  ·exact .pure ⟨_,_,rfl,rfl,Y.mono l2⟩
  ·exact ig _
 ·refine ik (fun _=>?_) (fun _=>?_)
  ·exact ig _
  ·refine SR.bind (pH Y.block) ?_;rintro t2 x _ l2 rfl;split
   ·refine SR.bind mK ?_;rintro t3 p q R ⟨K,H⟩;rw[K,H,Y.off];split
    ·exact .pure ⟨_,_,rfl,rfl,⟨(l2.trans R) _ _ Y.block,rfl,Y.spot⟩⟩
    ·exact ig _
   ·exact ig _
theorem Xq(h:Ad r a a')(b:Bool):SR P V r (asNumber a b) (asNumber a' b):=by
 exact SR.bind (v_ (.number b h)) fun s x x' l e=>.pure (.ptr ⟨e,rfl,rfl⟩)
theorem N_(t:ah)(Y:V r y I):SR P (fun _ _ _=>False) r (bV #[] t #[.pointer none,y]) (bV #[] t #[.pointer none,I]):=by
 refine SR.bind (yh Y) ?_;rintro t1 n _ l1 rfl;refine ik (fun _=>?_) (fun _=>?_)
 ·exact ig _
 ·refine ik (fun _=>?_) (fun _=>?_)
  ·exact ig _
  ·exact ig _
theorem xT(t:ah)(U:V r x x')(C:V r y I)(h:(∃a,x=.pointer a)):SR P V r (movedNumber t x y) (movedNumber t x' I):=by
 refine SR.bind (kg t) ?_;rintro t1 d _ l1 rfl;refine ik (fun _=>?_) (fun _=>?_)
 ·exact ig _
 have H:=U.mono l1;have Y:=C.mono l1;obtain⟨a,rfl⟩:=h;cases H with
 |nilPtr=>exact(N_ t Y).imp fun _ _ _ _ h=>h.elim
 |ptr D=>
  refine SR.bind (vz D) ?_;rintro t3 ⟨a1,B⟩ ⟨a2,F⟩ A ⟨K,e⟩;subst e;refine SR.bind (MB t K (Y.mono A)) ?_;rintro t4 _ _ l4 ⟨b,b',rfl,rfl,R⟩;exact Xq R _
theorem L9(t:ah)(D:V r x x')(K:V r y I)(h:(∃a,x=.pointer a)):SR P V r (akL t x y) (akL t x' I):=by
 obtain⟨a,rfl⟩:=h;cases D with
 |nilPtr=>exact(N_ t K).imp fun _ _ _ _ h=>h.elim
 |ptr Y=>
  refine SR.bind (MP Y.block) ?_;rintro t1 x y l1 (⟨rfl,rfl⟩|⟨_,_,_,rfl,rfl,_⟩)
  ·refine(MB t (Y.mono l1) (K.mono l1)).imp ?_;rintro _ _ _ _ ⟨b,b',rfl,rfl,H⟩;exact V.ptr H
  ·exact ig _
theorem MC(C:gq.size=P.globals.size){b b':Addr}(Y:Ad r a a')(K:Ad r b b'):SR P ie r (akp a b) (akp a' b'):=by
 refine SR.bind mK ?_;rintro t1 p q l1 ⟨R,I⟩;rw[R,I];have H:=Y.Hw K;have U:=r.jc _ _ Y.block;have D:(a'.block != b'.block||decide (a'.block>=P.globals.size))=(a.block != b.block||decide (a.block>=P.globals.size)):=by
  rw[bne,bne,H];congr 1;rw[decide_eq_decide];omega
 rw[D];refine ik (fun _=>?_) (fun _=>?_)
 ·exact ig _
 refine SR.bind (vy (Y.mono l1)) ?_;rintro t3 x _ A rfl;refine SR.bind (vy ((K.mono l1).mono A)) ?_;rintro t4 y _ l4 rfl;exact .pure rfl
theorem YC(Y:gq.size=P.globals.size)(k:aB){b b':Addr}(K:Ad r a a')(H:Ad r b b'):SR P V r (Op.addrSub k a b) (Op.addrSub k a' b'):=by
 refine SR.bind (MC Y K H) ?_;rintro t1 x _ l1 rfl;exact .pure (.int _ _)
theorem YD(Y:gq.size=P.globals.size)(op:aH){b b':Addr}(K:Ad r a a')(H:Ad r b b'):SR P V r (Op.addrCmp op a b) (Op.addrCmp op a' b'):=by
 refine SR.bind (MC Y K H) ?_;rintro t1 x _ l1 rfl;cases op<;>first|exact .pure (.bool _)|exact ig _
theorem Nu(k:aB)(Y:Ad r a a')(n:Int):SR P V r (Op.addrMod k a n) (Op.addrMod k a' n):=by
 refine SR.bind (pH Y.block) ?_;rintro t1 x _ l1 rfl;split
 ·refine SR.bind (qW _) ?_;rintro t2 i _ l2 ⟨rfl,_⟩;refine ik (fun _=>?_) (fun _=>?_)
  ·exact ig _
  refine SR.bind (vy ((Y.mono l1).mono l2)) ?_;rintro t4 y _ l4 rfl;exact .pure (.int _ _)
 ·exact ig _
theorem ME(z:∀b,¬gq.ro b)(h:Ad r a a'):SR P ie r (stringish a) (stringish a'):=by
 refine SR.bind (Ci z h) ?_;rintro t1 b _ l1 rfl;refine ik (fun _=>?_) (fun _=>?_)
 ·exact .pure rfl
 ·refine SR.bind (pH (h.mono l1).block) ?_;rintro t2 x _ l2 rfl;split
  ·exact Ci z ⟨(l1.trans l2) _ _ h.block,rfl,rfl⟩
  ·exact .pure rfl
theorem Xr(z:∀b,¬gq.ro b){b b':Addr}(Y:Ad r a a')(K:Ad r b b'):SR P ie r (mayBeOne a b) (mayBeOne a' b'):=by
 refine SR.bind (ME z Y) ?_;rintro t1 x _ l1 rfl;refine SR.bind (ME z (K.mono l1)) ?_;rintro t2 y _ l2 rfl;refine SR.bind (SR.bind (pH ((Y.mono l1).mono l2).block) fun _ _ _ _ e=>by subst e;exact .pure rfl) ?_;rintro t3 u _ H rfl;refine SR.bind (SR.bind (pH (((K.mono l1).mono l2).mono H).block) fun _ _ _ _ e=>by subst e;exact .pure rfl) ?_;rintro t4 u _ l4 rfl;exact .pure rfl
theorem Xs(z:∀b,¬gq.ro b){b b':Addr}(H:Ad r a a')(D:Ad r b b'):SR P ie r (dG a b) (dG a' b'):=by
 unfold dG;rw[H.Hw D,H.eq_iff D];refine ik (fun _=>?_) (fun _=>?_)
 ·exact .pure rfl
 refine SR.bind (Ci z H) ?_;rintro t1 x _ l1 rfl;refine SR.bind (Ci z (D.mono l1)) ?_;rintro t2 y _ l2 rfl;refine ik (fun _=>?_) (fun _=>?_)
 ·exact ig _
 have Y:=(H.mono l1).mono l2;have K:=(D.mono l1).mono l2;refine SR.bind (Gz Y) ?_;rintro t3 _ _ R _;refine SR.bind (Gz (K.mono R)) ?_;rintro t4 _ _ l4 _;refine SR.bind (Xr z ((Y.mono R).mono l4) ((K.mono R).mono l4)) ?_;rintro t5 u _ I rfl;refine ik (fun _=>?_) (fun _=>?_)
 ·refine SR.bind (qY _) ?_;rintro A n _ l6 rfl;exact .pure rfl
 ·exact .pure rfl
theorem Xt(z:∀b,¬gq.ro b){e:ah}(R:P.underlying t=some (.pointer e))(U:V r x x')(C:V r y I):SR P ie r (au t x y) (au t x' I):=by
 refine SR.bind (mG t) ?_;rintro t1 d _ l1 ⟨rfl,hd⟩;rw[R]at hd;obtain rfl:=Option.some.inj hd;have K:=U.mono l1;have Y:=C.mono l1;cases K with
 |nilPtr=>
  cases Y with
  |nilPtr=>exact .pure rfl
  |ptr _=>exact .pure rfl
  |_=>exact gy _
 |ptr H=>
  cases Y with
  |nilPtr=>exact .pure rfl
  |ptr D=>
   refine SR.bind (mM _) ?_;rintro t2 n _ l2 rfl;refine ik (fun _=>?_) (fun _=>?_)
   ·exact Xs z (H.mono l2) (D.mono l2)
   ·rw[(H.mono l2).eq_iff (D.mono l2)];refine ik (fun _=>?_) (fun _=>?_)
    ·exact .pure rfl
    ·refine SR.bind (qY _) ?_;rintro t3 k _ A rfl;exact .pure rfl
  |_=>exact gy _
 |_=>exact gy _
theorem MQ{m:Array _}(K:P.underlying t=some (.interface m))(H:V r x x'):SR P ie r (au t x .nilIface) (au t x' .nilIface):=by
 refine SR.bind (mG t) ?_;rintro t1 d _ l1 ⟨rfl,hd⟩;rw[K]at hd;obtain rfl:=Option.some.inj hd;have Y:=H.mono l1;cases Y with
 |nilIface=>exact .pure rfl
 |iface _ _=>exact .pure rfl
 |_=>exact gy _
end
section
variable[gq]{P:aj}{r:Rn}{α:Type}{A:Rn->α->α->Prop}
def R0(P:aj)(t:ah):Prop:=∃fs,P.underlying t=some (.struct fs)/\P.stoodInHeld t=false/\∀f∈fs.toList,∀d,P.underlying f.type=some d->plainKey d
def AZ(P:aj)(t:ah):Prop:=(∀d,P.underlying t=some d->plainKey d)\/(∃e,P.underlying t=some (.pointer e))\/R0 P t
theorem Oa{Y γ:Type}(f f':γ->Y->Sem (ForInStep Y)):∀{xs:List γ} (b:Y) {r:Rn},(∀t x b,x∈xs->Le r t->SR P ie t (f x b) (f' x b))->SR P ie r (forIn xs b f) (forIn xs b f')
 |[],b,r,h=>.pure rfl
 |x::xs,b,r,h=>by
  rw[ck,ck];refine SR.bind (h r x b (by simp) (.refl _)) ?_;rintro t1 x _ l1 rfl;cases x with
  |done b=>exact .pure rfl
  |yield b=>exact Oa f f' b (fun t x b m l=>h t x b (by simp[m]) (l1.trans l))
theorem Xu(C:gq.size=P.globals.size)(h:R0 P t)(O:V r x x')(Q:V r y I):SR P ie r (au t x y) (au t x' I):=by
 obtain⟨fs,A,U,B⟩:=h;unfold au bh;rw[show(10000:Nat)=9998+1+1 from rfl];rw[aP,aP];refine SR.bind (mG t) ?_;rintro t1 d _ l1 ⟨rfl,hd⟩;rw[A]at hd;cases hd;have Y:=O.mono l1;have K:=Q.mono l1;cases Y with
 |agg D v1=>
  cases K with
  |agg R v2=>
   refine SR.bind mK ?_;rintro t2 p q l2 ⟨M,N⟩;rw[M,N,U];simp only[bm,if_false,<-dH];refine SR.bind (Oa _ _ _ ?_) ?_
   ·intro t3 f b L H;refine ik (fun _=>?_) (fun _=>.pure rfl);refine SR.bind (CQ f.type (VA.mono (l2.trans H) ⟨D,v1⟩) f.offset) ?_;intro t4 a a' l4 F;refine SR.bind (CQ f.type (VA.mono ((l2.trans H).trans l4) ⟨R,v2⟩) f.offset) ?_;intro t5 c c' S J;refine SR.bind (Ns C (B f L) (F.mono S) J 9998) ?_;rintro T o _ l6 ⟨rfl,_⟩;exact ik (fun _=>.pure rfl) (fun _=>.pure rfl)
   ·rintro t3 s _ H rfl;split<;>exact .pure rfl
  |_=>exact gy _
 |_=>exact gy _
theorem Nv(H:gq.size=P.globals.size)(z:(∃e,P.underlying t=some (.pointer e))->∀b,¬gq.ro b)(h:AZ P t)(Y:V r x x')(K:V r y I):SR P ie r (au t x y) (au t x' I):=by
 rcases h with h|⟨e,h⟩|h
 ·exact(O_ H h Y K).imp fun _ _ _ _ q=>q.1
 ·exact Xt (z ⟨e,h⟩) h Y K
 ·exact Xu H h Y K
theorem Ob{s s':Sem Bool}(h:SR P ie r s s'):SR P V r (do pure (cx (<-s))) (do pure (cx (<-s'))):=SR.bind h fun _ _ _ _ e=>by subst e;exact .pure (.bool _)
theorem Pb{s s':Sem Bool}(h:SR P ie r s s'):SR P V r (do pure (cx (!(<-s)))) (do pure (cx (!(<-s')))):=SR.bind h fun _ _ _ _ e=>by subst e;exact .pure (.bool _)
def pI:af->af->Bool
 |.int ..,.int .. |.string _,.string _=>true
 |_,_=>false
theorem binOp_eql(t:ah)(h:pI x y=false)(K:∀k b,x≠.float k b)(Y:∀k a b,x≠.complex k a b):binOp .eql t x y=(do pure (.bool (<-au t x y)))/\binOp .neq t x y=(do pure (.bool (!(<-au t x y)))):=by
 cases x<;>first|exact absurd rfl (K _ _)|exact absurd rfl (Y _ _ _)|(cases y<;>first|exact⟨rfl,rfl⟩|(simp[pI]at h))
theorem V.sc(h:V r x x'):(∀k b,x≠.float k b)/\(∀k a b,x≠.complex k a b):=⟨fun _ _ e=>(by subst e;cases h),fun _ _ _ e=>(by subst e;cases h)⟩
theorem V.R2(h:V r x x')(n:x≠.tuple #[]):(∀k b,x'≠.float k b)/\(∀k a b,x'≠.complex k a b):=by
 cases h with
 |blank _=>exact absurd rfl n
 |_=>exact⟨fun _ _ e=>(by cases e),fun _ _ _ e=>(by cases e)⟩
theorem MR(C:gq.size=P.globals.size){op:aH}(Y:op≠.eql/\op≠.neq)(F:V r x x')(R:V r y I):SR P V r (binOp op t x y) (binOp op t x' I):=by
 cases F with
 |int k a=>
  cases R with
  |int k' b=>
   cases op<;>first|exact absurd rfl Y.1|exact absurd rfl Y.2|exact Pa .shl k a k' b|exact Pa .shr k a k' b|exact ik (fun _=>gy _) (fun _=>Q3 _ _ _ _)|exact ik (fun _=>gy _) (fun _=>ZS _ _ _ _)|exact ik (fun _=>gy _) (fun _=>YB _ _ _ _)|exact ik (fun _=>gy _) (fun _=>Q4 _ _ _)
  |ptr H=>cases op<;>first|exact absurd rfl Y.1|exact absurd rfl Y.2|exact xT t (.ptr H) (.int _ _) ⟨_,rfl⟩|(refine SR.bind (vz H) ?_;rintro t1 ⟨a1,A⟩ ⟨a2,U⟩ l1 ⟨K,_⟩;exact Nu _ K _)|exact ig _|exact gy _
  |nilPtr=>cases op<;>first|exact absurd rfl Y.1|exact absurd rfl Y.2|exact xT t .nilPtr (.int _ _) ⟨_,rfl⟩|exact ig _|exact gy _
  |_=>cases op<;>first|exact absurd rfl Y.1|exact absurd rfl Y.2|exact gy _
 |string a=>
  cases R with
  |string b=>
   have e:binOp op t (.string a) (.string b)=bK op a b:=by cases op<;>rfl
   rw[e];exact Ib op a b
  |ptr H=>cases op<;>first|exact absurd rfl Y.1|exact absurd rfl Y.2|exact ig _|exact gy _
  |nilPtr=>cases op<;>first|exact absurd rfl Y.1|exact absurd rfl Y.2|exact ig _|exact gy _
  |_=>cases op<;>first|exact absurd rfl Y.1|exact absurd rfl Y.2|exact gy _
 |ptr D=>
  cases R with
  |int k b=>
   cases op<;>first|exact absurd rfl Y.1|exact absurd rfl Y.2|exact xT t (.ptr D) (.int _ _) ⟨_,rfl⟩|(refine SR.bind (kg t) ?_;rintro t1 d _ l1 rfl;exact ik (fun _=>L9 t (.ptr (D.mono l1)) (.int _ _) ⟨_,rfl⟩) (fun _=>xT t (.ptr (D.mono l1)) (.int _ _) ⟨_,rfl⟩))|(refine SR.bind (vz D) ?_;rintro t1 ⟨a1,A⟩ ⟨a2,U⟩ l1 ⟨K,_⟩;exact Nu _ K _)|exact ig _|exact gy _
  |ptr H=>
   cases op<;>first|exact absurd rfl Y.1|exact absurd rfl Y.2|(refine SR.bind (vz D) ?_;rintro t1 ⟨a1,A⟩ ⟨a2,U⟩ l1 ⟨K,_⟩;refine SR.bind (vz (H.mono l1)) ?_;rintro t2 ⟨a3,J⟩ ⟨a4,b4⟩ l2 ⟨B,_⟩;first|exact YC C _ (K.mono l2) B|exact YD C _ (K.mono l2) B)|exact ig _|exact gy _
  |_=>cases op<;>first|exact absurd rfl Y.1|exact absurd rfl Y.2|exact ig _|exact gy _
 |nilPtr=>
  cases R with
  |int k b=>cases op<;>first|exact absurd rfl Y.1|exact absurd rfl Y.2|exact xT t .nilPtr (.int _ _) ⟨_,rfl⟩|(refine SR.bind (kg t) ?_;rintro t1 d _ l1 rfl;exact ik (fun _=>L9 t .nilPtr (.int _ _) ⟨_,rfl⟩) (fun _=>xT t .nilPtr (.int _ _) ⟨_,rfl⟩))|exact ig _|exact gy _
  |_=>cases op<;>first|exact absurd rfl Y.1|exact absurd rfl Y.2|exact ig _|exact gy _
 |_=>
  cases R with
  |ptr H=>cases op<;>first|exact absurd rfl Y.1|exact absurd rfl Y.2|exact ig _|exact gy _
  |nilPtr=>cases op<;>first|exact absurd rfl Y.1|exact absurd rfl Y.2|exact ig _|exact gy _
  |_=>cases op<;>first|exact absurd rfl Y.1|exact absurd rfl Y.2|exact gy _
theorem abK(Y:V r x x')(K:V r y I)(h:pI x y=false)(h':pI x' I=true):x=.tuple #[]\/y=.tuple #[]:=by
 cases Y<;>first|exact .inl rfl|(cases K<;>first|exact .inr rfl|(simp[pI]at h h'))
theorem YE(h:AZ P t)(Y:x=.tuple #[]\/y=.tuple #[])(v:ae):∃z v1,(au t x y).run P v=.halt z v1/\rq z:=by
 rcases h with h|⟨e,h⟩|⟨e,h,_⟩
 ·exact MN h Y v
 ·unfold au bh;rw[show(10000:Nat)=9999+1 from rfl];unfold aP underlying program;simp only[bind,Sem.bind,Sem.run,h];rcases Y with rfl|rfl
  ·exact⟨_,_,rfl,.inr ⟨_,rfl⟩⟩
  ·cases x with
   |pointer a=>cases a<;>exact⟨_,_,rfl,.inr ⟨_,rfl⟩⟩
   |_=>exact⟨_,_,rfl,.inr ⟨_,rfl⟩⟩
 ·unfold au bh;rw[show(10000:Nat)=9999+1 from rfl];unfold aP underlying program;simp only[bind,Sem.bind,Sem.run,h];rcases Y with rfl|rfl
  ·exact⟨_,_,rfl,.inr ⟨_,rfl⟩⟩
  ·cases x<;>exact⟨_,_,rfl,.inr ⟨_,rfl⟩⟩
theorem abL(F:gq.size=P.globals.size){op:aH}(U:op=.eql\/op=.neq)(z:(∃e,P.underlying t=some (.pointer e))->∀b,¬gq.ro b)(C:AZ P t)(K:V r x x')(H:V r y I):SR P V r (binOp op t x y) (binOp op t x' I):=by
 by_cases Y:pI x y=true
 ·cases K with
  |int k a=>
   cases H with
   |int k' b=>rcases U with rfl|rfl<;>exact ik (fun _=>gy _) (fun _=>Q4 _ _ _)
   |_=>simp[pI]at Y
  |string a=>
   cases H with
   |string b=>
    have e:binOp op t (.string a) (.string b)=bK op a b:=by cases op<;>rfl
    rw[e];exact Ib op a b
   |_=>simp[pI]at Y
  |_=>simp[pI]at Y
 ·have Y:pI x y=false:=by simpa using Y
  obtain⟨L,M⟩:=binOp_eql t Y K.sc.1 K.sc.2;by_cases A:x=.tuple #[]\/y=.tuple #[]
  ·refine .lost fun v=>?_;obtain⟨q,v1,e,N⟩:=YE C A v;rcases U with rfl|rfl
   ·simp_all
   ·simp_all
  ·have B:pI x' I=false:=by
    cases h:pI x' I with
    |false=>rfl
    |true=>exact absurd (abK K H Y h) A
   have J:=K.R2 fun e=>A (.inl e);obtain⟨D,R⟩:=binOp_eql t B J.1 J.2;rcases U with rfl|rfl
   ·rw[L,D];exact Ob (Nv F z C K H)
   ·rw[M,R];exact Pb (Nv F z C K H)
theorem ZT{op:aH}(U:op=.eql\/op=.neq){m:Array (String×ah)}(D:P.underlying t=some (.interface m))(Y:V r x x'):SR P V r (binOp op t x .nilIface) (binOp op t x' .nilIface):=by
 by_cases R:x=.tuple #[]
 ·subst R;refine .lost fun v=>?_;have e:∃q v1,(au t (.tuple #[]) .nilIface).run P v=.halt q v1/\rq q:=by
   unfold au bh;unfold aP underlying program;simp only[bind,Sem.bind,Sem.run,D];exact⟨_,_,rfl,.inr ⟨_,rfl⟩⟩
  obtain⟨q,v1,e,C⟩:=e;refine⟨q,v1,?_,C⟩;rcases U with rfl|rfl
  ·show(Sem.bind _ _).run P v=_;rw[aT,e];rfl
  ·show(Sem.bind _ _).run P v=_;rw[aT,e];rfl
 ·have tp:∀y,pI y .nilIface=false:=fun y=>by cases y<;>rfl
  obtain⟨A,B⟩:=binOp_eql t (tp x) Y.sc.1 Y.sc.2;have I:=Y.R2 R;obtain⟨K,H⟩:=binOp_eql t (tp x') I.1 I.2;rcases U with rfl|rfl
  ·rw[A,K];exact Ob (MQ D Y)
  ·rw[B,H];exact Pb (MQ D Y)
end
section
variable[gq]{P:aj}{r:Rn}{α:Type}{A:Rn->α->α->Prop}
theorem Pd{K:Type}(f f':af->K->Sem _):∀{xs ys:List _} b {r:Rn},(∀t x x' b,Le r t->V t x x'->SR P ie t (f x b) (f' x' b))->VL r xs ys->SR P ie r (forIn xs b f) (forIn ys b f')
 |_,_,b,r,h,.nil=>.pure rfl
 |_,_,b,r,h,.cons Y rest=>by
  rw[ck,ck];refine SR.bind (h r _ _ b (.refl _) Y) ?_;rintro t1 x _ l1 rfl;cases x with
  |done b=>exact .pure rfl
  |yield b=>exact Pd f f' b (fun t x x' b l=>h t x x' b (l1.trans l)) (VL.mono l1 rest)
theorem VT(Y:V r x x'):SR P V r (ed x) (ed x'):=by
 cases Y with
 |kJ l c=>exact .pure (.string _)
 |slice l c K=>
  refine SR.bind (FZ l K) ?_;intro t1 cs gL l1 H;simp[<-dH];refine SR.bind (Pd _ _ _ ?_ H.toList) ?_
  ·intro t x x' b l Y;cases Y with
   |int k n=>cases k<;>first|exact .pure rfl|exact gy _
   |_=>exact gy _
  ·rintro t2 s _ l2 rfl;exact .pure (.string _)
 |_=>exact gy _
theorem YF(h:r b=some b'):SR P ie r (cellsIn b) (cellsIn b'):=by
 refine SR.bind (pH h) ?_;rintro t1 x _ l1 rfl;split
 ·exact .pure rfl
 ·refine SR.bind (oz (l1 _ _ h)) ?_;intro t2 o o' l2 Y;cases Y<;>exact .pure rfl
theorem Mf(h:Ad r a a')(u:ah)(n:Nat):SR P ie r (variablesAt a u n) (variablesAt a' u n):=by
 refine SR.bind mK ?_;rintro t1 p q l1 ⟨Y,K⟩;rw[Y,K];refine SR.bind (pH (l1 _ _ h.block)) ?_;rintro t2 x _ l2 rfl;rw[h.off];split<;>exact .pure rfl
theorem Oc(h:Ad r a a'):SR P Ad r (Conv.seenAt a) (Conv.seenAt a'):=by
 refine SR.bind (Cj h.block) ?_;rintro t1 x y l1 (⟨rfl,rfl⟩|⟨b,b',u,rfl,rfl,Y⟩)
 ·exact .pure (h.mono l1)
 ·rw[h.off,h.spot];refine ik (fun _=>.pure Y) (fun _=>?_);rw[Y.spot];refine ik (fun _=>?_) (fun _=>?_)
  ·exact ig _
  refine SR.bind mK ?_;rintro t2 p q l2 ⟨K,H⟩;rw[K,H];split
  ·refine SR.bind (pH (l2 _ _ Y.block)) ?_;rintro t3 x _ D rfl;split
   ·refine ik (fun _=>?_) (fun _=>?_)
    ·exact ig _
    rw[Y.off];split
    ·exact .pure ⟨(l2.trans D) _ _ Y.block,rfl,rfl⟩
    ·exact ig _
   ·exact ig _
  ·exact ig _
theorem Gi(z:∀b,¬gq.ro b)(h:Ad r a a')(t:ah):SR P V r (do let b<-newObj (.view a t);pure (.pointer (some ⟨b,0,none⟩))) (do let b<-newObj (.view a' t);pure (.pointer (some ⟨b,0,none⟩))):=
 SR.bind (v_ (.view t (z _) h)) fun _ _ _ _ e=>.pure (.ptr ⟨e,rfl,rfl⟩)
theorem Xv(z:∀b,¬gq.ro b){e:ah}(D:P.underlying src=some (.pointer e))(R:P.underlying dst=some .unsafePointer)(U:V r x x'):SR P V r (bX src dst x) (bX src dst x'):=by
 refine SR.bind (mG src) ?_;rintro t1 d _ l1 ⟨rfl,hd⟩;rw[D]at hd;obtain rfl:=Option.some.inj hd;refine SR.bind (mG dst) ?_;rintro t2 d _ l2 ⟨rfl,hd⟩;rw[R]at hd;obtain rfl:=Option.some.inj hd;have H:=(U.mono l1).mono l2;cases H with
 |nilPtr=>exact .pure .nilPtr
 |ptr I=>
  refine SR.bind (Oc I) ?_;intro t3 s s' B K;refine SR.bind (YF K.block) ?_;rintro t4 n _ l4 rfl;rw[K.off,K.spot];refine SR.bind (mM _) ?_;rintro t5 m _ A rfl;have Y:=(K.mono l4).mono A;refine ik (fun _=>?_) (fun _=>.pure (.ptr Y));exact Gi z Y _
 |_=>exact gy _
theorem Wu(z:∀b,¬gq.ro b){e:ah}(U:P.underlying src=some .unsafePointer)(C:P.underlying dst=some (.pointer e))(F:V r x x'):SR P V r (bX src dst x) (bX src dst x'):=by
 refine SR.bind (mG src) ?_;rintro t1 d _ l1 ⟨rfl,hd⟩;rw[U]at hd;obtain rfl:=Option.some.inj hd;refine SR.bind (mG dst) ?_;rintro t2 d _ l2 ⟨rfl,hd⟩;rw[C]at hd;obtain rfl:=Option.some.inj hd;have D:=(F.mono l1).mono l2;cases D with
 |nilPtr=>exact .pure .nilPtr
 |ptr I=>
  refine SR.bind (Oc I) ?_;intro t3 s s' L R;refine SR.bind (mM _) ?_;rintro t4 m _ l4 rfl;refine SR.bind (Mf (R.mono l4) _ _) ?_;rintro t5 b _ A rfl;have Y:=(R.mono l4).mono A;refine ik (fun _=>.pure (.ptr Y)) (fun _=>?_);refine SR.bind (pH Y.block) ?_;rintro M x _ l6 rfl;split
  ·refine SR.bind mK ?_;rintro N p q B ⟨K,H⟩;rw[K,H];refine SR.bind mK ?_;rintro O p q J ⟨K,H⟩;rw[K,H];refine ik (fun _=>?_) (fun _=>?_)
   ·exact ig _
   ·exact Gi z (((Y.mono l6).mono B).mono J) _
  ·exact ig _
 |_=>exact gy _
inductive uQ(P:aj)(src dst:ah):Prop
 |int {k k':aB}:P.underlying src=some (.int k)->P.underlying dst=some (.int k')->uQ P src dst
 |toStr {e:ah}:P.underlying src=some (.slice e)->P.underlying e=some (.int .u8)->P.underlying dst=some .string->uQ P src dst
 |toBytes {e:ah}:P.underlying src=some .string->P.underlying dst=some (.slice e)->P.underlying e=some (.int .u8)->uQ P src dst
 |toUns {e:ah}:P.underlying src=some (.pointer e)->P.underlying dst=some .unsafePointer->uQ P src dst
 |Qg {e:ah}:P.underlying src=some .unsafePointer->P.underlying dst=some (.pointer e)->uQ P src dst
theorem YG(M:(∃k,P.underlying src=some (.int k))\/(∃e,P.underlying src=some (.slice e))\/∀b,¬gq.ro b)(h:uQ P src dst)(F:V r x x'):SR P V r (convert src dst x) (convert src dst x'):=by
 have A:(∀k,P.underlying src≠some (.int k))->(∀e,P.underlying src≠some (.slice e))->∀b,¬gq.ro b:=fun H R=>by simp_all
 unfold convert;refine SR.bind (mG src) ?_;rintro t1 d1 _ l1 ⟨rfl,Y⟩;refine SR.bind (mG dst) ?_;rintro t2 d2 _ l2 ⟨rfl,K⟩;have D:=(F.mono l1).mono l2;cases h with
 |int H R=>
  rw[H]at Y;obtain rfl:=Option.some.inj Y;rw[R]at K;obtain rfl:=Option.some.inj K;cases D<;>first|exact .pure (.int _ _)|exact ig _|exact gy _
 |toStr H U R=>
  rw[H]at Y;obtain rfl:=Option.some.inj Y;rw[R]at K;obtain rfl:=Option.some.inj K;rename_i e;have I:=D;cases D with
  |int k n=>exact .pure (.string _)
  |string s=>exact .pure (.string _)
  |blank J=>
   refine .lost fun v=>⟨.stuck "bytesToString: slice expected",v,?_,.inr ⟨_,rfl⟩⟩;show(Sem.bind (underlying e) _).run P v=_
   have C:(underlying e).run P v=.ok (.int .u8) v:=by simp[underlying,program,bind,Sem.bind,Sem.run,U,pure]
   rw[aT,C];rfl
  |_=>
   refine SR.bind (mG e) ?_;rintro t3 d _ B ⟨rfl,hd⟩;rw[U]at hd;obtain rfl:=Option.some.inj hd;exact VT (I.mono B)
 |toBytes H R U=>
  have z:=A (fun k x=>by rw[H]at x;cases x) (fun k x=>by rw[H]at x;cases x);rw[H]at Y;obtain rfl:=Option.some.inj Y;rw[R]at K;obtain rfl:=Option.some.inj K;cases D with
  |string s=>
   refine SR.bind (mG _) ?_;rintro t3 d _ B ⟨rfl,hd⟩;rw[U]at hd;obtain rfl:=Option.some.inj hd;exact Wp z _ _
  |_=>first|exact ig _|exact gy _
 |toUns H R=>
  have z:=A (fun k x=>by rw[H]at x;cases x) (fun k x=>by rw[H]at x;cases x);rw[H]at Y;obtain rfl:=Option.some.inj Y;rw[R]at K;obtain rfl:=Option.some.inj K;have I:=D;cases D<;>exact Xv z H R I
 |Qg H R=>
  have z:=A (fun k x=>by rw[H]at x;cases x) (fun k x=>by rw[H]at x;cases x);rw[H]at Y;obtain rfl:=Option.some.inj Y;rw[R]at K;obtain rfl:=Option.some.inj K;have I:=D;cases D<;>exact Wu z H R I
end
section
variable[gq]{P:aj}{r:Rn}{α:Type}{A:Rn->α->α->Prop}
theorem ady(H:V r x x')(Y:V r y I):SR P V r (bF x y) (bF x' I):=by
 cases H with
 |int k a=>
  cases Y with
  |int k' b=>exact .pure (.int _ _)
  |_=>first|exact ig _|exact gy _
 |string a=>
  cases Y with
  |string b=>
   refine SR.bind (Ib .leq a b) ?_;intro t1 u D l1 K;refine SR.bind (N7 K) ?_;rintro t2 c _ l2 rfl;exact .pure (.string _)
  |_=>first|exact ig _|exact gy _
 |ptr a=>exact ig _
 |_=>cases Y<;>first|exact ig _|exact gy _
theorem Qh:∀{xs ys:List _} {r:Rn} {x x':af},VL r xs ys->V r x x'->SR P V r (xs.foldlM bF x) (ys.foldlM bF x')
 |_,_,r,x,x',.nil,Y=>.pure Y
 |_,_,r,x,x',.cons H rest,Y=>by
  refine SR.bind (ady Y H) ?_;intro t1 u D l1 K;exact Qh (VL.mono l1 rest) K
theorem afQ(D:Array _)(t:ah){a a':Array _}(h:VA r a a'):SR P V r (bG D t a) (bG D t a'):=by
 unfold bG;have Y:=h.toList;cases H:a.toList with
 |nil=>exact gy _
 |cons x xs=>
  rw[H]at Y;cases K:a'.toList with
  |nil=>rw[K]at Y;cases Y
  |cons y ys=>
   rw[K]at Y;cases Y with
   |cons R rest=>exact Qh rest R
theorem afR(Y:Array ah)(t:ah)(h:V r x x'):SR P V r (cK Y t #[x]) (cK Y t #[x']):=by
 unfold cK;cases D:Y[0]? with
 |none=>exact gy _
 |some t=>
  refine SR.bind (s:=underlying t) (s':=underlying t) (kg t) ?_;rintro t1 d _ l1 rfl;have K:=h.mono l1;cases d with
  |array n e=>exact .pure (.int _ _)
  |pointer arr=>
   refine SR.bind (kg arr) ?_;rintro t2 d _ l2 rfl;cases d<;>first|exact .pure (.int _ _)|exact gy _
  |slice e=>cases K<;>first|exact .pure (.int _ _)|exact gy _
  |chan dir e=>
   cases K with
   |pM=>exact .pure (.int _ _)
   |chan e=>
    refine SR.bind (oz e) ?_;intro t2 o o' l2 H;cases H<;>exact gy _
   |_=>exact gy _
  |_=>exact gy _
theorem WX(z:∀b,¬gq.ro b)(K:Array _)(t:ah)(h:V r x x'):SR P V r (dY K t #[x]) (dY K t #[x']):=by
 cases h with
 |kJ l c=>exact .pure .nilPtr
 |slice l c Y=>
  refine ik (fun _=>.pure (.ptr Y)) (fun _=>?_);refine SR.bind (Cj Y.block) ?_;rintro t1 x y l1 (⟨rfl,rfl⟩|⟨b,b',u,rfl,rfl,H⟩)
  ·refine SR.bind (Gx t) ?_;rintro t2 e _ l2 rfl;exact Gi z ((Y.mono l1).mono l2) _
  ·exact .pure (.ptr (Y.mono l1))
 |_=>exact gy _
theorem MF:∀n acc {r:Rn} {a a':Addr},Ad r a a'->SR P ie r (loadBytes a acc n) (loadBytes a' acc n)
 |0,acc,r,a,a',h=>.pure rfl
 |n+1,acc,r,a,a',h=>by
  refine SR.bind (CP h) ?_;intro t1 x x' l1 Y;cases Y with
  |int k b=>cases k<;>first|exact MF n _ ((h.mono l1).add 1)|exact gy _
  |_=>exact gy _
theorem VZ(z:∀b,¬gq.ro b)(K:Array _)(t:ah)(h:V r x x')(U:V r y I):SR P V r (bW K t #[x,y]) (bW K t #[x',I]):=by
 have main:∀{p p':Option _},((p=none/\p'=none)\/∃a a',p=some a/\p'=some a'/\Ad r a a')->SR P V r (bW K t #[.pointer p,y]) (bW K t #[.pointer p',I]):=by
  intro p p' R;refine SR.bind (yh U) ?_;rintro t1 n _ l1 rfl;cases K[0]? with
  |none=>exact gy _
  |some pt=>
   refine ik (fun _=>?_) (fun _=>?_)
   ·exact SR.bind (A:=fun _ _ _=>False) (mh trivial) fun _ _ _ _ h=>h.elim
   refine ik (fun _=>?_) (fun _=>?_)
   ·exact ig _
   rcases R with⟨rfl,rfl⟩|⟨a,a',rfl,rfl,H⟩
   ·refine ik (fun _=>.pure (.string _)) (fun _=>?_);exact mh trivial
   ·refine ik (fun _=>.pure (.string _)) (fun _=>?_);refine SR.bind (Gx pt) ?_;rintro t2 e _ l2 rfl;have Y:=(H.mono l1).mono l2;refine SR.bind (Mf Y _ _) ?_;rintro t3 b _ D rfl;refine ik (fun _=>?_) (fun _=>?_)
    ·refine SR.bind (MF _ _ (Y.mono D)) ?_;rintro t4 s _ l4 rfl;refine SR.bind (N6 z ((Y.mono D).mono l4) _) ?_;rintro t5 _ _ B _;exact .pure (.string _)
    ·exact ig _
 cases h with
 |nilPtr=>exact main (.inl ⟨rfl,rfl⟩)
 |ptr H=>exact main (.inr ⟨_,_,rfl,rfl,H⟩)
 |_=>exact gy _
theorem Xw{a a':Array _}(h:VA r a a'):SR P V r (eg a) (eg a'):=by
 obtain⟨l⟩:=a;obtain⟨l'⟩:=a';have Y:=h.toList;cases Y with
 |nil=>exact gy _
 |cons K rest=>
  cases rest with
  |nil=>exact .pure K
  |cons _ _=>exact gy _
theorem YH(h:V r x x'):SR P ie r (eo x) (eo x'):=by
 have D:∀(n:Nat) (acc:ByteArray) {r:Rn} {a a':Addr},Ad r a a'->SR P ie r (ep a n acc) (ep a' n acc):=by
  intro n;induction n with
  |zero=>exact fun acc _ _ _ _=>.pure rfl
  |succ n H=>
   intro acc r a a' h;refine SR.bind (CP h) ?_;intro t1 x x' l1 K;cases K with
   |int k b=>cases k<;>first|exact H _ ((h.mono l1).add 1)|exact gy _
   |_=>exact gy _
 cases h with
 |string s=>exact .pure rfl
 |kJ l c=>exact .pure rfl
 |slice l c Y=>exact D _ _ Y
 |_=>exact gy _
theorem WY{a a':Array _}(h:VA r a a'):SR P V r (ei a) (ei a'):=by
 obtain⟨l⟩:=a;obtain⟨l'⟩:=a';have K:=h.toList;cases K with
 |nil=>exact gy _
 |cons H rest=>
  cases rest with
  |nil=>exact gy _
  |cons D rest=>
   cases rest with
   |nil=>
    rename_i x x' y I;refine SR.bind (YH H) ?_;rintro t1 b _ l1 rfl;have ab:SR P ie t1 (ek y) (ek I):=by
     have Y:=D.mono l1;cases Y with
     |int k n=>cases k<;>first|exact .pure rfl|exact gy _
     |_=>exact gy _
    refine SR.bind ab ?_;rintro t2 c _ l2 rfl;split<;>exact .pure (.int _ _)
   |cons _ _=>exact gy _
theorem VA.digits:∀n t {a a':Array _},VA r a a'->VA r (ej n t a) (ej n t a')
 |0,t,a,a',h=>h
 |n+1,t,a,a',h=>VA.digits n _ (h.push (.int _ _))
theorem Wv(ps rs:Array _){a a':Array _}(h:VA r a a'):SR P V r (cQ ps rs a) (cQ ps rs a'):=by
 obtain⟨l⟩:=a;obtain⟨l'⟩:=a';have H:=h.toList;cases H with
 |nil=>exact gy _
 |cons D rest=>
  cases rest with
  |nil=>
   cases D with
   |int k n=>
    cases k with
    |i64=>
     unfold cQ;cases hr:rs[0]? with
     |none=>exact gy _
     |some t=>
      refine SR.bind (kg t) ?_;rintro t1 d _ l1 rfl;cases d with
      |slice Y=>
       refine ik (fun _=>?_) (fun _=>?_)
       ·exact SR.bind (A:=fun _ _ _=>False) (mh trivial) fun _ _ _ _ h=>h.elim
       refine SR.bind (qY _) ?_;rintro t2 c _ l2 rfl;refine SR.bind (Gh c) ?_;rintro t3 _ _ R _;refine SR.bind (qY _) ?_;rintro t4 b _ l4 rfl;refine SR.bind (vx _ (VA.digits _ _ .nil)) ?_;intro t5 a a' I K;exact .pure (.slice _ _ K)
      |_=>exact gy _
    |_=>exact gy _
   |_=>exact gy _
  |cons _ _=>exact gy _
def Au(P:aj)(name:String):=∀t i m,P.info? t=some i->i.methods.find? (·.name==name)=some m->m.path=#[]/\(∃f,m.func=some (f,false)/\gq.il f)/\∀e,P.underlying t≠some (.pointer e)
theorem ZU(U:Au P name)(n:Nat)(t:ah){v:af}(h:V r v v'):SR P (fun s x y=>x.1=y.1/\gq.il x.1/\V s x.2 y.2) r (method n t v name) (method n t v' name):=by
 cases n with
 |zero=>exact ig _
 |succ n=>
  refine SR.bind (qW t) ?_;rintro t1 i _ l1 ⟨rfl,I⟩;cases D:i.methods.find? _ with
  |none=>exact gy _
  |some m=>
   obtain⟨B,⟨f,Y,R⟩,K⟩:=U t i m I D;simp[B,Y];refine SR.bind (A:=fun s x y=>x=(t,Place.val v)/\y=(t,Place.val v')) (.pure ⟨rfl,rfl⟩) ?_;rintro t2 _ _ l2 ⟨rfl,rfl⟩;refine SR.bind ?_ fun s x y l H=>.pure ⟨rfl,R,H⟩;refine SR.bind (mG t) ?_;rintro t3 d _ C ⟨rfl,hd⟩;cases d with
   |pointer e=>exact absurd hd (K e)
   |_=>exact .pure (((h.mono l1).mono l2).mono C)
end
section
variable[gq]{P:aj}{r:Rn}{α:Type}{A:Rn->α->α->Prop}{bb:Bool}
theorem zS(h:r l=some l'):SR P Lp r (eA l) (eA l'):=by
 refine SR.bind (oz h) ?_;intro t1 o o' l1 Y;cases Y with
 |loop q=>exact .pure q
 |_=>exact gy _
inductive LO(r:Rn):Option Nat->Option Nat->Prop
 |none:LO r none none
 |some {l l':Nat}:r l=some l'->LO r (some l) (some l')
theorem LO.mono{s:Rn}(h:Le r s){a b:Option Nat}(k:LO r a b):LO s a b:=by
 cases k with
 |none=>exact .none
 |some e=>exact .some (h _ _ e)
theorem WZ(fn:a_){tmps Y:Array _}(U:VA r tmps Y)(ps:Array Tmp){ap6 bd:Code}(K:gq.code ap6)(H:gq.code bd){o o':Option Nat}(R:LO r o o'):
  SR P (fun s x y=>s x.1=some y.1/\DL s x.2 y.2) r (cR fn tmps ps ap6 bd o) (cR fn Y ps ap6 bd o'):=by
 unfold cR;have fin:∀{s:Rn} {d d':Nat} {m m':List _},Le r s->s d=some d'->DL s m m'->
   SR P (fun s x y=>s x.1=some y.1/\DL s x.2 y.2) s (do let b<-newObj (.loop {state:=.ready,pending:=none,fn,tmps,params:=ps,assign:=ap6,body:=bd,defers:=d});pure (b,m)) (do let b<-newObj (.loop {state:=.ready,pending:=none,fn,tmps:=Y,params:=ps,assign:=ap6,body:=bd,defers:=d'});pure (b,m')):=by
  intro s d d' m m' l hd D;refine SR.bind (v_ (.loop ⟨rfl,rfl,rfl,rfl,rfl,rfl,U.mono l,hd,(fun c e=>by cases e),K,H⟩)) ?_;intro t b b' l' e;exact .pure ⟨e,D.mono l'⟩
 cases R with
 |none=>
  refine SR.bind (v_ (.deferred (.some .nil))) ?_;intro t1 b b' l1 e;exact fin l1 e (.cons ⟨.collected e,.nil⟩ .nil)
 |some e=>
  refine SR.bind (zS e) ?_;intro t1 q A l1 I;exact fin l1 I.defers .nil
theorem MS:∀{Y:List Tmp} {xs ys:List _} {c c':Array _},VL r xs ys->VA r c c'->
  VA r ((Y.zip xs).foldl (fun tmps p=>tmps.setIfInBounds p.1 p.2) c) ((Y.zip ys).foldl (fun tmps p=>tmps.setIfInBounds p.1 p.2) c')
 |[],_,_,_,_,_,h=>h
 |_::_,_,_,_,_,.nil,h=>h
 |t::Y,_,_,_,_,.cons K rest,h=>by
  simp;exact MS rest (h.set _ K)
theorem VA.round{ps:Array Tmp}{a a' c c':Array _}(h:VA r a a')(k:VA r c c'):
  VA r ((ps.zip a).foldl (fun tmps x=>tmps.setIfInBounds x.1 x.2) c) ((ps.zip a').foldl (fun tmps x=>tmps.setIfInBounds x.1 x.2) c'):=by
 simp only[<-cG,Array.toList_zip];exact MS h.toList k
inductive NX(bb:Bool)(r:Rn):Next->Next->Prop
 |value {v v':af}:V r v v'->NX bb r (.value v) (.value v')
 |skip:NX bb r .skip .skip
 |enter {f:a_} {a a':Array af}:gq.il f->VA r a a'->NX bb r (.enter f a) (.enter f a')
 |defer {d d':aK}:Df r d d'->NX bb r (.defer d) (.defer d')
 |recover:bb=true->NX bb r .recover .recover
 |round {l l':Nat} {f:a_} {t t':Array af} {ap6 bd:Code}:r l=some l'->VA r t t'->gq.code ap6->gq.code bd->NX bb r (.round l f t ap6 bd) (.round l' f t' ap6 bd)
theorem abM(h:r l=some l'){a a':Array _}(K:VA r a a'):SR P (NX bb) r (Instr.yield l a) (Instr.yield l' a'):=by
 refine SR.bind (zS h) ?_;intro t1 q H l1 Y;rw[Y.params,K.size,Y.fn,Y.assign,Y.body];refine ik (fun _=>?_) (fun _=>?_)
 ·exact gy _
 ·exact .pure (.round (l1 _ _ h) (VA.round (K.mono l1) Y.tmps) Y.ca Y.cb)
theorem Ww(h:r l=some l'):SR P ie r (et l) (et l'):=by
 refine SR.bind (zS h) ?_;intro t1 q K l1 Y;refine SR.bind (t_ (l1 _ _ h) (.loop ⟨rfl,Y.pending,Y.fn,Y.params,Y.assign,Y.body,Y.tmps,Y.defers,Y.cp,Y.ca,Y.cb⟩)) ?_;rintro t2 _ _ l2 _;rw[Y.state];cases q.state<;>first|exact .pure rfl|exact mh trivial
theorem Xx(h:r l=some l'){j:Option _}(K:∀c,j=some c->gq.code c):SR P V r (ey l j) (ey l' j):=by
 refine SR.bind (zS h) ?_;intro t1 q H l1 Y;refine SR.bind (t_ (l1 _ _ h) (.loop ⟨rfl,rfl,Y.fn,Y.params,Y.assign,Y.body,Y.tmps,Y.defers,K,Y.ca,Y.cb⟩)) ?_;rintro t2 _ _ l2 _;exact .pure (.bool _)
theorem YI(h:r l=some l'):SR P (fun _ x y=>x=y/\∀c,x=some c->gq.code c) r (ew l) (ew l'):=by
 refine SR.bind (zS h) ?_;intro t1 q K l1 Y;rw[Y.state];refine ik (fun _=>?_) (fun _=>?_)
 ·exact SR.bind (A:=fun _ _ _=>False) (mh trivial) fun _ _ _ _ h=>h.elim
 ·refine SR.bind (t_ (l1 _ _ h) (.loop ⟨rfl,Y.pending,Y.fn,Y.params,Y.assign,Y.body,Y.tmps,Y.defers,Y.cp,Y.ca,Y.cb⟩)) ?_;rintro t2 _ _ l2 _;exact .pure ⟨Y.pending.symm,Y.cp⟩
theorem V0(h:r b=some b'):SR P DL r (eO b) (eO b'):=by
 refine SR.bind (oz h) ?_;intro t1 o o' l1 Y;cases Y with
 |deferred d=>
  cases d with
  |none=>exact gy _
  |some q=>
   refine SR.bind (t_ (l1 _ _ h) (.deferred .none)) ?_;rintro t2 _ _ l2 _;exact .pure (q.mono l2)
 |_=>exact gy _
structure Dq(P:aj)(f:a_)(fn:Func):Prop where
 has:P.funcs[f]?=some fn
 name:(fn.name== "runtime.NumGoroutine")=false
 ext:fn.body=none->Extern.findNext fn=none/\∃e,Extern.find fn=some e/\∀r a a',VA r a a'->SR P V r (e a) (e a')
theorem MT(U:∀f,gq.il f->∃fn,Dq P f fn){f:a_}(h:gq.il f){a a':Array _}(K:VA r a a'):SR P (NX bb) r (callFunc f a) (callFunc f a'):=by
 obtain⟨fn,Y⟩:=U f h;refine SR.bind mK ?_;rintro t1 p q l1 ⟨A,B⟩;rw[A,B];simp[Y.has,Y.name];cases R:fn.body with
 |some c=>exact .pure (.enter h (K.mono l1))
 |none=>
  obtain⟨H,e,D,I⟩:=Y.ext R;simp[H,D];refine SR.bind (.mark _ (.inr ⟨_,rfl⟩) fun _ _=>.pure rfl) ?_;rintro t2 _ _ l2 _;refine SR.bind (I t2 _ _ ((K.mono l1).mono l2)) ?_;intro t3 v v' F C;exact .pure (.value C)
theorem VA.tail{a a':Array _}(h:VA r a a'):VA r (a.extract 1 a.size) (a'.extract 1 a'.size):=by
 rw[<-h.size];exact h.extract 1 _
theorem Wx(H:∀f,gq.il f->∃fn,Dq P f fn)(D:Au P name)(C:V r x x'){a a':Array _}(K:VA r a a'):SR P (NX bb) r (callMethod x name a) (callMethod x' name a'):=by
 cases C with
 |iface t U=>
  refine SR.bind mK ?_;rintro t1 p q l1 ⟨R,I⟩;rw[R,I];refine SR.bind (ZU D _ t (U.mono l1)) ?_;rintro t2 ⟨f,u⟩ ⟨f',B⟩ l2 ⟨e,Y,A⟩;subst e;exact MT H Y ((VA.one A).append ((K.mono l1).mono l2))
 |nilIface=>exact mh (e:=.nilDeref) trivial
 |_=>exact gy _
theorem YJ(H:V r x x'){a a':Array _}(Y:VA r a a'):SR P Df r (bY x a) (bY x' a'):=by
 cases H with
 |func K s1 D R i2=>exact .pure ⟨.fn K.toR ⟨R,i2⟩,VA.append ⟨s1,D⟩ Y⟩
 |nilFunc=>exact .pure ⟨.nil,Y⟩
 |_=>exact gy _
theorem Ck(K:∀f,gq.il f->∃fn,Dq P f fn)(U:∀n,gq.methods n->Au P n)(h:Df r d d')(C:∀b,d.target≠.collected b):SR P (NX bb) r (invoke d.target d.args) (invoke d'.target d'.args):=by
 obtain⟨I,Y⟩:=h;obtain⟨t,a⟩:=d;obtain⟨t',a'⟩:=d';unfold invoke;cases I with
 |fn R D=>
  cases R with
  |func g=>exact MT K g (Y.append D)
  |method g=>
   cases H:a[0]? with
   |none=>exact gy _
   |some x=>
    obtain⟨x',e,A⟩:=Y.get H;rw[e];exact Wx K (U _ g) A Y.tail
  |yield e=>exact abM e Y
 |nil=>exact mh trivial
 |collected e=>exact absurd rfl (C _)
end
section
variable[gq]{P:aj}{r:Rn}{α:Type}{A:Rn->α->α->Prop}{bb:Bool}
def jk:aQ->Prop
 |.tmp _=>True
 |.const v=>∀r,V r v v
 |.global g=>gq.sy g
 |.func f=>gq.il f
def D3:=∀b,¬gq.ro b
def yI:Option aQ->Prop
 |none=>True
 |some x=>jk x
def rS:aH->Bool
 |.eql|.neq=>false
 |_=>true
def R3(P:aj)(t:ah)(y:aQ):=P.eqGuardType P.depth t=false/\((AZ P t/\((∃e,P.underlying t=some (.pointer e))->D3))\/(y=.const .nilIface/\∃m,P.underlying t=some (.interface m)))
def GA(P:aj)(b:Builtin)(K:Array ah)(n:Nat):Prop:=
 match b with
 |.append=>∀Y d,K[1]?=some Y->P.underlying Y=some d->∀k,d≠.int k
 |.cap=>n=1
 |.copy|.len|.min|.recover=>True
 |.unsafeSliceData=>n=1/\D3
 |.unsafeString=>n=2/\D3
 |_=>False
def C2(P:aj)(c:Call):=
 (∀x∈c.args,jk x)/\
 match c.callee with
 |.value f=>jk f
 |.invoke x name=>jk x/\gq.methods name
 |.builtin b=>GA P b c.argTypes c.args.size
def G3(P:aj)(t:ah):=∀k e,P.underlying t=some (.map k e)->∀d,P.underlying k=some d->plainKey d
def D4(P:aj):Op->Prop
 |.move x|.assign x|.box _ x|.load _ x|.nilCheck x|.unOp _ _ x|.makeInterface _ x|.fieldAddr _ x _|.field _ x _|.range _ x|.next x _|.entry x|.extract x _|.panic x=>jk x
 |.pick c a b=>jk c/\jk a/\jk b
 |.alloc _=>True
 |.build _ ps|.buildSlice _ _ ps=>∀p∈ps,jk p.2
 |.store _ a x|.makeSlice _ a x|.indexAddr _ a x|.index _ a x=>jk a/\jk x
 |.binOp op t x y _=>jk x/\jk y/\(rS op=true\/R3 P t y)
 |.convert s d x=>jk x/\uQ P s d/\((∃k,P.underlying s=some (.int k))\/(∃e,P.underlying s=some (.slice e))\/D3)
 |.makeFunc fn first cap=>(∃f,fn=.func f/\gq.il f)/\(∀x∈first,jk x)/\∀x∈cap,jk x
 |.makeMap _ x=>yI x
 |.slice _ x K Y H=>jk x/\yI K/\yI Y/\yI H
 |.lookup t x i _=>jk x/\jk i/\G3 P t
 |.mapUpdate t m k x=>jk m/\jk k/\jk x/\G3 P t
 |.typeAssert x _ a ok=>jk x/\ok=true/\∀ms,P.underlying a≠some (.interface ms)
 |.call c=>C2 P c
 |.defer c=>C2 P c/\∃f,c.callee=.value f
 |_=>False
structure Fit(P:aj):Prop where
 tq:qC P
 jc:gq.size=P.globals.size
 sc:DZ P
 il:∀f,gq.il f->∃fn,Dq P f fn
 D5:∀n,gq.methods n->Au P n
theorem VA.mapOf{l:Array _}{H Y:aQ->af}(h:∀x∈l,V r (H x) (Y x)):VA r (l.map H) (l.map Y):=by
 refine⟨by simp,fun i x x' e e'=>?_⟩;simp only[dK]at e e';cases K:l[i]? with
 |none=>rw[K]at e;cases e
 |some y=>
  rw[K]at e e';simp at e e';rw[<-e,<-e'];exact h y (Array.mem_of_getElem? K)
theorem VO.mapOf{o:Option _}{K Y:aQ->af}(h:∀x,jk x->V r (K x) (Y x))(H:yI o):VO r (o.map K) (o.map Y):=by
 cases o with
 |none=>exact .none
 |some x=>exact .some (h x H)
theorem PL.mapOf{D Y:aQ->af}(h:∀x,jk x->V r (D x) (Y x)){l:Array (Nat×aQ)}(K:∀p∈l,jk p.2):
  PL r (l.map fun x=>(x.1,D x.2)).toList (l.map fun x=>(x.1,Y x.2)).toList:=by
 obtain⟨l⟩:=l;simp;have K:=fun p R=>K p (by simpa using R);rename_i H;clear H;induction l with
 |nil=>exact .nil
 |cons p l A=>exact .cons _ (h _ (K p (by simp))) (A fun q I=>K q (by simp[I]))
theorem jC{s s':Sem _}(h:SR P V r s s'):SR P (NX bb) r (do pure (Next.value (<-s))) (do pure (Next.value (<-s'))):=SR.bind h fun _ _ _ _ e=>.pure (.value e)
theorem Jk{s s':Sem _}(h:SR P ie r s s'):SR P (NX bb) r (do s;pure Next.skip) (do s';pure Next.skip):=SR.bind h fun _ _ _ _ _=>.pure .skip
theorem YK{op:aH}(R:P.eqGuardType P.depth t=false)(x y:aQ){a a' b b':af}(D:V r a a')(H:V r b b'):SR P ie r (cz op t x y a b) (cz op t x y a' b'):=by
 refine ik (fun _=>?_) (fun _=>?_)
 ·exact .pure rfl
 cases D with
 |blank h=>cases a'<;>first|(simp[Hid]at h;done)|exact .pure rfl
 |nilIface=>
  cases H with
  |blank h=>cases b'<;>first|(simp[Hid]at h;done)|exact .pure rfl
  |nilIface=>
   refine ik (fun _=>?_) (fun _=>?_)
   ·exact .pure rfl
   have q:SR P ie r (ako bh t .nilIface .nilIface) (ako bh t .nilIface .nilIface):=by
    refine SR.bind (kg t) ?_;rintro t1 d _ l1 rfl;cases d<;>exact .pure rfl
   refine SR.bind q ?_;rintro t1 b _ l1 rfl;refine ik (fun _=>?_) (fun _=>?_)
   ·exact ig _
   ·exact .pure rfl
  |_=>exact .pure rfl
 |agg A I=>
  cases H with
  |blank h=>cases b'<;>first|(simp[Hid]at h;done)|exact .pure rfl
  |agg ks U=>
   refine SR.bind mK ?_;rintro t1 p q l1 ⟨Y,K⟩;rw[Y,K];refine SR.bind mK ?_;rintro t2 p q l2 ⟨Y,K⟩;rw[Y,K,R];exact .pure rfl
  |_=>exact .pure rfl
 |_=>exact .pure rfl
theorem YL(F:Fit P){b:Builtin}{Y:Array _}{cs:Array _}{a a':Array _}(h:GA P b Y a.size)(hr:b=.recover->bb=true)(K:VA r a a'):SR P (NX bb) r (builtin b Y t cs a) (builtin b Y t cs a'):=by
 cases b with
 |append=>exact jC (ZP F.tq Y t h K)
 |copy=>exact jC (adw Y t K)
 |len=>exact jC (afO Y t K)
 |min=>exact jC (afQ Y t K)
 |recover=>exact .pure (.recover (hr rfl))
 |cap=>
  obtain⟨l⟩:=a;obtain⟨l'⟩:=a';have H:=K.toList;have h:l.length=1:=h;cases H with
  |nil=>simp at h
  |cons D rest=>
   cases rest with
   |nil=>exact jC (afR Y t D)
   |cons _ _=>simp at h
 |unsafeSliceData=>
  obtain⟨h,z⟩:=h;obtain⟨l⟩:=a;obtain⟨l'⟩:=a';have H:=K.toList;cases H with
  |nil=>simp at h
  |cons D rest=>
   cases rest with
   |nil=>exact jC (WX z Y t D)
   |cons _ _=>simp at h
 |unsafeString=>
  obtain⟨h,z⟩:=h;obtain⟨l⟩:=a;obtain⟨l'⟩:=a';have H:=K.toList;cases H with
  |nil=>simp at h
  |cons D rest=>
   cases rest with
   |nil=>simp at h
   |cons R rest=>
    cases rest with
    |nil=>exact jC (VZ z Y t D R)
    |cons _ _=>simp at h
 |_=>exact h.elim
theorem MU(H:V r x x'){a a':Array _}(Y:VA r a a'):SR P (fun s d d'=>Df s d d'/\∀b,d.target≠.collected b) r (bY x a) (bY x' a'):=by
 cases H with
 |func K s1 D R i2=>exact .pure ⟨⟨.fn K.toR ⟨R,i2⟩,VA.append ⟨s1,D⟩ Y⟩,fun b e=>by cases e⟩
 |nilFunc=>exact .pure ⟨⟨.nil,Y⟩,fun b e=>by cases e⟩
 |_=>exact gy _
theorem adz(F:Fit P){D Y:aQ->af}(K:∀x,jk x->V r (D x) (Y x)){c:Call}(h:C2 P c)(hr:c.callee=.builtin .recover->bb=true)(t:ah):SR P (NX bb) r (do let d<-resolve D c t;invoke d.target d.args) (do let d<-resolve Y c t;invoke d.target d.args):=by
 obtain⟨A,H⟩:=h;have R:=VA.mapOf fun x U=>K x (A x U);unfold resolve;cases I:c.callee with
 |builtin b=>
  rw[I]at H;exact YL F (by simp_all) (fun e=>hr (by simp_all)) R
 |invoke x name=>
  rw[I]at H;exact Ck F.il F.D5 (d:={target:=.fn _ #[],args:=#[D x]++c.args.map D}) (d':={target:=.fn _ #[],args:=#[Y x]++c.args.map Y}) ⟨.fn (.method H.2) .nil,(VA.one (K x H.1)).append R⟩ (fun b e=>by cases e)
 |value f=>
  rw[I]at H;exact SR.bind (MU (K f H) R) fun t1 d d' l1 hd=>Ck F.il F.D5 hd.1 hd.2
theorem Od(F:Fit P){M H:aQ->af}(Y:∀x,jk x->V r (M x) (H x))(C:∀v,M (.const v)=v/\H (.const v)=v)(o:Oper)(h:D4 P o.op)(hr:∀c,o.op=.call c->c.callee=.builtin .recover->bb=true):SR P (NX bb) r (execOp M o) (execOp H o):=by
 obtain⟨dst,op,O,pos,after,guard⟩:=o;unfold execOp;simp only at h⊢;cases op with
 |move x=>exact .pure (.value (Y x h))
 |assign x=>exact .pure (.value (Y x h))
 |pick c a b=>
  refine SR.bind (N7 (Y c h.1)) ?_;rintro t1 t _ l1 rfl;cases t
  ·exact .pure (.value ((Y b h.2.2).mono l1))
  ·exact .pure (.value ((Y a h.2.1).mono l1))
 |alloc e=>exact jC (abz F.tq e)
 |box e x=>exact jC (afN e (Y x h))
 |build t ps=>exact jC (abF F.tq t (PL.mapOf Y h))
 |buildSlice t n ps=>exact jC (Wq F.tq t n (PL.mapOf Y h))
 |load t a=>exact jC (ZN t (Y a h))
 |store t a x=>exact Jk (Yu t (Y a h.1) (Y x h.2))
 |nilCheck x=>
  have K:=Y x h;simp only;generalize M x=u at K⊢;generalize H x=W at K⊢;cases K with
  |blank h=>
   cases W with
   |pointer a=>cases a<;>first|(simp[Hid]at h;done)|exact SR.pure (A:=NX bb) (NX.value (V.blank (y:=.pointer (some _)) rfl))
   |_=>first|(simp[Hid]at h;done)|exact SR.pure (A:=NX bb) (NX.value (V.blank h))
  |nilPtr=>exact mh (e:=.nilDeref) trivial
  |nilIface=>exact mh (e:=.nilDeref) trivial
  |nilFunc=>exact mh (e:=.nilDeref) trivial
  |func B s1 E G i2=>
   have N:=V.func B s1 E G i2;cases B with
   |func _=>exact .pure (.value N)
   |yield _=>exact .pure (.value N)
  |ptr a=>exact .pure (.value (.ptr a))
  |bool=>exact .pure (.value (.bool _))
  |int=>exact .pure (.value (.int _ _))
  |string=>exact .pure (.value (.string _))
  |kJ=>exact .pure (.value (.kJ _ _))
  |slice l c a=>exact .pure (.value (.slice l c a))
  |oD=>exact .pure (.value .oD)
  |map e=>exact .pure (.value (.map e))
  |pM=>exact .pure (.value .pM)
  |chan e=>exact .pure (.value (.chan e))
  |iface t h=>exact .pure (.value (.iface t h))
  |agg s i=>exact .pure (.value (.agg s i))
  |tuple s i=>exact .pure (.value (.tuple s i))
 |binOp op t x y p=>
  obtain⟨R,D,I⟩:=h;have K:=Y x R;have J:=Y y D;rcases I with I|⟨Z,I⟩
  ·refine jC (SR.bind (A:=ie) ?_ fun t1 _ _ l1 _=>MR F.jc ⟨fun e=>(by subst e;simp[rS]at I),fun e=>(by subst e;simp[rS]at I)⟩ (K.mono l1) (J.mono l1));unfold cz;cases op<;>first|exact .pure rfl|simp[rS]at I
  ·by_cases U:rS op=true
   ·refine jC (SR.bind (A:=ie) ?_ fun t1 _ _ l1 _=>MR F.jc ⟨fun e=>(by subst e;simp[rS]at U),fun e=>(by subst e;simp[rS]at U)⟩ (K.mono l1) (J.mono l1));unfold cz;cases op<;>first|exact .pure rfl|simp[rS]at U
   ·have U:op=.eql\/op=.neq:=by cases op<;>first|exact .inl rfl|exact .inr rfl|simp[rS]at U
    refine jC (SR.bind (YK Z x y K J) fun t1 _ _ l1 _=>?_);rcases I with⟨T,z⟩|⟨rfl,m,X⟩
    ·exact abL F.jc U z T (K.mono l1) (J.mono l1)
    ·rw[(C .nilIface).1,(C .nilIface).2];exact ZT U X (K.mono l1)
 |unOp op t x=>exact jC (abJ op (Y x h))
 |convert s d x=>exact jC (YG h.2.2 h.2.1 (Y x h.1))
 |makeInterface t x=>exact jC (VS t (Y x h))
 |makeFunc fn first cap=>
  obtain⟨⟨f,rfl,B⟩,R,D⟩:=h;exact jC (Xm (.func B) (VA.mapOf fun x K=>Y x (R x K)) (VA.mapOf fun x K=>Y x (D x K)))
 |makeMap t x=>exact jC (Yz t (VO.mapOf Y h))
 |makeSlice t l c=>exact jC (WU F.tq t (Y l h.1) (Y c h.2))
 |slice t x j q g=>exact jC (Yy t (Y x h.1) (VO.mapOf Y h.2.1) (VO.mapOf Y h.2.2.1) (VO.mapOf Y h.2.2.2))
 |fieldAddr t x f=>exact jC (Yw t (Y x h) f)
 |field t x f=>exact jC (abA t (Y x h) f)
 |indexAddr t x i=>exact jC (Yx t (Y x h.1) (Y i h.2))
 |index t x i=>exact jC (abB t (Y x h.1) (Y i h.2))
 |lookup t x i ok=>exact jC (ZR F.tq F.jc h.2.2 (Y x h.1) (Y i h.2.1) ok)
 |mapUpdate t m k x=>exact Jk (WW F.jc h.2.2.2 (Y m h.1) (Y k h.2.1) (Y x h.2.2.1))
 |range t x=>exact jC (abG t (Y x h))
 |next x b=>exact jC (adx (Y x h) b O)
 |entry x=>exact jC (abI (Y x h))
 |typeAssert x t a ok=>
  obtain⟨R,rfl,D⟩:=h;exact jC (Wt F.tq (Y x R) t a D)
 |extract x i=>exact jC (Yv (Y x h) i)
 |panic x=>exact jC (YA (Y x h))
 |call c=>exact adz F Y h (hr c rfl) O
 |defer c=>
  obtain⟨⟨R,D⟩,f,C⟩:=h;have L:=VA.mapOf fun x K=>Y x (R x K);obtain⟨S,args,Q⟩:=c;simp only at C L D;subst C;refine SR.bind (YJ (Y f D) L) ?_;intro t1 d d' l1 hd;exact .pure (.defer hd)
 |_=>exact h.elim
end
structure A9(A B:gq):Prop where
 size:A.size=B.size
 il:∀f,A.il f->B.il f
 methods:∀n,A.methods n->B.methods n
 code:∀c,A.code c->B.code c
 ro:∀b,A.ro b↔B.ro b
 jy:∀b i,B.jy b i->A.jy b i
def oE{A B:gq}(h:A9 A B)(r:@Rn A):@Rn B:=@Rn.mk B (@Rn.f A r) (@Rn.inj A r) (fun b c e=>by rw[<-h.size];exact @Rn.jc A r b c e)
section
variable{A B:gq}(h:A9 A B){r:@Rn A}
include h
theorem C3(k:@Ad A r a a'):@Ad B (oE h r) a a':=by
 obtain⟨Y,K,H⟩:=k;exact @Ad.mk B _ _ _ Y K H
theorem adA{f f':Fn}(k:@qc A r f f'):@qc B (oE h r) f f':=by
 cases k with
 |func g=>exact @qc.func B _ _ (h.il _ g)
 |yield e=>exact @qc.yield B _ _ _ e
theorem adB{f f':Fn}(k:@qb A r f f'):@qb B (oE h r) f f':=by
 cases k with
 |func g=>exact @qb.func B _ _ (h.il _ g)
 |method g=>exact @qb.method B _ _ (h.methods _ g)
 |yield e=>exact @qb.yield B _ _ _ e
theorem IP(k:@V A r x y):@V B (oE h r) x y:=by
 induction k with
 |blank e=>exact .blank e
 |bool b=>exact .bool b
 |int k n=>exact .int k n
 |string s=>exact .string s
 |nilPtr=>exact .nilPtr
 |ptr a=>exact .ptr (C3 h a)
 |kJ l c=>exact .kJ l c
 |slice l c a=>exact .slice l c (C3 h a)
 |oD=>exact .oD
 |map e=>exact .map e
 |pM=>exact .pM
 |chan e=>exact .chan e
 |func n s1 _ K _ Y i2=>exact .func (adA h n) s1 Y K i2
 |nilFunc=>exact .nilFunc
 |iface t _ i=>exact .iface t i
 |nilIface=>exact .nilIface
 |agg s _ i=>exact .agg s i
 |tuple s _ i=>exact .tuple s i
theorem uz{c c':Array _}(k:@VA A r c c'):@VA B (oE h r) c c':=by
 obtain⟨Y,K⟩:=k;exact @VA.mk B _ _ _ Y fun i x x' e e'=>IP h (K i x x' e e')
theorem afS{e e':ax}(k:@En A r e e'):@En B (oE h r) e e':=by
 obtain⟨Y,K,H⟩:=k;exact @En.mk B _ _ _ (IP h Y) (IP h K) H
theorem afT{t t':cw}(k:@Tg A r t t'):@Tg B (oE h r) t t':=by
 cases k with
 |fn f c=>exact .fn (adB h f) (uz h c)
 |nil=>exact .nil
 |collected e=>exact .collected e
theorem afU{d d':List _}(k:@DL A r d d'):@DL B (oE h r) d d':=by
 induction k with
 |nil=>exact .nil
 |cons x _ H=>
  obtain⟨Y,K⟩:=x;exact .cons ⟨afT h Y,uz h K⟩ H
theorem ahA(k:@O A r o o'):@O B (oE h r) o o':=by
 cases k with
 |loop l=>
  obtain⟨a1,a2,a3,a4,a5,Y,K,H,a9,D,R⟩:=l;exact .loop ⟨a1,a2,a3,a4,a5,Y,uz h K,H,fun c e=>h.code _ (a9 c e),h.code _ D,h.code _ R⟩
 |view t n a=>exact .view t (fun y=>n ((h.ro _).2 y)) (C3 h a)
 |number l a=>exact .number l (C3 h a)
 |deferred d=>
  cases d with
  |none=>exact .deferred .none
  |some x=>exact .deferred (.some (afU h x))
 |cells e fz a=>exact .cells e fz (uz h a)
 |map I C U=>exact .map I C fun i x x' e e'=>afS h (U i x x' e e')
 |stringIter s p=>exact .stringIter s p
 |qm a s n=>exact .qm a s n
 |mapIter a s n e=>exact .mapIter a s n e
theorem afV(k:@OB A r b o o'):@OB B (oE h r) b o o':=by
 cases k with
 |same n o=>exact .same (fun y=>n ((h.ro _).2 y)) (ahA h o)
 |ro e n a Y=>exact .ro e ((h.ro _).1 n) (uz h a) fun i K=>Y i (h.jy _ _ K)
theorem IQ{c:Nat}{v:ae}(k:@W A r c v w):@W B (oE h r) c v w:=by
 obtain⟨D,R,I,U,C,F⟩:=k;refine @W.mk B _ _ _ _ (fun b b' e=>?_) (by rw[<-h.size];exact R) (by rw[<-h.size];exact I) (fun b J=>U b ((h.ro b).2 J)) C F;obtain⟨o,o',Y,K,H⟩:=D b b' e;exact⟨o,o',Y,K,afV h H⟩
end
end Ren
end Go.Proofs.YtdcjnhipenbcfaaGreatDoor
