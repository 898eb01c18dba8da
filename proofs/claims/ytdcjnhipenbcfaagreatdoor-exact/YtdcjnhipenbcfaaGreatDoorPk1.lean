/-
  Own text. Part 1 of what the claim rests on.
-/
import Derived.Test.YtdcjnhipenbcfaaGreatDoorProg
import Derived.WalkKit
import Derived.WalkSpells
import Derived.WalkLawsBesides
import Derived.Deep.Light
import Derived.Lib.LaidTab
import Derived.Lib.ItoaNum
import Derived.Below
import Derived.Laws.MakeOwn
import Derived.Laws.OwnMore
import Derived.Laws.IdiomStrings
import Derived.Deep.RegionHeld3
import Derived.Deep.QuietTactic
import Derived.BigQuiet
import Derived.RegionTactic
import Derived.Lib.Builder
import Derived.OwnWalk
import Derived.Lib.MinMax
import Derived.ChangeAlike
import Derived.RegionDies
import Derived.Defers
import Derived.Recover
import Derived.Handy
import Derived.Test.YtdcjnhipenbcfaaGreatDoorRows
import Derived.ProofKit
import Derived.LaidMore
import Derived.Stop.Joined
import Derived.Lib.LaidU8
import GoSem.Step
import Derived.Laws.Sem
import Derived.StepT
set_option linter.unusedVariables false
set_option linter.unusedSectionVars false
set_option linter.unusedSimpArgs false
set_option maxRecDepth 100000
set_option maxHeartbeats 16000000
open Array renaming getElem?_eq_some_iff->aB,getElem?_push->aU,mem_append->bA,mem_map->bB,replicate->bC,toList_extract->bD
open Bool renaming not_eq_true->af,false_eq_true->aK,noConfusion->aL,and_eq_true->aV,not_true->bF
open ByteArray renaming data_extract->bH,size_extract->bI
open Except.ok renaming injEq->aW
open Go.Builtin renaming min_->bG
open Go.ByteArray renaming toList_eq->bJ
open Go.Calls renaming quiet_of->ah,quiet_of_same->aj
open Go.Instr renaming makeSlice->aX
open Go.IntKind renaming i64->ak
open Go.IntWalk renaming i64_in->ar
open Go.Lib renaming TabIs->aZ,pow10Tab->bK
open Go.Program renaming globalNamed->bY
open Go.Proofs.Tryz renaming f138->aH,func70->bj,func94->bk,ntmps70->bm,ntmps94->bp,func165->bZ,ntmps165->b_,ntmps41->cf,ntmps44->cg,ntmps50->cj,ntmps61->ck,ntmps72->cm,results41->cn,results61->cu,underlying79->cv
open Go.RowKit.Below renaming refl->aA,heap_alloc->bE
open Go.Sem renaming runT->au
open Go.Value renaming int->ax,ofBytes->br,nilIface->cx
open Go.World renaming cell?_setCell_other->ao,cell?->aI,cell?_alloc_past->aJ,cell?_setCell_same->aT,cell?_alloc_at->bt,viewStore->bu,farStore->cy,freeze->cA,frozen?->cB,noCell->cC,viewLoad->cD
open Int renaming natCast_nonneg->aY
open List renaming append_assoc->aM,getElem?_eq_getElem->aN,drop_eq_getElem_cons->a_,length_cons->bc,replicate->bg,flatMap_cons->bL,getD_eq_getElem?_getD->bM,getElem?_range->bN,length_append->bO,map_append->bP,mem_map->bQ,mem_toArray->bR,replicate_succ->bS,take_of_length_le->bT,take_succ_eq_append_getElem->bU
open MonadExcept renaming throw->aO
open MonadExceptOf renaming throw->aP
open Nat renaming le_refl->ae,le_trans->ai,zero_le->ay,lt_of_lt_of_le->az,lt_or_ge->aD,eq_zero_or_pos->aQ,le_of_eq->bV,lt_succ_self->bW,sub_self->bX
open Option.some renaming injEq->bh
open UInt8 renaming ofNat->bq,toNat_ofNat'->cw
namespace Go.Proofs.YtdcjnhipenbcfaaGreatDoor
variable {a a' at_:Addr}{cs gM:Array Value}{p s t:ByteArray}{d d':Deferred}{least:Int}{k:IntKind}{l:List Addr}{L:List UInt8}{B G b b' i j n q u y z:Nat}{o o':Obj}{P:Program}{T e:TypeId}{like u0 I x x':Value}{v1 w w':World}
section
open RowKit
theorem yJ{a b:Int}(h:a=b):Ending.returned (.int k a)=.returned (.int k b):=by rw[h]
theorem nW{a b:Bool}(h:a=b):Ending.returned (.bool a)=.returned (.bool b):=by rw[h]
def oW(n:Int):=if 97<=n/\n<=122 then n-32 else n
def Ko(n:Int):=decide (oW n=65)||decide (oW n=67)||decide (oW n=71)||decide (oW n=84)||decide (oW n=78)
def qm(n:Int):Int:=if n=65 then 84 else if n=84 then 65 else if n=67 then 71 else if n=71 then 67 else 78
theorem O0(n:Int)(H:0<=n)(D:n<=255)(w:World):
  Calls Tryz.prog 97 #[.int .u8 n] w fun e w'=>e=.returned (.int .u8 (oW n))/\w'=w:=by
 by_cases Y:97<=n
 ·by_cases K:n<=122
  ·go_wp2
   go_ret
   exact⟨yJ (by unfold oW;rw[if_pos ⟨Y,K⟩];omega),rfl⟩
  ·go_wp2
   go_ret
   exact⟨yJ (by unfold oW;rw[if_neg (by omega)]),rfl⟩
 ·go_enter Tryz.func97,Tryz.ntmps97
  go_wp2
  go_ret
  exact⟨yJ (by unfold oW;rw[if_neg (by omega)]),rfl⟩
theorem Y4(n:Int)(Y:0<=n)(K:n<=255)(w:World):
  Calls Tryz.prog 71 #[.int .u8 n] w fun e w'=>e=.returned (.bool (Ko n))/\w'=w:=by
 go_enter Tryz.func71,Tryz.ntmps71
 go_wp2_with(refine(O0 _ Y K _).mono ?_;rintro e w' ⟨rfl,rfl⟩)
 all_goals go_ret
 all_goals(exact⟨nW (by simp_all[Ko]),rfl⟩)
theorem Ya(n:Int)(Y:0<=n)(K:n<=255)(w:World):
  Calls Tryz.prog 79 #[.int .u8 n] w fun e w'=>e=.returned (.int .u8 (qm n))/\w'=w:=by
 go_wp2
 all_goals go_ret
 all_goals(exact⟨yJ (by simp_all[qm]),rfl⟩)
theorem Ra{a b:ByteArray}(h:a=b):Ending.returned (.string a)=.returned (.string b):=by rw[h]
def gb(b:UInt8):=bq (oW b.toNat).toNat
def iM(b:UInt8):=Ko b.toNat
def pb(b:UInt8):=bq (qm b.toNat).toNat
theorem AB(b:UInt8):0<=(b.toNat:Int):=by omega
theorem yK(b:UInt8):(b.toNat:Int)<=255:=by have:=b.toNat_lt;omega
theorem laid{p:Prop}(h:p):Hid p:=h
def iU(w:World):=aZ Tryz.prog w "internal/strconv.uint64pow10" .u64 bK
theorem iU.on(h:iU w)(H:Below w.heap.size w w'):iU w':=by
 unfold iU aZ World.var? at *;cases K:bY _ _ with
 |none=>simp[K]at h
 |some g=>
  simp[K,Option.bind_some]at h⊢;have Y:g<w.heap.size:=by
   rcases aD g _ with h'|h'
   ·omega
   ·simp_all
  rw[H.block g Y];exact h
def str(l:List UInt8):ByteArray:=⟨l.toArray⟩
theorem gV(l:List _):(str l).size=l.length:=rfl
theorem pX(l m:List _):str l++str m=str (l++m):=by
 apply ByteArray.ext;simp[str]
theorem H_(l:List _)(b:UInt8):str l++⟨#[b]⟩=str (l++[b]):=pX l [b]
theorem Hm(s:ByteArray):s.data.toList.length=s.size:=by simp
theorem O1(s:ByteArray)(k:Nat)(h:k<s.size):s.data.toList.take (k+1)=s.data.toList.take k++[s[k]]:=by
 rw[bU _];rfl
theorem iY{a b:Int}(h:a=b):ax k a=ax k b:=by rw[h]
theorem AD{a b:ByteArray}(h:a=b):Value.string a=Value.string b:=by rw[h]
def g_(s:ByteArray)(j:Nat):=str ((s.data.toList.drop j).map pb).reverse
theorem Ct(s:ByteArray)(j:Nat):(g_ s j).size<=s.size:=by
 unfold g_;rw[gV];simp
theorem drop_cons(s:ByteArray)(k:Nat)(h:k<s.size):s.data.toList.drop k=s[k]::s.data.toList.drop (k+1):=by
 rw[a_ _];rfl
theorem Y5(s:ByteArray)(j:Nat)(h:j<s.size):g_ s (j+1)++⟨#[pb s[j]]⟩=g_ s j:=by
 unfold g_;rw[drop_cons s j h,H_];simp
theorem aj3(b:UInt8)(h:((b.toNat:Int)==65)=true):pb b=84:=by
 have h':=eq_of_beq h;unfold pb qm;simp_all
theorem aj4(b:UInt8)(h:((b.toNat:Int)==84)=true):pb b=65:=by
 have h':=eq_of_beq h;unfold pb qm;simp_all
theorem aj5(b:UInt8)(h:((b.toNat:Int)==67)=true):pb b=71:=by
 have h':=eq_of_beq h;unfold pb qm;simp_all
theorem aj6(b:UInt8)(h:((b.toNat:Int)==71)=true):pb b=67:=by
 have h':=eq_of_beq h;unfold pb qm;simp_all
theorem aj7(b:UInt8)(Y:((b.toNat:Int)==65)=false)(H:((b.toNat:Int)==84)=false)(R:((b.toNat:Int)==67)=false)(A:((b.toNat:Int)==71)=false):pb b=78:=by
 have K:=beq_eq_false_iff_ne.1 Y;have D:=beq_eq_false_iff_ne.1 H;have I:=beq_eq_false_iff_ne.1 R;have U:=beq_eq_false_iff_ne.1 A;unfold pb qm;simp_all
def TT(s:ByteArray)(t i:Value):=
 (i=.int .i64 (-1)/\t=.string (g_ s 0))\/∃j:Nat,j<s.size/\i=.int .i64 j/\t=.string (g_ s (j+1))
theorem As(s:ByteArray)(j:Nat)(h:j<s.size)(c:UInt8)(Y:pb s[j]=c):TT s (.string (g_ s (j+1)++⟨#[c]⟩)) (.int .i64 (j-1)):=by
 subst Y;rw[Y5 s j h];rcases aQ j with rfl|K
 ·exact .inl ⟨rfl,rfl⟩
 ·exact .inr ⟨j-1,by omega,iY (by omega),by rw[show j-1+1=j by omega]⟩
def rJ(s:ByteArray):=if 200<s.size then⟨#[]⟩else if s.data.toList.all iM then g_ (str (s.data.toList.map gb)) 0 else⟨#[]⟩
def tS(s:ByteArray):Int:=if 200<s.size then 1 else if s.data.toList.all iM then 0 else 5
theorem infoByte:(Tryz.prog.info? 5).map (fun i=>(i.zero,i.size,i.bytes))=some (some (.int .u8 0),1,1):=by kernel_rfl
def bv(b:UInt8):Value:=.int .u8 (b.toNat:Int)
def qV(l:List _)(m:Nat):=(l.map bv++bg m (ax .u8 0)).toArray
def vi(m:Nat)(l:List _):=(bg m (ax .u8 0)++l.map bv).toArray
theorem Ol(n:Nat)(R:n<=1000)(w:World):
  (aX 79 (.int .i64 n) (.int .i64 n)).run Tryz.prog w=.ok (.slice (some ⟨w.heap.size,0,none⟩) n n) (w.alloc (.cells (qV [] n) 5)):=by
 have h:=infoByte;rcases Y:Tryz.prog.info? 5 with _|i
 ·simp_all
 ·rw[Y]at h;simp at h;obtain⟨D,K,H⟩:=h;have:=run_makeSlice w 79 5 i _ cv Y D .i64 .i64 n n (by omega) (by omega) (by rw[K];omega) (by rw[H];omega) (by omega);rw[this];have e:madeCells (ax IntKind.u8 0).cells ((n:Int).toNat *i.size)=qV [] n:=by
   apply Array.ext';rw[K];show(madeCells #[ax _ 0] _).toList=_
   have:=toList_madeCells_one (.int .u8 0) n;simpa[qV]using this
  simp_all
theorem Om(l:List _)(n:Nat)(H:l.length=n)(C:Array _)(Y:C=(l.map bv).toArray)(w:World)(cap:Nat):
  (convert 79 9 (.slice (some ⟨w.heap.size,0,none⟩) n cap)).run Tryz.prog (w.alloc (.cells C 5))=.ok (.string (str l)) (w.alloc (.cells C 5)):=by
 subst H Y;refine run_convert_bytes_back _ 79 9 5 _ cap l cv Tryz.underlying5 Tryz.underlying9 ?_;intro j K;have:(⟨w.heap.size,0,none⟩:Addr).add j=⟨w.heap.size,j,none⟩:=by unfold Addr.add;simp_all
 rw[this,bt _ _ _ _ rfl];simp[bv,K]
theorem aes(l:List _)(m k:Nat)(hk:k=l.length)(Y:0<m):(qV l m)[k]?=some (.int .u8 0):=by
 subst hk;unfold qV;simp_all
theorem acf(l:List _)(m k:Nat)(hk:k=l.length)(K:0<m)(b:UInt8)(v:Value)(Y:v=bv b):(qV l m).setIfInBounds k v=qV (l++[b]) (m-1):=by
 subst hk Y;cases m with
 |zero=>omega
 |succ m=>
  simp[qV,bS]
def gl(s:ByteArray)(k:Nat):=(s.data.toList.take k).map gb
theorem Se(s:ByteArray)(k:Nat)(h:k<=s.size):(gl s k).length=k:=by
 unfold gl;simp;omega
theorem aeu(s:ByteArray)(k:Nat)(h:k<s.size):gl s (k+1)=gl s k++[gb s[k]]:=by
 unfold gl;rw[O1 s k h];simp
theorem agA(s:ByteArray)(k:Nat)(h:s.size<=k):gl s k=s.data.toList.map gb:=by
 unfold gl;rw[bT (by exact h)]
theorem agB(b:UInt8):0<=oW b.toNat/\oW b.toNat<=255:=by
 have:=yK b;unfold oW;omega
theorem agC(b:UInt8):((gb b).toNat)=oW b.toNat:=by
 have h:=agB b;unfold gb;rw[cw];omega
def uS(s:ByteArray)(k:Nat):=qV (gl s k) (s.size-k)
theorem aaw(s:ByteArray)(k:Nat)(h:k<s.size):(uS s k)[k]?=some (.int .u8 0):=
 aes _ _ _ (Se s k (by omega)).symm (by omega)
theorem Y6(s:ByteArray)(k:Nat)(h:k<s.size):(uS s k).setIfInBounds k (.int .u8 (oW s[k].toNat))=uS s (k+1):=by
 unfold uS;rw[acf _ _ _ (Se s k (by omega)).symm (by omega) _ _ (by unfold bv;rw[agC]),<-aeu s k h];congr 1
theorem Y7(s:ByteArray)(k:Nat)(h:s.size<=k):uS s k=((s.data.toList.map gb).map bv).toArray:=by
 unfold uS qV;rw[agA s k h,show s.size-k=0 by omega];simp
theorem Gs(s:ByteArray)(w:World)(R:s.size<=200):
  Calls Tryz.prog 67 #[.string s] w fun e w'=>e=.returned (.string (str (s.data.toList.map gb)))/\Below w.heap.size w w':=by
 have K:=Ol s.size (by omega);go_wp2
 clear K
 go_loopw [10] (fun i wr=>∃k:Nat,k<=s.size/\i=.int .i64 k/\wr=w.alloc (.cells (uS s k) 5)) (fun i _=>s.size-(intOf i).toNat)
 case atStart=>exact⟨0,ay _,rfl,rfl⟩
 case round=>
  obtain⟨k,hk,rfl,rfl⟩:=hrel;by_cases Y:k<s.size
  ·have H:=aaw s k Y;go_wp2_with(go_at_call 97;refine(O0 _ (AB _) (yK _) _).mono ?_;rintro e w' ⟨rfl,rfl⟩)
   go_roundw
   case rel=>go_light;exact⟨k+1,by omega,by go_num,by rw[Y6 s k Y]⟩
   case measure=>go_light;simp[intOf];omega
  ·have D:=Om (s.data.toList.map gb) s.size (by simp) (uS s k) (Y7 s k (by omega)) w s.size;go_wp2
   go_ret
   exact⟨rfl,(aA _ _).alloc (ae _) _⟩
theorem aev(n:Int):0<=qm n/\qm n<=255:=by
 unfold qm;omega
theorem agD(b:UInt8):((pb b).toNat)=qm b.toNat:=by
 have h:=aev b.toNat;unfold pb;rw[cw];omega
theorem aew(m:Nat)(l:List _)(k:Nat)(hk:k+1=m):(vi m l)[k]?=some (.int .u8 0):=by
 subst hk;unfold vi;simp[List.getElem?_append]
theorem acg(m:Nat)(l:List _)(k:Nat)(hk:k+1=m)(b:UInt8)(v:Value)(Y:v=bv b):(vi m l).setIfInBounds k v=vi k (b::l):=by
 subst hk Y;simp only[vi,List.replicate_succ'];simp
def pl(s:ByteArray)(k:Nat):=((s.data.toList.take k).map pb).reverse
theorem aex(s:ByteArray)(k:Nat)(h:k<s.size):pl s (k+1)=pb s[k]::pl s k:=by
 unfold pl;rw[O1 s k h];simp
theorem agE(s:ByteArray)(k:Nat)(h:s.size<=k):pl s k=(s.data.toList.map pb).reverse:=by
 unfold pl;rw[bT (by exact h)]
def sx(s:ByteArray)(k:Nat):=vi (s.size-k) (pl s k)
theorem aax(s:ByteArray)(k j:Nat)(h:k<s.size)(Y:j+1+k=s.size):(sx s k)[j]?=some (.int .u8 0):=
 aew _ _ _ (by omega)
theorem Y8(s:ByteArray)(k j:Nat)(h:k<s.size)(Y:j+1+k=s.size):(sx s k).setIfInBounds j (.int .u8 (qm s[k].toNat))=sx s (k+1):=by
 unfold sx;rw[acg _ _ _ (by omega) _ _ (by unfold bv;rw[agD]),<-aex s k h,show s.size-(k+1)=j by omega]
theorem Y9(s:ByteArray)(k:Nat)(h:s.size<=k):sx s k=((s.data.toList.map pb).reverse.map bv).toArray:=by
 unfold sx vi;rw[agE s k h,show s.size-k=0 by omega];simp
theorem XI(s:ByteArray):sx s 0=qV [] s.size:=by
 unfold sx vi qV pl;simp
theorem P6(s:ByteArray)(w:World)(A:s.size<=200):
  Calls Tryz.prog 51 #[.string s] w fun e w'=>e=.returned (.string (g_ s 0))/\Below w.heap.size w w':=by
 have K:=Ol s.size (by omega)
 go_enter Tryz.func51,Tryz.ntmps51
 go_wp2
 clear K
 go_loopw [10] (fun i wr=>∃k:Nat,k<=s.size/\i=.int .i64 k/\wr=w.alloc (.cells (sx s k) 5)) (fun i _=>s.size-(intOf i).toNat)
 case atStart=>exact⟨0,ay _,rfl,by rw[XI]⟩
 case round=>
  obtain⟨k,hk,rfl,rfl⟩:=hrel;by_cases Y:k<s.size
  ·have H:s.size-1-k+1+k=s.size:=by omega
   have R:=aax s k _ Y H;have D:=laid H;clear H;go_wp2_with(go_at_call 79;refine(Ya _ (AB _) (yK _) _).mono ?_;rintro e w' ⟨rfl,rfl⟩)
   go_roundw
   case rel=>go_light;exact⟨k+1,by omega,by go_num,by rw[Y8 s k _ Y D.out]⟩
   case measure=>go_light;simp[intOf];omega
  ·have I:=Om (s.data.toList.map pb).reverse s.size (by simp) (sx s k) (Y9 s k (by omega)) w s.size;go_wp2
   go_ret
   exact⟨rfl,(aA _ _).alloc (ae _) _⟩
def ag(a b:UInt8):=a==b&&a != 78
def at8(s:ByteArray)(i:Nat):=s.data.toList.getD i 0
theorem mm(s:ByteArray)(i:Nat)(h:i<s.size):s[i]=at8 s i:=by
 unfold at8;rw[bM,aN _];rfl
def cost(p t:ByteArray)(i j:Nat):=if ag (at8 p i) (at8 t j)=true then 0 else 1
def dT(p t:ByteArray)
 |0,j=>j
 |i+1,0=>i+1
 |i+1,j+1=>min (min (dT p t i j+cost p t i j) (dT p t i (j+1)+1)) (dT p t (i+1) j+1)
theorem A4(p t:ByteArray):∀i j,dT p t i j<=i+j
 |0,j=>by simp[dT]
 |i+1,0=>by simp[dT]
 |i+1,j+1=>by have:=A4 p t i (j+1);rw[dT];omega
theorem ais:(Tryz.prog.info? 3).map (fun i=>(i.zero,i.size,i.bytes))=some (some (.int .i64 0),1,8):=by kernel_rfl
def nv(z:Nat):Value:=.int .i64 (z:Int)
def oP(l:List Nat)(m:Nat):=(l.map nv++bg m (ax .i64 0)).toArray
theorem aay(n:Nat)(R:n<=1000)(w:World):
  (aX 25 (.int .i64 n) (.int .i64 n)).run Tryz.prog w=.ok (.slice (some ⟨w.heap.size,0,none⟩) n n) (w.alloc (.cells (oP [] n) 3)):=by
 have h:=ais;rcases Y:Tryz.prog.info? 3 with _|i
 ·simp_all
 ·rw[Y]at h;simp at h;obtain⟨D,K,H⟩:=h;have:=run_makeSlice w 25 3 i _ Tryz.underlying25 Y D .i64 .i64 n n (by omega) (by omega) (by rw[K];omega) (by rw[H];omega) (by omega);rw[this];have e:madeCells (ax ak 0).cells ((n:Int).toNat *i.size)=oP [] n:=by
   apply Array.ext';rw[K];show(madeCells #[ax _ 0] _).toList=_
   have:=toList_madeCells_one (.int .i64 0) n;simpa[oP]using this
  simp_all
theorem O2(l:List Nat)(m k:Nat)(hk:k=l.length)(Y:0<m):(oP l m)[k]?=some (.int .i64 0):=by
 subst hk;unfold oP;simp_all
theorem P7(l:List Nat)(m k:Nat)(hk:k<l.length):(oP l m)[k]?=some (nv (l.getD k 0)):=by
 unfold oP;rw[List.getElem?_toArray,List.getElem?_append_left (by simp_all),List.getElem?_map,bM,aN hk];rfl
theorem ach(l:List Nat)(m k:Nat)(hk:k=l.length)(K:0<m)(b:Nat)(v:Value)(Y:v=nv b):(oP l m).setIfInBounds k v=oP (l++[b]) (m-1):=by
 subst hk Y;cases m with
 |zero=>omega
 |succ m=>
  simp[oP,bS]
def tl(p t:ByteArray)(i j:Nat):=(List.range j).map (dT p t i)
theorem agF(p t:ByteArray)(i j:Nat):(tl p t i j).length=j:=by simp[tl]
theorem ait(p t:ByteArray)(i j k:Nat)(h:k<j):(tl p t i j).getD k 0=dT p t i k:=by
 simp[tl,bN h]
def Jf(p t:ByteArray)(i j:Nat):=oP (tl p t i j) (t.size+1-j)
theorem Y_(p t:ByteArray)(i j k:Nat)(h:k<j):(Jf p t i j)[k]?=some (.int .i64 (dT p t i k)):=by
 unfold Jf;rw[P7 _ _ _ (by rw[agF];exact h),ait p t i j k h];rfl
def uX(w:World)(g:Nat)(p t:ByteArray)(i:Nat):=w.heap[g]?=some (.cells (Jf p t i (t.size+1)) 3 (0,0))
theorem uX.cell{g:Nat}(h:uX w g p t i)(j:Nat)(Y:j<=t.size):w.cell? ⟨g,j,none⟩=some (.int .i64 (dT p t i j)):=by
 rw[cell_of_row w g j _ _ _ h];exact Y_ p t i _ j (by omega)
theorem uX.lt{g:Nat}(h:uX w g p t i):g<w.heap.size:=by
 rcases aD g _ with h'|h'
 ·omega
 ·unfold uX at h;simp_all
def sv(t:ByteArray)(g:Nat->Nat)(x:Nat):Value:=.slice (some ⟨g x,0,none⟩) (t.size+1) (t.size+1)
theorem aaz{P:Program}(w:World)(Y:Array _)(t:TypeId)(x y z:Int):
  (bG Y t #[.int .i64 x,.int .i64 y,.int .i64 z]).run P w=.ok (.int .i64 (min (min x y) z)) w:=by
 have e:∀a b:Int,(if b<a then b else a)=min a b:=fun a b=>by omega
 simp[bG,Builtin.min2,e]
theorem IG(a b:UInt8)(w:World):
  Calls Tryz.prog 150 #[.int .u8 (a.toNat:Int),.int .u8 (b.toNat:Int)] w fun e w'=>e=.returned (.bool (ag a b))/\w'=w:=by
 by_cases h:a=b
 ·go_wp2
  go_ret
  refine⟨nW ?_,rfl⟩;unfold ag;subst h;simp only[beq_self_eq_true,Bool.true_and];by_cases Y:a=78
  ·subst Y;rfl
  ·have K:(a != 78)=true:=by simpa using Y
   have H:((a.toNat:Int) != 78)=true:=by
    rw[bne_iff_ne];intro D;apply Y;apply UInt8.toNat.inj;have:((78:UInt8).toNat:Int)=78:=rfl;omega
   rw[K,H]
 ·have R:(a.toNat:Int)≠(b.toNat:Int):=by intro D;exact h (UInt8.toNat.inj (by omega))
  go_wp2
  go_ret
  refine⟨nW ?_,rfl⟩;unfold ag;rw[show(a==b)=false by simpa using h];rfl
def co(a b:UInt8):=if ag a b=true then 0 else 1
theorem S5(a b:UInt8):co a b<=1:=by unfold co;split<;>omega
theorem P8(a b:UInt8)(w:World):
  Calls Tryz.prog 165 #[.int .u8 (a.toNat:Int),.int .u8 (b.toNat:Int)] w fun e w'=>e=.returned (.int .i64 (co a b:Int))/\w'=w:=by
 by_cases h:ag a b=true
 ·have Y:co a b=0:=if_pos h;rw[Y]
  go_enter bZ,b_
  go_wp2_with fail
  refine(IG a b _).mono ?_;rintro e w' ⟨rfl,rfl⟩;go_wp2
  go_ret
  exact⟨rfl,rfl⟩
 ·have Y:co a b=1:=if_neg h;rw[Y];rw[af]at h
  go_enter bZ,b_
  go_wp2_with fail
  refine(IG a b _).mono ?_;rintro e w' ⟨rfl,rfl⟩;go_wp2
  go_ret
  exact⟨rfl,rfl⟩
def qe(g:Nat->Nat)(n j:Nat):=oP ((List.range j).map g) (n-j)
theorem NI(g:Nat->Nat)(n j:Nat)(h:j<n):(qe g n j)[j]?=some (.int .i64 0):=O2 _ _ _ (by simp) (by omega)
theorem On(g:Nat->Nat)(n j i:Nat)(h:i<j):(qe g n j)[i]?=some (.int .i64 (g i)):=by
 unfold qe;rw[P7 _ _ _ (by simp_all)];simp[nv,bN h]
theorem G5(g:Nat->Nat)(n j:Nat)(h:j<n)(z:Int)(Y:z=(g j)):(qe g n j).setIfInBounds j (.int .i64 z)=qe g n (j+1):=by
 unfold qe;rw[ach _ _ _ (by simp) (by omega) _ _ (by unfold nv;rw[Y]),List.range_succ,bP];congr 1
theorem XJ(g:Nat->Nat)(n:Nat):qe g n 0=oP [] n:=rfl
def lV(w:World)(G:Nat)(g:Nat->Nat)(n:Nat):=w.heap[G]?=some (.cells (qe g n n) 3 (0,0))
theorem lV.cell{g:Nat->Nat}(h:lV w G g n)(j:Nat)(Y:j<n):w.cell? ⟨G,j,none⟩=some (.int .i64 (g j)):=by
 rw[cell_of_row w G j _ _ _ h];exact On g n n j Y
theorem lV.lt{g:Nat->Nat}(h:lV w G g n):G<w.heap.size:=by
 rcases aD G _ with h'|h'
 ·omega
 ·unfold lV at h;simp_all
theorem P9(w:World)(c:Array _)(T:TypeId)(d j:Nat)(v:Value):((w.alloc (.cells c T)).drewN d).setCell ⟨w.heap.size,j,none⟩ v=(w.alloc (.cells (c.setIfInBounds j v) T)).drewN d:=by
 have h:(w.alloc (.cells c T)).setCell ⟨w.heap.size,j,none⟩ v=w.alloc (.cells (c.setIfInBounds j v) T):=by simp[World.setCell_alloc_at]
 have Y:((w.alloc (.cells c T)).drewN d).setCell ⟨w.heap.size,j,none⟩ v=((w.alloc _).setCell _ v).drewN d:=rfl;rw[Y,h]
theorem Oo(w:World)(o:Obj)(d:Nat):Below w.heap.size w ((w.alloc o).drewN d):=Go.below_drewN ((aA _ _).alloc (ae _) o) d
theorem O3(n:Nat)(Y:n<=900)(w:World):
  (aX 25 (.int .i64 (n+1)) (.int .i64 (n+1))).run Tryz.prog w=.ok (.slice (some ⟨w.heap.size,0,none⟩) (n+1) (n+1)) (w.alloc (.cells (oP [] (n+1)) 3)):=by
 have:=aay (n+1) (by omega) w;simp_all
theorem Gx(n:Nat)(w:World)(A:n<=300):
  Calls Tryz.prog 144 #[.int .i64 (n:Int)] w fun e w'=>e=.returned (.slice (some ⟨w.heap.size,0,none⟩) (n+1) (n+1))/\lV w' w.heap.size id (n+1)/\Below w.heap.size w w':=by
 have R:=O3 n (by omega);go_wp2
 go_loopw [10] (fun K w2=>∃(j d:Nat),K=.int .i64 (j:Int)/\j<=n+1/\w2=(w.alloc (.cells (qe id (n+1) j) 3)).drewN d) (fun K _=>n+1-(intOf K).toNat)
 case atStart=>exact⟨0,0,rfl,ay _,rfl⟩
 case round=>
  obtain⟨j,d,rfl,D,rfl⟩:=hrel;by_cases H:j<=n
  ·have I:=NI id (n+1) j (by omega);go_wp2
   go_roundw
   case rel=>go_light;exact⟨j+1,d,by go_num,by omega,by rw[P9,G5 id (n+1) j (by omega) (j:Int) rfl]⟩
   case measure=>go_light;simp[intOf];omega
  ·have Y:Hid (j=n+1):=laid (by omega);go_wp2
   go_ret
   refine⟨rfl,?_,Oo _ _ _⟩;rw[Y.out];exact heap_alloc_new w _
def mQ(g:Nat->Nat)(first:Nat)(b:UInt8)(o:ByteArray)
 |0=>first
 |j+1=>min (min (g j+co b (at8 o j)) (g (j+1)+1)) (mQ g first b o j+1)
theorem Dy(g:Nat->Nat)(first:Nat)(b:UInt8)(o:ByteArray):∀j,mQ g first b o j<=first+j
 |0=>ae _
 |j+1=>by have:=Dy g first b o j;rw[mQ];omega
theorem aaA{wr W:World}{g:Nat->Nat}{d H:Nat}{z:Int}(K:(wr.alloc (.cells (qe g n j) 3)).drewN d=W)(Y:wr.heap.size=H)(D:j<n)(R:z=(g j)):
  (W.setCell ⟨H,j,none⟩ (.int .i64 z)).drew=(wr.alloc (.cells (qe g n (j+1)) 3)).drewN (d+1):=by
 subst K Y;rw[P9,G5 g n j D z R];rfl
theorem GC(g:Nat->Nat)(first:Nat)(b:UInt8)(o:ByteArray)(G:Nat)(w:World)(ho:o.size<=300)(h:first<=300)(Q:∀j,j<=o.size->g j<=1000)(F:lV w G g (o.size+1)):
  Calls Tryz.prog 145 #[.slice (some ⟨G,0,none⟩) (o.size+1) (o.size+1),.int .i64 (first:Int),.int .u8 (b.toNat:Int),.string o] w fun e w'=>
   e=.returned (.slice (some ⟨w.heap.size,0,none⟩) (o.size+1) (o.size+1))/\lV w' w.heap.size (mQ g first b o) (o.size+1)/\Below w.heap.size w w':=by
 have V:=O3 o.size (by omega);have O:=F.lt;have J:=laid Q;have L:=laid F;clear Q F;have q:(oP [] (o.size+1))[0]?=some (.int .i64 0):=O2 [] _ 0 rfl (by omega)
 go_enter Tryz.func145,Tryz.ntmps145
 go_wp2
 go_loopw [19] (fun B w2=>∃(j d:Nat),B=.int .i64 (j:Int)/\j<=o.size/\w2=(w.alloc (.cells (qe (mQ g first b o) (o.size+1) (j+1)) 3)).drewN d) (fun B _=>o.size-(intOf B).toNat)
 case atStart=>exact⟨0,0,rfl,ay _,by rw[<-XJ (mQ g first b o),G5 _ _ 0 (by omega) (first:Int) rfl];rfl⟩
 case round=>
  obtain⟨j,d,rfl,S,rfl⟩:=hrel;by_cases U:j<o.size
  ·obtain⟨m,H⟩:∃m,m=j+1:=⟨_,rfl⟩;generalize K:(w.alloc (.cells (qe (mQ g first b o) (o.size+1) (j+1)) 3)).drewN d=W;have P:=laid K;have l:W.cell? ⟨G,j,none⟩=some (.int .i64 (g j:Int)):=by
    rw[<-K];show(w.alloc _).cell? _=_;rw[aJ _ _ _ O];exact L.out.cell j (by omega)
   have p:W.cell? ⟨G,m,none⟩=some (.int .i64 (g m:Int)):=by
    rw[<-K];show(w.alloc _).cell? _=_;rw[aJ _ _ _ O];exact L.out.cell m (by omega)
   have r:W.cell? ⟨w.heap.size,j,none⟩=some (.int .i64 (mQ g first b o j:Int)):=by
    rw[<-K];show(w.alloc _).cell? _=_;rw[bt _ _ _ _ rfl];exact On _ _ _ j (by omega)
   have a:W.cell? ⟨w.heap.size,m,none⟩=some (.int .i64 0):=by
    rw[<-K,H];show(w.alloc _).cell? _=_;rw[bt _ _ _ _ rfl];exact NI _ _ _ (by omega)
   have k:W.frozen? ⟨w.heap.size,m,none⟩=false:=by
    rw[<-K];show(w.alloc _).frozen? _=_;rw[World.frozen?_alloc_at _ _ _ _ rfl]
   have hN:Hid (mQ g first b o m=min (min (g j+co b (at8 o j)) (g m+1)) (mQ g first b o j+1)):=laid (by rw[H];rfl);have hX:=J.out j (by omega);have y:=J.out m (by omega);have n:mQ g first b o j<=700:=by have:=Dy g first b o j;omega
   have x:=S5 b (at8 o j)
   have E:=mm o j U;have s:(0:Int)<=(j:Int):=aY _;have u:(j:Int)<(o.size:Int)+1:=by omega
   have b4:(j:Int)<(o.size:Int):=by omega
   have b5:(0:Int)<=(m:Int):=aY _;have b6:(m:Int)<(o.size:Int)+1:=by omega
   generalize mQ g first b o j=Z at *
   generalize g j=X at *;generalize g m=Y at *;have I:∀W:World,Calls Tryz.prog 165 #[.int .u8 (b.toNat:Int),.int .u8 ((at8 o j).toNat:Int)] W fun e w'=>e=.returned (.int .i64 (co b (at8 o j):Int))/\w'=W:=fun W=>P8 b (at8 o j) W;generalize co b (at8 o j)=C at *;clear K;have D:G≠w.heap.size:=by omega
   have z:∀v,(W.setCell ⟨w.heap.size,m,none⟩ v).drew.cell? ⟨G,j,none⟩=some (.int .i64 (X:Int)):=fun v=>(ao W ⟨w.heap.size,m,none⟩ ⟨G,j,none⟩ v (by intro e;injection e with R N;exact D R.symm)).trans l;have c:∀v,(W.setCell ⟨w.heap.size,m,none⟩ v).drew.cell? ⟨G,m,none⟩=some (.int .i64 (Y:Int)):=fun v=>(ao W ⟨w.heap.size,m,none⟩ ⟨G,m,none⟩ v (by intro e;injection e with R N;exact D R.symm)).trans p;have f:∀v,(W.setCell ⟨w.heap.size,m,none⟩ v).drew.cell? ⟨w.heap.size,j,none⟩=some (.int .i64 (Z:Int)):=fun v=>(ao W ⟨w.heap.size,m,none⟩ ⟨w.heap.size,j,none⟩ v (by intro e;injection e with R N;omega)).trans r;have x0:ak.wrap ((X:Int)+(C:Int))=(X:Int)+(C:Int):=ar _ (by omega);have y1:ak.wrap ((Y:Int)+1)=(Y:Int)+1:=ar _ (by omega);have i:ak.wrap ((Z:Int)+1)=(Z:Int)+1:=ar _ (by omega);have t:ak.wrap ((j:Int)+1)=(m:Int):=by rw[show(j:Int)+1=(m:Int) by omega];exact ar _ (by omega)
   have M:=laid H;clear H;have T:=@aaz Tryz.prog;go_wp2_with fail
   go_region_held3 (fun w'=>w'.cell? ⟨G,j,none⟩=some (.int .i64 (X:Int))/\w'.cell? ⟨G,m,none⟩=some (.int .i64 (Y:Int))/\w'.cell? ⟨w.heap.size,j,none⟩=some (.int .i64 (Z:Int)))
    (first|go_keep|exact⟨z _,c _,f _⟩)
    (first|(go_at_call 165;refine(I _).mono ?_;rintro e w' ⟨rfl,rfl⟩))
   go_wp2
   go_roundw
   case rel=>go_light;have H:=M.out;exact⟨m,d+1,by go_num,by omega,aaA (by have:=P.out;rw[<-H]at this;exact this) rfl (by omega) (by have:=hN.out;omega)⟩
   case measure=>go_light;have H:=M.out;simp[intOf];omega
  ·have A:Hid (j=o.size):=laid (by omega);go_wp2
   go_ret
   refine⟨rfl,?_,Oo _ _ _⟩;rw[A.out];exact heap_alloc_new w _
def lZ(t p:ByteArray)
 |0=>id
 |i+1=>mQ (lZ t p i) 0 (at8 t i) p
theorem Sf(t p:ByteArray):∀i j,lZ t p i j<=j
 |0,j=>ae _
 |i+1,j=>by have:=Dy (lZ t p i) 0 (at8 t i) p j;rw[lZ];omega
def kX(t p:ByteArray)(k:Nat)
 |0=>[]
 |i+1=>if lZ t p (i+1) p.size<=k then kX t p k i++[(i+1,lZ t p (i+1) p.size)]else kX t p k i
theorem Cu(t p:ByteArray)(k:Nat):∀n,(kX t p k n).length<=n
 |0=>ae _
 |n+1=>by
  have:=Cu t p k n;simp[kX];split
  ·simp_all
  ·omega
def ln(t p:ByteArray)(k:Nat):=kX t p k t.size
def jK(L:List (Nat×Nat)):=L.flatMap fun h=>[nv h.1,nv h.2]
theorem aaB(L:List _):(jK L).length=L.length *2:=by
 induction L with
 |nil=>rfl
 |cons a L Y=>simp[jK,bL,bO,bc,List.length_nil]at *;omega
theorem Za(L:List _)(h:Nat×Nat):jK (L++[h])=jK L++[nv h.1,nv h.2]:=by simp[jK]
theorem aci:(Tryz.prog.info? 173).map (fun i=>(i.zero,i.size,i.bytes))=some (some (.agg #[.int .i64 0,.int .i64 0]),2,16):=by kernel_rfl
theorem uR{v:Value}{xs:List _}(h:w.ownsRow B e z v n xs)(Y:Below w.heap.size w w'):w'.ownsRow B e z v n xs:=
 h.kept (row:=none) ⟨Y.os,Y.tape,Y.output,Y.size,fun k hk _=>Y.block k hk⟩ (by cases v.ownBlock<;>simp)
theorem yv{v:Value}{xs:List _}{cs:Array _}{fr:Nat×Nat}(D:w.ownsRow B e z v n xs)(U:w.heap[b]?=some (.cells cs T fr))(A:T≠e):v.ownBlock≠some b:=by
 intro Y;rcases D.2 with⟨K,_⟩|⟨g,cap,H,K,_,I,_⟩
 ·rw[K]at Y;cases Y
 ·rw[K]at Y;injection Y with R
  simp_all
theorem Xa(t p:ByteArray)(k:Nat)(w:World)(ht:t.size<=300)(m:p.size<=300)(hk:k<=100):
  Calls Tryz.prog 139 #[.string t,.string p,.int .i64 (k:Int)] w fun e w'=>∃v,e=.returned v/\w'.ownsRow w.heap.size 173 2 v (ln t p k).length (jK (ln t p k))/\Below w.heap.size w w':=by
 obtain⟨i0,h,z,c,d⟩:=info_parts aci;have O:=Gx p.size w m
 go_enter Tryz.func139,Tryz.ntmps139
 go_wp2_with fail
 refine O.mono ?_;rintro e w1 ⟨rfl,T,Q⟩;clear O;go_wp2
 go_loopw [7,8,16] (fun v lv iv wr=>∃i G:Nat,iv=.int .i64 (i:Int)/\lv=.slice (some ⟨G,0,none⟩) (p.size+1) (p.size+1)/\i<=t.size/\lV wr G (lZ t p i) (p.size+1)/\wr.ownsRow w.heap.size 173 2 v (kX t p k i).length (jK (kX t p k i))/\Below w.heap.size w wr) (fun _ _ iv _=>t.size-(intOf iv).toNat)
 case atStart=>exact⟨0,w.heap.size,rfl,rfl,ay _,T,World.ownsRow_nil _ _ _ _,Q⟩
 case round=>
  obtain⟨i,G,rfl,rfl,hit,B,A,U⟩:=hrel;clear T Q;have o:=Cu t p k i;by_cases q:i<t.size
  ·have hta:=mm t i q;have P:Hid (∀W:World,lV W G (lZ t p i) (p.size+1)->Calls Tryz.prog 145 #[.slice (some ⟨G,0,none⟩) (p.size+1) (p.size+1),.int .i64 0,.int .u8 ((at8 t i).toNat:Int),.string p] W fun e w'=>e=.returned (.slice (some ⟨W.heap.size,0,none⟩) (p.size+1) (p.size+1))/\lV w' W.heap.size (lZ t p (i+1)) (p.size+1)/\Below W.heap.size W w'):=laid fun W a=>GC (lZ t p i) 0 (at8 t i) p G W m (by omega) (fun j C=>by have:=Sf t p i j;omega) a;have b1:(i:Int)<(t.size:Int):=by omega
   have g:=laid B;clear B;go_wp2_with fail
   refine(P.out _ g.out).mono ?_;rintro e w2 ⟨rfl,F,L⟩;have K:=uR A L;have Y:=U.trans (L.mono U.size);have hc:=F.cell p.size (by omega);have n:=Sf t p (i+1) p.size;have N:=laid F;have b:wr.heap.size<w2.heap.size:=F.lt;clear L P g A F;generalize wr.heap.size=H at *;by_cases l:lZ t p (i+1) p.size<=k
   ·have E:Hid (kX t p k (i+1)=kX t p k i++[(i+1,lZ t p (i+1) p.size)]):=laid (by rw[kX,if_pos l]);generalize J:lZ t p (i+1) p.size=DD at *;clear J;go_wp2_with(first
     |(at_builtin;refine wpList_append_own _ rfl _ _ 193 rfl w.heap.size 173 i0 (.agg #[.int .i64 0,.int .i64 0]) 2 16 Tryz.underlying193 h z c d rfl (by decide) _ _ _ rfl (K.alloc _) ⟨w2.heap.size,0,none⟩ 1 1 [nv (i+1),nv DD] rfl rfl ?c1 ?c2 ?c3 ?c4 ?c5 ?_)
     |go_in)
    case c1=>
     intro j u C
     match j,C with
     |0,C=>simp at C;subst C;simp[Addr.add,go_sem,nv]
     |1,C=>simp at C;subst C;simp[Addr.add,go_sem,nv]
    case c2=>first|exact⟨rfl,rfl⟩|(intro u r;simp at r;rcases r with rfl|rfl<;>rfl)
    case c3=>unfold maxLen;omega
    case c4=>omega
    case c5=>have:=Y.size;first|omega|(simp;omega)
    intro v' f R D _;have M:Below w.heap.size w f:=(Y.alloc Y.size _).grown D (by have:=Y.size;simp;omega) (fun j C=>(K.lt j C).1);have I:f.ownsRow w.heap.size 173 2 v' (kX t p k (i+1)).length (jK (kX t p k (i+1))):=by
     rw[E.out,bO,Za];exact R
    have V:lV f H (lZ t p (i+1)) (p.size+1):=by
     have hk:=N.out;unfold lV at hk⊢;rw[D.block H (by simp;omega) (fun e=>yv K hk (by decide) e.symm),heap_alloc_old w2 _ b];exact hk
    obtain⟨X,cap,s,rfl⟩:∃X cap s,v'=.slice (some ⟨X,0,none⟩) s cap:=by
     rcases R.2 with⟨_,h0⟩|⟨X,cap,y,hv,_⟩
     ·omega
     ·exact⟨X,cap,_,hv⟩
    have Z:=laid V;clear R D K V;go_wp2
    go_roundw
    case rel=>go_light;exact⟨i+1,H,by go_num,rfl,by omega,Z.out,I,M⟩
    case measure=>go_light;simp[intOf];omega
   ·have E:Hid (kX t p k (i+1)=kX t p k i):=laid (by rw[kX,if_neg l]);have I:w2.ownsRow w.heap.size 173 2 u7 (kX t p k (i+1)).length (jK (kX t p k (i+1))):=by
     rw[E.out];exact K
    generalize J:lZ t p (i+1) p.size=DD at *;clear J;go_wp2
    go_roundw
    case rel=>go_light;exact⟨i+1,H,by go_num,rfl,by omega,N.out,I,Y⟩
    case measure=>go_light;simp[intOf];omega
  ·have S:i=t.size:=by omega
   have x:Hid (wr.ownsRow w.heap.size 173 2 u7 (ln t p k).length (jK (ln t p k))):=laid (by unfold ln;rw[<-S];exact A);clear S A;go_wp2
   go_ret
   exact⟨u7,rfl,x.out,U⟩
noncomputable def EV:=match aH.body with
 |some (.seq a _)=>a
 |_=>.skip
noncomputable def sP:=match aH.body with
 |some (.seq _ (.seq b _))=>b
 |_=>.skip
theorem XK(X:ByteArray)(k q st len b:Nat)(w:World)(hX:X.size<=1000)(hk:k<=6)(A:st<=200)(R:len<=1000)(H:b *st<=X.size)(D:b<=100000):
  Calls Tryz.prog 77 #[.agg #[.int .i64 (k:Int),.int .i64 (q:Int),.int .i64 (st:Int)],.string X,.int .i64 (len:Int),.int .i64 (b:Int)] w fun e w'=>e=.returned (.string (X.extract (b *st) (min (b *st+st+len+k) X.size)))/\Below w.heap.size w w':=by
 obtain⟨m,Y,I⟩:∃m:Nat,b *st=m/\(b:Int) *(st:Int)=(m:Int):=⟨b *st,rfl,by simp⟩;rw[Y]at H⊢;clear Y;have K:min ((m:Int)+(st:Int)+(len:Int)+(k:Int)) (X.size:Int)=((min (m+st+len+k) X.size:Nat):Int):=by omega
 go_wp2
 go_ret
 exact⟨rfl,(aA _ _).alloc (ae _) _⟩
structure Reads(w:World)(By Rf Sg:Nat)(k q st:Nat)(X P:ByteArray):Prop where
 c0:w.cell? ⟨By,0,none⟩=some (.int .i64 (k:Int))
 c1:w.cell? ⟨By,1,none⟩=some (.int .i64 (q:Int))
 c2:w.cell? ⟨By,2,none⟩=some (.int .i64 (st:Int))
 x:w.cell? ⟨Rf,0,none⟩=some (.string X)
 p:w.cell? ⟨Sg,0,none⟩=some (.string P)
def pt(b:Nat):Value:=.pointer (some ⟨b,0,none⟩)
def nO(x By Rf Sg Fp:Nat)(v:Value)(u:Nat->Value):Array Value:=
 #[.int .i64 (x:Int),pt By,pt Rf,pt Sg,pt Fp,.tuple #[],v,u 7,u 8,u 9,u 10,u 11,u 12,u 13,u 14,u 15,u 16,u 17,u 18,u 19,u 20,u 21,u 22,u 23,u 24,u 25,u 26,u 27,u 28,u 29,u 30,u 31,u 32,u 33,u 34,u 35,u 36,u 37,u 38]
theorem Rb(x By Rf Sg Fp:Nat)(v V X a9 Y K H D R A U C F J a20 M a22 a23 a24 a25 a26 a27 a28 N O a31 a32 a33 Q a35 a36 a37 S:Value):#[.int .i64 x,pt By,pt Rf,pt Sg,pt Fp,.tuple #[],v,V,X,a9,Y,K,H,D,R,A,U,C,F,J,a20,M,a22,a23,a24,a25,a26,a27,a28,N,O,a31,a32,a33,Q,a35,a36,a37,S]=nO x By Rf Sg Fp v (fun i=>[V,X,a9,Y,K,H,D,R,A,U,C,F,J,a20,M,a22,a23,a24,a25,a26,a27,a28,N,O,a31,a32,a33,Q,a35,a36,a37,S].getD (i-7) (.tuple #[])):=rfl
def uA(By k q st x:Nat)(X P Y:ByteArray)(v:Value):Nat->Value:=fun i=>[.tuple #[],.agg #[.int .i64 (k:Int),.int .i64 (q:Int),.int .i64 (st:Int)],.string X,.string P,.int .i64 (P.size:Int),.int .i64 (x:Int),.string Y,.string P,pt By,.int .i64 (k:Int),v].getD (i-7) (.tuple #[])
def jl(X P:ByteArray)(k st x:Nat):=X.extract (x *st) (min (x *st+st+P.size+k) X.size)
theorem agG(x By Rf Sg Fp k q st:Nat)(X P:ByteArray)(w:World)(J:Reads w By Rf Sg k q st X P)(hX:X.size<=200)(hP:P.size<=30)(hk:k<=6)(Q:st<=200)(S:x *st<=X.size)(A:x<=100000):
  EV.wp Tryz.prog (fun e a w'=>e=.normal/\∃v,a=⟨nO x By Rf Sg Fp v (uA By k q st x X P (jl X P k st x) v),[]⟩/\w'.ownsRow w.heap.size 173 2 v (ln (jl X P k st x) P k).length (jK (ln (jl X P k st x) P k))/\Below w.heap.size w w') ⟨nO x By Rf Sg Fp (.tuple #[]) (fun _=>.tuple #[]),[]⟩ w:=by
 obtain⟨c0,c1,c2,U,cp⟩:=J;have H:=laid (fun W=>XK X k q st P.size x W (by omega) hk Q (by omega) S A);have I:=laid (fun W=>Xa (jl X P k st x) P k W (by unfold jl;rw[bI];omega) (by omega) (by omega));have M:By<w.heap.size:=block_lt_of_cell c0;have N:Rf<w.heap.size:=block_lt_of_cell U;have O:Sg<w.heap.size:=block_lt_of_cell cp;rw[show X.extract (x *st) (min (x *st+st+P.size+k) X.size)=jl X P k st x from rfl]at H;generalize ln (jl X P k st x) P k=L at *;generalize jl X P k st x=V at *;unfold EV aH nO;dsimp only;simp only[pt]
 go_region_held3 (fun w'=>w'.cell? ⟨By,0,none⟩=some (.int .i64 (k:Int))/\w'.cell? ⟨By,1,none⟩=some (.int .i64 (q:Int))/\w'.cell? ⟨By,2,none⟩=some (.int .i64 (st:Int))/\w'.cell? ⟨Rf,0,none⟩=some (.string X)/\w'.cell? ⟨Sg,0,none⟩=some (.string P))
  (first|go_keep|((try dsimp only);(repeat' apply And.intro);all_goals(first
   |(rw[D.cell (by have:=Y.size;simp at this⊢;omega),Y.cell (by first|omega|(simp;omega))];assumption)
   |(rw[Y.cell (by first|omega|(simp;omega))];assumption))))
  (first
   |(go_at_call 77;refine(H.out _).mono ?_;rintro e w' ⟨rfl,Y⟩)
   |(go_at_call 139;refine(I.out _).mono ?_;rintro e T ⟨v,rfl,K,D⟩))
 refine⟨rfl,v,rfl,?_,?_⟩
 ·rcases K.2 with h'|⟨g,cap,R,B,C,F⟩
  ·exact⟨K.1,.inl h'⟩
  ·exact⟨K.1,.inr ⟨g,cap,R,B,ai Y.size C,F⟩⟩
 ·exact(show Below w.heap.size w w' from⟨Y.os,Y.tape,Y.output,Y.size,Y.block⟩).trans (D.mono Y.size)
def kz(m:Nat)(L:List (Nat×Nat))(j:Nat):=(L.take j).map (fun h=>(h.1+m,h.2))++L.drop j
theorem acj(L:List _)(i:Nat)(Y:i<L.length):(jK L)[i *2]?=some (nv (L[i]).1):=by
 induction L generalizing i with
 |nil=>simp at Y
 |cons a L K=>
  cases i with
  |zero=>rfl
  |succ i=>
   rw[show(i+1) *2=i *2+1+1 by omega];simp[jK]at *;simpa using K i _
theorem ack(L:List _)(i:Nat)(z:Nat)(Y:i<L.length):(jK L).set (i *2) (nv z)=jK (L.set i (z,(L[i]).2)):=by
 induction L generalizing i with
 |nil=>simp at Y
 |cons a L K=>
  cases i with
  |zero=>rfl
  |succ i=>
   rw[show(i+1) *2=i *2+1+1 by omega];simp[jK,bL,List.cons_append,List.nil_append,List.set_cons_succ,List.getElem_cons_succ]at *;rw[K i _]
theorem yw(m:Nat)(L:List _)(j:Nat):(kz m L j).length=L.length:=by
 simp[kz];omega
theorem P_(m:Nat)(L:List _)(j:Nat)(Y:j<L.length):(kz m L j)[j]?=some L[j]:=by
 unfold kz;have e:((L.take j).map fun h=>(h.1+m,h.2)).length=j:=by simp;omega
 rw[List.getElem?_append_right (by omega),e,bX,a_ Y];rfl
theorem aaC(m:Nat)(L:List _)(j:Nat)(Y:j<L.length):(kz m L j).set j ((L[j]).1+m,(L[j]).2)=kz m L (j+1):=by
 unfold kz;have e:((L.take j).map fun h=>(h.1+m,h.2)).length=j:=by simp;omega
 rw[List.set_append_right _ _ (by omega),e,bX,bU Y,bP,aM,a_ Y];rfl
theorem agH(x By Rf Sg Fp k q st:Nat)(X P:ByteArray)(L:List (Nat×Nat))(v:Value)(u:Nat->Value)(B:Nat)(w:World)(hR:Reads w By Rf Sg k q st X P)(f:∀g,v.ownBlock=some g->g≠By)(hL:L.length<=1000)(U:∀h∈L,h.1<=1000)(hx:x *st<=1000)(gq:st<=1000)(hx':x<=100000)
  (Y:w.ownsRow B 173 2 v L.length (jK L)):
  sP.wp Tryz.prog (fun e a w'=>e=.normal/\∃H,a=⟨nO x By Rf Sg Fp v H,[]⟩/\w'.ownsRow B 173 2 v L.length (jK (kz (x *st) L L.length))) ⟨nO x By Rf Sg Fp v u,[]⟩ w:=by
 have F:Hid (∀(t:Array Value) (H:Nat->Value) (w':World),t=nO x By Rf Sg Fp v H->w'.ownsRow B 173 2 v L.length (jK (kz (x *st) L L.length))->(fun(e:Exit) (a:Act) (w':World)=>e=.normal/\∃H,a=⟨nO x By Rf Sg Fp v H,[]⟩/\w'.ownsRow B 173 2 v L.length (jK (kz (x *st) L L.length))) .normal ⟨t,[]⟩ w'):=
  laid (fun t H w' e r=>⟨rfl,H,by rw[e],r⟩)
 generalize(fun(e:Exit) (a:Act) (w':World)=>e=.normal/\∃H,a=⟨nO x By Rf Sg Fp v H,[]⟩/\w'.ownsRow B 173 2 v L.length (jK (kz (x *st) L L.length)))=Q at F⊢;have c2:=hR.c2;clear hR;obtain⟨m,d,j⟩:∃m:Nat,m=x *st/\(x:Int) *(st:Int)=(m:Int):=⟨x *st,rfl,by simp⟩;rw[<-d]at hx F;clear d;have N:=laid U;clear U;rcases Y.2 with⟨c,J⟩|⟨g,cap,o,c,hg,_⟩
 ·have Z:L=[]:=List.length_eq_zero_iff.1 J;subst Z c;have O:=laid Y;clear Y;unfold sP aH;dsimp only;rw[show nO x By Rf Sg Fp (_:Value) u=_ from rfl];simp only[nO,pt];go_wp2
  go_loopw [20] (fun iv w2=>iv=.int .i64 0/\w2=w) (fun _ _=>0)
  case atStart=>exact⟨rfl,rfl⟩
  case round=>
   obtain⟨rfl,rfl⟩:=hrel;go_wp2
   exact F.out _ _ _ (Rb x By Rf Sg Fp _ _ _ _ _ _ _ _ _ _ _ _ _ _ _ _ _ _ _ _ _ _ _ _ _ _ _ _ _ _ _ _ _) O.out
 ·subst c;have G:=f g rfl;have O:=laid Y;clear Y f;generalize J:L.length=n at *;have l:=laid J;clear J;unfold sP aH;dsimp only;rw[show nO x By Rf Sg Fp (_:Value) u=_ from rfl];simp only[nO,pt];go_wp2
  go_loopw [20] (fun iv w2=>∃i:Nat,iv=.int .i64 (i:Int)/\i<=n/\w2.ownsRow B 173 2 (.slice (some ⟨g,0,none⟩) n cap) n (jK (kz m L i))/\w2.cell? ⟨By,2,none⟩=some (.int .i64 (st:Int))) (fun iv _=>n-(intOf iv).toNat)
  case atStart=>exact⟨0,rfl,ay _,O.out,c2⟩
  case round=>
   obtain⟨i,rfl,s,Y,R⟩:=hrel;by_cases y:i<n
   ·have K:i<L.length:=by have:=l.out;omega
    have b1:(i:Int)<(n:Int):=by omega
    have b2:(0:Int)<=(i:Int):=aY _;have s1:wr.cell? ⟨By,2,none⟩=some (.int .i64 (st:Int)):=R;have s2:wr.cell? ⟨g,i *2,none⟩=some (.int .i64 ((L[i]).1:Int)):=by
     rw[Y.cellAt (i *2) (by omega)];have h:=acj (kz m L i) i (by rw[yw];exact K);rw[h];have A:=P_ m L i K;rw[aN (by rw[yw];exact K)]at A;rw[Option.some.inj A];rfl
    have s3:=Y.frozenAt (i *2);have hE:=N.out (L[i]) (List.getElem_mem K);have x1:ak.wrap ((x:Int) *(st:Int))=(m:Int):=by rw[j];exact ar _ (by omega)
    have x2:ak.wrap (((L[i]).1:Int)+(m:Int))=((L[i]).1:Int)+(m:Int):=ar _ (by omega);have I:=Y.stored (i *2) (nv ((L[i]).1+m));have T:Hid ((wr.setCell ⟨g,i *2,none⟩ (nv ((L[i]).1+m))).ownsRow B 173 2 (.slice (some ⟨g,0,none⟩) n cap) n (jK (kz m L (i+1)))):=laid (by
     have h:=I.1;have A:=P_ m L i K;rw[aN (by rw[yw];exact K)]at A;rw[ack _ i _ (by rw[yw];exact K),Option.some.inj A,aaC m L i K]at h;exact h)
    have D:Hid (∀z:Value,(wr.setCell ⟨g,i *2,none⟩ z).cell? ⟨By,2,none⟩=some (.int .i64 (st:Int))):=laid fun z=>(ao wr ⟨g,i *2,none⟩ ⟨By,2,none⟩ z (by intro e;injection e with p e2;exact G p)).trans s1;clear I Y R;generalize(L[i]).1=E at *;have C:nv (E+m)=.int .i64 ((E:Int)+(m:Int)):=by simp[nv]
    rw[C]at T;clear C;have V:Hid ((wr.setCell ⟨g,i *2,none⟩ (.int .i64 ((E:Int)+(m:Int)))).drew.ownsRow B 173 2 (.slice (some ⟨g,0,none⟩) n cap) n (jK (kz m L (i+1)))):=T;have M:Hid ((wr.setCell ⟨g,i *2,none⟩ (.int .i64 ((E:Int)+(m:Int)))).drew.cell? ⟨By,2,none⟩=some (.int .i64 (st:Int))):=laid (D.out _);clear T D;go_wp2
    go_region
    generalize(wr.setCell ⟨g,i *2,none⟩ (.int .i64 ((E:Int)+(m:Int)))).drew=b at *;go_wp2
    go_roundw
    case rel=>go_light;exact⟨i+1,by go_num,by omega,V.out,M.out⟩
    case measure=>go_light;simp[intOf];omega
   ·have W:i=n:=by omega
    subst W;have S:=laid Y;clear Y;go_wp2
    exact F.out _ _ _ (Rb x By Rf Sg Fp _ _ _ _ _ _ _ _ _ _ _ _ _ _ _ _ _ _ _ _ _ _ _ _ _ _ _ _ _ _ _ _ _) S.out
def RD(w:World)(b:Nat)(s:ByteArray)(p:Int)(c:Int):=
 w.heap[b]?=some (.cells #[.string s,.int .i64 p,.int .i64 c] 98 (0,0))
theorem RD.c0{p c:Int}(h:RD w b s p c):w.cell? ⟨b,0,none⟩=some (.string s):=by
 rw[cell_of_row w b 0 _ _ _ h];rfl
theorem RD.c1{p c:Int}(h:RD w b s p c):w.cell? ⟨b,1,none⟩=some (.int .i64 p):=by
 rw[cell_of_row w b 1 _ _ _ h];rfl
theorem RD.c2{p c:Int}(h:RD w b s p c):w.cell? ⟨b,2,none⟩=some (.int .i64 c):=by
 rw[cell_of_row w b 2 _ _ _ h];rfl
theorem RD.fz{p c:Int}(h:RD w b s p c)(j:Nat):w.frozen? ⟨b,j,none⟩=false:=frozen_of_row w b j _ _ h
def oN(c p:Int):List PanicEntry:=[{v:=.iface 70 (.agg #[.int .i64 c,.int .i64 p]),recovered:=false}]
theorem oj(w:World)(b:Nat)(s:ByteArray)(p c:Int)(h:RD w b s p c):
  Calls Tryz.prog 65 #[.pointer (some ⟨b,0,none⟩)] w fun e w'=>e=.returned (.bool (p==(s.size:Int)))/\∃m,w'=w.drewN m:=by
 have Y:=h.c0;have K:=h.c1;go_wp2
 go_quiet(fail)
 go_wp2
 go_ret
 exact⟨rfl,nq,rfl⟩
theorem qE(w:World)(b:Nat)(s:ByteArray)(p c:Int)(h:RD w b s p c):
  Calls Tryz.prog 69 #[.pointer (some ⟨b,0,none⟩)] w fun e w'=>e=.panicked (oN c p)/\∃m,w'=w.drewN m:=by
 have Y:=h.c1;have K:=h.c2;go_wp2
 go_region_dies
 all_goals(try go_wp2)
 all_goals exact⟨rfl,rfl,1,rfl⟩
def iy(f:UInt8->Bool)(l:List _)(m:Nat):=((l.take m).takeWhile f).length
theorem Oq(f:UInt8->Bool)(m:Nat):iy f [] m=0:=by simp[iy]
theorem GO(f:UInt8->Bool)(l:List _):iy f l 0=0:=by simp[iy]
theorem pV(f:UInt8->Bool)(x:UInt8)(l:List _)(m:Nat):iy f (x::l) (m+1)=if f x=true then iy f l m+1 else 0:=by
 unfold iy;by_cases h:f x=true<;>simp[h]
theorem rA(f:UInt8->Bool):∀l m,iy f l m<=m/\iy f l m<=l.length
 |[],m=>by rw[Oq];simp
 |x::l,0=>by rw[GO];simp
 |x::l,m+1=>by
  have:=rA f l m;rw[pV];split<;>simp<;>omega
theorem Cl(f:UInt8->Bool):∀l m k h,k<=iy f l m->k<m->f l[k]=true->k+1<=iy f l m
 |[],m,k,h,_,_,_=>by simp at h
 |x::l,0,k,h,_,K,_=>by omega
 |x::l,m+1,0,h,_,_,Y=>by
  rw[pV,if_pos (by simp_all)];omega
 |x::l,m+1,k+1,h,hk,K,Y=>by
  rw[pV]at hk⊢;by_cases H:f x=true
  ·rw[if_pos H]at hk⊢;have:=Cl f l m k _ (by omega) (by omega) (by simpa using Y);omega
  ·simp_all
theorem Cm(f:UInt8->Bool):∀l m k h,k<=iy f l m->f l[k]=false->iy f l m=k
 |[],m,k,h,_,_=>by simp at h
 |x::l,0,k,h,hk,_=>by rw[GO]at hk⊢;omega
 |x::l,m+1,0,h,_,Y=>by
  rw[pV,if_neg (by simp_all)]
 |x::l,m+1,k+1,h,hk,Y=>by
  rw[pV]at hk⊢;by_cases K:f x=true
  ·rw[if_pos K]at hk⊢;have:=Cm f l m k _ (by omega) (by simpa using Y);omega
  ·simp_all
def rest(s:ByteArray)(p:Nat):=s.data.toList.drop p
theorem nI(s:ByteArray)(p:Nat):(rest s p).length=s.size-p:=by simp[rest]
theorem aey(s:ByteArray)(p k:Nat)(h:p+k<s.size):(rest s p)[k]'(by rw[nI];omega)=s[p+k]:=by
 simp[rest,ByteArray.getElem_eq_getElem_data]
theorem RD.put{p c:Int}(h:RD w b s p c)(q:Int):RD (w.setCell ⟨b,1,none⟩ (.int .i64 q)) b s q c:=by
 unfold RD at *;have:=heap_setCell_same w b 1 _ _ (.int .i64 q) h;simp_all
theorem pW(w:World)(b:Nat)(j:Nat)(v:Value):w.grownBy (w.setCell ⟨b,j,none⟩ v) (some b):=
 ⟨rfl,rfl,rfl,by simp,fun k hk Y=>heap_setCell_other w _ k v (by simp_all)⟩
theorem GD(w:World)(r:Option Nat):w.grownBy w r:=⟨rfl,rfl,rfl,ae _,fun _ _ _=>rfl⟩
theorem nG(w:World)(n:Nat)(r:Option Nat):w.grownBy (w.drewN n) r:=⟨rfl,rfl,rfl,ae _,fun _ _ _=>rfl⟩
theorem jq{a b c:World}{r:Option Nat}(h:a.grownBy b r)(k:b.grownBy c r):a.grownBy c r:=
 ⟨k.os.trans h.os,k.tape.trans h.tape,k.output.trans h.output,ai h.size k.size,fun j K Y=>(k.block j (az K h.size) Y).trans (h.block j K Y)⟩
theorem RD.drewN{p c:Int}(h:RD w b s p c)(n:Nat):RD (w.drewN n) b s p c:=h
theorem Cn(x:UInt8)(w:World):
  Calls Tryz.prog 71 #[.int .u8 x.toNat] w fun e w'=>e=.returned (.bool (iM x))/\w'=w:=Y4 _ (AB x) (yK x) w
def IH(w:World)(b:Nat)(s:ByteArray)(p:Nat)(c:Int)(f:UInt8->Bool)(m:Nat)(q:Nat)(wr:World):Prop:=
 p<=q/\q<=p+iy f (rest s p) m/\RD wr b s (q:Int) c/\w.grownBy wr (some b)
theorem yB(s:ByteArray)(p q:Nat)(Y:p<=q)(h:q<s.size):(rest s p)[q-p]'(by rw[nI];omega)=s[q]:=by
 rw[aey s p _ (by omega)];simp_all
def mX(w:World)(b:Nat):=(intOf ((w.cell? ⟨b,1,none⟩).getD undef)).toNat
theorem RD.mX{p c:Int}(h:RD w b s p c):mX w b=p.toNat:=by
 unfold Go.Proofs.YtdcjnhipenbcfaaGreatDoor.mX;rw[h.c1];rfl
def yC(w:World)(b:Nat)(s:ByteArray)(p:Nat)(c:Int)(n:Nat)(least:Int)(e:Ending)(w':World):Prop:=
 (least<=(n:Int)->e=.returned (.string (s.extract p (p+n))))/\((n:Int)<least->e=.panicked (oN c ((p:Int)+(n:Int))))/\RD w' b s ((p:Int)+(n:Int)) c/\w.grownBy w' (some b)
theorem tj{p:Nat}{c:Int}{wr:World}(D:q=p+n)(R:p<=q)(H:¬(q:Int)-(p:Int)<least)
  (Y:RD wr b s (q:Int) c)(K:w.grownBy wr (some b))(m:Nat):yC w b s p c n least (.returned (.string (s.extract p q))) (wr.drewN m):=by
 subst D;refine⟨fun _=>rfl,fun h=>absurd h (by omega),?_,jq K (nG wr m _)⟩;have:=Y.drewN m
 rwa [show((p+n))=p+n by omega]at this
theorem ti{p:Nat}{c:Int}{wr:World}(D:q=p+n)(R:p<=q)(H:(q:Int)-(p:Int)<least)
  (Y:RD wr b s (q:Int) c)(K:w.grownBy wr (some b))(m:Nat):yC w b s p c n least (.panicked (oN c q)) (wr.drewN m):=by
 subst D;refine⟨fun h=>absurd h (by omega),fun _=>by simp,?_,jq K (nG wr m _)⟩;have:=Y.drewN m
 rwa [show((p+n))=p+n by omega]at this
theorem GF(w:World)(b:Nat)(s:ByteArray)(p:Nat)(c:Int)(least most:Int)(h:RD w b s p c)(m:s.size<=1000)(g:p<=s.size)(f:0<=most)(Z:most<=1000)(W:0<=least)(V:least<=1000):
  Calls Tryz.prog 70 #[.pointer (some ⟨b,0,none⟩),.func (.func 71) #[] #[],.int .i64 least,.int .i64 most] w fun e w'=>
   yC w b s p c (iy iM (rest s p) most.toNat) least e w':=by
 have S:=h.c1
 go_enter bj,bm
 go_wp2
 clear S
 go_loopw [] (fun wr=>∃q:Nat,IH w b s p c iM most.toNat q wr) (fun wr=>s.size-mX wr b)
 case atStart=>exact⟨p,ae _,by omega,h,GD _ _⟩
 case round=>
  obtain⟨q,F,G,Y,U⟩:=hrel;have B:=rA iM (rest s p) most.toNat;rw[nI]at B;have c0:=Y.c0;have c1:=Y.c1;have f1:=Y.fz 1;have E:ak.wrap ((q:Int)-(p:Int))=(q:Int)-(p:Int):=ar _ (by omega);by_cases X:(q:Int)-(p:Int)<most
  ·have J:decide ((q:Int)-(p:Int)<most)=true:=by simp;omega
   by_cases I:q<s.size
   ·have N:((q:Int)==(s.size:Int))=false:=by simp;omega
    have T:(q:Int)<(s.size:Int):=by omega
    by_cases D:iM s[q]=true
    ·go_wp2_with fail
     go_quiet((first|(go_at_call 65;exact ah (oj _ _ _ _ _ (Y.drewN _)))|(go_at_call 71;exact aj (Cn _ _))))
     have M:=Cl iM (rest s p) most.toNat (q-p) (by rw[nI];omega) (by omega) (by omega) (by rw[yB s p q F I];exact D);go_wp2
     have A:=(Y.drewN nq).put ((q:Int)+1);have L:=jq U (jq (nG wr nq (some b)) (pW (wr.drewN nq) b 1 (.int .i64 ((q:Int)+1))))
     go_roundw
     case rel=>go_light;exact⟨q+1,by omega,by omega,A,L⟩
     case measure=>go_light;have P:=Y.mX;have Q:=A.mX;rw[P,Q];omega
    ·rw[af]at D;have H:Hid (q=p+iy iM (rest s p) most.toNat):=by
      have:=Cm iM (rest s p) most.toNat (q-p) (by rw[nI];omega) (by omega) (by rw[yB s p q F I];exact D);exact laid (by omega)
     go_wp2_with fail
     go_quiet((first|(go_at_call 65;exact ah (oj _ _ _ _ _ (Y.drewN _)))|(go_at_call 71;exact aj (Cn _ _))))
     have K:=Y.drewN nq;have R:=jq U (nG wr nq (some b));by_cases C:(q:Int)-(p:Int)<least
     ·go_wp2_with(go_at_call 69;refine(qE _ _ _ _ _ K).mono ?_;rintro e w' ⟨rfl,O,rfl⟩)
      exact⟨rfl,ti (least:=least) H.out (by omega) (by omega) Y U _⟩
     ·go_wp2
      go_quiet(fail)
      go_wp2
      go_ret
      exact tj (least:=least) H.out (by omega) (by omega) K R _
   ·have N:((q:Int)==(s.size:Int))=true:=by simp;omega
    have H:Hid (q=p+iy iM (rest s p) most.toNat):=laid (by omega);go_wp2_with fail
    go_quiet((first|(go_at_call 65;exact ah (oj _ _ _ _ _ (Y.drewN _)))|(go_at_call 71;exact aj (Cn _ _))))
    have K:=Y.drewN nq;have R:=jq U (nG wr nq (some b));by_cases C:(q:Int)-(p:Int)<least
    ·go_wp2_with(go_at_call 69;refine(qE _ _ _ _ _ K).mono ?_;rintro e w' ⟨rfl,O,rfl⟩)
     exact⟨rfl,ti (least:=least) H.out (by omega) (by omega) Y U _⟩
    ·go_wp2
     go_quiet(fail)
     go_wp2
     go_ret
     exact tj (least:=least) H.out (by omega) (by omega) K R _
  ·have J:decide ((q:Int)-(p:Int)<most)=false:=by simp;omega
   have H:Hid (q=p+iy iM (rest s p) most.toNat):=laid (by omega);go_wp2_with fail
   go_quiet((first|(go_at_call 65;exact ah (oj _ _ _ _ _ (Y.drewN _)))|(go_at_call 71;exact aj (Cn _ _))))
   have K:=Y.drewN nq;have R:=jq U (nG wr nq (some b));by_cases C:(q:Int)-(p:Int)<least
   ·go_wp2_with(go_at_call 69;refine(qE _ _ _ _ _ K).mono ?_;rintro e w' ⟨rfl,O,rfl⟩)
    exact⟨rfl,ti (least:=least) H.out (by omega) (by omega) Y U _⟩
   ·go_wp2
    go_quiet(fail)
    go_wp2
    go_ret
    exact tj (least:=least) H.out (by omega) (by omega) K R _
def EB(n:Int):=decide (65<=n/\n<=90)||decide (97<=n/\n<=122)||decide (48<=n/\n<=57)||decide (n=95)||decide (n=46)
def EC(n:Int):=decide (33<=n/\n<=126)
def lh(b:UInt8):=EB b.toNat
def kG(b:UInt8):=EC b.toNat
theorem Zb(n:Int)(Y:0<=n)(K:n<=255)(w:World):
  Calls Tryz.prog 95 #[.int .u8 n] w fun e w'=>e=.returned (.bool (EB n))/\w'=w:=by
 all_goals
  go_enter Tryz.func95,Tryz.ntmps95
  go_wp2
  all_goals go_ret
  all_goals(go_light;refine⟨nW ?_,rfl⟩;first|(simp_all[EB];done)|(rw[Bool.eq_iff_iff];simp[EB];omega))
theorem Zc(n:Int)(Y:0<=n)(K:n<=255)(w:World):
  Calls Tryz.prog 120 #[.int .u8 n] w fun e w'=>e=.returned (.bool (EC n))/\w'=w:=by
 by_cases a1:33<=n<;>by_cases a2:n<=126;all_goals
  go_wp2
  all_goals go_ret
  all_goals(exact⟨nW (by simp_all[EC]),rfl⟩)
theorem Co(x:UInt8)(w:World):
  Calls Tryz.prog 95 #[.int .u8 x.toNat] w fun e w'=>e=.returned (.bool (lh x))/\w'=w:=Zb _ (AB x) (yK x) w
theorem Cp(x:UInt8)(w:World):
  Calls Tryz.prog 120 #[.int .u8 x.toNat] w fun e w'=>e=.returned (.bool (kG x))/\w'=w:=Zc _ (AB x) (yK x) w
def iC(st:Nat×Bool)(f:Nat->Nat×Bool):=if st.2=true then st else f st.1
theorem v_{st:Nat×Bool}(h:st.2=true)(f:Nat->Nat×Bool):iC st f=st:=if_pos h
theorem kK{st:Nat×Bool}(h:st.2=false)(f:Nat->Nat×Bool):iC st f=f st.1:=if_neg (by simp[h])
def h_(s:ByteArray)(c:UInt8)(p:Nat):=if h:p<s.size then(if s[p]=c then(p+1,false)else(p,true))else(p,true)
def lF(s:ByteArray)(f:UInt8->Bool)(least most p:Nat):=(p+iy f (rest s p) most,decide (iy f (rest s p) most<least))
def qO(s:ByteArray)(p:Nat):=iC (lF s lh 1 10 p) (h_ s 10)
def jd(s:ByteArray)(most p:Nat):=iC (lF s iM 1 most p) (h_ s 10)
def jR(s:ByteArray)(most p:Nat):=iy iM (rest s p) most
def xb(s:ByteArray):Nat->Nat->Nat->Nat×Bool
 |0,_,p=>(p,false)
 |fuel+1,n,p=>if s.size<=p then(p,false)else iC (jd s (200-n) p) (xb s fuel (n+jR s (200-n) p))
def lX(s:ByteArray):=
 iC (h_ s 62 0) fun p=>iC (qO s p) fun p=>iC (jd s 200 p) (xb s (s.size+1) (jR s 200 p))
def lP(s:ByteArray)(p:Nat):=
 iC (h_ s 64 p) fun p=>iC (qO s p) fun p=>iC (jd s 30 p) fun p'=>iC (h_ s 43 p') fun p'=>iC (h_ s 10 p') fun p'=>iC (lF s kG (jR s 30 p) (jR s 30 p) p') (h_ s 10)
def kY(s:ByteArray)
 |0,p=>(p,decide (p<s.size))
 |n+1,p=>if s.size<=p then(p,false)else iC (lP s p) (kY s n)
theorem qI(s:ByteArray)(c:UInt8)(p:Nat)(h:p<=s.size):p<=(h_ s c p).1/\(h_ s c p).1<=s.size:=by
 unfold h_;split
 ·split<;>simp<;>omega
 ·omega
theorem Ot(s:ByteArray)(c:UInt8)(p:Nat)(h:(h_ s c p).2=false):(h_ s c p).1=p+1/\p<s.size:=by
 unfold h_ at *;split at h
 ·split at h
  ·simp_all
  simp_all
 simp_all
theorem wh(s:ByteArray)(f:UInt8->Bool)(least most p:Nat)(h:p<=s.size):p<=(lF s f least most p).1/\(lF s f least most p).1<=s.size:=by
 have:=(rA f (rest s p) most).2;rw[nI]at this;unfold lF;omega
theorem qc{st:Nat×Bool}{f:Nat->Nat×Bool}{p:Nat}(h:p<=st.1/\st.1<=s.size)(Y:∀q,q<=s.size->q<=(f q).1/\(f q).1<=s.size):p<=(iC st f).1/\(iC st f).1<=s.size:=by
 unfold iC;split
 ·exact h
 ·have:=Y _ h.2;omega
theorem Qa(s:ByteArray)(p:Nat)(h:p<=s.size):p<=(qO s p).1/\(qO s p).1<=s.size:=qc (wh s _ _ _ p h) fun q Y=>qI s _ q Y
theorem uN(s:ByteArray)(m p:Nat)(h:p<=s.size):p<=(jd s m p).1/\(jd s m p).1<=s.size:=qc (wh s _ _ _ p h) fun q Y=>qI s _ q Y
theorem r9{st:Nat×Bool}{f:Nat->Nat×Bool}(h:(iC st f).2=false):st.2=false/\(f st.1).2=false:=by
 unfold iC at h;split at h
 ·simp_all
 ·simp_all
theorem G6(s:ByteArray)(m p:Nat)(h:(jd s m p).2=false):(jd s m p).1=p+jR s m p+1/\1<=jR s m p/\p+jR s m p<s.size:=by
 unfold jd at *;obtain⟨Y,K⟩:=r9 h;rw[kK Y];have:=Ot s 10 _ K;unfold lF at this Y⊢;simp at Y this⊢;unfold jR;omega
theorem Aw(s:ByteArray)(m p:Nat):jR s m p<=m:=(rA _ _ _).1
def cut(s:ByteArray)(p q:Nat):ByteArray:=str ((rest s p).take (q-p))
def sH(s:ByteArray)(st:Nat×Bool):ByteArray:=if st.2=true then⟨#[]⟩else cut s st.1 (st.1+iy lh (rest s st.1) 10)
def zo(s:ByteArray)(p q:Nat):ByteArray:=str (((rest s p).take (q-p)).map gb)
theorem aaD(s:ByteArray)(p q:Nat)(Y:q<=s.size):(zo s p q).size=q-p:=by
 unfold zo;rw[gV,List.length_map,List.length_take,nI];omega
def sI(s:ByteArray)(m p:Nat):ByteArray:=zo s p (p+jR s m p)
theorem Hn(s:ByteArray)(m p:Nat)(Y:p<=s.size):(sI s m p).size=jR s m p:=by
 have:=(rA iM (rest s p) m).2;rw[nI]at this;unfold sI jR;rw[aaD _ _ _ (by omega)];omega
def zp(s:ByteArray)(m:Nat)(st:Nat×Bool):ByteArray:=if st.2=true then⟨#[]⟩else sI s m st.1
def sQ(s:ByteArray)(m p:Nat):=((rest s p).take (jR s m p)).map gb
theorem Re(s:ByteArray)(m p:Nat):sI s m p=str (sQ s m p):=by
 unfold sI zo sQ;simp_all
theorem II(s:ByteArray)(m p:Nat)(Y:p<=s.size):(sQ s m p).length=jR s m p:=by
 have h:=Hn s m p Y;rw[Re,gV]at h;exact h
def nZ(s:ByteArray):Nat->List UInt8->Nat×Bool->(Nat×Bool)×List UInt8
 |0,acc,st=>(st,acc)
 |f+1,acc,st=>if st.2=false/\(acc=[]\/st.1<s.size)then nZ s f (acc++sQ s (200-acc.length) st.1) (jd s (200-acc.length) st.1)else(st,acc)
def mY(s:ByteArray):=nZ s (s.size+2) [] (iC (h_ s 62 0) (qO s))
def wW(s:ByteArray):=sH s (h_ s 62 0)
theorem Cv{f:Nat}{acc:List _}{st:Nat×Bool}{R:(Nat×Bool)×List _}(H:0<f)(K:st.2=false)(Y:acc=[]\/st.1<s.size)(h:nZ s f acc st=R):
  nZ s (f-1) (acc++sQ s (200-acc.length) st.1) (jd s (200-acc.length) st.1)=R:=by
 cases f with
 |zero=>omega
 |succ f=>rw[<-h];simp only[nZ,Nat.add_sub_cancel];simp_all
theorem ym{f:Nat}{acc:List _}{st:Nat×Bool}{R:(Nat×Bool)×List _}(K:st.2=true\/(acc≠ []/\s.size<=st.1))(h:nZ s f acc st=R):R=(st,acc):=by
 cases f with
 |zero=>rw[<-h];rfl
 |succ f=>
  rw[<-h];simp only[nZ];rw[if_neg];rintro⟨I,Y⟩;rcases K with K|⟨H,D⟩
  ·simp_all
  ·rcases Y with Y|Y
   ·simp_all
   ·omega
def xX(a b:ByteArray):=a.toList==b.toList
theorem Dh(a b:ByteArray):xX a b=true↔a=b:=by
 unfold xX;rw[bJ,bJ,beq_iff_eq];constructor
 ·intro h;exact ByteArray.ext (Array.ext' h)
 ·simp_all
def xp(r s:ByteArray)
 |0=>0
 |k+1=>xp r s k+(if xX (s.extract k (k+r.size)) r=true then 1 else 0)
def pz(r s:ByteArray):=xp r s (s.size+1-r.size)
def Kq(p s:ByteArray)(q i:Nat):=
 if 0<pz (p.extract i (i+q)) (p.extract 0 (i+q-1))\/0<pz ⟨#[78]⟩ (p.extract i (i+q))then 0 else min (pz (p.extract i (i+q)) p) (pz (p.extract i (i+q)) s)
def Ea(p s:ByteArray)(q:Nat)
 |0=>0
 |k+1=>Ea p s q k+Kq p s q k
def sJ(p s:ByteArray)(q:Nat):=Ea p s q (p.size+1-q)
def dg(d:Nat):=bq (48+d)
def uY
 |0,n=>[dg n]
 |f+1,n=>if n<=9 then [dg n]else uY f (n/10)++[dg (n%10)]
def gR(n:Nat):=uY n n
theorem G7:∀f n,n<=f->uY f n=uY n n
 |0,n,h=>by simp_all
 |f+1,n,h=>by
  cases n with
  |zero=>simp[uY]
  |succ n=>
   simp[uY];split
   ·rfl
   ·rw[G7 f _ (by omega),G7 n _ (by omega)]
theorem vR(n:Nat)(h:n<=9):gR n=[dg n]:=by
 unfold gR;cases n with
 |zero=>rfl
 |succ n=>simp only[uY];simp_all
theorem yD(n:Nat)(h:¬n<=9):gR n=gR (n/10)++[dg (n%10)]:=by
 unfold gR;cases n with
 |zero=>omega
 |succ n=>simp only[uY];rw[if_neg h,G7 n _ (by omega)]
def xc(k many q step:Int):=decide (0<=k/\k<=6/\k<many/\1<=q/\q<=8/\1<=step/\step<=200)
theorem XL(w:World)(b:Nat)(s:ByteArray)(p:Nat)(c:Int)(least most:Int)(h:RD w b s p c)(m:s.size<=1000)(g:p<=s.size)(f:0<=most)(Z:most<=1000)(W:0<=least)(V:least<=1000):
  Calls Tryz.prog 70 #[.pointer (some ⟨b,0,none⟩),.func (.func 95) #[] #[],.int .i64 least,.int .i64 most] w fun e w'=>
   yC w b s p c (iy lh (rest s p) most.toNat) least e w':=by
 have S:=h.c1
 go_enter bj,bm
 go_wp2
 clear S
 go_loopw [] (fun wr=>∃q:Nat,IH w b s p c lh most.toNat q wr) (fun wr=>s.size-mX wr b)
 case atStart=>exact⟨p,ae _,by omega,h,GD _ _⟩
 case round=>
  obtain⟨q,F,G,Y,U⟩:=hrel;have B:=rA lh (rest s p) most.toNat;rw[nI]at B;have c0:=Y.c0;have c1:=Y.c1;have f1:=Y.fz 1;have E:ak.wrap ((q:Int)-(p:Int))=(q:Int)-(p:Int):=ar _ (by omega);by_cases X:(q:Int)-(p:Int)<most
  ·have J:decide ((q:Int)-(p:Int)<most)=true:=by simp;omega
   by_cases I:q<s.size
   ·have N:((q:Int)==(s.size:Int))=false:=by simp;omega
    have T:(q:Int)<(s.size:Int):=by omega
    by_cases D:lh s[q]=true
    ·go_wp2_with fail
     go_quiet((first|(go_at_call 65;exact ah (oj _ _ _ _ _ (Y.drewN _)))|(go_at_call 95;exact aj (Co _ _))))
     have M:=Cl lh (rest s p) most.toNat (q-p) (by rw[nI];omega) (by omega) (by omega) (by rw[yB s p q F I];exact D);go_wp2
     have A:=(Y.drewN nq).put ((q:Int)+1);have L:=jq U (jq (nG wr nq (some b)) (pW (wr.drewN nq) b 1 (.int .i64 ((q:Int)+1))))
     go_roundw
     case rel=>go_light;exact⟨q+1,by omega,by omega,A,L⟩
     case measure=>go_light;have P:=Y.mX;have Q:=A.mX;rw[P,Q];omega
    ·rw[af]at D;have H:Hid (q=p+iy lh (rest s p) most.toNat):=by
      have:=Cm lh (rest s p) most.toNat (q-p) (by rw[nI];omega) (by omega) (by rw[yB s p q F I];exact D);exact laid (by omega)
     go_wp2_with fail
     go_quiet((first|(go_at_call 65;exact ah (oj _ _ _ _ _ (Y.drewN _)))|(go_at_call 95;exact aj (Co _ _))))
     have K:=Y.drewN nq;have R:=jq U (nG wr nq (some b));by_cases C:(q:Int)-(p:Int)<least
     ·go_wp2_with(go_at_call 69;refine(qE _ _ _ _ _ K).mono ?_;rintro e w' ⟨rfl,O,rfl⟩)
      exact⟨rfl,ti (least:=least) H.out (by omega) (by omega) Y U _⟩
     ·go_wp2
      go_quiet(fail)
      go_wp2
      go_ret
      exact tj (least:=least) H.out (by omega) (by omega) K R _
   ·have N:((q:Int)==(s.size:Int))=true:=by simp;omega
    have H:Hid (q=p+iy lh (rest s p) most.toNat):=laid (by omega);go_wp2_with fail
    go_quiet((first|(go_at_call 65;exact ah (oj _ _ _ _ _ (Y.drewN _)))|(go_at_call 95;exact aj (Co _ _))))
    have K:=Y.drewN nq;have R:=jq U (nG wr nq (some b));by_cases C:(q:Int)-(p:Int)<least
    ·go_wp2_with(go_at_call 69;refine(qE _ _ _ _ _ K).mono ?_;rintro e w' ⟨rfl,O,rfl⟩)
     exact⟨rfl,ti (least:=least) H.out (by omega) (by omega) Y U _⟩
    ·go_wp2
     go_quiet(fail)
     go_wp2
     go_ret
     exact tj (least:=least) H.out (by omega) (by omega) K R _
  ·have J:decide ((q:Int)-(p:Int)<most)=false:=by simp;omega
   have H:Hid (q=p+iy lh (rest s p) most.toNat):=laid (by omega);go_wp2_with fail
   go_quiet((first|(go_at_call 65;exact ah (oj _ _ _ _ _ (Y.drewN _)))|(go_at_call 95;exact aj (Co _ _))))
   have K:=Y.drewN nq;have R:=jq U (nG wr nq (some b));by_cases C:(q:Int)-(p:Int)<least
   ·go_wp2_with(go_at_call 69;refine(qE _ _ _ _ _ K).mono ?_;rintro e w' ⟨rfl,O,rfl⟩)
    exact⟨rfl,ti (least:=least) H.out (by omega) (by omega) Y U _⟩
   ·go_wp2
    go_quiet(fail)
    go_wp2
    go_ret
    exact tj (least:=least) H.out (by omega) (by omega) K R _
theorem XM(w:World)(b:Nat)(s:ByteArray)(p:Nat)(c:Int)(least most:Int)(h:RD w b s p c)(m:s.size<=1000)(g:p<=s.size)(f:0<=most)(Z:most<=1000)(W:0<=least)(V:least<=1000):
  Calls Tryz.prog 70 #[.pointer (some ⟨b,0,none⟩),.func (.func 120) #[] #[],.int .i64 least,.int .i64 most] w fun e w'=>
   yC w b s p c (iy kG (rest s p) most.toNat) least e w':=by
 have S:=h.c1
 go_enter bj,bm
 go_wp2
 clear S
 go_loopw [] (fun wr=>∃q:Nat,IH w b s p c kG most.toNat q wr) (fun wr=>s.size-mX wr b)
 case atStart=>exact⟨p,ae _,by omega,h,GD _ _⟩
 case round=>
  obtain⟨q,F,G,Y,U⟩:=hrel;have B:=rA kG (rest s p) most.toNat;rw[nI]at B;have c0:=Y.c0;have c1:=Y.c1;have f1:=Y.fz 1;have E:ak.wrap ((q:Int)-(p:Int))=(q:Int)-(p:Int):=ar _ (by omega);by_cases X:(q:Int)-(p:Int)<most
  ·have J:decide ((q:Int)-(p:Int)<most)=true:=by simp;omega
   by_cases I:q<s.size
   ·have N:((q:Int)==(s.size:Int))=false:=by simp;omega
    have T:(q:Int)<(s.size:Int):=by omega
    by_cases D:kG s[q]=true
    ·go_wp2_with fail
     go_quiet((first|(go_at_call 65;exact ah (oj _ _ _ _ _ (Y.drewN _)))|(go_at_call 120;exact aj (Cp _ _))))
     have M:=Cl kG (rest s p) most.toNat (q-p) (by rw[nI];omega) (by omega) (by omega) (by rw[yB s p q F I];exact D);go_wp2
     have A:=(Y.drewN nq).put ((q:Int)+1);have L:=jq U (jq (nG wr nq (some b)) (pW (wr.drewN nq) b 1 (.int .i64 ((q:Int)+1))))
     go_roundw
     case rel=>go_light;exact⟨q+1,by omega,by omega,A,L⟩
     case measure=>go_light;have P:=Y.mX;have Q:=A.mX;rw[P,Q];omega
    ·rw[af]at D;have H:Hid (q=p+iy kG (rest s p) most.toNat):=by
      have:=Cm kG (rest s p) most.toNat (q-p) (by rw[nI];omega) (by omega) (by rw[yB s p q F I];exact D);exact laid (by omega)
     go_wp2_with fail
     go_quiet((first|(go_at_call 65;exact ah (oj _ _ _ _ _ (Y.drewN _)))|(go_at_call 120;exact aj (Cp _ _))))
     have K:=Y.drewN nq;have R:=jq U (nG wr nq (some b));by_cases C:(q:Int)-(p:Int)<least
     ·go_wp2_with(go_at_call 69;refine(qE _ _ _ _ _ K).mono ?_;rintro e w' ⟨rfl,O,rfl⟩)
      exact⟨rfl,ti (least:=least) H.out (by omega) (by omega) Y U _⟩
     ·go_wp2
      go_quiet(fail)
      go_wp2
      go_ret
      exact tj (least:=least) H.out (by omega) (by omega) K R _
   ·have N:((q:Int)==(s.size:Int))=true:=by simp;omega
    have H:Hid (q=p+iy kG (rest s p) most.toNat):=laid (by omega);go_wp2_with fail
    go_quiet((first|(go_at_call 65;exact ah (oj _ _ _ _ _ (Y.drewN _)))|(go_at_call 120;exact aj (Cp _ _))))
    have K:=Y.drewN nq;have R:=jq U (nG wr nq (some b));by_cases C:(q:Int)-(p:Int)<least
    ·go_wp2_with(go_at_call 69;refine(qE _ _ _ _ _ K).mono ?_;rintro e w' ⟨rfl,O,rfl⟩)
     exact⟨rfl,ti (least:=least) H.out (by omega) (by omega) Y U _⟩
    ·go_wp2
     go_quiet(fail)
     go_wp2
     go_ret
     exact tj (least:=least) H.out (by omega) (by omega) K R _
  ·have J:decide ((q:Int)-(p:Int)<most)=false:=by simp;omega
   have H:Hid (q=p+iy kG (rest s p) most.toNat):=laid (by omega);go_wp2_with fail
   go_quiet((first|(go_at_call 65;exact ah (oj _ _ _ _ _ (Y.drewN _)))|(go_at_call 120;exact aj (Cp _ _))))
   have K:=Y.drewN nq;have R:=jq U (nG wr nq (some b));by_cases C:(q:Int)-(p:Int)<least
   ·go_wp2_with(go_at_call 69;refine(qE _ _ _ _ _ K).mono ?_;rintro e w' ⟨rfl,O,rfl⟩)
    exact⟨rfl,ti (least:=least) H.out (by omega) (by omega) Y U _⟩
   ·go_wp2
    go_quiet(fail)
    go_wp2
    go_ret
    exact tj (least:=least) H.out (by omega) (by omega) K R _
def pZ(w:World)(b:Nat)(s:ByteArray)(c:Int)(st:Nat×Bool)(v:Value)(e:Ending)(w':World):Prop:=
 (st.2=false->e=.returned v)/\(st.2=true->e=.panicked (oN c (st.1:Int)))/\RD w' b s (st.1:Int) c/\w.grownBy w' (some b)
theorem Ho(w:World)(b:Nat)(s:ByteArray)(p:Nat)(c:Int)(h:RD w b s p c)(Y:s.size=p):
  Calls Tryz.prog 65 #[.pointer (some ⟨b,0,none⟩)] w fun e w'=>e=.returned (.bool true)/\∃m,w'=w.drewN m:=by
 have:=oj w b s p c h;simp_all
theorem CV(w:World)(b:Nat)(s:ByteArray)(p:Nat)(c:Int)(h:RD w b s p c)(Y:p<s.size):
  Calls Tryz.prog 65 #[.pointer (some ⟨b,0,none⟩)] w fun e w'=>e=.returned (.bool false)/\∃m,w'=w.drewN m:=by
 have:=oj w b s p c h
 rwa [show(p==(s.size:Int))=false by simp;omega]at this
theorem Zd(w:World)(b:Nat)(s:ByteArray)(p:Nat)(c:Int)(x:UInt8)(h:RD w b s p c)(U:s.size<=1000)(A:p<=s.size):
  Calls Tryz.prog 94 #[.pointer (some ⟨b,0,none⟩),.int .u8 (x.toNat:Int)] w fun e w'=>pZ w b s c (h_ s x p) (.tuple #[]) e w':=by
 have c0:=h.c0;have c1:=h.c1;have f1:=h.fz 1;by_cases Y:p<s.size
 ·have R:(p:Int)<(s.size:Int):=by omega
  by_cases H:s[p]=x
  ·have hd:((s[p].toNat:Int) != (x.toNat:Int))=false:=by rw[H];simp
   have gq:h_ s x p=(p+1,false):=by unfold h_;rw[dif_pos Y,if_pos H]
   rw[gq];clear gq H
   go_enter bk,bp
   go_wp2_with fail
   go_quiet((go_at_call 65;exact ah (CV _ _ _ _ _ (h.drewN _) Y)))
   go_wp2
   go_end0
   have D:=(h.drewN nq).put ((p:Int)+1);exact⟨fun _=>rfl,fun K=>aL K,D,jq (nG w nq (some b)) (pW _ b 1 _)⟩
  ·have hd:((s[p].toNat:Int) != (x.toNat:Int))=true:=by
    rw[bne_iff_ne];intro K;exact H (UInt8.toNat.inj (by omega))
   have gq:h_ s x p=(p,true):=by unfold h_;rw[dif_pos Y,if_neg H]
   rw[gq];clear gq H
   go_enter bk,bp
   go_wp2_with fail
   go_quiet((go_at_call 65;exact ah (CV _ _ _ _ _ (h.drewN _) Y)))
   go_wp2_with(go_at_call 69;refine(qE _ _ _ _ _ (h.drewN _)).mono ?_;rintro e w' ⟨rfl,I,rfl⟩)
   exact⟨rfl,fun K=>aL K,fun _=>rfl,h.drewN _,nG w _ (some b)⟩
 ·have gq:h_ s x p=(p,true):=by unfold h_;rw[dif_neg Y]
  rw[gq];clear gq
  go_enter bk,bp
  go_wp2_with fail
  go_quiet((go_at_call 65;exact ah (Ho _ _ _ _ _ (h.drewN _) (by omega))))
  go_wp2_with(go_at_call 69;refine(qE _ _ _ _ _ (h.drewN _)).mono ?_;rintro e w' ⟨rfl,I,rfl⟩)
  exact⟨rfl,fun K=>aL K,fun _=>rfl,h.drewN _,nG w _ (some b)⟩
theorem yx(w:World)(b:Nat)(s:ByteArray)(p:Nat)(c:Int)(n:Int)(x:UInt8)(Y:n=x.toNat)(h:RD w b s p c)(H:s.size<=1000)(K:p<=s.size):
  Calls Tryz.prog 94 #[.pointer (some ⟨b,0,none⟩),.int .u8 n] w fun e w'=>pZ w b s c (h_ s x p) (.tuple #[]) e w':=by
 subst Y;exact Zd w b s p c x h H K
theorem Gy{p:Nat}{c:Int}{f:UInt8->Bool}{least most:Nat}{e:Ending}
  (h:yC w b s p c (iy f (rest s p) most) least e w'):pZ w b s c (lF s f least most p) (.string (s.extract p (p+iy f (rest s p) most))) e w':=by
 obtain⟨Y,D,R,K⟩:=h;unfold lF;refine⟨fun H=>Y ?_,fun H=>?_,?_,K⟩
 ·simp_all
 ·simp_all
 ·simp_all
theorem Xl(w:World)(b:Nat)(s:ByteArray)(p:Nat)(c:Int)(l m:Int)(least most:Nat)(Y:l=least)(H:m=most)(K:least<=1000)(D:most<=1000)
  (h:RD w b s p c)(A:s.size<=1000)(R:p<=s.size):
  Calls Tryz.prog 70 #[.pointer (some ⟨b,0,none⟩),.func (.func 71) #[] #[],.int .i64 l,.int .i64 m] w fun e w'=>
   pZ w b s c (lF s iM least most p) (.string (s.extract p (p+iy iM (rest s p) most))) e w':=by
 subst Y H;refine(GF w b s p c _ _ h A R (by omega) (by omega) (by omega) (by omega)).mono ?_;intro e w' I;exact Gy I
theorem Xm(w:World)(b:Nat)(s:ByteArray)(p:Nat)(c:Int)(l m:Int)(least most:Nat)(Y:l=least)(H:m=most)(K:least<=1000)(D:most<=1000)
  (h:RD w b s p c)(A:s.size<=1000)(R:p<=s.size):
  Calls Tryz.prog 70 #[.pointer (some ⟨b,0,none⟩),.func (.func 95) #[] #[],.int .i64 l,.int .i64 m] w fun e w'=>
   pZ w b s c (lF s lh least most p) (.string (s.extract p (p+iy lh (rest s p) most))) e w':=by
 subst Y H;refine(XL w b s p c _ _ h A R (by omega) (by omega) (by omega) (by omega)).mono ?_;intro e w' I;exact Gy I
theorem Xn(w:World)(b:Nat)(s:ByteArray)(p:Nat)(c:Int)(l m:Int)(least most:Nat)(Y:l=least)(H:m=most)(K:least<=1000)(D:most<=1000)
  (h:RD w b s p c)(A:s.size<=1000)(R:p<=s.size):
  Calls Tryz.prog 70 #[.pointer (some ⟨b,0,none⟩),.func (.func 120) #[] #[],.int .i64 l,.int .i64 m] w fun e w'=>
   pZ w b s c (lF s kG least most p) (.string (s.extract p (p+iy kG (rest s p) most))) e w':=by
 subst Y H;refine(XM w b s p c _ _ h A R (by omega) (by omega) (by omega) (by omega)).mono ?_;intro e w' I;exact Gy I
theorem rq{w1:World}{c:Int}{st:Nat×Bool}{v:Value}(gq:st.2=true)(hr:RD w1 b s (st.1) c)(Y:w.grownBy w1 (some b)):
  pZ w b s c st v (.panicked (oN c (st.1))) w1:=
 ⟨fun h=>by simp_all,fun _=>rfl,hr,Y⟩
theorem Gz{w1:World}{c:Int}{st:Nat×Bool}{v:Value}(gq:st.2=false)(hr:RD w1 b s (st.1) c)(Y:w.grownBy w1 (some b)):
  pZ w b s c st v (.returned v) w1:=
 ⟨fun _=>rfl,fun h=>by simp_all,hr,Y⟩
def kL(s:ByteArray)(x:UInt8)(p:Nat):=iC (h_ s x p) (qO s)
theorem ts{st R:Nat×Bool}{f:Nat->Nat×Bool}(h:iC st f=R)(gq:st.2=true):st=R:=by rw[<-h,v_ gq]
theorem tL{st R:Nat×Bool}{f:Nat->Nat×Bool}(h:iC st f=R)(gq:st.2=false):f st.1=R:=by rw[<-h,kK gq]
theorem pg{w1:World}{c:Int}{st R:Nat×Bool}{v:Value}{e:Ending}(Y:st=R)(h:pZ w b s c st v e w1):pZ w b s c R v e w1:=by simp_all
def uj(s:ByteArray)(p:Nat):=s.extract p (p+iy lh (rest s p) 10)
theorem Nw(w:World)(b:Nat)(s:ByteArray)(p:Nat)(c:Int)(n:Int)(x:UInt8)(Z:n=(x.toNat:Int))(h:RD w b s p c)(S:s.size<=1000)(E:p<=s.size):
  Calls Tryz.prog 62 #[.pointer (some ⟨b,0,none⟩),.int .u8 n] w fun e w'=>pZ w b s c (kL s x p) (.string (uj s (h_ s x p).1)) e w':=by
 have q:=laid Z;clear Z;generalize V:kL s x p=R;have N:=laid V;clear V;generalize hX:uj s (h_ s x p).1=X;have T:=laid (show s.extract (h_ s x p).1 _=X from hX);clear hX
 go_enter Tryz.func62,Tryz.ntmps62
 go_wp2_with fail
 refine(yx _ _ s p c n x q.out h S E).mono ?_;rintro e w1 ⟨H,D,F,B⟩;have C:=qI s x p E;by_cases gq:(h_ s x p).2=true
 ·obtain rfl:=D gq;exact⟨rfl,pg (ts N.out gq) (rq gq F B)⟩
 ·rw[af]at gq;obtain rfl:=H gq;clear H D;have I:=laid (tL N.out gq);generalize(h_ s x p).1=M at *;clear gq N;go_wp2_with fail
  refine(Xm _ _ s M c _ _ 1 10 rfl rfl (by omega) (by omega) F S C.2).mono ?_;rintro e w2 ⟨H,D,J,O⟩;have Y:=jq B O;have Q:=wh s lh 1 10 M C.2;by_cases gq:(lF s lh 1 10 M).2=true
  ·obtain rfl:=D gq;exact⟨rfl,pg (ts I.out gq) (rq gq J Y)⟩
  ·rw[af]at gq;have U:=H gq;rw[T.out]at U;obtain rfl:=U;clear H D;have A:=laid (tL I.out gq);clear T;generalize(lF s lh 1 10 M).1=G at *;go_wp2_with fail
   refine(yx _ _ s G c _ 10 rfl J S Q.2).mono ?_;rintro e w3 ⟨H,D,L,P⟩;have K:=jq Y P;by_cases gq:(h_ s 10 G).2=true
   ·obtain rfl:=D gq;exact⟨rfl,pg A.out (rq gq L K)⟩
   ·rw[af]at gq;obtain rfl:=H gq;have W:=laid (pg (v:=.string X) A.out (Gz gq L K));clear gq;go_wp2
    go_ret
    exact W.out
theorem Yb(s:ByteArray)(f:UInt8->Bool)(m p:Nat)(Y:p<=s.size):(s.extract p (p+iy f (rest s p) m)).size=iy f (rest s p) m:=by
 have:=(rA f (rest s p) m).2;rw[nI]at this;rw[bI];omega
def ov(s:ByteArray)(m p:Nat):=s.extract p (p+jR s m p)
theorem G8(s:ByteArray)(m p:Nat)(Y:p<=s.size):(ov s m p).size=jR s m p:=Yb s iM m p Y
theorem GG(w:World)(b:Nat)(s:ByteArray)(p:Nat)(c:Int)(n:Int)(m:Nat)(M:n=m)(V:m<=1000)(h:RD w b s p c)(O:s.size<=1000)(N:p<=s.size):
  Calls Tryz.prog 64 #[.pointer (some ⟨b,0,none⟩),.int .i64 n] w fun e w'=>pZ w b s c (jd s m p) (.string (ov s m p)) e w':=by
 have S:=laid M;clear M;generalize L:jd s m p=R;have J:=laid L;clear L;generalize hX:ov s m p=X;have T:=laid (show s.extract p (p+iy iM (rest s p) m)=X from hX);clear hX
 go_enter Tryz.func64,Tryz.ntmps64
 go_wp2_with fail
 refine(Xl _ _ s p c _ n 1 m rfl S.out (by omega) V h O N).mono ?_;rintro e w1 ⟨U,B,I,D⟩;have F:=wh s iM 1 m p N;by_cases gq:(lF s iM 1 m p).2=true
 ·obtain rfl:=B gq;exact⟨rfl,pg (ts J.out gq) (rq gq I D)⟩
 ·rw[af]at gq;have H:=U gq;rw[T.out]at H;obtain rfl:=H;have K:=laid (tL J.out gq);generalize(lF s iM 1 m p).1=P at *;go_wp2_with fail
  refine(yx _ _ s P c _ 10 rfl I O F.2).mono ?_;rintro e w3 ⟨U,B,A,C⟩;have Y:=jq D C;by_cases gq:(h_ s 10 P).2=true
  ·obtain rfl:=B gq;exact⟨rfl,pg K.out (rq gq A Y)⟩
  ·rw[af]at gq;obtain rfl:=U gq;have Q:=laid (pg (v:=.string X) K.out (Gz gq A Y));go_wp2
   go_ret
   exact Q.out
theorem GH(w:World)(b:Nat)(s:ByteArray)(p c:Int)(h:RD w b s p c)(D:p=s.size):
  Calls Tryz.prog 72 #[.pointer (some ⟨b,0,none⟩)] w fun e w'=>e=.returned (.tuple #[])/\∃m,w'=w.drewN m:=by
 have K:=oj w b s p c h;have Y:=laid K
 go_enter Tryz.func72,cm
 go_wp2_with(refine(Y.out).mono ?_;rintro e w' ⟨rfl,H,rfl⟩)
 go_end0
 exact⟨rfl,H,rfl⟩
theorem Ni(w:World)(b:Nat)(s:ByteArray)(p c:Int)(h:RD w b s p c)(H:p≠(s.size:Int)):
  Calls Tryz.prog 72 #[.pointer (some ⟨b,0,none⟩)] w fun e w'=>e=.panicked (oN c p)/\∃m,w'=w.drewN m:=by
 have R:(p==s.size)=false:=by simp[H]
 have K:=oj w b s p c h;have Y:=laid K
 go_enter Tryz.func72,cm
 go_wp2_with(first|(refine(Y.out).mono ?_;rintro e w' ⟨rfl,D,rfl⟩)|(refine(qE _ _ _ _ _ (h.drewN _)).mono ?_;rintro e w' ⟨rfl,D,rfl⟩))
 exact⟨rfl,rfl,_,rfl⟩
theorem Ou(f:UInt8->Bool):∀l,l.all f=true->iy f l l.length=l.length
 |[],_=>by simp[iy]
 |x::l,h=>by
  simp only[List.all_cons,aV]at h;rw[bc,pV,if_pos h.1,Ou f l h.2]
theorem NJ(f:UInt8->Bool):∀l,l.all f=false->iy f l l.length<l.length
 |[],h=>by simp at h
 |x::l,h=>by
  rw[bc,pV];by_cases Y:f x=true
  ·rw[if_pos Y];have:=NJ f l (by simp_all);omega
  ·simp_all
theorem aaE(s:ByteArray):rest s 0=s.data.toList:=by simp[rest]
theorem aph(s:ByteArray):s.extract 0 s.size=s:=by simp
theorem Ny(h:(w.alloc o).grownBy w' (some w.heap.size)):Below w.heap.size w w':=
 Below.grown ((aA _ _).alloc (ae _) o) h (by simp) (by simp)
theorem CW(w:World)(s:ByteArray)(p c:Int):RD (w.alloc (.cells #[.string s,.int .i64 p,.int .i64 c] 98)) w.heap.size s p c:=heap_alloc_new w _
theorem NK(f:UInt8->Bool):∀l a b,a<=b->iy f l a<=iy f l b
 |[],a,b,_=>by cases a<;>cases b<;>simp[iy]
 |x::l,0,b,_=>by simp[iy]
 |x::l,a+1,0,h=>by omega
 |x::l,a+1,b+1,h=>by
  rw[pV,pV];by_cases Y:f x=true
  ·rw[if_pos Y,if_pos Y];have:=NK f l a b (by omega);omega
  ·simp_all
theorem Ze(f:UInt8->Bool)(l:List _)(m:Nat)(h:l.length<=m):iy f l m=iy f l l.length:=by
 induction l generalizing m with
 |nil=>cases m<;>simp[iy]
 |cons x l Y=>
  cases m with
  |zero=>simp at h
  |succ m=>
   simp at h⊢;rw[pV,pV];simp_all
theorem Zf(w:World)(b:Nat)(s:ByteArray)(c:Int)(least most:Int)(h:RD w b s 0 c)(C:0<=least)(H:least<=s.size)(F:s.size<=most)(D:most<=200)(K:s.data.toList.all iM=true):
  Calls Tryz.prog 70 #[.pointer (some ⟨b,0,none⟩),.func (.func 71) #[] #[],.int .i64 least,.int .i64 most] w fun e w'=>
   e=.returned (.string s)/\RD w' b s s.size c/\w.grownBy w' (some b):=by
 have hr:=Ou iM _ K;rw[Hm,<-aaE s]at hr;have R:iy iM (rest s 0) most.toNat=s.size:=by
  have Y:=rA iM (rest s 0) most.toNat;rw[nI]at Y;have I:=NK iM (rest s 0) s.size most.toNat (by omega);omega
 refine(GF w b s 0 c _ _ h (by omega) (by omega) (by omega) (by omega) (by omega) (by omega)).mono ?_;rintro e w' ⟨Y,_,A,U⟩;simp_all
theorem Yc(w:World)(b:Nat)(s:ByteArray)(c:Int)(least most:Int)(h:RD w b s 0 c)(C:0<=least)(A:least<=s.size)(F:s.size<=most)(U:most<=200)(D:s.data.toList.all iM=false):
  Calls Tryz.prog 70 #[.pointer (some ⟨b,0,none⟩),.func (.func 71) #[] #[],.int .i64 least,.int .i64 most] w fun e w'=>
   ((∃x,e=.returned (.string x))\/∃p,e=.panicked (oN c p))/\(∃p,RD w' b s p c/\p≠s.size)/\w.grownBy w' (some b):=by
 have hr:=NJ iM _ D;have I:iy iM (rest s 0) most.toNat<s.size:=by
  rw[Ze iM _ _ (by rw[nI];omega),nI];exact hr
 refine(GF w b s 0 c _ _ h (by omega) (by omega) (by omega) (by omega) (by omega) (by omega)).mono ?_;rintro e w' ⟨B,Y,K,H⟩;refine⟨?_,⟨_,K,by omega⟩,H⟩;by_cases R:least<=((iy iM (rest s 0) most.toNat))
 ·simp_all
 ·exact .inr ⟨_,Y (by omega)⟩
theorem XO(s:ByteArray)(least most:Int)(w:World)(C:0<=least)(H:least<=(s.size:Int))(F:(s.size:Int)<=most)(D:most<=200)(A:s.data.toList.all iM=true):
  Calls Tryz.prog 44 #[.string s,.int .i64 least,.int .i64 most] w fun e w'=>e=.returned (.string (str (s.data.toList.map gb)))/\Below w.heap.size w w':=by
 have U:=laid A;clear A;have B:decide ((s.size:Int)<least)=false:=by simp;omega
 go_enter Tryz.func44,cg
 go_wp2_with fail
 refine(Zf _ _ s 5 least most (CW w s 0 5) C H F D U.out).mono ?_;rintro e w1 ⟨rfl,R,I⟩;have Y:=Ny I;clear I;go_wp2_with fail
 refine(GH _ _ s _ 5 R rfl).mono ?_;rintro e w2 ⟨rfl,J,rfl⟩;go_wp2_with fail
 refine(Gs s _ (by omega)).mono ?_;rintro e w3 ⟨rfl,K⟩;go_wp2
 go_ret
 exact⟨rfl,(Go.below_drewN Y J).trans (K.mono Y.size)⟩
theorem Xo(s:ByteArray)(least most:Int)(w:World)(F:0<=least)(K:least<=(s.size:Int))(J:(s.size:Int)<=most)(H:most<=200)(A:s.data.toList.all iM=false):
  Calls Tryz.prog 44 #[.string s,.int .i64 least,.int .i64 most] w fun e w'=>(∃p,e=.panicked (oN 5 p))/\Below w.heap.size w w':=by
 have U:=laid A;clear A;have B:decide (most<(s.size:Int))=false:=by simp;omega
 go_enter Tryz.func44,cg
 go_wp2_with fail
 refine(Yc _ _ s 5 least most (CW w s 0 5) F K J H U.out).mono ?_;rintro e w1 ⟨C,⟨p,R,D⟩,I⟩;have Y:=Ny I;clear I;rcases C with⟨x,rfl⟩|⟨p',rfl⟩
 ·go_wp2_with fail
  refine(Ni _ _ s _ 5 R D).mono ?_;rintro e w2 ⟨rfl,L,rfl⟩;exact⟨rfl,⟨p,rfl⟩,Go.below_drewN Y L⟩
 ·exact⟨rfl,⟨p',rfl⟩,Y⟩
theorem Eb{W w1:World}(Y:Below W.heap.size W w1):(∀b o,b<W.heap.size->w1.cell? ⟨b,o,none⟩=W.cell? ⟨b,o,none⟩)/\(∀b o,b<W.heap.size->w1.frozen? ⟨b,o,none⟩=W.frozen? ⟨b,o,none⟩):=
 ⟨fun b o h=>Y.cell h,fun b o h=>Y.frozen h⟩
theorem th(h:Below w.heap.size w w')(r:Option Nat):w.grownBy w' r:=
 ⟨h.os,h.tape,h.output,h.size,fun k hk _=>h.block k hk⟩
theorem Zg(s:ByteArray)(x y:Nat)(v:Value)(w:World)(J:s.size<=200)(A:s.data.toList.all iM=true)
  (M:w.cell? ⟨x,0,none⟩=some (.string s))(U:w.cell? ⟨y,0,none⟩=some v)(C:w.frozen? ⟨y,0,none⟩=false):
  Calls Tryz.prog 50 #[.pointer (some ⟨x,0,none⟩),.pointer (some ⟨y,0,none⟩)] w fun e w'=>
   e=.returned (.tuple #[])/\w'.cell? ⟨y,0,none⟩=some (.string (rJ s))/\w.grownBy w' (some y):=by
 have B:rJ s=g_ (str (s.data.toList.map gb)) 0:=by unfold rJ;rw[if_neg (by omega),if_pos A]
 rw[B];have I:=laid A;have H:=block_lt_of_cell U
 go_enter Tryz.func50,cj
 go_wp2_with fail
 refine(XO s 0 200 _ (by omega) (by omega) (by omega) (by omega) I.out).mono ?_;rintro e w1 ⟨rfl,K⟩;go_wp2_with fail
 refine(P6 _ _ (by rw[gV];simp;omega)).mono ?_;rintro e w2 ⟨rfl,D⟩;have Y:=K.trans (D.mono K.size);have R:w2.cell? ⟨y,0,none⟩=some v:=by rw[(Eb Y).1 y 0 H];exact U
 have F:w2.frozen? ⟨y,0,none⟩=false:=by rw[(Eb Y).2 y 0 H];exact C
 go_wp2
 go_end0
 exact⟨rfl,aT _ _ _ R,jq (th Y _) (pW w2 y 0 _)⟩
theorem Yd(s:ByteArray)(x y:Nat)(w:World)(D:s.size<=200)(H:s.data.toList.all iM=false)
  (R:w.cell? ⟨x,0,none⟩=some (.string s)):
  Calls Tryz.prog 50 #[.pointer (some ⟨x,0,none⟩),.pointer (some ⟨y,0,none⟩)] w fun e w'=>
   (∃p,e=.panicked (oN 5 p))/\Below w.heap.size w w':=by
 have K:=laid H
 go_enter Tryz.func50,cj
 go_wp2_with fail
 refine(Xo s 0 200 _ (by omega) (by omega) (by omega) (by omega) K.out).mono ?_;rintro e w1 ⟨⟨p,rfl⟩,Y⟩;exact⟨rfl,⟨p,rfl⟩,Y⟩
theorem XP(c p:Int)(w:World):(Instr.typeAssert (.iface 70 (.agg #[.int .i64 c,.int .i64 p])) 20 70 true).run Tryz.prog w=.ok (.tuple #[.agg #[.int .i64 c,.int .i64 p],.bool true]) w:=by kernel_rfl
theorem Ov(m:Nat)(a0 a1 c p:Int)(Y:List PanicEntry)(w:World)(R:w.cell? ⟨m,0,none⟩=some (.int .i64 a0))(J:w.cell? ⟨m,1,none⟩=some (.int .i64 a1))(U:w.frozen? ⟨m,0,none⟩=false)(C:w.frozen? ⟨m,1,none⟩=false):
  CallsD Tryz.prog 61 #[.pointer (some ⟨m,0,none⟩)] (.panicking ({v:=.iface 70 (.agg #[.int .i64 c,.int .i64 p]),recovered:=false}::Y)) w fun e F w'=>
   e=.returned (.tuple #[])/\F=.panicking ({v:=.iface 70 (.agg #[.int .i64 c,.int .i64 p]),recovered:=true}::Y)/\w'=((w.setCell ⟨m,0,none⟩ (.int .i64 c)).setCell ⟨m,1,none⟩ (.int .i64 p)).alloc (.cells #[.int .i64 c,.int .i64 p] 70):=by
 refine callsD_of_wpS Tryz.func61 rfl fun H cs K=>?_;apply wpS_seq;apply wpS_region;simp[wpOpsS,go_sem,recoverD,K,ck,Exit.thenS];refine wpS_of_wp ?_;generalize I:Value.iface 70 (.agg #[.int .i64 c,.int .i64 p])=V;have D:(#[Value.pointer (some ⟨m,0,none⟩)]++((bC 15 undef).setIfInBounds 3 V).setIfInBounds 0 V)=#[.pointer (some ⟨m,0,none⟩),V,undef,undef,V,undef,undef,undef,undef,undef,undef,undef,undef,undef,undef,undef]:=rfl;rw[D];clear D;subst I;have B:=laid K;clear K;have A:=XP c p;have L:m<w.heap.size:=by have:=block_lt_of_cell R;simpa using this
 go_wp2
 simp[bodyPostS,results,cu]
theorem Ow(m:Nat)(w:World):
  CallsD Tryz.prog 61 #[.pointer (some ⟨m,0,none⟩)] .returning w fun e R w'=>
   e=.returned (.tuple #[])/\R=.returning/\w'=w:=by
 refine callsD_of_wpS Tryz.func61 rfl fun Y cs K=>?_;apply wpS_seq;apply wpS_region;simp[wpOpsS,go_sem,recoverD,K,ck,Exit.thenS];refine wpS_of_wp ?_;have H:(#[Value.pointer _]++((bC 15 undef).setIfInBounds 3 cx).setIfInBounds 0 cx)=#[.pointer (some ⟨m,0,none⟩),.nilIface,undef,undef,.nilIface,undef,undef,undef,undef,undef,undef,undef,undef,undef,undef,undef]:=rfl;rw[H];clear H;have D:=laid K;clear K;go_wp2
 have K:=D.out;cases Y;simp_all[bodyPostS,results,cu]
theorem tM{w1:World}(a b:Value)(n0:w1.cell? ⟨n,0,none⟩=some u0)(n1:w1.cell? ⟨n,1,none⟩=some I):
  ((w1.setCell ⟨n,0,none⟩ a).setCell ⟨n,1,none⟩ b).cell? ⟨n,0,none⟩=some a/\((w1.setCell ⟨n,0,none⟩ a).setCell ⟨n,1,none⟩ b).cell? ⟨n,1,none⟩=some b/\
   w1.grownBy ((w1.setCell ⟨n,0,none⟩ a).setCell ⟨n,1,none⟩ b) (some n):=by
 have Y:=aT w1 _ a n0;have K:(w1.setCell ⟨n,0,none⟩ a).cell? ⟨n,1,none⟩=some I:=by
  rw[ao (h:=by simp)];exact n1
 refine⟨?_,aT _ _ b K,jq (pW w1 n 0 a) (pW _ n 1 b)⟩;rw[ao (h:=by simp)];exact Y
theorem O4{w1 w2:World}(Y:(w.alloc o).grownBy w1 (some y))(K:w1.grownBy w2 (some w.heap.size)):w.grownBy w2 (some y):=by
 refine⟨K.os.trans Y.os,K.tape.trans Y.tape,K.output.trans Y.output,?_,fun k hk H=>?_⟩
 ·have:=Y.size;have:=K.size;simp at *;omega
 ·have D:=Y.size;simp at D;rw[K.block k (by omega) (by simp;omega),Y.block k (by simp;omega) H,bE w o k hk]
theorem aaF{r:Option Nat}(H:w.grownBy w' r)(K:b<w.heap.size)(Y:some b≠r):w'.cell? ⟨b,j,none⟩=w.cell? ⟨b,j,none⟩:=
 World.cell?_of_block (H.block b K Y)
theorem Xb(s:ByteArray)(x y:Nat)(v:Value)(w:World)(N:s.size<=200)(C:s.data.toList.all iM=true)
  (F:w.cell? ⟨x,0,none⟩=some (.string s))(J:w.cell? ⟨y,0,none⟩=some v)(M:w.frozen? ⟨y,0,none⟩=false):
  Calls Tryz.prog 41 #[.func (.func 50) #[] #[.pointer (some ⟨x,0,none⟩),.pointer (some ⟨y,0,none⟩)]] w fun e w'=>
   e=.returned (.agg #[.int .i64 0,.int .i64 0])/\w'.cell? ⟨y,0,none⟩=some (.string (rJ s))/\w.grownBy w' (some y):=by
 have B:=laid C;clear C;have A:x<w.heap.size:=by have:=block_lt_of_cell F;simpa using this
 have D:y<w.heap.size:=by have:=block_lt_of_cell J;simpa using this
 go_enter_defers Tryz.func41,cf
 go_wp2_with fail
 refine(Zg s x y v _ N B.out ?_ ?_ ?_).mono ?_
 ·rw[aJ _ _ _ A];exact F
 ·rw[aJ _ _ _ D];exact J
 ·rw[World.frozen?_alloc_past _ _ _ D];exact M
 rintro e w1 ⟨rfl,K,R⟩;have hN:=R.block w.heap.size (by simp) (by simp;omega);rw[heap_alloc_new]at hN;have n0:w1.cell? ⟨w.heap.size,0,none⟩=some (.int .i64 0):=by rw[cell_of_row _ _ _ _ _ _ hN];rfl
 have n1:w1.cell? ⟨w.heap.size,1,none⟩=some (.int .i64 0):=by rw[cell_of_row _ _ _ _ _ _ hN];rfl
 have z0:w1.frozen? ⟨w.heap.size,0,none⟩=false:=frozen_of_row _ _ _ _ _ hN;have P:w1.frozen? ⟨w.heap.size,1,none⟩=false:=frozen_of_row _ _ _ _ _ hN;go_wp2
 obtain⟨m0,L,H⟩:=tM (.int .i64 0) (.int .i64 0) n0 n1;have U:y<w1.heap.size:=by have:=block_lt_of_cell K;simpa using this
 have Y:=K;rw[<-aaF (j:=0) H U (by simp;omega)]at Y;have I:=O4 R H;clear K hN n0 n1 z0 P R H;refine leaves_cons (f:=61) (args:=#[.pointer (some ⟨w.heap.size,0,none⟩)]) (by simp) (by simp[go_sem]) ?_;refine(Ow _ _).mono ?_;rintro e Q O ⟨rfl,rfl,rfl⟩;refine⟨.agg #[.int .i64 0,.int .i64 0],?_,rfl,Y,I⟩;simp[results,cn,go_sem,m0,L]
theorem WZ(s:ByteArray)(x y:Nat)(w:World)(C:s.size<=200)(A:s.data.toList.all iM=false)
  (U:w.cell? ⟨x,0,none⟩=some (.string s)):
  Calls Tryz.prog 41 #[.func (.func 50) #[] #[.pointer (some ⟨x,0,none⟩),.pointer (some ⟨y,0,none⟩)]] w fun e w'=>
   (∃p,e=.returned (.agg #[.int .i64 5,.int .i64 p]))/\Below w.heap.size w w':=by
 have I:=laid A;clear A;have R:x<w.heap.size:=by have:=block_lt_of_cell U;simpa using this
 go_enter_defers Tryz.func41,cf
 go_wp2_with fail
 refine(Yd s x y _ C I.out ?_).mono ?_
 ·rw[aJ _ _ _ R];exact U
 rintro e w1 ⟨⟨p,rfl⟩,Y⟩;have hN:=Y.block w.heap.size (by simp);rw[heap_alloc_new]at hN;have n0:w1.cell? ⟨w.heap.size,0,none⟩=some (.int .i64 0):=by rw[cell_of_row _ _ _ _ _ _ hN];rfl
 have n1:w1.cell? ⟨w.heap.size,1,none⟩=some (.int .i64 0):=by rw[cell_of_row _ _ _ _ _ _ hN];rfl
 have z0:w1.frozen? ⟨w.heap.size,0,none⟩=false:=frozen_of_row _ _ _ _ _ hN;have L:w1.frozen? ⟨w.heap.size,1,none⟩=false:=frozen_of_row _ _ _ _ _ hN;refine leaves_cons (f:=61) (args:=#[.pointer (some ⟨w.heap.size,0,none⟩)]) (by simp) (by simp[go_sem]) ?_;refine(Ov _ _ _ 5 p [] _ n0 n1 z0 L).mono ?_;rintro e N J ⟨rfl,rfl,rfl⟩;have B:w.heap.size<w1.heap.size:=by have:=block_lt_of_cell n0;simpa using this
 obtain⟨m0,F,K⟩:=tM (.int .i64 5) (.int .i64 p) n0 n1;generalize M:(w1.setCell ⟨w.heap.size,0,none⟩ (.int .i64 5)).setCell ⟨w.heap.size,1,none⟩ (.int .i64 p)=w2 at *;have D:w.heap.size<w2.heap.size:=by have:=K.size;omega
 refine⟨.agg #[.int .i64 5,.int .i64 p],?_,⟨p,rfl⟩,?_⟩
 ·simp[results,cn,go_sem,m0,F,D]
 ·have H:Below w.heap.size w w1:=((aA _ _).alloc (ae _) _).trans (Y.mono (by simp));exact(H.grown K (by omega) (by intro k hk;cases hk;exact ae _)).alloc (by omega) _
theorem G9(st:Nat×Bool)(f g:Nat->Nat×Bool):iC (iC st f) g=iC st fun q=>iC (f q) g:=by
 unfold iC;by_cases h:st.2=true
 ·simp_all
 ·simp_all
theorem wi(s:ByteArray)(x:UInt8)(p:Nat)(h:p<=s.size):p<=(kL s x p).1/\(kL s x p).1<=s.size:=qc (qI s x p h) fun q Y=>Qa s q Y
theorem Ia(s:ByteArray)(p:Nat):lP s p=iC (kL s 64 p) fun p=>iC (jd s 30 p) fun p'=>iC (h_ s 43 p') fun p'=>iC (h_ s 10 p') fun p'=>iC (lF s kG (jR s 30 p) (jR s 30 p) p') (h_ s 10):=by
 unfold lP kL;rw[G9]
theorem acm(s:ByteArray)(p:Nat)(h:p<=s.size):p<=(lP s p).1/\(lP s p).1<=s.size:=by
 rw[Ia];refine qc (wi s 64 p h) fun q R=>qc (uN s 30 q R) fun I Y=>qc (qI s 43 I Y) fun A K=>qc (qI s 10 A K) fun U H=>qc (wh s _ _ _ U H) fun B D=>qI s 10 B D
def xY(s:ByteArray)(p:Nat):=uj s (h_ s 64 p).1
def xZ(s:ByteArray)(p:Nat):=str ((ov s 30 (kL s 64 p).1).data.toList.map gb)
def EW(s:ByteArray)(p:Nat):=(h_ s 10 (h_ s 43 (jd s 30 (kL s 64 p).1).1).1).1
def x5(s:ByteArray)(p:Nat):=s.extract (EW s p) (EW s p+iy kG (rest s (EW s p)) (jR s 30 (kL s 64 p).1))
def oX(s:ByteArray)(p:Nat):Value:=.agg #[.string (xY s p),.string (xZ s p),.string (x5 s p)]
theorem RD.lt{p c:Int}(h:RD w b s p c):b<w.heap.size:=by
 rcases aD b _ with h'|h'
 ·omega
 ·unfold RD at h;simp_all
theorem RD.alloc{p c:Int}(h:RD w b s p c)(o:Obj):RD (w.alloc o) b s p c:=by
 have:=h.lt;unfold RD at *;rw[heap_alloc_old w o this];exact h
theorem RD.below{p c:Int}(h:RD w b s p c)(K:Below B w w')(Y:b<B):RD w' b s p c:=by
 unfold RD at *;rw[K.block b Y];exact h
theorem RD.kept{r:Nat}{p c:Int}(h:RD w b s p c)(Y:w.grownBy w' (some r))(K:b≠r):RD w' b s p c:=by
 have:=h.lt;unfold RD at *;rw[Y.block b this (by simp_all)];exact h
theorem acn{w1:World}{u2:Value}(a b c:Value)(n0:w1.cell? ⟨n,0,none⟩=some u0)(n1:w1.cell? ⟨n,1,none⟩=some I)(n2:w1.cell? ⟨n,2,none⟩=some u2):
  (((w1.setCell ⟨n,0,none⟩ a).setCell ⟨n,1,none⟩ b).setCell ⟨n,2,none⟩ c).cell? ⟨n,0,none⟩=some a/\(((w1.setCell ⟨n,0,none⟩ a).setCell ⟨n,1,none⟩ b).setCell ⟨n,2,none⟩ c).cell? ⟨n,1,none⟩=some b/\
   (((w1.setCell ⟨n,0,none⟩ a).setCell ⟨n,1,none⟩ b).setCell ⟨n,2,none⟩ c).cell? ⟨n,2,none⟩=some c/\
   w1.grownBy (((w1.setCell ⟨n,0,none⟩ a).setCell ⟨n,1,none⟩ b).setCell ⟨n,2,none⟩ c) (some n):=by
 obtain⟨m0,H,K⟩:=tM a b n0 n1;have Y:((w1.setCell ⟨n,0,none⟩ a).setCell ⟨n,1,none⟩ b).cell? ⟨n,2,none⟩=some u2:=by
  rw[ao (h:=by simp),ao (h:=by simp)];exact n2
 refine⟨?_,?_,aT _ _ c Y,jq K (pW _ n 2 c)⟩
 ·rw[ao (h:=by simp)];exact m0
 ·rw[ao (h:=by simp)];exact H
theorem yy{r:Option Nat}(h:(w.alloc o).grownBy w' r):w.grownBy w' r:=by
 refine⟨h.os,h.tape,h.output,?_,fun k hk Y=>?_⟩
 ·have:=h.size;simp at this;omega
 ·rw[h.block k (by simp;omega) Y,bE w o k hk]
theorem Ye(w:World)(b:Nat)(s:ByteArray)(p:Nat)(c:Int)(h:RD w b s p c)(V:s.size<=1000)(hp:p<=s.size):
  Calls Tryz.prog 109 #[.pointer (some ⟨b,0,none⟩)] w fun e w'=>pZ w b s c (lP s p) (oX s p) e w':=by
 generalize hR:lP s p=R;rw[Ia]at hR;have HR:=laid hR;clear hR;have apo:=h.lt;unfold oX;generalize q:xY s p=PN;generalize j:xZ s p=k;generalize z:x5 s p=i;have X:=laid (show uj s (h_ s 64 p).1=PN from q);have Z:=laid (show str ((ov s 30 (kL s 64 p).1).data.toList.map gb)=k from j);have E:=laid (show s.extract (h_ s 10 (h_ s 43 (jd s 30 (kL s 64 p).1).1).1).1 ((h_ s 10 (h_ s 43 (jd s 30 (kL s 64 p).1).1).1).1+iy kG (rest s (h_ s 10 (h_ s 43 (jd s 30 (kL s 64 p).1).1).1).1) (jR s 30 (kL s 64 p).1))=i from z);clear q j z
 go_enter Tryz.func109,Tryz.ntmps109
 go_wp2_with fail
 refine(Nw _ _ s p c _ 64 rfl (h.alloc _) V hp).mono ?_;rw[X.out];clear X;rintro e w1 ⟨Y,K,u,d⟩;have Q:=wi s 64 p hp;by_cases gq:(kL s 64 p).2=true
 ·obtain rfl:=K gq;exact⟨rfl,pg (ts HR.out gq) (rq gq u (yy d))⟩
 ·rw[af]at gq;obtain rfl:=Y gq;clear Y K;have L:=laid (tL HR.out gq);generalize(kL s 64 p).1=J at *;clear gq HR;go_wp2_with fail
  refine(GG _ _ s J c _ 30 rfl (by omega) u V Q.2).mono ?_;rintro e w2 ⟨Y,K,x,A⟩;replace A:=jq d A;have g:=uN s 30 J Q.2;by_cases gq:(jd s 30 J).2=true
  ·obtain rfl:=K gq;exact⟨rfl,pg (ts L.out gq) (rq gq x (yy A))⟩
  ·rw[af]at gq;obtain rfl:=Y gq;clear Y K;have M:=laid (tL L.out gq);have hnl:=Aw s 30 J;have HXS:=laid (G8 s 30 J Q.2);generalize ov s 30 J=X30 at *;generalize jR s 30 J=F at *;generalize(jd s 30 J).1=p2 at *;clear gq L;have EX:=HXS.out;go_wp2_with fail
   refine(yx _ _ s p2 c _ 43 rfl x V g.2).mono ?_;rintro e w3 ⟨Y,K,y,U⟩;replace U:=jq A U;have l:=qI s 43 p2 g.2;by_cases gq:(h_ s 43 p2).2=true
   ·obtain rfl:=K gq;exact⟨rfl,pg (ts M.out gq) (rq gq y (yy U))⟩
   ·rw[af]at gq;obtain rfl:=Y gq;clear Y K;have N:=laid (tL M.out gq);generalize(h_ s 43 p2).1=p3 at *;clear gq M;go_wp2_with fail
    refine(yx _ _ s p3 c _ 10 rfl y V l.2).mono ?_;rintro e w4 ⟨Y,K,m,B⟩;replace B:=jq U B;have o:=qI s 10 p3 l.2;by_cases gq:(h_ s 10 p3).2=true
    ·obtain rfl:=K gq;exact⟨rfl,pg (ts N.out gq) (rq gq m (yy B))⟩
    ·rw[af]at gq;obtain rfl:=Y gq;clear Y K;have O:=laid (tL N.out gq);generalize(h_ s 10 p3).1=p4 at *;clear gq N;go_wp2_with fail
     refine(Xn _ _ s p4 c _ _ F F rfl rfl (by omega) (by omega) m V o.2).mono ?_;rintro e w5 ⟨Y,K,n,C⟩;replace C:=jq B C;have EY:=wh s kG F F p4 o.2;by_cases gq:(lF s kG F F p4).2=true
     ·obtain rfl:=K gq;exact⟨rfl,pg (ts O.out gq) (rq gq n (yy C))⟩
     ·rw[af]at gq;have W:=Y gq;rw[E.out]at W;obtain rfl:=W;clear Y K E;have G:=laid (tL O.out gq);generalize(lF s kG F F p4).1=p5 at *;clear gq O;go_wp2_with fail
      refine(yx _ _ s p5 c _ 10 rfl n V EY.2).mono ?_;rintro e w6 ⟨Y,K,S,D⟩;replace D:=jq C D;by_cases gq:(h_ s 10 p5).2=true
      ·obtain rfl:=K gq;exact⟨rfl,pg G.out (rq gq S (yy D))⟩
      ·rw[af]at gq;obtain rfl:=Y gq;clear Y K;have EZ:=S.lt;have r:b≠w.heap.size:=by omega
       have hN:=D.block w.heap.size (by simp) (by simpa using fun h=>r h.symm);rw[heap_alloc_new]at hN;go_wp2_with fail
       refine(Gs X30 _ (by omega)).mono ?_;rintro e T ⟨rfl,I⟩;rw[Z.out];clear Z;have KS:w.heap.size<w6.heap.size:=by have:=D.size;simp at this;omega
       have H:=I.block w.heap.size KS;rw[hN]at H;have n0:T.cell? ⟨w.heap.size,0,none⟩=some (.string ⟨#[]⟩):=by rw[cell_of_row _ _ _ _ _ _ H];rfl
       have n1:T.cell? ⟨w.heap.size,1,none⟩=some (.string ⟨#[]⟩):=by rw[cell_of_row _ _ _ _ _ _ H];rfl
       have n2:T.cell? ⟨w.heap.size,2,none⟩=some (.string ⟨#[]⟩):=by rw[cell_of_row _ _ _ _ _ _ H];rfl
       have z0:T.frozen? ⟨w.heap.size,0,none⟩=false:=frozen_of_row _ _ _ _ _ H;have z1:T.frozen? ⟨w.heap.size,1,none⟩=false:=frozen_of_row _ _ _ _ _ H;have z2:T.frozen? ⟨w.heap.size,2,none⟩=false:=frozen_of_row _ _ _ _ _ H;have f:=jq D (th I (some b));have t:=S.below I EZ;obtain⟨m0,m1,m2,P⟩:=acn (.string PN) (.string k) (.string i) n0 n1 n2;have a:=t.kept P r;have HF:=laid (pg (v:=.agg #[.string PN,.string k,.string i]) G.out (Gz gq a (O4 f P)));clear gq hN H P a f I t;go_wp2
       refine bodyPost_ret (v:=.agg #[.string PN,.string k,.string i]) ?_ rfl HF.out;simp[results,Tryz.results109,go_sem,m0,m1,m2]
def xD(s:ByteArray)(Y:Nat)(st:Nat×Bool):ByteArray:=if st.2=true then⟨#[]⟩else cut s st.1 (st.1+iy kG (rest s st.1) Y)
def vu(s:ByteArray)(p:Nat):Nat×Bool:=h_ s 64 p
def nB(s:ByteArray)(p:Nat):Nat×Bool:=iC (vu s p) (qO s)
def vv(s:ByteArray)(p:Nat):Nat×Bool:=iC (nB s p) (jd s 30)
def vw(s:ByteArray)(p:Nat):Nat×Bool:=iC (vv s p) (h_ s 43)
def sU(s:ByteArray)(p:Nat):Nat×Bool:=iC (vw s p) (h_ s 10)
def nP(s:ByteArray)(p:Nat):ByteArray:=zp s 30 (nB s p)
def KT(s:ByteArray)(p:Nat):Nat×Bool:=iC (sU s p) (lF s kG (nP s p).size (nP s p).size)
def UE(s:ByteArray)(p:Nat):Nat×Bool:=iC (KT s p) (h_ s 10)
def uZ(s:ByteArray)(p:Nat):ByteArray×ByteArray×ByteArray:=(sH s (vu s p),nP s p,xD s (nP s p).size (sU s p))
theorem agI(s:ByteArray)(p:Nat)(D:p<=s.size):UE s p=lP s p:=by
 rw[Ia];unfold UE KT sU vw vv;by_cases h:(nB s p).2=true
 ·have e:kL s 64 p=nB s p:=rfl;rw[e,v_ h,v_ h];simp only[v_ h]
 ·rw[af]at h;have e:kL s 64 p=nB s p:=rfl;have K:nP s p=sI s 30 (nB s p).1:=by unfold nP zp;rw[if_neg (by simp[h])]
  have Y:=(wi s 64 p D).2;have H:(nP s p).size=jR s 30 (nB s p).1:=by rw[K];exact Hn s 30 _ Y
  rw[e,kK h,kK h,H];simp only[G9]
def iX(s:ByteArray):Nat->Nat->List (ByteArray×ByteArray×ByteArray)
 |0,_=>[]
 |n+1,p=>if s.size<=p then []else uZ s p::(if(lP s p).2=true then []else iX s n (lP s p).1)
def lG(L:List (ByteArray×ByteArray×ByteArray)):List Value:=L.flatMap fun r=>[.string r.1,.string r.2.1,.string r.2.2]
theorem Zh(L:List (ByteArray×ByteArray×ByteArray))(r:ByteArray×ByteArray×ByteArray):lG (L++[r])=lG L++[.string r.1,.string r.2.1,.string r.2.2]:=by
 unfold lG;simp
theorem GQ(s:ByteArray)(p q:Nat):cut s p q=s.extract p q:=by
 apply ByteArray.ext;apply Array.ext';simp only[bH,bD];rfl
theorem agJ(s:ByteArray)(h:(h_ s 62 0).2=false):wW s=uj s (h_ s 62 0).1:=by
 unfold wW sH uj;rw[if_neg (by simp[h]),GQ]
theorem agK(s:ByteArray)(p:Nat)(C:p<=s.size)(h:(lP s p).2=false):(xY s p,xZ s p,x5 s p)=uZ s p:=by
 rw[<-agI s p C]at h;obtain⟨P,_⟩:=r9 (show(iC (KT s p) (h_ s 10)).2=false from h);obtain⟨A,_⟩:=r9 (show(iC (sU s p) (lF s kG (nP s p).size (nP s p).size)).2=false from P);obtain⟨I,_⟩:=r9 (show(iC (vw s p) (h_ s 10)).2=false from A);obtain⟨R,_⟩:=r9 (show(iC (vv s p) (h_ s 43)).2=false from I);obtain⟨Y,_⟩:=r9 (show(iC (nB s p) (jd s 30)).2=false from R);obtain⟨O,_⟩:=r9 (show(iC (vu s p) (qO s)).2=false from Y);have H:(nB s p).1<=s.size:=(wi s 64 p C).2;have D:(kL s 64 p).1=(nB s p).1:=rfl;have L:(jd s 30 (nB s p).1).1=(vv s p).1:=by unfold vv;rw[kK Y]
 have M:(h_ s 43 (vv s p).1).1=(vw s p).1:=by unfold vw;rw[kK R]
 have N:(h_ s 10 (vw s p).1).1=(sU s p).1:=by unfold sU;rw[kK I]
 have U:nP s p=sI s 30 (nB s p).1:=by unfold nP zp;rw[if_neg (by simp[Y])]
 have K:(nP s p).size=jR s 30 (nB s p).1:=by rw[U];exact Hn s 30 _ H
 have B:xY s p=sH s (vu s p):=by
  unfold xY uj sH;rw[if_neg (by simp[O]),GQ];rfl
 have F:xZ s p=nP s p:=by
  rw[U];unfold xZ sI zo;rw[D,show(nB s p).1+jR s 30 (nB s p).1-(nB s p).1=jR s 30 (nB s p).1 by omega];congr 2;unfold ov;simp only[bH,bD,rest];simp[List.extract_eq_take_drop]
 have J:x5 s p=xD s (nP s p).size (sU s p):=by
  unfold x5 xD EW;rw[if_neg (by simp[A]),GQ,D,L,M,N,K]
 unfold uZ;rw[B,F,J]
structure qP(w:World)(B:Nat)(p t:ByteArray)(v:Value)(i:Nat)(g:Nat->Nat):Prop where
 own:w.ownsRow B 25 1 v i ((List.range i).map (sv t g))
 rows:∀x,x<i->uX w (g x) p t x
 base:∀x,x<i->B<=g x
theorem aez:(Tryz.prog.info? 25).map (fun i=>(i.zero,i.size,i.bytes))=some (some (.slice none 0 0),1,24):=by kernel_rfl
theorem yE(g i:Nat):(⟨g,0,none⟩:Addr).add i=⟨g,i,none⟩:=by
 by_cases Y:i=0
 ·simp[Addr.add]
 ·simp[Addr.add,Y]
theorem qP.get{v:Value}{g:Nat->Nat}(h:qP w B p t v n g)(U:0<n):
  ∃G cap,v=.slice (some ⟨G,0,none⟩) n cap/\G<w.heap.size/\∀i,i<n->w.cell? ⟨G,i,none⟩=some (.slice (some ⟨g i,0,none⟩) (t.size+1) (t.size+1)):=by
 rcases h.own.2 with⟨_,H⟩|⟨G,cap,K,Y,D,I,R⟩
 ·omega
 ·refine⟨G,cap,Y,?_,fun i A=>?_⟩
  ·rcases aD G _ with h'|h'
   ·omega
   ·simp_all
  ·have h:=h.own.cells (by rw[Y];rfl) i (sv t g i) (by simp_all)
   rwa [yE]at h
def jf(p t:ByteArray):=dT p t p.size t.size
def nK(p t:ByteArray)(k e:Nat)
 |0=>(k+1,0)
 |c+1=>if jf p (t.extract (e-c) e)<(nK p t k e c).1 then(jf p (t.extract (e-c) e),e-c)else nK p t k e c
def tries(p:ByteArray)(k e:Nat):=min e (p.size+k)+1
def gX(p t:ByteArray)(k e:Nat):=nK p t k e (tries p k e)
def jC(p t:ByteArray)(k:Nat)
 |0=>[]
 |e+1=>if(gX p t k e).1<=k then jC p t k e++[((gX p t k e).2,e,(gX p t k e).1)]else jC p t k e
def iE(p t:ByteArray)(k:Nat):=jC p t k (t.size+1)
theorem aaG(p t:ByteArray)(k e:Nat):∀c,(nK p t k e c).1<=k+1
 |0=>ae _
 |c+1=>by
  have:=aaG p t k e c;simp[nK];split
  ·omega
  ·omega
theorem GJ(p t:ByteArray)(k e:Nat):∀c,(nK p t k e c).2<=e
 |0=>ay _
 |c+1=>by
  have:=GJ p t k e c;simp[nK];split
  ·simp
  ·omega
theorem yo(p t:ByteArray)(k:Nat):∀n,(jC p t k n).length<=n
 |0=>ae _
 |n+1=>by
  have:=yo p t k n;simp[jC];split
  ·simp_all
  ·omega
def HT(w:World)(b:Nat)(s e d:Nat):Prop:=w.heap[b]?=some (.cells #[.int .i64 (s:Int),.int .i64 (e:Int),.int .i64 (d:Int)] 148 (0,0))
def pJ(p t:ByteArray)(i j:Nat):Bool:=decide (0<i)&&decide (0<j)&&decide (dT p t i j=dT p t (i-1) (j-1)+cost p t (i-1) (j-1))
def oD(p t:ByteArray)(i j:Nat):Bool:=decide (0<i)&&decide (dT p t i j=dT p t (i-1) j+1)
def iO(p t:ByteArray):Nat->Nat->Nat->List UInt8
 |0,_,_=>[]
 |f+1,i,j=>if i=0/\j=0 then []else if pJ p t i j=true then iO p t f (i-1) (j-1)++[77]else if oD p t i j=true then iO p t f (i-1) j++[73]else iO p t f i (j-1)++[68]
def iA(p t:ByteArray):List UInt8:=iO p t (p.size+t.size) p.size t.size
theorem Rg(p t:ByteArray)(i:Nat)(h:0<i):oD p t i 0=true:=by
 obtain⟨a,rfl⟩:∃a,i=a+1:=⟨i-1,by omega⟩;unfold oD;cases a with
 |zero=>simp[dT]
 |succ a=>simp[dT]
theorem Di(h:pJ p t i j=true):0<i/\0<j/\dT p t i j=dT p t (i-1) (j-1)+cost p t (i-1) (j-1):=by
 unfold pJ at h;simp only[aV,decide_eq_true_eq]at h;exact⟨h.1.1,h.1.2,h.2⟩
theorem Dj(h:oD p t i j=true):0<i/\dT p t i j=dT p t (i-1) j+1:=by
 unfold oD at h;simp only[aV,decide_eq_true_eq]at h;exact h
theorem CX(h:oD p t i j=false)(K:¬(i=0/\j=0)):0<j:=by
 rcases aQ j with rfl|H
 ·rcases aQ i with rfl|Y
  ·omega
  ·rw[Rg p t i Y]at h;exact aL h
 ·omega
theorem tt(p t:ByteArray):∀(f i j:Nat),i+j<=f->iO p t f i j=iO p t (i+j) i j
 |0,i,j,h=>by
  have:i+j=0:=by omega
  rw[this]
 |f+1,i,j,h=>by
  rcases aQ (i+j)with H|H
  ·rw[H];have:i=0/\j=0:=by omega
   show iO p t (f+1) i j=[]
   rw[iO.eq_def];exact if_pos this
  ·obtain⟨n,R⟩:∃n,i+j=n+1:=⟨i+j-1,by omega⟩;rw[R,iO,iO];have Y:¬(i=0/\j=0):=by omega
   rw[if_neg Y,if_neg Y];split
   ·rename_i D;have:=Di D;rw[tt p t f (i-1) (j-1) (by omega),tt p t n (i-1) (j-1) (by omega)]
   ·split
    ·rename_i K;have:=Dj K;rw[tt p t f (i-1) j (by omega),tt p t n (i-1) j (by omega)]
    ·rename_i K;have:=CX (by simpa using K) Y;rw[tt p t f i (j-1) (by omega),tt p t n i (j-1) (by omega)]
theorem agL{acc:List UInt8}(Y:pJ p t i j=true)(h:iO p t (i+j) i j++acc=L):iO p t (i-1+(j-1)) (i-1) (j-1)++(77::acc)=L:=by
 have H:=Di Y;obtain⟨n,K⟩:∃n,i+j=n+1:=⟨i+j-1,by omega⟩;rw[K,iO,if_neg (by omega),if_pos Y,tt p t n _ _ (by omega),aM]at h;exact h
theorem agM{acc:List UInt8}(K:pJ p t i j=false)(Y:oD p t i j=true)(h:iO p t (i+j) i j++acc=L):iO p t (i-1+j) (i-1) j++(73::acc)=L:=by
 have D:=Dj Y;obtain⟨n,H⟩:∃n,i+j=n+1:=⟨i+j-1,by omega⟩;rw[H,iO,if_neg (by omega),if_neg (by simp[K]),if_pos Y,tt p t n _ j (by omega),aM]at h;exact h
theorem agN{acc:List UInt8}(Y:¬(i=0/\j=0))(H:pJ p t i j=false)(K:oD p t i j=false)(h:iO p t (i+j) i j++acc=L):iO p t (i+(j-1)) i (j-1)++(68::acc)=L:=by
 have R:=CX K Y;obtain⟨n,D⟩:∃n,i+j=n+1:=⟨i+j-1,by omega⟩;rw[D,iO,if_neg Y,if_neg (by simp[H]),if_neg (by simp[K]),tt p t n i _ (by omega),aM]at h;exact h
theorem CY(p t:ByteArray):∀(f i j:Nat),(iO p t f i j).length<=f
 |0,_,_=>by simp[iO]
 |f+1,i,j=>by
  rw[iO];split
  ·simp
  ·split
   ·have:=CY p t f (i-1) (j-1);simp;omega
   ·split
    ·have:=CY p t f (i-1) j;simp;omega
    ·have:=CY p t f i (j-1);simp;omega
theorem Ib(p t:ByteArray):(iA p t).length<=p.size+t.size:=CY _ _ _ _ _
end
section
open ChangeShapes WideShapes ChangeAt RowKit
def pw:List (String×DataW Unit):=Rows.checksRow.laid
theorem aaH:("internal/strconv.uint64pow10",(Lib.tabData .u64 bK:DataW Unit))∈pw:=by
 exact .tail _ (.tail _ (.head _))
theorem GR{W:World}(h:laidMetH Tryz.prog pw W):iU W:=by
 obtain⟨R,t',cs,fuel,p,K,H,Y,hd⟩:=Lib.laidMet.reads h aaH;have D:bY Tryz.prog "internal/strconv.uint64pow10"=some 0:=by kernel_rfl
 have hty:((Tryz.prog).globals[0]?).map (·.type)=some 202:=by kernel_rfl
 obtain rfl:=Option.some.inj (D.symm.trans K);obtain rfl:=Option.some.inj (hty.symm.trans H);unfold iU aZ;rw[Y,<-Lib.cells_of_tab Tryz.underlying202 Tryz.underlying176 (by kernel_rfl) (by kernel_rfl) hd]
theorem Ic(os:Os)(args:Array Value):laidMetH Tryz.prog pw ((World.doorLaid Tryz.prog 400 os).forCall (fun _ _=>0) ⟨#[],args,[]⟩).memory:=
 laidMetH_of_parts3 (fuel:=8) (laidMet_of_run' 8 (by kernel_rfl) (by kernel_rfl)) (by kernel_rfl) (by kernel_rfl)
end
namespace Ren
theorem Hr{α:Type}:∀(x:Ask α) (w:World),w.drawn<=(w.ask x).2.drawn
 |.done a,w=>ae _
 |.ask _ _ k,w=>by
  unfold World.ask;dsimp only;split
  ·exact Hr _ w
  ·exact ai (Nat.le_succ _) (Hr _ {w with drawn:=w.drawn+1})
theorem aaI(w:World)(c:Sys):w.drawn<=(w.sys c).2.drawn:=by
 have:=Hr (Kernel.perform c w.os) w;unfold World.sys;split
 ·simp
 ·simp_all
theorem W2{p:Program}{w1:World}{u:TypeId}{k:Addr}{v:Value}{a:Bool}(h:w.viewStore p at_ u k v a=.ok (w1,l)):w1.drawn=w.drawn:=by
 unfold bu at h;simp only[bind,Except.bind,aO,throwThe,aP]at h
 repeat' split at h
 all_goals first|(cases h;rfl)|(cases h)
theorem Xc{p:Program}{w1:World}{v:Value}{at_:Bool}{l:List _}(h:w.farStore p a v at_=.ok (w1,l)):w1.drawn=w.drawn:=by
 unfold cy at h;split at h
 ·split at h
  ·rename_i e;rw[Except.ok.inj h]at e;exact W2 e
  ·cases h
 ·cases h
def _root_.Go.Result.world{α:Type}:Result α->World
 |.ok _ w=>w
 |.halt _ w=>w
theorem CD{α:Type}(s:Sem α):∀(w:World),w.drawn<=(s.run P w).world.drawn:=by
 induction s with
 |pure a=>exact fun w=>ae _
 |halt h=>exact fun w=>ae _
 |load m a k Y=>
  intro w;simp only[Sem.run]
  repeat' split
  all_goals first|exact Y _ _|exact ae _
 |store m a v k Y=>
  intro w;cases v<;>simp only[Sem.run]<;>(repeat' split)<;>first
   |exact ae _
   |exact Y (w.setCell a _)
   |(rename_i e;exact ai (bV (Xc e).symm) (Y _))
 |new o k Y=>exact fun w=>Y _ {w with heap:=w.heap.push o}
 |shape r k Y=>exact fun w=>Y _ _
 |freeze a n k Y=>
  intro w;refine ai (bV ?_) (Y (w.freeze a n));unfold cA;split<;>rfl
 |frozen a k Y=>exact fun w=>Y _ _
 |getObj r k Y=>
  intro w;simp only[Sem.run];split
  ·exact ae _
  ·exact Y _ _
  ·exact ae _
 |setObj r o k Y=>
  intro w;simp only[Sem.run];split
  ·exact ae _
  ·exact Y {w with heap:=w.heap.setIfInBounds r o}
  ·exact ae _
 |choose q k Y=>
  intro w;simp only[Sem.run];split
  ·exact Y _ _
  ·exact ai (Nat.le_succ _) (Y _ {w with drawn:=w.drawn+1})
 |sys c k Y=>exact fun w=>ai (aaI w c) (Y _ _)
 |program k Y=>exact fun w=>Y _ _
 |mark m k Y=>exact fun w=>Y _
class gB where
 size:Nat
 ij:FuncId->Prop
 code:Code->Prop
 methods:String->Prop
 sW:Nat->Prop
 wall:Array Oper->Prop
 ro:Nat->Prop
 jH:Nat->Nat->Prop
 rest:List Item->Prop
 ji:List Deferred->Prop
variable[gB]
structure Rn where
 f:Nat->Option Nat
 inj:∀b b' c,f b=some c->f b'=some c->b=b'
 ju:∀b c,f b=some c->(b<gB.size↔c<gB.size)
instance:CoeFun Rn (fun _=>Nat->Option Nat):=⟨Rn.f⟩
def Le(r s:Rn):=∀b c,r b=some c->s b=some c
theorem Le.refl(r:Rn):Le r r:=fun _ _ h=>h
theorem Le.trans{r s t:Rn}(h:Le r s)(k:Le s t):Le r t:=fun b c e=>k b c (h b c e)
structure Ad(r:Rn)(a a':Addr):Prop where
 block:r a.block=some a'.block
 off:a'.off=a.off
 spot:a'.spot=a.spot
theorem Ad.mono{r s:Rn}(h:Le r s)(k:Ad r a a'):Ad s a a':=⟨h _ _ k.block,k.off,k.spot⟩
def Hid:Value->Bool
 |.agg _|.pointer none|.nilIface|.nilFunc|.func .. |.bool _=>false
 |_=>true
inductive qx(r:Rn):Fn->Fn->Prop
 |func {f:FuncId}:gB.ij f->qx r (.func f) (.func f)
 |method {n:String}:gB.methods n->qx r (.method n) (.method n)
 |yield {l l':Nat}:r l=some l'->qx r (.yield l) (.yield l')
inductive qy(r:Rn):Fn->Fn->Prop
 |func {f:FuncId}:gB.ij f->qy r (.func f) (.func f)
 |yield {l l':Nat}:r l=some l'->qy r (.yield l) (.yield l')
theorem qy.mono{r s:Rn}(h:Le r s){f f':Fn}(k:qy r f f'):qy s f f':=by
 cases k with
 |func g=>exact .func g
 |yield e=>exact .yield (h _ _ e)
theorem qy.toR{r:Rn}{f f':Fn}(k:qy r f f'):qx r f f':=by
 cases k with
 |func g=>exact .func g
 |yield e=>exact .yield e
theorem qx.mono{r s:Rn}(h:Le r s){f f':Fn}(k:qx r f f'):qx s f f':=by
 cases k with
 |func g=>exact .func g
 |method g=>exact .method g
 |yield e=>exact .yield (h _ _ e)
inductive V(r:Rn):Value->Value->Prop
 |blank {y:Value}:Hid y=true->V r (.tuple #[]) y
 |bool (b:Bool):V r (.bool b) (.bool b)
 |int (k:IntKind) (n:Int):V r (.int k n) (.int k n)
 |string (s:ByteArray):V r (.string s) (.string s)
 |nilPtr:V r (.pointer none) (.pointer none)
 |ptr {a a':Addr}:Ad r a a'->V r (.pointer (some a)) (.pointer (some a'))
 |kW (l c:Nat):V r (.slice none l c) (.slice none l c)
 |slice {a a':Addr} (l c:Nat):Ad r a a'->V r (.slice (some a) l c) (.slice (some a') l c)
 |oM:V r (.map none) (.map none)
 |map {b b':Nat}:r b=some b'->V r (.map (some b)) (.map (some b'))
 |qd:V r (.chan none) (.chan none)
 |chan {b b':Nat}:r b=some b'->V r (.chan (some b)) (.chan (some b'))
 |func {fn iT:Fn} {f f' c c':Array Value}:qy r fn iT->f.size=f'.size->(∀(i:Nat) x x',f[i]?=some x->f'[i]?=some x'->V r x x')->
   c.size=c'.size->(∀(i:Nat) x x',c[i]?=some x->c'[i]?=some x'->V r x x')->V r (.func fn f c) (.func iT f' c')
 |nilFunc:V r .nilFunc .nilFunc
 |iface (t:TypeId) {v v':Value}:V r v v'->V r (.iface t v) (.iface t v')
 |nilIface:V r .nilIface .nilIface
 |agg {c c':Array Value}:c.size=c'.size->(∀(i:Nat) x x',c[i]?=some x->c'[i]?=some x'->V r x x')->V r (.agg c) (.agg c')
 |tuple {c c':Array Value}:c.size=c'.size->(∀(i:Nat) x x',c[i]?=some x->c'[i]?=some x'->V r x x')->V r (.tuple c) (.tuple c')
theorem V.mono{r s:Rn}(h:Le r s){y:Value}(k:V r x y):V s x y:=by
 induction k with
 |blank h=>exact .blank h
 |bool b=>exact .bool b
 |int k n=>exact .int k n
 |string s=>exact .string s
 |nilPtr=>exact .nilPtr
 |ptr a=>exact .ptr (a.mono h)
 |kW l c=>exact .kW l c
 |slice l c a=>exact .slice l c (a.mono h)
 |oM=>exact .oM
 |map e=>exact .map (h _ _ e)
 |qd=>exact .qd
 |chan e=>exact .chan (h _ _ e)
 |func n s1 _ K _ Y i2=>exact .func (n.mono h) s1 Y K i2
 |nilFunc=>exact .nilFunc
 |iface t _ i=>exact .iface t i
 |nilIface=>exact .nilIface
 |agg s _ i=>exact .agg s i
 |tuple s _ i=>exact .tuple s i
structure VA(r:Rn)(c c':Array Value):Prop where
 size:c.size=c'.size
 at_:∀(i:Nat) x x',c[i]?=some x->c'[i]?=some x'->V r x x'
structure En(r:Rn)(e e':MapEntry):Prop where
 key:V r e.key e'.key
 val:V r e.val e'.val
 born:e'.born=e.born
inductive Tg(r:Rn):Target->Target->Prop
 |fn {f f':Fn} {c c':Array Value}:qx r f f'->VA r c c'->Tg r (.fn f c) (.fn f' c')
 |nil:Tg r .nil .nil
 |collected {b b':Nat}:r b=some b'->Tg r (.collected b) (.collected b')
structure Df(r:Rn)(d d':Deferred):Prop where
 target:Tg r d.target d'.target
 args:VA r d.args d'.args
inductive DL(r:Rn):List Deferred->List Deferred->Prop
 |nil:DL r [] []
 |cons {d d':Deferred} {l l':List Deferred}:Df r d d'->DL r l l'->DL r (d::l) (d'::l')
structure Lp(r:Rn)(l l':Loop):Prop where
 state:l'.state=l.state
 pending:l'.pending=l.pending
 fn:l'.fn=l.fn
 params:l'.params=l.params
 assign:l'.assign=l.assign
 body:l'.body=l.body
 tmps:VA r l.tmps l'.tmps
 defers:r l.defers=some l'.defers
 cp:∀c,l.pending=some c->gB.code c
 ca:gB.code l.assign
 cb:gB.code l.body
inductive DO(r:Rn):Option (List Deferred)->Option (List Deferred)->Prop
 |none:DO r none none
 |some {l l':List Deferred}:DL r l l'->DO r (some l) (some l')
inductive O(r:Rn):Obj->Obj->Prop
 |loop {l l':Loop}:Lp r l l'->O r (.loop l) (.loop l')
 |view {a a':Addr} (t:TypeId):¬gB.ro a.block->Ad r a a'->O r (.view a t) (.view a' t)
 |number {a a':Addr} (l:Bool):Ad r a a'->O r (.number a l) (.number a' l)
 |deferred {d d':Option (List Deferred)}:DO r d d'->O r (.deferred d) (.deferred d')
 |cells {c c':Array Value} (e:TypeId) (fz:Nat×Nat):VA r c c'->O r (.cells c e fz) (.cells c' e fz)
 |map {es iD:Array MapEntry} (clock:Nat):es.size=iD.size->(∀(i:Nat) x x',es[i]?=some x->iD[i]?=some x'->En r x x')->O r (.map es clock) (.map iD clock)
 |stringIter (s:ByteArray) (p:Nat):O r (.stringIter s p) (.stringIter s p)
 |qF (a:Nat) (s:Array Nat) (n:Nat):O r (.mapIter none a s n) (.mapIter none a s n)
 |mapIter {b b':Nat} (a:Nat) (s:Array Nat) (n:Nat):r b=some b'->O r (.mapIter (some b) a s n) (.mapIter (some b') a s n)
theorem VA.mono{r s:Rn}(h:Le r s){c c':Array _}(k:VA r c c'):VA s c c':=⟨k.size,fun i x x' e e'=>(k.at_ i x x' e e').mono h⟩
theorem En.mono{r s:Rn}(h:Le r s){e e':MapEntry}(k:En r e e'):En s e e':=⟨k.key.mono h,k.val.mono h,k.born⟩
theorem Tg.mono{r s:Rn}(h:Le r s){t t':Target}(k:Tg r t t'):Tg s t t':=by
 cases k with
 |fn f c=>exact .fn (f.mono h) (c.mono h)
 |nil=>exact .nil
 |collected e=>exact .collected (h _ _ e)
theorem Df.mono{r s:Rn}(h:Le r s)(k:Df r d d'):Df s d d':=⟨k.target.mono h,k.args.mono h⟩
theorem DL.mono{r s:Rn}(h:Le r s){d d':List _}(k:DL r d d'):DL s d d':=by
 induction k with
 |nil=>exact .nil
 |cons x _ Y=>exact .cons (x.mono h) Y
theorem DO.mono{r s:Rn}(h:Le r s){d d':Option _}(k:DO r d d'):DO s d d':=by
 cases k with
 |none=>exact .none
 |some x=>exact .some (x.mono h)
theorem Lp.mono{r s:Rn}(h:Le r s){l l':Loop}(k:Lp r l l'):Lp s l l':=⟨k.state,k.pending,k.fn,k.params,k.assign,k.body,k.tmps.mono h,h _ _ k.defers,k.cp,k.ca,k.cb⟩
theorem O.mono{r s:Rn}(h:Le r s)(k:O r o o'):O s o o':=by
 cases k with
 |loop l=>exact .loop (l.mono h)
 |view t n a=>exact .view t n (a.mono h)
 |number l a=>exact .number l (a.mono h)
 |deferred d=>exact .deferred (d.mono h)
 |cells e fz a=>exact .cells e fz (a.mono h)
 |map Y H K=>exact .map Y H fun i x x' e e'=>(K i x x' e e').mono h
 |stringIter s p=>exact .stringIter s p
 |qF a s n=>exact .qF a s n
 |mapIter a s n e=>exact .mapIter a s n (h _ _ e)
inductive OB(r:Rn)(b:Nat):Obj->Obj->Prop
 |same {o o':Obj}:¬gB.ro b->O r o o'->OB r b o o'
 |ro {c c':Array Value} (e:TypeId):gB.ro b->VA r c c'->(∀i,gB.jH b i->c[i]?=some (.tuple #[]))->OB r b (.cells c e (0,c.size)) (.cells c' e)
theorem OB.mono{r s:Rn}(h:Le r s)(k:OB r b o o'):OB s b o o':=by
 cases k with
 |same n o=>exact .same n (o.mono h)
 |ro e n a Y=>exact .ro e n (a.mono h) Y
structure W(r:Rn)(c:Nat)(v w:World):Prop where
 obj:∀b b',r b=some b'->∃o o',v.heap[b]?=some o/\w.heap[b']?=some o'/\OB r b o o'
 gv:gB.size<=v.heap.size
 gw:gB.size<=w.heap.size
 old:∀b,gB.ro b->b<v.heap.size
 tape:∀i q,i<c->v.tape (v.drawn+i) q=w.tape (w.drawn+i) q
 env:w.os.env=v.os.env
inductive Hl(r:Rn):Halt->Halt->Prop
 |panic {v v':Value}:V r v v'->Hl r (.panic v) (.panic v')
def Dz:Unsupported->Bool
 |.initOrder _=>true
 |_=>false
def rO(h:Halt):=(∃u,h=.unsupported u/\Dz u=false)\/∃y,h=.stuck y
inductive SR(P:Program){α:Type}(A:Rn->α->α->Prop):Rn->Sem α->Sem α->Prop
 |pure {r:Rn} {a a':α}:A r a a'->SR P A r (.pure a) (.pure a')
 |load {r:Rn} {a a':Addr} {k k':Value->Sem α}:Ad r a a'->(∀s v v',Le r s->V s v v'->SR P A s (k v) (k' v'))->SR P A r (.load .plain a k) (.load .plain a' k')
 |store {r:Rn} {a a':Addr} {v v':Value} {k k':Sem α}:Ad r a a'->V r v v'->(∀s,Le r s->SR P A s k k')->SR P A r (.store .plain a v k) (.store .plain a' v' k')
 |new {r:Rn} {o o':Obj} {k k':Nat->Sem α}:O r o o'->(∀s b b',Le r s->s b=some b'->SR P A s (k b) (k' b'))->SR P A r (.new o k) (.new o' k')
 |shape {r:Rn} {b b':Nat} {k k':Option (TypeId×Nat)->Sem α}:r b=some b'->(∀s x,Le r s->SR P A s (k x) (k' x))->SR P A r (.shape b k) (.shape b' k')
 |freeze {r:Rn} {a a':Addr} (n:Nat) {k k':Sem α}:(∀b,¬gB.ro b)->Ad r a a'->(∀s,Le r s->SR P A s k k')->SR P A r (.freeze a n k) (.freeze a' n k')
 |frozen {r:Rn} {a a':Addr} {k k':Bool->Sem α}:(∀b,¬gB.ro b)->Ad r a a'->(∀s x,Le r s->SR P A s (k x) (k' x))->SR P A r (.frozen a k) (.frozen a' k')
 |getObj {r:Rn} {b b':Nat} {k k':Obj->Sem α}:r b=some b'->(∀s o o',Le r s->O s o o'->SR P A s (k o) (k' o'))->SR P A r (.getObj b k) (.getObj b' k')
 |setObj {r:Rn} {b b':Nat} {o o':Obj} {k k':Sem α}:r b=some b'->O r o o'->(∀s,Le r s->SR P A s k k')->SR P A r (.setObj b o k) (.setObj b' o' k')
 |choose {r:Rn} (q:Question) {k k':Nat->Sem α}:(∀s n,Le r s->SR P A s (k n) (k' n))->SR P A r (.choose q k) (.choose q k')
 |env {r:Rn} {k k':SysRet->Sem α}:(∀s x,Le r s->SR P A s (k x) (k' x))->SR P A r (.sys .env k) (.sys .env k')
 |program {r:Rn} {k k':Program->Sem α}:(∀s,Le r s->SR P A s (k P) (k' P))->SR P A r (.program k) (.program k')
 |mark {r:Rn} (m:Mark) {k k':Sem α}:(m=.noRoom\/∃f,m=.extern f)->(∀s,Le r s->SR P A s k k')->SR P A r (.mark m k) (.mark m k')
 |halt {r:Rn} {h h':Halt}:Hl r h h'->SR P A r (.halt h) (.halt h')
 |lost {r:Rn} {s s':Sem α}:(∀v,∃h v1,s.run P v=.halt h v1/\rO h)->SR P A r s s'
theorem SR.bind{α H:Type}{A:Rn->α->α->Prop}{B:Rn->H->H->Prop}{r:Rn}{s s':Sem α}{f f':α->Sem H}(h:SR P A r s s')
  (k:∀t a a',Le r t->A t a a'->SR P B t (f a) (f' a')):SR P B r (s.bind f) (s'.bind f'):=by
 induction h with
 |pure a=>exact k _ _ _ (.refl _) a
 |load a _ Y=>exact .load a fun t v v' l e=>Y t v v' l e fun u a a' K=>k u a a' (l.trans K)
 |store a v _ Y=>exact .store a v fun t l=>Y t l fun u a a' K=>k u a a' (l.trans K)
 |new o _ Y=>exact .new o fun t b b' l e=>Y t b b' l e fun u a a' K=>k u a a' (l.trans K)
 |shape e _ Y=>exact .shape e fun t x l=>Y t x l fun u a a' K=>k u a a' (l.trans K)
 |freeze n z a _ Y=>exact .freeze n z a fun t l=>Y t l fun u a a' K=>k u a a' (l.trans K)
 |frozen z a _ Y=>exact .frozen z a fun t x l=>Y t x l fun u a a' K=>k u a a' (l.trans K)
 |getObj e _ Y=>exact .getObj e fun t o o' l e=>Y t o o' l e fun u a a' K=>k u a a' (l.trans K)
 |setObj e o _ Y=>exact .setObj e o fun t l=>Y t l fun u a a' K=>k u a a' (l.trans K)
 |choose q _ Y=>exact .choose q fun t n l=>Y t n l fun u a a' K=>k u a a' (l.trans K)
 |env _ Y=>exact .env fun t x l=>Y t x l fun u a a' K=>k u a a' (l.trans K)
 |program _ Y=>exact .program fun t l=>Y t l fun u a a' K=>k u a a' (l.trans K)
 |mark m R _ Y=>exact .mark m R fun t l=>Y t l fun u a a' K=>k u a a' (l.trans K)
 |halt h=>exact .halt h
 |lost h=>
  refine .lost fun v=>?_;obtain⟨x,v1,e,D⟩:=h v;refine⟨x,v1,?_,D⟩;rw[Sem.run_bind',e];rfl
theorem SR.imp{α:Type}{A B:Rn->α->α->Prop}{r:Rn}{s s':Sem α}(h:SR P A r s s')(k:∀t a a',Le r t->A t a a'->B t a a'):SR P B r s s':=by
 induction h with
 |pure a=>exact .pure (k _ _ _ (.refl _) a)
 |load a _ Y=>exact .load a fun t v v' l e=>Y t v v' l e fun u a a' K=>k u a a' (l.trans K)
 |store a v _ Y=>exact .store a v fun t l=>Y t l fun u a a' K=>k u a a' (l.trans K)
 |new o _ Y=>exact .new o fun t b b' l e=>Y t b b' l e fun u a a' K=>k u a a' (l.trans K)
 |shape e _ Y=>exact .shape e fun t x l=>Y t x l fun u a a' K=>k u a a' (l.trans K)
 |freeze n z a _ Y=>exact .freeze n z a fun t l=>Y t l fun u a a' K=>k u a a' (l.trans K)
 |frozen z a _ Y=>exact .frozen z a fun t x l=>Y t x l fun u a a' K=>k u a a' (l.trans K)
 |getObj e _ Y=>exact .getObj e fun t o o' l e=>Y t o o' l e fun u a a' K=>k u a a' (l.trans K)
 |setObj e o _ Y=>exact .setObj e o fun t l=>Y t l fun u a a' K=>k u a a' (l.trans K)
 |choose q _ Y=>exact .choose q fun t n l=>Y t n l fun u a a' K=>k u a a' (l.trans K)
 |env _ Y=>exact .env fun t x l=>Y t x l fun u a a' K=>k u a a' (l.trans K)
 |program _ Y=>exact .program fun t l=>Y t l fun u a a' K=>k u a a' (l.trans K)
 |mark m H _ Y=>exact .mark m H fun t l=>Y t l fun u a a' K=>k u a a' (l.trans K)
 |halt h=>exact .halt h
 |lost h=>exact .lost h
section agO
variable{r:Rn}{c:Nat}{v w:World}
theorem W.lt(h:W r c v w)(e:r b=some b'):b<v.heap.size/\b'<w.heap.size:=by
 obtain⟨o,o',Y,K,_⟩:=h.obj b b' e;exact⟨(aB.1 Y).1,(aB.1 K).1⟩
structure Out(r r1:Rn)(c c1:Nat)(v w v1 w1:World):Prop where
 drew:v1.drawn+c1=v.drawn+c
 zb:w1.drawn+c1=w.drawn+c
 later:v.drawn<=v1.drawn
 le:Le r r1
 wl:W r1 c1 v1 w1
 grow:w.heap.size<=w1.heap.size
 JP:v.heap.size<=v1.heap.size
 kept:∀a,a<w.heap.size->(∀b,r b=some a->gB.ro b)->w1.heap[a]?=w.heap[a]?
 fresh:∀b a,r1 b=some a->r b=some a\/(w.heap.size<=a/\v.heap.size<=b)
 range:∀a,w.heap.size<=a->a<w1.heap.size->∃b,r1 b=some a
 tape:w1.tape=w.tape
 JQ:v1.tape=v.tape
 os:w1.os=w.os
 output:w1.output=w.output
 UF:v1.os=v.os
 Rh:v1.output=v.output
theorem Out.refl(h:W r c v w):Out r r c c v w v w:=⟨rfl,rfl,ae _,.refl _,h,ae _,ae _,fun _ _ _=>rfl,fun _ _ e=>.inl e,fun a K Y=>absurd Y (by omega),rfl,rfl,rfl,rfl,rfl,rfl⟩
theorem Out.trans{r1 r2:Rn}{c1 c2:Nat}{v1 w1 v2 w2:World}(h:Out r r1 c c1 v w v1 w1)(k:Out r1 r2 c1 c2 v1 w1 v2 w2):Out r r2 c c2 v w v2 w2:=by
 refine⟨k.drew.trans h.drew,k.zb.trans h.zb,ai h.later k.later,h.le.trans k.le,k.wl,ai h.grow k.grow,ai h.JP k.JP,fun a Y hr=>?_,fun b a e=>?_,fun a H D=>?_,k.tape.trans h.tape,k.JQ.trans h.JQ,k.os.trans h.os,k.output.trans h.output,k.UF.trans h.UF,k.Rh.trans h.Rh⟩
 ·rw[k.kept a (az Y h.grow) fun b e=>?_]
  ·exact h.kept a Y hr
  ·rcases h.fresh b a e with e'|⟨e',_⟩
   ·simp_all
   ·omega
 ·rcases k.fresh b a e with e'|⟨e',K⟩
  ·exact h.fresh b a e'
  ·exact .inr ⟨ai h.grow e',ai h.JP K⟩
 ·by_cases Y:a<w1.heap.size
  ·obtain⟨b,e⟩:=h.range a H Y;exact⟨b,k.le _ _ e⟩
  ·exact k.range a (by omega) D
theorem Out.set(h:W r c v w)(e:r b=some b')(H:¬gB.ro b)(U:O r o o'):
  Out r r c c v w {v with heap:=v.heap.setIfInBounds b o} {w with heap:=w.heap.setIfInBounds b' o'}:=by
 have C:=h.lt e;refine⟨rfl,rfl,ae _,.refl _,⟨fun x x' D=>?_,by simpa using h.gv,by simpa using h.gw,by simpa using h.old,h.tape,h.env⟩,by simp,by simp,fun a B hr=>?_,fun _ _ x=>.inl x,fun a I R=>absurd R (by simp;omega),rfl,rfl,rfl,rfl,rfl,rfl⟩
 ·by_cases Y:x=b
  ·subst Y;obtain rfl:x'=b':=Option.some.inj (D.symm.trans e);exact⟨o,o',by simp_all,by simp_all,.same H U⟩
  ·have K:x'≠b':=fun y=>Y (r.inj _ _ _ D (y▸e));obtain⟨p,p',I,R,A⟩:=h.obj x x' D;exact⟨p,p',by simp[Ne.symm Y,I],by simp[Ne.symm K,R],A⟩
 ·have:a≠b':=fun x=>H (hr b (x▸e));simp[Ne.symm this]
def ext(r:Rn)(b a:Nat)(R:∀x,r x≠some a)(U:gB.size<=b)(A:gB.size<=a):Rn where
 f:=fun x=>if x=b then some a else r x
 ju:=fun x y h=>by
  by_cases Y:x=b
  ·simp only[Y,if_true,bh]at h;omega
  ·simp only[Y,if_false]at h;exact r.ju x y h
 inj:=fun x y z K H=>by
  by_cases Y:x=b<;>by_cases D:y=b
  ·omega
  ·simp only[Y,if_true,bh]at K;simp only[D,if_false]at H;exact absurd (K▸H) (R y)
  ·simp only[D,if_true,bh]at H;simp only[Y,if_false]at K;exact absurd (H▸K) (R x)
  ·simp only[Y,D,if_false]at K H;exact r.inj _ _ _ K H
theorem W.past(h:W r c v w):∀x,r x≠some w.heap.size:=fun x e=>by have:=(h.lt e).2;omega
theorem Out.new(h:W r c v w){o o':Obj}(A:O r o o'):
  Out r (ext r _ _ h.past h.gv h.gw) c c v w {v with heap:=v.heap.push o} {w with heap:=w.heap.push o'}:=by
 have le:Le r (ext r v.heap.size w.heap.size h.past h.gv h.gw):=fun b a e=>by
  have:=(h.lt e).1;show(if b=v.heap.size then some _ else r b)=some a
  rw[if_neg (by omega)];exact e
 have old:∀b a,ext r v.heap.size w.heap.size h.past h.gv h.gw b=some a->r b=some a\/(b=v.heap.size/\a=w.heap.size):=fun b a e=>by
  have e:(if b=v.heap.size then some _ else r b)=some a:=e;split at e
  ·simp_all
  simp_all
 refine⟨rfl,rfl,ae _,le,⟨fun b b' e=>?_,by have:=h.gv;simp;omega,by have:=h.gw;simp;omega,fun b I=>by have:=h.old b I;simp;omega,h.tape,h.env⟩,by simp,by simp,fun a U hr=>?_,fun b a e=>?_,fun a K Y=>⟨v.heap.size,?_⟩,rfl,rfl,rfl,rfl,rfl,rfl⟩
 ·rcases old _ _ e with x|⟨H,D⟩
  ·obtain⟨p,p',K,Y,R⟩:=h.obj b b' x;have:=h.lt x;exact⟨p,p',by simp only[aU];rw[if_neg (by omega)];exact K,by simp only[aU];rw[if_neg (by omega)];exact Y,R.mono le⟩
  ·subst H;subst D;exact⟨o,o',by simp,by simp,.same (fun hr=>by have:=h.old _ hr;omega) (A.mono le)⟩
 ·simp only[aU];rw[if_neg (by omega)]
 ·rcases old _ _ e with x|⟨H,D⟩
  ·exact .inl x
  ·omega
 ·simp at Y;show(if v.heap.size=v.heap.size then some _ else r _)=some a
  rw[if_pos rfl];congr 1;omega
theorem Out.draw(h:W r (c+1) v w):Out r r (c+1) c v w {v with drawn:=v.drawn+1} {w with drawn:=w.drawn+1}:=
 ⟨by simp;omega,by simp;omega,by simp,.refl _,⟨h.obj,h.gv,h.gw,h.old,fun i q H=>by have:=h.tape (1+i) q (by omega);simpa[Nat.add_assoc]using this,h.env⟩,ae _,ae _,fun _ _ _=>rfl,fun _ _ e=>.inl e,fun a K Y=>absurd Y (by simp;omega),rfl,rfl,rfl,rfl,rfl,rfl⟩
end agO
section runs
variable{r:Rn}{c:Nat}{v w:World}
omit [gB]in
theorem modify_eq{h:Array Obj}{f:Obj->Obj}(e:h[b]?=some o):h.modify b f=h.setIfInBounds b (f o):=by
 obtain⟨K,R⟩:=aB.1 e;refine Array.ext (by simp) fun i H D=>?_;rw[Array.getElem_modify];by_cases Y:b=i
 ·simp_all
 ·rw[if_neg Y,Array.getElem_setIfInBounds,if_neg Y]
theorem VA.get{c c':Array _}(h:VA r c c')(e:c[i]?=some x):∃x',c'[i]?=some x'/\V r x x':=by
 obtain⟨Y,_⟩:=aB.1 e;have K:=h.size▸Y;exact⟨c'[i],by simp,h.at_ i x _ e (by simp)⟩
theorem VA.none{c c':Array _}(h:VA r c c')(e:c[i]?=none):c'[i]?=none:=by
 simp at e⊢;have:=h.size;omega
theorem VA.set{c c':Array _}(h:VA r c c')(i:Nat)(H:V r x x'):VA r (c.setIfInBounds i x) (c'.setIfInBounds i x'):=by
 refine⟨by simp[h.size],fun j y K e e'=>?_⟩;simp[Array.getElem?_setIfInBounds]at e e';by_cases Y:i=j
 ·simp_all
 ·rw[if_neg Y]at e e';exact h.at_ j y K e e'
theorem W.cell(h:W r c v w)(H:Ad r a a')(e:v.cell? a=some x):∃x',w.cell? a'=some x'/\V r x x':=by
 obtain⟨o,o',R,I,K⟩:=h.obj _ _ H.block;simp[aI,R]at e;simp[aI,I];have cells:∀{cs gM:Array _},VA r cs gM->(if a.spot.isSome=true then none else cs[a.off]?)=some x->∃x',(if a'.spot.isSome=true then none else gM[a'.off]?)=some x'/\V r x x':=by
  intro cs gM Y e;rw[H.spot,H.off];split at e
  ·cases e
  ·rename_i A;rw[if_neg A];exact Y.get e
 cases K with
 |ro D n Y U=>exact cells Y e
 |same n K=>
  cases K with
  |cells D fz Y=>exact cells Y e
  |_=>cases e
theorem W.noCell(h:W r c v w)(H:Ad r a a')(e:v.cell? a=none):w.cell? a'=none:=by
 obtain⟨o,o',R,I,K⟩:=h.obj _ _ H.block;simp[aI,R]at e;simp[aI,I];have cells:∀{cs gM:Array _},VA r cs gM->(if a.spot.isSome=true then none else cs[a.off]?)=none->(if a'.spot.isSome=true then none else gM[a'.off]?)=none:=by
  intro cs gM Y e;rw[H.spot,H.off];split at e
  ·simp_all
  ·rename_i A;rw[if_neg A];exact Y.none e
 cases K with
 |ro D n Y U=>exact cells Y e
 |same n K=>
  cases K with
  |cells D fz Y=>exact cells Y e
  |_=>rfl
theorem W.frozen(h:W r c v w){a a':Addr}(K:Ad r a a')(R:¬gB.ro a.block):w.frozen? a'=v.frozen? a:=by
 obtain⟨o,o',H,D,Y⟩:=h.obj _ _ K.block;simp[cB,H,D];cases Y with
 |ro I n U A=>exact absurd n R
 |same n Y=>cases Y<;>simp[K.off]
theorem W.aco(h:W r c v w)(H:Ad r a a')(D:gB.ro a.block)(e:v.cell? a=some x):v.frozen? a=true:=by
 obtain⟨o,o',Y,I,K⟩:=h.obj _ _ H.block;simp[aI,Y]at e;simp[cB,Y];cases K with
 |ro R n U A=>
  simp only at e⊢;split at e
  ·cases e
  ·have:=(aB.1 e).1;simp[this]
 |same n K=>exact absurd D n
theorem W.shape(h:W r c v w){b b':Nat}(e:r b=some b'):w.shape? b'=v.shape? b:=by
 obtain⟨o,o',D,R,Y⟩:=h.obj _ _ e;simp[World.shape?,D,R];cases Y with
 |ro H n K I=>simp[K.size]
 |same n Y=>
  cases Y with
  |cells H fz K=>simp[K.size]
  |_=>rfl
theorem O5(h:V r x x'){bs:List _}(e:x.bytes?=some bs):x'=x:=by
 cases h<;>first|rfl|(simp[Value.bytes?]at e)
theorem Nj(p:Program)(h:VA r cs gM)(e:TypeId):∀(f x stop:Nat) {l:List (Nat×Nat×List UInt8)},seenCells p cs e f x stop=.ok l->seenCells p gM e f x stop=.ok l
 |0,_,_,_,h'=>by simp[seenCells]at h'
 |f+1,x,stop,l,h'=>by
  unfold seenCells at h'⊢;split at h'
  ·simp_all
  ·rename_i R;rw[if_neg R];simp only at h'⊢;split at h'
   ·cases h'
   ·rename_i hw;rw[if_neg hw];split at h'
    ·omega
    ·rename_i i s A;split at h'
     ·cases h'
     ·rename_i v I;obtain⟨v',K,H⟩:=h.get I;rw[K];simp only;split at h'
      ·cases h'
      ·cases h'
      ·rename_i bs n D;rw[O5 H D,D];simp only;cases Y:seenCells p cs e f _ stop with
       |error y=>rw[Y]at h';cases h'
       |ok l'=>
        rw[Y]at h';rw[Nj p h e f _ _ Y];exact h'
theorem Qb(h:W r c v w)(P:Program){Kr k k':Addr}(A:Ad r at_ Kr)(Q:k'.off=k.off)(S:k'.spot=k.spot)(U:¬gB.ro at_.block)(u:TypeId)
  {fz:Nat×Nat}{first:Nat}{l:List (Nat×Nat×List UInt8)}(Y:v.seen P at_ u k false=.ok (cs,e,fz,first,like,l)):
  ∃gM,w.seen P Kr u k' false=.ok (gM,e,fz,first,like,l)/\VA r cs gM/\v.heap[at_.block]?=some (.cells cs e fz)/\w.heap[Kr.block]?=some (.cells gM e fz)/\∃d,plainCell P d u k.off=some like:=by
 unfold World.seen at Y⊢;rw[Q,S,A.off,A.spot];simp only[bind,Except.bind,pure,Except.pure,aO,throwThe,aP,aK,if_false]at Y⊢;cases C:(k.spot.isSome||at_.spot.isSome)with
 |true=>rw[C]at Y;simp at Y
 |false=>
  rw[C]at Y;simp only[aK,if_false]at Y⊢;cases R:plainCell P P.depth u k.off with
  |none=>rw[R]at Y;simp at Y
  |some K=>
   rw[R]at Y;simp only at Y⊢;cases F:K.bytes?.map (·.length)with
   |none=>rw[F]at Y;simp at Y
   |some size=>
    rw[F]at Y;cases J:byteOfCell P P.depth u k.off with
    |none=>rw[J]at Y;simp at Y
    |some V=>
     rw[J]at Y;obtain⟨o,o',N,T,B⟩:=h.obj _ _ A.block;rw[N]at Y;rw[T];cases B with
     |ro H n _ _=>exact absurd n U
     |same n B=>
      cases B with
      |cells H O D=>
       rename_i d d';by_cases L:P.cellsOf H=0
       ·simp[L]at Y
       ·simp only[L,if_false]at Y⊢;cases M:byteOfCell P P.depth H _ with
        |none=>rw[M]at Y;simp at Y
        |some b0=>
         rw[M]at Y;simp only at Y⊢;cases I:seenCells P d H (size+1) _ _ with
         |error y=>rw[I]at Y;simp at Y
         |ok l0=>
          rw[I]at Y;rw[Nj P D H _ _ _ I];simp only[aW,Prod.mk.injEq]at Y⊢;obtain⟨rfl,rfl,rfl,rfl,rfl,rfl⟩:=Y;exact⟨_,⟨rfl,rfl,rfl,rfl,rfl,rfl⟩,D,N,rfl,_,R⟩
      |_=>simp at Y
def ED(P:Program):=∀d u k x,plainCell P d u k=some x->(∃b,x=.bool b)\/∃k n,x=.int k n
theorem W.farLoad(h:W r c v w)(A:ED P)(D:Ad r a a'):
  (∃x,v.farLoad P a false=.error x/\rO x)\/∃x l l',v.farLoad P a false=.ok (x,l)/\w.farLoad P a' false=.ok (x,l')/\V r x x/\∀y∈l',∃b,r b=some y.block:=by
 obtain⟨o,o',U,B,H⟩:=h.obj _ _ D.block;simp only[World.farLoad,cC,U,B];cases H with
 |ro M n N K=>exact .inl ⟨_,rfl,.inr ⟨_,rfl⟩⟩
 |same n H=>
  cases H with
  |view t n at_=>
   rename_i b b';simp only;cases Y:v.viewLoad P b t a _ with
   |error y=>exact .inl ⟨_,rfl,.inl ⟨_,rfl,rfl⟩⟩
   |ok q=>
    unfold cD at Y;simp only[bind,Except.bind]at Y;cases I:v.seen P b t a _ with
    |error y=>rw[I]at Y;simp at Y
    |ok q=>
     obtain⟨cs,e,fz,first,like,F⟩:=q;rw[I]at Y;simp only at Y;obtain⟨gM,J,O,Q,S,L,R⟩:=Qb h P at_ D.off D.spot n t I;cases K:like.ofBytes _ with
     |none=>rw[K]at Y;simp at Y
     |some y=>
      rw[K]at Y;obtain⟨rfl,rfl⟩:=Y;refine .inr ⟨y,_,F.map fun x=>{block:=b'.block,off:=x.1},rfl,?_,?_,?_⟩
      ·unfold cD;simp only[bind,Except.bind,pure,Except.pure,J,K]
      ·rcases A _ _ _ _ R with⟨b,rfl⟩|⟨k,n,rfl⟩<;>simp only[br]at K<;>(split at K<;>first|(rw[<-Option.some.inj K];constructor)|cases K)
      ·intro y C;obtain⟨z,_,rfl⟩:=bQ.1 C;exact⟨_,at_.block⟩
  |_=>exact .inl ⟨_,rfl,.inr ⟨_,rfl⟩⟩
theorem O6{X:Type}{f:Array _->X->Except String _}(D:∀cs gM x c1,VA r cs gM->f cs x=.ok c1->∃Y,f gM x=.ok Y/\VA r c1 Y):∀(l:List X) {cs gM c1:Array _},VA r cs gM->l.foldlM f cs=.ok c1->∃Y,l.foldlM f gM=.ok Y/\VA r c1 Y
 |[],cs,gM,c1,h,K=>by
  simp[List.foldlM_nil,pure,Except.pure,aW]at K⊢;simp_all
 |x::l,cs,gM,c1,h,K=>by
  simp[List.foldlM_cons,bind,Except.bind]at K⊢;cases H:f cs x with
  |error y=>rw[H]at K;simp at K
  |ok c2=>
   obtain⟨R,e,I⟩:=D _ _ _ _ h H;rw[H]at K;rw[e];exact O6 D l I K
theorem W.farStore(h:W r c v w)(P:Program)(M:Ad r a a')(f:V r x x'):
  (∃y,v.farStore P a x false=.error y/\rO y)\/∃b b' o o' l l',¬gB.ro b/\r b=some b'/\O r o o'/\v.farStore P a x false=.ok ({v with heap:=v.heap.setIfInBounds b o},l)/\w.farStore P a' x' false=.ok ({w with heap:=w.heap.setIfInBounds b' o'},l')/\∀y∈l',y.block=b':=by
 obtain⟨o,o',X,Z,R⟩:=h.obj _ _ M.block;simp only[cy,cC,X,Z];cases R with
 |ro m n k I=>exact .inl ⟨_,rfl,.inr ⟨_,rfl⟩⟩
 |same n R=>
  cases R with
  |view t n at_=>
   rename_i b b';simp only;cases Y:v.viewStore P b t a x false with
   |error y=>exact .inl ⟨_,rfl,.inl ⟨_,rfl,rfl⟩⟩
   |ok q=>
    obtain⟨v1,l⟩:=q;unfold bu at Y;simp only[bind,Except.bind,pure,Except.pure,aO,throwThe,aP]at Y;cases Q:tight P P.depth t with
    |false=>rw[Q]at Y;simp at Y
    |true=>
     rw[Q]at Y;simp only[bF,aK,if_false]at Y;cases N:v.seen P b t a false with
     |error y=>rw[N]at Y;simp at Y
     |ok q=>
      obtain⟨cs,e,fz,first,like,d⟩:=q;rw[N]at Y;simp only at Y;obtain⟨gM,g,p,q3,q4,u,G⟩:=Qb h P at_ M.off M.spot n t N;cases I:x.bytes? with
      |none=>rw[I]at Y;simp at Y
      |some bytes=>
       have ex:=O5 f I;subst ex;rw[I]at Y;simp only at Y;by_cases U:some bytes.length≠like.bytes?.map (·.length)
       ·rw[if_pos U]at Y;simp at Y
       ·rw[if_neg U]at Y;split at Y
        ·cases Y
        ·rename_i c1 L;have key:=O6 (r:=r) ?_ _ p L
         ·obtain⟨C,A,D⟩:=key;obtain⟨rfl,rfl⟩:=Y;refine .inr ⟨b.block,b'.block,.cells c1 e fz,.cells C e fz,_,d.map fun x=>{block:=b'.block,off:=x.1},n,at_.block,.cells _ _ D,rfl,?_,fun y j=>?_⟩
          ·unfold bu;simp only[bind,Except.bind,pure,Except.pure,aO,throwThe,aP,Q,g,I,bF,aK,if_false,if_neg U,A]
          ·obtain⟨z,_,rfl⟩:=bQ.1 j;rfl
         ·rintro cs gM ⟨i,s,bs⟩ c2 D K;simp only at K⊢;split at K
          ·cases K
          ·rename_i R;rw[if_neg R];split at K
           ·cases K
           ·rename_i E;rw[if_neg E];cases F:cs[i]? with
            |none=>rw[F]at K;simp at K
            |some old=>
             obtain⟨B,J,S⟩:=D.get F;rw[F]at K;rw[J];simp only at K⊢;cases H:old.ofBytes ((bytes.drop (s-first)).take bs.length)with
             |none=>rw[H]at K;simp at K
             |some new=>
              have T:B=old:=by cases S<;>first|rfl|(simp[br]at H;done)
              have U:V r new new:=by cases S<;>simp only[br]at H<;>first|cases H|(split at H<;>first|(rw[<-Option.some.inj H];constructor)|cases H)
              rw[H]at K;rw[T,H];simp only[aW]at K⊢;subst K;exact⟨_,rfl,D.set _ U⟩
  |_=>exact .inl ⟨_,rfl,.inr ⟨_,rfl⟩⟩
theorem Out.setCell(h:W r c v w)(K:Ad r a a')(Y:¬gB.ro a.block)(F:V r x x'):Out r r c c v w (v.setCell a x) (w.setCell a' x'):=by
 obtain⟨o,o',A,U,H⟩:=h.obj _ _ K.block;simp[World.setCell];rw[modify_eq A,modify_eq U];refine Out.set h K.block Y ?_;cases H with
 |ro I n D J=>exact absurd n Y
 |same n H=>
  cases H with
  |cells I fz D=>
   simp only;rw[K.spot,K.off];split
   ·exact .cells _ _ D
   ·exact .cells _ _ (D.set _ F)
  |map R C B=>exact .map R C B
  |stringIter s p=>exact .stringIter s p
  |qF a s n=>exact .qF a s n
  |mapIter a s n e=>exact .mapIter a s n e
  |loop l=>exact .loop l
  |view t n a=>exact .view t n a
  |number l a=>exact .number l a
  |deferred d=>exact .deferred d
theorem Out.freeze(h:W r c v w){a a':Addr}(H:Ad r a a')(Y:¬gB.ro a.block)(n:Nat):Out r r c c v w (v.freeze a n) (w.freeze a' n):=by
 obtain⟨o,o',A,U,K⟩:=h.obj _ _ H.block;simp[cA];split
 ·exact .refl h
 rw[modify_eq A,modify_eq U];refine Out.set h H.block Y ?_;cases K with
 |ro I n D F=>exact absurd n Y
 |same n K=>
  cases K with
  |cells I fz D=>simp[H.off];exact .cells _ _ D
  |map R C B=>exact .map R C B
  |stringIter s p=>exact .stringIter s p
  |qF a s n=>exact .qF a s n
  |mapIter a s n e=>exact .mapIter a s n e
  |loop l=>exact .loop l
  |view t n a=>exact .view t n a
  |number l a=>exact .number l a
  |deferred d=>exact .deferred d
def lT(r:Rn)(w:World)(u:Nat)(e:Event):=
 (∃a:Addr,e.loc=.cell a/\e.sync=false/\((∃b,r b=some a.block/\(e.write=true->¬gB.ro b))\/(w.heap.size<=a.block/\a.block<u)))\/
 (∃a:Nat,e.loc=.obj a/\e.sync=false/\((∃b,r b=some a/\(e.write=true->¬gB.ro b))\/(w.heap.size<=a/\a<u)))\/
 (∃m,e.loc=.mark m/\(m=.noRoom\/∃f,m=.extern f))\/e.loc=.output
theorem lT.mono{u':Nat}(D:u<=u'){e:Event}(h:lT r w u e):lT r w u' e:=by
 rcases h with⟨a,Y,K,H⟩|⟨a,Y,K,H⟩|h
 ·exact .inl ⟨a,Y,K,H.imp id fun x=>⟨x.1,az x.2 D⟩⟩
 ·exact .inr (.inl ⟨a,Y,K,H.imp id fun x=>⟨x.1,az x.2 D⟩⟩)
 ·exact .inr (.inr h)
theorem lT.back{r1:Rn}{c1:Nat}{w1:World}(o:Out r r1 c c1 v w v1 w1)(R:w1.heap.size<=u){e:Event}(h:lT r1 w1 u e):lT r w u e:=by
 have key:∀(a:Nat) (wr:Bool),((∃b,r1 b=some a/\(wr=true->¬gB.ro b))\/(w1.heap.size<=a/\a<u))->(∃b,r b=some a/\(wr=true->¬gB.ro b))\/(w.heap.size<=a/\a<u):=by
  rintro a wr (⟨b,Y,hw⟩|Y)
  ·rcases o.fresh b a Y with x|x
   ·exact .inl ⟨b,x,hw⟩
   ·exact .inr ⟨x.1,az (o.wl.lt Y).2 R⟩
  ·exact .inr ⟨ai o.grow Y.1,Y.2⟩
 rcases h with⟨a,K,H,D⟩|⟨a,K,H,D⟩|h
 ·exact .inl ⟨a,K,H,key _ _ D⟩
 ·exact .inr (.inl ⟨a,K,H,key _ _ D⟩)
 ·exact .inr (.inr h)
inductive RR{α:Type}(A:Rn->α->α->Prop)(r:Rn)(c:Nat)(es:Array Event)(v w:World):Result α->Result α×Array Event->Prop
 |ok {a a':α} {v1 w1:World} {fs:Array Event} (r1:Rn) (c1:Nat):Out r r1 c c1 v w v1 w1->A r1 a a'->(∀e∈fs,e∈es\/lT r w w1.heap.size e)->RR A r c es v w (.ok a v1) (.ok a' w1,fs)
 |halt {h h':Halt} {v1 w1:World} {fs:Array Event} (r1:Rn) (c1:Nat):Out r r1 c c1 v w v1 w1->Hl r1 h h'->(∀e∈fs,e∈es\/lT r w w1.heap.size e)->RR A r c es v w (.halt h v1) (.halt h' w1,fs)
 |lost {h:Halt} {v1:World} {x:Result α×Array Event}:rO h->RR A r c es v w (.halt h v1) x
 |lC {x:Result α} {y:Result α×Array Event}:v.drawn+c<x.world.drawn->w.drawn+c<y.1.world.drawn->RR A r c es v w x y
theorem RR.after{α:Type}{A:Rn->α->α->Prop}{r1:Rn}{c1:Nat}{es Y:Array _}{w1:World}{x:Result α}{x':Result α×Array _}(o:Out r r1 c c1 v w v1 w1)(K:∀e∈Y,e∈es\/lT r w 0 e)(h:RR A r1 c1 Y v1 w1 x x'):RR A r c es v w x x':=by
 have ev:∀{fs:Array _} {u:Nat},w1.heap.size<=u->(∀e∈fs,e∈Y\/lT r1 w1 u e)->∀e∈fs,e∈es\/lT r w u e:=fun D k e H=>(k e H).elim (fun x=>(K e x).imp id fun y=>y.mono (ay _)) fun x=>.inr (x.back o D);cases h with
 |ok r2 c2 o2 a f=>exact .ok r2 c2 (o.trans o2) a (ev o2.grow f)
 |halt r2 c2 o2 a f=>exact .halt r2 c2 (o.trans o2) a (ev o2.grow f)
 |lost h=>exact .lost h
 |lC h k=>exact .lC (by have:=o.drew;omega) (by have:=o.zb;omega)
theorem RR.stuck{α:Type}{A:Rn->α->α->Prop}{es:Array _}(y:String){x:Result α×Array _}:RR A r c es v w (.halt (.stuck y) v) x:=.lost (.inr ⟨_,rfl⟩)
theorem RR.here{α:Type}{A:Rn->α->α->Prop}{es Y:Array _}{x:Result α}{x':Result α×Array _}(h:W r c v w)(K:∀e∈Y,e∈es\/lT r w 0 e)(k:RR A r c Y v w x x'):RR A r c es v w x x':=k.after (.refl h) K
omit [gB]in
theorem mem_push{es:Array _}{e x:Event}(h:x∈es.push e):x∈es\/x=e:=Array.mem_push.1 h
omit [gB]in
theorem Ax{es:Array _}{Q:Event->Prop}:∀e∈es,e∈es\/Q e:=fun _ h=>.inl h
theorem SR.run{α:Type}{A:Rn->α->α->Prop}(f:ED P){s s':Sem α}(h:SR P A r s s'):∀{c:Nat} {v w:World} (es:Array Event),W r c v w->RR A r c es v w (s.run P v) (s'.runT P w es):=by
 induction h with
 |pure a=>exact fun es hw=>.ok _ _ (.refl hw) a Ax
 |@load r a a' k k' D _ Y=>
  intro c v w es hw;simp only[Sem.run,au];cases J:v.cell? a with
  |some x=>
   obtain⟨x',E,F⟩:=hw.cell D J;rw[E];refine(Y r x x' (.refl _) F _ hw).here hw fun e K=>?_;rcases mem_push K with K|rfl
   ·exact .inl K
   ·exact .inr (.inl ⟨a',rfl,rfl,.inl ⟨_,D.block,fun x=>by cases x⟩⟩)
  |none=>
   rw[hw.noCell D J];have V:(Mode.plain==Mode.atomic)=false:=rfl;simp only[V];rcases hw.farLoad f D with⟨y,e,L⟩|⟨x,l,l',e,e',F,G⟩
   ·rw[e];exact .lost L
   ·rw[e,e'];simp only;refine(Y r x x (.refl _) F _ hw).here hw fun z R=>?_;rcases bA.1 R with R|R
    ·exact .inl R
    ·simp only[bB,bR]at R;obtain⟨y,M,rfl⟩:=R;obtain⟨b,B⟩:=G y M;exact .inr (.inl ⟨y,rfl,rfl,.inl ⟨b,B,fun x=>by cases x⟩⟩)
 |@store r a a' x x' k k' D N _ Y=>
  intro c v w es hw;have main:(∀c,x≠.agg c)->(∀c,x≠.tuple c)->(∀c,x'≠.agg c)->(∀c,x'≠.tuple c)->RR A r c es v w ((Sem.store .plain a x k).run P v) ((Sem.store .plain a' x' k').runT P w es):=by
   intro n1 n2 n3 n4;have S:=Sem.run.eq_5 P v .plain a x k n1 n2;have T:=Sem.runT.eq_5 P w es .plain a' x' k' n3 n4;rw[S,T];cases J:v.cell? a with
   |some y=>
    obtain⟨y',j,_⟩:=hw.cell D J;rw[j];simp only;by_cases H:gB.ro a.block
    ·rw[hw.aco D H J];exact .lost (.inl ⟨_,rfl,rfl⟩)
    ·rw[hw.frozen D H];split
     ·exact .lost (.inl ⟨_,rfl,rfl⟩)
     ·refine(Y r (.refl _) _ (Out.setCell hw D H N).wl).after (Out.setCell hw D H N) fun e K=>?_;rcases mem_push K with K|rfl
      ·exact .inl K
      ·exact .inr (.inl ⟨a',rfl,rfl,.inl ⟨_,D.block,fun _=>H⟩⟩)
   |none=>
    rw[hw.noCell D J];have V:(Mode.plain==Mode.atomic)=false:=rfl;simp only[V];rcases hw.farStore P D N with⟨y,e,L⟩|⟨b,b',o,o',l,l',H,B,I,e,e',G⟩
    ·rw[e];exact .lost L
    ·rw[e,e'];simp only;refine(Y r (.refl _) _ (Out.set hw B H I).wl).after (Out.set hw B H I) fun z R=>?_;rcases bA.1 R with R|R
     ·exact .inl R
     ·simp only[bB,bR]at R;obtain⟨y,M,rfl⟩:=R;exact .inr (.inl ⟨y,rfl,rfl,.inl ⟨b,by rw[G y M];exact B,fun _=>H⟩⟩)
  cases N with
  |agg _ _=>exact .stuck _
  |tuple _ _=>exact .stuck _
  |blank _=>exact .stuck _
  |_=>exact main (fun _ h=>by cases h) (fun _ h=>by cases h) (fun _ h=>by cases h) (fun _ h=>by cases h)
 |@new r o o' k k' I _ Y=>
  intro c v w es hw;simp only[Sem.run,au];have q:=Out.new hw I;exact(Y _ _ _ q.le (by show(if v.heap.size=v.heap.size then some w.heap.size else r v.heap.size)=_;rw[if_pos rfl]) es q.wl).after q Ax
 |@shape r b b' k k' e _ Y=>
  intro c v w es hw;simp only[Sem.run,au,hw.shape e];exact Y r _ (.refl _) es hw
 |@freeze r a a' n k k' z D _ Y=>
  intro c v w es hw;simp only[Sem.run,au];exact(Y r (.refl _) es (Out.freeze hw D (z _) n).wl).after (Out.freeze hw D (z _) n) Ax
 |@frozen r a a' k k' z D _ Y=>
  intro c v w es hw;simp only[Sem.run,au,hw.frozen D (z _)];exact Y r _ (.refl _) es hw
 |@getObj r b b' k k' e _ Y=>
  intro c v w es hw;obtain⟨o,o',X,Z,U⟩:=hw.obj _ _ e;simp only[Sem.run,au,X,Z];cases U with
  |ro Q n F B=>exact .stuck _
  |same n U=>
   have go:∀{p p':Obj},O r p p'->p'.isChan=false->RR A r c es v w ((k p).run P v) ((k' p').runT P w (es.push ⟨.obj b',false,p'.isChan⟩)):=by
    intro p p' hp C;refine(Y r _ _ (.refl _) hp _ hw).here hw fun x K=>?_;rcases mem_push K with K|rfl
    ·exact .inl K
    ·exact .inr (.inr (.inl ⟨b',rfl,C,.inl ⟨_,e,fun x=>by cases x⟩⟩))
   cases U with
   |cells Q fz F=>exact .stuck _
   |map g hs i=>exact go (.map g hs i) rfl
   |stringIter s p=>exact go (.stringIter s p) rfl
   |qF a s n=>exact go (.qF a s n) rfl
   |mapIter a s n e=>exact go (.mapIter a s n e) rfl
   |loop l=>exact go (.loop l) rfl
   |view t n a=>exact go (.view t n a) rfl
   |number l a=>exact go (.number l a) rfl
   |deferred d=>exact go (.deferred d) rfl
 |@setObj r b b' o o' k k' e I _ Y=>
  intro c v w es hw;obtain⟨p,p',X,Z,U⟩:=hw.obj _ _ e;simp only[Sem.run,au,X,Z];have C:o'.isChan=false:=by cases I<;>rfl
  cases U with
  |ro Q n F B=>exact .stuck _
  |same n U=>
   have go:RR A r c es v w (k.run P {v with heap:=v.heap.setIfInBounds b o}) (k'.runT P {w with heap:=w.heap.setIfInBounds b' o'} (es.push ⟨.obj b',true,o'.isChan⟩)):=by
    refine(Y r (.refl _) _ (Out.set hw e n I).wl).after (Out.set hw e n I) fun x K=>?_;rcases mem_push K with K|rfl
    ·exact .inl K
    ·exact .inr (.inr (.inl ⟨b',rfl,C,.inl ⟨_,e,fun _=>n⟩⟩))
   cases U with
   |cells Q fz F=>exact .stuck _
   |_=>exact go
 |@choose r q k k' _ Y=>
  intro c v w es hw;simp only[Sem.run,au];split
  ·exact Y r _ (.refl _) es hw
  ·cases c with
   |zero=>
    refine .lC ?_ ?_
    ·exact az (bW _) (CD (P:=P) (k (q.cut (v.tape v.drawn q))) {v with drawn:=v.drawn+1})
    ·rw[Sem.runT_eq];exact az (bW _) (CD (P:=P) (k' (q.cut (w.tape w.drawn q))) {w with drawn:=w.drawn+1})
   |succ c=>
    have:=hw.tape 0 q (by omega);simp only[Nat.add_zero]at this;rw[<-this];exact(Y r _ (.refl _) es (Out.draw hw).wl).after (Out.draw hw) Ax
 |@env r k k' _ Y=>
  intro c v w es hw;have S:(Sem.sys .env k).run P v=(k (.strings v.os.env)).run P v:=rfl;have T:(Sem.sys .env k').runT P w es=(k' (.strings w.os.env)).runT P w (es.push ⟨.output,true,false⟩):=rfl;rw[S,T,hw.env];refine(Y r _ (.refl _) _ hw).here hw fun e K=>?_;rcases mem_push K with K|rfl
  ·exact .inl K
  ·exact .inr (.inr (.inr (.inr rfl)))
 |program _ Y=>exact fun es hw=>Y _ (.refl _) es hw
 |mark m M _ Y=>
  intro c v w es hw;simp only[Sem.run,au];refine(Y _ (.refl _) _ hw).here hw fun e K=>?_;rcases mem_push K with K|rfl
  ·exact .inl K
  ·exact .inr (.inr (.inr (.inl ⟨m,rfl,M⟩)))
 |halt u=>exact fun es hw=>.halt _ _ (.refl hw) u Ax
 |lost L=>
  intro c v w es hw;obtain⟨x,v1,e,h⟩:=L v;rw[e];exact .lost h
end runs
end Ren
end Go.Proofs.YtdcjnhipenbcfaaGreatDoor
