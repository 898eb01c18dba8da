/-
  Own text. Part 1 of what the claim rests on.
-/
import Derived.Test.YtdcjnhipenbcfaaGreatDoorProg
import Derived.WalkKit
import Derived.WalkSpells
import Derived.WalkLawsBesides
import Derived.Deep.Light
import Derived.Lib.LaidTab
import Derived.Lib.ItoaNum
import Derived.Below
import Derived.Laws.MakeOwn
import Derived.Laws.OwnMore
import Derived.Laws.IdiomStrings
import Derived.Deep.RegionHeld3
import Derived.Deep.QuietTactic
import Derived.BigQuiet
import Derived.RegionTactic
import Derived.Lib.Builder
import Derived.OwnWalk
import Derived.Lib.MinMax
import Derived.ChangeAlike
import Derived.RegionDies
import Derived.Defers
import Derived.Recover
import Derived.Handy
import Derived.Test.YtdcjnhipenbcfaaGreatDoorRows
import Derived.ProofKit
import Derived.LaidMore
import Derived.Stop.Joined
import Derived.Lib.LaidU8
import GoSem.Step
import Derived.Laws.Sem
import Derived.StepT
import GoSem.Dispatch
set_option linter.unusedVariables false
set_option linter.unusedSectionVars false
set_option linter.unusedSimpArgs false
set_option maxRecDepth 100000
set_option maxHeartbeats 16000000
open Array renaming getElem?_eq_some_iff->aam,getElem?_push->aaB,toList_extract->abG,mem_append->abY,replicate->ab2
open Bool renaming not_eq_true->aad,false_eq_true->aaD,noConfusion->aaJ,and_eq_true->abX
open ByteArray renaming size_extract->abn,data_extract->abo
open Except.ok renaming injEq->abh
open Go.ByteArray renaming toList_eq->abL
open Go.Calls renaming quiet_of_same->aag,quiet_of->aak
open Go.Instr renaming makeSlice->aa_
open Go.IntKind renaming i64->aaq
open Go.IntWalk renaming i64_in->aan
open Go.Lib renaming TabIs->ab3
open Go.Program renaming globalNamed->abI
open Go.Proofs.Tryz renaming f138->abe,ntmps70->abP,ntmps94->abQ,underlying79->abR,func70->abU,func94->abV
open Go.RowKit.Below renaming refl->abx,heap_alloc->abW
open Go.Sem renaming runT->aaE
open Go.Value renaming int->aaw,ofBytes->abH
open Go.World renaming cell?_setCell_other->aaf,cell?_setCell_same->aaC,cell?_alloc_at->aaN,cell?->aaO,viewStore->abf,cell?_alloc_past->abm
open Int renaming natCast_nonneg->aaU
open List renaming getElem?_eq_getElem->aar,append_assoc->aaF,take_succ_eq_append_getElem->aaH,getD_eq_getElem?_getD->aa6,drop_eq_getElem_cons->aa8,take_of_length_le->abk,replicate->abp,replicate_succ->abJ,getElem?_range->abK,length_append->abO,flatMap_cons->abS,mem_toArray->abZ,map_append->ab1
open MonadExcept renaming throw->aaG
open MonadExceptOf renaming throw->aaz
open Nat renaming le_refl->aac,le_trans->aal,lt_of_lt_of_le->aao,zero_le->aav,lt_or_ge->aaK,eq_zero_or_pos->aaW,lt_succ_self->ab0
open Option.some renaming injEq->aa7
open UInt8 renaming toNat_ofNat'->abM,ofNat->abT
namespace Go.Proofs.YtdcjnhipenbcfaaGreatDoor
variable {a a' at_:Addr}{bS cs:Array Value}{p s t:ByteArray}{d d':Deferred}{least:Int}{k:IntKind}{l:List Addr}{L:List UInt8}{B G b b' i j n q u y z:Nat}{g:Nat->Nat}{o o':Obj}{P:Program}{T e:TypeId}{like u0 u1 v' x x':Value}{v1 w w':World}
section
open RowKit
theorem mj{a b:Int}(h:a=b):Ending.returned (.int k a)=.returned (.int k b):=by rw[h]
theorem cJ{a b:Bool}(h:a=b):Ending.returned (.bool a)=.returned (.bool b):=by rw[h]
def Cv(n:Int):=if 97<=n/\n<=122 then n-32 else n
def Qx(n:Int):=decide (Cv n=65)||decide (Cv n=67)||decide (Cv n=71)||decide (Cv n=84)||decide (Cv n=78)
def zS(n:Int):Int:=if n=65 then 84 else if n=84 then 65 else if n=67 then 71 else if n=71 then 67 else 78
theorem w_(n:Int)(K:0<=n)(H:n<=255)(w:World):
  Calls Tryz.prog 97 #[.int .u8 n] w fun e w'=>e=.returned (.int .u8 (Cv n))/\w'=w:=by
 by_cases Y:97<=n
 ·by_cases hb:n<=122
  ·go_wp2
   go_ret
   exact⟨mj (by unfold Cv;rw[if_pos ⟨Y,hb⟩];omega),rfl⟩
  ·go_wp2
   go_ret
   exact⟨mj (by unfold Cv;rw[if_neg (by omega)]),rfl⟩
 ·go_enter Tryz.func97,Tryz.ntmps97
  go_wp2
  go_ret
  exact⟨mj (by unfold Cv;rw[if_neg (by omega)]),rfl⟩
theorem Cw(n:Int)(Y:0<=n)(K:n<=255)(w:World):
  Calls Tryz.prog 71 #[.int .u8 n] w fun e w'=>e=.returned (.bool (Qx n))/\w'=w:=by
 go_enter Tryz.func71,Tryz.ntmps71
 go_wp2_with(refine(w_ _ Y K _).mono ?_;rintro e w' ⟨rfl,rfl⟩)
 all_goals go_ret
 all_goals(exact⟨cJ (by simp_all[Qx]),rfl⟩)
theorem zT(n:Int)(Y:0<=n)(K:n<=255)(w:World):
  Calls Tryz.prog 79 #[.int .u8 n] w fun e w'=>e=.returned (.int .u8 (zS n))/\w'=w:=by
 go_wp2
 all_goals go_ret
 all_goals(exact⟨mj (by simp_all[zS]),rfl⟩)
theorem E6{a b:ByteArray}(h:a=b):Ending.returned (.string a)=.returned (.string b):=by rw[h]
def gb(b:UInt8):=abT (Cv b.toNat).toNat
def rY(b:UInt8):=Qx b.toNat
def pb(b:UInt8):=abT (zS b.toNat).toNat
theorem oE(b:UInt8):0<=(b.toNat:Int):=by omega
theorem mm(b:UInt8):(b.toNat:Int)<=255:=by have:=b.toNat_lt;omega
theorem laid{p:Prop}(h:p):Hid p:=h
def bu(w:World):=ab3 Tryz.prog w "internal/strconv.uint64pow10" .u64 Lib.pow10Tab
theorem bu.on(h:bu w)(hb:Below w.heap.size w w'):bu w':=by
 unfold bu ab3 World.var? at *;cases K:abI _ _ with
 |none=>simp[K]at h
 |some g=>
  simp[K,Option.bind_some]at h⊢;have Y:g<w.heap.size:=by
   rcases aaK g _ with h'|h'
   ·omega
   ·simp_all
  rw[hb.block g Y];exact h
def str(l:List UInt8):ByteArray:=⟨l.toArray⟩
theorem ak(l:List _):(str l).size=l.length:=rfl
theorem bp(l m:List _):str l++str m=str (l++m):=by
 apply ByteArray.ext;simp[str]
theorem zU(l:List _)(b:UInt8):str l++⟨#[b]⟩=str (l++[b]):=bp l [b]
theorem Tp(s:ByteArray):s.data.toList.length=s.size:=by simp
theorem xa(s:ByteArray)(k:Nat)(h:k<s.size):s.data.toList.take (k+1)=s.data.toList.take k++[s[k]]:=by
 rw[aaH _];rfl
theorem bg{a b:Int}(h:a=b):aaw k a=aaw k b:=by rw[h]
theorem yk{a b:ByteArray}(h:a=b):Value.string a=Value.string b:=by rw[h]
def bL(s:ByteArray)(j:Nat):=str ((s.data.toList.drop j).map pb).reverse
theorem nM(s:ByteArray)(j:Nat):(bL s j).size<=s.size:=by
 unfold bL;rw[ak];simp
theorem infoByte:(Tryz.prog.info? 5).map (fun i=>(i.zero,i.size,i.bytes))=some (some (.int .u8 0),1,1):=by kernel_rfl
def bv(b:UInt8):Value:=.int .u8 (b.toNat:Int)
def rZ(l:List _)(m:Nat):=(l.map bv++abp m (aaw .u8 0)).toArray
def zV(m:Nat)(l:List _):=(abp m (aaw .u8 0)++l.map bv).toArray
theorem sJ(n:Nat)(D:n<=1000)(w:World):
  (aa_ 79 (.int .i64 n) (.int .i64 n)).run Tryz.prog w=.ok (.slice (some ⟨w.heap.size,0,none⟩) n n) (w.alloc (.cells (rZ [] n) 5)):=by
 have h:=infoByte;rcases Y:Tryz.prog.info? 5 with _|i
 ·simp_all
 ·rw[Y]at h;simp at h;obtain⟨H,K,hb⟩:=h;have:=run_makeSlice w 79 5 i _ abR Y H .i64 .i64 n n (by omega) (by omega) (by rw[K];omega) (by rw[hb];omega) (by omega);rw[this];have e:madeCells (aaw IntKind.u8 0).cells ((n:Int).toNat *i.size)=rZ [] n:=by
   apply Array.ext';rw[K];show(madeCells #[aaw _ 0] _).toList=_
   have:=toList_madeCells_one (.int .u8 0) n;simpa[rZ]using this
  simp_all
theorem sK(l:List _)(n:Nat)(K:l.length=n)(C:Array _)(hC:C=(l.map bv).toArray)(w:World)(cap:Nat):
  (convert 79 9 (.slice (some ⟨w.heap.size,0,none⟩) n cap)).run Tryz.prog (w.alloc (.cells C 5))=.ok (.string (str l)) (w.alloc (.cells C 5)):=by
 subst K hC;refine run_convert_bytes_back _ 79 9 5 _ cap l abR Tryz.underlying5 Tryz.underlying9 ?_;intro j Y;have:(⟨w.heap.size,0,none⟩:Addr).add j=⟨w.heap.size,j,none⟩:=by unfold Addr.add;simp_all
 rw[this,aaN _ _ _ _ rfl];simp[bv,Y]
theorem MG(l:List _)(m k:Nat)(hk:k=l.length)(hm:0<m):(rZ l m)[k]?=some (.int .u8 0):=by
 subst hk;unfold rZ;simp_all
theorem IZ(l:List _)(m k:Nat)(hk:k=l.length)(hm:0<m)(b:UInt8)(v:Value)(Y:v=bv b):(rZ l m).setIfInBounds k v=rZ (l++[b]) (m-1):=by
 subst hk Y;cases m with
 |zero=>omega
 |succ m=>
  simp[rZ,abJ]
def gl(s:ByteArray)(k:Nat):=(s.data.toList.take k).map gb
theorem I0(s:ByteArray)(k:Nat)(h:k<=s.size):(gl s k).length=k:=by
 unfold gl;simp;omega
theorem MH(s:ByteArray)(k:Nat)(h:k<s.size):gl s (k+1)=gl s k++[gb s[k]]:=by
 unfold gl;rw[xa s k h];simp
theorem Qy(s:ByteArray)(k:Nat)(h:s.size<=k):gl s k=s.data.toList.map gb:=by
 unfold gl;rw[abk (by exact h)]
theorem Qz(b:UInt8):0<=Cv b.toNat/\Cv b.toNat<=255:=by
 have:=mm b;unfold Cv;omega
theorem QA(b:UInt8):((gb b).toNat)=Cv b.toNat:=by
 have h:=Qz b;unfold gb;rw[abM];omega
def lx(s:ByteArray)(k:Nat):=rZ (gl s k) (s.size-k)
theorem Gx(s:ByteArray)(k:Nat)(h:k<s.size):(lx s k)[k]?=some (.int .u8 0):=
 MG _ _ _ (I0 s k (by omega)).symm (by omega)
theorem Cx(s:ByteArray)(k:Nat)(h:k<s.size):(lx s k).setIfInBounds k (.int .u8 (Cv s[k].toNat))=lx s (k+1):=by
 unfold lx;rw[IZ _ _ _ (I0 s k (by omega)).symm (by omega) _ _ (by unfold bv;rw[QA]),<-MH s k h];congr 1
theorem Cy(s:ByteArray)(k:Nat)(h:s.size<=k):lx s k=((s.data.toList.map gb).map bv).toArray:=by
 unfold lx rZ;rw[Qy s k h,show s.size-k=0 by omega];simp
theorem ju(s:ByteArray)(w:World)(R:s.size<=200):
  Calls Tryz.prog 67 #[.string s] w fun e w'=>e=.returned (.string (str (s.data.toList.map gb)))/\Below w.heap.size w w':=by
 have K:=sJ s.size (by omega);go_wp2
 clear K
 go_loopw [10] (fun i wr=>∃k:Nat,k<=s.size/\i=.int .i64 k/\wr=w.alloc (.cells (lx s k) 5)) (fun i _=>s.size-(intOf i).toNat)
 case atStart=>exact⟨0,aav _,rfl,rfl⟩
 case round=>
  obtain⟨k,hk,rfl,rfl⟩:=hrel;by_cases Y:k<s.size
  ·have H:=Gx s k Y;go_wp2_with(go_at_call 97;refine(w_ _ (oE _) (mm _) _).mono ?_;rintro e w' ⟨rfl,rfl⟩)
   go_roundw
   case rel=>go_light;exact⟨k+1,by omega,by go_num,by rw[Cx s k Y]⟩
   case measure=>go_light;simp[intOf];omega
  ·have D:=sK (s.data.toList.map gb) s.size (by simp) (lx s k) (Cy s k (by omega)) w s.size;go_wp2
   go_ret
   exact⟨rfl,(abx _ _).alloc (aac _) _⟩
theorem MJ(n:Int):0<=zS n/\zS n<=255:=by
 unfold zS;omega
theorem QB(b:UInt8):((pb b).toNat)=zS b.toNat:=by
 have h:=MJ b.toNat;unfold pb;rw[abM];omega
theorem MK(m:Nat)(l:List _)(k:Nat)(hk:k+1=m):(zV m l)[k]?=some (.int .u8 0):=by
 subst hk;unfold zV;simp[List.getElem?_append]
theorem I1(m:Nat)(l:List _)(k:Nat)(hk:k+1=m)(b:UInt8)(v:Value)(Y:v=bv b):(zV m l).setIfInBounds k v=zV k (b::l):=by
 subst hk Y;simp only[zV,List.replicate_succ'];simp
def pl(s:ByteArray)(k:Nat):=((s.data.toList.take k).map pb).reverse
theorem ML(s:ByteArray)(k:Nat)(h:k<s.size):pl s (k+1)=pb s[k]::pl s k:=by
 unfold pl;rw[xa s k h];simp
theorem QC(s:ByteArray)(k:Nat)(h:s.size<=k):pl s k=(s.data.toList.map pb).reverse:=by
 unfold pl;rw[abk (by exact h)]
def jg(s:ByteArray)(k:Nat):=zV (s.size-k) (pl s k)
theorem Gy(s:ByteArray)(k j:Nat)(h:k<s.size)(Y:j+1+k=s.size):(jg s k)[j]?=some (.int .u8 0):=
 MK _ _ _ (by omega)
theorem Cz(s:ByteArray)(k j:Nat)(h:k<s.size)(Y:j+1+k=s.size):(jg s k).setIfInBounds j (.int .u8 (zS s[k].toNat))=jg s (k+1):=by
 unfold jg;rw[I1 _ _ _ (by omega) _ _ (by unfold bv;rw[QB]),<-ML s k h,show s.size-(k+1)=j by omega]
theorem CA(s:ByteArray)(k:Nat)(h:s.size<=k):jg s k=((s.data.toList.map pb).reverse.map bv).toArray:=by
 unfold jg zV;rw[QC s k h,show s.size-k=0 by omega];simp
theorem yl(s:ByteArray):jg s 0=rZ [] s.size:=by
 unfold jg zV rZ pl;simp
theorem I2(s:ByteArray)(w:World)(U:s.size<=200):
  Calls Tryz.prog 51 #[.string s] w fun e w'=>e=.returned (.string (bL s 0))/\Below w.heap.size w w':=by
 have K:=sJ s.size (by omega)
 go_enter Tryz.func51,Tryz.ntmps51
 go_wp2
 clear K
 go_loopw [10] (fun i wr=>∃k:Nat,k<=s.size/\i=.int .i64 k/\wr=w.alloc (.cells (jg s k) 5)) (fun i _=>s.size-(intOf i).toNat)
 case atStart=>exact⟨0,aav _,rfl,by rw[yl]⟩
 case round=>
  obtain⟨k,hk,rfl,rfl⟩:=hrel;by_cases Y:k<s.size
  ·have H:s.size-1-k+1+k=s.size:=by omega
   have R:=Gy s k _ Y H;have D:=laid H;clear H;go_wp2_with(go_at_call 79;refine(zT _ (oE _) (mm _) _).mono ?_;rintro e w' ⟨rfl,rfl⟩)
   go_roundw
   case rel=>go_light;exact⟨k+1,by omega,by go_num,by rw[Cz s k _ Y D.out]⟩
   case measure=>go_light;simp[intOf];omega
  ·have I:=sK (s.data.toList.map pb).reverse s.size (by simp) (jg s k) (CA s k (by omega)) w s.size;go_wp2
   go_ret
   exact⟨rfl,(abx _ _).alloc (aac _) _⟩
def ag(a b:UInt8):=a==b&&a != 78
def at8(s:ByteArray)(i:Nat):=s.data.toList.getD i 0
theorem eQ(s:ByteArray)(i:Nat)(h:i<s.size):s[i]=at8 s i:=by
 unfold at8;rw[aa6,aar _];rfl
def cost(p t:ByteArray)(i j:Nat):=if ag (at8 p i) (at8 t j)=true then 0 else 1
def dT(p t:ByteArray)
 |0,j=>j
 |i+1,0=>i+1
 |i+1,j+1=>min (min (dT p t i j+cost p t i j) (dT p t i (j+1)+1)) (dT p t (i+1) j+1)
theorem zX(p t:ByteArray):∀i j,dT p t i j<=i+j
 |0,j=>by simp[dT]
 |i+1,0=>by simp[dT]
 |i+1,j+1=>by have:=zX p t i (j+1);rw[dT];omega
theorem TQ:(Tryz.prog.info? 3).map (fun i=>(i.zero,i.size,i.bytes))=some (some (.int .i64 0),1,8):=by kernel_rfl
def nv(z:Nat):Value:=.int .i64 (z:Int)
def nN(l:List Nat)(m:Nat):=(l.map nv++abp m (aaw .i64 0)).toArray
theorem Gz(n:Nat)(D:n<=1000)(w:World):
  (aa_ 25 (.int .i64 n) (.int .i64 n)).run Tryz.prog w=.ok (.slice (some ⟨w.heap.size,0,none⟩) n n) (w.alloc (.cells (nN [] n) 3)):=by
 have h:=TQ;rcases Y:Tryz.prog.info? 3 with _|i
 ·simp_all
 ·rw[Y]at h;simp at h;obtain⟨H,K,hb⟩:=h;have:=run_makeSlice w 25 3 i _ Tryz.underlying25 Y H .i64 .i64 n n (by omega) (by omega) (by rw[K];omega) (by rw[hb];omega) (by omega);rw[this];have e:madeCells (aaw aaq 0).cells ((n:Int).toNat *i.size)=nN [] n:=by
   apply Array.ext';rw[K];show(madeCells #[aaw _ 0] _).toList=_
   have:=toList_madeCells_one (.int .i64 0) n;simpa[nN]using this
  simp_all
theorem xb(l:List Nat)(m k:Nat)(hk:k=l.length)(hm:0<m):(nN l m)[k]?=some (.int .i64 0):=by
 subst hk;unfold nN;simp_all
theorem zY(l:List Nat)(m k:Nat)(hk:k<l.length):(nN l m)[k]?=some (nv (l.getD k 0)):=by
 unfold nN;rw[List.getElem?_toArray,List.getElem?_append_left (by simp_all),List.getElem?_map,aa6,aar hk];rfl
theorem I3(l:List Nat)(m k:Nat)(hk:k=l.length)(hm:0<m)(b:Nat)(v:Value)(Y:v=nv b):(nN l m).setIfInBounds k v=nN (l++[b]) (m-1):=by
 subst hk Y;cases m with
 |zero=>omega
 |succ m=>
  simp[nN,abJ]
def tl(p t:ByteArray)(i j:Nat):=(List.range j).map (dT p t i)
theorem QD(p t:ByteArray)(i j:Nat):(tl p t i j).length=j:=by simp[tl]
theorem TR(p t:ByteArray)(i j k:Nat)(h:k<j):(tl p t i j).getD k 0=dT p t i k:=by
 simp[tl,abK h]
def CB(p t:ByteArray)(i j:Nat):=nN (tl p t i j) (t.size+1-j)
theorem CC(p t:ByteArray)(i j k:Nat)(h:k<j):(CB p t i j)[k]?=some (.int .i64 (dT p t i k)):=by
 unfold CB;rw[zY _ _ _ (by rw[QD];exact h),TR p t i j k h];rfl
def qX(w:World)(g:Nat)(p t:ByteArray)(i:Nat):=w.heap[g]?=some (.cells (CB p t i (t.size+1)) 3 (0,0))
theorem qX.cell{g:Nat}(h:qX w g p t i)(j:Nat)(Y:j<=t.size):w.cell? ⟨g,j,none⟩=some (.int .i64 (dT p t i j)):=by
 rw[cell_of_row w g j _ _ _ h];exact CC p t i _ j (by omega)
theorem qX.lt{g:Nat}(h:qX w g p t i):g<w.heap.size:=by
 rcases aaK g _ with h'|h'
 ·omega
 ·unfold qX at h;simp_all
def sv(t:ByteArray)(g:Nat->Nat)(x:Nat):Value:=.slice (some ⟨g x,0,none⟩) (t.size+1) (t.size+1)
theorem GA{P:Program}(w:World)(Y:Array _)(t:TypeId)(x y z:Int):
  (Builtin.min_ Y t #[.int .i64 x,.int .i64 y,.int .i64 z]).run P w=.ok (.int .i64 (min (min x y) z)) w:=by
 have e:∀a b:Int,(if b<a then b else a)=min a b:=fun a b=>by omega
 simp[Builtin.min_,Builtin.min2,e]
theorem ym(a b:UInt8)(w:World):
  Calls Tryz.prog 150 #[.int .u8 (a.toNat:Int),.int .u8 (b.toNat:Int)] w fun e w'=>e=.returned (.bool (ag a b))/\w'=w:=by
 by_cases h:a=b
 ·go_wp2
  go_ret
  refine⟨cJ ?_,rfl⟩;unfold ag;subst h;simp only[beq_self_eq_true,Bool.true_and];by_cases Y:a=78
  ·subst Y;rfl
  ·have K:(a != 78)=true:=by simpa using Y
   have H:((a.toNat:Int) != 78)=true:=by
    rw[bne_iff_ne];intro D;apply Y;apply UInt8.toNat.inj;have:((78:UInt8).toNat:Int)=78:=rfl;omega
   rw[K,H]
 ·have R:(a.toNat:Int)≠(b.toNat:Int):=by intro D;exact h (UInt8.toNat.inj (by omega))
  go_wp2
  go_ret
  refine⟨cJ ?_,rfl⟩;unfold ag;rw[show(a==b)=false by simpa using h];rfl
def co(a b:UInt8):=if ag a b=true then 0 else 1
theorem PH(a b:UInt8):co a b<=1:=by unfold co;split<;>omega
theorem zZ(a b:UInt8)(w:World):
  Calls Tryz.prog 165 #[.int .u8 (a.toNat:Int),.int .u8 (b.toNat:Int)] w fun e w'=>e=.returned (.int .i64 (co a b:Int))/\w'=w:=by
 by_cases h:ag a b=true
 ·have Y:co a b=0:=if_pos h;rw[Y]
  go_enter Tryz.func165,Tryz.ntmps165
  go_wp2_with fail
  refine(ym a b _).mono ?_;rintro e w' ⟨rfl,rfl⟩;go_wp2
  go_ret
  exact⟨rfl,rfl⟩
 ·have Y:co a b=1:=if_neg h;rw[Y];rw[aad]at h
  go_enter Tryz.func165,Tryz.ntmps165
  go_wp2_with fail
  refine(ym a b _).mono ?_;rintro e w' ⟨rfl,rfl⟩;go_wp2
  go_ret
  exact⟨rfl,rfl⟩
def fR(g:Nat->Nat)(n j:Nat):=nN ((List.range j).map g) (n-j)
theorem qY(g:Nat->Nat)(n j:Nat)(h:j<n):(fR g n j)[j]?=some (.int .i64 0):=xb _ _ _ (by simp) (by omega)
theorem sL(g:Nat->Nat)(n j i:Nat)(h:i<j):(fR g n j)[i]?=some (.int .i64 (g i)):=by
 unfold fR;rw[zY _ _ _ (by simp_all)];simp[nv,abK h]
theorem nO(g:Nat->Nat)(n j:Nat)(h:j<n)(z:Int)(Y:z=(g j)):(fR g n j).setIfInBounds j (.int .i64 z)=fR g n (j+1):=by
 unfold fR;rw[I3 _ _ _ (by simp) (by omega) _ _ (by unfold nv;rw[Y]),List.range_succ,ab1];congr 1
theorem yn(g:Nat->Nat)(n:Nat):fR g n 0=nN [] n:=rfl
def cQ(w:World)(G:Nat)(g:Nat->Nat)(n:Nat):=w.heap[G]?=some (.cells (fR g n n) 3 (0,0))
theorem cQ.cell(h:cQ w G g n)(j:Nat)(Y:j<n):w.cell? ⟨G,j,none⟩=some (.int .i64 (g j)):=by
 rw[cell_of_row w G j _ _ _ h];exact sL g n n j Y
theorem cQ.lt(h:cQ w G g n):G<w.heap.size:=by
 rcases aaK G _ with h'|h'
 ·omega
 ·unfold cQ at h;simp_all
theorem z6(w:World)(c:Array _)(T:TypeId)(d j:Nat)(v:Value):((w.alloc (.cells c T)).drewN d).setCell ⟨w.heap.size,j,none⟩ v=(w.alloc (.cells (c.setIfInBounds j v) T)).drewN d:=by
 have h:(w.alloc (.cells c T)).setCell ⟨w.heap.size,j,none⟩ v=w.alloc (.cells (c.setIfInBounds j v) T):=by simp[World.setCell_alloc_at]
 have Y:((w.alloc (.cells c T)).drewN d).setCell ⟨w.heap.size,j,none⟩ v=((w.alloc _).setCell _ v).drewN d:=rfl;rw[Y,h]
theorem sM(w:World)(o:Obj)(d:Nat):Below w.heap.size w ((w.alloc o).drewN d):=Go.below_drewN ((abx _ _).alloc (aac _) o) d
theorem xc(n:Nat)(Y:n<=900)(w:World):
  (aa_ 25 (.int .i64 (n+1)) (.int .i64 (n+1))).run Tryz.prog w=.ok (.slice (some ⟨w.heap.size,0,none⟩) (n+1) (n+1)) (w.alloc (.cells (nN [] (n+1)) 3)):=by
 have:=Gz (n+1) (by omega) w;simp_all
theorem jh(n:Nat)(w:World)(I:n<=300):
  Calls Tryz.prog 144 #[.int .i64 (n:Int)] w fun e w'=>e=.returned (.slice (some ⟨w.heap.size,0,none⟩) (n+1) (n+1))/\cQ w' w.heap.size id (n+1)/\Below w.heap.size w w':=by
 have R:=xc n (by omega);go_wp2
 go_loopw [10] (fun K w2=>∃(j d:Nat),K=.int .i64 (j:Int)/\j<=n+1/\w2=(w.alloc (.cells (fR id (n+1) j) 3)).drewN d) (fun K _=>n+1-(intOf K).toNat)
 case atStart=>exact⟨0,0,rfl,aav _,rfl⟩
 case round=>
  obtain⟨j,d,rfl,D,rfl⟩:=hrel;by_cases H:j<=n
  ·have A:=qY id (n+1) j (by omega);go_wp2
   go_roundw
   case rel=>go_light;exact⟨j+1,d,by go_num,by omega,by rw[z6,nO id (n+1) j (by omega) (j:Int) rfl]⟩
   case measure=>go_light;simp[intOf];omega
  ·have Y:Hid (j=n+1):=laid (by omega);go_wp2
   go_ret
   refine⟨rfl,?_,sM _ _ _⟩;rw[Y.out];exact heap_alloc_new w _
def xd(g:Nat->Nat)(first:Nat)(b:UInt8)(o:ByteArray)
 |0=>first
 |j+1=>min (min (g j+co b (at8 o j)) (g (j+1)+1)) (xd g first b o j+1)
theorem yo(g:Nat->Nat)(first:Nat)(b:UInt8)(o:ByteArray):∀j,xd g first b o j<=first+j
 |0=>aac _
 |j+1=>by have:=yo g first b o j;rw[xd];omega
theorem GC{wr W:World}{d H:Nat}{z:Int}(hW:(wr.alloc (.cells (fR g n j) 3)).drewN d=W)(Y:wr.heap.size=H)(hb:j<n)(K:z=(g j)):
  (W.setCell ⟨H,j,none⟩ (.int .i64 z)).drew=(wr.alloc (.cells (fR g n (j+1)) 3)).drewN (d+1):=by
 subst hW Y;rw[z6,nO g n j hb z K];rfl
theorem jR(g:Nat->Nat)(first:Nat)(b:UInt8)(o:ByteArray)(G:Nat)(w:World)(x:o.size<=300)(u:first<=300)(O:∀j,j<=o.size->g j<=1000)(U:cQ w G g (o.size+1)):
  Calls Tryz.prog 145 #[.slice (some ⟨G,0,none⟩) (o.size+1) (o.size+1),.int .i64 (first:Int),.int .u8 (b.toNat:Int),.string o] w fun e w'=>
   e=.returned (.slice (some ⟨w.heap.size,0,none⟩) (o.size+1) (o.size+1))/\cQ w' w.heap.size (xd g first b o) (o.size+1)/\Below w.heap.size w w':=by
 have V:=xc o.size (by omega);have N:=U.lt;have F:=laid O;have J:=laid U;clear O U;have q:(nN [] (o.size+1))[0]?=some (.int .i64 0):=xb [] _ 0 rfl (by omega)
 go_enter Tryz.func145,Tryz.ntmps145
 go_wp2
 go_loopw [19] (fun B w2=>∃(j d:Nat),B=.int .i64 (j:Int)/\j<=o.size/\w2=(w.alloc (.cells (fR (xd g first b o) (o.size+1) (j+1)) 3)).drewN d) (fun B _=>o.size-(intOf B).toNat)
 case atStart=>exact⟨0,0,rfl,aav _,by rw[<-yn (xd g first b o),nO _ _ 0 (by omega) (first:Int) rfl];rfl⟩
 case round=>
  obtain⟨j,d,rfl,S,rfl⟩:=hrel;by_cases A:j<o.size
  ·obtain⟨m,hm⟩:∃m,m=j+1:=⟨_,rfl⟩;generalize K:(w.alloc (.cells (fR (xd g first b o) (o.size+1) (j+1)) 3)).drewN d=W;have P:=laid K;have s2:W.cell? ⟨G,j,none⟩=some (.int .i64 (g j:Int)):=by
    rw[<-K];show(w.alloc _).cell? _=_;rw[abm _ _ _ N];exact J.out.cell j (by omega)
   have l:W.cell? ⟨G,m,none⟩=some (.int .i64 (g m:Int)):=by
    rw[<-K];show(w.alloc _).cell? _=_;rw[abm _ _ _ N];exact J.out.cell m (by omega)
   have p:W.cell? ⟨w.heap.size,j,none⟩=some (.int .i64 (xd g first b o j:Int)):=by
    rw[<-K];show(w.alloc _).cell? _=_;rw[aaN _ _ _ _ rfl];exact sL _ _ _ j (by omega)
   have n:W.cell? ⟨w.heap.size,m,none⟩=some (.int .i64 0):=by
    rw[<-K,hm];show(w.alloc _).cell? _=_;rw[aaN _ _ _ _ rfl];exact qY _ _ _ (by omega)
   have t:W.frozen? ⟨w.heap.size,m,none⟩=false:=by
    rw[<-K];show(w.alloc _).frozen? _=_;rw[World.frozen?_alloc_at _ _ _ _ rfl]
   have Q:Hid (xd g first b o m=min (min (g j+co b (at8 o j)) (g m+1)) (xd g first b o j+1)):=laid (by rw[hm];rfl);have hX:=F.out j (by omega);have r:=F.out m (by omega);have s:xd g first b o j<=700:=by have:=yo g first b o j;omega
   have hC:=PH b (at8 o j)
   have E:=eQ o j A;have b1:(0:Int)<=(j:Int):=aaU _;have b2:(j:Int)<(o.size:Int)+1:=by omega
   have b4:(j:Int)<(o.size:Int):=by omega
   have b5:(0:Int)<=(m:Int):=aaU _;have b6:(m:Int)<(o.size:Int)+1:=by omega
   generalize xd g first b o j=Z at *
   generalize g j=X at *;generalize g m=Y at *;have R:∀W:World,Calls Tryz.prog 165 #[.int .u8 (b.toNat:Int),.int .u8 ((at8 o j).toNat:Int)] W fun e w'=>e=.returned (.int .i64 (co b (at8 o j):Int))/\w'=W:=fun W=>zZ b (at8 o j) W;generalize co b (at8 o j)=C at *;clear K;have H:G≠w.heap.size:=by omega
   have z:∀v,(W.setCell ⟨w.heap.size,m,none⟩ v).drew.cell? ⟨G,j,none⟩=some (.int .i64 (X:Int)):=fun v=>(aaf W ⟨w.heap.size,m,none⟩ ⟨G,j,none⟩ v (by intro e;injection e with D M;exact H D.symm)).trans s2;have c:∀v,(W.setCell ⟨w.heap.size,m,none⟩ v).drew.cell? ⟨G,m,none⟩=some (.int .i64 (Y:Int)):=fun v=>(aaf W ⟨w.heap.size,m,none⟩ ⟨G,m,none⟩ v (by intro e;injection e with D M;exact H D.symm)).trans l;have f:∀v,(W.setCell ⟨w.heap.size,m,none⟩ v).drew.cell? ⟨w.heap.size,j,none⟩=some (.int .i64 (Z:Int)):=fun v=>(aaf W ⟨w.heap.size,m,none⟩ ⟨w.heap.size,j,none⟩ v (by intro e;injection e with D M;omega)).trans p;have x0:aaq.wrap ((X:Int)+(C:Int))=(X:Int)+(C:Int):=aan _ (by omega);have y1:aaq.wrap ((Y:Int)+1)=(Y:Int)+1:=aan _ (by omega);have a:aaq.wrap ((Z:Int)+1)=(Z:Int)+1:=aan _ (by omega);have y:aaq.wrap ((j:Int)+1)=(m:Int):=by rw[show(j:Int)+1=(m:Int) by omega];exact aan _ (by omega)
   have L:=laid hm;clear hm;have T:=@GA Tryz.prog;go_wp2_with fail
   go_region_held3 (fun w'=>w'.cell? ⟨G,j,none⟩=some (.int .i64 (X:Int))/\w'.cell? ⟨G,m,none⟩=some (.int .i64 (Y:Int))/\w'.cell? ⟨w.heap.size,j,none⟩=some (.int .i64 (Z:Int)))
    (first|go_keep|exact⟨z _,c _,f _⟩)
    (first|(go_at_call 165;refine(R _).mono ?_;rintro e w' ⟨rfl,rfl⟩))
   go_wp2
   go_roundw
   case rel=>go_light;have hm:=L.out;exact⟨m,d+1,by go_num,by omega,GC (by have:=P.out;rw[<-hm]at this;exact this) rfl (by omega) (by have:=Q.out;omega)⟩
   case measure=>go_light;have hm:=L.out;simp[intOf];omega
  ·have I:Hid (j=o.size):=laid (by omega);go_wp2
   go_ret
   refine⟨rfl,?_,sM _ _ _⟩;rw[I.out];exact heap_alloc_new w _
def vr(t p:ByteArray)
 |0=>id
 |i+1=>xd (vr t p i) 0 (at8 t i) p
theorem I4(t p:ByteArray):∀i j,vr t p i j<=j
 |0,j=>aac _
 |i+1,j=>by have:=yo (vr t p i) 0 (at8 t i) p j;rw[vr];omega
def bT(t p:ByteArray)(k:Nat)
 |0=>[]
 |i+1=>if vr t p (i+1) p.size<=k then bT t p k i++[(i+1,vr t p (i+1) p.size)]else bT t p k i
theorem jS(t p:ByteArray)(k:Nat):∀n,(bT t p k n).length<=n
 |0=>aac _
 |n+1=>by
  have:=jS t p k n;simp[bT];split
  ·simp_all
  ·omega
def dE(t p:ByteArray)(k:Nat):=bT t p k t.size
def ck(L:List (Nat×Nat)):=L.flatMap fun h=>[nv h.1,nv h.2]
theorem GD(L:List _):(ck L).length=L.length *2:=by
 induction L with
 |nil=>rfl
 |cons a L Y=>simp[ck,abS,abO,List.length_cons,List.length_nil]at *;omega
theorem CD(L:List _)(h:Nat×Nat):ck (L++[h])=ck L++[nv h.1,nv h.2]:=by simp[ck]
theorem I5:(Tryz.prog.info? 173).map (fun i=>(i.zero,i.size,i.bytes))=some (some (.agg #[.int .i64 0,.int .i64 0]),2,16):=by kernel_rfl
theorem iW{v:Value}{xs:List _}(h:w.ownsRow B e z v n xs)(hb:Below w.heap.size w w'):w'.ownsRow B e z v n xs:=
 h.kept (row:=none) ⟨hb.os,hb.tape,hb.output,hb.size,fun k hk _=>hb.block k hk⟩ (by cases v.ownBlock<;>simp)
theorem il{v:Value}{xs:List _}{cs:Array _}{fr:Nat×Nat}(H:w.ownsRow B e z v n xs)(hb:w.heap[b]?=some (.cells cs T fr))(R:T≠e):v.ownBlock≠some b:=by
 intro Y;rcases H.2 with⟨K,_⟩|⟨g,cap,cur,K,_,I,_⟩
 ·rw[K]at Y;cases Y
 ·rw[K]at Y;injection Y with D
  simp_all
theorem sN(t p:ByteArray)(k:Nat)(w:World)(ht:t.size<=300)(o:p.size<=300)(hk:k<=100):
  Calls Tryz.prog 139 #[.string t,.string p,.int .i64 (k:Int)] w fun e w'=>∃v,e=.returned v/\w'.ownsRow w.heap.size 173 2 v (dE t p k).length (ck (dE t p k))/\Below w.heap.size w w':=by
 obtain⟨i0,m,z,c,d⟩:=info_parts I5;have O:=jh p.size w o
 go_enter Tryz.func139,Tryz.ntmps139
 go_wp2_with fail
 refine O.mono ?_;rintro e w1 ⟨rfl,T,Q⟩;clear O;go_wp2
 go_loopw [7,8,16] (fun v a iv wr=>∃i G:Nat,iv=.int .i64 (i:Int)/\a=.slice (some ⟨G,0,none⟩) (p.size+1) (p.size+1)/\i<=t.size/\cQ wr G (vr t p i) (p.size+1)/\wr.ownsRow w.heap.size 173 2 v (bT t p k i).length (ck (bT t p k i))/\Below w.heap.size w wr) (fun _ _ iv _=>t.size-(intOf iv).toNat)
 case atStart=>exact⟨0,w.heap.size,rfl,rfl,aav _,T,World.ownsRow_nil _ _ _ _,Q⟩
 case round=>
  obtain⟨i,G,rfl,rfl,hit,B,A,U⟩:=hrel;clear T Q;have hlen:=jS t p k i;by_cases q:i<t.size
  ·have n:=eQ t i q;have P:Hid (∀W:World,cQ W G (vr t p i) (p.size+1)->Calls Tryz.prog 145 #[.slice (some ⟨G,0,none⟩) (p.size+1) (p.size+1),.int .i64 0,.int .u8 ((at8 t i).toNat:Int),.string p] W fun e w'=>e=.returned (.slice (some ⟨W.heap.size,0,none⟩) (p.size+1) (p.size+1))/\cQ w' W.heap.size (vr t p (i+1)) (p.size+1)/\Below W.heap.size W w'):=laid fun W hW=>jR (vr t p i) 0 (at8 t i) p G W o (by omega) (fun j C=>by have:=I4 t p i j;omega) hW;have b1:(i:Int)<(t.size:Int):=by omega
   have g:=laid B;clear B;go_wp2_with fail
   refine(P.out _ g.out).mono ?_;rintro e w2 ⟨rfl,F,L⟩;have K:=iW A L;have Y:=U.trans (L.mono U.size);have hc:=F.cell p.size (by omega);have x:=I4 t p (i+1) p.size;have N:=laid F;have y:wr.heap.size<w2.heap.size:=F.lt;clear L P g A F;generalize wr.heap.size=H at *;by_cases l:vr t p (i+1) p.size<=k
   ·have E:Hid (bT t p k (i+1)=bT t p k i++[(i+1,vr t p (i+1) p.size)]):=laid (by rw[bT,if_pos l]);generalize J:vr t p (i+1) p.size=DD at *;clear J;go_wp2_with(first
     |(at_builtin;refine wpList_append_own _ rfl _ _ 193 rfl w.heap.size 173 i0 (.agg #[.int .i64 0,.int .i64 0]) 2 16 Tryz.underlying193 m z c d rfl (by decide) _ _ _ rfl (K.alloc _) ⟨w2.heap.size,0,none⟩ 1 1 [nv (i+1),nv DD] rfl rfl ?c1 ?c2 ?c3 ?c4 ?c5 ?_)
     |go_in)
    case c1=>
     intro j u C
     match j,C with
     |0,C=>simp at C;subst C;simp[Addr.add,go_sem,nv]
     |1,C=>simp at C;subst C;simp[Addr.add,go_sem,nv]
    case c2=>first|exact⟨rfl,rfl⟩|(intro u hu;simp at hu;rcases hu with rfl|rfl<;>rfl)
    case c3=>unfold maxLen;omega
    case c4=>omega
    case c5=>have:=Y.size;first|omega|(simp;omega)
    intro v' f R D _;have M:Below w.heap.size w f:=(Y.alloc Y.size _).grown D (by have:=Y.size;simp;omega) (fun j C=>(K.lt j C).1);have I:f.ownsRow w.heap.size 173 2 v' (bT t p k (i+1)).length (ck (bT t p k (i+1))):=by
     rw[E.out,abO,CD];exact R
    have V:cQ f H (vr t p (i+1)) (p.size+1):=by
     have hk:=N.out;unfold cQ at hk⊢;rw[D.block H (by simp;omega) (fun e=>il K hk (by decide) e.symm),heap_alloc_old w2 _ y];exact hk
    obtain⟨X,cap,r,rfl⟩:∃X cap r,v'=.slice (some ⟨X,0,none⟩) r cap:=by
     rcases R.2 with⟨_,h⟩|⟨X,cap,cur,b,_⟩
     ·omega
     ·exact⟨X,cap,_,b⟩
    have Z:=laid V;clear R D K V;go_wp2
    go_roundw
    case rel=>go_light;exact⟨i+1,H,by go_num,rfl,by omega,Z.out,I,M⟩
    case measure=>go_light;simp[intOf];omega
   ·have E:Hid (bT t p k (i+1)=bT t p k i):=laid (by rw[bT,if_neg l]);have I:w2.ownsRow w.heap.size 173 2 u7 (bT t p k (i+1)).length (ck (bT t p k (i+1))):=by
     rw[E.out];exact K
    generalize J:vr t p (i+1) p.size=DD at *;clear J;go_wp2
    go_roundw
    case rel=>go_light;exact⟨i+1,H,by go_num,rfl,by omega,N.out,I,Y⟩
    case measure=>go_light;simp[intOf];omega
  ·have S:i=t.size:=by omega
   have s:Hid (wr.ownsRow w.heap.size 173 2 u7 (dE t p k).length (ck (dE t p k))):=laid (by unfold dE;rw[<-S];exact A);clear S A;go_wp2
   go_ret
   exact⟨u7,rfl,s.out,U⟩
noncomputable def W_:=match abe.body with
 |some (.seq a _)=>a
 |_=>.skip
noncomputable def Ms:=match abe.body with
 |some (.seq _ (.seq b _))=>b
 |_=>.skip
theorem yq(X:ByteArray)(k q st len b:Nat)(w:World)(hX:X.size<=1000)(hk:k<=6)(R:st<=200)(D:len<=1000)(hb:b *st<=X.size)(H:b<=100000):
  Calls Tryz.prog 77 #[.agg #[.int .i64 (k:Int),.int .i64 (q:Int),.int .i64 (st:Int)],.string X,.int .i64 (len:Int),.int .i64 (b:Int)] w fun e w'=>e=.returned (.string (X.extract (b *st) (min (b *st+st+len+k) X.size)))/\Below w.heap.size w w':=by
 obtain⟨m,Y,hm⟩:∃m:Nat,b *st=m/\(b:Int) *(st:Int)=(m:Int):=⟨b *st,rfl,by simp⟩;rw[Y]at hb⊢;clear Y;have K:min ((m:Int)+(st:Int)+(len:Int)+(k:Int)) (X.size:Int)=((min (m+st+len+k) X.size:Nat):Int):=by omega
 go_wp2
 go_ret
 exact⟨rfl,(abx _ _).alloc (aac _) _⟩
structure Reads(w:World)(By Rf Sg:Nat)(k q st:Nat)(X P:ByteArray):Prop where
 c0:w.cell? ⟨By,0,none⟩=some (.int .i64 (k:Int))
 c1:w.cell? ⟨By,1,none⟩=some (.int .i64 (q:Int))
 c2:w.cell? ⟨By,2,none⟩=some (.int .i64 (st:Int))
 x:w.cell? ⟨Rf,0,none⟩=some (.string X)
 p:w.cell? ⟨Sg,0,none⟩=some (.string P)
def pt(b:Nat):Value:=.pointer (some ⟨b,0,none⟩)
def zN(x By Rf Sg Fp:Nat)(v:Value)(u:Nat->Value):Array Value:=
 #[.int .i64 (x:Int),pt By,pt Rf,pt Sg,pt Fp,.tuple #[],v,u 7,u 8,u 9,u 10,u 11,u 12,u 13,u 14,u 15,u 16,u 17,u 18,u 19,u 20,u 21,u 22,u 23,u 24,u 25,u 26,u 27,u 28,u 29,u 30,u 31,u 32,u 33,u 34,u 35,u 36,u 37,u 38]
theorem E7(x By Rf Sg Fp:Nat)(v M N a9 Y K a12 H D R I U B C a20 a21 a22 a23 a24 a25 a26 a27 a28 a29 F a31 a32 a33 J a35 a36 a37 L:Value):#[.int .i64 x,pt By,pt Rf,pt Sg,pt Fp,.tuple #[],v,M,N,a9,Y,K,a12,H,D,R,I,U,B,C,a20,a21,a22,a23,a24,a25,a26,a27,a28,a29,F,a31,a32,a33,J,a35,a36,a37,L]=zN x By Rf Sg Fp v (fun i=>[M,N,a9,Y,K,a12,H,D,R,I,U,B,C,a20,a21,a22,a23,a24,a25,a26,a27,a28,a29,F,a31,a32,a33,J,a35,a36,a37,L].getD (i-7) (.tuple #[])):=rfl
def uA(By k q st x:Nat)(X P Y:ByteArray)(v:Value):Nat->Value:=fun i=>[.tuple #[],.agg #[.int .i64 (k:Int),.int .i64 (q:Int),.int .i64 (st:Int)],.string X,.string P,.int .i64 (P.size:Int),.int .i64 (x:Int),.string Y,.string P,pt By,.int .i64 (k:Int),v].getD (i-7) (.tuple #[])
def dM(X P:ByteArray)(k st x:Nat):=X.extract (x *st) (min (x *st+st+P.size+k) X.size)
theorem QE(x By Rf Sg Fp k q st:Nat)(X P:ByteArray)(w:World)(F:Reads w By Rf Sg k q st X P)(hX:X.size<=200)(hP:P.size<=30)(hk:k<=6)(O:st<=200)(Q:x *st<=X.size)(I:x<=100000):
  W_.wp Tryz.prog (fun e a w'=>e=.normal/\∃v,a=⟨zN x By Rf Sg Fp v (uA By k q st x X P (dM X P k st x) v),[]⟩/\w'.ownsRow w.heap.size 173 2 v (dE (dM X P k st x) P k).length (ck (dE (dM X P k st x) P k))/\Below w.heap.size w w') ⟨zN x By Rf Sg Fp (.tuple #[]) (fun _=>.tuple #[]),[]⟩ w:=by
 obtain⟨c0,c1,c2,A,cp⟩:=F;have H:=laid (fun W=>yq X k q st P.size x W (by omega) hk O (by omega) Q I);have R:=laid (fun W=>sN (dM X P k st x) P k W (by unfold dM;rw[abn];omega) (by omega) (by omega));have J:By<w.heap.size:=block_lt_of_cell c0;have M:Rf<w.heap.size:=block_lt_of_cell A;have N:Sg<w.heap.size:=block_lt_of_cell cp;rw[show X.extract (x *st) (min (x *st+st+P.size+k) X.size)=dM X P k st x from rfl]at H;generalize dE (dM X P k st x) P k=L at *;generalize dM X P k st x=T at *;unfold W_ abe zN;dsimp only;simp only[pt]
 go_region_held3 (fun w'=>w'.cell? ⟨By,0,none⟩=some (.int .i64 (k:Int))/\w'.cell? ⟨By,1,none⟩=some (.int .i64 (q:Int))/\w'.cell? ⟨By,2,none⟩=some (.int .i64 (st:Int))/\w'.cell? ⟨Rf,0,none⟩=some (.string X)/\w'.cell? ⟨Sg,0,none⟩=some (.string P))
  (first|go_keep|((try dsimp only);(repeat' apply And.intro);all_goals(first
   |(rw[D.cell (by have:=Y.size;simp at this⊢;omega),Y.cell (by first|omega|(simp;omega))];assumption)
   |(rw[Y.cell (by first|omega|(simp;omega))];assumption))))
  (first
   |(go_at_call 77;refine(H.out _).mono ?_;rintro e w' ⟨rfl,Y⟩)
   |(go_at_call 139;refine(R.out _).mono ?_;rintro e S ⟨v,rfl,K,D⟩))
 refine⟨rfl,v,rfl,?_,?_⟩
 ·rcases K.2 with h'|⟨g,cap,cur,U,B,C⟩
  ·exact⟨K.1,.inl h'⟩
  ·exact⟨K.1,.inr ⟨g,cap,cur,U,aal Y.size B,C⟩⟩
 ·exact(show Below w.heap.size w w' from⟨Y.os,Y.tape,Y.output,Y.size,Y.block⟩).trans (D.mono Y.size)
def cT(m:Nat)(L:List (Nat×Nat))(j:Nat):=(L.take j).map (fun h=>(h.1+m,h.2))++L.drop j
theorem I6(L:List _)(i:Nat)(Y:i<L.length):(ck L)[i *2]?=some (nv (L[i]).1):=by
 induction L generalizing i with
 |nil=>simp at Y
 |cons a L K=>
  cases i with
  |zero=>rfl
  |succ i=>
   rw[show(i+1) *2=i *2+1+1 by omega];simp[ck]at *;simpa using K i _
theorem I7(L:List _)(i:Nat)(z:Nat)(Y:i<L.length):(ck L).set (i *2) (nv z)=ck (L.set i (z,(L[i]).2)):=by
 induction L generalizing i with
 |nil=>simp at Y
 |cons a L K=>
  cases i with
  |zero=>rfl
  |succ i=>
   rw[show(i+1) *2=i *2+1+1 by omega];simp[ck,abS,List.cons_append,List.nil_append,List.set_cons_succ,List.getElem_cons_succ]at *;rw[K i _]
theorem im(m:Nat)(L:List _)(j:Nat):(cT m L j).length=L.length:=by
 simp[cT];omega
theorem z7(m:Nat)(L:List _)(j:Nat)(Y:j<L.length):(cT m L j)[j]?=some L[j]:=by
 unfold cT;have e:((L.take j).map fun h=>(h.1+m,h.2)).length=j:=by simp;omega
 rw[List.getElem?_append_right (by omega),e,Nat.sub_self,aa8 Y];rfl
theorem GF(m:Nat)(L:List _)(j:Nat)(Y:j<L.length):(cT m L j).set j ((L[j]).1+m,(L[j]).2)=cT m L (j+1):=by
 unfold cT;have e:((L.take j).map fun h=>(h.1+m,h.2)).length=j:=by simp;omega
 rw[List.set_append_right _ _ (by omega),e,Nat.sub_self,aaH Y,ab1,aaF,aa8 Y];rfl
theorem QF(x By Rf Sg Fp k q st:Nat)(X P:ByteArray)(L:List (Nat×Nat))(v:Value)(u:Nat->Value)(B:Nat)(w:World)(f:Reads w By Rf Sg k q st X P)(d:∀g,v.ownBlock=some g->g≠By)(hL:L.length<=1000)(U:∀h∈L,h.1<=1000)(y:x *st<=1000)(au:st<=1000)(b:x<=100000)
  (Y:w.ownsRow B 173 2 v L.length (ck L)):
  Ms.wp Tryz.prog (fun e a w'=>e=.normal/\∃H,a=⟨zN x By Rf Sg Fp v H,[]⟩/\w'.ownsRow B 173 2 v L.length (ck (cT (x *st) L L.length))) ⟨zN x By Rf Sg Fp v u,[]⟩ w:=by
 have F:Hid (∀(t:Array Value) (H:Nat->Value) (w':World),t=zN x By Rf Sg Fp v H->w'.ownsRow B 173 2 v L.length (ck (cT (x *st) L L.length))->(fun(e:Exit) (a:Act) (w':World)=>e=.normal/\∃H,a=⟨zN x By Rf Sg Fp v H,[]⟩/\w'.ownsRow B 173 2 v L.length (ck (cT (x *st) L L.length))) .normal ⟨t,[]⟩ w'):=
  laid (fun t H w' e p=>⟨rfl,H,by rw[e],p⟩)
 generalize(fun(e:Exit) (a:Act) (w':World)=>e=.normal/\∃H,a=⟨zN x By Rf Sg Fp v H,[]⟩/\w'.ownsRow B 173 2 v L.length (ck (cT (x *st) L L.length)))=Q at F⊢;have c2:=f.c2;clear f;obtain⟨m,hm,j⟩:∃m:Nat,m=x *st/\(x:Int) *(st:Int)=(m:Int):=⟨x *st,rfl,by simp⟩;rw[<-hm]at y F;clear hm;have N:=laid U;clear U;rcases Y.2 with⟨c,J⟩|⟨g,cap,cur,c,hg,_⟩
 ·have Z:L=[]:=List.length_eq_zero_iff.1 J;subst Z c;have O:=laid Y;clear Y;unfold Ms abe;dsimp only;rw[show zN x By Rf Sg Fp (_:Value) u=_ from rfl];simp only[zN,pt];go_wp2
  go_loopw [20] (fun iv w2=>iv=.int .i64 0/\w2=w) (fun _ _=>0)
  case atStart=>exact⟨rfl,rfl⟩
  case round=>
   obtain⟨rfl,rfl⟩:=hrel;go_wp2
   exact F.out _ _ _ (E7 x By Rf Sg Fp _ _ _ _ _ _ _ _ _ _ _ _ _ _ _ _ _ _ _ _ _ _ _ _ _ _ _ _ _ _ _ _ _) O.out
 ·subst c;have G:=d g rfl;have O:=laid Y;clear Y d;generalize J:L.length=n at *;have l:=laid J;clear J;unfold Ms abe;dsimp only;rw[show zN x By Rf Sg Fp (_:Value) u=_ from rfl];simp only[zN,pt];go_wp2
  go_loopw [20] (fun iv w2=>∃i:Nat,iv=.int .i64 (i:Int)/\i<=n/\w2.ownsRow B 173 2 (.slice (some ⟨g,0,none⟩) n cap) n (ck (cT m L i))/\w2.cell? ⟨By,2,none⟩=some (.int .i64 (st:Int))) (fun iv _=>n-(intOf iv).toNat)
  case atStart=>exact⟨0,rfl,aav _,O.out,c2⟩
  case round=>
   obtain⟨i,rfl,r,Y,R⟩:=hrel;by_cases s:i<n
   ·have K:i<L.length:=by have:=l.out;omega
    have b1:(i:Int)<(n:Int):=by omega
    have b2:(0:Int)<=(i:Int):=aaU _;have s1:wr.cell? ⟨By,2,none⟩=some (.int .i64 (st:Int)):=R;have s2:wr.cell? ⟨g,i *2,none⟩=some (.int .i64 ((L[i]).1:Int)):=by
     rw[Y.cellAt (i *2) (by omega)];have h:=I6 (cT m L i) i (by rw[im];exact K);rw[h];have A:=z7 m L i K;rw[aar (by rw[im];exact K)]at A;rw[Option.some.inj A];rfl
    have s3:=Y.frozenAt (i *2);have hE:=N.out (L[i]) (List.getElem_mem K);have x1:aaq.wrap ((x:Int) *(st:Int))=(m:Int):=by rw[j];exact aan _ (by omega)
    have x2:aaq.wrap (((L[i]).1:Int)+(m:Int))=((L[i]).1:Int)+(m:Int):=aan _ (by omega);have I:=Y.stored (i *2) (nv ((L[i]).1+m));have T:Hid ((wr.setCell ⟨g,i *2,none⟩ (nv ((L[i]).1+m))).ownsRow B 173 2 (.slice (some ⟨g,0,none⟩) n cap) n (ck (cT m L (i+1)))):=laid (by
     have h:=I.1;have A:=z7 m L i K;rw[aar (by rw[im];exact K)]at A;rw[I7 _ i _ (by rw[im];exact K),Option.some.inj A,GF m L i K]at h;exact h)
    have D:Hid (∀z:Value,(wr.setCell ⟨g,i *2,none⟩ z).cell? ⟨By,2,none⟩=some (.int .i64 (st:Int))):=laid fun z=>(aaf wr ⟨g,i *2,none⟩ ⟨By,2,none⟩ z (by intro e;injection e with o e2;exact G o)).trans s1;clear I Y R;generalize(L[i]).1=E at *;have C:nv (E+m)=.int .i64 ((E:Int)+(m:Int)):=by simp[nv]
    rw[C]at T;clear C;have V:Hid ((wr.setCell ⟨g,i *2,none⟩ (.int .i64 ((E:Int)+(m:Int)))).drew.ownsRow B 173 2 (.slice (some ⟨g,0,none⟩) n cap) n (ck (cT m L (i+1)))):=T;have M:Hid ((wr.setCell ⟨g,i *2,none⟩ (.int .i64 ((E:Int)+(m:Int)))).drew.cell? ⟨By,2,none⟩=some (.int .i64 (st:Int))):=laid (D.out _);clear T D;go_wp2
    go_region
    generalize(wr.setCell ⟨g,i *2,none⟩ (.int .i64 ((E:Int)+(m:Int)))).drew=W2 at *;go_wp2
    go_roundw
    case rel=>go_light;exact⟨i+1,by go_num,by omega,V.out,M.out⟩
    case measure=>go_light;simp[intOf];omega
   ·have W:i=n:=by omega
    subst W;have S:=laid Y;clear Y;go_wp2
    exact F.out _ _ _ (E7 x By Rf Sg Fp _ _ _ _ _ _ _ _ _ _ _ _ _ _ _ _ _ _ _ _ _ _ _ _ _ _ _ _ _ _ _ _ _) S.out
def RD(w:World)(b:Nat)(s:ByteArray)(p:Int)(c:Int):=
 w.heap[b]?=some (.cells #[.string s,.int .i64 p,.int .i64 c] 98 (0,0))
theorem RD.c0{p c:Int}(h:RD w b s p c):w.cell? ⟨b,0,none⟩=some (.string s):=by
 rw[cell_of_row w b 0 _ _ _ h];rfl
theorem RD.c1{p c:Int}(h:RD w b s p c):w.cell? ⟨b,1,none⟩=some (.int .i64 p):=by
 rw[cell_of_row w b 1 _ _ _ h];rfl
theorem RD.c2{p c:Int}(h:RD w b s p c):w.cell? ⟨b,2,none⟩=some (.int .i64 c):=by
 rw[cell_of_row w b 2 _ _ _ h];rfl
theorem RD.fz{p c:Int}(h:RD w b s p c)(j:Nat):w.frozen? ⟨b,j,none⟩=false:=frozen_of_row w b j _ _ h
def kO(c p:Int):List PanicEntry:=[{v:=.iface 70 (.agg #[.int .i64 c,.int .i64 p]),recovered:=false}]
theorem bI(w:World)(b:Nat)(s:ByteArray)(p c:Int)(h:RD w b s p c):
  Calls Tryz.prog 65 #[.pointer (some ⟨b,0,none⟩)] w fun e w'=>e=.returned (.bool (p==(s.size:Int)))/\∃m,w'=w.drewN m:=by
 have Y:=h.c0;have K:=h.c1;go_wp2
 go_quiet(fail)
 go_wp2
 go_ret
 exact⟨rfl,nq,rfl⟩
theorem cf(w:World)(b:Nat)(s:ByteArray)(p c:Int)(h:RD w b s p c):
  Calls Tryz.prog 69 #[.pointer (some ⟨b,0,none⟩)] w fun e w'=>e=.panicked (kO c p)/\∃m,w'=w.drewN m:=by
 have Y:=h.c1;have K:=h.c2;go_wp2
 go_region_dies
 all_goals(try go_wp2)
 all_goals exact⟨rfl,rfl,1,rfl⟩
def aN(f:UInt8->Bool)(l:List _)(m:Nat):=((l.take m).takeWhile f).length
theorem sO(f:UInt8->Bool)(m:Nat):aN f [] m=0:=by simp[aN]
theorem ly(f:UInt8->Bool)(l:List _):aN f l 0=0:=by simp[aN]
theorem dV(f:UInt8->Bool)(x:UInt8)(l:List _)(m:Nat):aN f (x::l) (m+1)=if f x=true then aN f l m+1 else 0:=by
 unfold aN;by_cases h:f x=true<;>simp[h]
theorem dJ(f:UInt8->Bool):∀l m,aN f l m<=m/\aN f l m<=l.length
 |[],m=>by rw[sO];simp
 |x::l,0=>by rw[ly];simp
 |x::l,m+1=>by
  have:=dJ f l m;rw[dV];split<;>simp<;>omega
theorem iX(f:UInt8->Bool):∀l m k h,k<=aN f l m->k<m->f l[k]=true->k+1<=aN f l m
 |[],m,k,h,_,_,_=>by simp at h
 |x::l,0,k,h,_,hm,_=>by omega
 |x::l,m+1,0,h,_,_,Y=>by
  rw[dV,if_pos (by simp_all)];omega
 |x::l,m+1,k+1,h,hk,hm,Y=>by
  rw[dV]at hk⊢;by_cases K:f x=true
  ·rw[if_pos K]at hk⊢;have:=iX f l m k _ (by omega) (by omega) (by simpa using Y);omega
  ·simp_all
theorem iY(f:UInt8->Bool):∀l m k h,k<=aN f l m->f l[k]=false->aN f l m=k
 |[],m,k,h,_,_=>by simp at h
 |x::l,0,k,h,hk,_=>by rw[ly]at hk⊢;omega
 |x::l,m+1,0,h,_,Y=>by
  rw[dV,if_neg (by simp_all)]
 |x::l,m+1,k+1,h,hk,Y=>by
  rw[dV]at hk⊢;by_cases K:f x=true
  ·rw[if_pos K]at hk⊢;have:=iY f l m k _ (by omega) (by simpa using Y);omega
  ·simp_all
def rest(s:ByteArray)(p:Nat):=s.data.toList.drop p
theorem cA(s:ByteArray)(p:Nat):(rest s p).length=s.size-p:=by simp[rest]
theorem MN(s:ByteArray)(p k:Nat)(h:p+k<s.size):(rest s p)[k]'(by rw[cA];omega)=s[p+k]:=by
 simp[rest,ByteArray.getElem_eq_getElem_data]
theorem RD.put{p c:Int}(h:RD w b s p c)(q:Int):RD (w.setCell ⟨b,1,none⟩ (.int .i64 q)) b s q c:=by
 unfold RD at *;have:=heap_setCell_same w b 1 _ _ (.int .i64 q) h;simp_all
theorem bJ(w:World)(b:Nat)(j:Nat)(v:Value):w.grownBy (w.setCell ⟨b,j,none⟩ v) (some b):=
 ⟨rfl,rfl,rfl,by simp,fun k hk Y=>heap_setCell_other w _ k v (by simp_all)⟩
theorem jT(w:World)(r:Option Nat):w.grownBy w r:=⟨rfl,rfl,rfl,aac _,fun _ _ _=>rfl⟩
theorem aJ(w:World)(n:Nat)(r:Option Nat):w.grownBy (w.drewN n) r:=⟨rfl,rfl,rfl,aac _,fun _ _ _=>rfl⟩
theorem ah{a b c:World}{r:Option Nat}(h:a.grownBy b r)(k:b.grownBy c r):a.grownBy c r:=
 ⟨k.os.trans h.os,k.tape.trans h.tape,k.output.trans h.output,aal h.size k.size,fun j K Y=>(k.block j (aao K h.size) Y).trans (h.block j K Y)⟩
theorem RD.drewN{p c:Int}(h:RD w b s p c)(n:Nat):RD (w.drewN n) b s p c:=h
theorem iZ(x:UInt8)(w:World):
  Calls Tryz.prog 71 #[.int .u8 x.toNat] w fun e w'=>e=.returned (.bool (rY x))/\w'=w:=Cw _ (oE x) (mm x) w
def yr(w:World)(b:Nat)(s:ByteArray)(p:Nat)(c:Int)(f:UInt8->Bool)(m:Nat)(q:Nat)(wr:World):Prop:=
 p<=q/\q<=p+aN f (rest s p) m/\RD wr b s (q:Int) c/\w.grownBy wr (some b)
theorem jw(s:ByteArray)(p q:Nat)(Y:p<=q)(h:q<s.size):(rest s p)[q-p]'(by rw[cA];omega)=s[q]:=by
 rw[MN s p _ (by omega)];simp_all
def dx(w:World)(b:Nat):=(intOf ((w.cell? ⟨b,1,none⟩).getD undef)).toNat
theorem RD.dx{p c:Int}(h:RD w b s p c):dx w b=p.toNat:=by
 unfold Go.Proofs.YtdcjnhipenbcfaaGreatDoor.dx;rw[h.c1];rfl
def jx(w:World)(b:Nat)(s:ByteArray)(p:Nat)(c:Int)(n:Nat)(least:Int)(e:Ending)(w':World):Prop:=
 (least<=(n:Int)->e=.returned (.string (s.extract p (p+n))))/\((n:Int)<least->e=.panicked (kO c ((p:Int)+(n:Int))))/\RD w' b s ((p:Int)+(n:Int)) c/\w.grownBy w' (some b)
theorem cK{p:Nat}{c:Int}{wr:World}(H:q=p+n)(D:p<=q)(hle:¬(q:Int)-(p:Int)<least)
  (Y:RD wr b s (q:Int) c)(K:w.grownBy wr (some b))(m:Nat):jx w b s p c n least (.returned (.string (s.extract p q))) (wr.drewN m):=by
 subst H;refine⟨fun _=>rfl,fun h=>absurd h (by omega),?_,ah K (aJ wr m _)⟩;have:=Y.drewN m
 rwa [show((p+n))=p+n by omega]at this
theorem cn{p:Nat}{c:Int}{wr:World}(H:q=p+n)(D:p<=q)(hle:(q:Int)-(p:Int)<least)
  (Y:RD wr b s (q:Int) c)(K:w.grownBy wr (some b))(m:Nat):jx w b s p c n least (.panicked (kO c q)) (wr.drewN m):=by
 subst H;refine⟨fun h=>absurd h (by omega),fun _=>by simp,?_,ah K (aJ wr m _)⟩;have:=Y.drewN m
 rwa [show((p+n))=p+n by omega]at this
theorem yt(w:World)(b:Nat)(s:ByteArray)(p:Nat)(c:Int)(least most:Int)(h:RD w b s p c)(j:s.size<=1000)(G:p<=s.size)(hm:0<=most)(X:most<=1000)(E:0<=least)(T:least<=1000):
  Calls Tryz.prog 70 #[.pointer (some ⟨b,0,none⟩),.func (.func 71) #[] #[],.int .i64 least,.int .i64 most] w fun e w'=>
   jx w b s p c (aN rY (rest s p) most.toNat) least e w':=by
 have Q:=h.c1
 go_enter abU,abP
 go_wp2
 clear Q
 go_loopw [] (fun wr=>∃q:Nat,yr w b s p c rY most.toNat q wr) (fun wr=>s.size-dx wr b)
 case atStart=>exact⟨p,aac _,by omega,h,jT _ _⟩
 case round=>
  obtain⟨q,C,W,Y,U⟩:=hrel;have B:=dJ rY (rest s p) most.toNat;rw[cA]at B;have c0:=Y.c0;have c1:=Y.c1;have f1:=Y.fz 1;have Z:aaq.wrap ((q:Int)-(p:Int))=(q:Int)-(p:Int):=aan _ (by omega);by_cases V:(q:Int)-(p:Int)<most
  ·have F:decide ((q:Int)-(p:Int)<most)=true:=by simp;omega
   by_cases I:q<s.size
   ·have M:((q:Int)==(s.size:Int))=false:=by simp;omega
    have S:(q:Int)<(s.size:Int):=by omega
    by_cases D:rY s[q]=true
    ·go_wp2_with fail
     go_quiet((first|(go_at_call 65;exact aak (bI _ _ _ _ _ (Y.drewN _)))|(go_at_call 71;exact aag (iZ _ _))))
     have L:=iX rY (rest s p) most.toNat (q-p) (by rw[cA];omega) (by omega) (by omega) (by rw[jw s p q C I];exact D);go_wp2
     have A:=(Y.drewN nq).put ((q:Int)+1);have J:=ah U (ah (aJ wr nq (some b)) (bJ (wr.drewN nq) b 1 (.int .i64 ((q:Int)+1))))
     go_roundw
     case rel=>go_light;exact⟨q+1,by omega,by omega,A,J⟩
     case measure=>go_light;have O:=Y.dx;have P:=A.dx;rw[O,P];omega
    ·rw[aad]at D;have H:Hid (q=p+aN rY (rest s p) most.toNat):=by
      have:=iY rY (rest s p) most.toNat (q-p) (by rw[cA];omega) (by omega) (by rw[jw s p q C I];exact D);exact laid (by omega)
     go_wp2_with fail
     go_quiet((first|(go_at_call 65;exact aak (bI _ _ _ _ _ (Y.drewN _)))|(go_at_call 71;exact aag (iZ _ _))))
     have K:=Y.drewN nq;have R:=ah U (aJ wr nq (some b));by_cases hle:(q:Int)-(p:Int)<least
     ·go_wp2_with(go_at_call 69;refine(cf _ _ _ _ _ K).mono ?_;rintro e w' ⟨rfl,N,rfl⟩)
      exact⟨rfl,cn (least:=least) H.out (by omega) (by omega) Y U _⟩
     ·go_wp2
      go_quiet(fail)
      go_wp2
      go_ret
      exact cK (least:=least) H.out (by omega) (by omega) K R _
   ·have M:((q:Int)==(s.size:Int))=true:=by simp;omega
    have H:Hid (q=p+aN rY (rest s p) most.toNat):=laid (by omega);go_wp2_with fail
    go_quiet((first|(go_at_call 65;exact aak (bI _ _ _ _ _ (Y.drewN _)))|(go_at_call 71;exact aag (iZ _ _))))
    have K:=Y.drewN nq;have R:=ah U (aJ wr nq (some b));by_cases hle:(q:Int)-(p:Int)<least
    ·go_wp2_with(go_at_call 69;refine(cf _ _ _ _ _ K).mono ?_;rintro e w' ⟨rfl,N,rfl⟩)
     exact⟨rfl,cn (least:=least) H.out (by omega) (by omega) Y U _⟩
    ·go_wp2
     go_quiet(fail)
     go_wp2
     go_ret
     exact cK (least:=least) H.out (by omega) (by omega) K R _
  ·have F:decide ((q:Int)-(p:Int)<most)=false:=by simp;omega
   have H:Hid (q=p+aN rY (rest s p) most.toNat):=laid (by omega);go_wp2_with fail
   go_quiet((first|(go_at_call 65;exact aak (bI _ _ _ _ _ (Y.drewN _)))|(go_at_call 71;exact aag (iZ _ _))))
   have K:=Y.drewN nq;have R:=ah U (aJ wr nq (some b));by_cases hle:(q:Int)-(p:Int)<least
   ·go_wp2_with(go_at_call 69;refine(cf _ _ _ _ _ K).mono ?_;rintro e w' ⟨rfl,N,rfl⟩)
    exact⟨rfl,cn (least:=least) H.out (by omega) (by omega) Y U _⟩
   ·go_wp2
    go_quiet(fail)
    go_wp2
    go_ret
    exact cK (least:=least) H.out (by omega) (by omega) K R _
def MO(n:Int):=decide (65<=n/\n<=90)||decide (97<=n/\n<=122)||decide (48<=n/\n<=57)||decide (n=95)||decide (n=46)
def MP(n:Int):=decide (33<=n/\n<=126)
def qZ(b:UInt8):=MO b.toNat
def pV(b:UInt8):=MP b.toNat
theorem CE(n:Int)(Y:0<=n)(K:n<=255)(w:World):
  Calls Tryz.prog 95 #[.int .u8 n] w fun e w'=>e=.returned (.bool (MO n))/\w'=w:=by
 all_goals
  go_enter Tryz.func95,Tryz.ntmps95
  go_wp2
  all_goals go_ret
  all_goals(go_light;refine⟨cJ ?_,rfl⟩;first|(simp_all[MO];done)|(rw[Bool.eq_iff_iff];simp[MO];omega))
theorem CF(n:Int)(Y:0<=n)(K:n<=255)(w:World):
  Calls Tryz.prog 120 #[.int .u8 n] w fun e w'=>e=.returned (.bool (MP n))/\w'=w:=by
 by_cases a1:33<=n<;>by_cases a2:n<=126;all_goals
  go_wp2
  all_goals go_ret
  all_goals(exact⟨cJ (by simp_all[MP]),rfl⟩)
theorem i_(x:UInt8)(w:World):
  Calls Tryz.prog 95 #[.int .u8 x.toNat] w fun e w'=>e=.returned (.bool (qZ x))/\w'=w:=CE _ (oE x) (mm x) w
theorem ja(x:UInt8)(w:World):
  Calls Tryz.prog 120 #[.int .u8 x.toNat] w fun e w'=>e=.returned (.bool (pV x))/\w'=w:=CF _ (oE x) (mm x) w
def bY(st:Nat×Bool)(f:Nat->Nat×Bool):=if st.2=true then st else f st.1
theorem iw{st:Nat×Bool}(h:st.2=true)(f:Nat->Nat×Bool):bY st f=st:=if_pos h
theorem aX{st:Nat×Bool}(h:st.2=false)(f:Nat->Nat×Bool):bY st f=f st.1:=if_neg (by simp[h])
def aI(s:ByteArray)(c:UInt8)(p:Nat):=if h:p<s.size then(if s[p]=c then(p+1,false)else(p,true))else(p,true)
def dW(s:ByteArray)(f:UInt8->Bool)(least most p:Nat):=(p+aN f (rest s p) most,decide (aN f (rest s p) most<least))
def kQ(s:ByteArray)(p:Nat):=bY (dW s qZ 1 10 p) (aI s 10)
def bD(s:ByteArray)(most p:Nat):=bY (dW s rY 1 most p) (aI s 10)
def cv(s:ByteArray)(most p:Nat):=aN rY (rest s p) most
def nP(s:ByteArray):Nat->Nat->Nat->Nat×Bool
 |0,_,p=>(p,false)
 |fuel+1,n,p=>if s.size<=p then(p,false)else bY (bD s (200-n) p) (nP s fuel (n+cv s (200-n) p))
def ji(s:ByteArray):=
 bY (aI s 62 0) fun p=>bY (kQ s p) fun p=>bY (bD s 200 p) (nP s (s.size+1) (cv s 200 p))
def eB(s:ByteArray)(p:Nat):=
 bY (aI s 64 p) fun p=>bY (kQ s p) fun p=>bY (bD s 30 p) fun p'=>bY (aI s 43 p') fun p'=>bY (aI s 10 p') fun p'=>bY (dW s pV (cv s 30 p) (cv s 30 p) p') (aI s 10)
def bq(s:ByteArray)
 |0,p=>(p,decide (p<s.size))
 |n+1,p=>if s.size<=p then(p,false)else bY (eB s p) (bq s n)
theorem dG(s:ByteArray)(c:UInt8)(p:Nat)(h:p<=s.size):p<=(aI s c p).1/\(aI s c p).1<=s.size:=by
 unfold aI;split
 ·split<;>simp<;>omega
 ·omega
theorem sP(s:ByteArray)(c:UInt8)(p:Nat)(h:(aI s c p).2=false):(aI s c p).1=p+1/\p<s.size:=by
 unfold aI at *;split at h
 ·split at h
  ·simp_all
  simp_all
 simp_all
theorem iy(s:ByteArray)(f:UInt8->Bool)(least most p:Nat)(h:p<=s.size):p<=(dW s f least most p).1/\(dW s f least most p).1<=s.size:=by
 have:=(dJ f (rest s p) most).2;rw[cA]at this;unfold dW;omega
theorem ej{st:Nat×Bool}{f:Nat->Nat×Bool}{p:Nat}(h:p<=st.1/\st.1<=s.size)(Y:∀q,q<=s.size->q<=(f q).1/\(f q).1<=s.size):p<=(bY st f).1/\(bY st f).1<=s.size:=by
 unfold bY;split
 ·exact h
 ·have:=Y _ h.2;omega
theorem z8(s:ByteArray)(p:Nat)(h:p<=s.size):p<=(kQ s p).1/\(kQ s p).1<=s.size:=ej (iy s _ _ _ p h) fun q Y=>dG s _ q Y
theorem gE(s:ByteArray)(m p:Nat)(h:p<=s.size):p<=(bD s m p).1/\(bD s m p).1<=s.size:=ej (iy s _ _ _ p h) fun q Y=>dG s _ q Y
theorem cR{st:Nat×Bool}{f:Nat->Nat×Bool}(h:(bY st f).2=false):st.2=false/\(f st.1).2=false:=by
 unfold bY at h;split at h
 ·simp_all
 ·simp_all
theorem nQ(s:ByteArray)(m p:Nat)(h:(bD s m p).2=false):(bD s m p).1=p+cv s m p+1/\1<=cv s m p/\p+cv s m p<s.size:=by
 unfold bD at *;obtain⟨Y,K⟩:=cR h;rw[aX Y];have:=sP s 10 _ K;unfold dW at this Y⊢;simp at Y this⊢;unfold cv;omega
theorem lz(s:ByteArray)(m p:Nat):cv s m p<=m:=(dJ _ _ _).1
def cut(s:ByteArray)(p q:Nat):ByteArray:=str ((rest s p).take (q-p))
def vt(s:ByteArray)(st:Nat×Bool):ByteArray:=if st.2=true then⟨#[]⟩else cut s st.1 (st.1+aN qZ (rest s st.1) 10)
def GG(s:ByteArray)(p q:Nat):ByteArray:=str (((rest s p).take (q-p)).map gb)
theorem GJ(s:ByteArray)(p q:Nat)(Y:q<=s.size):(GG s p q).size=q-p:=by
 unfold GG;rw[ak,List.length_map,List.length_take,cA];omega
def vu(s:ByteArray)(m p:Nat):ByteArray:=GG s p (p+cv s m p)
theorem pZ(s:ByteArray)(m p:Nat)(Y:p<=s.size):(vu s m p).size=cv s m p:=by
 have:=(dJ rY (rest s p) m).2;rw[cA]at this;unfold vu cv;rw[GJ _ _ _ (by omega)];omega
def GL(s:ByteArray)(m:Nat)(st:Nat×Bool):ByteArray:=if st.2=true then⟨#[]⟩else vu s m st.1
def Mt(s:ByteArray)(m p:Nat):=((rest s p).take (cv s m p)).map gb
theorem E8(s:ByteArray)(m p:Nat):vu s m p=str (Mt s m p):=by
 unfold vu GG Mt;simp_all
theorem yu(s:ByteArray)(m p:Nat)(Y:p<=s.size):(Mt s m p).length=cv s m p:=by
 have h:=pZ s m p Y;rw[E8,ak]at h;exact h
def cL(s:ByteArray):Nat->List UInt8->Nat×Bool->(Nat×Bool)×List UInt8
 |0,acc,st=>(st,acc)
 |f+1,acc,st=>if st.2=false/\(acc=[]\/st.1<s.size)then cL s f (acc++Mt s (200-acc.length) st.1) (bD s (200-acc.length) st.1)else(st,acc)
def dy(s:ByteArray):=cL s (s.size+2) [] (bY (aI s 62 0) (kQ s))
def jU(s:ByteArray):=vt s (aI s 62 0)
theorem jV{f:Nat}{acc:List _}{st:Nat×Bool}{R:(Nat×Bool)×List _}(K:0<f)(hb:st.2=false)(Y:acc=[]\/st.1<s.size)(h:cL s f acc st=R):
  cL s (f-1) (acc++Mt s (200-acc.length) st.1) (bD s (200-acc.length) st.1)=R:=by
 cases f with
 |zero=>omega
 |succ f=>rw[<-h];simp only[cL,Nat.add_sub_cancel];simp_all
theorem eU{f:Nat}{acc:List _}{st:Nat×Bool}{R:(Nat×Bool)×List _}(hb:st.2=true\/(acc≠ []/\s.size<=st.1))(h:cL s f acc st=R):R=(st,acc):=by
 cases f with
 |zero=>rw[<-h];rfl
 |succ f=>
  rw[<-h];simp only[cL];rw[if_neg];rintro⟨D,Y⟩;rcases hb with hb|⟨K,H⟩
  ·simp_all
  ·rcases Y with Y|Y
   ·simp_all
   ·omega
def QG(a b:ByteArray):=a.toList==b.toList
theorem sr(a b:ByteArray):QG a b=true↔a=b:=by
 unfold QG;rw[abL,abL,beq_iff_eq];constructor
 ·intro h;exact ByteArray.ext (Array.ext' h)
 ·simp_all
def sQ(r s:ByteArray)
 |0=>0
 |k+1=>sQ r s k+(if QG (s.extract k (k+r.size)) r=true then 1 else 0)
def oF(r s:ByteArray):=sQ r s (s.size+1-r.size)
def QH(p s:ByteArray)(q i:Nat):=
 if 0<oF (p.extract i (i+q)) (p.extract 0 (i+q-1))\/0<oF ⟨#[78]⟩ (p.extract i (i+q))then 0 else min (oF (p.extract i (i+q)) p) (oF (p.extract i (i+q)) s)
def E9(p s:ByteArray)(q:Nat)
 |0=>0
 |k+1=>E9 p s q k+QH p s q k
def vv(p s:ByteArray)(q:Nat):=E9 p s q (p.size+1-q)
def dg(d:Nat):=abT (48+d)
def q5
 |0,n=>[dg n]
 |f+1,n=>if n<=9 then [dg n]else q5 f (n/10)++[dg (n%10)]
def br(n:Nat):=q5 n n
theorem nR:∀f n,n<=f->q5 f n=q5 n n
 |0,n,h=>by simp_all
 |f+1,n,h=>by
  cases n with
  |zero=>simp[q5]
  |succ n=>
   simp[q5];split
   ·rfl
   ·rw[nR f _ (by omega),nR n _ (by omega)]
theorem iz(n:Nat)(h:n<=9):br n=[dg n]:=by
 unfold br;cases n with
 |zero=>rfl
 |succ n=>simp only[q5];simp_all
theorem oG(n:Nat)(h:¬n<=9):br n=br (n/10)++[dg (n%10)]:=by
 unfold br;cases n with
 |zero=>omega
 |succ n=>simp only[q5];rw[if_neg h,nR n _ (by omega)]
def jW(k many q step:Int):=decide (0<=k/\k<=6/\k<many/\1<=q/\q<=8/\1<=step/\step<=200)
theorem yv(w:World)(b:Nat)(s:ByteArray)(p:Nat)(c:Int)(least most:Int)(h:RD w b s p c)(j:s.size<=1000)(G:p<=s.size)(hm:0<=most)(X:most<=1000)(E:0<=least)(T:least<=1000):
  Calls Tryz.prog 70 #[.pointer (some ⟨b,0,none⟩),.func (.func 95) #[] #[],.int .i64 least,.int .i64 most] w fun e w'=>
   jx w b s p c (aN qZ (rest s p) most.toNat) least e w':=by
 have Q:=h.c1
 go_enter abU,abP
 go_wp2
 clear Q
 go_loopw [] (fun wr=>∃q:Nat,yr w b s p c qZ most.toNat q wr) (fun wr=>s.size-dx wr b)
 case atStart=>exact⟨p,aac _,by omega,h,jT _ _⟩
 case round=>
  obtain⟨q,C,W,Y,U⟩:=hrel;have B:=dJ qZ (rest s p) most.toNat;rw[cA]at B;have c0:=Y.c0;have c1:=Y.c1;have f1:=Y.fz 1;have Z:aaq.wrap ((q:Int)-(p:Int))=(q:Int)-(p:Int):=aan _ (by omega);by_cases V:(q:Int)-(p:Int)<most
  ·have F:decide ((q:Int)-(p:Int)<most)=true:=by simp;omega
   by_cases I:q<s.size
   ·have M:((q:Int)==(s.size:Int))=false:=by simp;omega
    have S:(q:Int)<(s.size:Int):=by omega
    by_cases D:qZ s[q]=true
    ·go_wp2_with fail
     go_quiet((first|(go_at_call 65;exact aak (bI _ _ _ _ _ (Y.drewN _)))|(go_at_call 95;exact aag (i_ _ _))))
     have L:=iX qZ (rest s p) most.toNat (q-p) (by rw[cA];omega) (by omega) (by omega) (by rw[jw s p q C I];exact D);go_wp2
     have A:=(Y.drewN nq).put ((q:Int)+1);have J:=ah U (ah (aJ wr nq (some b)) (bJ (wr.drewN nq) b 1 (.int .i64 ((q:Int)+1))))
     go_roundw
     case rel=>go_light;exact⟨q+1,by omega,by omega,A,J⟩
     case measure=>go_light;have O:=Y.dx;have P:=A.dx;rw[O,P];omega
    ·rw[aad]at D;have H:Hid (q=p+aN qZ (rest s p) most.toNat):=by
      have:=iY qZ (rest s p) most.toNat (q-p) (by rw[cA];omega) (by omega) (by rw[jw s p q C I];exact D);exact laid (by omega)
     go_wp2_with fail
     go_quiet((first|(go_at_call 65;exact aak (bI _ _ _ _ _ (Y.drewN _)))|(go_at_call 95;exact aag (i_ _ _))))
     have K:=Y.drewN nq;have R:=ah U (aJ wr nq (some b));by_cases hle:(q:Int)-(p:Int)<least
     ·go_wp2_with(go_at_call 69;refine(cf _ _ _ _ _ K).mono ?_;rintro e w' ⟨rfl,N,rfl⟩)
      exact⟨rfl,cn (least:=least) H.out (by omega) (by omega) Y U _⟩
     ·go_wp2
      go_quiet(fail)
      go_wp2
      go_ret
      exact cK (least:=least) H.out (by omega) (by omega) K R _
   ·have M:((q:Int)==(s.size:Int))=true:=by simp;omega
    have H:Hid (q=p+aN qZ (rest s p) most.toNat):=laid (by omega);go_wp2_with fail
    go_quiet((first|(go_at_call 65;exact aak (bI _ _ _ _ _ (Y.drewN _)))|(go_at_call 95;exact aag (i_ _ _))))
    have K:=Y.drewN nq;have R:=ah U (aJ wr nq (some b));by_cases hle:(q:Int)-(p:Int)<least
    ·go_wp2_with(go_at_call 69;refine(cf _ _ _ _ _ K).mono ?_;rintro e w' ⟨rfl,N,rfl⟩)
     exact⟨rfl,cn (least:=least) H.out (by omega) (by omega) Y U _⟩
    ·go_wp2
     go_quiet(fail)
     go_wp2
     go_ret
     exact cK (least:=least) H.out (by omega) (by omega) K R _
  ·have F:decide ((q:Int)-(p:Int)<most)=false:=by simp;omega
   have H:Hid (q=p+aN qZ (rest s p) most.toNat):=laid (by omega);go_wp2_with fail
   go_quiet((first|(go_at_call 65;exact aak (bI _ _ _ _ _ (Y.drewN _)))|(go_at_call 95;exact aag (i_ _ _))))
   have K:=Y.drewN nq;have R:=ah U (aJ wr nq (some b));by_cases hle:(q:Int)-(p:Int)<least
   ·go_wp2_with(go_at_call 69;refine(cf _ _ _ _ _ K).mono ?_;rintro e w' ⟨rfl,N,rfl⟩)
    exact⟨rfl,cn (least:=least) H.out (by omega) (by omega) Y U _⟩
   ·go_wp2
    go_quiet(fail)
    go_wp2
    go_ret
    exact cK (least:=least) H.out (by omega) (by omega) K R _
theorem yw(w:World)(b:Nat)(s:ByteArray)(p:Nat)(c:Int)(least most:Int)(h:RD w b s p c)(j:s.size<=1000)(G:p<=s.size)(hm:0<=most)(X:most<=1000)(E:0<=least)(T:least<=1000):
  Calls Tryz.prog 70 #[.pointer (some ⟨b,0,none⟩),.func (.func 120) #[] #[],.int .i64 least,.int .i64 most] w fun e w'=>
   jx w b s p c (aN pV (rest s p) most.toNat) least e w':=by
 have Q:=h.c1
 go_enter abU,abP
 go_wp2
 clear Q
 go_loopw [] (fun wr=>∃q:Nat,yr w b s p c pV most.toNat q wr) (fun wr=>s.size-dx wr b)
 case atStart=>exact⟨p,aac _,by omega,h,jT _ _⟩
 case round=>
  obtain⟨q,C,W,Y,U⟩:=hrel;have B:=dJ pV (rest s p) most.toNat;rw[cA]at B;have c0:=Y.c0;have c1:=Y.c1;have f1:=Y.fz 1;have Z:aaq.wrap ((q:Int)-(p:Int))=(q:Int)-(p:Int):=aan _ (by omega);by_cases V:(q:Int)-(p:Int)<most
  ·have F:decide ((q:Int)-(p:Int)<most)=true:=by simp;omega
   by_cases I:q<s.size
   ·have M:((q:Int)==(s.size:Int))=false:=by simp;omega
    have S:(q:Int)<(s.size:Int):=by omega
    by_cases D:pV s[q]=true
    ·go_wp2_with fail
     go_quiet((first|(go_at_call 65;exact aak (bI _ _ _ _ _ (Y.drewN _)))|(go_at_call 120;exact aag (ja _ _))))
     have L:=iX pV (rest s p) most.toNat (q-p) (by rw[cA];omega) (by omega) (by omega) (by rw[jw s p q C I];exact D);go_wp2
     have A:=(Y.drewN nq).put ((q:Int)+1);have J:=ah U (ah (aJ wr nq (some b)) (bJ (wr.drewN nq) b 1 (.int .i64 ((q:Int)+1))))
     go_roundw
     case rel=>go_light;exact⟨q+1,by omega,by omega,A,J⟩
     case measure=>go_light;have O:=Y.dx;have P:=A.dx;rw[O,P];omega
    ·rw[aad]at D;have H:Hid (q=p+aN pV (rest s p) most.toNat):=by
      have:=iY pV (rest s p) most.toNat (q-p) (by rw[cA];omega) (by omega) (by rw[jw s p q C I];exact D);exact laid (by omega)
     go_wp2_with fail
     go_quiet((first|(go_at_call 65;exact aak (bI _ _ _ _ _ (Y.drewN _)))|(go_at_call 120;exact aag (ja _ _))))
     have K:=Y.drewN nq;have R:=ah U (aJ wr nq (some b));by_cases hle:(q:Int)-(p:Int)<least
     ·go_wp2_with(go_at_call 69;refine(cf _ _ _ _ _ K).mono ?_;rintro e w' ⟨rfl,N,rfl⟩)
      exact⟨rfl,cn (least:=least) H.out (by omega) (by omega) Y U _⟩
     ·go_wp2
      go_quiet(fail)
      go_wp2
      go_ret
      exact cK (least:=least) H.out (by omega) (by omega) K R _
   ·have M:((q:Int)==(s.size:Int))=true:=by simp;omega
    have H:Hid (q=p+aN pV (rest s p) most.toNat):=laid (by omega);go_wp2_with fail
    go_quiet((first|(go_at_call 65;exact aak (bI _ _ _ _ _ (Y.drewN _)))|(go_at_call 120;exact aag (ja _ _))))
    have K:=Y.drewN nq;have R:=ah U (aJ wr nq (some b));by_cases hle:(q:Int)-(p:Int)<least
    ·go_wp2_with(go_at_call 69;refine(cf _ _ _ _ _ K).mono ?_;rintro e w' ⟨rfl,N,rfl⟩)
     exact⟨rfl,cn (least:=least) H.out (by omega) (by omega) Y U _⟩
    ·go_wp2
     go_quiet(fail)
     go_wp2
     go_ret
     exact cK (least:=least) H.out (by omega) (by omega) K R _
  ·have F:decide ((q:Int)-(p:Int)<most)=false:=by simp;omega
   have H:Hid (q=p+aN pV (rest s p) most.toNat):=laid (by omega);go_wp2_with fail
   go_quiet((first|(go_at_call 65;exact aak (bI _ _ _ _ _ (Y.drewN _)))|(go_at_call 120;exact aag (ja _ _))))
   have K:=Y.drewN nq;have R:=ah U (aJ wr nq (some b));by_cases hle:(q:Int)-(p:Int)<least
   ·go_wp2_with(go_at_call 69;refine(cf _ _ _ _ _ K).mono ?_;rintro e w' ⟨rfl,N,rfl⟩)
    exact⟨rfl,cn (least:=least) H.out (by omega) (by omega) Y U _⟩
   ·go_wp2
    go_quiet(fail)
    go_wp2
    go_ret
    exact cK (least:=least) H.out (by omega) (by omega) K R _
def cZ(w:World)(b:Nat)(s:ByteArray)(c:Int)(st:Nat×Bool)(v:Value)(e:Ending)(w':World):Prop:=
 (st.2=false->e=.returned v)/\(st.2=true->e=.panicked (kO c (st.1:Int)))/\RD w' b s (st.1:Int) c/\w.grownBy w' (some b)
theorem p0(w:World)(b:Nat)(s:ByteArray)(p:Nat)(c:Int)(h:RD w b s p c)(Y:s.size=p):
  Calls Tryz.prog 65 #[.pointer (some ⟨b,0,none⟩)] w fun e w'=>e=.returned (.bool true)/\∃m,w'=w.drewN m:=by
 have:=bI w b s p c h;simp_all
theorem oH(w:World)(b:Nat)(s:ByteArray)(p:Nat)(c:Int)(h:RD w b s p c)(Y:p<s.size):
  Calls Tryz.prog 65 #[.pointer (some ⟨b,0,none⟩)] w fun e w'=>e=.returned (.bool false)/\∃m,w'=w.drewN m:=by
 have:=bI w b s p c h
 rwa [show(p==(s.size:Int))=false by simp;omega]at this
theorem CG(w:World)(b:Nat)(s:ByteArray)(p:Nat)(c:Int)(x:UInt8)(h:RD w b s p c)(B:s.size<=1000)(U:p<=s.size):
  Calls Tryz.prog 94 #[.pointer (some ⟨b,0,none⟩),.int .u8 (x.toNat:Int)] w fun e w'=>cZ w b s c (aI s x p) (.tuple #[]) e w':=by
 have c0:=h.c0;have c1:=h.c1;have f1:=h.fz 1;by_cases Y:p<s.size
 ·have R:(p:Int)<(s.size:Int):=by omega
  by_cases H:s[p]=x
  ·have hd:((s[p].toNat:Int) != (x.toNat:Int))=false:=by rw[H];simp
   have au:aI s x p=(p+1,false):=by unfold aI;rw[dif_pos Y,if_pos H]
   rw[au];clear au H
   go_enter abV,abQ
   go_wp2_with fail
   go_quiet((go_at_call 65;exact aak (oH _ _ _ _ _ (h.drewN _) Y)))
   go_wp2
   go_end0
   have D:=(h.drewN nq).put ((p:Int)+1);exact⟨fun _=>rfl,fun K=>aaJ K,D,ah (aJ w nq (some b)) (bJ _ b 1 _)⟩
  ·have hd:((s[p].toNat:Int) != (x.toNat:Int))=true:=by
    rw[bne_iff_ne];intro K;exact H (UInt8.toNat.inj (by omega))
   have au:aI s x p=(p,true):=by unfold aI;rw[dif_pos Y,if_neg H]
   rw[au];clear au H
   go_enter abV,abQ
   go_wp2_with fail
   go_quiet((go_at_call 65;exact aak (oH _ _ _ _ _ (h.drewN _) Y)))
   go_wp2_with(go_at_call 69;refine(cf _ _ _ _ _ (h.drewN _)).mono ?_;rintro e w' ⟨rfl,I,rfl⟩)
   exact⟨rfl,fun K=>aaJ K,fun _=>rfl,h.drewN _,aJ w _ (some b)⟩
 ·have au:aI s x p=(p,true):=by unfold aI;rw[dif_neg Y]
  rw[au];clear au
  go_enter abV,abQ
  go_wp2_with fail
  go_quiet((go_at_call 65;exact aak (p0 _ _ _ _ _ (h.drewN _) (by omega))))
  go_wp2_with(go_at_call 69;refine(cf _ _ _ _ _ (h.drewN _)).mono ?_;rintro e w' ⟨rfl,I,rfl⟩)
  exact⟨rfl,fun K=>aaJ K,fun _=>rfl,h.drewN _,aJ w _ (some b)⟩
theorem iq(w:World)(b:Nat)(s:ByteArray)(p:Nat)(c:Int)(n:Int)(x:UInt8)(Y:n=x.toNat)(h:RD w b s p c)(H:s.size<=1000)(K:p<=s.size):
  Calls Tryz.prog 94 #[.pointer (some ⟨b,0,none⟩),.int .u8 n] w fun e w'=>cZ w b s c (aI s x p) (.tuple #[]) e w':=by
 subst Y;exact CG w b s p c x h H K
theorem jj{p:Nat}{c:Int}{f:UInt8->Bool}{least most:Nat}{e:Ending}
  (h:jx w b s p c (aN f (rest s p) most) least e w'):cZ w b s c (dW s f least most p) (.string (s.extract p (p+aN f (rest s p) most))) e w':=by
 obtain⟨Y,D,R,K⟩:=h;unfold dW;refine⟨fun H=>Y ?_,fun H=>?_,?_,K⟩
 ·simp_all
 ·simp_all
 ·simp_all
theorem vw(w:World)(b:Nat)(s:ByteArray)(p:Nat)(c:Int)(l m:Int)(least most:Nat)(Y:l=least)(hm:m=most)(K:least<=1000)(H:most<=1000)
  (h:RD w b s p c)(R:s.size<=1000)(D:p<=s.size):
  Calls Tryz.prog 70 #[.pointer (some ⟨b,0,none⟩),.func (.func 71) #[] #[],.int .i64 l,.int .i64 m] w fun e w'=>
   cZ w b s c (dW s rY least most p) (.string (s.extract p (p+aN rY (rest s p) most))) e w':=by
 subst Y hm;refine(yt w b s p c _ _ h R D (by omega) (by omega) (by omega) (by omega)).mono ?_;intro e w' I;exact jj I
theorem vx(w:World)(b:Nat)(s:ByteArray)(p:Nat)(c:Int)(l m:Int)(least most:Nat)(Y:l=least)(hm:m=most)(K:least<=1000)(H:most<=1000)
  (h:RD w b s p c)(R:s.size<=1000)(D:p<=s.size):
  Calls Tryz.prog 70 #[.pointer (some ⟨b,0,none⟩),.func (.func 95) #[] #[],.int .i64 l,.int .i64 m] w fun e w'=>
   cZ w b s c (dW s qZ least most p) (.string (s.extract p (p+aN qZ (rest s p) most))) e w':=by
 subst Y hm;refine(yv w b s p c _ _ h R D (by omega) (by omega) (by omega) (by omega)).mono ?_;intro e w' I;exact jj I
theorem vy(w:World)(b:Nat)(s:ByteArray)(p:Nat)(c:Int)(l m:Int)(least most:Nat)(Y:l=least)(hm:m=most)(K:least<=1000)(H:most<=1000)
  (h:RD w b s p c)(R:s.size<=1000)(D:p<=s.size):
  Calls Tryz.prog 70 #[.pointer (some ⟨b,0,none⟩),.func (.func 120) #[] #[],.int .i64 l,.int .i64 m] w fun e w'=>
   cZ w b s c (dW s pV least most p) (.string (s.extract p (p+aN pV (rest s p) most))) e w':=by
 subst Y hm;refine(yw w b s p c _ _ h R D (by omega) (by omega) (by omega) (by omega)).mono ?_;intro e w' I;exact jj I
theorem bF{w1:World}{c:Int}{st:Nat×Bool}{v:Value}(au:st.2=true)(hr:RD w1 b s (st.1) c)(Y:w.grownBy w1 (some b)):
  cZ w b s c st v (.panicked (kO c (st.1))) w1:=
 ⟨fun h=>by simp_all,fun _=>rfl,hr,Y⟩
theorem jk{w1:World}{c:Int}{st:Nat×Bool}{v:Value}(au:st.2=false)(hr:RD w1 b s (st.1) c)(Y:w.grownBy w1 (some b)):
  cZ w b s c st v (.returned v) w1:=
 ⟨fun _=>rfl,fun h=>by simp_all,hr,Y⟩
def c7(s:ByteArray)(x:UInt8)(p:Nat):=bY (aI s x p) (kQ s)
theorem ek{st R:Nat×Bool}{f:Nat->Nat×Bool}(h:bY st f=R)(au:st.2=true):st=R:=by rw[<-h,iw au]
theorem hD{st R:Nat×Bool}{f:Nat->Nat×Bool}(h:bY st f=R)(au:st.2=false):f st.1=R:=by rw[<-h,aX au]
theorem bj{w1:World}{c:Int}{st R:Nat×Bool}{v:Value}{e:Ending}(Y:st=R)(h:cZ w b s c st v e w1):cZ w b s c R v e w1:=by simp_all
def MQ(s:ByteArray)(p:Nat):=s.extract p (p+aN qZ (rest s p) 10)
theorem oI(w:World)(b:Nat)(s:ByteArray)(p:Nat)(c:Int)(n:Int)(x:UInt8)(Z:n=(x.toNat:Int))(h:RD w b s p c)(S:s.size<=1000)(E:p<=s.size):
  Calls Tryz.prog 62 #[.pointer (some ⟨b,0,none⟩),.int .u8 n] w fun e w'=>cZ w b s c (c7 s x p) (.string (MQ s (aI s x p).1)) e w':=by
 have W:=laid Z;clear Z;generalize V:c7 s x p=R;have N:=laid V;clear V;generalize hX:MQ s (aI s x p).1=X;have T:=laid (show s.extract (aI s x p).1 _=X from hX);clear hX
 go_enter Tryz.func62,Tryz.ntmps62
 go_wp2_with fail
 refine(iq _ _ s p c n x W.out h S E).mono ?_;rintro e w1 ⟨H,D,F,B⟩;have C:=dG s x p E;by_cases au:(aI s x p).2=true
 ·obtain rfl:=D au;exact⟨rfl,bj (ek N.out au) (bF au F B)⟩
 ·rw[aad]at au;obtain rfl:=H au;clear H D;have I:=laid (hD N.out au);generalize(aI s x p).1=M at *;clear au N;go_wp2_with fail
  refine(vx _ _ s M c _ _ 1 10 rfl rfl (by omega) (by omega) F S C.2).mono ?_;rintro e w2 ⟨H,D,J,O⟩;have Y:=ah B O;have Q:=iy s qZ 1 10 M C.2;by_cases au:(dW s qZ 1 10 M).2=true
  ·obtain rfl:=D au;exact⟨rfl,bj (ek I.out au) (bF au J Y)⟩
  ·rw[aad]at au;have U:=H au;rw[T.out]at U;obtain rfl:=U;clear H D;have A:=laid (hD I.out au);clear T;generalize(dW s qZ 1 10 M).1=p2 at *;go_wp2_with fail
   refine(iq _ _ s p2 c _ 10 rfl J S Q.2).mono ?_;rintro e w3 ⟨H,D,L,P⟩;have K:=ah Y P;by_cases au:(aI s 10 p2).2=true
   ·obtain rfl:=D au;exact⟨rfl,bj A.out (bF au L K)⟩
   ·rw[aad]at au;obtain rfl:=H au;have G:=laid (bj (v:=.string X) A.out (jk au L K));clear au;go_wp2
    go_ret
    exact G.out
theorem z_(s:ByteArray)(f:UInt8->Bool)(m p:Nat)(Y:p<=s.size):(s.extract p (p+aN f (rest s p) m)).size=aN f (rest s p) m:=by
 have:=(dJ f (rest s p) m).2;rw[cA]at this;rw[abn];omega
def gZ(s:ByteArray)(m p:Nat):=s.extract p (p+cv s m p)
theorem nS(s:ByteArray)(m p:Nat)(Y:p<=s.size):(gZ s m p).size=cv s m p:=z_ s rY m p Y
theorem jX(w:World)(b:Nat)(s:ByteArray)(p:Nat)(c:Int)(n:Int)(m:Nat)(M:n=m)(hm:m<=1000)(h:RD w b s p c)(O:s.size<=1000)(N:p<=s.size):
  Calls Tryz.prog 64 #[.pointer (some ⟨b,0,none⟩),.int .i64 n] w fun e w'=>cZ w b s c (bD s m p) (.string (gZ s m p)) e w':=by
 have S:=laid M;clear M;generalize L:bD s m p=R;have J:=laid L;clear L;generalize hX:gZ s m p=X;have T:=laid (show s.extract p (p+aN rY (rest s p) m)=X from hX);clear hX
 go_enter Tryz.func64,Tryz.ntmps64
 go_wp2_with fail
 refine(vw _ _ s p c _ n 1 m rfl S.out (by omega) hm h O N).mono ?_;rintro e w1 ⟨U,B,I,D⟩;have F:=iy s rY 1 m p N;by_cases au:(dW s rY 1 m p).2=true
 ·obtain rfl:=B au;exact⟨rfl,bj (ek J.out au) (bF au I D)⟩
 ·rw[aad]at au;have H:=U au;rw[T.out]at H;obtain rfl:=H;have K:=laid (hD J.out au);generalize(dW s rY 1 m p).1=P at *;go_wp2_with fail
  refine(iq _ _ s P c _ 10 rfl I O F.2).mono ?_;rintro e w3 ⟨U,B,A,C⟩;have Y:=ah D C;by_cases au:(aI s 10 P).2=true
  ·obtain rfl:=B au;exact⟨rfl,bj K.out (bF au A Y)⟩
  ·rw[aad]at au;obtain rfl:=U au;have Q:=laid (bj (v:=.string X) K.out (jk au A Y));go_wp2
   go_ret
   exact Q.out
theorem oJ(w:World)(b:Nat)(s:ByteArray)(p c:Int)(h:RD w b s p c)(D:p=s.size):
  Calls Tryz.prog 72 #[.pointer (some ⟨b,0,none⟩)] w fun e w'=>e=.returned (.tuple #[])/\∃m,w'=w.drewN m:=by
 have K:=bI w b s p c h;have Y:=laid K
 go_enter Tryz.func72,Tryz.ntmps72
 go_wp2_with(refine(Y.out).mono ?_;rintro e w' ⟨rfl,H,rfl⟩)
 go_end0
 exact⟨rfl,H,rfl⟩
theorem vz(w:World)(b:Nat)(s:ByteArray)(p c:Int)(h:RD w b s p c)(H:p≠(s.size:Int)):
  Calls Tryz.prog 72 #[.pointer (some ⟨b,0,none⟩)] w fun e w'=>e=.panicked (kO c p)/\∃m,w'=w.drewN m:=by
 have hb:(p==s.size)=false:=by simp[H]
 have K:=bI w b s p c h;have Y:=laid K
 go_enter Tryz.func72,Tryz.ntmps72
 go_wp2_with(first|(refine(Y.out).mono ?_;rintro e w' ⟨rfl,D,rfl⟩)|(refine(cf _ _ _ _ _ (h.drewN _)).mono ?_;rintro e w' ⟨rfl,D,rfl⟩))
 exact⟨rfl,rfl,_,rfl⟩
theorem Aa(w:World)(s:ByteArray)(p c:Int):RD (w.alloc (.cells #[.string s,.int .i64 p,.int .i64 c] 98)) w.heap.size s p c:=heap_alloc_new w _
theorem PI{W w1:World}(hb:Below W.heap.size W w1):(∀b o,b<W.heap.size->w1.cell? ⟨b,o,none⟩=W.cell? ⟨b,o,none⟩)/\(∀b o,b<W.heap.size->w1.frozen? ⟨b,o,none⟩=W.frozen? ⟨b,o,none⟩):=
 ⟨fun b o h=>hb.cell h,fun b o h=>hb.frozen h⟩
theorem cy(h:Below w.heap.size w w')(r:Option Nat):w.grownBy w' r:=
 ⟨h.os,h.tape,h.output,h.size,fun k hk _=>h.block k hk⟩
theorem yx(c p:Int)(w:World):(Instr.typeAssert (.iface 70 (.agg #[.int .i64 c,.int .i64 p])) 20 70 true).run Tryz.prog w=.ok (.tuple #[.agg #[.int .i64 c,.int .i64 p],.bool true]) w:=by kernel_rfl
theorem CH(m:Nat)(a0 a1 c p:Int)(Y:List PanicEntry)(w:World)(D:w.cell? ⟨m,0,none⟩=some (.int .i64 a0))(F:w.cell? ⟨m,1,none⟩=some (.int .i64 a1))(U:w.frozen? ⟨m,0,none⟩=false)(B:w.frozen? ⟨m,1,none⟩=false):
  CallsD Tryz.prog 61 #[.pointer (some ⟨m,0,none⟩)] (.panicking ({v:=.iface 70 (.agg #[.int .i64 c,.int .i64 p]),recovered:=false}::Y)) w fun e C w'=>
   e=.returned (.tuple #[])/\C=.panicking ({v:=.iface 70 (.agg #[.int .i64 c,.int .i64 p]),recovered:=true}::Y)/\w'=((w.setCell ⟨m,0,none⟩ (.int .i64 c)).setCell ⟨m,1,none⟩ (.int .i64 p)).alloc (.cells #[.int .i64 c,.int .i64 p] 70):=by
 refine callsD_of_wpS Tryz.func61 rfl fun K cs hu=>?_;apply wpS_seq;apply wpS_region;simp[wpOpsS,go_sem,recoverD,hu,Tryz.ntmps61,Exit.thenS];refine wpS_of_wp ?_;generalize R:Value.iface 70 (.agg #[.int .i64 c,.int .i64 p])=V;have H:(#[Value.pointer (some ⟨m,0,none⟩)]++((ab2 15 undef).setIfInBounds 3 V).setIfInBounds 0 V)=#[.pointer (some ⟨m,0,none⟩),V,undef,undef,V,undef,undef,undef,undef,undef,undef,undef,undef,undef,undef,undef]:=rfl;rw[H];clear H;subst R;have A:=laid hu;clear hu;have I:=yx c p;have hm:m<w.heap.size:=by have:=block_lt_of_cell D;simpa using this
 go_wp2
 simp[bodyPostS,results,Tryz.results61]
theorem CJ(m:Nat)(w:World):
  CallsD Tryz.prog 61 #[.pointer (some ⟨m,0,none⟩)] .returning w fun e D w'=>
   e=.returned (.tuple #[])/\D=.returning/\w'=w:=by
 refine callsD_of_wpS Tryz.func61 rfl fun Y cs hu=>?_;apply wpS_seq;apply wpS_region;simp[wpOpsS,go_sem,recoverD,hu,Tryz.ntmps61,Exit.thenS];refine wpS_of_wp ?_;have K:(#[Value.pointer _]++((ab2 15 undef).setIfInBounds 3 Value.nilIface).setIfInBounds 0 Value.nilIface)=#[.pointer (some ⟨m,0,none⟩),.nilIface,undef,undef,.nilIface,undef,undef,undef,undef,undef,undef,undef,undef,undef,undef,undef]:=rfl;rw[K];clear K;have H:=laid hu;clear hu;go_wp2
 have hu:=H.out;cases Y;simp_all[bodyPostS,results,Tryz.results61]
theorem jY{w1:World}(a b:Value)(n0:w1.cell? ⟨n,0,none⟩=some u0)(n1:w1.cell? ⟨n,1,none⟩=some u1):
  ((w1.setCell ⟨n,0,none⟩ a).setCell ⟨n,1,none⟩ b).cell? ⟨n,0,none⟩=some a/\((w1.setCell ⟨n,0,none⟩ a).setCell ⟨n,1,none⟩ b).cell? ⟨n,1,none⟩=some b/\
   w1.grownBy ((w1.setCell ⟨n,0,none⟩ a).setCell ⟨n,1,none⟩ b) (some n):=by
 have Y:=aaC w1 _ a n0;have K:(w1.setCell ⟨n,0,none⟩ a).cell? ⟨n,1,none⟩=some u1:=by
  rw[aaf (h:=by simp)];exact n1
 refine⟨?_,aaC _ _ b K,ah (bJ w1 n 0 a) (bJ _ n 1 b)⟩;rw[aaf (h:=by simp)];exact Y
theorem GM{w1 w2:World}(Y:(w.alloc o).grownBy w1 (some y))(K:w1.grownBy w2 (some w.heap.size)):w.grownBy w2 (some y):=by
 refine⟨K.os.trans Y.os,K.tape.trans Y.tape,K.output.trans Y.output,?_,fun k hk H=>?_⟩
 ·have:=Y.size;have:=K.size;simp at *;omega
 ·have D:=Y.size;simp at D;rw[K.block k (by omega) (by simp;omega),Y.block k (by simp;omega) H,abW w o k hk]
theorem Tq{r:Option Nat}(K:w.grownBy w' r)(hb:b<w.heap.size)(Y:some b≠r):w'.cell? ⟨b,j,none⟩=w.cell? ⟨b,j,none⟩:=
 World.cell?_of_block (K.block b hb Y)
theorem nT(st:Nat×Bool)(f g:Nat->Nat×Bool):bY (bY st f) g=bY st fun q=>bY (f q) g:=by
 unfold bY;by_cases h:st.2=true
 ·simp_all
 ·simp_all
theorem iA(s:ByteArray)(x:UInt8)(p:Nat)(h:p<=s.size):p<=(c7 s x p).1/\(c7 s x p).1<=s.size:=ej (dG s x p h) fun q Y=>z8 s q Y
theorem sU(s:ByteArray)(p:Nat):eB s p=bY (c7 s 64 p) fun p=>bY (bD s 30 p) fun p'=>bY (aI s 43 p') fun p'=>bY (aI s 10 p') fun p'=>bY (dW s pV (cv s 30 p) (cv s 30 p) p') (aI s 10):=by
 unfold eB c7;rw[nT]
theorem I8(s:ByteArray)(p:Nat)(h:p<=s.size):p<=(eB s p).1/\(eB s p).1<=s.size:=by
 rw[sU];refine ej (iA s 64 p h) fun q R=>ej (gE s 30 q R) fun I Y=>ej (dG s 43 I Y) fun A K=>ej (dG s 10 A K) fun U H=>ej (iy s _ _ _ U H) fun B D=>dG s 10 B D
def QI(s:ByteArray)(p:Nat):=MQ s (aI s 64 p).1
def QJ(s:ByteArray)(p:Nat):=str ((gZ s 30 (c7 s 64 p).1).data.toList.map gb)
def Xa(s:ByteArray)(p:Nat):=(aI s 10 (aI s 43 (bD s 30 (c7 s 64 p).1).1).1).1
def QK(s:ByteArray)(p:Nat):=s.extract (Xa s p) (Xa s p+aN pV (rest s (Xa s p)) (cv s 30 (c7 s 64 p).1))
def CK(s:ByteArray)(p:Nat):Value:=.agg #[.string (QI s p),.string (QJ s p),.string (QK s p)]
theorem RD.lt{p c:Int}(h:RD w b s p c):b<w.heap.size:=by
 rcases aaK b _ with h'|h'
 ·omega
 ·unfold RD at h;simp_all
theorem RD.alloc{p c:Int}(h:RD w b s p c)(o:Obj):RD (w.alloc o) b s p c:=by
 have:=h.lt;unfold RD at *;rw[heap_alloc_old w o this];exact h
theorem RD.below{p c:Int}(h:RD w b s p c)(hb:Below B w w')(Y:b<B):RD w' b s p c:=by
 unfold RD at *;rw[hb.block b Y];exact h
theorem RD.kept{r:Nat}{p c:Int}(h:RD w b s p c)(Y:w.grownBy w' (some r))(K:b≠r):RD w' b s p c:=by
 have:=h.lt;unfold RD at *;rw[Y.block b this (by simp_all)];exact h
theorem I9{w1:World}{u2:Value}(a b c:Value)(n0:w1.cell? ⟨n,0,none⟩=some u0)(n1:w1.cell? ⟨n,1,none⟩=some u1)(n2:w1.cell? ⟨n,2,none⟩=some u2):
  (((w1.setCell ⟨n,0,none⟩ a).setCell ⟨n,1,none⟩ b).setCell ⟨n,2,none⟩ c).cell? ⟨n,0,none⟩=some a/\(((w1.setCell ⟨n,0,none⟩ a).setCell ⟨n,1,none⟩ b).setCell ⟨n,2,none⟩ c).cell? ⟨n,1,none⟩=some b/\
   (((w1.setCell ⟨n,0,none⟩ a).setCell ⟨n,1,none⟩ b).setCell ⟨n,2,none⟩ c).cell? ⟨n,2,none⟩=some c/\
   w1.grownBy (((w1.setCell ⟨n,0,none⟩ a).setCell ⟨n,1,none⟩ b).setCell ⟨n,2,none⟩ c) (some n):=by
 obtain⟨m0,m1,K⟩:=jY a b n0 n1;have Y:((w1.setCell ⟨n,0,none⟩ a).setCell ⟨n,1,none⟩ b).cell? ⟨n,2,none⟩=some u2:=by
  rw[aaf (h:=by simp),aaf (h:=by simp)];exact n2
 refine⟨?_,?_,aaC _ _ c Y,ah K (bJ _ n 2 c)⟩
 ·rw[aaf (h:=by simp)];exact m0
 ·rw[aaf (h:=by simp)];exact m1
theorem ir{r:Option Nat}(h:(w.alloc o).grownBy w' r):w.grownBy w' r:=by
 refine⟨h.os,h.tape,h.output,?_,fun k hk Y=>?_⟩
 ·have:=h.size;simp at this;omega
 ·rw[h.block k (by simp;omega) Y,abW w o k hk]
theorem Ab(w:World)(b:Nat)(s:ByteArray)(p:Nat)(c:Int)(h:RD w b s p c)(S:s.size<=1000)(hp:p<=s.size):
  Calls Tryz.prog 109 #[.pointer (some ⟨b,0,none⟩)] w fun e w'=>cZ w b s c (eB s p) (CK s p) e w':=by
 generalize hR:eB s p=R;rw[sU]at hR;have HR:=laid hR;clear hR;have adu:=h.lt;unfold CK;generalize W:QI s p=i;generalize q:QJ s p=a;generalize j:QK s p=k;have V:=laid (show MQ s (aI s 64 p).1=i from W);have X:=laid (show str ((gZ s 30 (c7 s 64 p).1).data.toList.map gb)=a from q);have Z:=laid (show s.extract (aI s 10 (aI s 43 (bD s 30 (c7 s 64 p).1).1).1).1 ((aI s 10 (aI s 43 (bD s 30 (c7 s 64 p).1).1).1).1+aN pV (rest s (aI s 10 (aI s 43 (bD s 30 (c7 s 64 p).1).1).1).1) (cv s 30 (c7 s 64 p).1))=k from j);clear W q j
 go_enter Tryz.func109,Tryz.ntmps109
 go_wp2_with fail
 refine(oI _ _ s p c _ 64 rfl (h.alloc _) S hp).mono ?_;rw[V.out];clear V;rintro e w1 ⟨Y,K,r,z⟩;have P:=iA s 64 p hp;by_cases au:(c7 s 64 p).2=true
 ·obtain rfl:=K au;exact⟨rfl,bj (ek HR.out au) (bF au r (ir z))⟩
 ·rw[aad]at au;obtain rfl:=Y au;clear Y K;have J:=laid (hD HR.out au);generalize(c7 s 64 p).1=F at *;clear au HR;go_wp2_with fail
  refine(jX _ _ s F c _ 30 rfl (by omega) r S P.2).mono ?_;rintro e w2 ⟨Y,K,u,A⟩;replace A:=ah z A;have f:=gE s 30 F P.2;by_cases au:(bD s 30 F).2=true
  ·obtain rfl:=K au;exact⟨rfl,bj (ek J.out au) (bF au u (ir A))⟩
  ·rw[aad]at au;obtain rfl:=Y au;clear Y K;have L:=laid (hD J.out au);have hnl:=lz s 30 F;have HXS:=laid (nS s 30 F P.2);generalize gZ s 30 F=X30 at *;generalize cv s 30 F=nl at *;generalize(bD s 30 F).1=p2 at *;clear au J;have Xb:=HXS.out;go_wp2_with fail
   refine(iq _ _ s p2 c _ 43 rfl u S f.2).mono ?_;rintro e w3 ⟨Y,K,x,U⟩;replace U:=ah A U;have g:=dG s 43 p2 f.2;by_cases au:(aI s 43 p2).2=true
   ·obtain rfl:=K au;exact⟨rfl,bj (ek L.out au) (bF au x (ir U))⟩
   ·rw[aad]at au;obtain rfl:=Y au;clear Y K;have M:=laid (hD L.out au);generalize(aI s 43 p2).1=p3 at *;clear au L;go_wp2_with fail
    refine(iq _ _ s p3 c _ 10 rfl x S g.2).mono ?_;rintro e w4 ⟨Y,K,y,B⟩;replace B:=ah U B;have l:=dG s 10 p3 g.2;by_cases au:(aI s 10 p3).2=true
    ·obtain rfl:=K au;exact⟨rfl,bj (ek M.out au) (bF au y (ir B))⟩
    ·rw[aad]at au;obtain rfl:=Y au;clear Y K;have N:=laid (hD M.out au);generalize(aI s 10 p3).1=p4 at *;clear au M;go_wp2_with fail
     refine(vy _ _ s p4 c _ _ nl nl rfl rfl (by omega) (by omega) y S l.2).mono ?_;rintro e w5 ⟨Y,K,m,C⟩;replace C:=ah B C;have Xc:=iy s pV nl nl p4 l.2;by_cases au:(dW s pV nl nl p4).2=true
     ·obtain rfl:=K au;exact⟨rfl,bj (ek N.out au) (bF au m (ir C))⟩
     ·rw[aad]at au;have G:=Y au;rw[Z.out]at G;obtain rfl:=G;clear Y K Z;have E:=laid (hD N.out au);generalize(dW s pV nl nl p4).1=p5 at *;clear au N;go_wp2_with fail
      refine(iq _ _ s p5 c _ 10 rfl m S Xc.2).mono ?_;rintro e w6 ⟨Y,K,Q,D⟩;replace D:=ah C D;by_cases au:(aI s 10 p5).2=true
      ·obtain rfl:=K au;exact⟨rfl,bj E.out (bF au Q (ir D))⟩
      ·rw[aad]at au;obtain rfl:=Y au;clear Y K;have Xd:=Q.lt;have o:b≠w.heap.size:=by omega
       have hN:=D.block w.heap.size (by simp) (by simpa using fun h=>o h.symm);rw[heap_alloc_new]at hN;go_wp2_with fail
       refine(ju X30 _ (by omega)).mono ?_;rintro e T ⟨rfl,I⟩;rw[X.out];clear X;have Yq:w.heap.size<w6.heap.size:=by have:=D.size;simp at this;omega
       have H:=I.block w.heap.size Yq;rw[hN]at H;have n0:T.cell? ⟨w.heap.size,0,none⟩=some (.string ⟨#[]⟩):=by rw[cell_of_row _ _ _ _ _ _ H];rfl
       have n1:T.cell? ⟨w.heap.size,1,none⟩=some (.string ⟨#[]⟩):=by rw[cell_of_row _ _ _ _ _ _ H];rfl
       have n2:T.cell? ⟨w.heap.size,2,none⟩=some (.string ⟨#[]⟩):=by rw[cell_of_row _ _ _ _ _ _ H];rfl
       have z0:T.frozen? ⟨w.heap.size,0,none⟩=false:=frozen_of_row _ _ _ _ _ H;have z1:T.frozen? ⟨w.heap.size,1,none⟩=false:=frozen_of_row _ _ _ _ _ H;have z2:T.frozen? ⟨w.heap.size,2,none⟩=false:=frozen_of_row _ _ _ _ _ H;have d:=ah D (cy I (some b));have n:=Q.below I Xd;obtain⟨m0,m1,m2,O⟩:=I9 (.string i) (.string a) (.string k) n0 n1 n2;have t:=n.kept O o;have HF:=laid (bj (v:=.agg #[.string i,.string a,.string k]) E.out (jk au t (GM d O)));clear au hN H O t d I n;go_wp2
       refine bodyPost_ret (v:=.agg #[.string i,.string a,.string k]) ?_ rfl HF.out;simp[results,Tryz.results109,go_sem,m0,m1,m2]
def CL(s:ByteArray)(Y:Nat)(st:Nat×Bool):ByteArray:=if st.2=true then⟨#[]⟩else cut s st.1 (st.1+aN pV (rest s st.1) Y)
def PJ(s:ByteArray)(p:Nat):Nat×Bool:=aI s 64 p
def yy(s:ByteArray)(p:Nat):Nat×Bool:=bY (PJ s p) (kQ s)
def PK(s:ByteArray)(p:Nat):Nat×Bool:=bY (yy s p) (bD s 30)
def PM(s:ByteArray)(p:Nat):Nat×Bool:=bY (PK s p) (aI s 43)
def Mu(s:ByteArray)(p:Nat):Nat×Bool:=bY (PM s p) (aI s 10)
def zO(s:ByteArray)(p:Nat):ByteArray:=GL s 30 (yy s p)
def Yr(s:ByteArray)(p:Nat):Nat×Bool:=bY (Mu s p) (dW s pV (zO s p).size (zO s p).size)
def rs7(s:ByteArray)(p:Nat):Nat×Bool:=bY (Yr s p) (aI s 10)
def q6(s:ByteArray)(p:Nat):ByteArray×ByteArray×ByteArray:=(vt s (PJ s p),zO s p,CL s (zO s p).size (Mu s p))
theorem QL(s:ByteArray)(p:Nat)(K:p<=s.size):rs7 s p=eB s p:=by
 rw[sU];unfold rs7 Yr Mu PM PK;by_cases h:(yy s p).2=true
 ·have e:c7 s 64 p=yy s p:=rfl;rw[e,iw h,iw h];simp only[iw h]
 ·rw[aad]at h;have e:c7 s 64 p=yy s p:=rfl;have hb:zO s p=vu s 30 (yy s p).1:=by unfold zO GL;rw[if_neg (by simp[h])]
  have hle:=(iA s 64 p K).2;have Y:(zO s p).size=cv s 30 (yy s p).1:=by rw[hb];exact pZ s 30 _ hle
  rw[e,aX h,aX h,Y];simp only[nT]
def ai(s:ByteArray):Nat->Nat->List (ByteArray×ByteArray×ByteArray)
 |0,_=>[]
 |n+1,p=>if s.size<=p then []else q6 s p::(if(eB s p).2=true then []else ai s n (eB s p).1)
def dX(L:List (ByteArray×ByteArray×ByteArray)):List Value:=L.flatMap fun r=>[.string r.1,.string r.2.1,.string r.2.2]
theorem CM(L:List (ByteArray×ByteArray×ByteArray))(r:ByteArray×ByteArray×ByteArray):dX (L++[r])=dX L++[.string r.1,.string r.2.1,.string r.2.2]:=by
 unfold dX;simp
theorem lA(s:ByteArray)(p q:Nat):cut s p q=s.extract p q:=by
 apply ByteArray.ext;apply Array.ext';simp only[abo,abG];rfl
theorem QM(s:ByteArray)(h:(aI s 62 0).2=false):jU s=MQ s (aI s 62 0).1:=by
 unfold jU vt MQ;rw[if_neg (by simp[h]),lA]
theorem QN(s:ByteArray)(p:Nat)(U:p<=s.size)(h:(eB s p).2=false):(QI s p,QJ s p,QK s p)=q6 s p:=by
 rw[<-QL s p U]at h;obtain⟨L,_⟩:=cR (show(bY (Yr s p) (aI s 10)).2=false from h);obtain⟨I,_⟩:=cR (show(bY (Mu s p) (dW s pV (zO s p).size (zO s p).size)).2=false from L);obtain⟨R,_⟩:=cR (show(bY (PM s p) (aI s 10)).2=false from I);obtain⟨D,_⟩:=cR (show(bY (PK s p) (aI s 43)).2=false from R);obtain⟨Y,_⟩:=cR (show(bY (yy s p) (bD s 30)).2=false from D);obtain⟨J,_⟩:=cR (show(bY (PJ s p) (kQ s)).2=false from Y);have hle:(yy s p).1<=s.size:=(iA s 64 p U).2;have H:(c7 s 64 p).1=(yy s p).1:=rfl;have B:(bD s 30 (yy s p).1).1=(PK s p).1:=by unfold PK;rw[aX Y]
 have C:(aI s 43 (PK s p).1).1=(PM s p).1:=by unfold PM;rw[aX D]
 have F:(aI s 10 (PM s p).1).1=(Mu s p).1:=by unfold Mu;rw[aX R]
 have hb:zO s p=vu s 30 (yy s p).1:=by unfold zO GL;rw[if_neg (by simp[Y])]
 have K:(zO s p).size=cv s 30 (yy s p).1:=by rw[hb];exact pZ s 30 _ hle
 have b1:QI s p=vt s (PJ s p):=by
  unfold QI MQ vt;rw[if_neg (by simp[J]),lA];rfl
 have b2:QJ s p=zO s p:=by
  rw[hb];unfold QJ vu GG;rw[H,show(yy s p).1+cv s 30 (yy s p).1-(yy s p).1=cv s 30 (yy s p).1 by omega];congr 2;unfold gZ;simp only[abo,abG,rest];simp[List.extract_eq_take_drop]
 have A:QK s p=CL s (zO s p).size (Mu s p):=by
  unfold QK CL Xa;rw[if_neg (by simp[I]),lA,H,B,C,F,K]
 unfold q6;rw[b1,b2,A]
structure kR(w:World)(B:Nat)(p t:ByteArray)(v:Value)(i:Nat)(g:Nat->Nat):Prop where
 own:w.ownsRow B 25 1 v i ((List.range i).map (sv t g))
 rows:∀x,x<i->qX w (g x) p t x
 base:∀x,x<i->B<=g x
theorem MR:(Tryz.prog.info? 25).map (fun i=>(i.zero,i.size,i.bytes))=some (some (.slice none 0 0),1,24):=by kernel_rfl
theorem jy(g i:Nat):(⟨g,0,none⟩:Addr).add i=⟨g,i,none⟩:=by
 by_cases Y:i=0
 ·simp[Addr.add]
 ·simp[Addr.add,Y]
theorem kR.get{v:Value}(h:kR w B p t v n g)(U:0<n):
  ∃G cap,v=.slice (some ⟨G,0,none⟩) n cap/\G<w.heap.size/\∀i,i<n->w.cell? ⟨G,i,none⟩=some (.slice (some ⟨g i,0,none⟩) (t.size+1) (t.size+1)):=by
 rcases h.own.2 with⟨_,K⟩|⟨G,cap,cur,Y,H,R,D⟩
 ·omega
 ·refine⟨G,cap,Y,?_,fun i I=>?_⟩
  ·rcases aaK G _ with h'|h'
   ·omega
   ·simp_all
  ·have h:=h.own.cells (by rw[Y];rfl) i (sv t g i) (by simp_all)
   rwa [jy]at h
def bM(p t:ByteArray):=dT p t p.size t.size
def dO(p t:ByteArray)(k e:Nat)
 |0=>(k+1,0)
 |c+1=>if bM p (t.extract (e-c) e)<(dO p t k e c).1 then(bM p (t.extract (e-c) e),e-c)else dO p t k e c
def tries(p:ByteArray)(k e:Nat):=min e (p.size+k)+1
def bA(p t:ByteArray)(k e:Nat):=dO p t k e (tries p k e)
def c8(p t:ByteArray)(k:Nat)
 |0=>[]
 |e+1=>if(bA p t k e).1<=k then c8 p t k e++[((bA p t k e).2,e,(bA p t k e).1)]else c8 p t k e
def iB(p t:ByteArray)(k:Nat):=c8 p t k (t.size+1)
theorem GN(p t:ByteArray)(k e:Nat):∀c,(dO p t k e c).1<=k+1
 |0=>aac _
 |c+1=>by
  have:=GN p t k e c;simp[dO];split
  ·omega
  ·omega
theorem jZ(p t:ByteArray)(k e:Nat):∀c,(dO p t k e c).2<=e
 |0=>aav _
 |c+1=>by
  have:=jZ p t k e c;simp[dO];split
  ·simp
  ·omega
theorem sV(p t:ByteArray)(k:Nat):∀n,(c8 p t k n).length<=n
 |0=>aac _
 |n+1=>by
  have:=sV p t k n;simp[c8];split
  ·simp_all
  ·omega
def HT(w:World)(b:Nat)(s e d:Nat):Prop:=w.heap[b]?=some (.cells #[.int .i64 (s:Int),.int .i64 (e:Int),.int .i64 (d:Int)] 148 (0,0))
def E_(p t:ByteArray)(i j:Nat):Bool:=decide (0<i)&&decide (0<j)&&decide (dT p t i j=dT p t (i-1) (j-1)+cost p t (i-1) (j-1))
def Cp(p t:ByteArray)(i j:Nat):Bool:=decide (0<i)&&decide (dT p t i j=dT p t (i-1) j+1)
def cV(p t:ByteArray):Nat->Nat->Nat->List UInt8
 |0,_,_=>[]
 |f+1,i,j=>if i=0/\j=0 then []else if E_ p t i j=true then cV p t f (i-1) (j-1)++[77]else if Cp p t i j=true then cV p t f (i-1) j++[73]else cV p t f i (j-1)++[68]
def cu(p t:ByteArray):List UInt8:=cV p t (p.size+t.size) p.size t.size
theorem Fa(p t:ByteArray)(i:Nat)(h:0<i):Cp p t i 0=true:=by
 obtain⟨a,rfl⟩:∃a,i=a+1:=⟨i-1,by omega⟩;unfold Cp;cases a with
 |zero=>simp[dT]
 |succ a=>simp[dT]
theorem ss(h:E_ p t i j=true):0<i/\0<j/\dT p t i j=dT p t (i-1) (j-1)+cost p t (i-1) (j-1):=by
 unfold E_ at h;simp only[abX,decide_eq_true_eq]at h;exact⟨h.1.1,h.1.2,h.2⟩
theorem su(h:Cp p t i j=true):0<i/\dT p t i j=dT p t (i-1) j+1:=by
 unfold Cp at h;simp only[abX,decide_eq_true_eq]at h;exact h
theorem oK(h:Cp p t i j=false)(K:¬(i=0/\j=0)):0<j:=by
 rcases aaW j with rfl|H
 ·rcases aaW i with rfl|Y
  ·omega
  ·rw[Fa p t i Y]at h;exact aaJ h
 ·omega
theorem eo(p t:ByteArray):∀(f i j:Nat),i+j<=f->cV p t f i j=cV p t (i+j) i j
 |0,i,j,h=>by
  have:i+j=0:=by omega
  rw[this]
 |f+1,i,j,h=>by
  rcases aaW (i+j)with H|H
  ·rw[H];have:i=0/\j=0:=by omega
   show cV p t (f+1) i j=[]
   rw[cV.eq_def];exact if_pos this
  ·obtain⟨n,R⟩:∃n,i+j=n+1:=⟨i+j-1,by omega⟩;rw[R,cV,cV];have Y:¬(i=0/\j=0):=by omega
   rw[if_neg Y,if_neg Y];split
   ·rename_i D;have:=ss D;rw[eo p t f (i-1) (j-1) (by omega),eo p t n (i-1) (j-1) (by omega)]
   ·split
    ·rename_i K;have:=su K;rw[eo p t f (i-1) j (by omega),eo p t n (i-1) j (by omega)]
    ·rename_i K;have:=oK (by simpa using K) Y;rw[eo p t f i (j-1) (by omega),eo p t n i (j-1) (by omega)]
theorem QO{acc:List UInt8}(Y:E_ p t i j=true)(h:cV p t (i+j) i j++acc=L):cV p t (i-1+(j-1)) (i-1) (j-1)++(77::acc)=L:=by
 have H:=ss Y;obtain⟨n,K⟩:∃n,i+j=n+1:=⟨i+j-1,by omega⟩;rw[K,cV,if_neg (by omega),if_pos Y,eo p t n _ _ (by omega),aaF]at h;exact h
theorem QP{acc:List UInt8}(K:E_ p t i j=false)(Y:Cp p t i j=true)(h:cV p t (i+j) i j++acc=L):cV p t (i-1+j) (i-1) j++(73::acc)=L:=by
 have D:=su Y;obtain⟨n,H⟩:∃n,i+j=n+1:=⟨i+j-1,by omega⟩;rw[H,cV,if_neg (by omega),if_neg (by simp[K]),if_pos Y,eo p t n _ j (by omega),aaF]at h;exact h
theorem QQ{acc:List UInt8}(Y:¬(i=0/\j=0))(H:E_ p t i j=false)(K:Cp p t i j=false)(h:cV p t (i+j) i j++acc=L):cV p t (i+(j-1)) i (j-1)++(68::acc)=L:=by
 have R:=oK K Y;obtain⟨n,D⟩:∃n,i+j=n+1:=⟨i+j-1,by omega⟩;rw[D,cV,if_neg Y,if_neg (by simp[H]),if_neg (by simp[K]),eo p t n i _ (by omega),aaF]at h;exact h
theorem oL(p t:ByteArray):∀(f i j:Nat),(cV p t f i j).length<=f
 |0,_,_=>by simp[cV]
 |f+1,i,j=>by
  rw[cV];split
  ·simp
  ·split
   ·have:=oL p t f (i-1) (j-1);simp;omega
   ·split
    ·have:=oL p t f (i-1) j;simp;omega
    ·have:=oL p t f i (j-1);simp;omega
theorem sW(p t:ByteArray):(cu p t).length<=p.size+t.size:=oL _ _ _ _ _
end
section
open ChangeShapes WideShapes ChangeAt RowKit
def lC:List (String×DataW Unit):=Rows.checksRow.laid
theorem GO:("internal/strconv.uint64pow10",(Lib.tabData .u64 Lib.pow10Tab:DataW Unit))∈lC:=by
 exact .tail _ (.tail _ (.head _))
theorem q7{W:World}(h:laidMetH Tryz.prog lC W):bu W:=by
 obtain⟨R,t',cs,fuel,p,K,H,Y,hd⟩:=Lib.laidMet.reads h GO;have D:abI Tryz.prog "internal/strconv.uint64pow10"=some 0:=by kernel_rfl
 have hty:((Tryz.prog).globals[0]?).map (·.type)=some 202:=by kernel_rfl
 obtain rfl:=Option.some.inj (D.symm.trans K);obtain rfl:=Option.some.inj (hty.symm.trans H);unfold bu ab3;rw[Y,<-Lib.cells_of_tab Tryz.underlying202 Tryz.underlying176 (by kernel_rfl) (by kernel_rfl) hd]
theorem Ac(os:Os)(args:Array Value):laidMetH Tryz.prog lC ((World.doorLaid Tryz.prog 400 os).forCall (fun _ _=>0) ⟨#[],args,[]⟩).memory:=
 laidMetH_of_parts3 (fuel:=8) (laidMet_of_run' 8 (by kernel_rfl) (by kernel_rfl)) (by kernel_rfl) (by kernel_rfl)
end
namespace Ren
theorem p8{α:Type}:∀(x:Ask α) (w:World),w.drawn<=(w.ask x).2.drawn
 |.done a,w=>aac _
 |.ask _ _ k,w=>by
  unfold World.ask;dsimp only;split
  ·exact p8 _ w
  ·exact aal (Nat.le_succ _) (p8 _ {w with drawn:=w.drawn+1})
theorem GQ(w:World)(c:Sys):w.drawn<=(w.sys c).2.drawn:=by
 have:=p8 (Kernel.perform c w.os) w;unfold World.sys;split
 ·simp
 ·simp_all
theorem r4{p:Program}{w1:World}{u:TypeId}{k:Addr}{v:Value}{a:Bool}(h:w.viewStore p at_ u k v a=.ok (w1,l)):w1.drawn=w.drawn:=by
 unfold abf at h;simp only[bind,Except.bind,aaG,throwThe,aaz]at h
 repeat' split at h
 all_goals first|(cases h;rfl)|(cases h)
theorem sX{p:Program}{w1:World}{v:Value}{at_:Bool}{l:List _}(h:w.farStore p a v at_=.ok (w1,l)):w1.drawn=w.drawn:=by
 unfold World.farStore at h;split at h
 ·split at h
  ·rename_i e;rw[Except.ok.inj h]at e;exact r4 e
  ·cases h
 ·cases h
def _root_.Go.Result.world{α:Type}:Result α->World
 |.ok _ w=>w
 |.halt _ w=>w
theorem mn{α:Type}(s:Sem α):∀(w:World),w.drawn<=(s.run P w).world.drawn:=by
 induction s with
 |pure a=>exact fun w=>aac _
 |halt h=>exact fun w=>aac _
 |load m a k Y=>
  intro w;simp only[Sem.run]
  repeat' split
  all_goals first|exact Y _ _|exact aac _
 |store m a v k Y=>
  intro w;cases v<;>simp only[Sem.run]<;>(repeat' split)<;>first
   |exact aac _
   |exact Y (w.setCell a _)
   |(rename_i e;exact aal (Nat.le_of_eq (sX e).symm) (Y _))
 |new o k Y=>exact fun w=>Y _ {w with heap:=w.heap.push o}
 |shape r k Y=>exact fun w=>Y _ _
 |freeze a n k Y=>
  intro w;refine aal (Nat.le_of_eq ?_) (Y (w.freeze a n));unfold World.freeze;split<;>rfl
 |frozen a k Y=>exact fun w=>Y _ _
 |getObj r k Y=>
  intro w;simp only[Sem.run];split
  ·exact aac _
  ·exact Y _ _
  ·exact aac _
 |setObj r o k Y=>
  intro w;simp only[Sem.run];split
  ·exact aac _
  ·exact Y {w with heap:=w.heap.setIfInBounds r o}
  ·exact aac _
 |choose q k Y=>
  intro w;simp only[Sem.run];split
  ·exact Y _ _
  ·exact aal (Nat.le_succ _) (Y _ {w with drawn:=w.drawn+1})
 |sys c k Y=>exact fun w=>aal (GQ w c) (Y _ _)
 |program k Y=>exact fun w=>Y _ _
 |mark m k Y=>exact fun w=>Y _
class aj where
 size:Nat
 bN:FuncId->Prop
 code:Code->Prop
 methods:String->Prop
 Mw:Nat->Prop
 wall:Array Oper->Prop
 ro:Nat->Prop
 mo:Nat->Nat->Prop
 rest:List Item->Prop
 lh:List Deferred->Prop
variable[aj]
structure Rn where
 f:Nat->Option Nat
 inj:∀b b' c,f b=some c->f b'=some c->b=b'
 dY:∀b c,f b=some c->(b<aj.size↔c<aj.size)
instance:CoeFun Rn (fun _=>Nat->Option Nat):=⟨Rn.f⟩
def Le(r s:Rn):=∀b c,r b=some c->s b=some c
theorem Le.refl(r:Rn):Le r r:=fun _ _ h=>h
theorem Le.trans{r s t:Rn}(h:Le r s)(k:Le s t):Le r t:=fun b c e=>k b c (h b c e)
structure Ad(r:Rn)(a a':Addr):Prop where
 block:r a.block=some a'.block
 off:a'.off=a.off
 spot:a'.spot=a.spot
theorem Ad.mono{r s:Rn}(h:Le r s)(k:Ad r a a'):Ad s a a':=⟨h _ _ k.block,k.off,k.spot⟩
def Hid:Value->Bool
 |.agg _|.pointer none|.nilIface|.nilFunc|.func .. |.bool _=>false
 |_=>true
inductive GR(r:Rn):Fn->Fn->Prop
 |func {f:FuncId}:aj.bN f->GR r (.func f) (.func f)
 |method {n:String}:aj.methods n->GR r (.method n) (.method n)
 |yield {l l':Nat}:r l=some l'->GR r (.yield l) (.yield l')
inductive GU(r:Rn):Fn->Fn->Prop
 |func {f:FuncId}:aj.bN f->GU r (.func f) (.func f)
 |yield {l l':Nat}:r l=some l'->GU r (.yield l) (.yield l')
theorem GU.mono{r s:Rn}(h:Le r s){f f':Fn}(k:GU r f f'):GU s f f':=by
 cases k with
 |func g=>exact .func g
 |yield e=>exact .yield (h _ _ e)
theorem GU.toR{r:Rn}{f f':Fn}(k:GU r f f'):GR r f f':=by
 cases k with
 |func g=>exact .func g
 |yield e=>exact .yield e
theorem GR.mono{r s:Rn}(h:Le r s){f f':Fn}(k:GR r f f'):GR s f f':=by
 cases k with
 |func g=>exact .func g
 |method g=>exact .method g
 |yield e=>exact .yield (h _ _ e)
inductive V(r:Rn):Value->Value->Prop
 |blank {y:Value}:Hid y=true->V r (.tuple #[]) y
 |bool (b:Bool):V r (.bool b) (.bool b)
 |int (k:IntKind) (n:Int):V r (.int k n) (.int k n)
 |string (s:ByteArray):V r (.string s) (.string s)
 |nilPtr:V r (.pointer none) (.pointer none)
 |ptr {a a':Addr}:Ad r a a'->V r (.pointer (some a)) (.pointer (some a'))
 |aT (l c:Nat):V r (.slice none l c) (.slice none l c)
 |slice {a a':Addr} (l c:Nat):Ad r a a'->V r (.slice (some a) l c) (.slice (some a') l c)
 |eR:V r (.map none) (.map none)
 |map {b b':Nat}:r b=some b'->V r (.map (some b)) (.map (some b'))
 |ep:V r (.chan none) (.chan none)
 |chan {b b':Nat}:r b=some b'->V r (.chan (some b)) (.chan (some b'))
 |func {fn iU:Fn} {f f' c c':Array Value}:GU r fn iU->f.size=f'.size->(∀(i:Nat) x x',f[i]?=some x->f'[i]?=some x'->V r x x')->
   c.size=c'.size->(∀(i:Nat) x x',c[i]?=some x->c'[i]?=some x'->V r x x')->V r (.func fn f c) (.func iU f' c')
 |nilFunc:V r .nilFunc .nilFunc
 |iface (t:TypeId) {v v':Value}:V r v v'->V r (.iface t v) (.iface t v')
 |nilIface:V r .nilIface .nilIface
 |agg {c c':Array Value}:c.size=c'.size->(∀(i:Nat) x x',c[i]?=some x->c'[i]?=some x'->V r x x')->V r (.agg c) (.agg c')
 |tuple {c c':Array Value}:c.size=c'.size->(∀(i:Nat) x x',c[i]?=some x->c'[i]?=some x'->V r x x')->V r (.tuple c) (.tuple c')
theorem V.mono{r s:Rn}(h:Le r s){y:Value}(k:V r x y):V s x y:=by
 induction k with
 |blank h=>exact .blank h
 |bool b=>exact .bool b
 |int k n=>exact .int k n
 |string s=>exact .string s
 |nilPtr=>exact .nilPtr
 |ptr a=>exact .ptr (a.mono h)
 |aT l c=>exact .aT l c
 |slice l c a=>exact .slice l c (a.mono h)
 |eR=>exact .eR
 |map e=>exact .map (h _ _ e)
 |ep=>exact .ep
 |chan e=>exact .chan (h _ _ e)
 |func n s1 _ s2 _ i1 i2=>exact .func (n.mono h) s1 i1 s2 i2
 |nilFunc=>exact .nilFunc
 |iface t _ i=>exact .iface t i
 |nilIface=>exact .nilIface
 |agg s _ i=>exact .agg s i
 |tuple s _ i=>exact .tuple s i
structure VA(r:Rn)(c c':Array Value):Prop where
 size:c.size=c'.size
 at_:∀(i:Nat) x x',c[i]?=some x->c'[i]?=some x'->V r x x'
structure En(r:Rn)(e e':MapEntry):Prop where
 key:V r e.key e'.key
 val:V r e.val e'.val
 born:e'.born=e.born
inductive Tg(r:Rn):Target->Target->Prop
 |fn {f f':Fn} {c c':Array Value}:GR r f f'->VA r c c'->Tg r (.fn f c) (.fn f' c')
 |nil:Tg r .nil .nil
 |collected {b b':Nat}:r b=some b'->Tg r (.collected b) (.collected b')
structure Df(r:Rn)(d d':Deferred):Prop where
 target:Tg r d.target d'.target
 args:VA r d.args d'.args
inductive DL(r:Rn):List Deferred->List Deferred->Prop
 |nil:DL r [] []
 |cons {d d':Deferred} {l l':List Deferred}:Df r d d'->DL r l l'->DL r (d::l) (d'::l')
structure Lp(r:Rn)(l l':Loop):Prop where
 state:l'.state=l.state
 pending:l'.pending=l.pending
 fn:l'.fn=l.fn
 params:l'.params=l.params
 assign:l'.assign=l.assign
 body:l'.body=l.body
 tmps:VA r l.tmps l'.tmps
 defers:r l.defers=some l'.defers
 cp:∀c,l.pending=some c->aj.code c
 ca:aj.code l.assign
 cb:aj.code l.body
inductive DO(r:Rn):Option (List Deferred)->Option (List Deferred)->Prop
 |none:DO r none none
 |some {l l':List Deferred}:DL r l l'->DO r (some l) (some l')
inductive O(r:Rn):Obj->Obj->Prop
 |loop {l l':Loop}:Lp r l l'->O r (.loop l) (.loop l')
 |view {a a':Addr} (t:TypeId):¬aj.ro a.block->Ad r a a'->O r (.view a t) (.view a' t)
 |number {a a':Addr} (l:Bool):Ad r a a'->O r (.number a l) (.number a' l)
 |deferred {d d':Option (List Deferred)}:DO r d d'->O r (.deferred d) (.deferred d')
 |cells {c c':Array Value} (e:TypeId) (fz:Nat×Nat):VA r c c'->O r (.cells c e fz) (.cells c' e fz)
 |map {es gR:Array MapEntry} (clock:Nat):es.size=gR.size->(∀(i:Nat) x x',es[i]?=some x->gR[i]?=some x'->En r x x')->O r (.map es clock) (.map gR clock)
 |stringIter (s:ByteArray) (p:Nat):O r (.stringIter s p) (.stringIter s p)
 |cg (a:Nat) (s:Array Nat) (n:Nat):O r (.mapIter none a s n) (.mapIter none a s n)
 |mapIter {b b':Nat} (a:Nat) (s:Array Nat) (n:Nat):r b=some b'->O r (.mapIter (some b) a s n) (.mapIter (some b') a s n)
theorem VA.mono{r s:Rn}(h:Le r s){c c':Array _}(k:VA r c c'):VA s c c':=⟨k.size,fun i x x' e e'=>(k.at_ i x x' e e').mono h⟩
theorem En.mono{r s:Rn}(h:Le r s){e e':MapEntry}(k:En r e e'):En s e e':=⟨k.key.mono h,k.val.mono h,k.born⟩
theorem Tg.mono{r s:Rn}(h:Le r s){t t':Target}(k:Tg r t t'):Tg s t t':=by
 cases k with
 |fn f c=>exact .fn (f.mono h) (c.mono h)
 |nil=>exact .nil
 |collected e=>exact .collected (h _ _ e)
theorem Df.mono{r s:Rn}(h:Le r s)(k:Df r d d'):Df s d d':=⟨k.target.mono h,k.args.mono h⟩
theorem DL.mono{r s:Rn}(h:Le r s){d d':List _}(k:DL r d d'):DL s d d':=by
 induction k with
 |nil=>exact .nil
 |cons x _ Y=>exact .cons (x.mono h) Y
theorem DO.mono{r s:Rn}(h:Le r s){d d':Option _}(k:DO r d d'):DO s d d':=by
 cases k with
 |none=>exact .none
 |some x=>exact .some (x.mono h)
theorem Lp.mono{r s:Rn}(h:Le r s){l l':Loop}(k:Lp r l l'):Lp s l l':=⟨k.state,k.pending,k.fn,k.params,k.assign,k.body,k.tmps.mono h,h _ _ k.defers,k.cp,k.ca,k.cb⟩
theorem O.mono{r s:Rn}(h:Le r s)(k:O r o o'):O s o o':=by
 cases k with
 |loop l=>exact .loop (l.mono h)
 |view t n a=>exact .view t n (a.mono h)
 |number l a=>exact .number l (a.mono h)
 |deferred d=>exact .deferred (d.mono h)
 |cells e fz a=>exact .cells e fz (a.mono h)
 |map Y H K=>exact .map Y H fun i x x' e e'=>(K i x x' e e').mono h
 |stringIter s p=>exact .stringIter s p
 |cg a s n=>exact .cg a s n
 |mapIter a s n e=>exact .mapIter a s n (h _ _ e)
inductive OB(r:Rn)(b:Nat):Obj->Obj->Prop
 |same {o o':Obj}:¬aj.ro b->O r o o'->OB r b o o'
 |ro {c c':Array Value} (e:TypeId):aj.ro b->VA r c c'->(∀i,aj.mo b i->c[i]?=some (.tuple #[]))->OB r b (.cells c e (0,c.size)) (.cells c' e)
theorem OB.mono{r s:Rn}(h:Le r s)(k:OB r b o o'):OB s b o o':=by
 cases k with
 |same n o=>exact .same n (o.mono h)
 |ro e n a hb=>exact .ro e n (a.mono h) hb
structure W(r:Rn)(c:Nat)(v w:World):Prop where
 obj:∀b b',r b=some b'->∃o o',v.heap[b]?=some o/\w.heap[b']?=some o'/\OB r b o o'
 gv:aj.size<=v.heap.size
 gw:aj.size<=w.heap.size
 old:∀b,aj.ro b->b<v.heap.size
 tape:∀i q,i<c->v.tape (v.drawn+i) q=w.tape (w.drawn+i) q
 env:w.os.env=v.os.env
inductive Hl(r:Rn):Halt->Halt->Prop
 |panic {v v':Value}:V r v v'->Hl r (.panic v) (.panic v')
def yz:Unsupported->Bool
 |.initOrder _=>true
 |_=>false
def sY(h:Halt):=(∃u,h=.unsupported u/\yz u=false)\/∃y,h=.stuck y
inductive SR(P:Program){α:Type}(A:Rn->α->α->Prop):Rn->Sem α->Sem α->Prop
 |pure {r:Rn} {a a':α}:A r a a'->SR P A r (.pure a) (.pure a')
 |load {r:Rn} {a a':Addr} {k k':Value->Sem α}:Ad r a a'->(∀s v v',Le r s->V s v v'->SR P A s (k v) (k' v'))->SR P A r (.load .plain a k) (.load .plain a' k')
 |store {r:Rn} {a a':Addr} {v v':Value} {k k':Sem α}:Ad r a a'->V r v v'->(∀s,Le r s->SR P A s k k')->SR P A r (.store .plain a v k) (.store .plain a' v' k')
 |new {r:Rn} {o o':Obj} {k k':Nat->Sem α}:O r o o'->(∀s b b',Le r s->s b=some b'->SR P A s (k b) (k' b'))->SR P A r (.new o k) (.new o' k')
 |shape {r:Rn} {b b':Nat} {k k':Option (TypeId×Nat)->Sem α}:r b=some b'->(∀s x,Le r s->SR P A s (k x) (k' x))->SR P A r (.shape b k) (.shape b' k')
 |freeze {r:Rn} {a a':Addr} (n:Nat) {k k':Sem α}:(∀b,¬aj.ro b)->Ad r a a'->(∀s,Le r s->SR P A s k k')->SR P A r (.freeze a n k) (.freeze a' n k')
 |frozen {r:Rn} {a a':Addr} {k k':Bool->Sem α}:(∀b,¬aj.ro b)->Ad r a a'->(∀s x,Le r s->SR P A s (k x) (k' x))->SR P A r (.frozen a k) (.frozen a' k')
 |getObj {r:Rn} {b b':Nat} {k k':Obj->Sem α}:r b=some b'->(∀s o o',Le r s->O s o o'->SR P A s (k o) (k' o'))->SR P A r (.getObj b k) (.getObj b' k')
 |setObj {r:Rn} {b b':Nat} {o o':Obj} {k k':Sem α}:r b=some b'->O r o o'->(∀s,Le r s->SR P A s k k')->SR P A r (.setObj b o k) (.setObj b' o' k')
 |choose {r:Rn} (q:Question) {k k':Nat->Sem α}:(∀s n,Le r s->SR P A s (k n) (k' n))->SR P A r (.choose q k) (.choose q k')
 |env {r:Rn} {k k':SysRet->Sem α}:(∀s x,Le r s->SR P A s (k x) (k' x))->SR P A r (.sys .env k) (.sys .env k')
 |program {r:Rn} {k k':Program->Sem α}:(∀s,Le r s->SR P A s (k P) (k' P))->SR P A r (.program k) (.program k')
 |mark {r:Rn} (m:Mark) {k k':Sem α}:(m=.noRoom\/∃f,m=.extern f)->(∀s,Le r s->SR P A s k k')->SR P A r (.mark m k) (.mark m k')
 |halt {r:Rn} {h h':Halt}:Hl r h h'->SR P A r (.halt h) (.halt h')
 |lost {r:Rn} {s s':Sem α}:(∀v,∃h v1,s.run P v=.halt h v1/\sY h)->SR P A r s s'
theorem SR.bind{α β:Type}{A:Rn->α->α->Prop}{B:Rn->β->β->Prop}{r:Rn}{s s':Sem α}{f f':α->Sem β}(h:SR P A r s s')
  (k:∀t a a',Le r t->A t a a'->SR P B t (f a) (f' a')):SR P B r (s.bind f) (s'.bind f'):=by
 induction h with
 |pure a=>exact k _ _ _ (.refl _) a
 |load a _ Y=>exact .load a fun t v v' l e=>Y t v v' l e fun u a a' K=>k u a a' (l.trans K)
 |store a v _ Y=>exact .store a v fun t l=>Y t l fun u a a' K=>k u a a' (l.trans K)
 |new o _ Y=>exact .new o fun t b b' l e=>Y t b b' l e fun u a a' K=>k u a a' (l.trans K)
 |shape e _ Y=>exact .shape e fun t x l=>Y t x l fun u a a' K=>k u a a' (l.trans K)
 |freeze n z a _ Y=>exact .freeze n z a fun t l=>Y t l fun u a a' K=>k u a a' (l.trans K)
 |frozen z a _ Y=>exact .frozen z a fun t x l=>Y t x l fun u a a' K=>k u a a' (l.trans K)
 |getObj e _ Y=>exact .getObj e fun t o o' l e=>Y t o o' l e fun u a a' K=>k u a a' (l.trans K)
 |setObj e o _ Y=>exact .setObj e o fun t l=>Y t l fun u a a' K=>k u a a' (l.trans K)
 |choose q _ Y=>exact .choose q fun t n l=>Y t n l fun u a a' K=>k u a a' (l.trans K)
 |env _ Y=>exact .env fun t x l=>Y t x l fun u a a' K=>k u a a' (l.trans K)
 |program _ Y=>exact .program fun t l=>Y t l fun u a a' K=>k u a a' (l.trans K)
 |mark m hm _ Y=>exact .mark m hm fun t l=>Y t l fun u a a' K=>k u a a' (l.trans K)
 |halt h=>exact .halt h
 |lost h=>
  refine .lost fun v=>?_;obtain⟨x,v1,e,H⟩:=h v;refine⟨x,v1,?_,H⟩;rw[Sem.run_bind',e];rfl
theorem SR.imp{α:Type}{A B:Rn->α->α->Prop}{r:Rn}{s s':Sem α}(h:SR P A r s s')(k:∀t a a',Le r t->A t a a'->B t a a'):SR P B r s s':=by
 induction h with
 |pure a=>exact .pure (k _ _ _ (.refl _) a)
 |load a _ Y=>exact .load a fun t v v' l e=>Y t v v' l e fun u a a' K=>k u a a' (l.trans K)
 |store a v _ Y=>exact .store a v fun t l=>Y t l fun u a a' K=>k u a a' (l.trans K)
 |new o _ Y=>exact .new o fun t b b' l e=>Y t b b' l e fun u a a' K=>k u a a' (l.trans K)
 |shape e _ Y=>exact .shape e fun t x l=>Y t x l fun u a a' K=>k u a a' (l.trans K)
 |freeze n z a _ Y=>exact .freeze n z a fun t l=>Y t l fun u a a' K=>k u a a' (l.trans K)
 |frozen z a _ Y=>exact .frozen z a fun t x l=>Y t x l fun u a a' K=>k u a a' (l.trans K)
 |getObj e _ Y=>exact .getObj e fun t o o' l e=>Y t o o' l e fun u a a' K=>k u a a' (l.trans K)
 |setObj e o _ Y=>exact .setObj e o fun t l=>Y t l fun u a a' K=>k u a a' (l.trans K)
 |choose q _ Y=>exact .choose q fun t n l=>Y t n l fun u a a' K=>k u a a' (l.trans K)
 |env _ Y=>exact .env fun t x l=>Y t x l fun u a a' K=>k u a a' (l.trans K)
 |program _ Y=>exact .program fun t l=>Y t l fun u a a' K=>k u a a' (l.trans K)
 |mark m hm _ Y=>exact .mark m hm fun t l=>Y t l fun u a a' K=>k u a a' (l.trans K)
 |halt h=>exact .halt h
 |lost h=>exact .lost h
section QR
variable{r:Rn}{c:Nat}{v w:World}
theorem W.lt(h:W r c v w)(e:r b=some b'):b<v.heap.size/\b'<w.heap.size:=by
 obtain⟨o,o',Y,K,_⟩:=h.obj b b' e;exact⟨(aam.1 Y).1,(aam.1 K).1⟩
structure Out(r r1:Rn)(c c1:Nat)(v w v1 w1:World):Prop where
 drew:v1.drawn+c1=v.drawn+c
 xe:w1.drawn+c1=w.drawn+c
 later:v.drawn<=v1.drawn
 le:Le r r1
 wl:W r1 c1 v1 w1
 grow:w.heap.size<=w1.heap.size
 I_:v.heap.size<=v1.heap.size
 kept:∀a,a<w.heap.size->(∀b,r b=some a->aj.ro b)->w1.heap[a]?=w.heap[a]?
 fresh:∀b a,r1 b=some a->r b=some a\/(w.heap.size<=a/\v.heap.size<=b)
 range:∀a,w.heap.size<=a->a<w1.heap.size->∃b,r1 b=some a
 tape:w1.tape=w.tape
 Ja:v1.tape=v.tape
 os:w1.os=w.os
 output:w1.output=w.output
 vos:v1.os=v.os
 Fb:v1.output=v.output
theorem Out.refl(h:W r c v w):Out r r c c v w v w:=⟨rfl,rfl,aac _,.refl _,h,aac _,aac _,fun _ _ _=>rfl,fun _ _ e=>.inl e,fun a K Y=>absurd Y (by omega),rfl,rfl,rfl,rfl,rfl,rfl⟩
theorem Out.trans{r1 r2:Rn}{c1 c2:Nat}{v1 w1 v2 w2:World}(h:Out r r1 c c1 v w v1 w1)(k:Out r1 r2 c1 c2 v1 w1 v2 w2):Out r r2 c c2 v w v2 w2:=by
 refine⟨k.drew.trans h.drew,k.xe.trans h.xe,aal h.later k.later,h.le.trans k.le,k.wl,aal h.grow k.grow,aal h.I_ k.I_,fun a Y hr=>?_,fun b a e=>?_,fun a H D=>?_,k.tape.trans h.tape,k.Ja.trans h.Ja,k.os.trans h.os,k.output.trans h.output,k.vos.trans h.vos,k.Fb.trans h.Fb⟩
 ·rw[k.kept a (aao Y h.grow) fun b e=>?_]
  ·exact h.kept a Y hr
  ·rcases h.fresh b a e with e'|⟨e',_⟩
   ·simp_all
   ·omega
 ·rcases k.fresh b a e with e'|⟨e',K⟩
  ·exact h.fresh b a e'
  ·exact .inr ⟨aal h.grow e',aal h.I_ K⟩
 ·by_cases Y:a<w1.heap.size
  ·obtain⟨b,e⟩:=h.range a H Y;exact⟨b,k.le _ _ e⟩
  ·exact k.range a (by omega) D
theorem Out.set(h:W r c v w)(e:r b=some b')(H:¬aj.ro b)(U:O r o o'):
  Out r r c c v w {v with heap:=v.heap.setIfInBounds b o} {w with heap:=w.heap.setIfInBounds b' o'}:=by
 have C:=h.lt e;refine⟨rfl,rfl,aac _,.refl _,⟨fun x x' D=>?_,by simpa using h.gv,by simpa using h.gw,by simpa using h.old,h.tape,h.env⟩,by simp,by simp,fun a B hr=>?_,fun _ _ x=>.inl x,fun a I R=>absurd R (by simp;omega),rfl,rfl,rfl,rfl,rfl,rfl⟩
 ·by_cases Y:x=b
  ·subst Y;obtain rfl:x'=b':=Option.some.inj (D.symm.trans e);exact⟨o,o',by simp_all,by simp_all,.same H U⟩
  ·have K:x'≠b':=fun y=>Y (r.inj _ _ _ D (y▸e));obtain⟨p,p',I,R,A⟩:=h.obj x x' D;exact⟨p,p',by simp[Ne.symm Y,I],by simp[Ne.symm K,R],A⟩
 ·have:a≠b':=fun x=>H (hr b (x▸e));simp[Ne.symm this]
def ext(r:Rn)(b a:Nat)(R:∀x,r x≠some a)(hb:aj.size<=b)(I:aj.size<=a):Rn where
 f:=fun x=>if x=b then some a else r x
 dY:=fun x y h=>by
  by_cases Y:x=b
  ·simp only[Y,if_true,aa7]at h;omega
  ·simp only[Y,if_false]at h;exact r.dY x y h
 inj:=fun x y z K H=>by
  by_cases Y:x=b<;>by_cases D:y=b
  ·omega
  ·simp only[Y,if_true,aa7]at K;simp only[D,if_false]at H;exact absurd (K▸H) (R y)
  ·simp only[D,if_true,aa7]at H;simp only[Y,if_false]at K;exact absurd (H▸K) (R x)
  ·simp only[Y,D,if_false]at K H;exact r.inj _ _ _ K H
theorem W.past(h:W r c v w):∀x,r x≠some w.heap.size:=fun x e=>by have:=(h.lt e).2;omega
theorem Out.new(h:W r c v w){o o':Obj}(I:O r o o'):
  Out r (ext r _ _ h.past h.gv h.gw) c c v w {v with heap:=v.heap.push o} {w with heap:=w.heap.push o'}:=by
 have le:Le r (ext r v.heap.size w.heap.size h.past h.gv h.gw):=fun b a e=>by
  have:=(h.lt e).1;show(if b=v.heap.size then some _ else r b)=some a
  rw[if_neg (by omega)];exact e
 have old:∀b a,ext r v.heap.size w.heap.size h.past h.gv h.gw b=some a->r b=some a\/(b=v.heap.size/\a=w.heap.size):=fun b a e=>by
  have e:(if b=v.heap.size then some _ else r b)=some a:=e;split at e
  ·simp_all
  simp_all
 refine⟨rfl,rfl,aac _,le,⟨fun b b' e=>?_,by have:=h.gv;simp;omega,by have:=h.gw;simp;omega,fun b hb=>by have:=h.old b hb;simp;omega,h.tape,h.env⟩,by simp,by simp,fun a A hr=>?_,fun b a e=>?_,fun a K Y=>⟨v.heap.size,?_⟩,rfl,rfl,rfl,rfl,rfl,rfl⟩
 ·rcases old _ _ e with x|⟨H,D⟩
  ·obtain⟨p,p',K,Y,R⟩:=h.obj b b' x;have:=h.lt x;exact⟨p,p',by simp only[aaB];rw[if_neg (by omega)];exact K,by simp only[aaB];rw[if_neg (by omega)];exact Y,R.mono le⟩
  ·subst H;subst D;exact⟨o,o',by simp,by simp,.same (fun hr=>by have:=h.old _ hr;omega) (I.mono le)⟩
 ·simp only[aaB];rw[if_neg (by omega)]
 ·rcases old _ _ e with x|⟨H,D⟩
  ·exact .inl x
  ·omega
 ·simp at Y;show(if v.heap.size=v.heap.size then some _ else r _)=some a
  rw[if_pos rfl];congr 1;omega
theorem Out.draw(h:W r (c+1) v w):Out r r (c+1) c v w {v with drawn:=v.drawn+1} {w with drawn:=w.drawn+1}:=
 ⟨by simp;omega,by simp;omega,by simp,.refl _,⟨h.obj,h.gv,h.gw,h.old,fun i q H=>by have:=h.tape (1+i) q (by omega);simpa[Nat.add_assoc]using this,h.env⟩,aac _,aac _,fun _ _ _=>rfl,fun _ _ e=>.inl e,fun a K Y=>absurd Y (by simp;omega),rfl,rfl,rfl,rfl,rfl,rfl⟩
end QR
section runs
variable{r:Rn}{c:Nat}{v w:World}
omit [aj]in
theorem modify_eq{h:Array Obj}{f:Obj->Obj}(e:h[b]?=some o):h.modify b f=h.setIfInBounds b (f o):=by
 obtain⟨Y,he⟩:=aam.1 e;refine Array.ext (by simp) fun i K H=>?_;rw[Array.getElem_modify];by_cases hb:b=i
 ·simp_all
 ·rw[if_neg hb,Array.getElem_setIfInBounds,if_neg hb]
theorem VA.get{c c':Array _}(h:VA r c c')(e:c[i]?=some x):∃x',c'[i]?=some x'/\V r x x':=by
 obtain⟨Y,_⟩:=aam.1 e;have K:=h.size▸Y;exact⟨c'[i],by simp,h.at_ i x _ e (by simp)⟩
theorem VA.none{c c':Array _}(h:VA r c c')(e:c[i]?=none):c'[i]?=none:=by
 simp at e⊢;have:=h.size;omega
theorem VA.set{c c':Array _}(h:VA r c c')(i:Nat)(H:V r x x'):VA r (c.setIfInBounds i x) (c'.setIfInBounds i x'):=by
 refine⟨by simp[h.size],fun j y K e e'=>?_⟩;simp[Array.getElem?_setIfInBounds]at e e';by_cases Y:i=j
 ·simp_all
 ·rw[if_neg Y]at e e';exact h.at_ j y K e e'
theorem W.cell(h:W r c v w)(H:Ad r a a')(e:v.cell? a=some x):∃x',w.cell? a'=some x'/\V r x x':=by
 obtain⟨o,o',R,I,K⟩:=h.obj _ _ H.block;simp[aaO,R]at e;simp[aaO,I];have cells:∀{cs bS:Array _},VA r cs bS->(if a.spot.isSome=true then none else cs[a.off]?)=some x->∃x',(if a'.spot.isSome=true then none else bS[a'.off]?)=some x'/\V r x x':=by
  intro cs bS Y e;rw[H.spot,H.off];split at e
  ·cases e
  ·rename_i A;rw[if_neg A];exact Y.get e
 cases K with
 |ro D n Y hb=>exact cells Y e
 |same n K=>
  cases K with
  |cells D fz Y=>exact cells Y e
  |_=>cases e
theorem W.noCell(h:W r c v w)(H:Ad r a a')(e:v.cell? a=none):w.cell? a'=none:=by
 obtain⟨o,o',R,I,K⟩:=h.obj _ _ H.block;simp[aaO,R]at e;simp[aaO,I];have cells:∀{cs bS:Array _},VA r cs bS->(if a.spot.isSome=true then none else cs[a.off]?)=none->(if a'.spot.isSome=true then none else bS[a'.off]?)=none:=by
  intro cs bS Y e;rw[H.spot,H.off];split at e
  ·simp_all
  ·rename_i A;rw[if_neg A];exact Y.none e
 cases K with
 |ro D n Y hb=>exact cells Y e
 |same n K=>
  cases K with
  |cells D fz Y=>exact cells Y e
  |_=>rfl
theorem W.frozen(h:W r c v w){a a':Addr}(K:Ad r a a')(R:¬aj.ro a.block):w.frozen? a'=v.frozen? a:=by
 obtain⟨o,o',H,D,Y⟩:=h.obj _ _ K.block;simp[World.frozen?,H,D];cases Y with
 |ro I n A hb=>exact absurd n R
 |same n Y=>cases Y<;>simp[K.off]
theorem W.Jb(h:W r c v w)(H:Ad r a a')(D:aj.ro a.block)(e:v.cell? a=some x):v.frozen? a=true:=by
 obtain⟨o,o',Y,I,K⟩:=h.obj _ _ H.block;simp[aaO,Y]at e;simp[World.frozen?,Y];cases K with
 |ro R n A hb=>
  simp only at e⊢;split at e
  ·cases e
  ·have:=(aam.1 e).1;simp[this]
 |same n K=>exact absurd D n
theorem W.shape(h:W r c v w){b b':Nat}(e:r b=some b'):w.shape? b'=v.shape? b:=by
 obtain⟨o,o',D,R,Y⟩:=h.obj _ _ e;simp[World.shape?,D,R];cases Y with
 |ro H n K hb=>simp[K.size]
 |same n Y=>
  cases Y with
  |cells H fz K=>simp[K.size]
  |_=>rfl
theorem xf(h:V r x x'){bs:List _}(e:x.bytes?=some bs):x'=x:=by
 cases h<;>first|rfl|(simp[Value.bytes?]at e)
theorem ni(p:Program)(h:VA r cs bS)(e:TypeId):∀(f x stop:Nat) {l:List (Nat×Nat×List UInt8)},seenCells p cs e f x stop=.ok l->seenCells p bS e f x stop=.ok l
 |0,_,_,_,h'=>by simp[seenCells]at h'
 |f+1,x,stop,l,h'=>by
  unfold seenCells at h'⊢;split at h'
  ·simp_all
  ·rename_i D;rw[if_neg D];simp only at h'⊢;split at h'
   ·cases h'
   ·rename_i hw;rw[if_neg hw];split at h'
    ·omega
    ·rename_i i s I;split at h'
     ·cases h'
     ·rename_i v R;obtain⟨v',K,H⟩:=h.get R;rw[K];simp only;split at h'
      ·cases h'
      ·cases h'
      ·rename_i bs n hb;rw[xf H hb,hb];simp only;cases Y:seenCells p cs e f _ stop with
       |error y=>rw[Y]at h';cases h'
       |ok l'=>
        rw[Y]at h';rw[ni p h e f _ _ Y];exact h'
theorem Ae(h:W r c v w)(P:Program){V k k':Addr}(U:Ad r at_ V)(Q:k'.off=k.off)(S:k'.spot=k.spot)(B:¬aj.ro at_.block)(u:TypeId)
  {fz:Nat×Nat}{first:Nat}{l:List (Nat×Nat×List UInt8)}(Y:v.seen P at_ u k false=.ok (cs,e,fz,first,like,l)):
  ∃bS,w.seen P V u k' false=.ok (bS,e,fz,first,like,l)/\VA r cs bS/\v.heap[at_.block]?=some (.cells cs e fz)/\w.heap[V.block]?=some (.cells bS e fz)/\∃d,plainCell P d u k.off=some like:=by
 unfold World.seen at Y⊢;rw[Q,S,U.off,U.spot];simp only[bind,Except.bind,pure,Except.pure,aaG,throwThe,aaz,aaD,if_false]at Y⊢;cases C:(k.spot.isSome||at_.spot.isSome)with
 |true=>rw[C]at Y;simp at Y
 |false=>
  rw[C]at Y;simp only[aaD,if_false]at Y⊢;cases R:plainCell P P.depth u k.off with
  |none=>rw[R]at Y;simp at Y
  |some K=>
   rw[R]at Y;simp only at Y⊢;cases F:K.bytes?.map (·.length)with
   |none=>rw[F]at Y;simp at Y
   |some size=>
    rw[F]at Y;cases J:byteOfCell P P.depth u k.off with
    |none=>rw[J]at Y;simp at Y
    |some β=>
     rw[J]at Y;obtain⟨o,o',N,T,A⟩:=h.obj _ _ U.block;rw[N]at Y;rw[T];cases A with
     |ro H n _ _=>exact absurd n B
     |same n A=>
      cases A with
      |cells H O D=>
       rename_i d d';by_cases L:P.cellsOf H=0
       ·simp[L]at Y
       ·simp only[L,if_false]at Y⊢;cases M:byteOfCell P P.depth H _ with
        |none=>rw[M]at Y;simp at Y
        |some b0=>
         rw[M]at Y;simp only at Y⊢;cases I:seenCells P d H (size+1) _ _ with
         |error y=>rw[I]at Y;simp at Y
         |ok l0=>
          rw[I]at Y;rw[ni P D H _ _ _ I];simp only[abh,Prod.mk.injEq]at Y⊢;obtain⟨rfl,rfl,rfl,rfl,rfl,rfl⟩:=Y;exact⟨_,⟨rfl,rfl,rfl,rfl,rfl,rfl⟩,D,N,rfl,_,R⟩
      |_=>simp at Y
def MS(P:Program):=∀d u k x,plainCell P d u k=some x->(∃b,x=.bool b)\/∃k n,x=.int k n
theorem W.farLoad(h:W r c v w)(I:MS P)(H:Ad r a a'):
  (∃x,v.farLoad P a false=.error x/\sY x)\/∃x l l',v.farLoad P a false=.ok (x,l)/\w.farLoad P a' false=.ok (x,l')/\V r x x/\∀y∈l',∃b,r b=some y.block:=by
 obtain⟨o,o',A,U,K⟩:=h.obj _ _ H.block;simp only[World.farLoad,World.noCell,A,U];cases K with
 |ro J n L hb=>exact .inl ⟨_,rfl,.inr ⟨_,rfl⟩⟩
 |same n K=>
  cases K with
  |view t n at_=>
   rename_i b b';simp only;cases Y:v.viewLoad P b t a _ with
   |error y=>exact .inl ⟨_,rfl,.inl ⟨_,rfl,rfl⟩⟩
   |ok q=>
    unfold World.viewLoad at Y;simp only[bind,Except.bind]at Y;cases R:v.seen P b t a _ with
    |error y=>rw[R]at Y;simp at Y
    |ok q=>
     obtain⟨cs,e,fz,first,like,ls⟩:=q;rw[R]at Y;simp only at Y;obtain⟨bS,C,M,N,O,F,D⟩:=Ae h P at_ H.off H.spot n t R;cases hb:like.ofBytes _ with
     |none=>rw[hb]at Y;simp at Y
     |some y=>
      rw[hb]at Y;obtain⟨rfl,rfl⟩:=Y;refine .inr ⟨y,_,ls.map fun x=>{block:=b'.block,off:=x.1},rfl,?_,?_,?_⟩
      ·unfold World.viewLoad;simp only[bind,Except.bind,pure,Except.pure,C,hb]
      ·rcases I _ _ _ _ D with⟨b,rfl⟩|⟨k,n,rfl⟩<;>simp only[abH]at hb<;>(split at hb<;>first|(rw[<-Option.some.inj hb];constructor)|cases hb)
      ·intro y B;obtain⟨z,_,rfl⟩:=List.mem_map.1 B;exact⟨_,at_.block⟩
  |_=>exact .inl ⟨_,rfl,.inr ⟨_,rfl⟩⟩
theorem xh{X:Type}{f:Array _->X->Except String _}(D:∀cs bS x c1,VA r cs bS->f cs x=.ok c1->∃Y,f bS x=.ok Y/\VA r c1 Y):∀(l:List X) {cs bS c1:Array _},VA r cs bS->l.foldlM f cs=.ok c1->∃Y,l.foldlM f bS=.ok Y/\VA r c1 Y
 |[],cs,bS,c1,h,K=>by
  simp[List.foldlM_nil,pure,Except.pure,abh]at K⊢;simp_all
 |x::l,cs,bS,c1,h,K=>by
  simp[List.foldlM_cons,bind,Except.bind]at K⊢;cases H:f cs x with
  |error y=>rw[H]at K;simp at K
  |ok c2=>
   obtain⟨R,e,I⟩:=D _ _ _ _ h H;rw[H]at K;rw[e];exact xh D l I K
theorem W.farStore(h:W r c v w)(P:Program)(J:Ad r a a')(G:V r x x'):
  (∃y,v.farStore P a x false=.error y/\sY y)\/∃b b' o o' l l',¬aj.ro b/\r b=some b'/\O r o o'/\v.farStore P a x false=.ok ({v with heap:=v.heap.setIfInBounds b o},l)/\w.farStore P a' x' false=.ok ({w with heap:=w.heap.setIfInBounds b' o'},l')/\∀y∈l',y.block=b':=by
 obtain⟨o,o',T,X,R⟩:=h.obj _ _ J.block;simp only[World.farStore,World.noCell,T,X];cases R with
 |ro p n u hb=>exact .inl ⟨_,rfl,.inr ⟨_,rfl⟩⟩
 |same n R=>
  cases R with
  |view t n at_=>
   rename_i b b';simp only;cases Y:v.viewStore P b t a x false with
   |error y=>exact .inl ⟨_,rfl,.inl ⟨_,rfl,rfl⟩⟩
   |ok q=>
    obtain⟨v1,l⟩:=q;unfold abf at Y;simp only[bind,Except.bind,pure,Except.pure,aaG,throwThe,aaz]at Y;cases N:tight P P.depth t with
    |false=>rw[N]at Y;simp at Y
    |true=>
     rw[N]at Y;simp only[Bool.not_true,aaD,if_false]at Y;cases M:v.seen P b t a false with
     |error y=>rw[M]at Y;simp at Y
     |ok q=>
      obtain⟨cs,e,fz,first,like,ls⟩:=q;rw[M]at Y;simp only at Y;obtain⟨bS,d,f,m,k,g,E⟩:=Ae h P at_ J.off J.spot n t M;cases hb:x.bytes? with
      |none=>rw[hb]at Y;simp at Y
      |some bytes=>
       have ex:=xf G hb;subst ex;rw[hb]at Y;simp only at Y;by_cases A:some bytes.length≠like.bytes?.map (·.length)
       ·rw[if_pos A]at Y;simp at Y
       ·rw[if_neg A]at Y;split at Y
        ·cases Y
        ·rename_i c1 L;have key:=xh (r:=r) ?_ _ f L
         ·obtain⟨B,I,D⟩:=key;obtain⟨rfl,rfl⟩:=Y;refine .inr ⟨b.block,b'.block,.cells c1 e fz,.cells B e fz,_,ls.map fun x=>{block:=b'.block,off:=x.1},n,at_.block,.cells _ _ D,rfl,?_,fun y j=>?_⟩
          ·unfold abf;simp only[bind,Except.bind,pure,Except.pure,aaG,throwThe,aaz,N,d,hb,Bool.not_true,aaD,if_false,if_neg A,I]
          ·obtain⟨z,_,rfl⟩:=List.mem_map.1 j;rfl
         ·rintro cs bS ⟨i,s,bs⟩ c2 D K;simp only at K⊢;split at K
          ·cases K
          ·rename_i R;rw[if_neg R];split at K
           ·cases K
           ·rename_i Z;rw[if_neg Z];cases C:cs[i]? with
            |none=>rw[C]at K;simp at K
            |some old=>
             obtain⟨U,F,Q⟩:=D.get C;rw[C]at K;rw[F];simp only at K⊢;cases H:old.ofBytes ((bytes.drop (s-first)).take bs.length)with
             |none=>rw[H]at K;simp at K
             |some new=>
              have S:U=old:=by cases Q<;>first|rfl|(simp[abH]at H;done)
              have A:V r new new:=by cases Q<;>simp only[abH]at H<;>first|cases H|(split at H<;>first|(rw[<-Option.some.inj H];constructor)|cases H)
              rw[H]at K;rw[S,H];simp only[abh]at K⊢;subst K;exact⟨_,rfl,D.set _ A⟩
  |_=>exact .inl ⟨_,rfl,.inr ⟨_,rfl⟩⟩
theorem Out.setCell(h:W r c v w)(K:Ad r a a')(Y:¬aj.ro a.block)(F:V r x x'):Out r r c c v w (v.setCell a x) (w.setCell a' x'):=by
 obtain⟨o,o',A,U,H⟩:=h.obj _ _ K.block;simp[World.setCell];rw[modify_eq A,modify_eq U];refine Out.set h K.block Y ?_;cases H with
 |ro I n D hb=>exact absurd n Y
 |same n H=>
  cases H with
  |cells I fz D=>
   simp only;rw[K.spot,K.off];split
   ·exact .cells _ _ D
   ·exact .cells _ _ (D.set _ F)
  |map R C B=>exact .map R C B
  |stringIter s p=>exact .stringIter s p
  |cg a s n=>exact .cg a s n
  |mapIter a s n e=>exact .mapIter a s n e
  |loop l=>exact .loop l
  |view t n a=>exact .view t n a
  |number l a=>exact .number l a
  |deferred d=>exact .deferred d
theorem Out.freeze(h:W r c v w){a a':Addr}(H:Ad r a a')(Y:¬aj.ro a.block)(n:Nat):Out r r c c v w (v.freeze a n) (w.freeze a' n):=by
 obtain⟨o,o',A,U,K⟩:=h.obj _ _ H.block;simp[World.freeze];split
 ·exact .refl h
 rw[modify_eq A,modify_eq U];refine Out.set h H.block Y ?_;cases K with
 |ro I n D hb=>exact absurd n Y
 |same n K=>
  cases K with
  |cells I fz D=>simp[H.off];exact .cells _ _ D
  |map R C B=>exact .map R C B
  |stringIter s p=>exact .stringIter s p
  |cg a s n=>exact .cg a s n
  |mapIter a s n e=>exact .mapIter a s n e
  |loop l=>exact .loop l
  |view t n a=>exact .view t n a
  |number l a=>exact .number l a
  |deferred d=>exact .deferred d
def vo(r:Rn)(w:World)(u:Nat)(e:Event):=
 (∃a:Addr,e.loc=.cell a/\e.sync=false/\((∃b,r b=some a.block/\(e.write=true->¬aj.ro b))\/(w.heap.size<=a.block/\a.block<u)))\/
 (∃a:Nat,e.loc=.obj a/\e.sync=false/\((∃b,r b=some a/\(e.write=true->¬aj.ro b))\/(w.heap.size<=a/\a<u)))\/
 (∃m,e.loc=.mark m/\(m=.noRoom\/∃f,m=.extern f))\/e.loc=.output
theorem vo.mono{D:Nat}(hu:u<=D){e:Event}(h:vo r w u e):vo r w D e:=by
 rcases h with⟨a,Y,K,H⟩|⟨a,Y,K,H⟩|h
 ·exact .inl ⟨a,Y,K,H.imp id fun x=>⟨x.1,aao x.2 hu⟩⟩
 ·exact .inr (.inl ⟨a,Y,K,H.imp id fun x=>⟨x.1,aao x.2 hu⟩⟩)
 ·exact .inr (.inr h)
theorem vo.back{r1:Rn}{c1:Nat}{w1:World}(o:Out r r1 c c1 v w v1 w1)(hu:w1.heap.size<=u){e:Event}(h:vo r1 w1 u e):vo r w u e:=by
 have key:∀(a:Nat) (wr:Bool),((∃b,r1 b=some a/\(wr=true->¬aj.ro b))\/(w1.heap.size<=a/\a<u))->(∃b,r b=some a/\(wr=true->¬aj.ro b))\/(w.heap.size<=a/\a<u):=by
  rintro a wr (⟨b,hb,hw⟩|hb)
  ·rcases o.fresh b a hb with x|x
   ·exact .inl ⟨b,x,hw⟩
   ·exact .inr ⟨x.1,aao (o.wl.lt hb).2 hu⟩
  ·exact .inr ⟨aal o.grow hb.1,hb.2⟩
 rcases h with⟨a,Y,K,H⟩|⟨a,Y,K,H⟩|h
 ·exact .inl ⟨a,Y,K,key _ _ H⟩
 ·exact .inr (.inl ⟨a,Y,K,key _ _ H⟩)
 ·exact .inr (.inr h)
inductive RR{α:Type}(A:Rn->α->α->Prop)(r:Rn)(c:Nat)(es:Array Event)(v w:World):Result α->Result α×Array Event->Prop
 |ok {a a':α} {v1 w1:World} {fs:Array Event} (r1:Rn) (c1:Nat):Out r r1 c c1 v w v1 w1->A r1 a a'->(∀e∈fs,e∈es\/vo r w w1.heap.size e)->RR A r c es v w (.ok a v1) (.ok a' w1,fs)
 |halt {h h':Halt} {v1 w1:World} {fs:Array Event} (r1:Rn) (c1:Nat):Out r r1 c c1 v w v1 w1->Hl r1 h h'->(∀e∈fs,e∈es\/vo r w w1.heap.size e)->RR A r c es v w (.halt h v1) (.halt h' w1,fs)
 |lost {h:Halt} {v1:World} {x:Result α×Array Event}:sY h->RR A r c es v w (.halt h v1) x
 |sx {x:Result α} {y:Result α×Array Event}:v.drawn+c<x.world.drawn->w.drawn+c<y.1.world.drawn->RR A r c es v w x y
theorem RR.after{α:Type}{A:Rn->α->α->Prop}{r1:Rn}{c1:Nat}{es Y:Array _}{w1:World}{x:Result α}{x':Result α×Array _}(o:Out r r1 c c1 v w v1 w1)(he:∀e∈Y,e∈es\/vo r w 0 e)(h:RR A r1 c1 Y v1 w1 x x'):RR A r c es v w x x':=by
 have ev:∀{fs:Array _} {u:Nat},w1.heap.size<=u->(∀e∈fs,e∈Y\/vo r1 w1 u e)->∀e∈fs,e∈es\/vo r w u e:=fun hu k e K=>(k e K).elim (fun x=>(he e x).imp id fun y=>y.mono (aav _)) fun x=>.inr (x.back o hu);cases h with
 |ok r2 c2 o2 a f=>exact .ok r2 c2 (o.trans o2) a (ev o2.grow f)
 |halt r2 c2 o2 a f=>exact .halt r2 c2 (o.trans o2) a (ev o2.grow f)
 |lost h=>exact .lost h
 |sx h k=>exact .sx (by have:=o.drew;omega) (by have:=o.xe;omega)
theorem RR.stuck{α:Type}{A:Rn->α->α->Prop}{es:Array _}(y:String){x:Result α×Array _}:RR A r c es v w (.halt (.stuck y) v) x:=.lost (.inr ⟨_,rfl⟩)
theorem RR.here{α:Type}{A:Rn->α->α->Prop}{es Y:Array _}{x:Result α}{x':Result α×Array _}(h:W r c v w)(he:∀e∈Y,e∈es\/vo r w 0 e)(k:RR A r c Y v w x x'):RR A r c es v w x x':=k.after (.refl h) he
omit [aj]in
theorem mem_push{es:Array _}{e x:Event}(h:x∈es.push e):x∈es\/x=e:=Array.mem_push.1 h
omit [aj]in
theorem lD{es:Array _}{Q:Event->Prop}:∀e∈es,e∈es\/Q e:=fun _ h=>.inl h
theorem SR.run{α:Type}{A:Rn->α->α->Prop}(Z:MS P){s s':Sem α}(h:SR P A r s s'):∀{c:Nat} {v w:World} (es:Array Event),W r c v w->RR A r c es v w (s.run P v) (s'.runT P w es):=by
 induction h with
 |pure a=>exact fun es hw=>.ok _ _ (.refl hw) a lD
 |@load r a a' k k' H _ Y=>
  intro c v w es hw;simp only[Sem.run,aaE];cases C:v.cell? a with
  |some x=>
   obtain⟨x',T,B⟩:=hw.cell H C;rw[T];refine(Y r x x' (.refl _) B _ hw).here hw fun e he=>?_;rcases mem_push he with he|rfl
   ·exact .inl he
   ·exact .inr (.inl ⟨a',rfl,rfl,.inl ⟨_,H.block,fun x=>by cases x⟩⟩)
  |none=>
   rw[hw.noCell H C];have em:(Mode.plain==Mode.atomic)=false:=rfl;simp only[em];rcases hw.farLoad Z H with⟨y,e,F⟩|⟨x,l,l',e,e',B,V⟩
   ·rw[e];exact .lost F
   ·rw[e,e'];simp only;refine(Y r x x (.refl _) B _ hw).here hw fun z D=>?_;rcases abY.1 D with D|D
    ·exact .inl D
    ·simp only[Array.mem_map,abZ]at D;obtain⟨y,hm,rfl⟩:=D;obtain⟨b,hb⟩:=V y hm;exact .inr (.inl ⟨y,rfl,rfl,.inl ⟨b,hb,fun x=>by cases x⟩⟩)
 |@store r a a' x x' k k' H J _ Y=>
  intro c v w es hw;have main:(∀c,x≠.agg c)->(∀c,x≠.tuple c)->(∀c,x'≠.agg c)->(∀c,x'≠.tuple c)->RR A r c es v w ((Sem.store .plain a x k).run P v) ((Sem.store .plain a' x' k').runT P w es):=by
   intro n1 n2 n3 n4;have M:=Sem.run.eq_5 P v .plain a x k n1 n2;have N:=Sem.runT.eq_5 P w es .plain a' x' k' n3 n4;rw[M,N];cases C:v.cell? a with
   |some y=>
    obtain⟨u,X,_⟩:=hw.cell H C;rw[X];simp only;by_cases K:aj.ro a.block
    ·rw[hw.Jb H K C];exact .lost (.inl ⟨_,rfl,rfl⟩)
    ·rw[hw.frozen H K];split
     ·exact .lost (.inl ⟨_,rfl,rfl⟩)
     ·refine(Y r (.refl _) _ (Out.setCell hw H K J).wl).after (Out.setCell hw H K J) fun e he=>?_;rcases mem_push he with he|rfl
      ·exact .inl he
      ·exact .inr (.inl ⟨a',rfl,rfl,.inl ⟨_,H.block,fun _=>K⟩⟩)
   |none=>
    rw[hw.noCell H C];have em:(Mode.plain==Mode.atomic)=false:=rfl;simp only[em];rcases hw.farStore P H J with⟨y,e,F⟩|⟨b,b',o,o',l,l',K,hb,R,e,e',V⟩
    ·rw[e];exact .lost F
    ·rw[e,e'];simp only;refine(Y r (.refl _) _ (Out.set hw hb K R).wl).after (Out.set hw hb K R) fun z D=>?_;rcases abY.1 D with D|D
     ·exact .inl D
     ·simp only[Array.mem_map,abZ]at D;obtain⟨y,hm,rfl⟩:=D;exact .inr (.inl ⟨y,rfl,rfl,.inl ⟨b,by rw[V y hm];exact hb,fun _=>K⟩⟩)
  cases J with
  |agg _ _=>exact .stuck _
  |tuple _ _=>exact .stuck _
  |blank _=>exact .stuck _
  |_=>exact main (fun _ h=>by cases h) (fun _ h=>by cases h) (fun _ h=>by cases h) (fun _ h=>by cases h)
 |@new r o o' k k' R _ Y=>
  intro c v w es hw;simp only[Sem.run,aaE];have q:=Out.new hw R;exact(Y _ _ _ q.le (by show(if v.heap.size=v.heap.size then some w.heap.size else r v.heap.size)=_;rw[if_pos rfl]) es q.wl).after q lD
 |@shape r b b' k k' e _ Y=>
  intro c v w es hw;simp only[Sem.run,aaE,hw.shape e];exact Y r _ (.refl _) es hw
 |@freeze r a a' n k k' z H _ Y=>
  intro c v w es hw;simp only[Sem.run,aaE];exact(Y r (.refl _) es (Out.freeze hw H (z _) n).wl).after (Out.freeze hw H (z _) n) lD
 |@frozen r a a' k k' z H _ Y=>
  intro c v w es hw;simp only[Sem.run,aaE,hw.frozen H (z _)];exact Y r _ (.refl _) es hw
 |@getObj r b b' k k' e _ Y=>
  intro c v w es hw;obtain⟨o,o',Q,S,I⟩:=hw.obj _ _ e;simp only[Sem.run,aaE,Q,S];cases I with
  |ro L n B hb=>exact .stuck _
  |same n I=>
   have go:∀{p p':Obj},O r p p'->p'.isChan=false->RR A r c es v w ((k p).run P v) ((k' p').runT P w (es.push ⟨.obj b',false,p'.isChan⟩)):=by
    intro p p' f U;refine(Y r _ _ (.refl _) f _ hw).here hw fun x he=>?_;rcases mem_push he with he|rfl
    ·exact .inl he
    ·exact .inr (.inr (.inl ⟨b',rfl,U,.inl ⟨_,e,fun x=>by cases x⟩⟩))
   cases I with
   |cells L fz B=>exact .stuck _
   |map E g j=>exact go (.map E g j) rfl
   |stringIter s p=>exact go (.stringIter s p) rfl
   |cg a s n=>exact go (.cg a s n) rfl
   |mapIter a s n e=>exact go (.mapIter a s n e) rfl
   |loop l=>exact go (.loop l) rfl
   |view t n a=>exact go (.view t n a) rfl
   |number l a=>exact go (.number l a) rfl
   |deferred d=>exact go (.deferred d) rfl
 |@setObj r b b' o o' k k' e R _ Y=>
  intro c v w es hw;obtain⟨p,p',Q,S,I⟩:=hw.obj _ _ e;simp only[Sem.run,aaE,Q,S];have U:o'.isChan=false:=by cases R<;>rfl
  cases I with
  |ro L n B hb=>exact .stuck _
  |same n I=>
   have go:RR A r c es v w (k.run P {v with heap:=v.heap.setIfInBounds b o}) (k'.runT P {w with heap:=w.heap.setIfInBounds b' o'} (es.push ⟨.obj b',true,o'.isChan⟩)):=by
    refine(Y r (.refl _) _ (Out.set hw e n R).wl).after (Out.set hw e n R) fun x he=>?_;rcases mem_push he with he|rfl
    ·exact .inl he
    ·exact .inr (.inr (.inl ⟨b',rfl,U,.inl ⟨_,e,fun _=>n⟩⟩))
   cases I with
   |cells L fz B=>exact .stuck _
   |_=>exact go
 |@choose r q k k' _ Y=>
  intro c v w es hw;simp only[Sem.run,aaE];split
  ·exact Y r _ (.refl _) es hw
  ·cases c with
   |zero=>
    refine .sx ?_ ?_
    ·exact aao (ab0 _) (mn (P:=P) (k (q.cut (v.tape v.drawn q))) {v with drawn:=v.drawn+1})
    ·rw[Sem.runT_eq];exact aao (ab0 _) (mn (P:=P) (k' (q.cut (w.tape w.drawn q))) {w with drawn:=w.drawn+1})
   |succ c=>
    have:=hw.tape 0 q (by omega);simp only[Nat.add_zero]at this;rw[<-this];exact(Y r _ (.refl _) es (Out.draw hw).wl).after (Out.draw hw) lD
 |@env r k k' _ Y=>
  intro c v w es hw;have M:(Sem.sys .env k).run P v=(k (.strings v.os.env)).run P v:=rfl;have N:(Sem.sys .env k').runT P w es=(k' (.strings w.os.env)).runT P w (es.push ⟨.output,true,false⟩):=rfl;rw[M,N,hw.env];refine(Y r _ (.refl _) _ hw).here hw fun e he=>?_;rcases mem_push he with he|rfl
  ·exact .inl he
  ·exact .inr (.inr (.inr (.inr rfl)))
 |program _ Y=>exact fun es hw=>Y _ (.refl _) es hw
 |mark m hm _ Y=>
  intro c v w es hw;simp only[Sem.run,aaE];refine(Y _ (.refl _) _ hw).here hw fun e he=>?_;rcases mem_push he with he|rfl
  ·exact .inl he
  ·exact .inr (.inr (.inr (.inl ⟨m,rfl,hm⟩)))
 |halt G=>exact fun es hw=>.halt _ _ (.refl hw) G lD
 |lost F=>
  intro c v w es hw;obtain⟨x,v1,e,h⟩:=F v;rw[e];exact .lost h
end runs
abbrev fi[aj]{α:Type}:Rn->α->α->Prop:=fun _ a b=>a=b
def kS[aj](P:Program):=∀t i z,P.info? t=some i->i.zero=some z->∀r,V r z z
section
variable[aj]{P:Program}{r:Rn}{α:Type}{A:Rn->α->α->Prop}
theorem ae(Y:String){s:Sem α}:SR P A r (stuck Y) s:=.lost fun _=>⟨_,_,rfl,.inr ⟨_,rfl⟩⟩
theorem af(u:Unsupported)(hu:yz u=false:=by rfl){s:Sem α}:SR P A r (unsupported u) s:=.lost fun _=>⟨_,_,rfl,.inl ⟨_,rfl,hu⟩⟩
theorem iC{v:Value}(h:V r v v'):SR P A r (goPanic v) (goPanic v'):=.halt (.panic h)
theorem aV:SR P (fun _ a b=>a=P/\b=P) r program program:=.program fun _ _=>.pure ⟨rfl,rfl⟩
theorem c9(q:Question):SR P fi r (choose q) (choose q):=.choose q fun _ _ _=>.pure rfl
theorem sy(h:Ad r a a'):SR P V r (load a) (load a'):=.load h fun _ _ _ _ e=>.pure e
theorem Jc(h:Ad r a a'){v:Value}(Y:V r v v'):SR P fi r (store a v) (store a' v'):=.store h Y fun _ _=>.pure rfl
theorem nU(h:O r o o'):SR P (fun r b b'=>r b=some b') r (newObj o) (newObj o'):=.new h fun _ _ _ _ e=>.pure e
theorem c_(h:r b=some b'):SR P fi r (shape b) (shape b'):=.shape h fun _ _ _=>.pure rfl
theorem mq(z:∀b,¬aj.ro b)(h:Ad r a a'):SR P fi r (frozen a) (frozen a'):=.frozen z h fun _ _ _=>.pure rfl
theorem xi(z:∀b,¬aj.ro b)(h:Ad r a a')(n:Nat):SR P fi r (freeze a n) (freeze a' n):=.freeze n z h fun _ _=>.pure rfl
theorem bP(h:r b=some b'):SR P O r (getObj b) (getObj b'):=.getObj h fun _ _ _ _ e=>.pure e
theorem eV(h:r b=some b')(Y:O r o o'):SR P fi r (setObj b o) (setObj b' o'):=.setObj h Y fun _ _=>.pure rfl
theorem nV(n:Nat):SR P fi r (askRoom n) (askRoom n):=by
 unfold askRoom;split
 ·exact .mark _ (.inl rfl) fun _ _=>.pure rfl
 ·exact .pure rfl
theorem bU(t:TypeId):SR P (fun _ i j=>i=j/\P.info? t=some i) r (typeInfo t) (typeInfo t):=by
 refine SR.bind aV ?_;rintro s p q _ ⟨Y,K⟩;rw[Y,K];cases h:P.info? t with
 |some i=>exact .pure ⟨rfl,rfl⟩
 |none=>exact ae _
theorem ar(t:TypeId):SR P fi r (underlying t) (underlying t):=by
 refine SR.bind aV ?_;rintro s p q _ ⟨Y,K⟩;rw[Y,K];cases h:P.underlying t with
 |some i=>exact .pure rfl
 |none=>exact ae _
theorem bh(t:TypeId):SR P fi r (sizeOf t) (sizeOf t):=by
 refine SR.bind (bU t) ?_;rintro s i _ _ ⟨rfl,_⟩;exact .pure rfl
theorem j0(Z:kS P)(t:TypeId):SR P V r (zeroValue t) (zeroValue t):=by
 refine SR.bind (bU t) ?_;rintro s i _ _ ⟨rfl,h⟩;cases Y:i.zero with
 |some z=>exact .pure (Z t i z h Y s)
 |none=>exact af _
theorem Af(t:TypeId):SR P fi r (isAgg t) (isAgg t):=by
 refine SR.bind (ar t) ?_;rintro s d _ _ rfl;split<;>exact .pure rfl
theorem p9(t:TypeId):SR P fi r (elemOf t) (elemOf t):=by
 refine SR.bind (ar t) ?_;rintro s d _ _ rfl;split
 ·exact .pure rfl
 ·exact ae _
theorem Ad.add(h:Ad r a a')(n:Nat):Ad r (a.add n) (a'.add n):=by
 unfold Addr.add;split
 ·exact h
 ·exact⟨h.block,by simp[h.off],rfl⟩
theorem VA.push{c c':Array _}(h:VA r c c')(D:V r x x'):VA r (c.push x) (c'.push x'):=by
 refine⟨by simp[h.size],fun i y H e e'=>?_⟩;have K:=h.size;rw[aaB]at e e';rw[<-K]at e';split at e
 ·simp_all
 ·rename_i Y;rw[if_neg Y]at e';exact h.at_ i y H e e'
theorem VA.nil:VA r #[] #[]:=⟨rfl,fun i x x' e=>by simp⟩
theorem VA.extract{c c':Array _}(h:VA r c c')(i j:Nat):VA r (c.extract i j) (c'.extract i j):=by
 have Y:=h.size;refine⟨by simp[Y],fun k x x' e e'=>?_⟩;simp only[Array.getElem?_extract,Y]at e e';split at e
 ·rename_i hk;rw[if_pos hk]at e';exact h.at_ _ x x' e e'
 ·cases e
theorem jA:∀n i {r:Rn} {a a':Addr} {c c':Array _},Ad r a a'->VA r c c'->SR P VA r (loadCellsFrom a i n c) (loadCellsFrom a' i n c')
 |0,i,r,a,a',c,c',h,Y=>.pure Y
 |n+1,i,r,a,a',c,c',h,Y=>by
  refine SR.bind (sy (h.add i)) ?_;intro s v v' l K;exact jA n _ (h.mono l) ((Y.mono l).push K)
theorem j6(n:Nat)(h:Ad r a a'):SR P VA r (loadCells a n) (loadCells a' n):=jA n 0 h .nil
inductive VL(r:Rn):List Value->List Value->Prop
 |nil:VL r [] []
 |cons {x y:Value} {xs ys:List Value}:V r x y->VL r xs ys->VL r (x::xs) (y::ys)
theorem VL.mono{s:Rn}(h:Le r s){xs ys:List _}(k:VL r xs ys):VL s xs ys:=by
 induction k with
 |nil=>exact .nil
 |cons x _ Y=>exact .cons (x.mono h) Y
theorem VA.toList{c c':Array _}(h:VA r c c'):VL r c.toList c'.toList:=by
 obtain⟨c⟩:=c;obtain⟨c'⟩:=c';obtain⟨Y,K⟩:=h;induction c generalizing c' with
 |nil=>cases c' with
  |nil=>exact .nil
  |cons y ys=>simp at Y
 |cons x xs H=>cases c' with
  |nil=>simp at Y
  |cons y ys=>exact .cons (K 0 x y rfl rfl) (H ys (by simpa using Y) fun i a b e e'=>K (i+1) a b (by simpa using e) (by simpa using e'))
theorem VL.toArray{xs ys:List _}(h:VL r xs ys):VA r xs.toArray ys.toArray:=by
 induction h with
 |nil=>exact .nil
 |cons x _ H=>
  obtain⟨K,Y⟩:=H;simp at K Y;refine⟨by simp_all,fun i a b e e'=>?_⟩;simp at e e';cases i with
  |zero=>simp at e e';simp_all
  |succ i=>exact Y i a b e e'
theorem dK:∀{xs ys:List _} i {r:Rn} {a a':Addr},Ad r a a'->VL r xs ys->SR P fi r (storeCells a xs i) (storeCells a' ys i)
 |_,_,i,r,a,a',h,.nil=>.pure rfl
 |_,_,i,r,a,a',h,.cons x xs=>by
  refine SR.bind (Jc (h.add i) x) ?_;intro s _ _ l _;exact dK _ (h.mono l) (VL.mono l xs)
theorem V.cells{x y:Value}(h:V r x y):VA r x.cells y.cells:=by
 have one:∀{x y:Value},V r x y->VA r _ _:=fun h=>(VL.toArray (.cons h .nil));cases h with
 |agg K Y=>exact⟨K,Y⟩
 |blank h=>
  have e:y.cells=#[y]:=by cases y<;>first|rfl|simp[Hid]at h
  rw[e];exact one (.blank h)
 |func a b c d e=>exact one (.func a b c d e)
 |tuple K Y=>exact one (.tuple K Y)
 |iface t h=>exact one (.iface t h)
 |ptr a=>exact one (.ptr a)
 |slice l c a=>exact one (.slice l c a)
 |map e=>exact one (.map e)
 |chan e=>exact one (.chan e)
 |bool b=>exact one (.bool b)
 |int k n=>exact one (.int k n)
 |string s=>exact one (.string s)
 |nilPtr=>exact one .nilPtr
 |aT l c=>exact one (.aT l c)
 |eR=>exact one .eR
 |ep=>exact one .ep
 |nilFunc=>exact one .nilFunc
 |nilIface=>exact one .nilIface
theorem sZ(t:TypeId)(h:Ad r a a'):SR P V r (loadVar t a) (loadVar t a'):=by
 refine SR.bind (Af t) ?_;rintro s b _ l rfl;split
 ·refine SR.bind (bh t) ?_;rintro u n _ K rfl;refine SR.bind (j6 n ((h.mono l).mono K)) ?_;intro q c c' _ Y;exact .pure (.agg Y.size Y.at_)
 ·exact sy (h.mono l)
theorem Ag(t:TypeId)(h:Ad r a a')(Y:V r x x'):SR P fi r (storeVar t a x) (storeVar t a' x'):=by
 refine SR.bind (bh t) ?_;rintro s n _ l rfl;rw[Y.cells.size];split
 ·refine SR.bind (ae (A:=fi) _) ?_;rintro u _ _ K rfl;exact dK 0 ((h.mono l).mono K) ((Y.cells.toList.mono l).mono K)
 ·exact dK 0 (h.mono l) (Y.cells.toList.mono l)
theorem fS(t:TypeId){c c':Array _}(h:VA r c c'):SR P Ad r (newRow t c) (newRow t c'):=by
 refine SR.bind (nU (.cells t _ h)) ?_;intro s b b' l e;exact .pure ⟨e,rfl,rfl⟩
theorem p_(t:TypeId)(h:V r x x'):SR P Ad r (newVar t x) (newVar t x'):=fS t h.cells
theorem Fc(t:TypeId){c c':Array _}(h:VA r c c')(o:Nat):SR P V r (part t c o) (part t c' o):=by
 refine SR.bind (Af t) ?_;rintro s b _ l rfl;split
 ·refine SR.bind (bh t) ?_;rintro u n _ H rfl;have q:=((h.mono l).mono H).extract o (o+n);exact .pure (.agg q.size q.at_)
 ·cases Y:c[o]? with
  |some x=>
   obtain⟨x',e,K⟩:=h.get Y;rw[e];exact .pure (K.mono l)
  |none=>exact ae _
end
end Ren
end Go.Proofs.YtdcjnhipenbcfaaGreatDoor
