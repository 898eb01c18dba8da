/-
  Own text. Part 1 of what the claim rests on.
-/
import Derived.Test.YtdcjnhipenbcfaaGreatDoorProg
import Derived.WalkKit
import Derived.WalkSpells
import Derived.WalkLawsBesides
import Derived.Deep.Light
import Derived.Lib.LaidTab
import Derived.Lib.ItoaNum
import Derived.Below
import Derived.Laws.MakeOwn
import Derived.Laws.OwnMore
import Derived.Laws.IdiomStrings
import Derived.Deep.RegionHeld3
import Derived.Deep.QuietTactic
import Derived.BigQuiet
import Derived.RegionTactic
import Derived.Lib.Builder
import Derived.OwnWalk
import Derived.Lib.MinMax
import Derived.ChangeAlike
import Derived.RegionDies
import Derived.Defers
import Derived.Recover
import Derived.Handy
set_option linter.unusedVariables false
set_option linter.unusedSectionVars false
set_option linter.unusedSimpArgs false
set_option maxRecDepth 100000
set_option maxHeartbeats 16000000
open Array renaming toList_extract->abv,ext'->abF,getElem?_eq_none->acE,replicate->adr
open Bool renaming not_eq_true->aak,noConfusion->abT
open ByteArray renaming data_extract->abo,ext->abB,size_extract->acA
open Go.Addr renaming add->abO
open Go.ByteArray renaming toList_eq->aby
open Go.Calls renaming quiet_of_same->aal,quiet_of->aar
open Go.Ending renaming returned->ab1
open Go.Instr renaming makeSlice->abp
open Go.IntKind renaming i64->aas
open Go.IntWalk renaming i64_in->aaq
open Go.Proofs.Tryz renaming prog->aah,ntmps84->aaS,func84->aaV,ntmps100->abE,func100->abP,f138->ab5,ntmps70->acT,ntmps94->acY,underlying79->acZ,func70->ac9,func94->adg
open Go.RowKit.Below renaming heap_alloc->aaU,refl->abq
open Go.Value renaming int->aaT,string->abN
open Go.World renaming cell?_setCell_other->aai,cell?_alloc_past->aaD,cell?_alloc_at->aaH,cell?_setCell_same->abb,drewN_drewN->abn,setCell_alloc_at->aca,frozen?_alloc_at->acz
open Int renaming natCast_nonneg->aaE
open List renaming take_succ_eq_append_getElem->aat,getElem?_eq_getElem->aaO,drop_eq_getElem_cons->aaZ,range->abt,map_append->abu,getElem?_range->abx,getD_eq_getElem?_getD->abC,extract_eq_take_drop->abH,range_succ->ab2,drop_of_length_le->ab8,take_of_length_le->ab9,replicate->acF,replicate_succ->acP,length_append->acS,getElem?_map->ac0,flatMap_cons->ac5,append_assoc->ac8,length_take->adk
open Nat renaming le_refl->aao,zero_le->aau,lt_or_ge->aaQ,sub_self->aa6,eq_zero_or_pos->acQ
open Option.some renaming inj->adl
open UInt8 renaming ofNat->ab6,toNat_ofNat'->acR
open UInt8.toNat renaming inj->aaP
namespace Go.Proofs.YtdcjnhipenbcfaaGreatDoor
variable {a:Addr}{t:Bool}{m nm s:ByteArray}{c least z:Int}{k:IntKind}{B G H b d e f i j n p q x y:Nat}{g:Nat->Nat}{o:Obj}{r:Option Nat}{T:TypeId}{u0 u1 v:Value}{w w' wr:World}
section
open RowKit
theorem jQ{a b:Int}(h:a=b):ab1 (.int k a)=.returned (.int k b):=by rw[h]
theorem bG{a b:Bool}(h:a=b):ab1 (.bool a)=.returned (.bool b):=by rw[h]
def Gf(n:Int):=if 97<=n/\n<=122 then n-32 else n
def Ry(n:Int):=decide (Gf n=65)||decide (Gf n=67)||decide (Gf n=71)||decide (Gf n=84)||decide (Gf n=78)
def vD(n:Int):Int:=if n=65 then 84 else if n=84 then 65 else if n=67 then 71 else if n=71 then 67 else 78
theorem CC(n:Int)(h0:0<=n)(h1:n<=255)(w:World):
  Calls aah 97 #[.int .u8 n] w fun e w'=>e=.returned (.int .u8 (Gf n))/\w'=w:=by
 by_cases ha:97<=n
 ·by_cases hb:n<=122
  ·go_wp2
   go_ret
   exact⟨jQ (by unfold Gf;rw[if_pos ⟨ha,hb⟩];omega),rfl⟩
  ·go_wp2
   go_ret
   exact⟨jQ (by unfold Gf;rw[if_neg (by omega)]),rfl⟩
 ·go_enter Tryz.func97,Tryz.ntmps97
  go_wp2
  go_ret
  exact⟨jQ (by unfold Gf;rw[if_neg (by omega)]),rfl⟩
theorem Kh(n:Int)(h0:0<=n)(h1:n<=255)(w:World):
  Calls aah 71 #[.int .u8 n] w fun e w'=>e=.returned (.bool (Ry n))/\w'=w:=by
 go_enter Tryz.func71,Tryz.ntmps71
 go_wp2_with(refine(CC _ h0 h1 _).mono ?_;rintro e w' ⟨rfl,rfl⟩)
 all_goals go_ret
 all_goals(exact⟨bG (by simp_all[Ry]),rfl⟩)
theorem Gg(n:Int)(h0:0<=n)(h1:n<=255)(w:World):
  Calls aah 79 #[.int .u8 n] w fun e w'=>e=.returned (.int .u8 (vD n))/\w'=w:=by
 go_wp2
 all_goals go_ret
 all_goals(exact⟨jQ (by simp_all[vD]),rfl⟩)
theorem Wm(n:Int)(w:World):
  Calls aah 54 #[.int .i64 n] w fun e w'=>e=.returned (.int .i64 n)/\w'=w:=by
 go_wp2
 go_ret
 simp_all
def bsI(n:Int):ByteArray:=
 if n=65\/n=97 then⟨#[65]⟩else if n=67\/n=99 then⟨#[67]⟩else if n=71\/n=103 then⟨#[71]⟩else if n=84\/n=116 then⟨#[84]⟩else if n=78\/n=110 then⟨#[78]⟩else⟨#[]⟩
theorem cP{a b:ByteArray}(h:a=b):ab1 (.string a)=.returned (.string b):=by rw[h]
theorem Gh(n:Int)(h0:0<=n)(h1:n<=255)(w:World):
  Calls aah 103 #[.int .u8 n] w fun e w'=>e=.returned (.string (bsI n))/\w'=w:=by
 go_wp2
 all_goals go_ret
 all_goals(go_light;exact⟨cP (by simp_all[bsI]),rfl⟩)
def gb(b:UInt8):=ab6 (Gf b.toNat).toNat
def pR(b:UInt8):=Ry b.toNat
def pb(b:UInt8):=ab6 (vD b.toNat).toNat
theorem Rz(n:Int)(h0:0<=n)(h1:n<=255):bsI n=if Ry n then⟨#[ab6 (Gf n).toNat]⟩else⟨#[]⟩:=by
 unfold bsI Ry Gf;by_cases a:97<=n/\n<=122
 ·by_cases e1:n=97
  ·subst e1;decide
  by_cases e2:n=99
  ·subst e2;decide
  by_cases e3:n=103
  ·subst e3;decide
  by_cases e4:n=116
  ·subst e4;decide
  by_cases e5:n=110
  ·subst e5;decide
  rw[if_neg (by omega),if_neg (by omega),if_neg (by omega),if_neg (by omega),if_neg (by omega),if_neg];simp;omega
 ·by_cases e1:n=65
  ·subst e1;decide
  by_cases e2:n=67
  ·subst e2;decide
  by_cases e3:n=71
  ·subst e3;decide
  by_cases e4:n=84
  ·subst e4;decide
  by_cases e5:n=78
  ·subst e5;decide
  rw[if_neg (by omega),if_neg (by omega),if_neg (by omega),if_neg (by omega),if_neg (by omega),if_neg];simp;omega
theorem jR(b:UInt8):0<=(b.toNat:Int):=by omega
theorem iH(b:UInt8):(b.toNat:Int)<=255:=by have:=b.toNat_lt;omega
theorem laid{p:Prop}(h:p):Hid p:=h
theorem RA(b:UInt8)(hb:pR b=true)(w:World):
  Calls aah 103 #[.int .u8 b.toNat] w fun e w'=>e=.returned (.string ⟨#[gb b]⟩)/\w'=w:=by
 have h:=Gh _ (jR b) (iH b) w;rw[Rz _ (jR b) (iH b)]at h;unfold pR at hb;simpa only[hb,if_true,gb]using h
theorem Wn(b:UInt8)(hb:pR b=false)(w:World):
  Calls aah 103 #[.int .u8 b.toNat] w fun e w'=>e=.returned (.string ⟨#[]⟩)/\w'=w:=by
 have h:=Gh _ (jR b) (iH b) w;rw[Rz _ (jR b) (iH b)]at h;unfold pR at hb;simp_all
structure tq where
 kind:Int
 k:Int
 q:Int
 step:Int
 workers:Int
 ref:ByteArray
 s:ByteArray
def tq.val(o:tq):Value:=.agg #[.int .i64 o.kind,.int .i64 o.k,.int .i64 o.q,.int .i64 o.step,.int .i64 o.workers,.string o.ref,.string o.s]
def BU(w:World)(b off:Nat)(o:tq):=
 w.cell? ⟨b,off,none⟩=some (.int .i64 o.kind)/\w.cell? ⟨b,off+1,none⟩=some (.int .i64 o.k)/\w.cell? ⟨b,off+2,none⟩=some (.int .i64 o.q)/\
 w.cell? ⟨b,off+3,none⟩=some (.int .i64 o.step)/\w.cell? ⟨b,off+4,none⟩=some (.int .i64 o.workers)/\
 w.cell? ⟨b,off+5,none⟩=some (.string o.ref)/\w.cell? ⟨b,off+6,none⟩=some (.string o.s)
def cf(w:World):=Lib.TabIs aah w "internal/strconv.uint64pow10" .u64 Lib.pow10Tab
theorem cf.on(h:cf w)(hb:Below w.heap.size w w'):cf w':=by
 unfold cf Lib.TabIs World.var? at *;cases hg:Program.globalNamed _ _ with
 |none=>simp[hg]at h
 |some g=>
  simp[hg,Option.bind_some]at h⊢;have aV:g<w.heap.size:=by
   rcases aaQ g _ with h'|h'
   ·omega
   ·simp_all
  rw[hb.block g aV];exact h
def Gi(w:World)(a:Option Addr)(len cap:Nat)(os:Nat->tq):=
 len=0\/∃b off,a=some ⟨b,off,none⟩/\len<=maxLen/\(∀i,i<len->BU w b (off+i *7) (os i))/\∀i,i<len->(os i).ref.size<=maxLen/\(os i).s.size<=maxLen
def str(l:List UInt8):ByteArray:=⟨l.toArray⟩
theorem au(l:List _):(str l).size=l.length:=rfl
theorem bM(l m:List _):str l++str m=str (l++m):=by
 apply abB;simp[str]
theorem zw(l:List _)(b:UInt8):str l++⟨#[b]⟩=str (l++[b]):=bM l [b]
theorem CD(s:ByteArray):s.data.toList.length=s.size:=by simp
theorem CE(s:ByteArray)(k:Nat)(h:k<s.size):s.data.toList.take (k+1)=s.data.toList.take k++[s[k]]:=by
 rw[aat _];rfl
theorem ax{a b:Int}(h:a=b):aaT k a=aaT k b:=by rw[h]
theorem b_{a b:ByteArray}(h:a=b):abN a=abN b:=by rw[h]
def bI(s:ByteArray)(j:Nat):=str ((s.data.toList.drop j).map pb).reverse
theorem lL(s:ByteArray)(j:Nat):(bI s j).size<=s.size:=by
 unfold bI;rw[au];simp
theorem drop_cons(s:ByteArray)(k:Nat)(h:k<s.size):s.data.toList.drop k=s[k]::s.data.toList.drop (k+1):=by
 rw[aaZ _];rfl
theorem Ki(s:ByteArray)(j:Nat)(h:j<s.size):bI s (j+1)++⟨#[pb s[j]]⟩=bI s j:=by
 unfold bI;rw[drop_cons s j h,zw];simp
theorem amK(b:UInt8)(h:((b.toNat:Int)==65)=true):pb b=84:=by
 have h':=eq_of_beq h;unfold pb vD;simp_all
theorem amL(b:UInt8)(h:((b.toNat:Int)==84)=true):pb b=65:=by
 have h':=eq_of_beq h;unfold pb vD;simp_all
theorem amM(b:UInt8)(h:((b.toNat:Int)==67)=true):pb b=71:=by
 have h':=eq_of_beq h;unfold pb vD;simp_all
theorem amN(b:UInt8)(h:((b.toNat:Int)==71)=true):pb b=67:=by
 have h':=eq_of_beq h;unfold pb vD;simp_all
theorem amO(b:UInt8)(h1:((b.toNat:Int)==65)=false)(h2:((b.toNat:Int)==84)=false)(h3:((b.toNat:Int)==67)=false)(h4:((b.toNat:Int)==71)=false):pb b=78:=by
 have Wo:=beq_eq_false_iff_ne.1 h1;have h2':=beq_eq_false_iff_ne.1 h2;have h3':=beq_eq_false_iff_ne.1 h3;have h4':=beq_eq_false_iff_ne.1 h4;unfold pb vD;simp_all
def afI(s:ByteArray)(t i:Value):=
 (i=.int .i64 (-1)/\t=.string (bI s 0))\/∃j:Nat,j<s.size/\i=.int .i64 j/\t=.string (bI s (j+1))
theorem nH(s:ByteArray)(j:Nat)(h:j<s.size)(c:UInt8)(hc:pb s[j]=c):afI s (.string (bI s (j+1)++⟨#[c]⟩)) (.int .i64 (j-1)):=by
 subst hc;rw[Ki s j h];rcases acQ j with rfl|hp
 ·exact .inl ⟨rfl,rfl⟩
 ·exact .inr ⟨j-1,by omega,ax (by omega),by rw[show j-1+1=j by omega]⟩
theorem O1(s:ByteArray)(w:World)(hs:s.size<=200):
  Calls aah 83 #[.string s] w fun e w'=>e=.returned (.string (bI s 0))/\w'=w:=by
 go_enter Tryz.func83,Tryz.ntmps83
 go_wp2
 go_loop [3,4] (fun t i=>afI s t i) (fun _ i=>(intOf i+1).toNat)
 case atStart=>
  rcases acQ s.size with h0|hp
  ·left;refine⟨by rw[h0];rfl,b_ ?_⟩;unfold bI;rw[ab8 (by rw[CD];omega)];rfl
  ·refine .inr ⟨s.size-1,by omega,ax (by omega),b_ ?_⟩;unfold bI;rw[ab8 (by rw[CD];omega)];rfl
 case round=>
  rcases hrel with⟨rfl,rfl⟩|⟨j,hj,rfl,rfl⟩
  ·go_wp2
   go_ret
   exact⟨rfl,rfl⟩
  ·have hz:=lL s (j+1);go_wp2
   all_goals
    go_round
    case rel=>
     go_light
     first
      |exact nH s j hj _ (amK _ ‹_›)
      |exact nH s j hj _ (amL _ ‹_›)
      |exact nH s j hj _ (amM _ ‹_›)
      |exact nH s j hj _ (amN _ ‹_›)
      |exact nH s j hj _ (amO _ ‹_› ‹_› ‹_› ‹_›)
    case measure=>go_light;simp[intOf]
theorem infoByte:(aah.info? 5).map (fun i=>(i.zero,i.size,i.bytes))=some (some (.int .u8 0),1,1):=by kernel_rfl
def bv(b:UInt8):Value:=.int .u8 (b.toNat:Int)
def yM(l:List _)(m:Nat):=(l.map bv++acF m (aaT .u8 0)).toArray
def Gj(m:Nat)(l:List _):=(acF m (aaT .u8 0)++l.map bv).toArray
theorem zx(n:Nat)(hn:n<=1000)(w:World):
  (abp 79 (.int .i64 n) (.int .i64 n)).run aah w=.ok (.slice (some ⟨w.heap.size,0,none⟩) n n) (w.alloc (.cells (yM [] n) 5)):=by
 have h:=infoByte;rcases hi:aah.info? 5 with _|i
 ·simp_all
 ·rw[hi]at h;simp at h;obtain⟨hz,hs,hb⟩:=h;have:=run_makeSlice w 79 5 i _ acZ hi hz .i64 .i64 n n (by omega) (by omega) (by rw[hs];omega) (by rw[hb];omega) (by omega);rw[this];have e:madeCells (aaT IntKind.u8 0).cells ((n:Int).toNat *i.size)=yM [] n:=by
   apply abF;rw[hs];show(madeCells #[aaT _ 0] _).toList=_
   have:=toList_madeCells_one (.int .u8 0) n;simpa[yM]using this
  simp_all
theorem zy(l:List _)(n:Nat)(hn:l.length=n)(C:Array _)(hC:C=(l.map bv).toArray)(w:World)(cap:Nat):
  (convert 79 9 (.slice (some ⟨w.heap.size,0,none⟩) n cap)).run aah (w.alloc (.cells C 5))=.ok (.string (str l)) (w.alloc (.cells C 5)):=by
 subst hn hC;refine run_convert_bytes_back _ 79 9 5 _ cap l acZ Tryz.underlying5 Tryz.underlying9 ?_;intro j hj;have:(⟨w.heap.size,0,none⟩:Addr).add j=⟨w.heap.size,j,none⟩:=by unfold abO;simp_all
 rw[this,aaH _ _ _ _ rfl];simp[bv,hj]
theorem Wp(l:List _)(m k:Nat)(hk:k=l.length)(hm:0<m):(yM l m)[k]?=some (.int .u8 0):=by
 subst hk;unfold yM;simp_all
theorem RE(l:List _)(m k:Nat)(hk:k=l.length)(hm:0<m)(b:UInt8)(v:Value)(hv:v=bv b):(yM l m).setIfInBounds k v=yM (l++[b]) (m-1):=by
 subst hk hv;cases m with
 |zero=>omega
 |succ m=>
  simp[yM,acP]
def gl(s:ByteArray)(k:Nat):=(s.data.toList.take k).map gb
theorem RH(s:ByteArray)(k:Nat)(h:k<=s.size):(gl s k).length=k:=by
 unfold gl;simp;omega
theorem Wq(s:ByteArray)(k:Nat)(h:k<s.size):gl s (k+1)=gl s k++[gb s[k]]:=by
 unfold gl;rw[CE s k h];simp
theorem abd(s:ByteArray)(k:Nat)(h:s.size<=k):gl s k=s.data.toList.map gb:=by
 unfold gl;rw[ab9 (by exact h)]
theorem abe(b:UInt8):0<=Gf b.toNat/\Gf b.toNat<=255:=by
 have:=iH b;unfold Gf;omega
theorem abf(b:UInt8):((gb b).toNat)=Gf b.toNat:=by
 have h:=abe b;unfold gb;rw[acR];omega
def pS(s:ByteArray)(k:Nat):=yM (gl s k) (s.size-k)
theorem O2(s:ByteArray)(k:Nat)(h:k<s.size):(pS s k)[k]?=some (.int .u8 0):=
 Wp _ _ _ (RH s k (by omega)).symm (by omega)
theorem Kj(s:ByteArray)(k:Nat)(h:k<s.size):(pS s k).setIfInBounds k (.int .u8 (Gf s[k].toNat))=pS s (k+1):=by
 unfold pS;rw[RE _ _ _ (RH s k (by omega)).symm (by omega) _ _ (by unfold bv;rw[abf]),<-Wq s k h];congr 1
theorem Kk(s:ByteArray)(k:Nat)(h:s.size<=k):pS s k=((s.data.toList.map gb).map bv).toArray:=by
 unfold pS yM;rw[abd s k h,show s.size-k=0 by omega];simp
theorem nI(s:ByteArray)(w:World)(hs:s.size<=200):
  Calls aah 67 #[.string s] w fun e w'=>e=.returned (.string (str (s.data.toList.map gb)))/\Below w.heap.size w w':=by
 have Kl:=zx s.size (by omega);go_wp2
 clear Kl
 go_loopw [10] (fun i wr=>∃k:Nat,k<=s.size/\i=.int .i64 k/\wr=w.alloc (.cells (pS s k) 5)) (fun i _=>s.size-(intOf i).toNat)
 case atStart=>exact⟨0,aau _,rfl,rfl⟩
 case round=>
  obtain⟨k,hk,rfl,rfl⟩:=hrel;by_cases aV:k<s.size
  ·have tt:=O2 s k aV;go_wp2_with(go_at_call 97;refine(CC _ (jR _) (iH _) _).mono ?_;rintro e w' ⟨rfl,rfl⟩)
   go_roundw
   case rel=>go_light;exact⟨k+1,by omega,by go_num,by rw[Kj s k aV]⟩
   case measure=>go_light;simp[intOf];omega
  ·have hcv:=zy (s.data.toList.map gb) s.size (by simp) (pS s k) (Kk s k (by omega)) w s.size;go_wp2
   go_ret
   exact⟨rfl,(abq _ _).alloc (aao _) _⟩
theorem Ws(n:Int):0<=vD n/\vD n<=255:=by
 unfold vD;omega
theorem abg(b:UInt8):((pb b).toNat)=vD b.toNat:=by
 have h:=Ws b.toNat;unfold pb;rw[acR];omega
theorem Wt(m:Nat)(l:List _)(k:Nat)(hk:k+1=m):(Gj m l)[k]?=some (.int .u8 0):=by
 subst hk;unfold Gj;simp[List.getElem?_append]
theorem RI(m:Nat)(l:List _)(k:Nat)(hk:k+1=m)(b:UInt8)(v:Value)(hv:v=bv b):(Gj m l).setIfInBounds k v=Gj k (b::l):=by
 subst hk hv;simp only[Gj,List.replicate_succ'];simp
def pl(s:ByteArray)(k:Nat):=((s.data.toList.take k).map pb).reverse
theorem Wu(s:ByteArray)(k:Nat)(h:k<s.size):pl s (k+1)=pb s[k]::pl s k:=by
 unfold pl;rw[CE s k h];simp
theorem abh(s:ByteArray)(k:Nat)(h:s.size<=k):pl s k=(s.data.toList.map pb).reverse:=by
 unfold pl;rw[ab9 (by exact h)]
def ni(s:ByteArray)(k:Nat):=Gj (s.size-k) (pl s k)
theorem O3(s:ByteArray)(k j:Nat)(h:k<s.size)(hj:j+1+k=s.size):(ni s k)[j]?=some (.int .u8 0):=
 Wt _ _ _ (by omega)
theorem Km(s:ByteArray)(k j:Nat)(h:k<s.size)(hj:j+1+k=s.size):(ni s k).setIfInBounds j (.int .u8 (vD s[k].toNat))=ni s (k+1):=by
 unfold ni;rw[RI _ _ _ (by omega) _ _ (by unfold bv;rw[abg]),<-Wu s k h,show s.size-(k+1)=j by omega]
theorem Ko(s:ByteArray)(k:Nat)(h:s.size<=k):ni s k=((s.data.toList.map pb).reverse.map bv).toArray:=by
 unfold ni Gj;rw[abh s k h,show s.size-k=0 by omega];simp
theorem Eh(s:ByteArray):ni s 0=yM [] s.size:=by
 unfold ni Gj yM pl;simp
theorem RJ(s:ByteArray)(w:World)(hs:s.size<=200):
  Calls aah 51 #[.string s] w fun e w'=>e=.returned (.string (bI s 0))/\Below w.heap.size w w':=by
 have Kl:=zx s.size (by omega)
 go_enter Tryz.func51,Tryz.ntmps51
 go_wp2
 clear Kl
 go_loopw [10] (fun i wr=>∃k:Nat,k<=s.size/\i=.int .i64 k/\wr=w.alloc (.cells (ni s k) 5)) (fun i _=>s.size-(intOf i).toNat)
 case atStart=>exact⟨0,aau _,rfl,by rw[Eh]⟩
 case round=>
  obtain⟨k,hk,rfl,rfl⟩:=hrel;by_cases aV:k<s.size
  ·have hx:s.size-1-k+1+k=s.size:=by omega
   have tt:=O3 s k _ aV hx;have HX:=laid hx;clear hx;go_wp2_with(go_at_call 79;refine(Gg _ (jR _) (iH _) _).mono ?_;rintro e w' ⟨rfl,rfl⟩)
   go_roundw
   case rel=>go_light;exact⟨k+1,by omega,by go_num,by rw[Km s k _ aV HX.out]⟩
   case measure=>go_light;simp[intOf];omega
  ·have hcv:=zy (s.data.toList.map pb).reverse s.size (by simp) (ni s k) (Ko s k (by omega)) w s.size;go_wp2
   go_ret
   exact⟨rfl,(abq _ _).alloc (aao _) _⟩
def ag(a b:UInt8):=a==b&&a != 78
def at8(s:ByteArray)(i:Nat):=s.data.toList.getD i 0
theorem cZ(s:ByteArray)(i:Nat)(h:i<s.size):s[i]=at8 s i:=by
 unfold at8;rw[abC,aaO _];rfl
def cost(p t:ByteArray)(i j:Nat):=if ag (at8 p i) (at8 t j)=true then 0 else 1
def dT(p t:ByteArray)
 |0,j=>j
 |i+1,0=>i+1
 |i+1,j+1=>min (min (dT p t i j+cost p t i j) (dT p t i (j+1)+1)) (dT p t (i+1) j+1)
theorem o_(p t:ByteArray):∀i j,dT p t i j<=i+j
 |0,j=>by simp[dT]
 |i+1,0=>by simp[dT]
 |i+1,j+1=>by have:=o_ p t i (j+1);rw[dT];omega
theorem vE(a b:UInt8)(w:World):
  Calls aah 119 #[.int .u8 (a.toNat:Int),.int .u8 (b.toNat:Int)] w fun e w'=>e=.returned (.bool (ag a b))/\w'=w:=by
 by_cases h:a=b
 ·go_wp2
  go_ret
  refine⟨bG ?_,rfl⟩;unfold ag;subst h;simp only[beq_self_eq_true,Bool.true_and];by_cases ha:a=78
  ·subst ha;rfl
  ·have h3:(a != 78)=true:=by simpa using ha
   have h4:((a.toNat:Int) != 78)=true:=by
    rw[bne_iff_ne];intro hh;apply ha;apply aaP;have:((78:UInt8).toNat:Int)=78:=rfl;omega
   rw[h3,h4]
 ·have bj:(a.toNat:Int)≠(b.toNat:Int):=by intro hh;exact h (aaP (by omega))
  go_enter Tryz.func119,Tryz.ntmps119
  go_wp2
  go_ret
  refine⟨bG ?_,rfl⟩;unfold ag;rw[show(a==b)=false by simpa using h];rfl
theorem CF(a b c:Int)(w:World):
  Calls aah 135 #[.int .i64 a,.int .i64 b,.int .i64 c] w fun e w'=>e=.returned (.int .i64 (min (min a b) c))/\w'=w:=by
 by_cases h1:b<a
 ·by_cases h2:c<b;all_goals
   go_wp2
   go_ret
   exact⟨jQ (by omega),rfl⟩
 ·by_cases h2:c<a;all_goals
   go_wp2
   go_ret
   exact⟨jQ (by omega),rfl⟩
theorem afJ:(aah.info? 3).map (fun i=>(i.zero,i.size,i.bytes))=some (some (.int .i64 0),1,8):=by kernel_rfl
def nv(z:Nat):Value:=.int .i64 (z:Int)
def rh(l:List Nat)(m:Nat):=(l.map nv++acF m (aaT .i64 0)).toArray
theorem CG(n:Nat)(hn:n<=1000)(w:World):
  (abp 25 (.int .i64 n) (.int .i64 n)).run aah w=.ok (.slice (some ⟨w.heap.size,0,none⟩) n n) (w.alloc (.cells (rh [] n) 3)):=by
 have h:=afJ;rcases hi:aah.info? 3 with _|i
 ·simp_all
 ·rw[hi]at h;simp at h;obtain⟨hz,hs,hb⟩:=h;have:=run_makeSlice w 25 3 i _ Tryz.underlying25 hi hz .i64 .i64 n n (by omega) (by omega) (by rw[hs];omega) (by rw[hb];omega) (by omega);rw[this];have e:madeCells (aaT aas 0).cells ((n:Int).toNat *i.size)=rh [] n:=by
   apply abF;rw[hs];show(madeCells #[aaT _ 0] _).toList=_
   have:=toList_madeCells_one (.int .i64 0) n;simpa[rh]using this
  simp_all
theorem vF(l:List Nat)(m k:Nat)(hk:k=l.length)(hm:0<m):(rh l m)[k]?=some (.int .i64 0):=by
 subst hk;unfold rh;simp_all
theorem Gk(l:List Nat)(m k:Nat)(hk:k<l.length):(rh l m)[k]?=some (nv (l.getD k 0)):=by
 unfold rh;rw[List.getElem?_toArray,List.getElem?_append_left (by simp_all),ac0,abC,aaO hk];rfl
theorem Gl(l:List Nat)(m k:Nat)(hk:k=l.length)(hm:0<m)(b:Nat)(v:Value)(hv:v=nv b):(rh l m).setIfInBounds k v=rh (l++[b]) (m-1):=by
 subst hk hv;cases m with
 |zero=>omega
 |succ m=>
  simp[rh,acP]
def tl(p t:ByteArray)(i j:Nat):=(abt j).map (dT p t i)
theorem Kq(p t:ByteArray)(i j:Nat):(tl p t i j).length=j:=by simp[tl]
theorem Wv(p t:ByteArray)(i j:Nat):tl p t i (j+1)=tl p t i j++[dT p t i j]:=by simp[tl,ab2]
theorem afK(p t:ByteArray)(i j k:Nat)(h:k<j):(tl p t i j).getD k 0=dT p t i k:=by
 simp[tl,abx h]
def jo(p t:ByteArray)(i j:Nat):=rh (tl p t i j) (t.size+1-j)
theorem Gm(p t:ByteArray)(i j:Nat)(h:j<=t.size):(jo p t i j)[j]?=some (.int .i64 0):=vF _ _ _ (Kq p t i j).symm (by omega)
theorem zB(p t:ByteArray)(i j k:Nat)(h:k<j):(jo p t i j)[k]?=some (.int .i64 (dT p t i k)):=by
 unfold jo;rw[Gk _ _ _ (by rw[Kq];exact h),afK p t i j k h];rfl
theorem rT(p t:ByteArray)(i j:Nat)(h:j<=t.size)(z:Int)(hz:z=(dT p t i j)):(jo p t i j).setIfInBounds j (.int .i64 z)=jo p t i (j+1):=by
 unfold jo;rw[Gl _ _ _ (Kq p t i j).symm (by omega) _ _ (by unfold nv;rw[hz]),Wv];congr 1
def pT(w:World)(g:Nat)(p t:ByteArray)(i:Nat):=w.heap[g]?=some (.cells (jo p t i (t.size+1)) 3 (0,0))
theorem pT.cell{g:Nat}{p t:ByteArray}(h:pT w g p t i)(j:Nat)(hj:j<=t.size):w.cell? ⟨g,j,none⟩=some (.int .i64 (dT p t i j)):=by
 rw[cell_of_row w g j _ _ _ h];exact zB p t i _ j (by omega)
theorem pT.lt{g:Nat}{p t:ByteArray}(h:pT w g p t i):g<w.heap.size:=by
 rcases aaQ g _ with h'|h'
 ·omega
 ·unfold pT at h;simp_all
def sv(t:ByteArray)(g:Nat->Nat)(x:Nat):Value:=.slice (some ⟨g x,0,none⟩) (t.size+1) (t.size+1)
theorem O4{P:Program}(w:World)(ts:Array _)(t:TypeId)(x y z:Int):
  (Builtin.min_ ts t #[.int .i64 x,.int .i64 y,.int .i64 z]).run P w=.ok (.int .i64 (min (min x y) z)) w:=by
 have e:∀a b:Int,(if b<a then b else a)=min a b:=fun a b=>by omega
 simp[Builtin.min_,Builtin.min2,e]
theorem Ei(a b:UInt8)(w:World):
  Calls aah 150 #[.int .u8 (a.toNat:Int),.int .u8 (b.toNat:Int)] w fun e w'=>e=.returned (.bool (ag a b))/\w'=w:=by
 by_cases h:a=b
 ·go_wp2
  go_ret
  refine⟨bG ?_,rfl⟩;unfold ag;subst h;simp only[beq_self_eq_true,Bool.true_and];by_cases ha:a=78
  ·subst ha;rfl
  ·have h3:(a != 78)=true:=by simpa using ha
   have h4:((a.toNat:Int) != 78)=true:=by
    rw[bne_iff_ne];intro hh;apply ha;apply aaP;have:((78:UInt8).toNat:Int)=78:=rfl;omega
   rw[h3,h4]
 ·have bj:(a.toNat:Int)≠(b.toNat:Int):=by intro hh;exact h (aaP (by omega))
  go_wp2
  go_ret
  refine⟨bG ?_,rfl⟩;unfold ag;rw[show(a==b)=false by simpa using h];rfl
def co(a b:UInt8):=if ag a b=true then 0 else 1
theorem Zv(a b:UInt8):co a b<=1:=by unfold co;split<;>omega
theorem Gn(a b:UInt8)(w:World):
  Calls aah 165 #[.int .u8 (a.toNat:Int),.int .u8 (b.toNat:Int)] w fun e w'=>e=.returned (.int .i64 (co a b:Int))/\w'=w:=by
 by_cases h:ag a b=true
 ·have hc:co a b=0:=if_pos h;rw[hc]
  go_enter Tryz.func165,Tryz.ntmps165
  go_wp2_with fail
  refine(Ei a b _).mono ?_;rintro e w' ⟨rfl,rfl⟩;go_wp2
  go_ret
  exact⟨rfl,rfl⟩
 ·have hc:co a b=1:=if_neg h;rw[hc];rw[aak]at h
  go_enter Tryz.func165,Tryz.ntmps165
  go_wp2_with fail
  refine(Ei a b _).mono ?_;rintro e w' ⟨rfl,rfl⟩;go_wp2
  go_ret
  exact⟨rfl,rfl⟩
def jq(g:Nat->Nat)(n j:Nat):=rh ((abt j).map g) (n-j)
theorem xM(g:Nat->Nat)(n j:Nat)(h:j<n):(jq g n j)[j]?=some (.int .i64 0):=vF _ _ _ (by simp) (by omega)
theorem zC(g:Nat->Nat)(n j i:Nat)(h:i<j):(jq g n j)[i]?=some (.int .i64 (g i)):=by
 unfold jq;rw[Gk _ _ _ (by simp_all)];simp[nv,abx h]
theorem rU(g:Nat->Nat)(n j:Nat)(h:j<n)(z:Int)(hz:z=(g j)):(jq g n j).setIfInBounds j (.int .i64 z)=jq g n (j+1):=by
 unfold jq;rw[Gl _ _ _ (by simp) (by omega) _ _ (by unfold nv;rw[hz]),ab2,abu];congr 1
theorem Ej(g:Nat->Nat)(n:Nat):jq g n 0=rh [] n:=rfl
def dM(w:World)(G:Nat)(g:Nat->Nat)(n:Nat):=w.heap[G]?=some (.cells (jq g n n) 3 (0,0))
theorem dM.cell(h:dM w G g n)(j:Nat)(hj:j<n):w.cell? ⟨G,j,none⟩=some (.int .i64 (g j)):=by
 rw[cell_of_row w G j _ _ _ h];exact zC g n n j hj
theorem dM.lt(h:dM w G g n):G<w.heap.size:=by
 rcases aaQ G _ with h'|h'
 ·omega
 ·unfold dM at h;simp_all
theorem Gp(w:World)(c:Array _)(T:TypeId)(d j:Nat)(v:Value):((w.alloc (.cells c T)).drewN d).setCell ⟨w.heap.size,j,none⟩ v=(w.alloc (.cells (c.setIfInBounds j v) T)).drewN d:=by
 have h:(w.alloc (.cells c T)).setCell ⟨w.heap.size,j,none⟩ v=w.alloc (.cells (c.setIfInBounds j v) T):=by simp[aca]
 have h2:((w.alloc (.cells c T)).drewN d).setCell ⟨w.heap.size,j,none⟩ v=((w.alloc _).setCell _ v).drewN d:=rfl;rw[h2,h]
theorem zE(w:World)(o:Obj)(d:Nat):Below w.heap.size w ((w.alloc o).drewN d):=Go.below_drewN ((abq _ _).alloc (aao _) o) d
theorem CH(n:Nat)(hn:n<=900)(w:World):
  (abp 25 (.int .i64 (n+1)) (.int .i64 (n+1))).run aah w=.ok (.slice (some ⟨w.heap.size,0,none⟩) (n+1) (n+1)) (w.alloc (.cells (rh [] (n+1)) 3)):=by
 have:=CG (n+1) (by omega) w;simp_all
theorem nj(n:Nat)(w:World)(hn:n<=300):
  Calls aah 144 #[.int .i64 (n:Int)] w fun e w'=>e=.returned (.slice (some ⟨w.heap.size,0,none⟩) (n+1) (n+1))/\dM w' w.heap.size id (n+1)/\Below w.heap.size w w':=by
 have Kl:=CH n (by omega);go_wp2
 go_loopw [10] (fun jv w2=>∃(j d:Nat),jv=.int .i64 (j:Int)/\j<=n+1/\w2=(w.alloc (.cells (jq id (n+1) j) 3)).drewN d) (fun jv _=>n+1-(intOf jv).toNat)
 case atStart=>exact⟨0,0,rfl,aau _,rfl⟩
 case round=>
  obtain⟨j,d,rfl,hjt,rfl⟩:=hrel;by_cases Nl:j<=n
  ·have hz:=xM id (n+1) j (by omega);go_wp2
   go_roundw
   case rel=>go_light;exact⟨j+1,d,by go_num,by omega,by rw[Gp,rU id (n+1) j (by omega) (j:Int) rfl]⟩
   case measure=>go_light;simp[intOf];omega
  ·have hje:Hid (j=n+1):=laid (by omega);go_wp2
   go_ret
   refine⟨rfl,?_,zE _ _ _⟩;rw[hje.out];exact heap_alloc_new w _
def CJ(g:Nat->Nat)(first:Nat)(b:UInt8)(o:ByteArray)
 |0=>first
 |j+1=>min (min (g j+co b (at8 o j)) (g (j+1)+1)) (CJ g first b o j+1)
theorem Ek(g:Nat->Nat)(first:Nat)(b:UInt8)(o:ByteArray):∀j,CJ g first b o j<=first+j
 |0=>aao _
 |j+1=>by have:=Ek g first b o j;rw[CJ];omega
theorem O5{W:World}(hW:(wr.alloc (.cells (jq g n j) 3)).drewN d=W)(hH:wr.heap.size=H)(hb:j<n)(hz:z=(g j)):
  (W.setCell ⟨H,j,none⟩ (.int .i64 z)).drew=(wr.alloc (.cells (jq g n (j+1)) 3)).drewN (d+1):=by
 subst hW hH;rw[Gp,rU g n j hb z hz];rfl
theorem oq(g:Nat->Nat)(first:Nat)(b:UInt8)(o:ByteArray)(G:Nat)(w:World)(ho:o.size<=300)(hf:first<=300)(hg:∀j,j<=o.size->g j<=1000)(hl:dM w G g (o.size+1)):
  Calls aah 145 #[.slice (some ⟨G,0,none⟩) (o.size+1) (o.size+1),.int .i64 (first:Int),.int .u8 (b.toNat:Int),.string o] w fun e w'=>
   e=.returned (.slice (some ⟨w.heap.size,0,none⟩) (o.size+1) (o.size+1))/\dM w' w.heap.size (CJ g first b o) (o.size+1)/\Below w.heap.size w w':=by
 have Kl:=CH o.size (by omega);have hG:=hl.lt;have HG:=laid hg;have HL:=laid hl;clear hg hl;have nJ:(rh [] (o.size+1))[0]?=some (.int .i64 0):=vF [] _ 0 rfl (by omega)
 go_enter Tryz.func145,Tryz.ntmps145
 go_wp2
 go_loopw [19] (fun jv w2=>∃(j d:Nat),jv=.int .i64 (j:Int)/\j<=o.size/\w2=(w.alloc (.cells (jq (CJ g first b o) (o.size+1) (j+1)) 3)).drewN d) (fun jv _=>o.size-(intOf jv).toNat)
 case atStart=>exact⟨0,0,rfl,aau _,by rw[<-Ej (CJ g first b o),rU _ _ 0 (by omega) (first:Int) rfl];rfl⟩
 case round=>
  obtain⟨j,d,rfl,hjt,rfl⟩:=hrel;by_cases Nl:j<o.size
  ·obtain⟨m,hm⟩:∃m,m=j+1:=⟨_,rfl⟩;generalize BK:(w.alloc (.cells (jq (CJ g first b o) (o.size+1) (j+1)) 3)).drewN d=W;have HW:=laid BK;have s2:W.cell? ⟨G,j,none⟩=some (.int .i64 (g j:Int)):=by
    rw[<-BK];show(w.alloc _).cell? _=_;rw[aaD _ _ _ hG];exact HL.out.cell j (by omega)
   have s3:W.cell? ⟨G,m,none⟩=some (.int .i64 (g m:Int)):=by
    rw[<-BK];show(w.alloc _).cell? _=_;rw[aaD _ _ _ hG];exact HL.out.cell m (by omega)
   have s4:W.cell? ⟨w.heap.size,j,none⟩=some (.int .i64 (CJ g first b o j:Int)):=by
    rw[<-BK];show(w.alloc _).cell? _=_;rw[aaH _ _ _ _ rfl];exact zC _ _ _ j (by omega)
   have s5:W.cell? ⟨w.heap.size,m,none⟩=some (.int .i64 0):=by
    rw[<-BK,hm];show(w.alloc _).cell? _=_;rw[aaH _ _ _ _ rfl];exact xM _ _ _ (by omega)
   have s6:W.frozen? ⟨w.heap.size,m,none⟩=false:=by
    rw[<-BK];show(w.alloc _).frozen? _=_;rw[acz _ _ _ _ rfl]
   have hN:Hid (CJ g first b o m=min (min (g j+co b (at8 o j)) (g m+1)) (CJ g first b o j+1)):=laid (by rw[hm];rfl);have hX:=HG.out j (by omega);have hY:=HG.out m (by omega);have hZ:CJ g first b o j<=700:=by have:=Ek g first b o j;omega
   have hC:=Zv b (at8 o j)
   have htb:=cZ o j Nl;have b1:(0:Int)<=(j:Int):=aaE _;have b2:(j:Int)<(o.size:Int)+1:=by omega
   have b4:(j:Int)<(o.size:Int):=by omega
   have b5:(0:Int)<=(m:Int):=aaE _;have b6:(m:Int)<(o.size:Int)+1:=by omega
   generalize CJ g first b o j=Z at *
   generalize g j=X at *;generalize g m=Y at *;have Zw:∀W:World,Calls aah 165 #[.int .u8 (b.toNat:Int),.int .u8 ((at8 o j).toNat:Int)] W fun e w'=>e=.returned (.int .i64 (co b (at8 o j):Int))/\w'=W:=fun W=>Gn b (at8 o j) W;generalize co b (at8 o j)=C at *;clear BK;have hgH:G≠w.heap.size:=by omega
   have k2:∀v,(W.setCell ⟨w.heap.size,m,none⟩ v).drew.cell? ⟨G,j,none⟩=some (.int .i64 (X:Int)):=fun v=>(aai W ⟨w.heap.size,m,none⟩ ⟨G,j,none⟩ v (by intro e;injection e with e1 e2;exact hgH e1.symm)).trans s2;have k3:∀v,(W.setCell ⟨w.heap.size,m,none⟩ v).drew.cell? ⟨G,m,none⟩=some (.int .i64 (Y:Int)):=fun v=>(aai W ⟨w.heap.size,m,none⟩ ⟨G,m,none⟩ v (by intro e;injection e with e1 e2;exact hgH e1.symm)).trans s3;have k4:∀v,(W.setCell ⟨w.heap.size,m,none⟩ v).drew.cell? ⟨w.heap.size,j,none⟩=some (.int .i64 (Z:Int)):=fun v=>(aai W ⟨w.heap.size,m,none⟩ ⟨w.heap.size,j,none⟩ v (by intro e;injection e with e1 e2;omega)).trans s4;have x0:aas.wrap ((X:Int)+(C:Int))=(X:Int)+(C:Int):=aaq _ (by omega);have y1:aas.wrap ((Y:Int)+1)=(Y:Int)+1:=aaq _ (by omega);have z1:aas.wrap ((Z:Int)+1)=(Z:Int)+1:=aaq _ (by omega);have j1:aas.wrap ((j:Int)+1)=(m:Int):=by rw[show(j:Int)+1=(m:Int) by omega];exact aaq _ (by omega)
   have HM:=laid hm;clear hm;have hm3:=@O4 aah;go_wp2_with fail
   go_region_held3 (fun w'=>w'.cell? ⟨G,j,none⟩=some (.int .i64 (X:Int))/\w'.cell? ⟨G,m,none⟩=some (.int .i64 (Y:Int))/\w'.cell? ⟨w.heap.size,j,none⟩=some (.int .i64 (Z:Int)))
    (first|go_keep|exact⟨k2 _,k3 _,k4 _⟩)
    (first|(go_at_call 165;refine(Zw _).mono ?_;rintro e w' ⟨rfl,rfl⟩))
   go_wp2
   go_roundw
   case rel=>go_light;have hm:=HM.out;exact⟨m,d+1,by go_num,by omega,O5 (by have:=HW.out;rw[<-hm]at this;exact this) rfl (by omega) (by have:=hN.out;omega)⟩
   case measure=>go_light;have hm:=HM.out;simp[intOf];omega
  ·have hje:Hid (j=o.size):=laid (by omega);go_wp2
   go_ret
   refine⟨rfl,?_,zE _ _ _⟩;rw[hje.out];exact heap_alloc_new w _
def BV(t p:ByteArray)
 |0=>id
 |i+1=>CJ (BV t p i) 0 (at8 t i) p
theorem RP(t p:ByteArray):∀i j,BV t p i j<=j
 |0,j=>aao _
 |i+1,j=>by have:=Ek (BV t p i) 0 (at8 t i) p j;rw[BV];omega
def cQ(t p:ByteArray)(k:Nat)
 |0=>[]
 |i+1=>if BV t p (i+1) p.size<=k then cQ t p k i++[(i+1,BV t p (i+1) p.size)]else cQ t p k i
theorem ou(t p:ByteArray)(k:Nat):∀n,(cQ t p k n).length<=n
 |0=>aao _
 |n+1=>by
  have:=ou t p k n;simp[cQ];split
  ·simp_all
  ·omega
def e_(t p:ByteArray)(k:Nat):=cQ t p k t.size
def da(L:List (Nat×Nat)):=L.flatMap fun h=>[nv h.1,nv h.2]
theorem O6(L:List _):(da L).length=L.length *2:=by
 induction L with
 |nil=>rfl
 |cons a L ih=>simp[da,ac5,acS,List.length_cons,List.length_nil]at *;omega
theorem Kr(L:List _)(h:Nat×Nat):da (L++[h])=da L++[nv h.1,nv h.2]:=by simp[da]
theorem RQ:(aah.info? 173).map (fun i=>(i.zero,i.size,i.bytes))=some (some (.agg #[.int .i64 0,.int .i64 0]),2,16):=by kernel_rfl
theorem mE{e:TypeId}{z:Nat}{xs:List _}(h:w.ownsRow B e z v n xs)(hb:Below w.heap.size w w'):w'.ownsRow B e z v n xs:=
 h.kept (row:=none) ⟨hb.os,hb.tape,hb.output,hb.size,fun k hk _=>hb.block k hk⟩ (by cases v.ownBlock<;>simp)
theorem lE{z:Nat}{e:TypeId}{xs:List _}{cs:Array _}{fr:Nat×Nat}(ho:w.ownsRow B e z v n xs)(hb:w.heap[b]?=some (.cells cs T fr))(hT:T≠e):v.ownBlock≠some b:=by
 intro hh;rcases ho.2 with⟨e1,_⟩|⟨g,cap,cur,e1,_,hg,_⟩
 ·rw[e1]at hh;cases hh
 ·rw[e1]at hh;injection hh with h1
  simp_all
theorem zF(t p:ByteArray)(k:Nat)(w:World)(ht:t.size<=300)(hp:p.size<=300)(hk:k<=100):
  Calls aah 139 #[.string t,.string p,.int .i64 (k:Int)] w fun e w'=>∃v,e=.returned v/\w'.ownsRow w.heap.size 173 2 v (e_ t p k).length (da (e_ t p k))/\Below w.heap.size w w':=by
 obtain⟨i0,hi,nJ,kK,iI⟩:=info_parts RQ;have hFL:=nj p.size w hp
 go_enter Tryz.func139,Tryz.ntmps139
 go_wp2_with fail
 refine hFL.mono ?_;rintro e w1 ⟨rfl,ns,cn⟩;clear hFL;go_wp2
 go_loopw [7,8,16] (fun v lv iv wr=>∃i G:Nat,iv=.int .i64 (i:Int)/\lv=.slice (some ⟨G,0,none⟩) (p.size+1) (p.size+1)/\i<=t.size/\dM wr G (BV t p i) (p.size+1)/\wr.ownsRow w.heap.size 173 2 v (cQ t p k i).length (da (cQ t p k i))/\Below w.heap.size w wr) (fun _ _ iv _=>t.size-(intOf iv).toNat)
 case atStart=>exact⟨0,w.heap.size,rfl,rfl,aau _,ns,World.ownsRow_nil _ _ _ _,cn⟩
 case round=>
  obtain⟨i,G,rfl,rfl,hit,CK,aJ,aH⟩:=hrel;clear ns cn;have hlen:=ou t p k i;by_cases aV:i<t.size
  ·have nK:=cZ t i aV;have hNX:Hid (∀W:World,dM W G (BV t p i) (p.size+1)->Calls aah 145 #[.slice (some ⟨G,0,none⟩) (p.size+1) (p.size+1),.int .i64 0,.int .u8 ((at8 t i).toNat:Int),.string p] W fun e w'=>e=.returned (.slice (some ⟨W.heap.size,0,none⟩) (p.size+1) (p.size+1))/\dM w' W.heap.size (BV t p (i+1)) (p.size+1)/\Below W.heap.size W w'):=laid fun W hW=>oq (BV t p i) 0 (at8 t i) p G W hp (by omega) (fun j hj=>by have:=RP t p i j;omega) hW;have b1:(i:Int)<(t.size:Int):=by omega
   have HL:=laid CK;clear CK;go_wp2_with fail
   refine(hNX.out _ HL.out).mono ?_;rintro e w2 ⟨rfl,vG,di⟩;have bP:=mE aJ di;have aM:=aH.trans (di.mono aH.size);have hc:=vG.cell p.size (by omega);have hDl:=RP t p (i+1) p.size;have BW:=laid vG;have hH:wr.heap.size<w2.heap.size:=vG.lt;clear di hNX HL aJ vG;generalize wr.heap.size=H at *;by_cases hD:BV t p (i+1) p.size<=k
   ·have HY:Hid (cQ t p k (i+1)=cQ t p k i++[(i+1,BV t p (i+1) p.size)]):=laid (by rw[cQ,if_pos hD]);generalize hDD:BV t p (i+1) p.size=DD at *;clear hDD;go_wp2_with(first
     |(at_builtin;refine wpList_append_own _ rfl _ _ 193 rfl w.heap.size 173 i0 (.agg #[.int .i64 0,.int .i64 0]) 2 16 Tryz.underlying193 hi nJ kK iI rfl (by decide) _ _ _ rfl (bP.alloc _) ⟨w2.heap.size,0,none⟩ 1 1 [nv (i+1),nv DD] rfl rfl ?c1 ?c2 ?c3 ?c4 ?c5 ?_)
     |go_in)
    case c1=>
     intro j u hj
     match j,hj with
     |0,hj=>simp at hj;subst hj;simp[abO,go_sem,nv]
     |1,hj=>simp at hj;subst hj;simp[abO,go_sem,nv]
    case c2=>first|exact⟨rfl,rfl⟩|(intro u hu;simp at hu;rcases hu with rfl|rfl<;>rfl)
    case c3=>unfold maxLen;omega
    case c4=>omega
    case c5=>have:=aM.size;first|omega|(simp;omega)
    intro v' wz aW aD _;have gV:Below w.heap.size w wz:=(aM.alloc aM.size _).grown aD (by have:=aM.size;simp;omega) (fun j hj=>(bP.lt j hj).1);have fc:wz.ownsRow w.heap.size 173 2 v' (cQ t p k (i+1)).length (da (cQ t p k (i+1))):=by
     rw[HY.out,acS,Kr];exact aW
    have V2:dM wz H (BV t p (i+1)) (p.size+1):=by
     have hk:=BW.out;unfold dM at hk⊢;rw[aD.block H (by simp;omega) (fun e=>lE bP hk (by decide) e.symm),heap_alloc_old w2 _ hH];exact hk
    obtain⟨gg,cap,n',rfl⟩:∃gg cap n',v'=.slice (some ⟨gg,0,none⟩) n' cap:=by
     rcases aW.2 with⟨_,h0⟩|⟨gg,cap,cur,hv,_⟩
     ·omega
     ·exact⟨gg,cap,_,hv⟩
    have HLZ:=laid V2;clear aW aD bP V2;go_wp2
    go_roundw
    case rel=>go_light;exact⟨i+1,H,by go_num,rfl,by omega,HLZ.out,fc,gV⟩
    case measure=>go_light;simp[intOf];omega
   ·have HY:Hid (cQ t p k (i+1)=cQ t p k i):=laid (by rw[cQ,if_neg hD]);have fc:w2.ownsRow w.heap.size 173 2 u7 (cQ t p k (i+1)).length (da (cQ t p k (i+1))):=by
     rw[HY.out];exact bP
    generalize hDD:BV t p (i+1) p.size=DD at *;clear hDD;go_wp2
    go_roundw
    case rel=>go_light;exact⟨i+1,H,by go_num,rfl,by omega,BW.out,fc,aM⟩
    case measure=>go_light;simp[intOf];omega
  ·have RV:i=t.size:=by omega
   have HE:Hid (wr.ownsRow w.heap.size 173 2 u7 (e_ t p k).length (da (e_ t p k))):=laid (by unfold e_;rw[<-RV];exact aJ);clear RV aJ;go_wp2
   go_ret
   exact⟨u7,rfl,HE.out,aH⟩
noncomputable def clA:=match ab5.body with
 |some (.seq a _)=>a
 |_=>.skip
noncomputable def Ww:=match ab5.body with
 |some (.seq _ (.seq b _))=>b
 |_=>.skip
theorem El(X:ByteArray)(k q st len b:Nat)(w:World)(hX:X.size<=1000)(hk:k<=6)(hs:st<=200)(hl:len<=1000)(hb:b *st<=X.size)(Rk:b<=100000):
  Calls aah 77 #[.agg #[.int .i64 (k:Int),.int .i64 (q:Int),.int .i64 (st:Int)],.string X,.int .i64 (len:Int),.int .i64 (b:Int)] w fun e w'=>e=.returned (.string (X.extract (b *st) (min (b *st+st+len+k) X.size)))/\Below w.heap.size w w':=by
 obtain⟨m,JX,hm⟩:∃m:Nat,b *st=m/\(b:Int) *(st:Int)=(m:Int):=⟨b *st,rfl,by simp⟩;rw[JX]at hb⊢;clear JX;have RX:min ((m:Int)+(st:Int)+(len:Int)+(k:Int)) (X.size:Int)=((min (m+st+len+k) X.size:Nat):Int):=by omega
 go_wp2
 go_ret
 exact⟨rfl,(abq _ _).alloc (aao _) _⟩
structure Reads(w:World)(By Rf Sg:Nat)(k q st:Nat)(X P:ByteArray):Prop where
 c0:w.cell? ⟨By,0,none⟩=some (.int .i64 (k:Int))
 c1:w.cell? ⟨By,1,none⟩=some (.int .i64 (q:Int))
 c2:w.cell? ⟨By,2,none⟩=some (.int .i64 (st:Int))
 x:w.cell? ⟨Rf,0,none⟩=some (.string X)
 p:w.cell? ⟨Sg,0,none⟩=some (.string P)
def pt(b:Nat):Value:=.pointer (some ⟨b,0,none⟩)
def FZ(x By Rf Sg Fp:Nat)(v:Value)(u:Nat->Value):Array Value:=
 #[.int .i64 (x:Int),pt By,pt Rf,pt Sg,pt Fp,.tuple #[],v,u 7,u 8,u 9,u 10,u 11,u 12,u 13,u 14,u 15,u 16,u 17,u 18,u 19,u 20,u 21,u 22,u 23,u 24,u 25,u 26,u 27,u 28,u 29,u 30,u 31,u 32,u 33,u 34,u 35,u 36,u 37,u 38]
theorem Nn(x By Rf Sg Fp:Nat)(v a7 a8 a9 a10 a11 a12 a13 a14 a15 a16 a17 a18 a19 a20 a21 a22 a23 a24 a25 a26 a27 a28 a29 a30 a31 a32 a33 a34 a35 a36 a37 a38:Value):#[.int .i64 x,pt By,pt Rf,pt Sg,pt Fp,.tuple #[],v,a7,a8,a9,a10,a11,a12,a13,a14,a15,a16,a17,a18,a19,a20,a21,a22,a23,a24,a25,a26,a27,a28,a29,a30,a31,a32,a33,a34,a35,a36,a37,a38]=FZ x By Rf Sg Fp v (fun i=>[a7,a8,a9,a10,a11,a12,a13,a14,a15,a16,a17,a18,a19,a20,a21,a22,a23,a24,a25,a26,a27,a28,a29,a30,a31,a32,a33,a34,a35,a36,a37,a38].getD (i-7) (.tuple #[])):=rfl
def uA(By k q st x:Nat)(X P TT:ByteArray)(v:Value):Nat->Value:=fun i=>[.tuple #[],.agg #[.int .i64 (k:Int),.int .i64 (q:Int),.int .i64 (st:Int)],.string X,.string P,.int .i64 (P.size:Int),.int .i64 (x:Int),.string TT,.string P,pt By,.int .i64 (k:Int),v].getD (i-7) (.tuple #[])
def fA(X P:ByteArray)(k st x:Nat):=X.extract (x *st) (min (x *st+st+P.size+k) X.size)
theorem abj(x By Rf Sg Fp k q st:Nat)(X P:ByteArray)(w:World)(hR:Reads w By Rf Sg k q st X P)(hX:X.size<=200)(hP:P.size<=30)(hk:k<=6)(hs:st<=200)(hx:x *st<=X.size)(oj:x<=100000):
  clA.wp aah (fun e a w'=>e=.normal/\∃v,a=⟨FZ x By Rf Sg Fp v (uA By k q st x X P (fA X P k st x) v),[]⟩/\w'.ownsRow w.heap.size 173 2 v (e_ (fA X P k st x) P k).length (da (e_ (fA X P k st x) P k))/\Below w.heap.size w w') ⟨FZ x By Rf Sg Fp (.tuple #[]) (fun _=>.tuple #[]),[]⟩ w:=by
 obtain⟨c0,c1,c2,cx,cp⟩:=hR;have hST:=laid (fun W=>El X k q st P.size x W (by omega) hk hs (by omega) hx oj);have hEW:=laid (fun W=>zF (fA X P k st x) P k W (by unfold fA;rw[acA];omega) (by omega) (by omega));have hbB:By<w.heap.size:=block_lt_of_cell c0;have hbR:Rf<w.heap.size:=block_lt_of_cell cx;have hbS:Sg<w.heap.size:=block_lt_of_cell cp;rw[show X.extract (x *st) (min (x *st+st+P.size+k) X.size)=fA X P k st x from rfl]at hST;generalize e_ (fA X P k st x) P k=L at *;generalize fA X P k st x=TT at *;unfold clA ab5 FZ;dsimp only;simp only[pt]
 go_region_held3 (fun w'=>w'.cell? ⟨By,0,none⟩=some (.int .i64 (k:Int))/\w'.cell? ⟨By,1,none⟩=some (.int .i64 (q:Int))/\w'.cell? ⟨By,2,none⟩=some (.int .i64 (st:Int))/\w'.cell? ⟨Rf,0,none⟩=some (.string X)/\w'.cell? ⟨Sg,0,none⟩=some (.string P))
  (first|go_keep|((try dsimp only);(repeat' apply And.intro);all_goals(first
   |(rw[ox.cell (by have:=dk.size;simp at this⊢;omega),dk.cell (by first|omega|(simp;omega))];assumption)
   |(rw[dk.cell (by first|omega|(simp;omega))];assumption))))
  (first
   |(go_at_call 77;refine(hST.out _).mono ?_;rintro e w' ⟨rfl,dk⟩)
   |(go_at_call 139;refine(hEW.out _).mono ?_;rintro e lF ⟨v,rfl,aJ,ox⟩))
 refine⟨rfl,v,rfl,?_,?_⟩
 ·rcases aJ.2 with h'|⟨g,cap,cur,h1,h2,h3⟩
  ·exact⟨aJ.1,.inl h'⟩
  ·exact⟨aJ.1,.inr ⟨g,cap,cur,h1,Nat.le_trans dk.size h2,h3⟩⟩
 ·exact(show Below w.heap.size w w' from⟨dk.os,dk.tape,dk.output,dk.size,dk.block⟩).trans (ox.mono dk.size)
def dQ(m:Nat)(L:List (Nat×Nat))(j:Nat):=(L.take j).map (fun h=>(h.1+m,h.2))++L.drop j
theorem RY(L:List _)(i:Nat)(hi:i<L.length):(da L)[i *2]?=some (nv (L[i]).1):=by
 induction L generalizing i with
 |nil=>simp at hi
 |cons a L ih=>
  cases i with
  |zero=>rfl
  |succ i=>
   rw[show(i+1) *2=i *2+1+1 by omega];simp[da]at *;simpa using ih i _
theorem RZ(L:List _)(i:Nat)(z:Nat)(hi:i<L.length):(da L).set (i *2) (nv z)=da (L.set i (z,(L[i]).2)):=by
 induction L generalizing i with
 |nil=>simp at hi
 |cons a L ih=>
  cases i with
  |zero=>rfl
  |succ i=>
   rw[show(i+1) *2=i *2+1+1 by omega];simp[da,ac5,List.cons_append,List.nil_append,List.set_cons_succ,List.getElem_cons_succ]at *;rw[ih i _]
theorem lG(m:Nat)(L:List _)(j:Nat):(dQ m L j).length=L.length:=by
 simp[dQ];omega
theorem Gq(m:Nat)(L:List _)(j:Nat)(hj:j<L.length):(dQ m L j)[j]?=some L[j]:=by
 unfold dQ;have e:((L.take j).map fun h=>(h.1+m,h.2)).length=j:=by simp;omega
 rw[List.getElem?_append_right (by omega),e,aa6,aaZ hj];rfl
theorem O7(m:Nat)(L:List _)(j:Nat)(hj:j<L.length):(dQ m L j).set j ((L[j]).1+m,(L[j]).2)=dQ m L (j+1):=by
 unfold dQ;have e:((L.take j).map fun h=>(h.1+m,h.2)).length=j:=by simp;omega
 rw[List.set_append_right _ _ (by omega),e,aa6,aat hj,abu,ac8,aaZ hj];rfl
theorem abk(x By Rf Sg Fp k q st:Nat)(X P:ByteArray)(L:List (Nat×Nat))(v:Value)(u:Nat->Value)(B:Nat)(w:World)(hR:Reads w By Rf Sg k q st X P)(hB:∀g,v.ownBlock=some g->g≠By)(hL:L.length<=1000)(hL2:∀h∈L,h.1<=1000)(hx:x *st<=1000)(aA:st<=1000)(oj:x<=100000)
  (aJ:w.ownsRow B 173 2 v L.length (da L)):
  Ww.wp aah (fun e a w'=>e=.normal/\∃u',a=⟨FZ x By Rf Sg Fp v u',[]⟩/\w'.ownsRow B 173 2 v L.length (da (dQ (x *st) L L.length))) ⟨FZ x By Rf Sg Fp v u,[]⟩ w:=by
 have HQ:Hid (∀(t:Array Value) (u':Nat->Value) (w':World),t=FZ x By Rf Sg Fp v u'->w'.ownsRow B 173 2 v L.length (da (dQ (x *st) L L.length))->(fun(e:Exit) (a:Act) (w':World)=>e=.normal/\∃u',a=⟨FZ x By Rf Sg Fp v u',[]⟩/\w'.ownsRow B 173 2 v L.length (da (dQ (x *st) L L.length))) .normal ⟨t,[]⟩ w'):=
  laid (fun t u' w' e h1=>⟨rfl,u',by rw[e],h1⟩)
 generalize(fun(e:Exit) (a:Act) (w':World)=>e=.normal/\∃u',a=⟨FZ x By Rf Sg Fp v u',[]⟩/\w'.ownsRow B 173 2 v L.length (da (dQ (x *st) L L.length)))=Q at HQ⊢;have c2:=hR.c2;clear hR;obtain⟨m,hm,hmi⟩:∃m:Nat,m=x *st/\(x:Int) *(st:Int)=(m:Int):=⟨x *st,rfl,by simp⟩;rw[<-hm]at hx HQ;clear hm;have BW:=laid hL2;clear hL2;rcases aJ.2 with⟨hv,hn⟩|⟨g,cap,cur,hv,hg,_⟩
 ·have hLn:L=[]:=List.length_eq_zero_iff.1 hn;subst hLn hv;have HO:=laid aJ;clear aJ;unfold Ww ab5;dsimp only;rw[show FZ x By Rf Sg Fp (_:Value) u=_ from rfl];simp only[FZ,pt];go_wp2
  go_loopw [20] (fun iv w2=>iv=.int .i64 0/\w2=w) (fun _ _=>0)
  case atStart=>exact⟨rfl,rfl⟩
  case round=>
   obtain⟨rfl,rfl⟩:=hrel;go_wp2
   exact HQ.out _ _ _ (Nn x By Rf Sg Fp _ _ _ _ _ _ _ _ _ _ _ _ _ _ _ _ _ _ _ _ _ _ _ _ _ _ _ _ _ _ _ _ _) HO.out
 ·subst hv;have hgB:=hB g rfl;have HO:=laid aJ;clear aJ hB;generalize hn:L.length=n at *;have HN:=laid hn;clear hn;unfold Ww ab5;dsimp only;rw[show FZ x By Rf Sg Fp (_:Value) u=_ from rfl];simp only[FZ,pt];go_wp2
  go_loopw [20] (fun iv w2=>∃i:Nat,iv=.int .i64 (i:Int)/\i<=n/\w2.ownsRow B 173 2 (.slice (some ⟨g,0,none⟩) n cap) n (da (dQ m L i))/\w2.cell? ⟨By,2,none⟩=some (.int .i64 (st:Int))) (fun iv _=>n-(intOf iv).toNat)
  case atStart=>exact⟨0,rfl,aau _,HO.out,c2⟩
  case round=>
   obtain⟨i,rfl,hin,aJ,aH⟩:=hrel;by_cases aV:i<n
   ·have Zx:i<L.length:=by have:=HN.out;omega
    have b1:(i:Int)<(n:Int):=by omega
    have b2:(0:Int)<=(i:Int):=aaE _;have s1:wr.cell? ⟨By,2,none⟩=some (.int .i64 (st:Int)):=aH;have s2:wr.cell? ⟨g,i *2,none⟩=some (.int .i64 ((L[i]).1:Int)):=by
     rw[aJ.cellAt (i *2) (by omega)];have h:=RY (dQ m L i) i (by rw[lG];exact Zx);rw[h];have h2:=Gq m L i Zx;rw[aaO (by rw[lG];exact Zx)]at h2;rw[adl h2];rfl
    have s3:=aJ.frozenAt (i *2);have hE:=BW.out (L[i]) (List.getElem_mem Zx);have x1:aas.wrap ((x:Int) *(st:Int))=(m:Int):=by rw[hmi];exact aaq _ (by omega)
    have x2:aas.wrap (((L[i]).1:Int)+(m:Int))=((L[i]).1:Int)+(m:Int):=aaq _ (by omega);have O8:=aJ.stored (i *2) (nv ((L[i]).1+m));have HS:Hid ((wr.setCell ⟨g,i *2,none⟩ (nv ((L[i]).1+m))).ownsRow B 173 2 (.slice (some ⟨g,0,none⟩) n cap) n (da (dQ m L (i+1)))):=laid (by
     have h:=O8.1;have h2:=Gq m L i Zx;rw[aaO (by rw[lG];exact Zx)]at h2;rw[RZ _ i _ (by rw[lG];exact Zx),adl h2,O7 m L i Zx]at h;exact h)
    have afX:Hid (∀z:Value,(wr.setCell ⟨g,i *2,none⟩ z).cell? ⟨By,2,none⟩=some (.int .i64 (st:Int))):=laid fun z=>(aai wr ⟨g,i *2,none⟩ ⟨By,2,none⟩ z (by intro e;injection e with e1 e2;exact hgB e1)).trans s1;clear O8 aJ aH;generalize(L[i]).1=E at *;have hnv:nv (E+m)=.int .i64 ((E:Int)+(m:Int)):=by simp[nv]
    rw[hnv]at HS;clear hnv;have HS2:Hid ((wr.setCell ⟨g,i *2,none⟩ (.int .i64 ((E:Int)+(m:Int)))).drew.ownsRow B 173 2 (.slice (some ⟨g,0,none⟩) n cap) n (da (dQ m L (i+1)))):=HS;have Wx:Hid ((wr.setCell ⟨g,i *2,none⟩ (.int .i64 ((E:Int)+(m:Int)))).drew.cell? ⟨By,2,none⟩=some (.int .i64 (st:Int))):=laid (afX.out _);clear HS afX;go_wp2
    go_region
    generalize(wr.setCell ⟨g,i *2,none⟩ (.int .i64 ((E:Int)+(m:Int)))).drew=W2 at *;go_wp2
    go_roundw
    case rel=>go_light;exact⟨i+1,by go_num,by omega,HS2.out,Wx.out⟩
    case measure=>go_light;simp[intOf];omega
   ·have F0:i=n:=by omega
    subst F0;have HO2:=laid aJ;clear aJ;go_wp2
    exact HQ.out _ _ _ (Nn x By Rf Sg Fp _ _ _ _ _ _ _ _ _ _ _ _ _ _ _ _ _ _ _ _ _ _ _ _ _ _ _ _ _ _ _ _ _) HO2.out
def RD(w:World)(b:Nat)(s:ByteArray)(p:Int)(c:Int):=
 w.heap[b]?=some (.cells #[.string s,.int .i64 p,.int .i64 c] 98 (0,0))
theorem RD.c0{p:Int}(h:RD w b s p c):w.cell? ⟨b,0,none⟩=some (.string s):=by
 rw[cell_of_row w b 0 _ _ _ h];rfl
theorem RD.c1{p:Int}(h:RD w b s p c):w.cell? ⟨b,1,none⟩=some (.int .i64 p):=by
 rw[cell_of_row w b 1 _ _ _ h];rfl
theorem RD.c2{p:Int}(h:RD w b s p c):w.cell? ⟨b,2,none⟩=some (.int .i64 c):=by
 rw[cell_of_row w b 2 _ _ _ h];rfl
theorem RD.fz{p:Int}(h:RD w b s p c)(j:Nat):w.frozen? ⟨b,j,none⟩=false:=frozen_of_row w b j _ _ h
def gives(c p:Int):List PanicEntry:=[{v:=.iface 70 (.agg #[.int .i64 c,.int .i64 p]),recovered:=false}]
theorem cC(w:World)(b:Nat)(s:ByteArray)(p c:Int)(h:RD w b s p c):
  Calls aah 65 #[.pointer (some ⟨b,0,none⟩)] w fun e w'=>e=.returned (.bool (p==(s.size:Int)))/\∃m,w'=w.drewN m:=by
 have h0:=h.c0;have h1:=h.c1;go_wp2
 go_quiet(fail)
 go_wp2
 go_ret
 exact⟨rfl,nq,rfl⟩
theorem c7(w:World)(b:Nat)(s:ByteArray)(p c:Int)(h:RD w b s p c):
  Calls aah 69 #[.pointer (some ⟨b,0,none⟩)] w fun e w'=>e=.panicked (gives c p)/\∃m,w'=w.drewN m:=by
 have h1:=h.c1;have h2:=h.c2;go_wp2
 go_region_dies
 all_goals(try go_wp2)
 all_goals exact⟨rfl,rfl,1,rfl⟩
def aK(f:UInt8->Bool)(l:List _)(m:Nat):=((l.take m).takeWhile f).length
theorem Ks(f:UInt8->Bool)(m:Nat):aK f [] m=0:=by simp[aK]
theorem xN(f:UInt8->Bool)(l:List _):aK f l 0=0:=by simp[aK]
theorem jY(f:UInt8->Bool)(x:UInt8)(l:List _)(m:Nat):aK f (x::l) (m+1)=if f x=true then aK f l m+1 else 0:=by
 unfold aK;by_cases h:f x=true<;>simp[h]
theorem cH(f:UInt8->Bool):∀l m,aK f l m<=m/\aK f l m<=l.length
 |[],m=>by rw[Ks];simp
 |x::l,0=>by rw[xN];simp
 |x::l,m+1=>by
  have:=cH f l m;rw[jY];split<;>simp<;>omega
theorem fI(f:UInt8->Bool):∀l m k h,k<=aK f l m->k<m->f l[k]=true->k+1<=aK f l m
 |[],m,k,h,_,_,_=>by simp at h
 |x::l,0,k,h,_,hm,_=>by omega
 |x::l,m+1,0,h,_,_,hf=>by
  rw[jY,if_pos (by simp_all)];omega
 |x::l,m+1,k+1,h,hk,hm,hf=>by
  rw[jY]at hk⊢;by_cases hx:f x=true
  ·rw[if_pos hx]at hk⊢;have:=fI f l m k _ (by omega) (by omega) (by simpa using hf);omega
  ·simp_all
theorem fJ(f:UInt8->Bool):∀l m k h,k<=aK f l m->f l[k]=false->aK f l m=k
 |[],m,k,h,_,_=>by simp at h
 |x::l,0,k,h,hk,_=>by rw[xN]at hk⊢;omega
 |x::l,m+1,0,h,_,hf=>by
  rw[jY,if_neg (by simp_all)]
 |x::l,m+1,k+1,h,hk,hf=>by
  rw[jY]at hk⊢;by_cases hx:f x=true
  ·rw[if_pos hx]at hk⊢;have:=fJ f l m k _ (by omega) (by simpa using hf);omega
  ·simp_all
def rest(s:ByteArray)(p:Nat):=s.data.toList.drop p
theorem br(s:ByteArray)(p:Nat):(rest s p).length=s.size-p:=by simp[rest]
theorem Wy(s:ByteArray)(p k:Nat)(h:p+k<s.size):(rest s p)[k]'(by rw[br];omega)=s[p+k]:=by
 simp[rest,ByteArray.getElem_eq_getElem_data]
theorem RD.put{p:Int}(h:RD w b s p c)(q:Int):RD (w.setCell ⟨b,1,none⟩ (.int .i64 q)) b s q c:=by
 unfold RD at *;have:=heap_setCell_same w b 1 _ _ (.int .i64 q) h;simp_all
theorem aB(w:World)(b:Nat)(j:Nat)(v:Value):w.grownBy (w.setCell ⟨b,j,none⟩ v) (some b):=
 ⟨rfl,rfl,rfl,by simp,fun k hk bj=>heap_setCell_other w _ k v (by simp_all)⟩
theorem iJ(w:World)(r:Option Nat):w.grownBy w r:=⟨rfl,rfl,rfl,aao _,fun _ _ _=>rfl⟩
theorem ai(w:World)(n:Nat)(r:Option Nat):w.grownBy (w.drewN n) r:=⟨rfl,rfl,rfl,aao _,fun _ _ _=>rfl⟩
theorem af{a b c:World}(h:a.grownBy b r)(k:b.grownBy c r):a.grownBy c r:=
 ⟨k.os.trans h.os,k.tape.trans h.tape,k.output.trans h.output,Nat.le_trans h.size k.size,fun j hj bj=>(k.block j (Nat.lt_of_lt_of_le hj h.size) bj).trans (h.block j hj bj)⟩
theorem RD.drewN{p:Int}(h:RD w b s p c)(n:Nat):RD (w.drewN n) b s p c:=h
theorem mF(x:UInt8)(w:World):
  Calls aah 71 #[.int .u8 x.toNat] w fun e w'=>e=.returned (.bool (pR x))/\w'=w:=Kh _ (jR x) (iH x) w
def Em(w:World)(b:Nat)(s:ByteArray)(p:Nat)(c:Int)(f:UInt8->Bool)(m:Nat)(q:Nat)(wr:World):Prop:=
 p<=q/\q<=p+aK f (rest s p) m/\RD wr b s (q:Int) c/\w.grownBy wr (some b)
theorem dH(s:ByteArray)(p q:Nat)(hp:p<=q)(h:q<s.size):(rest s p)[q-p]'(by rw[br];omega)=s[q]:=by
 rw[Wy s p _ (by omega)];simp_all
def cj(w:World)(b:Nat):=(intOf ((w.cell? ⟨b,1,none⟩).getD undef)).toNat
theorem RD.cj{p:Int}(h:RD w b s p c):cj w b=p.toNat:=by
 unfold Go.Proofs.YtdcjnhipenbcfaaGreatDoor.cj;rw[h.c1];rfl
def nL(w:World)(b:Nat)(s:ByteArray)(p:Nat)(c:Int)(n:Nat)(least:Int)(e:Ending)(w':World):Prop:=
 (least<=(n:Int)->e=.returned (.string (s.extract p (p+n))))/\((n:Int)<least->e=.panicked (gives c ((p:Int)+(n:Int))))/\RD w' b s ((p:Int)+(n:Int)) c/\w.grownBy w' (some b)
theorem dI(hn:q=p+n)(F1:p<=q)(hle:¬(q:Int)-(p:Int)<least)
  (eM:RD wr b s (q:Int) c)(hg:w.grownBy wr (some b))(m:Nat):nL w b s p c n least (.returned (.string (s.extract p q))) (wr.drewN m):=by
 subst hn;refine⟨fun _=>rfl,fun h=>absurd h (by omega),?_,af hg (ai wr m _)⟩;have:=eM.drewN m
 rwa [show((p+n))=p+n by omega]at this
theorem dj(hn:q=p+n)(F1:p<=q)(hle:(q:Int)-(p:Int)<least)
  (eM:RD wr b s (q:Int) c)(hg:w.grownBy wr (some b))(m:Nat):nL w b s p c n least (.panicked (gives c q)) (wr.drewN m):=by
 subst hn;refine⟨fun h=>absurd h (by omega),fun _=>by simp,?_,af hg (ai wr m _)⟩;have:=eM.drewN m
 rwa [show((p+n))=p+n by omega]at this
theorem Eo(w:World)(b:Nat)(s:ByteArray)(p:Nat)(c:Int)(least most:Int)(h:RD w b s p c)(hs:s.size<=1000)(hp:p<=s.size)(hm:0<=most)(Wz:most<=1000)(hl:0<=least)(Zy:least<=1000):
  Calls aah 70 #[.pointer (some ⟨b,0,none⟩),.func (.func 71) #[] #[],.int .i64 least,.int .i64 most] w fun e w'=>
   nL w b s p c (aK pR (rest s p) most.toNat) least e w':=by
 have h1:=h.c1
 go_enter ac9,acT
 go_wp2
 clear h1
 go_loopw [] (fun wr=>∃q:Nat,Em w b s p c pR most.toNat q wr) (fun wr=>s.size-cj wr b)
 case atStart=>exact⟨p,aao _,by omega,h,iJ _ _⟩
 case round=>
  obtain⟨q,F1,hq,eM,hg⟩:=hrel;have Ep:=cH pR (rest s p) most.toNat;rw[br]at Ep;have c0:=eM.c0;have c1:=eM.c1;have f1:=eM.fz 1;have Ku:aas.wrap ((q:Int)-(p:Int))=(q:Int)-(p:Int):=aaq _ (by omega);by_cases aV:(q:Int)-(p:Int)<most
  ·have te:decide ((q:Int)-(p:Int)<most)=true:=by simp;omega
   by_cases bR:q<s.size
   ·have bj:((q:Int)==(s.size:Int))=false:=by simp;omega
    have ry:(q:Int)<(s.size:Int):=by omega
    by_cases jr:pR s[q]=true
    ·go_wp2_with fail
     go_quiet((first|(go_at_call 65;exact aar (cC _ _ _ _ _ (eM.drewN _)))|(go_at_call 71;exact aal (mF _ _))))
     have rz:=fI pR (rest s p) most.toNat (q-p) (by rw[br];omega) (by omega) (by omega) (by rw[dH s p q F1 bR];exact jr);go_wp2
     have iE:=(eM.drewN nq).put ((q:Int)+1);have R0:=af hg (af (ai wr nq (some b)) (aB (wr.drewN nq) b 1 (.int .i64 ((q:Int)+1))))
     go_roundw
     case rel=>go_light;exact⟨q+1,by omega,by omega,iE,R0⟩
     case measure=>go_light;have e1:=eM.cj;have e2:=iE.cj;rw[e1,e2];omega
    ·rw[aak]at jr;have bm:Hid (q=p+aK pR (rest s p) most.toNat):=by
      have:=fJ pR (rest s p) most.toNat (q-p) (by rw[br];omega) (by omega) (by rw[dH s p q F1 bR];exact jr);exact laid (by omega)
     go_wp2_with fail
     go_quiet((first|(go_at_call 65;exact aar (cC _ _ _ _ _ (eM.drewN _)))|(go_at_call 71;exact aal (mF _ _))))
     have jZ:=eM.drewN nq;have fS:=af hg (ai wr nq (some b));by_cases hle:(q:Int)-(p:Int)<least
     ·go_wp2_with(go_at_call 69;refine(c7 _ _ _ _ _ jZ).mono ?_;rintro e w' ⟨rfl,mq,rfl⟩)
      exact⟨rfl,dj (least:=least) bm.out (by omega) (by omega) eM hg _⟩
     ·go_wp2
      go_quiet(fail)
      go_wp2
      go_ret
      exact dI (least:=least) bm.out (by omega) (by omega) jZ fS _
   ·have bj:((q:Int)==(s.size:Int))=true:=by simp;omega
    have bm:Hid (q=p+aK pR (rest s p) most.toNat):=laid (by omega);go_wp2_with fail
    go_quiet((first|(go_at_call 65;exact aar (cC _ _ _ _ _ (eM.drewN _)))|(go_at_call 71;exact aal (mF _ _))))
    have jZ:=eM.drewN nq;have fS:=af hg (ai wr nq (some b));by_cases hle:(q:Int)-(p:Int)<least
    ·go_wp2_with(go_at_call 69;refine(c7 _ _ _ _ _ jZ).mono ?_;rintro e w' ⟨rfl,mq,rfl⟩)
     exact⟨rfl,dj (least:=least) bm.out (by omega) (by omega) eM hg _⟩
    ·go_wp2
     go_quiet(fail)
     go_wp2
     go_ret
     exact dI (least:=least) bm.out (by omega) (by omega) jZ fS _
  ·have te:decide ((q:Int)-(p:Int)<most)=false:=by simp;omega
   have bm:Hid (q=p+aK pR (rest s p) most.toNat):=laid (by omega);go_wp2_with fail
   go_quiet((first|(go_at_call 65;exact aar (cC _ _ _ _ _ (eM.drewN _)))|(go_at_call 71;exact aal (mF _ _))))
   have jZ:=eM.drewN nq;have fS:=af hg (ai wr nq (some b));by_cases hle:(q:Int)-(p:Int)<least
   ·go_wp2_with(go_at_call 69;refine(c7 _ _ _ _ _ jZ).mono ?_;rintro e w' ⟨rfl,mq,rfl⟩)
    exact⟨rfl,dj (least:=least) bm.out (by omega) (by omega) eM hg _⟩
   ·go_wp2
    go_quiet(fail)
    go_wp2
    go_ret
    exact dI (least:=least) bm.out (by omega) (by omega) jZ fS _
def O9(n:Int):=decide (65<=n/\n<=90)||decide (97<=n/\n<=122)||decide (48<=n/\n<=57)||decide (n=95)||decide (n=46)
def O_(n:Int):=decide (33<=n/\n<=126)
def rA(b:UInt8):=O9 b.toNat
def mA(b:UInt8):=O_ b.toNat
theorem Kv(n:Int)(h0:0<=n)(h1:n<=255)(w:World):
  Calls aah 95 #[.int .u8 n] w fun e w'=>e=.returned (.bool (O9 n))/\w'=w:=by
 all_goals
  go_enter Tryz.func95,Tryz.ntmps95
  go_wp2
  all_goals go_ret
  all_goals(go_light;refine⟨bG ?_,rfl⟩;first|(simp_all[O9];done)|(rw[Bool.eq_iff_iff];simp[O9];omega))
theorem Kx(n:Int)(h0:0<=n)(h1:n<=255)(w:World):
  Calls aah 116 #[.int .u8 n] w fun e w'=>e=.returned (.bool (O9 n))/\w'=w:=by
 by_cases a1:65<=n<;>by_cases a2:n<=90<;>by_cases a3:97<=n<;>by_cases a4:n<=122<;>by_cases a5:48<=n<;>by_cases a6:n<=57<;>first|(exfalso;omega)|skip
 all_goals
  go_enter Tryz.func116,Tryz.ntmps116
  go_wp2
  all_goals go_ret
  all_goals(go_light;exact⟨bG (by simp_all[O9]),rfl⟩)
theorem Ky(n:Int)(h0:0<=n)(h1:n<=255)(w:World):
  Calls aah 120 #[.int .u8 n] w fun e w'=>e=.returned (.bool (O_ n))/\w'=w:=by
 by_cases a1:33<=n<;>by_cases a2:n<=126;all_goals
  go_wp2
  all_goals go_ret
  all_goals(exact⟨bG (by simp_all[O_]),rfl⟩)
theorem mG(x:UInt8)(w:World):
  Calls aah 95 #[.int .u8 x.toNat] w fun e w'=>e=.returned (.bool (rA x))/\w'=w:=Kv _ (jR x) (iH x) w
theorem mH(x:UInt8)(w:World):
  Calls aah 116 #[.int .u8 x.toNat] w fun e w'=>e=.returned (.bool (rA x))/\w'=w:=Kx _ (jR x) (iH x) w
theorem mI(x:UInt8)(w:World):
  Calls aah 120 #[.int .u8 x.toNat] w fun e w'=>e=.returned (.bool (mA x))/\w'=w:=Ky _ (jR x) (iH x) w
def bB(st:Nat×Bool)(f:Nat->Nat×Bool):=if st.2=true then st else f st.1
theorem gW{st:Nat×Bool}(h:st.2=true)(f:Nat->Nat×Bool):bB st f=st:=if_pos h
theorem fC{st:Nat×Bool}(h:st.2=false)(f:Nat->Nat×Bool):bB st f=f st.1:=if_neg (by simp[h])
def aI(s:ByteArray)(c:UInt8)(p:Nat):=if h:p<s.size then(if s[p]=c then(p+1,false)else(p,true))else(p,true)
def db(s:ByteArray)(f:UInt8->Bool)(least most p:Nat):=(p+aK f (rest s p) most,decide (aK f (rest s p) most<least))
def j0(s:ByteArray)(p:Nat):=bB (db s rA 1 10 p) (aI s 10)
def bN(s:ByteArray)(most p:Nat):=bB (db s pR 1 most p) (aI s 10)
def cR(s:ByteArray)(most p:Nat):=aK pR (rest s p) most
def vH(s:ByteArray):Nat->Nat->Nat->Nat×Bool
 |0,_,p=>(p,false)
 |fuel+1,n,p=>if s.size<=p then(p,false)else bB (bN s (200-n) p) (vH s fuel (n+cR s (200-n) p))
def mB(s:ByteArray):=
 bB (aI s 62 0) fun p=>bB (j0 s p) fun p=>bB (bN s 200 p) (vH s (s.size+1) (cR s 200 p))
def ff(s:ByteArray)(p:Nat):=
 bB (aI s 64 p) fun p=>bB (j0 s p) fun p=>bB (bN s 30 p) fun p'=>bB (aI s 43 p') fun p'=>bB (aI s 10 p') fun p'=>bB (db s mA (cR s 30 p) (cR s 30 p) p') (aI s 10)
def bO(s:ByteArray)
 |0,p=>(p,decide (p<s.size))
 |n+1,p=>if s.size<=p then(p,false)else bB (ff s p) (bO s n)
theorem dc(s:ByteArray)(c:UInt8)(p:Nat)(h:p<=s.size):p<=(aI s c p).1/\(aI s c p).1<=s.size:=by
 unfold aI;split
 ·split<;>simp<;>omega
 ·omega
theorem zG(s:ByteArray)(c:UInt8)(p:Nat)(h:(aI s c p).2=false):(aI s c p).1=p+1/\p<s.size:=by
 unfold aI at *;split at h
 ·split at h
  ·simp_all
  simp_all
 simp_all
theorem lM(s:ByteArray)(f:UInt8->Bool)(least most p:Nat)(h:p<=s.size):p<=(db s f least most p).1/\(db s f least most p).1<=s.size:=by
 have:=(cH f (rest s p) most).2;rw[br]at this;unfold db;omega
theorem dJ{st:Nat×Bool}{f:Nat->Nat×Bool}(h:p<=st.1/\st.1<=s.size)(hf:∀q,q<=s.size->q<=(f q).1/\(f q).1<=s.size):p<=(bB st f).1/\(bB st f).1<=s.size:=by
 unfold bB;split
 ·exact h
 ·have:=hf _ h.2;omega
theorem zH(s:ByteArray)(p:Nat)(h:p<=s.size):p<=(j0 s p).1/\(j0 s p).1<=s.size:=dJ (lM s _ _ _ p h) fun q hq=>dc s _ q hq
theorem gX(s:ByteArray)(m p:Nat)(h:p<=s.size):p<=(bN s m p).1/\(bN s m p).1<=s.size:=dJ (lM s _ _ _ p h) fun q hq=>dc s _ q hq
theorem eT{st:Nat×Bool}{f:Nat->Nat×Bool}(h:(bB st f).2=false):st.2=false/\(f st.1).2=false:=by
 unfold bB at h;split at h
 ·simp_all
 ·simp_all
theorem ij(s:ByteArray)(m p:Nat)(h:(bN s m p).2=false):(bN s m p).1=p+cR s m p+1/\1<=cR s m p/\p+cR s m p<s.size:=by
 unfold bN at *;obtain⟨h1,h2⟩:=eT h;rw[fC h1];have:=zG s 10 _ h2;unfold db at this h1⊢;simp at h1 this⊢;unfold cR;omega
theorem lN(s:ByteArray)(m p:Nat):cR s m p<=m:=(cH _ _ _).1
def RF(w:World)(b:Nat)(s:ByteArray)(p:Nat)(bad:Bool):Prop:=
 w.heap[b]?=some (.cells #[.string s,.int .i64 (p:Int),.bool bad] 143 (0,0))
theorem RF.c0(h:RF w b s p t):w.cell? ⟨b,0,none⟩=some (.string s):=by
 rw[cell_of_row w b 0 _ _ _ h];rfl
theorem RF.c1(h:RF w b s p t):w.cell? ⟨b,1,none⟩=some (.int .i64 (p:Int)):=by
 rw[cell_of_row w b 1 _ _ _ h];rfl
theorem RF.c2(h:RF w b s p t):w.cell? ⟨b,2,none⟩=some (.bool t):=by
 rw[cell_of_row w b 2 _ _ _ h];rfl
theorem RF.fz(h:RF w b s p t)(j:Nat):w.frozen? ⟨b,j,none⟩=false:=frozen_of_row w b j _ _ h
theorem RF.put(h:RF w b s p t):RF (w.setCell ⟨b,1,none⟩ (.int .i64 ((p:Int)+1))) b s (p+1) t:=by
 unfold RF at *;have:=heap_setCell_same w b 1 _ _ (.int .i64 (p+1)) h;rw[this,show((p+1))=p+1 by omega];rfl
theorem RF.pa(h:RF w b s p t):RF (w.setCell ⟨b,2,none⟩ (.bool true)) b s p true:=by
 unfold RF at *;have:=heap_setCell_same w b 2 _ _ (.bool true) h;rw[this];rfl
theorem RF.drewN(h:RF w b s p t)(n:Nat):RF (w.drewN n) b s p t:=h
theorem RF.cj(h:RF w b s p t):cj w b=p:=by
 unfold Go.Proofs.YtdcjnhipenbcfaaGreatDoor.cj;rw[h.c1];simp[intOf]
def fD(w:World)(b:Nat)(s:ByteArray)(st:Nat×Bool)(w':World):Prop:=RF w' b s st.1 st.2/\w.grownBy w' (some b)
theorem iK(w:World)(b:Nat)(s:ByteArray)(p:Nat)(n:Int)(h:RF w b s p true):
  Calls aah 100 #[.pointer (some ⟨b,0,none⟩),.int .u8 n] w fun e w'=>e=.returned (.tuple #[])/\fD w b s (p,true) w':=by
 have c0:=h.c0;have c1:=h.c1;have c2:=h.c2;have f2:=h.fz 2
 go_enter abP,abE
 go_wp2_with fail
 go_quiet(fail)
 go_wp2
 first|go_end0|refine bodyPost_ret (results_none rfl _ _ _) rfl ?_
 exact⟨rfl,(h.drewN nq).pa,af (ai w nq (some b)) (aB _ b 2 _)⟩
theorem js(w:World)(b:Nat)(s:ByteArray)(p:Nat)(n:Int)(x:UInt8)(hn:n=(x.toNat:Int))(th:RF w b s p false)(hs:s.size<=1000)(hp:p<=s.size):
  Calls aah 100 #[.pointer (some ⟨b,0,none⟩),.int .u8 n] w fun e w'=>e=.returned (.tuple #[])/\fD w b s (aI s x p) w':=by
 subst hn;have c0:=th.c0;have c1:=th.c1;have c2:=th.c2;have f2:=th.fz 2;have f1:=th.fz 1;by_cases bR:p<s.size
 ·have te:decide ((s.size:Int)<=(p:Int))=false:=by simp;omega
  have ry:(p:Int)<(s.size:Int):=by omega
  by_cases hx:s[p]=x
  ·have hd:((s[p].toNat:Int) != (x.toNat:Int))=false:=by rw[hx];simp
   have aA:aI s x p=(p+1,false):=by unfold aI;rw[dif_pos bR,if_pos hx]
   rw[aA];clear aA hx
   go_enter abP,abE
   go_wp2_with fail
   go_quiet(fail)
   go_wp2
   first|go_end0|refine bodyPost_ret (results_none rfl _ _ _) rfl ?_
   exact⟨rfl,(th.drewN nq).put,af (ai w nq (some b)) (aB _ b 1 _)⟩
  ·have hd:((s[p].toNat:Int) != (x.toNat:Int))=true:=by
    rw[bne_iff_ne];intro hh;exact hx (aaP (by omega))
   have aA:aI s x p=(p,true):=by unfold aI;rw[dif_pos bR,if_neg hx]
   rw[aA];clear aA hx
   go_enter abP,abE
   go_wp2_with fail
   go_quiet(fail)
   go_wp2
   first|go_end0|refine bodyPost_ret (results_none rfl _ _ _) rfl ?_
   exact⟨rfl,(th.drewN nq).pa,af (ai w nq (some b)) (aB _ b 2 _)⟩
 ·have te:decide ((s.size:Int)<=(p:Int))=true:=by simp;omega
  have aA:aI s x p=(p,true):=by unfold aI;rw[dif_neg bR]
  rw[aA];clear aA
  go_enter abP,abE
  go_wp2_with fail
  go_quiet(fail)
  go_wp2
  first|go_end0|refine bodyPost_ret (results_none rfl _ _ _) rfl ?_
  exact⟨rfl,(th.drewN nq).pa,af (ai w nq (some b)) (aB _ b 2 _)⟩
theorem nM(w:World)(b:Nat)(s:ByteArray)(st:Nat×Bool)(n:Int)(x:UInt8)(hn:n=(x.toNat:Int))(h:RF w b s st.1 st.2)(hs:s.size<=1000)(hp:st.1<=s.size):
  Calls aah 100 #[.pointer (some ⟨b,0,none⟩),.int .u8 n] w fun e w'=>e=.returned (.tuple #[])/\fD w b s (bB st (aI s x)) w':=by
 obtain⟨p,t⟩:=st;cases t with
 |true=>exact iK w b s p n h
 |false=>exact js w b s p n x hn h hs hp
def cut(s:ByteArray)(p q:Nat):ByteArray:=str ((rest s p).take (q-p))
theorem nN(s:ByteArray)(p q:Nat)(hq:q<=s.size):(cut s p q).size=q-p:=by
 unfold cut;rw[au,adk,br];omega
theorem mJ(s:ByteArray)(q:Nat)(h:q<s.size):s.extract q (q+1)=⟨#[s[q]]⟩:=by
 apply abB;apply abF;simp only[abo,abv,abH];rw[drop_cons s q h,show q+1-q=1 by omega];rfl
theorem Gr(s:ByteArray)(p q:Nat)(hp:p<=q)(h:q<s.size):cut s p q++s.extract q (q+1)=cut s p (q+1):=by
 rw[mJ s q h];unfold cut;rw[zw,show q+1-p=(q-p)+1 by omega,aat (by rw[br];omega),dH s p q hp h]
theorem lO(s:ByteArray):s.toList.isEmpty=decide (s.size=0):=by
 rw[aby];have h2:s.data.toList.length=s.size:=by simp
 generalize s.data.toList=l at *;cases l with
 |nil=>simp[<-h2]
 |cons a l=>rw[<-h2];simp
theorem vI(s:ByteArray)(p q:Nat)(h:q=p):(cut s p q).toList.isEmpty=true:=by
 subst h;rw[lO];unfold cut;rw[aa6];rfl
theorem zI(s:ByteArray)(p q:Nat)(h:p<q)(hq:q<=s.size):(cut s p q).toList.isEmpty=false:=by
 rw[lO,nN s p q hq];simp;omega
theorem rV(s:ByteArray)(p q:Nat)(hr:q=p+aK rA (rest s p) 10)(hz:q=p):j0 s p=(q,true):=by
 have h0:aK rA (rest s p) 10=0:=by omega
 unfold j0;rw[gW (by unfold db;simp[h0])];unfold db;rw[h0];simp[hz]
theorem rW(s:ByteArray)(p q:Nat)(hr:q=p+aK rA (rest s p) 10)(hz:p<q):j0 s p=aI s 10 q:=by
 unfold j0;rw[fC (by unfold db;simp;omega)];unfold db;rw[<-hr]
theorem R2(w:World)(b:Nat)(s:ByteArray)(p:Nat)(h:RF w b s p true):
  Calls aah 101 #[.pointer (some ⟨b,0,none⟩)] w fun e w'=>e=.returned (.string ⟨#[]⟩)/\fD w b s (p,true) w':=by
 have c2:=h.c2
 go_enter Tryz.func101,Tryz.ntmps101
 go_wp2
 go_loopw [3] (fun v wr=>v=.string ⟨#[]⟩/\wr=w) (fun _ _=>0)
 case atStart=>exact⟨rfl,rfl⟩
 case round=>
  obtain⟨rfl,rfl⟩:=hrel;go_wp2_with fail
  go_quiet(fail)
  have f2:=h.fz 2;have rX:=(h.drewN nq).pa;go_wp2_with fail
  refine(iK _ _ s p _ rX).mono ?_;rintro e w1 ⟨rfl,dE,ju⟩;go_wp2
  go_ret
  exact⟨rfl,dE,af (af (ai _ nq (some b)) (aB _ b 2 _)) ju⟩
def WA(w:World)(b:Nat)(s:ByteArray)(p:Nat)(q:Nat)(wr:World):Prop:=
 p<=q/\q<=p+aK rA (rest s p) 10/\RF wr b s q false/\w.grownBy wr (some b)
theorem Pa(w:World)(b:Nat)(s:ByteArray)(p:Nat)(h:RF w b s p false)(hs:s.size<=1000)(hp:p<=s.size):
  Calls aah 101 #[.pointer (some ⟨b,0,none⟩)] w fun e w'=>e=.returned (.string (cut s p (p+aK rA (rest s p) 10)))/\fD w b s (j0 s p) w':=by
 have Ep:=cH rA (rest s p) 10;rw[br]at Ep
 go_enter Tryz.func101,Tryz.ntmps101
 go_wp2
 go_loopw [3] (fun v wr=>∃q:Nat,v=.string (cut s p q)/\WA w b s p q wr) (fun _ wr=>s.size-cj wr b)
 case atStart=>exact⟨p,by unfold cut;rw[aa6];rfl,aao _,by omega,h,iJ _ _⟩
 case round=>
  obtain⟨q,rfl,F1,hq,th,hg⟩:=hrel;have c0:=th.c0;have c1:=th.c1;have c2:=th.c2;have f1:=th.fz 1;have f2:=th.fz 2;have JY:=nN s p q (by omega);have HCZ:=laid JY;have amR:(cut s p q).size<=1000:=by omega
  by_cases bR:q<s.size
  ·have te:decide ((q:Int)<(s.size:Int))=true:=by simp;omega
   have ry:(q:Int)<(s.size:Int):=by omega
   by_cases aV:q-p<10
   ·have F2:decide (((cut s p q).size:Int)<10)=true:=by simp;omega
    clear JY;by_cases jr:rA s[q]=true
    ·have rz:=fI rA (rest s p) 10 (q-p) (by rw[br];omega) (by omega) (by omega) (by rw[dH s p q F1 bR];exact jr);go_wp2_with fail
     go_quiet((go_at_call 116;exact aal (mH _ _)))
     have Ku:aas.wrap ((q:Int)+1)=(q:Int)+1:=aaq _ (by omega);have WB:(q:Int)+1<=(s.size:Int):=by omega
     have hex:=mJ s q bR;have nO:=th.drewN nq;have ju:=af hg (ai wr nq (some b));go_wp2_with fail
     go_quiet(fail)
     have iE:=(nO.drewN nq).put;have R0:=af ju (af (ai _ nq (some b)) (aB _ b 1 (.int .i64 ((q:Int)+1))));rw[abn]at iE R0;have HV:Hid (abN (cut s p q++⟨#[s[q]]⟩)=abN (cut s p (q+1))):=laid (b_ (by rw[<-hex];exact Gr s p q F1 bR));have BL:=laid th.cj;have WC:=laid iE.cj;clear hex;go_wp2
     go_roundw
     case rel=>go_light;exact⟨q+1,HV.out,by omega,by omega,iE,R0⟩
     case measure=>go_light;rw[BL.out,WC.out];omega
    ·rw[aak]at jr;have bm:Hid (q=p+aK rA (rest s p) 10):=by
      have:=fJ rA (rest s p) 10 (q-p) (by rw[br];omega) (by omega) (by rw[dH s p q F1 bR];exact jr);exact laid (by omega)
     go_wp2_with fail
     go_quiet((go_at_call 116;exact aal (mH _ _)))
     have nO:=th.drewN nq;have ju:=af hg (ai wr nq (some b));by_cases hzero:q=p
     ·have HZ:=laid hzero;have tu:=vI s p q hzero;clear hzero;have rX:=nO.pa;have fS:=af ju (aB _ b 2 (.bool true));go_wp2_with fail
      refine(iK _ _ s q _ rX).mono ?_;rintro e w1 ⟨rfl,dE,om⟩;have HE:=laid (rV s p q bm.out HZ.out);go_wp2
      go_ret
      exact⟨cP (by rw[<-bm.out]),by rw[HE.out];exact⟨dE,af fS om⟩⟩
     ·have tu:=zI s p q (by omega) (by omega);have HE:=laid (rW s p q bm.out (by omega));clear hzero;go_wp2_with fail
      refine(js _ _ s q _ 10 rfl nO hs (by omega)).mono ?_;rintro e w1 ⟨rfl,dE,om⟩;go_wp2
      go_ret
      exact⟨cP (by rw[<-bm.out]),by rw[HE.out];exact⟨dE,af ju om⟩⟩
   ·have F2:decide (((cut s p q).size:Int)<10)=false:=by simp;omega
    have bm:Hid (q=p+aK rA (rest s p) 10):=laid (by omega);clear JY;go_wp2_with fail
    go_quiet((go_at_call 116;exact aal (mH _ _)))
    have nO:=th.drewN nq;have ju:=af hg (ai wr nq (some b));by_cases hzero:q=p
    ·have HZ:=laid hzero;have tu:=vI s p q hzero;clear hzero;have rX:=nO.pa;have fS:=af ju (aB _ b 2 (.bool true));go_wp2_with fail
     refine(iK _ _ s q _ rX).mono ?_;rintro e w1 ⟨rfl,dE,om⟩;have HE:=laid (rV s p q bm.out HZ.out);go_wp2
     go_ret
     exact⟨cP (by rw[<-bm.out]),by rw[HE.out];exact⟨dE,af fS om⟩⟩
    ·have tu:=zI s p q (by omega) (by omega);have HE:=laid (rW s p q bm.out (by omega));clear hzero;go_wp2_with fail
     refine(js _ _ s q _ 10 rfl nO hs (by omega)).mono ?_;rintro e w1 ⟨rfl,dE,om⟩;go_wp2
     go_ret
     exact⟨cP (by rw[<-bm.out]),by rw[HE.out];exact⟨dE,af ju om⟩⟩
  ·have te:decide ((q:Int)<(s.size:Int))=false:=by simp;omega
   have bm:Hid (q=p+aK rA (rest s p) 10):=laid (by omega);clear JY;go_wp2_with fail
   go_quiet((go_at_call 116;exact aal (mH _ _)))
   have nO:=th.drewN nq;have ju:=af hg (ai wr nq (some b));by_cases hzero:q=p
   ·have HZ:=laid hzero;have tu:=vI s p q hzero;clear hzero;have rX:=nO.pa;have fS:=af ju (aB _ b 2 (.bool true));go_wp2_with fail
    refine(iK _ _ s q _ rX).mono ?_;rintro e w1 ⟨rfl,dE,om⟩;have HE:=laid (rV s p q bm.out HZ.out);go_wp2
    go_ret
    exact⟨cP (by rw[<-bm.out]),by rw[HE.out];exact⟨dE,af fS om⟩⟩
   ·have tu:=zI s p q (by omega) (by omega);have HE:=laid (rW s p q bm.out (by omega));clear hzero;go_wp2_with fail
    refine(js _ _ s q _ 10 rfl nO hs (by omega)).mono ?_;rintro e w1 ⟨rfl,dE,om⟩;go_wp2
    go_ret
    exact⟨cP (by rw[<-bm.out]),by rw[HE.out];exact⟨dE,af ju om⟩⟩
def zJ(s:ByteArray)(st:Nat×Bool):ByteArray:=if st.2=true then⟨#[]⟩else cut s st.1 (st.1+aK rA (rest s st.1) 10)
theorem Gs(w:World)(b:Nat)(s:ByteArray)(st:Nat×Bool)(h:RF w b s st.1 st.2)(hs:s.size<=1000)(hp:st.1<=s.size):
  Calls aah 101 #[.pointer (some ⟨b,0,none⟩)] w fun e w'=>e=.returned (.string (zJ s st))/\fD w b s (bB st (j0 s)) w':=by
 obtain⟨p,t⟩:=st;cases t with
 |true=>exact R2 w b s p h
 |false=>exact Pa w b s p h hs hp
def oy(s:ByteArray)(p q:Nat):ByteArray:=str (((rest s p).take (q-p)).map gb)
theorem vJ(s:ByteArray)(p q:Nat)(hq:q<=s.size):(oy s p q).size=q-p:=by
 unfold oy;rw[au,List.length_map,adk,br];omega
theorem Pb(s:ByteArray)(p q:Nat)(hp:p<=q)(h:q<s.size):oy s p q++⟨#[gb s[q]]⟩=oy s p (q+1):=by
 unfold oy;rw[zw,show q+1-p=(q-p)+1 by omega,aat (by rw[br];omega),dH s p q hp h,abu];rfl
theorem rY(s:ByteArray)(p q:Nat)(h:q=p):(oy s p q).toList.isEmpty=true:=by
 subst h;rw[lO];unfold oy;rw[aa6];rfl
theorem vK(s:ByteArray)(p q:Nat)(h:p<q)(hq:q<=s.size):(oy s p q).toList.isEmpty=false:=by
 rw[lO,vJ s p q hq];simp;omega
theorem rZ(s:ByteArray)(m p q:Nat)(hr:q=p+aK pR (rest s p) m)(hz:q=p):bN s m p=(q,true):=by
 have h0:aK pR (rest s p) m=0:=by omega
 unfold bN;rw[gW (by unfold db;simp[h0])];unfold db;rw[h0];simp[hz]
theorem r9(s:ByteArray)(m p q:Nat)(hr:q=p+aK pR (rest s p) m)(hz:p<q):bN s m p=aI s 10 q:=by
 unfold bN;rw[fC (by unfold db;simp;omega)];unfold db;rw[<-hr]
def pU(s:ByteArray)(m p:Nat):ByteArray:=oy s p (p+cR s m p)
theorem qE(s:ByteArray)(m p:Nat)(hp:p<=s.size):(pU s m p).size=cR s m p:=by
 have:=(cH pR (rest s p) m).2;rw[br]at this;unfold pU cR;rw[vJ _ _ _ (by omega)];omega
theorem R3(w:World)(b:Nat)(s:ByteArray)(p:Nat)(n:Int)(h:RF w b s p true):
  Calls aah 102 #[.pointer (some ⟨b,0,none⟩),.int .i64 n] w fun e w'=>e=.returned (.string ⟨#[]⟩)/\fD w b s (p,true) w':=by
 have c2:=h.c2;go_wp2
 go_loopw [5] (fun v wr=>v=.string ⟨#[]⟩/\wr=w) (fun _ _=>0)
 case atStart=>exact⟨rfl,rfl⟩
 case round=>
  obtain⟨rfl,rfl⟩:=hrel;go_wp2_with fail
  go_quiet(fail)
  have f2:=h.fz 2;have rX:=(h.drewN nq).pa;go_wp2_with fail
  refine(iK _ _ s p _ rX).mono ?_;rintro e w1 ⟨rfl,dE,ju⟩;go_wp2
  go_ret
  exact⟨rfl,dE,af (af (ai _ nq (some b)) (aB _ b 2 _)) ju⟩
def WE(w:World)(b:Nat)(s:ByteArray)(p:Nat)(m:Nat)(q:Nat)(wr:World):Prop:=
 p<=q/\q<=p+aK pR (rest s p) m/\RF wr b s q false/\w.grownBy wr (some b)
theorem CL(w:World)(b:Nat)(s:ByteArray)(p:Nat)(n:Int)(m:Nat)(hn:n=(m:Int))(hm:m<=1000)(h:RF w b s p false)(hs:s.size<=1000)(hp:p<=s.size):
  Calls aah 102 #[.pointer (some ⟨b,0,none⟩),.int .i64 n] w fun e w'=>e=.returned (.string (pU s m p))/\fD w b s (bN s m p) w':=by
 subst hn;have Ep:=cH pR (rest s p) m;rw[br]at Ep
 go_enter Tryz.func102,Tryz.ntmps102
 go_wp2
 go_loopw [5] (fun v wr=>∃q:Nat,v=.string (oy s p q)/\WE w b s p m q wr) (fun _ wr=>s.size-cj wr b)
 case atStart=>exact⟨p,by unfold oy;rw[aa6];rfl,aao _,by omega,h,iJ _ _⟩
 case round=>
  obtain⟨q,rfl,F1,hq,th,hg⟩:=hrel;have c0:=th.c0;have c1:=th.c1;have c2:=th.c2;have f1:=th.fz 1;have f2:=th.fz 2;have JY:=vJ s p q (by omega);have HCZ:=laid JY;have amR:(oy s p q).size<=1000:=by omega
  by_cases bR:q<s.size
  ·have te:decide ((q:Int)<(s.size:Int))=true:=by simp;omega
   have ry:(q:Int)<(s.size:Int):=by omega
   by_cases aV:q-p<m
   ·have F2:decide ((oy s p q).size<m)=true:=by simp;omega
    have vL:(oy s p q).size<m:=by omega
    clear JY;by_cases jr:pR s[q]=true
    ·have rz:=fI pR (rest s p) m (q-p) (by rw[br];omega) (by omega) (by omega) (by rw[dH s p q F1 bR];exact jr);go_wp2_with fail
     go_quiet(fail)
     have abl:=th.drewN nq;have hg0:=af hg (ai wr nq (some b));go_wp2_with fail
     go_quiet((go_at_call 103;refine(RA _ jr _).mono ?_;rintro e lF ⟨rfl,rfl⟩;exact⟨rfl,_,rfl⟩))
     have HV:=laid (b_ (Pb s p q F1 bR));have iE:=(abl.drewN nq).put;have R0:=af hg0 (af (ai _ nq (some b)) (aB _ b 1 (.int .i64 ((q:Int)+1))));rw[abn]at iE R0;have BL:=laid th.cj;have WC:=laid iE.cj;go_wp2
     go_roundw
     case rel=>go_light;exact⟨q+1,HV.out,by omega,by omega,iE,R0⟩
     case measure=>go_light;rw[BL.out,WC.out];omega
    ·rw[aak]at jr;have bm:Hid (q=p+aK pR (rest s p) m):=by
      have:=fJ pR (rest s p) m (q-p) (by rw[br];omega) (by omega) (by rw[dH s p q F1 bR];exact jr);exact laid (by omega)
     go_wp2_with fail
     go_quiet(fail)
     have abl:=th.drewN nq;have hg0:=af hg (ai wr nq (some b));go_wp2_with fail
     go_quiet((go_at_call 103;refine(Wn _ jr _).mono ?_;rintro e lF ⟨rfl,rfl⟩;exact⟨rfl,_,rfl⟩))
     have nO:=abl.drewN nq;have ju:=af hg0 (ai _ nq (some b));rw[abn]at nO ju;by_cases hzero:q=p
     ·have HZ:=laid hzero;have tu:=rY s p q hzero;clear hzero;have rX:=nO.pa;have fS:=af ju (aB _ b 2 (.bool true));go_wp2_with fail
      refine(iK _ _ s q _ rX).mono ?_;rintro e w1 ⟨rfl,dE,om⟩;have HE:=laid (rZ s m p q bm.out HZ.out);go_wp2
      go_ret
      exact⟨cP (by unfold pU cR;rw[<-bm.out]),by rw[HE.out];exact⟨dE,af fS om⟩⟩
     ·have tu:=vK s p q (by omega) (by omega);have HE:=laid (r9 s m p q bm.out (by omega));clear hzero;go_wp2_with fail
      refine(js _ _ s q _ 10 rfl nO hs (by omega)).mono ?_;rintro e w1 ⟨rfl,dE,om⟩;go_wp2
      go_ret
      exact⟨cP (by unfold pU cR;rw[<-bm.out]),by rw[HE.out];exact⟨dE,af ju om⟩⟩
   ·have F2:decide ((oy s p q).size<m)=false:=by simp;omega
    have vL:¬(oy s p q).size<m:=by omega
    have bm:Hid (q=p+aK pR (rest s p) m):=laid (by omega);clear JY;go_wp2_with fail
    go_quiet(fail)
    have nO:=th.drewN nq;have ju:=af hg (ai wr nq (some b));by_cases hzero:q=p
    ·have HZ:=laid hzero;have tu:=rY s p q hzero;clear hzero;have rX:=nO.pa;have fS:=af ju (aB _ b 2 (.bool true));go_wp2_with fail
     refine(iK _ _ s q _ rX).mono ?_;rintro e w1 ⟨rfl,dE,om⟩;have HE:=laid (rZ s m p q bm.out HZ.out);go_wp2
     go_ret
     exact⟨cP (by unfold pU cR;rw[<-bm.out]),by rw[HE.out];exact⟨dE,af fS om⟩⟩
    ·have tu:=vK s p q (by omega) (by omega);have HE:=laid (r9 s m p q bm.out (by omega));clear hzero;go_wp2_with fail
     refine(js _ _ s q _ 10 rfl nO hs (by omega)).mono ?_;rintro e w1 ⟨rfl,dE,om⟩;go_wp2
     go_ret
     exact⟨cP (by unfold pU cR;rw[<-bm.out]),by rw[HE.out];exact⟨dE,af ju om⟩⟩
  ·have te:decide ((q:Int)<(s.size:Int))=false:=by simp;omega
   have bm:Hid (q=p+aK pR (rest s p) m):=laid (by omega);clear JY;go_wp2_with fail
   go_quiet(fail)
   have nO:=th.drewN nq;have ju:=af hg (ai wr nq (some b));by_cases hzero:q=p
   ·have HZ:=laid hzero;have tu:=rY s p q hzero;clear hzero;have rX:=nO.pa;have fS:=af ju (aB _ b 2 (.bool true));go_wp2_with fail
    refine(iK _ _ s q _ rX).mono ?_;rintro e w1 ⟨rfl,dE,om⟩;have HE:=laid (rZ s m p q bm.out HZ.out);go_wp2
    go_ret
    exact⟨cP (by unfold pU cR;rw[<-bm.out]),by rw[HE.out];exact⟨dE,af fS om⟩⟩
   ·have tu:=vK s p q (by omega) (by omega);have HE:=laid (r9 s m p q bm.out (by omega));clear hzero;go_wp2_with fail
    refine(js _ _ s q _ 10 rfl nO hs (by omega)).mono ?_;rintro e w1 ⟨rfl,dE,om⟩;go_wp2
    go_ret
    exact⟨cP (by unfold pU cR;rw[<-bm.out]),by rw[HE.out];exact⟨dE,af ju om⟩⟩
def Gt(s:ByteArray)(m:Nat)(st:Nat×Bool):ByteArray:=if st.2=true then⟨#[]⟩else pU s m st.1
theorem R4(w:World)(b:Nat)(s:ByteArray)(st:Nat×Bool)(n:Int)(m:Nat)(hn:n=(m:Int))(hm:m<=1000)(h:RF w b s st.1 st.2)(hs:s.size<=1000)(hp:st.1<=s.size):
  Calls aah 102 #[.pointer (some ⟨b,0,none⟩),.int .i64 n] w fun e w'=>e=.returned (.string (Gt s m st))/\fD w b s (bB st (bN s m)) w':=by
 obtain⟨p,t⟩:=st;cases t with
 |true=>exact R3 w b s p n h
 |false=>exact CL w b s p n m hn hm h hs hp
def Np(s:ByteArray)(m p:Nat):=((rest s p).take (cR s m p)).map gb
theorem Nq(s:ByteArray)(m p:Nat):pU s m p=str (Np s m p):=by
 unfold pU oy Np;simp_all
theorem y_(s:ByteArray)(m p:Nat)(hp:p<=s.size):(Np s m p).length=cR s m p:=by
 have h:=qE s m p hp;rw[Nq,au]at h;exact h
def dK(s:ByteArray):Nat->List UInt8->Nat×Bool->(Nat×Bool)×List UInt8
 |0,acc,st=>(st,acc)
 |f+1,acc,st=>if st.2=false/\(acc=[]\/st.1<s.size)then dK s f (acc++Np s (200-acc.length) st.1) (bN s (200-acc.length) st.1)else(st,acc)
def cD(s:ByteArray):=dK s (s.size+2) [] (bB (aI s 62 0) (j0 s))
def placeOf(R:Nat×Bool):Int:=if R.2=true then(R.1:Int)else-1
def iL(s:ByteArray):=zJ s (aI s 62 0)
def XR(w:World)(x:Nat)(n b m:ByteArray):=w.heap[x]?=some (.cells #[.string n,.string b,.string m] 118 (0,0))
theorem XR.c0{n b:ByteArray}(h:XR w x n b m):w.cell? ⟨x,0,none⟩=some (.string n):=by rw[cell_of_row w x 0 _ _ _ h];rfl
theorem XR.c1{n b:ByteArray}(h:XR w x n b m):w.cell? ⟨x,1,none⟩=some (.string b):=by rw[cell_of_row w x 1 _ _ _ h];rfl
theorem XR.c2{n b:ByteArray}(h:XR w x n b m):w.cell? ⟨x,2,none⟩=some (.string m):=by rw[cell_of_row w x 2 _ _ _ h];rfl
theorem XR.fz{n b:ByteArray}(h:XR w x n b m)(j:Nat):w.frozen? ⟨x,j,none⟩=false:=frozen_of_row w x j _ _ h
theorem XR.Pd{n b:ByteArray}(h:XR w x n b m)(v:ByteArray):XR (w.setCell ⟨x,0,none⟩ (.string v)) x v b m:=by
 unfold XR at *;rw[heap_setCell_same w x 0 _ _ _ h];rfl
theorem XR.Pe{n b:ByteArray}(h:XR w x n b m)(v:ByteArray):XR (w.setCell ⟨x,1,none⟩ (.string v)) x n v m:=by
 unfold XR at *;rw[heap_setCell_same w x 1 _ _ _ h];rfl
theorem XR.R5{n b:ByteArray}(h:XR w x n b m)(v:ByteArray):XR (w.setCell ⟨x,2,none⟩ (.string v)) x n b v:=by
 unfold XR at *;rw[heap_setCell_same w x 2 _ _ _ h];rfl
theorem XR.grown{n b:ByteArray}{r:Nat}(h:XR w x n b m)(hg:w.grownBy w' (some r))(bj:x≠r):XR w' x n b m:=by
 have hx:=by have:=block_lt_of_cell h.c0;omega
 unfold XR at *;rw[hg.block x hx (by simp_all)];exact h
theorem XR.set{n b:ByteArray}(h:XR w x n b m)(v:Value)(bj:x≠a.block):XR (w.setCell a v) x n b m:=by
 unfold XR at *;rw[heap_setCell_other w a x v bj];exact h
theorem RF.set(h:RF w b s p t)(v:Value)(bj:b≠a.block):RF (w.setCell a v) b s p t:=by
 unfold RF at *;rw[heap_setCell_other w a b v bj];exact h
def kN(w:World)(b n:Nat):Nat:=match w.cell? ⟨b,2,none⟩with
 |some (.bool true)=>0
 |_=>n-cj w b+1
theorem RF.zK(h:RF w b s p true)(n:Nat):kN w b n=0:=by unfold kN;rw[h.c2]
theorem RF.jw(h:RF w b s p false)(n:Nat):kN w b n=n-p+1:=by unfold kN;rw[h.c2,h.cj]
def kC(w:World)(s:ByteArray)(st:Nat×Bool)(nm bs:ByteArray)(wr:World):=
 XR wr w.heap.size ⟨#[]⟩ ⟨#[]⟩ ⟨#[]⟩/\RF wr (w.heap.size+1) s st.1 st.2/\XR wr (w.heap.size+1+1) nm bs ⟨#[]⟩/\Below w.heap.size w wr
theorem kC.step{w:World}{s:ByteArray}{st BX:Nat×Bool}{nm bs:ByteArray}{wr w':World}(h:kC w s st nm bs wr)(hp:fD wr (w.heap.size+1) s BX w'):kC w s BX nm bs w':=by
 obtain⟨h1,h2,h3,h4⟩:=h;obtain⟨k1,k2⟩:=hp;exact⟨h1.grown k2 (by omega),k1,h3.grown k2 (by omega),h4.grown k2 h4.size (by simp)⟩
theorem kC.name{st:Nat×Bool}{bs:ByteArray}(h:kC w s st nm bs wr)(v:ByteArray):kC w s st v bs (wr.setCell ⟨w.heap.size+1+1,0,none⟩ (.string v)):=by
 obtain⟨h1,h2,h3,h4⟩:=h;exact⟨h1.set _ (by simp;omega),h2.set _ (by simp),h3.Pd v,h4.setCell (by simp;omega) _⟩
theorem kC.afZ{st:Nat×Bool}{bs:ByteArray}(h:kC w s st nm bs wr)(v:ByteArray):kC w s st nm v (wr.setCell ⟨w.heap.size+1+1,1,none⟩ (.string v)):=by
 obtain⟨h1,h2,h3,h4⟩:=h;exact⟨h1.set _ (by simp;omega),h2.set _ (by simp),h3.Pe v,h4.setCell (by simp;omega) _⟩
theorem lP{acc:List _}{st:Nat×Bool}{R:(Nat×Bool)×List _}(hf:0<f)(hb:st.2=false)(ha:acc=[]\/st.1<s.size)(h:dK s f acc st=R):
  dK s (f-1) (acc++Np s (200-acc.length) st.1) (bN s (200-acc.length) st.1)=R:=by
 cases f with
 |zero=>omega
 |succ f=>rw[<-h];simp only[dK,Nat.add_sub_cancel];simp_all
theorem eN{acc:List _}{st:Nat×Bool}{R:(Nat×Bool)×List _}(hb:st.2=true\/(acc≠ []/\s.size<=st.1))(h:dK s f acc st=R):R=(st,acc):=by
 cases f with
 |zero=>rw[<-h];rfl
 |succ f=>
  rw[<-h];simp only[dK];rw[if_neg];rintro⟨h1,h2⟩;rcases hb with hb|⟨cn,di⟩
  ·simp_all
  ·rcases h2 with h2|h2
   ·simp_all
   ·omega
theorem abm(w:World)(A B C:Obj):(((w.alloc A).alloc B).alloc C).heap[w.heap.size]?=some A/\(((w.alloc A).alloc B).alloc C).heap[w.heap.size+1]?=some B/\(((w.alloc A).alloc B).alloc C).heap[w.heap.size+2]?=some C:=by
 have e1:(w.alloc A).heap.size=w.heap.size+1:=by simp
 have e2:((w.alloc A).alloc B).heap.size=w.heap.size+2:=by simp
 refine⟨?_,?_,?_⟩
 ·rw[aaU _ _ _ (by omega),aaU _ _ _ (by omega)];exact heap_alloc_new w A
 ·rw[aaU _ _ _ (by omega),<-e1];exact heap_alloc_new _ B
 ·rw[<-e2];exact heap_alloc_new _ C
theorem Er(w:World)(s:ByteArray):kC w s (0,false) ⟨#[]⟩ ⟨#[]⟩ (((w.alloc (.cells #[.string ⟨#[]⟩,.string ⟨#[]⟩,.string ⟨#[]⟩] 118)).alloc (.cells #[.string s,.int .i64 0,.bool false] 143)).alloc (.cells #[.string ⟨#[]⟩,.string ⟨#[]⟩,.string ⟨#[]⟩] 118)):=by
 obtain⟨h1,h2,h3⟩:=abm w _ _ _;exact⟨h1,h2,h3,(((abq _ _).alloc (aao _) _).alloc (by simp) _).alloc (by simp;omega) _⟩
theorem qF(l:List _):(str l).toList.isEmpty=decide (l=[]):=by
 rw[lO,au];simp_all
theorem Pf(s:ByteArray)(m:Nat)(p:Nat)(h:p<=s.size):(bN s m p).1<=s.size:=(gX s m p h).2
theorem Pg{st BX:Nat×Bool}(h:RF wr b s BX.1 BX.2)(rz:BX.2=false->BX.1=st.1+n+1)(aV:BX.2=false->1<=n/\st.1+n<s.size):kN wr b s.size<s.size-st.1+1:=by
 obtain⟨p',b'⟩:=BX;cases b' with
 |true=>have:=h.zK s.size;omega
 |false=>
  have h1:=h.jw s.size;have h2:=rz rfl;have h3:=aV rfl;omega
theorem gY(s:ByteArray)(w:World)(hs:s.size<=1000):
  Calls aah 80 #[.string s] w fun e w'=>
   e=.returned (.tuple #[.agg #[.string (iL s),.string (str (cD s).2),.string ⟨#[]⟩],.int .i64 (placeOf (cD s).1)])/\Below w.heap.size w w':=by
 generalize hR:cD s=R;unfold cD at hR;generalize hN:iL s=NM;unfold iL at hN;have HR:=laid hR;have HN:=laid hN;clear hR hN;have m0:=Er w s
 go_enter Tryz.func80,Tryz.ntmps80
 go_wp2_with fail
 refine(nM _ _ s (0,false) _ 62 rfl m0.2.1 hs (by simp)).mono ?_;rintro e w1 ⟨rfl,Zz⟩;have m1:=m0.step Zz;rw[fC rfl]at m1;have ns:=(dc s 62 0 (by omega)).2;clear m0 Zz;simp only at m1;generalize aI s 62 0=st1 at *;go_wp2_with fail
 refine(Gs _ _ s st1 m1.2.1 hs ns).mono ?_;rintro e w2 ⟨rfl,ZA⟩;rw[HN.out];clear HN;have m2:=m1.step ZA;clear m1 ZA;have vG:(bB st1 (j0 s)).1<=s.size:=(dJ (p:=st1.1) ⟨aao _,ns⟩ fun q hq=>zH s q hq).2;generalize bB st1 (j0 s)=st2 at *;have hc0:=m2.2.2.1.c0;have Pj:=m2.2.2.1.fz 0;have m3:=m2.name NM;go_wp2
 clear hc0 Pj m2 ns
 go_loopw [] (fun wr=>∃(fuel:Nat) (acc:List UInt8) (st:Nat×Bool),acc.length<=200/\st.1<=s.size/\kC w s st NM (str acc) wr/\Hid (dK s fuel acc st=R/\(st.2=false->s.size-st.1<fuel))) (fun wr=>kN wr (w.heap.size+1) s.size)
 case atStart=>exact⟨s.size+2,[],st2,by simp,vG,m3,laid ⟨HR.out,fun _=>by omega⟩⟩
 case round=>
  clear m3 vG HR;obtain⟨fuel,acc,⟨p,bad⟩,hal,hp,hm,HF⟩:=hrel;simp only at hp;have r0:=hm.2.1.c0;have r1:=hm.2.1.c1;have r2:=hm.2.1.c2;have x0:=hm.2.2.1.c0;have x1:=hm.2.2.1.c1;have x2:=hm.2.2.1.c2;have y0:=hm.1.c0;have y1:=hm.1.c1;have y2:=hm.1.c2;have xf:=hm.2.2.1.fz 1;have yf0:=hm.1.fz 0;have yf1:=hm.1.fz 1;have yf2:=hm.1.fz 2;have aH:=hm.2.2.2;have hsa:=au acc;have HSA:=laid hsa;have mK:(str acc).size<=200:=by omega
  clear hsa;simp only at r1 r2;cases bad with
  |true=>
   have eU:=eN (.inl rfl) HF.out.1;have zL:=laid eU;clear eU;have WH:=((hm.1.Pd NM).Pe (str acc)).R5 ⟨#[]⟩;have q0:=WH.c0;have q1:=WH.c1;have q2:=WH.c2;have hbx:Below w.heap.size w (((wr.setCell ⟨w.heap.size,0,none⟩ (.string NM)).setCell ⟨w.heap.size,1,none⟩ (.string (str acc))).setCell ⟨w.heap.size,2,none⟩ (.string ⟨#[]⟩)):=((aH.setCell (aao _) _).setCell (aao _) _).setCell (aao _) _;clear WH;go_wp2
   go_region
   all_goals
    go_wp2
    refine bodyPost_ret (v:=.tuple #[.agg #[.string NM,.string (str acc),.string ⟨#[]⟩],.int .i64 (p:Int)]) ?_ rfl ?_
    ·simp[results,Tryz.results80,go_sem,q0,q1,q2]
    ·rw[zL.out];exact⟨rfl,hbx.drew⟩
  |false=>
   by_cases hmo:acc=[]\/p<s.size
   ·have HL:=laid (lP (by have:=HF.out.2 rfl;omega) rfl hmo HF.out.1);have HFU:=laid (HF.out.2 rfl);clear HF;have ju:((str acc).toList.isEmpty=true)\/((str acc).toList.isEmpty=false/\p<s.size):=by
     rw[qF];by_cases ha:acc=[]
     ·left;simp[ha]
     ·right;exact⟨by simp[ha],hmo.resolve_left ha⟩
    clear hmo;have Ku:0<=(200:Int)-((str acc).size:Int):=by omega
    rcases ju with tu|⟨tu,aV⟩
    all_goals
     go_wp2_with fail
     refine(CL _ _ s p _ (200-acc.length) (by rw[HSA.out];omega) (by omega) hm.2.1 hs hp).mono ?_;rintro e w3 ⟨rfl,hp3⟩;have m3:=hm.step hp3;have hle:=Pf s (200-acc.length) p hp;have hnl:=lN s (200-acc.length) p;have hln:=y_ s (200-acc.length) p hp;have V2:=laid hln;have WI:acc.length+(Np s (200-acc.length) p).length<=200:=by omega
     clear hln;rw[Nq];have pN:=m3.2.2.1.c1;have hxf:=m3.2.2.1.fz 1;have auP:(str (Np s (200-acc.length) p)).size<=200:=by rw[au];omega
     have m4:=m3.afZ (str (acc++Np s (200-acc.length) p));rw[<-bM]at m4;have hold:=laid (hm.2.1.jw s.size);have iE:=laid (Pg (st:=(p,false)) m4.2.1 (fun hb=>(ij s (200-acc.length) p hb).1) (fun hb=>(ij s (200-acc.length) p hb).2));have Gu:=laid (fun hb=>ij s (200-acc.length) p hb);have af0:Hid (∃(ZC:Nat) (Pk:List UInt8) (BX:Nat×Bool),Pk.length<=200/\BX.1<=s.size/\kC w s BX NM (str Pk) (w3.setCell ⟨w.heap.size+1+1,1,none⟩ (.string (str acc++str (Np s (200-acc.length) p))))/\Hid (dK s ZC Pk BX=R/\(BX.2=false->s.size-BX.1<ZC))):=by
      refine laid ⟨fuel-1,acc++Np s (200-acc.length) p,bN s (200-acc.length) p,by simpa using WI,hle,by rw[<-bM];exact m4,laid ⟨HL.out,fun hb=>?_⟩⟩;have:=ij s (200-acc.length) p hb;have:=HFU.out;simp only at *;omega
     clear HL Gu;generalize Np s (200-acc.length) p=ln at *;go_wp2
     go_roundw
     case rel=>exact af0.out
     case measure=>go_light;have h1:=hold.out;have h2:=iE.out;omega
   ·have bj:acc≠ []:=fun h=>hmo (.inl h);have hge:¬p<s.size:=fun h=>hmo (.inr h);have eU:=eN (.inr ⟨bj,by simp only;omega⟩) HF.out.1;have zL:=laid eU;have tu:(str acc).toList.isEmpty=false:=by rw[qF];simp[bj]
    clear eU HF hmo bj;have WH:=((hm.1.Pd NM).Pe (str acc)).R5 ⟨#[]⟩;have q0:=WH.c0;have q1:=WH.c1;have q2:=WH.c2;have hbx:Below w.heap.size w (((wr.setCell ⟨w.heap.size,0,none⟩ (.string NM)).setCell ⟨w.heap.size,1,none⟩ (.string (str acc))).setCell ⟨w.heap.size,2,none⟩ (.string ⟨#[]⟩)):=((aH.setCell (aao _) _).setCell (aao _) _).setCell (aao _) _;clear WH;go_wp2
    refine bodyPost_ret (v:=.tuple #[.agg #[.string NM,.string (str acc),.string ⟨#[]⟩],.int .i64 (-1)]) ?_ rfl ?_
    ·simp[results,Tryz.results80,go_sem,q0,q1,q2]
    ·rw[zL.out];exact⟨rfl,hbx⟩
def WJ(a b:ByteArray):=a.toList==b.toList
theorem za(a b:ByteArray):WJ a b=true↔a=b:=by
 unfold WJ;rw[aby,aby,beq_iff_eq];constructor
 ·intro h;exact abB (abF h)
 ·simp_all
def pd(r s:ByteArray)
 |0=>0
 |k+1=>pd r s k+(if WJ (s.extract k (k+r.size)) r=true then 1 else 0)
theorem Gw(r s:ByteArray):∀k,pd r s k<=k
 |0=>aao _
 |k+1=>by have:=Gw r s k;simp[pd];split<;>omega
def ri(r s:ByteArray):=pd r s (s.size+1-r.size)
theorem aeO(r s:ByteArray)(w:World)(hr:r.size<=1000)(hs:s.size<=1000):
  Calls aah 104 #[.string r,.string s] w fun e w'=>e=.returned (.int .i64 (ri r s:Int))/\w'=w:=by
 go_enter Tryz.func104,Tryz.ntmps104
 go_wp2
 go_loop [5,6] (fun n i=>∃k:Nat,k<=s.size+1-r.size/\i=.int .i64 k/\n=.int .i64 (pd r s k:Int)) (fun _ i=>s.size+1-(intOf i).toNat)
 case atStart=>exact⟨0,aau _,rfl,rfl⟩
 case round=>
  obtain⟨k,hk,rfl,rfl⟩:=hrel;have hle:=Gw r s k;by_cases aV:k+r.size<=s.size
  ·go_wp2
   ·go_round
    case rel=>go_light;exact⟨k+1,by omega,by go_num,ax (by simp only[pd];rw[if_pos (show WJ _ _=true from‹_›)];omega)⟩
    case measure=>go_light;simp[intOf];omega
   ·go_round
    case rel=>go_light;exact⟨k+1,by omega,by go_num,ax (by simp only[pd];rw[if_neg (by rw[aak];exact(show WJ _ _=false from‹_›))];omega)⟩
    case measure=>go_light;simp[intOf];omega
  ·go_wp2
   go_ret
   exact⟨jQ (by unfold ri;rw[show s.size+1-r.size=k by omega]),rfl⟩
def abr(p s:ByteArray)(q i:Nat):=
 if 0<ri (p.extract i (i+q)) (p.extract 0 (i+q-1))\/0<ri ⟨#[78]⟩ (p.extract i (i+q))then 0 else min (ri (p.extract i (i+q)) p) (ri (p.extract i (i+q)) s)
def Nr(p s:ByteArray)(q:Nat)
 |0=>0
 |k+1=>Nr p s q k+abr p s q k
def BZ(p s:ByteArray)(q:Nat):=Nr p s q (p.size+1-q)
def dg(d:Nat):=ab6 (48+d)
def xO
 |0,n=>[dg n]
 |f+1,n=>if n<=9 then [dg n]else xO f (n/10)++[dg (n%10)]
def a_(n:Nat):=xO n n
theorem r_:∀f n,n<=f->xO f n=xO n n
 |0,n,h=>by simp_all
 |f+1,n,h=>by
  cases n with
  |zero=>simp[xO]
  |succ n=>
   simp[xO];split
   ·rfl
   ·rw[r_ f _ (by omega),r_ n _ (by omega)]
theorem jx(n:Nat)(h:n<=9):a_ n=[dg n]:=by
 unfold a_;cases n with
 |zero=>rfl
 |succ n=>simp only[xO];simp_all
theorem pV(n:Nat)(h:¬n<=9):a_ n=a_ (n/10)++[dg (n%10)]:=by
 unfold a_;cases n with
 |zero=>omega
 |succ n=>simp only[xO];rw[if_neg h,r_ n _ (by omega)]
theorem Gx(d:Nat)(h:d<=9):(⟨#[48,49,50,51,52,53,54,55,56,57]⟩:ByteArray).extract d (d+1)=⟨#[dg d]⟩:=by
 have:d=0\/d=1\/d=2\/d=3\/d=4\/d=5\/d=6\/d=7\/d=8\/d=9:=by omega
 rcases this with rfl|rfl|rfl|rfl|rfl|rfl|rfl|rfl|rfl|rfl<;>decide
theorem gZ(b:UInt8)(l:List _):(⟨#[b]⟩)++str l=str (b::l):=bM [b] l
theorem mL(n:Nat)(w:World)(hn:n<=1000000):
  Calls aah 86 #[.int .i64 (n:Int)] w fun e w'=>e=.returned (.string (str (a_ n)))/\w'=w:=by
 go_enter Tryz.func86,Tryz.ntmps86
 go_wp2
 go_loop [0,3] (fun i s=>∃(m:Nat) (l:List UInt8),i=.int .i64 m/\s=.string (str l)/\m<=n/\l.length<=n-m/\Hid (a_ m++l=a_ n)) (fun i _=>(intOf i).toNat)
 case atStart=>exact⟨n,[],rfl,rfl,aao _,by simp,laid (by simp)⟩
 case round=>
  obtain⟨m,l,rfl,rfl,hm,hl,H⟩:=hrel;have hz:(str l).size<=1000000:=by rw[au];omega
  by_cases aV:m<=9
  ·have hex:=Gx m aV;have HF:=laid (show str (a_ n)=str (dg m::l) by rw[<-H.out,jx m aV];rfl);have HC:=laid (gZ (dg m) l);go_wp2
   go_ret
   exact⟨cP (by rw[HF.out];exact HC.out),rfl⟩
  ·have hd:m%10<=9:=by omega
   have hex:=Gx (m%10) hd;have HF:=laid (show a_ (m/10)++(dg (m%10)::l)=a_ n by rw[<-H.out,pV m aV,ac8];rfl);have HC:=laid (gZ (dg (m%10)) l);go_wp2
   go_round
   case rel=>go_light;exact⟨m/10,dg (m%10)::l,ax (by omega),b_ HC.out,by omega,by simp;omega,HF⟩
   case measure=>go_light;simp[intOf];omega
def fB(k many q step:Int):=decide (0<=k/\k<=6/\k<many/\1<=q/\q<=8/\1<=step/\step<=200)
theorem CM(k many q step:Int)(w:World):
  Calls aah 84 #[.int .i64 k,.int .i64 many,.int .i64 q,.int .i64 step] w fun e w'=>e=.returned (.bool (fB k many q step))/\w'=w:=by
 by_cases h1:0<=k
 ·by_cases h2:k<=6
  ·by_cases h3:k<many
   ·by_cases h4:1<=q
    ·by_cases h5:q<=8
     ·by_cases h6:1<=step
      ·by_cases h7:step<=200;all_goals
        go_enter aaV,aaS
        go_wp2
        go_ret
        exact⟨bG (by unfold fB;first|(rw[decide_eq_true (by omega)];done)|(rw[decide_eq_false (by omega)];done)),rfl⟩
      ·go_enter aaV,aaS
       go_wp2
       go_ret
       exact⟨bG (by unfold fB;rw[decide_eq_false (by omega)]),rfl⟩
     ·go_enter aaV,aaS
      go_wp2
      go_ret
      exact⟨bG (by unfold fB;rw[decide_eq_false (by omega)]),rfl⟩
    ·go_enter aaV,aaS
     go_wp2
     go_ret
     exact⟨bG (by unfold fB;rw[decide_eq_false (by omega)]),rfl⟩
   ·go_enter aaV,aaS
    go_wp2
    go_ret
    exact⟨bG (by unfold fB;rw[decide_eq_false (by omega)]),rfl⟩
  ·go_enter aaV,aaS
   go_wp2
   go_ret
   exact⟨bG (by unfold fB;rw[decide_eq_false (by omega)]),rfl⟩
 ·go_enter aaV,aaS
  go_wp2
  go_ret
  exact⟨bG (by unfold fB;rw[decide_eq_false (by omega)]),rfl⟩
theorem Es(w:World)(b:Nat)(s:ByteArray)(p:Nat)(c:Int)(least most:Int)(h:RD w b s p c)(hs:s.size<=1000)(hp:p<=s.size)(hm:0<=most)(Wz:most<=1000)(hl:0<=least)(Zy:least<=1000):
  Calls aah 70 #[.pointer (some ⟨b,0,none⟩),.func (.func 95) #[] #[],.int .i64 least,.int .i64 most] w fun e w'=>
   nL w b s p c (aK rA (rest s p) most.toNat) least e w':=by
 have h1:=h.c1
 go_enter ac9,acT
 go_wp2
 clear h1
 go_loopw [] (fun wr=>∃q:Nat,Em w b s p c rA most.toNat q wr) (fun wr=>s.size-cj wr b)
 case atStart=>exact⟨p,aao _,by omega,h,iJ _ _⟩
 case round=>
  obtain⟨q,F1,hq,eM,hg⟩:=hrel;have Ep:=cH rA (rest s p) most.toNat;rw[br]at Ep;have c0:=eM.c0;have c1:=eM.c1;have f1:=eM.fz 1;have Ku:aas.wrap ((q:Int)-(p:Int))=(q:Int)-(p:Int):=aaq _ (by omega);by_cases aV:(q:Int)-(p:Int)<most
  ·have te:decide ((q:Int)-(p:Int)<most)=true:=by simp;omega
   by_cases bR:q<s.size
   ·have bj:((q:Int)==(s.size:Int))=false:=by simp;omega
    have ry:(q:Int)<(s.size:Int):=by omega
    by_cases jr:rA s[q]=true
    ·go_wp2_with fail
     go_quiet((first|(go_at_call 65;exact aar (cC _ _ _ _ _ (eM.drewN _)))|(go_at_call 95;exact aal (mG _ _))))
     have rz:=fI rA (rest s p) most.toNat (q-p) (by rw[br];omega) (by omega) (by omega) (by rw[dH s p q F1 bR];exact jr);go_wp2
     have iE:=(eM.drewN nq).put ((q:Int)+1);have R0:=af hg (af (ai wr nq (some b)) (aB (wr.drewN nq) b 1 (.int .i64 ((q:Int)+1))))
     go_roundw
     case rel=>go_light;exact⟨q+1,by omega,by omega,iE,R0⟩
     case measure=>go_light;have e1:=eM.cj;have e2:=iE.cj;rw[e1,e2];omega
    ·rw[aak]at jr;have bm:Hid (q=p+aK rA (rest s p) most.toNat):=by
      have:=fJ rA (rest s p) most.toNat (q-p) (by rw[br];omega) (by omega) (by rw[dH s p q F1 bR];exact jr);exact laid (by omega)
     go_wp2_with fail
     go_quiet((first|(go_at_call 65;exact aar (cC _ _ _ _ _ (eM.drewN _)))|(go_at_call 95;exact aal (mG _ _))))
     have jZ:=eM.drewN nq;have fS:=af hg (ai wr nq (some b));by_cases hle:(q:Int)-(p:Int)<least
     ·go_wp2_with(go_at_call 69;refine(c7 _ _ _ _ _ jZ).mono ?_;rintro e w' ⟨rfl,mq,rfl⟩)
      exact⟨rfl,dj (least:=least) bm.out (by omega) (by omega) eM hg _⟩
     ·go_wp2
      go_quiet(fail)
      go_wp2
      go_ret
      exact dI (least:=least) bm.out (by omega) (by omega) jZ fS _
   ·have bj:((q:Int)==(s.size:Int))=true:=by simp;omega
    have bm:Hid (q=p+aK rA (rest s p) most.toNat):=laid (by omega);go_wp2_with fail
    go_quiet((first|(go_at_call 65;exact aar (cC _ _ _ _ _ (eM.drewN _)))|(go_at_call 95;exact aal (mG _ _))))
    have jZ:=eM.drewN nq;have fS:=af hg (ai wr nq (some b));by_cases hle:(q:Int)-(p:Int)<least
    ·go_wp2_with(go_at_call 69;refine(c7 _ _ _ _ _ jZ).mono ?_;rintro e w' ⟨rfl,mq,rfl⟩)
     exact⟨rfl,dj (least:=least) bm.out (by omega) (by omega) eM hg _⟩
    ·go_wp2
     go_quiet(fail)
     go_wp2
     go_ret
     exact dI (least:=least) bm.out (by omega) (by omega) jZ fS _
  ·have te:decide ((q:Int)-(p:Int)<most)=false:=by simp;omega
   have bm:Hid (q=p+aK rA (rest s p) most.toNat):=laid (by omega);go_wp2_with fail
   go_quiet((first|(go_at_call 65;exact aar (cC _ _ _ _ _ (eM.drewN _)))|(go_at_call 95;exact aal (mG _ _))))
   have jZ:=eM.drewN nq;have fS:=af hg (ai wr nq (some b));by_cases hle:(q:Int)-(p:Int)<least
   ·go_wp2_with(go_at_call 69;refine(c7 _ _ _ _ _ jZ).mono ?_;rintro e w' ⟨rfl,mq,rfl⟩)
    exact⟨rfl,dj (least:=least) bm.out (by omega) (by omega) eM hg _⟩
   ·go_wp2
    go_quiet(fail)
    go_wp2
    go_ret
    exact dI (least:=least) bm.out (by omega) (by omega) jZ fS _
theorem Et(w:World)(b:Nat)(s:ByteArray)(p:Nat)(c:Int)(least most:Int)(h:RD w b s p c)(hs:s.size<=1000)(hp:p<=s.size)(hm:0<=most)(Wz:most<=1000)(hl:0<=least)(Zy:least<=1000):
  Calls aah 70 #[.pointer (some ⟨b,0,none⟩),.func (.func 120) #[] #[],.int .i64 least,.int .i64 most] w fun e w'=>
   nL w b s p c (aK mA (rest s p) most.toNat) least e w':=by
 have h1:=h.c1
 go_enter ac9,acT
 go_wp2
 clear h1
 go_loopw [] (fun wr=>∃q:Nat,Em w b s p c mA most.toNat q wr) (fun wr=>s.size-cj wr b)
 case atStart=>exact⟨p,aao _,by omega,h,iJ _ _⟩
 case round=>
  obtain⟨q,F1,hq,eM,hg⟩:=hrel;have Ep:=cH mA (rest s p) most.toNat;rw[br]at Ep;have c0:=eM.c0;have c1:=eM.c1;have f1:=eM.fz 1;have Ku:aas.wrap ((q:Int)-(p:Int))=(q:Int)-(p:Int):=aaq _ (by omega);by_cases aV:(q:Int)-(p:Int)<most
  ·have te:decide ((q:Int)-(p:Int)<most)=true:=by simp;omega
   by_cases bR:q<s.size
   ·have bj:((q:Int)==(s.size:Int))=false:=by simp;omega
    have ry:(q:Int)<(s.size:Int):=by omega
    by_cases jr:mA s[q]=true
    ·go_wp2_with fail
     go_quiet((first|(go_at_call 65;exact aar (cC _ _ _ _ _ (eM.drewN _)))|(go_at_call 120;exact aal (mI _ _))))
     have rz:=fI mA (rest s p) most.toNat (q-p) (by rw[br];omega) (by omega) (by omega) (by rw[dH s p q F1 bR];exact jr);go_wp2
     have iE:=(eM.drewN nq).put ((q:Int)+1);have R0:=af hg (af (ai wr nq (some b)) (aB (wr.drewN nq) b 1 (.int .i64 ((q:Int)+1))))
     go_roundw
     case rel=>go_light;exact⟨q+1,by omega,by omega,iE,R0⟩
     case measure=>go_light;have e1:=eM.cj;have e2:=iE.cj;rw[e1,e2];omega
    ·rw[aak]at jr;have bm:Hid (q=p+aK mA (rest s p) most.toNat):=by
      have:=fJ mA (rest s p) most.toNat (q-p) (by rw[br];omega) (by omega) (by rw[dH s p q F1 bR];exact jr);exact laid (by omega)
     go_wp2_with fail
     go_quiet((first|(go_at_call 65;exact aar (cC _ _ _ _ _ (eM.drewN _)))|(go_at_call 120;exact aal (mI _ _))))
     have jZ:=eM.drewN nq;have fS:=af hg (ai wr nq (some b));by_cases hle:(q:Int)-(p:Int)<least
     ·go_wp2_with(go_at_call 69;refine(c7 _ _ _ _ _ jZ).mono ?_;rintro e w' ⟨rfl,mq,rfl⟩)
      exact⟨rfl,dj (least:=least) bm.out (by omega) (by omega) eM hg _⟩
     ·go_wp2
      go_quiet(fail)
      go_wp2
      go_ret
      exact dI (least:=least) bm.out (by omega) (by omega) jZ fS _
   ·have bj:((q:Int)==(s.size:Int))=true:=by simp;omega
    have bm:Hid (q=p+aK mA (rest s p) most.toNat):=laid (by omega);go_wp2_with fail
    go_quiet((first|(go_at_call 65;exact aar (cC _ _ _ _ _ (eM.drewN _)))|(go_at_call 120;exact aal (mI _ _))))
    have jZ:=eM.drewN nq;have fS:=af hg (ai wr nq (some b));by_cases hle:(q:Int)-(p:Int)<least
    ·go_wp2_with(go_at_call 69;refine(c7 _ _ _ _ _ jZ).mono ?_;rintro e w' ⟨rfl,mq,rfl⟩)
     exact⟨rfl,dj (least:=least) bm.out (by omega) (by omega) eM hg _⟩
    ·go_wp2
     go_quiet(fail)
     go_wp2
     go_ret
     exact dI (least:=least) bm.out (by omega) (by omega) jZ fS _
  ·have te:decide ((q:Int)-(p:Int)<most)=false:=by simp;omega
   have bm:Hid (q=p+aK mA (rest s p) most.toNat):=laid (by omega);go_wp2_with fail
   go_quiet((first|(go_at_call 65;exact aar (cC _ _ _ _ _ (eM.drewN _)))|(go_at_call 120;exact aal (mI _ _))))
   have jZ:=eM.drewN nq;have fS:=af hg (ai wr nq (some b));by_cases hle:(q:Int)-(p:Int)<least
   ·go_wp2_with(go_at_call 69;refine(c7 _ _ _ _ _ jZ).mono ?_;rintro e w' ⟨rfl,mq,rfl⟩)
    exact⟨rfl,dj (least:=least) bm.out (by omega) (by omega) eM hg _⟩
   ·go_wp2
    go_quiet(fail)
    go_wp2
    go_ret
    exact dI (least:=least) bm.out (by omega) (by omega) jZ fS _
def dY(w:World)(b:Nat)(s:ByteArray)(c:Int)(st:Nat×Bool)(v:Value)(e:Ending)(w':World):Prop:=
 (st.2=false->e=.returned v)/\(st.2=true->e=.panicked (gives c (st.1:Int)))/\RD w' b s (st.1:Int) c/\w.grownBy w' (some b)
theorem vM(w:World)(b:Nat)(s:ByteArray)(p:Nat)(c:Int)(h:RD w b s p c)(hp:s.size=p):
  Calls aah 65 #[.pointer (some ⟨b,0,none⟩)] w fun e w'=>e=.returned (.bool true)/\∃m,w'=w.drewN m:=by
 have:=cC w b s p c h;simp_all
theorem tw(w:World)(b:Nat)(s:ByteArray)(p:Nat)(c:Int)(h:RD w b s p c)(hp:p<s.size):
  Calls aah 65 #[.pointer (some ⟨b,0,none⟩)] w fun e w'=>e=.returned (.bool false)/\∃m,w'=w.drewN m:=by
 have:=cC w b s p c h
 rwa [show(p==(s.size:Int))=false by simp;omega]at this
theorem KA(w:World)(b:Nat)(s:ByteArray)(p:Nat)(c:Int)(x:UInt8)(h:RD w b s p c)(hs:s.size<=1000)(hp:p<=s.size):
  Calls aah 94 #[.pointer (some ⟨b,0,none⟩),.int .u8 (x.toNat:Int)] w fun e w'=>dY w b s c (aI s x p) (.tuple #[]) e w':=by
 have c0:=h.c0;have c1:=h.c1;have f1:=h.fz 1;by_cases bR:p<s.size
 ·have ry:(p:Int)<(s.size:Int):=by omega
  by_cases hx:s[p]=x
  ·have hd:((s[p].toNat:Int) != (x.toNat:Int))=false:=by rw[hx];simp
   have aA:aI s x p=(p+1,false):=by unfold aI;rw[dif_pos bR,if_pos hx]
   rw[aA];clear aA hx
   go_enter adg,acY
   go_wp2_with fail
   go_quiet((go_at_call 65;exact aar (tw _ _ _ _ _ (h.drewN _) bR)))
   go_wp2
   go_end0
   have iE:=(h.drewN nq).put ((p:Int)+1);exact⟨fun _=>rfl,fun hh=>abT hh,iE,af (ai w nq (some b)) (aB _ b 1 _)⟩
  ·have hd:((s[p].toNat:Int) != (x.toNat:Int))=true:=by
    rw[bne_iff_ne];intro hh;exact hx (aaP (by omega))
   have aA:aI s x p=(p,true):=by unfold aI;rw[dif_pos bR,if_neg hx]
   rw[aA];clear aA hx
   go_enter adg,acY
   go_wp2_with fail
   go_quiet((go_at_call 65;exact aar (tw _ _ _ _ _ (h.drewN _) bR)))
   go_wp2_with(go_at_call 69;refine(c7 _ _ _ _ _ (h.drewN _)).mono ?_;rintro e w' ⟨rfl,mq,rfl⟩)
   exact⟨rfl,fun hh=>abT hh,fun _=>rfl,h.drewN _,ai w _ (some b)⟩
 ·have aA:aI s x p=(p,true):=by unfold aI;rw[dif_neg bR]
  rw[aA];clear aA
  go_enter adg,acY
  go_wp2_with fail
  go_quiet((go_at_call 65;exact aar (vM _ _ _ _ _ (h.drewN _) (by omega))))
  go_wp2_with(go_at_call 69;refine(c7 _ _ _ _ _ (h.drewN _)).mono ?_;rintro e w' ⟨rfl,mq,rfl⟩)
  exact⟨rfl,fun hh=>abT hh,fun _=>rfl,h.drewN _,ai w _ (some b)⟩
theorem lH(w:World)(b:Nat)(s:ByteArray)(p:Nat)(c:Int)(n:Int)(x:UInt8)(hn:n=x.toNat)(h:RD w b s p c)(hs:s.size<=1000)(hp:p<=s.size):
  Calls aah 94 #[.pointer (some ⟨b,0,none⟩),.int .u8 n] w fun e w'=>dY w b s c (aI s x p) (.tuple #[]) e w':=by
 subst hn;exact KA w b s p c x h hs hp
theorem nt{f:UInt8->Bool}{least most:Nat}{e:Ending}
  (h:nL w b s p c (aK f (rest s p) most) least e w'):dY w b s c (db s f least most p) (.string (s.extract p (p+aK f (rest s p) most))) e w':=by
 obtain⟨h1,h2,h3,h4⟩:=h;unfold db;refine⟨fun hh=>h1 ?_,fun hh=>?_,?_,h4⟩
 ·simp_all
 ·simp_all
 ·simp_all
theorem B1(w:World)(b:Nat)(s:ByteArray)(p:Nat)(c:Int)(l m:Int)(least most:Nat)(hl:l=least)(hm:m=most)(Zy:least<=1000)(Wz:most<=1000)
  (h:RD w b s p c)(hs:s.size<=1000)(hp:p<=s.size):
  Calls aah 70 #[.pointer (some ⟨b,0,none⟩),.func (.func 71) #[] #[],.int .i64 l,.int .i64 m] w fun e w'=>
   dY w b s c (db s pR least most p) (.string (s.extract p (p+aK pR (rest s p) most))) e w':=by
 subst hl hm;refine(Eo w b s p c _ _ h hs hp (by omega) (by omega) (by omega) (by omega)).mono ?_;intro e w' ht;exact nt ht
theorem B2(w:World)(b:Nat)(s:ByteArray)(p:Nat)(c:Int)(l m:Int)(least most:Nat)(hl:l=least)(hm:m=most)(Zy:least<=1000)(Wz:most<=1000)
  (h:RD w b s p c)(hs:s.size<=1000)(hp:p<=s.size):
  Calls aah 70 #[.pointer (some ⟨b,0,none⟩),.func (.func 95) #[] #[],.int .i64 l,.int .i64 m] w fun e w'=>
   dY w b s c (db s rA least most p) (.string (s.extract p (p+aK rA (rest s p) most))) e w':=by
 subst hl hm;refine(Es w b s p c _ _ h hs hp (by omega) (by omega) (by omega) (by omega)).mono ?_;intro e w' ht;exact nt ht
theorem B3(w:World)(b:Nat)(s:ByteArray)(p:Nat)(c:Int)(l m:Int)(least most:Nat)(hl:l=least)(hm:m=most)(Zy:least<=1000)(Wz:most<=1000)
  (h:RD w b s p c)(hs:s.size<=1000)(hp:p<=s.size):
  Calls aah 70 #[.pointer (some ⟨b,0,none⟩),.func (.func 120) #[] #[],.int .i64 l,.int .i64 m] w fun e w'=>
   dY w b s c (db s mA least most p) (.string (s.extract p (p+aK mA (rest s p) most))) e w':=by
 subst hl hm;refine(Et w b s p c _ _ h hs hp (by omega) (by omega) (by omega) (by omega)).mono ?_;intro e w' ht;exact nt ht
theorem cy{w1:World}{st:Nat×Bool}(aA:st.2=true)(hr:RD w1 b s (st.1) c)(hg:w.grownBy w1 (some b)):
  dY w b s c st v (.panicked (gives c (st.1))) w1:=
 ⟨fun h=>by simp_all,fun _=>rfl,hr,hg⟩
theorem ny{w1:World}{st:Nat×Bool}(aA:st.2=false)(hr:RD w1 b s (st.1) c)(hg:w.grownBy w1 (some b)):
  dY w b s c st v (.returned v) w1:=
 ⟨fun _=>rfl,fun h=>by simp_all,hr,hg⟩
def dZ(s:ByteArray)(x:UInt8)(p:Nat):=bB (aI s x p) (j0 s)
theorem fT{st R:Nat×Bool}{f:Nat->Nat×Bool}(h:bB st f=R)(aA:st.2=true):st=R:=by rw[<-h,gW aA]
theorem kV{st R:Nat×Bool}{f:Nat->Nat×Bool}(h:bB st f=R)(aA:st.2=false):f st.1=R:=by rw[<-h,fC aA]
theorem bU{w1:World}{st R:Nat×Bool}{e:Ending}(hR:st=R)(h:dY w b s c st v e w1):dY w b s c R v e w1:=by simp_all
def WK(s:ByteArray)(p:Nat):=s.extract p (p+aK rA (rest s p) 10)
theorem tx(w:World)(b:Nat)(s:ByteArray)(p:Nat)(c:Int)(n:Int)(x:UInt8)(hn:n=(x.toNat:Int))(h:RD w b s p c)(hs:s.size<=1000)(hp:p<=s.size):
  Calls aah 62 #[.pointer (some ⟨b,0,none⟩),.int .u8 n] w fun e w'=>dY w b s c (dZ s x p) (.string (WK s (aI s x p).1)) e w':=by
 have HN:=laid hn;clear hn;generalize hR:dZ s x p=R;have HR:=laid hR;clear hR;generalize hX:WK s (aI s x p).1=X;have HX:=laid (show s.extract (aI s x p).1 _=X from hX);clear hX
 go_enter Tryz.func62,Tryz.ntmps62
 go_wp2_with fail
 refine(lH _ _ s p c n x HN.out h hs hp).mono ?_;rintro e w1 ⟨h1,h2,dE,ju⟩;have ns:=dc s x p hp;by_cases aA:(aI s x p).2=true
 ·obtain rfl:=h2 aA;exact⟨rfl,bU (fT HR.out aA) (cy aA dE ju)⟩
 ·rw[aak]at aA;obtain rfl:=h1 aA;clear h1 h2;have KC:=laid (kV HR.out aA);generalize(aI s x p).1=p1 at *;clear aA HR;go_wp2_with fail
  refine(B2 _ _ s p1 c _ _ 1 10 rfl rfl (by omega) (by omega) dE hs ns.2).mono ?_;rintro e w2 ⟨h1,h2,fU,fS⟩;have af1:=af ju fS;have vG:=lM s rA 1 10 p1 ns.2;by_cases aA:(db s rA 1 10 p1).2=true
  ·obtain rfl:=h2 aA;exact⟨rfl,bU (fT KC.out aA) (cy aA fU af1)⟩
  ·rw[aak]at aA;have Wo:=h1 aA;rw[HX.out]at Wo;obtain rfl:=Wo;clear h1 h2;have R6:=laid (kV KC.out aA);clear HX;generalize(db s rA 1 10 p1).1=p2 at *;go_wp2_with fail
   refine(lH _ _ s p2 c _ 10 rfl fU hs vG.2).mono ?_;rintro e w3 ⟨h1,h2,bV,om⟩;have R7:=af af1 om;by_cases aA:(aI s 10 p2).2=true
   ·obtain rfl:=h2 aA;exact⟨rfl,bU R6.out (cy aA bV R7)⟩
   ·rw[aak]at aA;obtain rfl:=h1 aA;have HF:=laid (bU (v:=.string X) R6.out (ny aA bV R7));clear aA;go_wp2
    go_ret
    exact HF.out
theorem Gy(s:ByteArray)(f:UInt8->Bool)(m p:Nat)(hp:p<=s.size):(s.extract p (p+aK f (rest s p) m)).size=aK f (rest s p) m:=by
 have:=(cH f (rest s p) m).2;rw[br]at this;rw[acA];omega
def kO(s:ByteArray)(m p:Nat):=s.extract p (p+cR s m p)
theorem sa(s:ByteArray)(m p:Nat)(hp:p<=s.size):(kO s m p).size=cR s m p:=Gy s pR m p hp
theorem oz(w:World)(b:Nat)(s:ByteArray)(p:Nat)(c:Int)(n:Int)(m:Nat)(hn:n=m)(hm:m<=1000)(h:RD w b s p c)(hs:s.size<=1000)(hp:p<=s.size):
  Calls aah 64 #[.pointer (some ⟨b,0,none⟩),.int .i64 n] w fun e w'=>dY w b s c (bN s m p) (.string (kO s m p)) e w':=by
 have HN:=laid hn;clear hn;generalize hR:bN s m p=R;have HR:=laid hR;clear hR;generalize hX:kO s m p=X;have HX:=laid (show s.extract p (p+aK pR (rest s p) m)=X from hX);clear hX
 go_enter Tryz.func64,Tryz.ntmps64
 go_wp2_with fail
 refine(B1 _ _ s p c _ n 1 m rfl HN.out (by omega) hm h hs hp).mono ?_;rintro e w1 ⟨h1,h2,dE,ju⟩;have ns:=lM s pR 1 m p hp;by_cases aA:(db s pR 1 m p).2=true
 ·obtain rfl:=h2 aA;exact⟨rfl,bU (fT HR.out aA) (cy aA dE ju)⟩
 ·rw[aak]at aA;have Wo:=h1 aA;rw[HX.out]at Wo;obtain rfl:=Wo;have KC:=laid (kV HR.out aA);generalize(db s pR 1 m p).1=p1 at *;go_wp2_with fail
  refine(lH _ _ s p1 c _ 10 rfl dE hs ns.2).mono ?_;rintro e w3 ⟨h1,h2,bV,om⟩;have R7:=af ju om;by_cases aA:(aI s 10 p1).2=true
  ·obtain rfl:=h2 aA;exact⟨rfl,bU KC.out (cy aA bV R7)⟩
  ·rw[aak]at aA;obtain rfl:=h1 aA;have HF:=laid (bU (v:=.string X) KC.out (ny aA bV R7));go_wp2
   go_ret
   exact HF.out
theorem tA(w:World)(b:Nat)(s:ByteArray)(p c:Int)(h:RD w b s p c)(hp:p=s.size):
  Calls aah 72 #[.pointer (some ⟨b,0,none⟩)] w fun e w'=>e=.returned (.tuple #[])/\∃m,w'=w.drewN m:=by
 have hc:=cC w b s p c h;have HC:=laid hc
 go_enter Tryz.func72,Tryz.ntmps72
 go_wp2_with(refine(HC.out).mono ?_;rintro e w' ⟨rfl,mq,rfl⟩)
 go_end0
 exact⟨rfl,mq,rfl⟩
theorem B4(w:World)(b:Nat)(s:ByteArray)(p c:Int)(h:RD w b s p c)(hp:p≠(s.size:Int)):
  Calls aah 72 #[.pointer (some ⟨b,0,none⟩)] w fun e w'=>e=.panicked (gives c p)/\∃m,w'=w.drewN m:=by
 have hb:(p==s.size)=false:=by simp[hp]
 have hc:=cC w b s p c h;have HC:=laid hc
 go_enter Tryz.func72,Tryz.ntmps72
 go_wp2_with(first|(refine(HC.out).mono ?_;rintro e w' ⟨rfl,mq,rfl⟩)|(refine(c7 _ _ _ _ _ (h.drewN _)).mono ?_;rintro e w' ⟨rfl,mq,rfl⟩))
 exact⟨rfl,rfl,_,rfl⟩
theorem Gz(w:World)(s:ByteArray)(p c:Int):RD (w.alloc (.cells #[.string s,.int .i64 p,.int .i64 c] 98)) w.heap.size s p c:=heap_alloc_new w _
theorem ZD{W w1:World}(hb:Below W.heap.size W w1):(∀b o,b<W.heap.size->w1.cell? ⟨b,o,none⟩=W.cell? ⟨b,o,none⟩)/\(∀b o,b<W.heap.size->w1.frozen? ⟨b,o,none⟩=W.frozen? ⟨b,o,none⟩):=
 ⟨fun b o h=>hb.cell h,fun b o h=>hb.frozen h⟩
theorem cI(h:Below w.heap.size w w')(r:Option Nat):w.grownBy w' r:=
 ⟨h.os,h.tape,h.output,h.size,fun k hk _=>h.block k hk⟩
theorem Eu(c p:Int)(w:World):(Instr.typeAssert (.iface 70 (.agg #[.int .i64 c,.int .i64 p])) 20 70 true).run aah w=.ok (.tuple #[.agg #[.int .i64 c,.int .i64 p],.bool true]) w:=by kernel_rfl
theorem KD(m:Nat)(a0 a1 c p:Int)(CN:List PanicEntry)(w:World)(h0:w.cell? ⟨m,0,none⟩=some (.int .i64 a0))(h1:w.cell? ⟨m,1,none⟩=some (.int .i64 a1))(nJ:w.frozen? ⟨m,0,none⟩=false)(kK:w.frozen? ⟨m,1,none⟩=false):
  CallsD aah 61 #[.pointer (some ⟨m,0,none⟩)] (.panicking ({v:=.iface 70 (.agg #[.int .i64 c,.int .i64 p]),recovered:=false}::CN)) w fun e u' w'=>
   e=.returned (.tuple #[])/\u'=.panicking ({v:=.iface 70 (.agg #[.int .i64 c,.int .i64 p]),recovered:=true}::CN)/\w'=((w.setCell ⟨m,0,none⟩ (.int .i64 c)).setCell ⟨m,1,none⟩ (.int .i64 p)).alloc (.cells #[.int .i64 c,.int .i64 p] 70):=by
 refine callsD_of_wpS Tryz.func61 rfl fun af2 cs hu=>?_;apply wpS_seq;apply wpS_region;simp[wpOpsS,go_sem,recoverD,hu,Tryz.ntmps61,Exit.thenS];refine wpS_of_wp ?_;generalize hV:Value.iface 70 (.agg #[.int .i64 c,.int .i64 p])=V;have ht:(#[Value.pointer (some ⟨m,0,none⟩)]++((adr 15 undef).setIfInBounds 3 V).setIfInBounds 0 V)=#[.pointer (some ⟨m,0,none⟩),V,undef,undef,V,undef,undef,undef,undef,undef,undef,undef,undef,undef,undef,undef]:=rfl;rw[ht];clear ht;subst hV;have HU:=laid hu;clear hu;have nK:=Eu c p;have hm:m<w.heap.size:=by have:=block_lt_of_cell h0;simpa using this
 go_wp2
 simp[bodyPostS,results,Tryz.results61]
theorem KF(m:Nat)(w:World):
  CallsD aah 61 #[.pointer (some ⟨m,0,none⟩)] .returning w fun e u' w'=>
   e=.returned (.tuple #[])/\u'=.returning/\w'=w:=by
 refine callsD_of_wpS Tryz.func61 rfl fun af2 cs hu=>?_;apply wpS_seq;apply wpS_region;simp[wpOpsS,go_sem,recoverD,hu,Tryz.ntmps61,Exit.thenS];refine wpS_of_wp ?_;have ht:(#[Value.pointer _]++((adr 15 undef).setIfInBounds 3 Value.nilIface).setIfInBounds 0 Value.nilIface)=#[.pointer (some ⟨m,0,none⟩),.nilIface,undef,undef,.nilIface,undef,undef,undef,undef,undef,undef,undef,undef,undef,undef,undef]:=rfl;rw[ht];clear ht;have HU:=laid hu;clear hu;go_wp2
 have hu:=HU.out;cases af2;simp_all[bodyPostS,results,Tryz.results61]
theorem oA{w1:World}(a b:Value)(n0:w1.cell? ⟨n,0,none⟩=some u0)(n1:w1.cell? ⟨n,1,none⟩=some u1):
  ((w1.setCell ⟨n,0,none⟩ a).setCell ⟨n,1,none⟩ b).cell? ⟨n,0,none⟩=some a/\((w1.setCell ⟨n,0,none⟩ a).setCell ⟨n,1,none⟩ b).cell? ⟨n,1,none⟩=some b/\
   w1.grownBy ((w1.setCell ⟨n,0,none⟩ a).setCell ⟨n,1,none⟩ b) (some n):=by
 have e0:=abb w1 _ a n0;have e1:(w1.setCell ⟨n,0,none⟩ a).cell? ⟨n,1,none⟩=some u1:=by
  rw[aai (h:=by simp)];exact n1
 refine⟨?_,abb _ _ b e1,af (aB w1 n 0 a) (aB _ n 1 b)⟩;rw[aai (h:=by simp)];exact e0
theorem Pm{w1 w2:World}(hg:(w.alloc o).grownBy w1 (some y))(h2:w1.grownBy w2 (some w.heap.size)):w.grownBy w2 (some y):=by
 refine⟨h2.os.trans hg.os,h2.tape.trans hg.tape,h2.output.trans hg.output,?_,fun k hk bj=>?_⟩
 ·have:=hg.size;have:=h2.size;simp at *;omega
 ·have hs:=hg.size;simp at hs;rw[h2.block k (by omega) (by simp;omega),hg.block k (by simp;omega) bj,aaU w o k hk]
theorem aeP(hg:w.grownBy w' r)(hb:b<w.heap.size)(bj:some b≠r):w'.cell? ⟨b,j,none⟩=w.cell? ⟨b,j,none⟩:=
 World.cell?_of_block (hg.block b hb bj)
theorem sb(st:Nat×Bool)(f g:Nat->Nat×Bool):bB (bB st f) g=bB st fun q=>bB (f q) g:=by
 unfold bB;by_cases h:st.2=true
 ·simp_all
 ·simp_all
theorem j7(s:ByteArray)(x:UInt8)(p:Nat)(h:p<=s.size):p<=(dZ s x p).1/\(dZ s x p).1<=s.size:=dJ (dc s x p h) fun q hq=>zH s q hq
theorem zM(s:ByteArray)(p:Nat):ff s p=bB (dZ s 64 p) fun p=>bB (bN s 30 p) fun p'=>bB (aI s 43 p') fun p'=>bB (aI s 10 p') fun p'=>bB (db s mA (cR s 30 p) (cR s 30 p) p') (aI s 10):=by
 unfold ff dZ;rw[sb]
theorem GA(s:ByteArray)(p:Nat)(h:p<=s.size):p<=(ff s p).1/\(ff s p).1<=s.size:=by
 rw[zM];refine dJ (j7 s 64 p h) fun q hq=>dJ (gX s 30 q hq) fun q1 hq1=>dJ (dc s 43 q1 hq1) fun q2 hq2=>dJ (dc s 10 q2 hq2) fun q3 hq3=>dJ (lM s _ _ _ q3 hq3) fun q4 hq4=>dc s 10 q4 hq4
def pNm(s:ByteArray)(p:Nat):=WK s (aI s 64 p).1
def pBs(s:ByteArray)(p:Nat):=str ((kO s 30 (dZ s 64 p).1).data.toList.map gb)
def pAt(s:ByteArray)(p:Nat):=(aI s 10 (aI s 43 (bN s 30 (dZ s 64 p).1).1).1).1
def pMk(s:ByteArray)(p:Nat):=s.extract (pAt s p) (pAt s p+aK mA (rest s (pAt s p)) (cR s 30 (dZ s 64 p).1))
def KG(s:ByteArray)(p:Nat):Value:=.agg #[.string (pNm s p),.string (pBs s p),.string (pMk s p)]
theorem RD.lt{p:Int}(h:RD w b s p c):b<w.heap.size:=by
 rcases aaQ b _ with h'|h'
 ·omega
 ·unfold RD at h;simp_all
theorem RD.alloc{p:Int}(h:RD w b s p c)(o:Obj):RD (w.alloc o) b s p c:=by
 have:=h.lt;unfold RD at *;rw[heap_alloc_old w o this];exact h
theorem RD.below{p:Int}(h:RD w b s p c)(hb:Below B w w')(aV:b<B):RD w' b s p c:=by
 unfold RD at *;rw[hb.block b aV];exact h
theorem RD.kept{r:Nat}{p:Int}(h:RD w b s p c)(hg:w.grownBy w' (some r))(bj:b≠r):RD w' b s p c:=by
 have:=h.lt;unfold RD at *;rw[hg.block b this (by simp_all)];exact h
theorem R8{w1:World}{u2:Value}(a b c:Value)(n0:w1.cell? ⟨n,0,none⟩=some u0)(n1:w1.cell? ⟨n,1,none⟩=some u1)(n2:w1.cell? ⟨n,2,none⟩=some u2):
  (((w1.setCell ⟨n,0,none⟩ a).setCell ⟨n,1,none⟩ b).setCell ⟨n,2,none⟩ c).cell? ⟨n,0,none⟩=some a/\(((w1.setCell ⟨n,0,none⟩ a).setCell ⟨n,1,none⟩ b).setCell ⟨n,2,none⟩ c).cell? ⟨n,1,none⟩=some b/\
   (((w1.setCell ⟨n,0,none⟩ a).setCell ⟨n,1,none⟩ b).setCell ⟨n,2,none⟩ c).cell? ⟨n,2,none⟩=some c/\
   w1.grownBy (((w1.setCell ⟨n,0,none⟩ a).setCell ⟨n,1,none⟩ b).setCell ⟨n,2,none⟩ c) (some n):=by
 obtain⟨m0,m1,hg⟩:=oA a b n0 n1;have e2:((w1.setCell ⟨n,0,none⟩ a).setCell ⟨n,1,none⟩ b).cell? ⟨n,2,none⟩=some u2:=by
  rw[aai (h:=by simp),aai (h:=by simp)];exact n2
 refine⟨?_,?_,abb _ _ c e2,af hg (aB _ n 2 c)⟩
 ·rw[aai (h:=by simp)];exact m0
 ·rw[aai (h:=by simp)];exact m1
theorem lI(h:(w.alloc o).grownBy w' r):w.grownBy w' r:=by
 refine⟨h.os,h.tape,h.output,?_,fun k hk bj=>?_⟩
 ·have:=h.size;simp at this;omega
 ·rw[h.block k (by simp;omega) bj,aaU w o k hk]
theorem GB(w:World)(b:Nat)(s:ByteArray)(p:Nat)(c:Int)(h:RD w b s p c)(hs:s.size<=1000)(hp:p<=s.size):
  Calls aah 109 #[.pointer (some ⟨b,0,none⟩)] w fun e w'=>dY w b s c (ff s p) (KG s p) e w':=by
 generalize hR:ff s p=R;rw[zM]at hR;have HR:=laid hR;clear hR;have abw:=h.lt;unfold KG;generalize hN1:pNm s p=PN;generalize hN2:pBs s p=PB;generalize hN3:pMk s p=PM;have HN1:=laid (show WK s (aI s 64 p).1=PN from hN1);have HN2:=laid (show str ((kO s 30 (dZ s 64 p).1).data.toList.map gb)=PB from hN2);have HN3:=laid (show s.extract (aI s 10 (aI s 43 (bN s 30 (dZ s 64 p).1).1).1).1 ((aI s 10 (aI s 43 (bN s 30 (dZ s 64 p).1).1).1).1+aK mA (rest s (aI s 10 (aI s 43 (bN s 30 (dZ s 64 p).1).1).1).1) (cR s 30 (dZ s 64 p).1))=PM from hN3);clear hN1 hN2 hN3
 go_enter Tryz.func109,Tryz.ntmps109
 go_wp2_with fail
 refine(tx _ _ s p c _ 64 rfl (h.alloc _) hs hp).mono ?_;rw[HN1.out];clear HN1;rintro e w1 ⟨h1,h2,dE,ju⟩;have ns:=j7 s 64 p hp;by_cases aA:(dZ s 64 p).2=true
 ·obtain rfl:=h2 aA;exact⟨rfl,bU (fT HR.out aA) (cy aA dE (lI ju))⟩
 ·rw[aak]at aA;obtain rfl:=h1 aA;clear h1 h2;have KC:=laid (kV HR.out aA);generalize(dZ s 64 p).1=p1 at *;clear aA HR;go_wp2_with fail
  refine(oz _ _ s p1 c _ 30 rfl (by omega) dE hs ns.2).mono ?_;rintro e w2 ⟨h1,h2,fU,fS⟩;replace fS:=af ju fS;have vG:=gX s 30 p1 ns.2;by_cases aA:(bN s 30 p1).2=true
  ·obtain rfl:=h2 aA;exact⟨rfl,bU (fT KC.out aA) (cy aA fU (lI fS))⟩
  ·rw[aak]at aA;obtain rfl:=h1 aA;clear h1 h2;have R6:=laid (kV KC.out aA);have hnl:=lN s 30 p1;have HXS:=laid (sa s 30 p1 ns.2);generalize kO s 30 p1=X30 at *;generalize cR s 30 p1=nl at *;generalize(bN s 30 p1).1=p2 at *;clear aA KC;have hxs:=HXS.out;go_wp2_with fail
   refine(lH _ _ s p2 c _ 43 rfl fU hs vG.2).mono ?_;rintro e w3 ⟨h1,h2,bV,om⟩;replace om:=af fS om;have hl3:=dc s 43 p2 vG.2;by_cases aA:(aI s 43 p2).2=true
   ·obtain rfl:=h2 aA;exact⟨rfl,bU (fT R6.out aA) (cy aA bV (lI om))⟩
   ·rw[aak]at aA;obtain rfl:=h1 aA;clear h1 h2;have HR3:=laid (kV R6.out aA);generalize(aI s 43 p2).1=p3 at *;clear aA R6;go_wp2_with fail
    refine(lH _ _ s p3 c _ 10 rfl bV hs hl3.2).mono ?_;rintro e w4 ⟨h1,h2,lQ,Ns⟩;replace Ns:=af om Ns;have Nt:=dc s 10 p3 hl3.2;by_cases aA:(aI s 10 p3).2=true
    ·obtain rfl:=h2 aA;exact⟨rfl,bU (fT HR3.out aA) (cy aA lQ (lI Ns))⟩
    ·rw[aak]at aA;obtain rfl:=h1 aA;clear h1 h2;have HR4:=laid (kV HR3.out aA);generalize(aI s 10 p3).1=p4 at *;clear aA HR3;go_wp2_with fail
     refine(B3 _ _ s p4 c _ _ nl nl rfl rfl (by omega) (by omega) lQ hs Nt.2).mono ?_;rintro e w5 ⟨h1,h2,lT,hg5⟩;replace hg5:=af Ns hg5;have Nu:=lM s mA nl nl p4 Nt.2;by_cases aA:(db s mA nl nl p4).2=true
     ·obtain rfl:=h2 aA;exact⟨rfl,bU (fT HR4.out aA) (cy aA lT (lI hg5))⟩
     ·rw[aak]at aA;have Wo:=h1 aA;rw[HN3.out]at Wo;obtain rfl:=Wo;clear h1 h2 HN3;have HR5:=laid (kV HR4.out aA);generalize(db s mA nl nl p4).1=p5 at *;clear aA HR4;go_wp2_with fail
      refine(lH _ _ s p5 c _ 10 rfl lT hs Nu.2).mono ?_;rintro e w6 ⟨h1,h2,tC,ZF⟩;replace ZF:=af hg5 ZF;by_cases aA:(aI s 10 p5).2=true
      ·obtain rfl:=h2 aA;exact⟨rfl,bU HR5.out (cy aA tC (lI ZF))⟩
      ·rw[aak]at aA;obtain rfl:=h1 aA;clear h1 h2;have hl6:=tC.lt;have bj:b≠w.heap.size:=by omega
       have hN:=ZF.block w.heap.size (by simp) (by simpa using fun h=>bj h.symm);rw[heap_alloc_new]at hN;go_wp2_with fail
       refine(nI X30 _ (by omega)).mono ?_;rintro e w7 ⟨rfl,KH⟩;rw[HN2.out];clear HN2;have hnw:w.heap.size<w6.heap.size:=by have:=ZF.size;simp at this;omega
       have ZG:=KH.block w.heap.size hnw;rw[hN]at ZG;have n0:w7.cell? ⟨w.heap.size,0,none⟩=some (.string ⟨#[]⟩):=by rw[cell_of_row _ _ _ _ _ _ ZG];rfl
       have n1:w7.cell? ⟨w.heap.size,1,none⟩=some (.string ⟨#[]⟩):=by rw[cell_of_row _ _ _ _ _ _ ZG];rfl
       have n2:w7.cell? ⟨w.heap.size,2,none⟩=some (.string ⟨#[]⟩):=by rw[cell_of_row _ _ _ _ _ _ ZG];rfl
       have z0:w7.frozen? ⟨w.heap.size,0,none⟩=false:=frozen_of_row _ _ _ _ _ ZG;have z1:w7.frozen? ⟨w.heap.size,1,none⟩=false:=frozen_of_row _ _ _ _ _ ZG;have z2:w7.frozen? ⟨w.heap.size,2,none⟩=false:=frozen_of_row _ _ _ _ _ ZG;have hg7:=af ZF (cI KH (some b));have pW:=tC.below KH hl6;obtain⟨m0,m1,m2,hg8⟩:=R8 (.string PN) (.string PB) (.string PM) n0 n1 n2;have CO:=pW.kept hg8 bj;have HF:=laid (bU (v:=.agg #[.string PN,.string PB,.string PM]) HR5.out (ny aA CO (Pm hg7 hg8)));clear aA hN ZG hg8 CO hg7 KH pW;go_wp2
       refine bodyPost_ret (v:=.agg #[.string PN,.string PB,.string PM]) ?_ rfl HF.out;simp[results,Tryz.results109,go_sem,m0,m1,m2]
def B5(s:ByteArray)(nb:Nat)(st:Nat×Bool):ByteArray:=if st.2=true then⟨#[]⟩else cut s st.1 (st.1+aK mA (rest s st.1) nb)
def Rl(s:ByteArray)(p:Nat):Nat×Bool:=aI s 64 p
def zN(s:ByteArray)(p:Nat):Nat×Bool:=bB (Rl s p) (j0 s)
def R9(s:ByteArray)(p:Nat):Nat×Bool:=bB (zN s p) (bN s 30)
def R_(s:ByteArray)(p:Nat):Nat×Bool:=bB (R9 s p) (aI s 43)
def Pn(s:ByteArray)(p:Nat):Nat×Bool:=bB (R_ s p) (aI s 10)
def zP(s:ByteArray)(p:Nat):ByteArray:=Gt s 30 (zN s p)
def rs6(s:ByteArray)(p:Nat):Nat×Bool:=bB (Pn s p) (db s mA (zP s p).size (zP s p).size)
def rs7(s:ByteArray)(p:Nat):Nat×Bool:=bB (rs6 s p) (aI s 10)
def tD(s:ByteArray)(p:Nat):ByteArray×ByteArray×ByteArray:=(zJ s (Rl s p),zP s p,B5 s (zP s p).size (Pn s p))
theorem KI(s:ByteArray)(p:Nat)(hp:p<=s.size):rs7 s p=ff s p:=by
 rw[zM];unfold rs7 rs6 Pn R_ R9;by_cases h:(zN s p).2=true
 ·have e:dZ s 64 p=zN s p:=rfl;rw[e,gW h,gW h];simp only[gW h]
 ·rw[aak]at h;have e:dZ s 64 p=zN s p:=rfl;have hb:zP s p=pU s 30 (zN s p).1:=by unfold zP Gt;rw[if_neg (by simp[h])]
  have hle:=(j7 s 64 p hp).2;have hn:(zP s p).size=cR s 30 (zN s p).1:=by rw[hb];exact qE s 30 _ hle
  rw[e,fC h,fC h,hn];simp only[sb]
def aj(s:ByteArray):Nat->Nat->List (ByteArray×ByteArray×ByteArray)
 |0,_=>[]
 |n+1,p=>if s.size<=p then []else tD s p::(if(ff s p).2=true then []else aj s n (ff s p).1)
def dv(L:List (ByteArray×ByteArray×ByteArray)):List Value:=L.flatMap fun r=>[.string r.1,.string r.2.1,.string r.2.2]
theorem zQ(L:List (ByteArray×ByteArray×ByteArray))(r:ByteArray×ByteArray×ByteArray):dv (L++[r])=dv L++[.string r.1,.string r.2.1,.string r.2.2]:=by
 unfold dv;simp
theorem pY(s:ByteArray)(p q:Nat):cut s p q=s.extract p q:=by
 apply abB;apply abF;simp only[abo,abv];rfl
theorem abz(s:ByteArray)(h:(aI s 62 0).2=false):iL s=WK s (aI s 62 0).1:=by
 unfold iL zJ WK;rw[if_neg (by simp[h]),pY]
theorem abA(s:ByteArray)(p:Nat)(hp:p<=s.size)(h:(ff s p).2=false):(pNm s p,pBs s p,pMk s p)=tD s p:=by
 rw[<-KI s p hp]at h;obtain⟨h6,_⟩:=eT (show(bB (rs6 s p) (aI s 10)).2=false from h);obtain⟨h5,_⟩:=eT (show(bB (Pn s p) (db s mA (zP s p).size (zP s p).size)).2=false from h6);obtain⟨h4,_⟩:=eT (show(bB (R_ s p) (aI s 10)).2=false from h5);obtain⟨h3,_⟩:=eT (show(bB (R9 s p) (aI s 43)).2=false from h4);obtain⟨h2,_⟩:=eT (show(bB (zN s p) (bN s 30)).2=false from h3);obtain⟨h1,_⟩:=eT (show(bB (Rl s p) (j0 s)).2=false from h2);have hle:(zN s p).1<=s.size:=(j7 s 64 p hp).2;have e2:(dZ s 64 p).1=(zN s p).1:=rfl;have e3:(bN s 30 (zN s p).1).1=(R9 s p).1:=by unfold R9;rw[fC h2]
 have e4:(aI s 43 (R9 s p).1).1=(R_ s p).1:=by unfold R_;rw[fC h3]
 have e5:(aI s 10 (R_ s p).1).1=(Pn s p).1:=by unfold Pn;rw[fC h4]
 have hb:zP s p=pU s 30 (zN s p).1:=by unfold zP Gt;rw[if_neg (by simp[h2])]
 have hbs:(zP s p).size=cR s 30 (zN s p).1:=by rw[hb];exact qE s 30 _ hle
 have b1:pNm s p=zJ s (Rl s p):=by
  unfold pNm WK zJ;rw[if_neg (by simp[h1]),pY];rfl
 have b2:pBs s p=zP s p:=by
  rw[hb];unfold pBs pU oy;rw[e2,show(zN s p).1+cR s 30 (zN s p).1-(zN s p).1=cR s 30 (zN s p).1 by omega];congr 2;unfold kO;simp only[abo,abv,rest];simp[abH]
 have b3:pMk s p=B5 s (zP s p).size (Pn s p):=by
  unfold pMk B5 pAt;rw[if_neg (by simp[h5]),pY,e2,e3,e4,e5,hbs]
 unfold tD;rw[b1,b2,b3]
structure kQ(w:World)(B:Nat)(p t:ByteArray)(v:Value)(i:Nat)(g:Nat->Nat):Prop where
 own:w.ownsRow B 25 1 v i ((abt i).map (sv t g))
 rows:∀x,x<i->pT w (g x) p t x
 base:∀x,x<i->B<=g x
theorem Nv:(aah.info? 25).map (fun i=>(i.zero,i.size,i.bytes))=some (some (.slice none 0 0),1,24):=by kernel_rfl
theorem Sa(t:ByteArray)(ht:t.size<=900)(w:World):
  (abp 25 (.int .i64 ((t.size:Int)+1)) (.int .i64 ((t.size:Int)+1))).run aah w=.ok (.slice (some ⟨w.heap.size,0,none⟩) (t.size+1) (t.size+1)) (w.alloc (.cells (rh [] (t.size+1)) 3)):=by
 have:=CG (t.size+1) (by omega) w
 rwa [show(((t.size+1)))=t.size+1 by omega]at this
theorem iM(g i:Nat):(⟨g,0,none⟩:Addr).add i=⟨g,i,none⟩:=by
 by_cases h0:i=0
 ·simp[abO]
 ·simp[abO,h0]
theorem Ev(w:World)(c:Array Value)(T:TypeId)(d j:Nat)(v:Value):((w.alloc (.cells c T)).drewN d).setCell ⟨w.heap.size,j,none⟩ v=(w.alloc (.cells (c.setIfInBounds j v) T)).drewN d:=by
 have h:(w.alloc (.cells c T)).setCell ⟨w.heap.size,j,none⟩ v=w.alloc (.cells (c.setIfInBounds j v) T):=by simp only[aca]
 have h2:((w.alloc (.cells c T)).drewN d).setCell ⟨w.heap.size,j,none⟩ v=((w.alloc _).setCell _ v).drewN d:=rfl;rw[h2,h]
theorem GC{W:World}{p t:ByteArray}(hW:(wr.alloc (.cells (jo p t i j) 3)).drewN n=W)(hH:wr.heap.size=H)(hb:j<=t.size)(hz:z=(dT p t i j:Int)):
  (W.setCell ⟨H,j,none⟩ (.int .i64 z)).drew=(wr.alloc (.cells (jo p t i (j+1)) 3)).drewN (n+1):=by
 subst hW hH;rw[Ev,rT p t i j hb z hz];rfl
theorem CP(p t:ByteArray)(w:World)(hp:p.size<=100)(ht:t.size<=300):
  Calls aah 118 #[.string p,.string t] w fun e w'=>∃v g,e=.returned v/\kQ w' w.heap.size p t v (p.size+1) g/\Below w.heap.size w w':=by
 obtain⟨i0,hi,nJ,kK,iI⟩:=info_parts Nv;have Kl:=Sa t (by omega)
 go_enter Tryz.func118,Tryz.ntmps118
 go_wp2
 go_loopw [5,6] (fun v iv wr=>∃(i:Nat) (g:Nat->Nat),iv=.int .i64 (i:Int)/\i<=p.size+1/\kQ wr w.heap.size p t v i g/\Below w.heap.size w wr) (fun _ iv _=>p.size+1-(intOf iv).toNat)
 case atStart=>exact⟨0,fun _=>0,rfl,aau _,⟨⟨rfl,.inl ⟨rfl,rfl⟩⟩,fun x hx=>by omega,fun x hx=>by omega⟩,abq _ _⟩
 case round=>
  obtain⟨i,g,rfl,hip,nK,aH⟩:=hrel;by_cases aV:i<=p.size
  ·go_wp2
   go_loopw [8] (fun jv w2=>∃(j d:Nat),jv=.int .i64 (j:Int)/\j<=t.size+1/\w2=(wr.alloc (.cells (jo p t i j) 3)).drewN d) (fun jv _=>t.size+1-(intOf jv).toNat)
   case atStart=>exact⟨0,0,rfl,aau _,rfl⟩
   case round=>
    obtain⟨j,d,rfl,hjt,rfl⟩:=hrel;by_cases Nl:j<=t.size
    ·have hz:=Gm p t i j Nl;by_cases tG:i=0
     ·subst tG;go_wp2
      go_roundw
      case rel=>go_light;exact⟨j+1,d,by go_num,by omega,by rw[Ev,rT p t 0 j Nl _ (by simp[dT])]⟩
      case measure=>go_light;simp[intOf];omega
     ·by_cases F3:j=0
      ·subst F3;have hd:(i:Int)=(dT p t i 0:Int):=by
        cases i with
        |zero=>exact absurd rfl tG
        |succ a=>rw[dT]
       have HD:=laid hd;clear hd;go_wp2
       go_roundw
       case rel=>go_light;exact⟨0+1,d,by go_num,by omega,by rw[Ev,rT p t i 0 Nl _ HD.out]⟩
       case measure=>go_light;simp[intOf]
      ·obtain⟨a,Nw⟩:∃a,i=a+1:=⟨i-1,by omega⟩;obtain⟨b,V3⟩:∃b,j=b+1:=⟨j-1,by omega⟩;obtain⟨G,cap,hu,Sb,hGa⟩:∃G cap,u5=.slice (some ⟨G,0,none⟩) i cap/\G<wr.heap.size/\wr.cell? ⟨G,a,none⟩=some (sv t g a):=by
        rcases nK.own.2 with⟨_,h0⟩|⟨G,cap,cur,hv,hB,hg,hc⟩
        ·omega
        ·refine⟨G,cap,hv,?_,?_⟩
         ·rcases aaQ G wr.heap.size with h'|h'
          ·exact h'
          ·rw[acE h']at hg;cases hg
         ·have h:=nK.own.cells (g:=G) (by rw[hv];rfl) a (sv t g a) (by rw[ac0,abx (by omega)];rfl)
          rwa [iM]at h
       subst hu;have hra:=nK.rows a (by omega);have Sc:=hra.lt;have ha1:(a:Int)<(p.size:Int):=by omega
       have cn:(b:Int)<(t.size:Int):=by omega
       have hap:a<p.size:=by omega
       have hbt:b<t.size:=by omega
       have hpa:=cZ p a hap;have htb:=cZ t b hbt;have Ku:aas.wrap ((i:Int)-1)=(a:Int):=by rw[show(i:Int)-1=(a:Int) by omega];exact aaq _ (by omega)
       have nP:aas.wrap ((j:Int)-1)=(b:Int):=by rw[show(j:Int)-1=(b:Int) by omega];exact aaq _ (by omega)
       have hDT:Hid (dT p t i j=min (min (dT p t a b+cost p t a b) (dT p t a j+1)) (dT p t i b+1)):=laid (by rw[Nw,V3,dT]);have b3:(a:Int)<(i:Int):=by omega
       have Ew:=laid Nw;have F4:=laid V3;clear Nw V3;go_wp2_with fail
       go_quiet((go_at_call 119;refine(vE _ _ _).mono ?_;rintro e lF ⟨rfl,rfl⟩;exact⟨rfl,_,rfl⟩))
       rw[abn];generalize BK:(wr.alloc (.cells (jo p t i j) 3)).drewN (d+nq)=W;have HW:=laid BK;have s1:W.cell? ⟨G,a,none⟩=some (.slice (some ⟨g a,0,none⟩) (t.size+1) (t.size+1)):=by
        rw[<-BK];show(wr.alloc _).cell? _=_;rw[aaD _ _ _ Sb];exact hGa
       have s2:W.cell? ⟨g a,b,none⟩=some (.int .i64 (dT p t a b:Int)):=by
        rw[<-BK];show(wr.alloc _).cell? _=_;rw[aaD _ _ _ Sc];exact hra.cell b (by omega)
       have s3:W.cell? ⟨g a,j,none⟩=some (.int .i64 (dT p t a j:Int)):=by
        rw[<-BK];show(wr.alloc _).cell? _=_;rw[aaD _ _ _ Sc];exact hra.cell j (by omega)
       have s4:W.cell? ⟨wr.heap.size,b,none⟩=some (.int .i64 (dT p t i b:Int)):=by
        rw[<-BK];show(wr.alloc _).cell? _=_;rw[aaH _ _ _ _ rfl];exact zB p t _ _ b (by have:=F4.out;omega)
       have s5:W.cell? ⟨wr.heap.size,j,none⟩=some (.int .i64 0):=by
        rw[<-BK];show(wr.alloc _).cell? _=_;rw[aaH _ _ _ _ rfl];exact hz
       have s6:W.frozen? ⟨wr.heap.size,j,none⟩=false:=by
        rw[<-BK];show(wr.alloc _).frozen? _=_;rw[acz _ _ _ _ rfl]
       have hX:dT p t a b<=1000:=by have:=o_ p t a b;have:=Ew.out;have:=F4.out;omega
       have hY:dT p t a j<=1000:=by have:=o_ p t a j;have:=Ew.out;have:=F4.out;omega
       have hZ:dT p t i b<=1000:=by have:=o_ p t i b;have:=Ew.out;have:=F4.out;omega
       generalize dT p t a b=X at *;generalize dT p t a j=Y at *;generalize dT p t i b=Z at *;clear BK hz hpa htb;have hGH:G≠wr.heap.size:=by omega
       have hgH:g a≠wr.heap.size:=by omega
       have k1:∀v,(W.setCell ⟨wr.heap.size,j,none⟩ v).drew.cell? ⟨G,a,none⟩=some (.slice (some ⟨g a,0,none⟩) (t.size+1) (t.size+1)):=fun v=>(aai W ⟨wr.heap.size,j,none⟩ ⟨G,a,none⟩ v (by intro e;cases e;exact hGH rfl)).trans s1;have k2:∀v,(W.setCell ⟨wr.heap.size,j,none⟩ v).drew.cell? ⟨g a,b,none⟩=some (.int .i64 (X:Int)):=fun v=>(aai W ⟨wr.heap.size,j,none⟩ ⟨g a,b,none⟩ v (by intro e;injection e with e1 e2;exact hgH e1.symm)).trans s2;have k3:∀v,(W.setCell ⟨wr.heap.size,j,none⟩ v).drew.cell? ⟨g a,j,none⟩=some (.int .i64 (Y:Int)):=fun v=>(aai W ⟨wr.heap.size,j,none⟩ ⟨g a,j,none⟩ v (by intro e;injection e with e1 e2;exact hgH e1.symm)).trans s3;have k4:∀v,(W.setCell ⟨wr.heap.size,j,none⟩ v).drew.cell? ⟨wr.heap.size,b,none⟩=some (.int .i64 (Z:Int)):=fun v=>(aai W ⟨wr.heap.size,j,none⟩ ⟨wr.heap.size,b,none⟩ v (by intro e;injection e with e1 e2;have:=F4.out;omega)).trans s4;have b1:(0:Int)<=(a:Int):=aaE _;have b2:(0:Int)<=(b:Int):=aaE _;have b4:(b:Int)<(t.size:Int)+1:=by omega
       have b5:(j:Int)<(t.size:Int)+1:=by omega
       have b6:(0:Int)<=(j:Int):=aaE _;have x0:aas.wrap (X:Int)=(X:Int):=aaq _ (by omega);have x1:aas.wrap ((X:Int)+1)=(X:Int)+1:=aaq _ (by omega);have y1:aas.wrap ((Y:Int)+1)=(Y:Int)+1:=aaq _ (by omega);have z1:aas.wrap ((Z:Int)+1)=(Z:Int)+1:=aaq _ (by omega);by_cases pe:ag (at8 p a) (at8 t b)=true
       ·have Zw:cost p t a b=0:=if_pos pe;rw[Zw]at hDT;rw[pe];clear Zw pe;go_wp2_with fail
        go_region_held3 (fun w'=>w'.cell? ⟨G,a,none⟩=some (.slice (some ⟨g a,0,none⟩) (t.size+1) (t.size+1))/\w'.cell? ⟨g a,b,none⟩=some (.int .i64 (X:Int))/\w'.cell? ⟨g a,j,none⟩=some (.int .i64 (Y:Int))/\w'.cell? ⟨wr.heap.size,b,none⟩=some (.int .i64 (Z:Int)))
         (first|go_keep|exact⟨k1 _,k2 _,k3 _,k4 _⟩)
         (first|(go_at_call 135;refine(CF _ _ _ _).mono ?_;rintro e w' ⟨rfl,rfl⟩))
        go_wp2
        go_roundw
        case rel=>go_light;exact⟨j+1,d+nq+1,by go_num,by omega,GC HW.out rfl Nl (by have:=hDT.out;omega)⟩
        case measure=>go_light;simp[intOf];omega
       ·have Zw:cost p t a b=1:=if_neg pe;rw[Zw]at hDT;rw[aak]at pe;rw[pe];clear Zw pe;go_wp2_with fail
        go_region_held3 (fun w'=>w'.cell? ⟨G,a,none⟩=some (.slice (some ⟨g a,0,none⟩) (t.size+1) (t.size+1))/\w'.cell? ⟨g a,b,none⟩=some (.int .i64 (X:Int))/\w'.cell? ⟨g a,j,none⟩=some (.int .i64 (Y:Int))/\w'.cell? ⟨wr.heap.size,b,none⟩=some (.int .i64 (Z:Int)))
         (first|go_keep|exact⟨k1 _,k2 _,k3 _,k4 _⟩)
         (first|(go_at_call 135;refine(CF _ _ _ _).mono ?_;rintro e w' ⟨rfl,rfl⟩))
        go_wp2
        go_roundw
        case rel=>go_light;exact⟨j+1,d+nq+1,by go_num,by omega,GC HW.out rfl Nl (by have:=hDT.out;omega)⟩
        case measure=>go_light;simp[intOf];omega
    ·have hje:j=t.size+1:=by omega
     have zR:Hid (∃W:World,W=(wr.alloc (.cells (jo p t i j) 3)).drewN d):=laid ⟨_,rfl⟩;generalize BK:(wr.alloc (.cells (jo p t i j) 3)).drewN d=W;have bP:W.ownsRow w.heap.size 25 1 u5 i ((abt i).map (sv t g)):=by rw[<-BK];exact nK.own.alloc _
     have Sd:∀x,x<i->pT W (g x) p t x:=fun x hx=>by
      rw[<-BK];have:=nK.rows x hx;have hl:=this.lt;unfold pT at *;show(wr.alloc _).heap[g x]?=_
      rw[heap_alloc_old wr _ hl];exact this
     have ZH:pT W wr.heap.size p t i:=by
      rw[<-BK,hje];exact heap_alloc_new wr _
     have aM:Below w.heap.size w W:=by rw[<-BK];exact Go.below_drewN (aH.alloc aH.size _) d
     have R6:=laid Sd;have HN2:=laid ZH;have HB:=laid nK.base;have hsb:w.heap.size<=wr.heap.size:=aH.size;clear BK zR Sd ZH nK hje;go_wp2_with(first
      |(at_builtin;refine wpList_append_own _ rfl _ _ 162 rfl w.heap.size 25 i0 (.slice none 0 0) 1 24 Tryz.underlying162 hi nJ kK iI rfl (by decide) _ _ _ rfl (bP.alloc _) ⟨W.heap.size,0,none⟩ 1 1 [.slice (some ⟨wr.heap.size,0,none⟩) (t.size+1) (t.size+1)] rfl rfl ?c1 ?c2 ?c3 ?c4 ?c5 ?_)
      |go_in)
     case c1=>
      intro x u hj
      match x,hj with
      |0,hj=>simp at hj;subst hj;simp[abO]
     case c2=>intro u hu;simp at hu;subst hu;rfl
     case c3=>unfold maxLen;omega
     case c4=>omega
     case c5=>have:=aM.size;simp;omega
     intro v' wz aW aD _;have gV:Below w.heap.size w wz:=(aM.alloc aM.size _).grown aD (by have:=aM.size;simp;omega) (fun j hj=>(bP.lt j hj).1);have af6:kQ wz w.heap.size p t v' (i+1) (fun x=>if x<i then g x else wr.heap.size):=by
      have GD:∀(k:Nat) (c:Array Value),W.heap[k]?=some (.cells c 3 (0,0))->wz.heap[k]?=some (.cells c 3 (0,0)):=fun k c hk=>by
       have hl:k<W.heap.size:=by
        rcases aaQ k W.heap.size with h'|h'
        ·exact h'
        ·rw[acE h']at hk;cases hk
       rw[aD.block k (by simp;omega) (fun e=>Lib.ownBlock_ne bP hk (by decide) e.symm),heap_alloc_old W _ hl];exact hk
      refine⟨?_,fun x hx=>?_,fun x hx=>?_⟩
      ·have e1:(abt (i+1)).map (sv t fun x=>if x<i then g x else wr.heap.size)=(abt i).map (sv t g)++[.slice (some ⟨wr.heap.size,0,none⟩) (t.size+1) (t.size+1)]:=by
        rw[ab2,abu];congr 1
        ·apply List.map_congr_left;intro x hx;rw[List.mem_range]at hx;simp[sv,hx]
        ·simp[sv]
       rw[e1];exact aW
      ·by_cases KJ:x<i
       ·simp only[KJ,if_true];exact GD _ _ (R6.out x KJ)
       ·have oB:x=i:=by omega
        subst oB;simp only[Nat.lt_irrefl,if_false];exact GD _ _ HN2.out
      ·by_cases KJ:x<i
       ·simp only[KJ,if_true];exact HB.out x KJ
       ·simp only[KJ,if_false];exact hsb
     obtain⟨gg,cap,n',rfl⟩:∃gg cap n',v'=.slice (some ⟨gg,0,none⟩) n' cap:=by
      rcases aW.2 with⟨_,h0⟩|⟨gg,cap,cur,hv,_⟩
      ·omega
      ·exact⟨gg,cap,_,hv⟩
     clear aW aD bP;have HTZ:=laid af6;clear af6;go_wp2
     go_roundw
     case rel=>go_light;exact⟨i+1,_,by go_num,by omega,HTZ.out,gV⟩
     case measure=>go_light;simp[intOf];omega
  ·have F0:i=p.size+1:=by omega
   have ZI:Hid (kQ wr w.heap.size p t u5 (p.size+1) g):=laid (by rw[<-F0];exact nK);clear F0 nK;go_wp2
   go_ret
   exact⟨u5,g,rfl,ZI.out,aH⟩
theorem kQ.get{p t:ByteArray}(h:kQ w B p t v n g)(hn:0<n):
  ∃G cap,v=.slice (some ⟨G,0,none⟩) n cap/\G<w.heap.size/\∀i,i<n->w.cell? ⟨G,i,none⟩=some (.slice (some ⟨g i,0,none⟩) (t.size+1) (t.size+1)):=by
 rcases h.own.2 with⟨_,h0⟩|⟨G,cap,cur,hv,hB,hg,hc⟩
 ·omega
 ·refine⟨G,cap,hv,?_,fun i hi=>?_⟩
  ·rcases aaQ G _ with h'|h'
   ·omega
   ·simp_all
  ·have h:=h.own.cells (by rw[hv];rfl) i (sv t g i) (by simp_all)
   rwa [iM]at h
def bX(p t:ByteArray):=dT p t p.size t.size
theorem Se(p t:ByteArray):bX p t<=p.size+t.size:=o_ _ _ _ _
theorem Ex(p t:ByteArray)(w:World)(hp:p.size<=100)(ht:t.size<=300):
  Calls aah 117 #[.string p,.string t] w fun e w'=>e=.returned (.int .i64 (bX p t:Int))/\Below w.heap.size w w':=by
 go_enter Tryz.func117,Tryz.ntmps117
 go_wp2_with fail
 refine(CP p t _ hp ht).mono ?_;rintro e w1 ⟨v,g,rfl,nK,aH⟩;obtain⟨G,cap,rfl,Sb,hG⟩:=nK.get (by omega);have hGp:=hG p.size (by omega);have hc:=(nK.rows p.size (by omega)).cell t.size (aao _);generalize hD:dT p t p.size t.size=D at *;have HD:=laid (show bX p t=D from hD);go_wp2
 go_ret
 exact⟨jQ (by rw[HD.out]),aH⟩
def bp(p t:ByteArray)(k e:Nat)
 |0=>(k+1,0)
 |c+1=>if bX p (t.extract (e-c) e)<(bp p t k e c).1 then(bX p (t.extract (e-c) e),e-c)else bp p t k e c
def tries(p:ByteArray)(k e:Nat):=min e (p.size+k)+1
def best(p t:ByteArray)(k e:Nat):=bp p t k e (tries p k e)
def bq(p t:ByteArray)(k:Nat)
 |0=>[]
 |e+1=>if(best p t k e).1<=k then bq p t k e++[((best p t k e).2,e,(best p t k e).1)]else bq p t k e
def gh(p t:ByteArray)(k:Nat):=bq p t k (t.size+1)
theorem CQ(p t:ByteArray)(k e:Nat):∀c,(bp p t k e c).1<=k+1
 |0=>aao _
 |c+1=>by
  have:=CQ p t k e c;simp[bp];split
  ·omega
  ·omega
theorem kW(p t:ByteArray)(k e:Nat):∀c,(bp p t k e c).2<=e
 |0=>aau _
 |c+1=>by
  have:=kW p t k e c;simp[bp];split
  ·simp
  ·omega
theorem oC(p t:ByteArray)(k:Nat):∀n,(bq p t k n).length<=n
 |0=>aao _
 |n+1=>by
  have:=oC p t k n;simp[bq];split
  ·simp_all
  ·omega
def mM(L:List (Nat×Nat×Nat)):=L.flatMap fun h=>[nv h.1,nv h.2.1,nv h.2.2]
theorem zS(L:List _)(h:Nat×Nat×Nat):mM (L++[h])=mM L++[nv h.1,nv h.2.1,nv h.2.2]:=by
 unfold mM;simp
def HT(w:World)(b:Nat)(s e d:Nat):Prop:=w.heap[b]?=some (.cells #[.int .i64 (s:Int),.int .i64 (e:Int),.int .i64 (d:Int)] 148 (0,0))
theorem HT.c0{s:Nat}(h:HT w b s e d):w.cell? ⟨b,0,none⟩=some (.int .i64 s):=by rw[cell_of_row w b 0 _ _ _ h];rfl
theorem HT.c1{s:Nat}(h:HT w b s e d):w.cell? ⟨b,1,none⟩=some (.int .i64 e):=by rw[cell_of_row w b 1 _ _ _ h];rfl
theorem HT.c2{s:Nat}(h:HT w b s e d):w.cell? ⟨b,2,none⟩=some (.int .i64 d):=by rw[cell_of_row w b 2 _ _ _ h];rfl
theorem HT.fz{s:Nat}(h:HT w b s e d)(j:Nat):w.frozen? ⟨b,j,none⟩=false:=frozen_of_row w b j _ _ h
theorem HT.lt{s:Nat}(h:HT w b s e d):b<w.heap.size:=by have:=block_lt_of_cell h.c0;omega
theorem HT.below{s:Nat}(h:HT w b s e d)(hb:Below w.heap.size w w'):HT w' b s e d:=by have:=h.lt;unfold HT at *;rw[hb.block b this];exact h
theorem HT.put{s:Nat}(h:HT w b s e d)(s' d':Nat):HT ((w.setCell ⟨b,2,none⟩ (.int .i64 d')).setCell ⟨b,0,none⟩ (.int .i64 s')) b s' e d':=by
 unfold HT at *;have h1:=heap_setCell_same w b 2 _ _ (.int .i64 d') h;rw[heap_setCell_same _ b 0 _ _ _ h1];rfl
theorem WL:(aah.info? 148).map (fun i=>(i.zero,i.size,i.bytes))=some (some (.agg #[.int .i64 0,.int .i64 0,.int .i64 0]),3,24):=by kernel_rfl
end
end Go.Proofs.YtdcjnhipenbcfaaGreatDoor
