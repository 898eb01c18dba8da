/-
  Own text. Part 2 of what the claim rests on.
-/
import Derived.Test.YtdcjnhipenbcfaaGreatDoorRows
import Derived.ProofKit
import Derived.LaidMore
import Derived.Stop.Joined
import Derived.Lib.LaidTab
import Derived.Lib.LaidU8
import Derived.OpenShut
import Derived.ShutString
import Derived.ChangeOld
import Derived.Deep.Slices
import GoSem.Step
import Derived.Laws.Sem
import Derived.StepT
import GoSem.Dispatch
import Derived.Test.YtdcjnhipenbcfaaGreatDoorPk1
set_option linter.unusedVariables false
set_option linter.unusedSectionVars false
set_option linter.unusedSimpArgs false
set_option maxRecDepth 100000
set_option maxHeartbeats 16000000
open Array renaming getElem?_eq_some_iff->adK,getElem?_push->aew,range->aeB,toArray_toList->aeL,getElem?_append_right->ae9,getElem?_append_left->afb,toList_zipIdx->afu,toList_filter->afv,toList_append->afw,foldl_toList->afD,mem_append->afO,replicate->afU
open Bool renaming false_eq_true->aem,eq_iff_iff->afm,not_true->afq,and_eq_true->afM
open ByteArray renaming empty->aex
open Except renaming bind->aeM,pure->ae3
open Except.ok renaming injEq->afj
open Go.Addr renaming add->aeQ
open Go.Builtin renaming firstCells->adz,lenOf->aeu,zeroCells->aeJ,unsafeAdd_->aeS,mayShare->aeZ,append_->afl,copy_->afs,len_->afz,holdsCells->afB
open Go.Conv renaming stringToBytes->afA
open Go.DataW renaming trod_int->aeU,trod_string->afF
open Go.Instr renaming findNow->adU,sameNow->aev,fill->aeV,sliceBound->aeY,checkKey->ae0,keyThatStays->ae8,findKey->afa,findAsking->afg,makeSlice->afk,extract->afr,makeInterface->aft,lookup->afE,sliceBounds->afG,buildSlice->afR,typeAssert->afT,mapUpdate->afV
open Go.IntKind renaming i64->ae1
open Go.IntWalk renaming i64_in->aeT
open Go.Op renaming equal->adM,stringOp->ae4,maxDepth->ae5,equalIn->aff,intArith->afL,intCmp->afW,intDiv->afY
open Go.Proofs.Tryz renaming prog->aeb,underlying3->aeK,underlying145->afx,underlying9->afN
open Go.Result renaming andThen_ok->afe
open Go.Sem renaming bind->adv,run->adJ,run_bind'->adT,runT->aeR,run_bind->afC
open Go.Value renaming slice->aeI,tuple->ae6,pointer->ae_,int->afh,bool->afo,ofBytes->afp
open Go.World renaming drewN_drewN->adu,cell?->ae2,viewStore->afi
open List renaming length_cons->adO,append_assoc->afc,length_append->afy,mem_toArray->afP,filter_cons->afS
open MonadExcept renaming throw->aeW
open MonadExceptOf renaming throw->aeN
open Nat renaming le_refl->ady,le_trans->adN,lt_of_lt_of_le->aef,eq_zero_or_pos->ae7,min->afn,zero_le->afH,lt_succ_self->afQ
open Option renaming map_eq_some_iff->aeX
open Option.some renaming inj->adC,injEq->afd
namespace Go.Proofs.YtdcjnhipenbcfaaGreatDoor
variable {a a' at_:Addr}{h:Array Obj}{cL cs:Array Value}{p:ByteArray}{d d':Deferred}{l:List Addr}{L:List UInt8}{B b b' base c i j n s u z:Nat}{o o':Obj}{P:Program}{e t:TypeId}{k k' like v' x x' y y':Value}{v1 w:World}
section
open RowKit
def B6(p t:ByteArray)(i j:Nat):Bool:=decide (0<i)&&decide (0<j)&&decide (dT p t i j=dT p t (i-1) (j-1)+cost p t (i-1) (j-1))
def CR(p t:ByteArray)(i j:Nat):Bool:=decide (0<i)&&decide (dT p t i j=dT p t (i-1) j+1)
def d_(p t:ByteArray):Nat->Nat->Nat->List UInt8
 |0,_,_=>[]
 |f+1,i,j=>if i=0/\j=0 then []else if B6 p t i j=true then d_ p t f (i-1) (j-1)++[77]else if CR p t i j=true then d_ p t f (i-1) j++[73]else d_ p t f i (j-1)++[68]
def ck(p t:ByteArray):List UInt8:=d_ p t (p.size+t.size) p.size t.size
theorem Ey(p t:ByteArray)(i:Nat)(h:0<i):CR p t i 0=true:=by
 obtain⟨a,rfl⟩:∃a,i=a+1:=⟨i-1,by omega⟩;unfold CR;cases a with
 |zero=>simp[dT]
 |succ a=>simp[dT]
theorem ze{t:ByteArray}(h:B6 p t i j=true):0<i/\0<j/\dT p t i j=dT p t (i-1) (j-1)+cost p t (i-1) (j-1):=by
 unfold B6 at h;simp only[afM,decide_eq_true_eq]at h;exact⟨h.1.1,h.1.2,h.2⟩
theorem zf{t:ByteArray}(h:CR p t i j=true):0<i/\dT p t i j=dT p t (i-1) j+1:=by
 unfold CR at h;simp only[afM,decide_eq_true_eq]at h;exact h
theorem tJ{t:ByteArray}(h:CR p t i j=false)(h0:¬(i=0/\j=0)):0<j:=by
 rcases ae7 j with rfl|hj
 ·rcases ae7 i with rfl|hi
  ·omega
  ·rw[Ey p t i hi]at h;exact Bool.noConfusion h
 ·omega
theorem fV(p t:ByteArray):∀(f i j:Nat),i+j<=f->d_ p t f i j=d_ p t (i+j) i j
 |0,i,j,h=>by
  have:i+j=0:=by omega
  rw[this]
 |f+1,i,j,h=>by
  rcases ae7 (i+j)with h0|h0
  ·rw[h0];have:i=0/\j=0:=by omega
   show d_ p t (f+1) i j=[]
   rw[d_.eq_def];exact if_pos this
  ·obtain⟨n,hn⟩:∃n,i+j=n+1:=⟨i+j-1,by omega⟩;rw[hn,d_,d_];have bj:¬(i=0/\j=0):=by omega
   rw[if_neg bj,if_neg bj];split
   ·rename_i hM;have:=ze hM;rw[fV p t f (i-1) (j-1) (by omega),fV p t n (i-1) (j-1) (by omega)]
   ·split
    ·rename_i hI;have:=zf hI;rw[fV p t f (i-1) j (by omega),fV p t n (i-1) j (by omega)]
    ·rename_i hI;have:=tJ (by simpa using hI) bj;rw[fV p t f i (j-1) (by omega),fV p t n i (j-1) (by omega)]
theorem KM{t:ByteArray}{acc:List UInt8}(hM:B6 p t i j=true)(h:d_ p t (i+j) i j++acc=L):d_ p t (i-1+(j-1)) (i-1) (j-1)++(77::acc)=L:=by
 have hp:=ze hM;obtain⟨n,hn⟩:∃n,i+j=n+1:=⟨i+j-1,by omega⟩;rw[hn,d_,if_neg (by omega),if_pos hM,fV p t n _ _ (by omega),afc]at h;exact h
theorem Ez{t:ByteArray}{acc:List UInt8}(hM:B6 p t i j=false)(hI:CR p t i j=true)(h:d_ p t (i+j) i j++acc=L):d_ p t (i-1+j) (i-1) j++(73::acc)=L:=by
 have hp:=zf hI;obtain⟨n,hn⟩:∃n,i+j=n+1:=⟨i+j-1,by omega⟩;rw[hn,d_,if_neg (by omega),if_neg (by simp[hM]),if_pos hI,fV p t n _ j (by omega),afc]at h;exact h
theorem EB{t:ByteArray}{acc:List UInt8}(h0:¬(i=0/\j=0))(hM:B6 p t i j=false)(hI:CR p t i j=false)(h:d_ p t (i+j) i j++acc=L):d_ p t (i+(j-1)) i (j-1)++(68::acc)=L:=by
 have hp:=tJ hI h0;obtain⟨n,hn⟩:∃n,i+j=n+1:=⟨i+j-1,by omega⟩;rw[hn,d_,if_neg h0,if_neg (by simp[hM]),if_neg (by simp[hI]),fV p t n i _ (by omega),afc]at h;exact h
theorem tK(p t:ByteArray):∀(f i j:Nat),(d_ p t f i j).length<=f
 |0,_,_=>by simp[d_]
 |f+1,i,j=>by
  rw[d_];split
  ·simp
  ·split
   ·have:=tK p t f (i-1) (j-1);simp;omega
   ·split
    ·have:=tK p t f (i-1) j;simp;omega
    ·have:=tK p t f i (j-1);simp;omega
theorem tL(p t:ByteArray):(ck p t).length<=p.size+t.size:=tK _ _ _ _ _
theorem Sf(p t:ByteArray)(w:World)(hp:p.size<=100)(ht:t.size<=300):
  Calls aeb 106 #[.string p,.string t] w fun e w'=>e=.returned (.string (str (ck p t)))/\Below w.heap.size w w':=by
 go_enter Tryz.func106,Tryz.ntmps106
 go_wp2_with fail
 refine(CP p t _ hp ht).mono ?_;rintro e w1 ⟨v,g,rfl,nK,aH⟩;obtain⟨G,cap,rfl,Sb,hG⟩:=nK.get (by omega);have HG:=laid hG;have HR:=laid (fun i hi j hj=>(nK.rows i hi).cell j hj);clear nK hG;go_wp2
 go_loopw [6,7,8] (fun sv iv jv wr=>∃(i j d:Nat) (acc:List UInt8),sv=.string (str acc)/\iv=.int .i64 (i:Int)/\jv=.int .i64 (j:Int)/\i<=p.size/\j<=t.size/\acc.length+i+j<=p.size+t.size/\Hid (d_ p t (i+j) i j++acc=ck p t)/\wr=w1.drewN d) (fun _ iv jv _=>(intOf iv).toNat+(intOf jv).toNat)
 case atStart=>exact⟨p.size,t.size,0,[],rfl,rfl,rfl,ady _,ady _,by simp,laid (by simp[ck]),rfl⟩
 case round=>
  obtain⟨i,j,d,acc,rfl,rfl,rfl,hip,hjt,WI,HL,rfl⟩:=hrel;have mK:(str acc).size<=1000:=by rw[au];omega
  by_cases h0:i=0/\j=0
  ·obtain⟨rfl,rfl⟩:=h0;have HF:Hid (str acc=str (ck p t)):=laid (by rw[<-HL.out];rfl);go_wp2
   go_ret
   exact⟨cP HF.out,Go.below_drewN aH d⟩
  ·by_cases tG:i=0
   ·have F3:0<j:=by omega
    have te:decide ((0:Int)<(i:Int))=false:=by simp;omega
    have F2:(0:Int)<(j:Int):=by omega
    have HM:Hid (B6 p t i j=false):=laid (by unfold B6;rw[tG];rfl);have HI:Hid (CR p t i j=false):=laid (by unfold CR;rw[tG];rfl);have HN:=laid (EB h0 HM.out HI.out HL.out);have HS:=laid (gZ 68 acc);clear HL HM HI h0;go_wp2_with fail
    go_quiet(fail)
    rw[adu];go_wp2_with fail
    go_quiet(fail)
    rw[adu];go_wp2
    go_roundw
    case rel=>go_light;exact⟨i,j-1,_,68::acc,b_ HS.out,ax (by omega),ax (by omega),by omega,by omega,by rw[adO];omega,HN,rfl⟩
    case measure=>go_light;simp[intOf];omega
   ·obtain⟨a,Nw⟩:∃a,i=a+1:=⟨i-1,by omega⟩;have ry:(0:Int)<(i:Int):=by omega
    have hGi:=HG.out i (by omega);have hGa:=HG.out a (by omega);have r1:=HR.out i (by omega) j (by omega);have r3:=HR.out a (by omega) j (by omega);have b1:(0:Int)<=(i:Int):=by omega
    have b2:(i:Int)<(p.size:Int)+1:=by omega
    have b3:(0:Int)<=(a:Int):=by omega
    have b4:(a:Int)<(p.size:Int)+1:=by omega
    have b5:(0:Int)<=(j:Int):=by omega
    have b6:(j:Int)<(t.size:Int)+1:=by omega
    have Ku:ae1.wrap ((i:Int)-1)=(a:Int):=by rw[show(i:Int)-1=(a:Int) by omega];exact aeT _ (by omega)
    have hX:dT p t i j<=1000:=by have:=o_ p t i j;omega
    have hZ:dT p t a j<=1000:=by have:=o_ p t a j;omega
    have z1:ae1.wrap ((dT p t a j:Int)+1)=(dT p t a j:Int)+1:=aeT _ (by omega);have hEI:CR p t i j=decide (dT p t i j=dT p t a j+1):=by unfold CR;rw[Nw];simp
    have CS:=laid hEI;have Ew:=laid Nw;clear hEI;by_cases F3:j=0
    ·have F2:decide ((0:Int)<(j:Int))=false:=by simp;omega
     have HM:Hid (B6 p t i j=false):=laid (by unfold B6;rw[F3];simp);have HI:Hid (CR p t i j=true):=laid (by rw[F3];exact Ey p t i (by omega));have hxz:((dT p t i j:Int)==(dT p t a j:Int)+1)=true:=by
      have h1:=HI.out;rw[CS.out]at h1;have:=of_decide_eq_true h1;simp;omega
     have HN:=laid (Ez HM.out HI.out HL.out);have HS:=laid (gZ 73 acc);have HJ0:=laid F3;have hj9:¬(0:Int)<(j:Int):=by omega
     clear HL HM HI CS Nw F3 h0 tG;generalize dT p t i j=X at *;generalize dT p t a j=Z at *;go_wp2_with fail
     go_quiet(fail)
     rw[adu];go_wp2_with fail
     go_quiet(fail)
     rw[adu];go_wp2
     go_roundw
     case rel=>go_light;exact⟨i-1,j,_,73::acc,b_ HS.out,ax (by have:=Ew.out;omega),ax (by omega),by omega,by omega,by rw[adO];have:=Ew.out;omega,HN,rfl⟩
     case measure=>go_light;simp[intOf];have:=Ew.out;omega
    ·obtain⟨b,V3⟩:∃b,j=b+1:=⟨j-1,by omega⟩;have F4:=laid V3;have H0:=laid h0;have KN:(0:Int)<(j:Int):=by omega
     have r2:=HR.out a (by omega) b (by omega);have b7:(0:Int)<=(b:Int):=by omega
     have b8:(b:Int)<(t.size:Int)+1:=by omega
     have ha1:(a:Int)<(p.size:Int):=by omega
     have cn:(b:Int)<(t.size:Int):=by omega
     have hap:a<p.size:=by omega
     have hbt:b<t.size:=by omega
     have hpa:=cZ p a hap;have htb:=cZ t b hbt;have nP:ae1.wrap ((j:Int)-1)=(b:Int):=by rw[show(j:Int)-1=(b:Int) by omega];exact aeT _ (by omega)
     have hY:dT p t a b<=1000:=by have:=o_ p t a b;omega
     have Si:Hid (B6 p t i j=decide (dT p t i j=dT p t a b+cost p t a b)):=laid (by unfold B6;rw[Nw,V3];simp);have y0:ae1.wrap (dT p t a b:Int)=(dT p t a b:Int):=aeT _ (by omega);have y1:ae1.wrap ((dT p t a b:Int)+1)=(dT p t a b:Int)+1:=aeT _ (by omega);clear Nw V3 h0 tG F3;generalize dT p t i j=X at *;generalize dT p t a j=Z at *;generalize dT p t a b=Y at *;go_wp2_with fail
     go_quiet((go_at_call 119;refine(vE _ _ _).mono ?_;rintro e lF ⟨rfl,rfl⟩;exact⟨rfl,_,rfl⟩))
     rw[adu];by_cases pe:ag (at8 p a) (at8 t b)=true
     ·have HCO:Hid (cost p t a b=0):=laid (if_pos pe);have Po:Hid (B6 p t i j=decide (X=Y+0)):=laid (by rw[Si.out,HCO.out]);rw[pe];clear HCO Si pe;by_cases hM:X=Y+0
      ·have CU:((X:Int)==(Y:Int))=true:=by simp;omega
       have HN:=laid (KM (by rw[Po.out];exact decide_eq_true hM) HL.out);have HS:=laid (gZ 77 acc);clear HL Po CS hM;go_wp2_with fail
       go_quiet(fail)
       rw[adu];go_wp2
       go_roundw
       case rel=>go_light;exact⟨i-1,j-1,_,77::acc,b_ HS.out,ax (by have:=Ew.out;omega),ax (by have:=F4.out;omega),by omega,by omega,by rw[adO];have:=Ew.out;have:=F4.out;omega,HN,rfl⟩
       case measure=>go_light;simp[intOf];have:=Ew.out;have:=F4.out;omega
      ·have CU:((X:Int)==(Y:Int))=false:=by simp;omega
       by_cases hI:X=Z+1
       ·have hxz:((X:Int)==(Z:Int)+1)=true:=by simp;omega
        have HN:=laid (Ez (by rw[Po.out];exact decide_eq_false hM) (by rw[CS.out];exact decide_eq_true hI) HL.out);have HS:=laid (gZ 73 acc);clear HL Po CS hM hI;go_wp2_with fail
        go_quiet(fail)
        rw[adu];go_wp2_with fail
        go_quiet(fail)
        rw[adu];go_wp2
        go_roundw
        case rel=>go_light;exact⟨i-1,j,_,73::acc,b_ HS.out,ax (by have:=Ew.out;omega),ax (by omega),by omega,by omega,by rw[adO];have:=Ew.out;omega,HN,rfl⟩
        case measure=>go_light;simp[intOf];have:=Ew.out;omega
       ·have hxz:((X:Int)==(Z:Int)+1)=false:=by simp;omega
        have HN:=laid (EB H0.out (by rw[Po.out];exact decide_eq_false hM) (by rw[CS.out];exact decide_eq_false hI) HL.out);have HS:=laid (gZ 68 acc);clear HL Po CS hM hI;go_wp2_with fail
        go_quiet(fail)
        rw[adu];go_wp2_with fail
        go_quiet(fail)
        rw[adu];go_wp2
        go_roundw
        case rel=>go_light;exact⟨i,j-1,_,68::acc,b_ HS.out,ax (by omega),ax (by have:=F4.out;omega),by omega,by omega,by rw[adO];have:=F4.out;omega,HN,rfl⟩
        case measure=>go_light;simp[intOf];have:=F4.out;omega
     ·have HCO:Hid (cost p t a b=1):=laid (if_neg pe);rw[Bool.not_eq_true]at pe;have Po:Hid (B6 p t i j=decide (X=Y+1)):=laid (by rw[Si.out,HCO.out]);rw[pe];clear HCO Si pe;by_cases hM:X=Y+1
      ·have CU:((X:Int)==(Y:Int)+1)=true:=by simp;omega
       have HN:=laid (KM (by rw[Po.out];exact decide_eq_true hM) HL.out);have HS:=laid (gZ 77 acc);clear HL Po CS hM;go_wp2_with fail
       go_quiet(fail)
       rw[adu];go_wp2
       go_roundw
       case rel=>go_light;exact⟨i-1,j-1,_,77::acc,b_ HS.out,ax (by have:=Ew.out;omega),ax (by have:=F4.out;omega),by omega,by omega,by rw[adO];have:=Ew.out;have:=F4.out;omega,HN,rfl⟩
       case measure=>go_light;simp[intOf];have:=Ew.out;have:=F4.out;omega
      ·have CU:((X:Int)==(Y:Int)+1)=false:=by simp;omega
       by_cases hI:X=Z+1
       ·have hxz:((X:Int)==(Z:Int)+1)=true:=by simp;omega
        have HN:=laid (Ez (by rw[Po.out];exact decide_eq_false hM) (by rw[CS.out];exact decide_eq_true hI) HL.out);have HS:=laid (gZ 73 acc);clear HL Po CS hM hI;go_wp2_with fail
        go_quiet(fail)
        rw[adu];go_wp2_with fail
        go_quiet(fail)
        rw[adu];go_wp2
        go_roundw
        case rel=>go_light;exact⟨i-1,j,_,73::acc,b_ HS.out,ax (by have:=Ew.out;omega),ax (by omega),by omega,by omega,by rw[adO];have:=Ew.out;omega,HN,rfl⟩
        case measure=>go_light;simp[intOf];have:=Ew.out;omega
       ·have hxz:((X:Int)==(Z:Int)+1)=false:=by simp;omega
        have HN:=laid (EB H0.out (by rw[Po.out];exact decide_eq_false hM) (by rw[CS.out];exact decide_eq_false hI) HL.out);have HS:=laid (gZ 68 acc);clear HL Po CS hM hI;go_wp2_with fail
        go_quiet(fail)
        rw[adu];go_wp2_with fail
        go_quiet(fail)
        rw[adu];go_wp2
        go_roundw
        case rel=>go_light;exact⟨i,j-1,_,68::acc,b_ HS.out,ax (by omega),ax (by have:=F4.out;omega),by omega,by omega,by rw[adO];have:=F4.out;omega,HN,rfl⟩
        case measure=>go_light;simp[intOf];have:=F4.out;omega
theorem KO{t:ByteArray}{k e:Nat}(hs:s+c=e)(h:bX p (t.extract s e)<(bp p t k e c).1):bp p t k e (c+1)=(bX p (t.extract s e),s):=by
 obtain rfl:s=e-c:=by omega
 rw[bp,if_pos h]
theorem Pp{t:ByteArray}{k e:Nat}(hs:s+c=e)(h:¬bX p (t.extract s e)<(bp p t k e c).1):bp p t k e (c+1)=bp p t k e c:=by
 obtain rfl:s=e-c:=by omega
 rw[bp,if_neg h]
theorem abD{w':World}{v:Value}{xs:List _}(h:w.ownsRow B e z v n xs)(hb:Below w.heap.size w w'):w'.ownsRow B e z v n xs:=
 h.kept (cI hb none) (by cases v.ownBlock<;>simp)
theorem Sj(p t:ByteArray)(k:Nat)(w:World)(hp:p.size<=100)(ht:t.size<=300)(hk:k<=100):
  Calls aeb 105 #[.string p,.string t,.int .i64 (k:Int)] w fun e w'=>∃v,e=.returned v/\w'.ownsRow w.heap.size 148 3 v (gh p t k).length (mM (gh p t k))/\Below w.heap.size w w':=by
 obtain⟨i0,hi,nJ,kK,iI⟩:=info_parts WL
 go_enter Tryz.func105,Tryz.ntmps105
 go_wp2
 go_loopw [7,8] (fun v ev wr=>∃e:Nat,ev=.int .i64 (e:Int)/\e<=t.size+1/\wr.ownsRow w.heap.size 148 3 v (bq p t k e).length (mM (bq p t k e))/\Below w.heap.size w wr) (fun _ ev _=>t.size+1-(intOf ev).toNat)
 case atStart=>exact⟨0,rfl,afH _,World.ownsRow_nil _ _ _ _,Below.refl _ _⟩
 case round=>
  obtain⟨e,rfl,het,aJ,aH⟩:=hrel;obtain⟨wo,hwo⟩:∃wo:World,wo=wr:=⟨wr,rfl⟩;subst hwo;have hlen:=oC p t k e;by_cases aV:e<=t.size
  ·have hbl:∀j,u7.ownBlock=some j->j<wo.heap.size:=fun j hj=>(aJ.lt j hj).2;have HBL:=laid hbl;clear hbl;go_wp2
   go_loopw [10] (fun sv w2=>∃(c:Nat) (x:Int),sv=.int .i64 x/\x+(c:Int)=(e:Int)/\c<=tries p k e/\HT w2 wo.heap.size (bp p t k e c).2 e (bp p t k e c).1/\w2.ownsRow w.heap.size 148 3 u7 (bq p t k e).length (mM (bq p t k e))/\Below w.heap.size w w2) (fun sv _=>(intOf sv+1).toNat)
   case atStart=>exact⟨0,(e:Int),rfl,by simp,afH _,heap_alloc_new wo _,aJ.alloc _,aH.alloc aH.size _⟩
   case round=>
    obtain⟨c,x,rfl,hxc,hct,hht,bP,aM⟩:=hrel;have cn:=CQ p t k e c;have di:=kW p t k e c;have ZJ:tries p k e=min e (p.size+k)+1:=rfl;have HTR:=laid ZJ;clear ZJ;have c0:=hht.c0;have c1:=hht.c1;have c2:=hht.c2;have f0:=hht.fz 0;have f2:=hht.fz 2;have hhl:=hht.lt;have af8:=aM.size;by_cases vN:c<tries p k e
    ·have hce:c<=e:=by have:=HTR.out;omega
     have bJ:c<=p.size+k:=by have:=HTR.out;omega
     obtain⟨s,rfl⟩:∃s:Nat,x=(s:Int):=⟨e-c,by omega⟩;have hsc:s+c=e:=by omega
     have HSC:=laid hsc;have pN:(e:Int)-(s:Int)<=(p.size:Int)+(k:Int):=by omega
     have KP:s<=e:=by omega
     have hES:(t.extract s e).size<=300:=by rw[ByteArray.size_extract];omega
     have ZK:=laid (fun W=>Ex p (t.extract s e) W hp hES);have HY:=laid (fun h=>KO (p:=p) (t:=t) (k:=k) hsc h);have HN:=laid (fun h=>Pp (p:=p) (t:=t) (k:=k) hsc h);have V4:=Se p (t.extract s e);clear hsc hxc;generalize bX p (t.extract s e)=D at *;go_wp2_with fail
     generalize t.extract s e=TS at *;refine(ZK.out _).mono ?_;rintro e1 w3 ⟨rfl,fj⟩;have Pq:=hht.below fj;have ZL:=abD bP fj;have dx:=aM.trans (fj.mono aM.size);clear fj c0 c1 c2 f0 f2 ZK;have d0:=Pq.c0;have d2:=Pq.c2;have g0:=Pq.fz 0;have g2:=Pq.fz 2;by_cases hd:D<(bp p t k e c).1
     ·have iE:=Pq.put s D;have zT:w3.grownBy ((w3.setCell ⟨wo.heap.size,2,none⟩ (.int .i64 (D:Int))).setCell ⟨wo.heap.size,0,none⟩ (.int .i64 (s:Int))) (some wo.heap.size):=af (aB w3 _ 2 _) (aB _ _ 0 _);have xP:=ZL.kept zT (.inr (fun h=>by have:=HBL.out _ h;omega));have iN:=dx.grown zT dx.size (fun j hj=>by cases hj;have:=aH.size;omega);have hB:=HY.out hd;have Sk:HT ((w3.setCell ⟨wo.heap.size,2,none⟩ (.int .i64 (D:Int))).setCell ⟨wo.heap.size,0,none⟩ (.int .i64 (s:Int))) wo.heap.size (bp p t k e (c+1)).2 e (bp p t k e (c+1)).1:=by rw[hB];exact iE
      have abG:=laid Sk;clear Sk hB iE zT HY HN;go_wp2
      go_roundw
      case rel=>go_light;exact⟨c+1,(s:Int)-1,rfl,by have:=HSC.out;omega,by omega,abG.out,xP,iN⟩
      case measure=>go_light;simp[intOf]
     ·have Sk:HT w3 wo.heap.size (bp p t k e (c+1)).2 e (bp p t k e (c+1)).1:=by rw[HN.out hd];exact Pq
      have abG:=laid Sk;clear Sk HY HN;go_wp2
      go_roundw
      case rel=>go_light;exact⟨c+1,(s:Int)-1,rfl,by have:=HSC.out;omega,by omega,abG.out,ZL,dx⟩
      case measure=>go_light;simp[intOf]
    ·have hce:c=tries p k e:=by omega
     have HCE:=laid hce;by_cases hx0:x<0
     ·clear hce;by_cases hD:(bp p t k e c).1<=k
      ·have HY:Hid (bq p t k (e+1)=bq p t k e++[((bp p t k e c).2,e,(bp p t k e c).1)]):=laid (by rw[bq];unfold best;rw[<-HCE.out,if_pos hD]);have y0:wr.cell? ⟨wo.heap.size,0,none⟩=some (.int .i64 ((bp p t k e c).2:Int)):=c0;generalize(bp p t k e c).1=DD at *;generalize(bp p t k e c).2=SS at *;go_wp2_with(first
        |(at_builtin;refine wpList_append_own _ rfl _ _ 145 rfl w.heap.size 148 i0 (.agg #[.int .i64 0,.int .i64 0,.int .i64 0]) 3 24 afx hi nJ kK iI rfl (by decide) _ _ _ rfl (bP.alloc _) ⟨wr.heap.size,0,none⟩ 1 1 [nv SS,nv e,nv DD] rfl rfl ?c1 ?c2 ?c3 ?c4 ?c5 ?_)
        |go_in)
       case c1=>
        intro j u hj
        match j,hj with
        |0,hj=>simp at hj;subst hj;simp[aeQ,go_sem,nv]
        |1,hj=>simp at hj;subst hj;simp[aeQ,go_sem,nv]
        |2,hj=>simp at hj;subst hj;simp[aeQ,go_sem,nv]
       case c2=>first|exact⟨rfl,rfl,rfl⟩|(intro u hu;simp at hu;rcases hu with rfl|rfl|rfl<;>rfl)
       case c3=>unfold maxLen;omega
       case c4=>omega
       case c5=>first|omega|(simp;omega)
       intro v' wz aW aD _;have gV:Below w.heap.size w wz:=(aM.alloc aM.size _).grown aD (by simp;omega) (fun j hj=>(bP.lt j hj).1);have fc:wz.ownsRow w.heap.size 148 3 v' (bq p t k (e+1)).length (mM (bq p t k (e+1))):=by
        rw[HY.out,afy,zS];exact aW
       obtain⟨gg,cap,n',rfl⟩:∃gg cap n',v'=.slice (some ⟨gg,0,none⟩) n' cap:=by
        rcases aW.2 with⟨_,h0⟩|⟨gg,cap,cur,hv,_⟩
        ·omega
        ·exact⟨gg,cap,_,hv⟩
       clear aW aD bP;go_wp2
       go_roundw
       case rel=>go_light;exact⟨e+1,by go_num,by omega,fc,gV⟩
       case measure=>go_light;simp[intOf];omega
      ·have HY:Hid (bq p t k (e+1)=bq p t k e):=laid (by rw[bq];unfold best;rw[<-HCE.out,if_neg hD]);have fc:wr.ownsRow w.heap.size 148 3 u7 (bq p t k (e+1)).length (mM (bq p t k (e+1))):=by
        rw[HY.out];exact bP
       go_wp2
       go_roundw
       case rel=>go_light;exact⟨e+1,by go_num,by omega,fc,aM⟩
       case measure=>go_light;simp[intOf];omega
     ·have pN:¬(e:Int)-x<=(p.size:Int)+(k:Int):=by have:=HTR.out;omega
      obtain⟨s,rfl⟩:∃s:Nat,x=(s:Int):=⟨x.toNat,by omega⟩;clear hce;by_cases hD:(bp p t k e c).1<=k
      ·have HY:Hid (bq p t k (e+1)=bq p t k e++[((bp p t k e c).2,e,(bp p t k e c).1)]):=laid (by rw[bq];unfold best;rw[<-HCE.out,if_pos hD]);have y0:wr.cell? ⟨wo.heap.size,0,none⟩=some (.int .i64 ((bp p t k e c).2:Int)):=c0;generalize(bp p t k e c).1=DD at *;generalize(bp p t k e c).2=SS at *;go_wp2_with(first
        |(at_builtin;refine wpList_append_own _ rfl _ _ 145 rfl w.heap.size 148 i0 (.agg #[.int .i64 0,.int .i64 0,.int .i64 0]) 3 24 afx hi nJ kK iI rfl (by decide) _ _ _ rfl (bP.alloc _) ⟨wr.heap.size,0,none⟩ 1 1 [nv SS,nv e,nv DD] rfl rfl ?c1 ?c2 ?c3 ?c4 ?c5 ?_)
        |go_in)
       case c1=>
        intro j u hj
        match j,hj with
        |0,hj=>simp at hj;subst hj;simp[aeQ,go_sem,nv]
        |1,hj=>simp at hj;subst hj;simp[aeQ,go_sem,nv]
        |2,hj=>simp at hj;subst hj;simp[aeQ,go_sem,nv]
       case c2=>first|exact⟨rfl,rfl,rfl⟩|(intro u hu;simp at hu;rcases hu with rfl|rfl|rfl<;>rfl)
       case c3=>unfold maxLen;omega
       case c4=>omega
       case c5=>first|omega|(simp;omega)
       intro v' wz aW aD _;have gV:Below w.heap.size w wz:=(aM.alloc aM.size _).grown aD (by simp;omega) (fun j hj=>(bP.lt j hj).1);have fc:wz.ownsRow w.heap.size 148 3 v' (bq p t k (e+1)).length (mM (bq p t k (e+1))):=by
        rw[HY.out,afy,zS];exact aW
       obtain⟨gg,cap,n',rfl⟩:∃gg cap n',v'=.slice (some ⟨gg,0,none⟩) n' cap:=by
        rcases aW.2 with⟨_,h0⟩|⟨gg,cap,cur,hv,_⟩
        ·omega
        ·exact⟨gg,cap,_,hv⟩
       clear aW aD bP;go_wp2
       go_roundw
       case rel=>go_light;exact⟨e+1,by go_num,by omega,fc,gV⟩
       case measure=>go_light;simp[intOf];omega
      ·have HY:Hid (bq p t k (e+1)=bq p t k e):=laid (by rw[bq];unfold best;rw[<-HCE.out,if_neg hD]);have fc:wr.ownsRow w.heap.size 148 3 u7 (bq p t k (e+1)).length (mM (bq p t k (e+1))):=by
        rw[HY.out];exact bP
       go_wp2
       go_roundw
       case rel=>go_light;exact⟨e+1,by go_num,by omega,fc,aM⟩
       case measure=>go_light;simp[intOf];omega
  ·have RV:e=t.size+1:=by omega
   have HE:Hid (wo.ownsRow w.heap.size 148 3 u7 (gh p t k).length (mM (gh p t k))):=laid (by unfold gh;rw[<-RV];exact aJ);clear RV aJ;go_wp2
   go_ret
   exact⟨u7,rfl,HE.out,aH⟩
end
section
open ChangeShapes WideShapes ChangeAt RowKit
def xQ:List (String×DataW Unit):=Rows.checksRow.laid
theorem Pr:("internal/strconv.uint64pow10",(Lib.tabData .u64 Lib.pow10Tab:DataW Unit))∈xQ:=by
 exact .tail _ (.tail _ (.head _))
theorem GF{W:World}(h:laidMetH aeb xQ W):cf W:=by
 obtain⟨g',t',cs,fuel,p,vO,ht',am3,hd⟩:=Lib.laidMet.reads h Pr;have hg:Program.globalNamed aeb "internal/strconv.uint64pow10"=some 0:=by kernel_rfl
 have hty:((aeb).globals[0]?).map (·.type)=some 202:=by kernel_rfl
 obtain rfl:=adC (hg.symm.trans vO);obtain rfl:=adC (hty.symm.trans ht');unfold cf Lib.TabIs;rw[am3,<-Lib.cells_of_tab Tryz.underlying202 Tryz.underlying176 (by kernel_rfl) (by kernel_rfl) hd]
theorem Sl(os:Os)(args:Array Value):laidMetH aeb xQ ((World.doorLaid aeb 400 os).forCall (fun _ _=>0) ⟨#[],args,[]⟩).memory:=
 laidMetH_of_parts3 (fuel:=8) (laidMet_of_run' 8 (by kernel_rfl) (by kernel_rfl)) (by kernel_rfl) (by kernel_rfl)
end
section
open ChangeShapes WideShapes ChangeAt RowKit Deep
theorem Ny:aeb.cellsOf 59=7:=by kernel_rfl
theorem pZ:aeb.cellsOf 3=1:=by kernel_rfl
theorem xR:aeb.cellsOf 9=1:=by kernel_rfl
theorem pf{H:Type}{enc:TypeId×Value->H}{W:World}{spare:Nat->Bool}{held:Bool}{cs:List Value}{x:DataW H×List MemPlace}
  (h:DataW.trod enc aeb W base spare held n 59 cs=some x):
  ∃o:tq,cs=[.int .i64 o.kind,.int .i64 o.k,.int .i64 o.q,.int .i64 o.step,.int .i64 o.workers,.string o.ref,.string o.s]/\o.ref.size<=maxLen/\o.s.size<=maxLen:=by
 obtain⟨xs,m,_,_,hl,hxl,hf⟩:=DataW.trod_struct Tryz.underlying59 h;rw[Ny]at hl
 match cs,hl with
 |[c0,c1,c2,c3,c4,c5,c6],_=>
  have hx:=by omega
  match xs,hx with
  |[x0,x1,x2,x3,x4,x5,x6],_=>
   have f0:=by simpa[pZ]using hf 0 _ rfl
   have f1:=by simpa[pZ]using hf 1 _ rfl
   have f2:=by simpa[pZ]using hf 2 _ rfl
   have f3:=by simpa[pZ]using hf 3 _ rfl
   have f4:=by simpa[pZ]using hf 4 _ rfl
   have f5:=by simpa[xR]using hf 5 _ rfl
   have f6:=by simpa[xR]using hf 6 _ rfl
   obtain⟨a0,e0,_,_⟩:=aeU aeK f0;obtain⟨a1,e1,_,_⟩:=aeU aeK f1;obtain⟨a2,e2,_,_⟩:=aeU aeK f2;obtain⟨a3,e3,_,_⟩:=aeU aeK f3;obtain⟨a4,e4,_,_⟩:=aeU aeK f4;obtain⟨s5,e5,_,z5⟩:=afF afN f5;obtain⟨s6,e6,_,z6⟩:=afF afN f6;simp at e0 e1 e2 e3 e4 e5 e6;subst e0 e1 e2 e3 e4 e5 e6;exact⟨⟨a0,a1,a2,a3,a4,s5,s6⟩,rfl,z5,z6⟩
theorem abI{H:Type}{enc:TypeId×Value->H}{W:World}{spare:Nat->Bool}{held:Bool}{fuel:Nat}{a:Option Addr}{len cap:Nat}{x:DataW H×List MemPlace}
  (h:DataW.trod enc aeb W base spare held fuel 22 [.slice a len cap]=some x):∃os,Gi W a len cap os:=by
 rcases open_slice Tryz.underlying22 h with⟨Rm,_⟩|⟨ad,au1,GG,m,n,D,Pl,Rm,_,hl,hm,hmm,_,hel⟩
 ·simp at Rm;obtain⟨rfl,rfl,rfl⟩:=Rm;exact⟨fun _=>⟨0,0,0,0,0,aex,aex⟩,.inl rfl⟩
 ·simp at Rm;obtain⟨rfl,rfl,rfl⟩:=Rm;have hlm:len<=m:=by rw[hmm];split<;>omega
  have sc:∀i,i<len->∃o:tq,(∀j,j<7->W.cell? (ad.add (i *7+j))=[afh .i64 o.kind,.int .i64 o.k,.int .i64 o.q,.int .i64 o.step,.int .i64 o.workers,.string o.ref,.string o.s][j]?)/\o.ref.size<=maxLen/\o.s.size<=maxLen:=by
   intro i hi;obtain⟨cL,hc,ht⟩:=hel i (by omega);obtain⟨o,rfl,z1,z2⟩:=pf ht;rw[Ny]at hc;refine⟨o,fun j hj=>?_,z1,z2⟩;have:=(World.cells?_some hc).2.2 j hj
   rwa [add_add]at this
  by_cases h0:len=0
  ·exact⟨fun _=>⟨0,0,0,0,0,aex,aex⟩,.inl h0⟩
  ·obtain⟨b,off,sp⟩:=ad;have ZM:sp=none:=by
    obtain⟨o,hc,_⟩:=sc 0 (by omega);have h1:=hc 0 (by omega);have h2:=World.cell?_spot (show W.cell? _=some (afh .i64 o.kind) by simpa using h1);simpa[aeQ]using h2
   subst ZM;have KQ:∀j,(⟨b,off,none⟩:Addr).add j=⟨b,off+j,none⟩:=by
    intro j;unfold aeQ;split<;>simp_all
   refine⟨fun i=>if hi:i<len then(sc i hi).choose else⟨0,0,0,0,0,aex,aex⟩,.inr ⟨b,off,rfl,by omega,fun i hi=>?_,fun i hi=>?_⟩⟩
   ·simp only[hi,dif_pos];have hc:=(sc i hi).choose_spec.1;generalize(sc i hi).choose=o at hc⊢;have g:∀j,j<7->W.cell? ⟨b,off+i *7+j,none⟩=[afh .i64 o.kind,.int .i64 o.k,.int .i64 o.q,.int .i64 o.step,.int .i64 o.workers,.string o.ref,.string o.s][j]?:=by
     intro j hj;have:=hc j hj
     rwa [KQ,<-Nat.add_assoc]at this
    exact⟨g 0 (by omega),g 1 (by omega),g 2 (by omega),g 3 (by omega),g 4 (by omega),g 5 (by omega),g 6 (by omega)⟩
   ·simp only[hi,dif_pos];exact(sc i hi).choose_spec.2
end
namespace Ren
theorem vP{α:Type}:∀(x:Ask α) (w:World),w.drawn<=(w.ask x).2.drawn
 |.done a,w=>ady _
 |.ask _ _ k,w=>by
  unfold World.ask;dsimp only;split
  ·exact vP _ w
  ·exact adN (Nat.le_succ _) (vP _ {w with drawn:=w.drawn+1})
theorem Ps(w:World)(c:Sys):w.drawn<=(w.sys c).2.drawn:=by
 have:=vP (Kernel.perform c w.os) w;unfold World.sys;split
 ·simp
 ·simp_all
theorem yN{p:Program}{w1:World}{u:TypeId}{k:Addr}{v:Value}{a:Bool}(h:w.viewStore p at_ u k v a=.ok (w1,l)):w1.drawn=w.drawn:=by
 unfold afi at h;simp only[bind,aeM,aeW,throwThe,aeN]at h
 repeat' split at h
 all_goals first|(cases h;rfl)|(cases h)
theorem zU{p:Program}{w1:World}{v:Value}{at_:Bool}{l:List _}(h:w.farStore p a v at_=.ok (w1,l)):w1.drawn=w.drawn:=by
 unfold World.farStore at h;split at h
 ·split at h
  ·rename_i e;rw[Except.ok.inj h]at e;exact yN e
  ·cases h
 ·cases h
def _root_.Go.Result.world{α:Type}:Result α->World
 |.ok _ w=>w
 |.halt _ w=>w
theorem qG{α:Type}(s:Sem α):∀(w:World),w.drawn<=(s.run P w).world.drawn:=by
 induction s with
 |pure a=>exact fun w=>ady _
 |halt h=>exact fun w=>ady _
 |load m a k ih=>
  intro w;simp only[adJ]
  repeat' split
  all_goals first|exact ih _ _|exact ady _
 |store m a v k ih=>
  intro w;cases v<;>simp only[adJ]<;>(repeat' split)<;>first
   |exact ady _
   |exact ih (w.setCell a _)
   |(rename_i e;exact adN (Nat.le_of_eq (zU e).symm) (ih _))
 |new o k ih=>exact fun w=>ih _ {w with heap:=w.heap.push o}
 |shape r k ih=>exact fun w=>ih _ _
 |freeze a n k ih=>
  intro w;refine adN (Nat.le_of_eq ?_) (ih (w.freeze a n));unfold World.freeze;split<;>rfl
 |frozen a k ih=>exact fun w=>ih _ _
 |getObj r k ih=>
  intro w;simp only[adJ];split
  ·exact ady _
  ·exact ih _ _
  ·exact ady _
 |setObj r o k ih=>
  intro w;simp only[adJ];split
  ·exact ady _
  ·exact ih {w with heap:=w.heap.setIfInBounds r o}
  ·exact ady _
 |choose q k ih=>
  intro w;simp only[adJ];split
  ·exact ih _ _
  ·exact adN (Nat.le_succ _) (ih _ {w with drawn:=w.drawn+1})
 |sys c k ih=>exact fun w=>adN (Ps w c) (ih _ _)
 |program k ih=>exact fun w=>ih _ _
 |mark m k ih=>exact fun w=>ih _
class ak where
 size:Nat
 cV:FuncId->Prop
 code:Code->Prop
 methods:String->Prop
 WM:Nat->Prop
 wall:Array Oper->Prop
 ro:Nat->Prop
 qH:Nat->Nat->Prop
 rest:List Item->Prop
 pD:List Deferred->Prop
variable[ak]
structure Rn where
 f:Nat->Option Nat
 inj:∀b b' c,f b=some c->f b'=some c->b=b'
 fK:∀b c,f b=some c->(b<ak.size↔c<ak.size)
instance:CoeFun Rn (fun _=>Nat->Option Nat):=⟨Rn.f⟩
def Le(r s:Rn):=∀b c,r b=some c->s b=some c
theorem Le.refl(r:Rn):Le r r:=fun _ _ h=>h
theorem Le.trans{r s t:Rn}(h:Le r s)(k:Le s t):Le r t:=fun b c e=>k b c (h b c e)
structure Ad(r:Rn)(a a':Addr):Prop where
 block:r a.block=some a'.block
 off:a'.off=a.off
 spot:a'.spot=a.spot
theorem Ad.mono{r s:Rn}(h:Le r s)(k:Ad r a a'):Ad s a a':=⟨h _ _ k.block,k.off,k.spot⟩
def Hid:Value->Bool
 |.agg _|.pointer none|.nilIface|.nilFunc|.func .. |.bool _=>false
 |_=>true
inductive Pt(r:Rn):Fn->Fn->Prop
 |func {f:FuncId}:ak.cV f->Pt r (.func f) (.func f)
 |method {n:String}:ak.methods n->Pt r (.method n) (.method n)
 |yield {l l':Nat}:r l=some l'->Pt r (.yield l) (.yield l')
inductive Pu(r:Rn):Fn->Fn->Prop
 |func {f:FuncId}:ak.cV f->Pu r (.func f) (.func f)
 |yield {l l':Nat}:r l=some l'->Pu r (.yield l) (.yield l')
theorem Pu.mono{r s:Rn}(h:Le r s){f f':Fn}(k:Pu r f f'):Pu s f f':=by
 cases k with
 |func g=>exact .func g
 |yield e=>exact .yield (h _ _ e)
theorem Pu.toR{r:Rn}{f f':Fn}(k:Pu r f f'):Pt r f f':=by
 cases k with
 |func g=>exact .func g
 |yield e=>exact .yield e
theorem Pt.mono{r s:Rn}(h:Le r s){f f':Fn}(k:Pt r f f'):Pt s f f':=by
 cases k with
 |func g=>exact .func g
 |method g=>exact .method g
 |yield e=>exact .yield (h _ _ e)
inductive V(r:Rn):Value->Value->Prop
 |blank {y:Value}:Hid y=true->V r (.tuple #[]) y
 |bool (b:Bool):V r (.bool b) (.bool b)
 |int (k:IntKind) (n:Int):V r (.int k n) (.int k n)
 |string (s:ByteArray):V r (.string s) (.string s)
 |nilPtr:V r (.pointer none) (.pointer none)
 |ptr {a a':Addr}:Ad r a a'->V r (.pointer (some a)) (.pointer (some a'))
 |bt (l c:Nat):V r (.slice none l c) (.slice none l c)
 |slice {a a':Addr} (l c:Nat):Ad r a a'->V r (.slice (some a) l c) (.slice (some a') l c)
 |ik:V r (.map none) (.map none)
 |map {b b':Nat}:r b=some b'->V r (.map (some b)) (.map (some b'))
 |fW:V r (.chan none) (.chan none)
 |chan {b b':Nat}:r b=some b'->V r (.chan (some b)) (.chan (some b'))
 |func {fn mN:Fn} {f f' c c':Array Value}:Pu r fn mN->f.size=f'.size->(∀(i:Nat) x x',f[i]?=some x->f'[i]?=some x'->V r x x')->
   c.size=c'.size->(∀(i:Nat) x x',c[i]?=some x->c'[i]?=some x'->V r x x')->V r (.func fn f c) (.func mN f' c')
 |nilFunc:V r .nilFunc .nilFunc
 |iface (t:TypeId) {v v':Value}:V r v v'->V r (.iface t v) (.iface t v')
 |nilIface:V r .nilIface .nilIface
 |agg {c c':Array Value}:c.size=c'.size->(∀(i:Nat) x x',c[i]?=some x->c'[i]?=some x'->V r x x')->V r (.agg c) (.agg c')
 |tuple {c c':Array Value}:c.size=c'.size->(∀(i:Nat) x x',c[i]?=some x->c'[i]?=some x'->V r x x')->V r (.tuple c) (.tuple c')
theorem V.mono{r s:Rn}(h:Le r s)(k:V r x y):V s x y:=by
 induction k with
 |blank h=>exact .blank h
 |bool b=>exact .bool b
 |int k n=>exact .int k n
 |string s=>exact .string s
 |nilPtr=>exact .nilPtr
 |ptr a=>exact .ptr (a.mono h)
 |bt l c=>exact .bt l c
 |slice l c a=>exact .slice l c (a.mono h)
 |ik=>exact .ik
 |map e=>exact .map (h _ _ e)
 |fW=>exact .fW
 |chan e=>exact .chan (h _ _ e)
 |func n s1 _ s2 _ i1 i2=>exact .func (n.mono h) s1 i1 s2 i2
 |nilFunc=>exact .nilFunc
 |iface t _ i=>exact .iface t i
 |nilIface=>exact .nilIface
 |agg s _ i=>exact .agg s i
 |tuple s _ i=>exact .tuple s i
structure VA(r:Rn)(c c':Array Value):Prop where
 size:c.size=c'.size
 at_:∀(i:Nat) x x',c[i]?=some x->c'[i]?=some x'->V r x x'
structure En(r:Rn)(e e':MapEntry):Prop where
 key:V r e.key e'.key
 val:V r e.val e'.val
 born:e'.born=e.born
inductive Tg(r:Rn):Target->Target->Prop
 |fn {f f':Fn} {c c':Array Value}:Pt r f f'->VA r c c'->Tg r (.fn f c) (.fn f' c')
 |nil:Tg r .nil .nil
 |collected {b b':Nat}:r b=some b'->Tg r (.collected b) (.collected b')
structure Df(r:Rn)(d d':Deferred):Prop where
 target:Tg r d.target d'.target
 args:VA r d.args d'.args
inductive DL(r:Rn):List Deferred->List Deferred->Prop
 |nil:DL r [] []
 |cons {d d':Deferred} {l l':List Deferred}:Df r d d'->DL r l l'->DL r (d::l) (d'::l')
structure Lp(r:Rn)(l l':Loop):Prop where
 state:l'.state=l.state
 pending:l'.pending=l.pending
 fn:l'.fn=l.fn
 params:l'.params=l.params
 assign:l'.assign=l.assign
 body:l'.body=l.body
 tmps:VA r l.tmps l'.tmps
 defers:r l.defers=some l'.defers
 cp:∀c,l.pending=some c->ak.code c
 ca:ak.code l.assign
 cb:ak.code l.body
inductive DO(r:Rn):Option (List Deferred)->Option (List Deferred)->Prop
 |none:DO r none none
 |some {l l':List Deferred}:DL r l l'->DO r (some l) (some l')
inductive O(r:Rn):Obj->Obj->Prop
 |loop {l l':Loop}:Lp r l l'->O r (.loop l) (.loop l')
 |view {a a':Addr} (t:TypeId):¬ak.ro a.block->Ad r a a'->O r (.view a t) (.view a' t)
 |number {a a':Addr} (l:Bool):Ad r a a'->O r (.number a l) (.number a' l)
 |deferred {d d':Option (List Deferred)}:DO r d d'->O r (.deferred d) (.deferred d')
 |cells {c c':Array Value} (e:TypeId) (fz:Nat×Nat):VA r c c'->O r (.cells c e fz) (.cells c' e fz)
 |map {es kA:Array MapEntry} (clock:Nat):es.size=kA.size->(∀(i:Nat) x x',es[i]?=some x->kA[i]?=some x'->En r x x')->O r (.map es clock) (.map kA clock)
 |stringIter (s:ByteArray) (p:Nat):O r (.stringIter s p) (.stringIter s p)
 |c9 (a:Nat) (s:Array Nat) (n:Nat):O r (.mapIter none a s n) (.mapIter none a s n)
 |mapIter {b b':Nat} (a:Nat) (s:Array Nat) (n:Nat):r b=some b'->O r (.mapIter (some b) a s n) (.mapIter (some b') a s n)
theorem VA.mono{r s:Rn}(h:Le r s){c c':Array _}(k:VA r c c'):VA s c c':=⟨k.size,fun i x x' e e'=>(k.at_ i x x' e e').mono h⟩
theorem En.mono{r s:Rn}(h:Le r s){e e':MapEntry}(k:En r e e'):En s e e':=⟨k.key.mono h,k.val.mono h,k.born⟩
theorem Tg.mono{r s:Rn}(h:Le r s){t t':Target}(k:Tg r t t'):Tg s t t':=by
 cases k with
 |fn f c=>exact .fn (f.mono h) (c.mono h)
 |nil=>exact .nil
 |collected e=>exact .collected (h _ _ e)
theorem Df.mono{r s:Rn}(h:Le r s)(k:Df r d d'):Df s d d':=⟨k.target.mono h,k.args.mono h⟩
theorem DL.mono{r s:Rn}(h:Le r s){d d':List _}(k:DL r d d'):DL s d d':=by
 induction k with
 |nil=>exact .nil
 |cons x _ ih=>exact .cons (x.mono h) ih
theorem DO.mono{r s:Rn}(h:Le r s){d d':Option _}(k:DO r d d'):DO s d d':=by
 cases k with
 |none=>exact .none
 |some x=>exact .some (x.mono h)
theorem Lp.mono{r s:Rn}(h:Le r s){l l':Loop}(k:Lp r l l'):Lp s l l':=⟨k.state,k.pending,k.fn,k.params,k.assign,k.body,k.tmps.mono h,h _ _ k.defers,k.cp,k.ca,k.cb⟩
theorem O.mono{r s:Rn}(h:Le r s)(k:O r o o'):O s o o':=by
 cases k with
 |loop l=>exact .loop (l.mono h)
 |view t n a=>exact .view t n (a.mono h)
 |number l a=>exact .number l (a.mono h)
 |deferred d=>exact .deferred (d.mono h)
 |cells e fz a=>exact .cells e fz (a.mono h)
 |map cl hs hi=>exact .map cl hs fun i x x' e e'=>(hi i x x' e e').mono h
 |stringIter s p=>exact .stringIter s p
 |c9 a s n=>exact .c9 a s n
 |mapIter a s n e=>exact .mapIter a s n (h _ _ e)
inductive OB(r:Rn)(b:Nat):Obj->Obj->Prop
 |same {o o':Obj}:¬ak.ro b->O r o o'->OB r b o o'
 |ro {c c':Array Value} (e:TypeId):ak.ro b->VA r c c'->(∀i,ak.qH b i->c[i]?=some (.tuple #[]))->OB r b (.cells c e (0,c.size)) (.cells c' e)
theorem OB.mono{r s:Rn}(h:Le r s)(k:OB r b o o'):OB s b o o':=by
 cases k with
 |same n o=>exact .same n (o.mono h)
 |ro e n a hb=>exact .ro e n (a.mono h) hb
structure W(r:Rn)(c:Nat)(v w:World):Prop where
 obj:∀b b',r b=some b'->∃o o',v.heap[b]?=some o/\w.heap[b']?=some o'/\OB r b o o'
 gv:ak.size<=v.heap.size
 gw:ak.size<=w.heap.size
 old:∀b,ak.ro b->b<v.heap.size
 tape:∀i q,i<c->v.tape (v.drawn+i) q=w.tape (w.drawn+i) q
 env:w.os.env=v.os.env
inductive Hl(r:Rn):Halt->Halt->Prop
 |panic {v v':Value}:V r v v'->Hl r (.panic v) (.panic v')
def EC:Unsupported->Bool
 |.initOrder _=>true
 |_=>false
def zV(h:Halt):=(∃u,h=.unsupported u/\EC u=false)\/∃y,h=.stuck y
inductive SR(P:Program){α:Type}(A:Rn->α->α->Prop):Rn->Sem α->Sem α->Prop
 |pure {r:Rn} {a a':α}:A r a a'->SR P A r (.pure a) (.pure a')
 |load {r:Rn} {a a':Addr} {k k':Value->Sem α}:Ad r a a'->(∀s v v',Le r s->V s v v'->SR P A s (k v) (k' v'))->SR P A r (.load .plain a k) (.load .plain a' k')
 |store {r:Rn} {a a':Addr} {v v':Value} {k k':Sem α}:Ad r a a'->V r v v'->(∀s,Le r s->SR P A s k k')->SR P A r (.store .plain a v k) (.store .plain a' v' k')
 |new {r:Rn} {o o':Obj} {k k':Nat->Sem α}:O r o o'->(∀s b b',Le r s->s b=some b'->SR P A s (k b) (k' b'))->SR P A r (.new o k) (.new o' k')
 |shape {r:Rn} {b b':Nat} {k k':Option (TypeId×Nat)->Sem α}:r b=some b'->(∀s x,Le r s->SR P A s (k x) (k' x))->SR P A r (.shape b k) (.shape b' k')
 |freeze {r:Rn} {a a':Addr} (n:Nat) {k k':Sem α}:(∀b,¬ak.ro b)->Ad r a a'->(∀s,Le r s->SR P A s k k')->SR P A r (.freeze a n k) (.freeze a' n k')
 |frozen {r:Rn} {a a':Addr} {k k':Bool->Sem α}:(∀b,¬ak.ro b)->Ad r a a'->(∀s x,Le r s->SR P A s (k x) (k' x))->SR P A r (.frozen a k) (.frozen a' k')
 |getObj {r:Rn} {b b':Nat} {k k':Obj->Sem α}:r b=some b'->(∀s o o',Le r s->O s o o'->SR P A s (k o) (k' o'))->SR P A r (.getObj b k) (.getObj b' k')
 |setObj {r:Rn} {b b':Nat} {o o':Obj} {k k':Sem α}:r b=some b'->O r o o'->(∀s,Le r s->SR P A s k k')->SR P A r (.setObj b o k) (.setObj b' o' k')
 |choose {r:Rn} (q:Question) {k k':Nat->Sem α}:(∀s n,Le r s->SR P A s (k n) (k' n))->SR P A r (.choose q k) (.choose q k')
 |env {r:Rn} {k k':SysRet->Sem α}:(∀s x,Le r s->SR P A s (k x) (k' x))->SR P A r (.sys .env k) (.sys .env k')
 |program {r:Rn} {k k':Program->Sem α}:(∀s,Le r s->SR P A s (k P) (k' P))->SR P A r (.program k) (.program k')
 |mark {r:Rn} (m:Mark) {k k':Sem α}:(m=.noRoom\/∃f,m=.extern f)->(∀s,Le r s->SR P A s k k')->SR P A r (.mark m k) (.mark m k')
 |halt {r:Rn} {h h':Halt}:Hl r h h'->SR P A r (.halt h) (.halt h')
 |lost {r:Rn} {s s':Sem α}:(∀v,∃h v1,s.run P v=.halt h v1/\zV h)->SR P A r s s'
theorem SR.bind{α β:Type}{A:Rn->α->α->Prop}{B:Rn->β->β->Prop}{r:Rn}{s s':Sem α}{f f':α->Sem β}(h:SR P A r s s')
  (k:∀t a a',Le r t->A t a a'->SR P B t (f a) (f' a')):SR P B r (s.bind f) (s'.bind f'):=by
 induction h with
 |pure a=>exact k _ _ _ (.refl _) a
 |load a _ ih=>exact .load a fun t v v' l e=>ih t v v' l e fun u a a' lu=>k u a a' (l.trans lu)
 |store a v _ ih=>exact .store a v fun t l=>ih t l fun u a a' lu=>k u a a' (l.trans lu)
 |new o _ ih=>exact .new o fun t b b' l e=>ih t b b' l e fun u a a' lu=>k u a a' (l.trans lu)
 |shape e _ ih=>exact .shape e fun t x l=>ih t x l fun u a a' lu=>k u a a' (l.trans lu)
 |freeze n z a _ ih=>exact .freeze n z a fun t l=>ih t l fun u a a' lu=>k u a a' (l.trans lu)
 |frozen z a _ ih=>exact .frozen z a fun t x l=>ih t x l fun u a a' lu=>k u a a' (l.trans lu)
 |getObj e _ ih=>exact .getObj e fun t o o' l e=>ih t o o' l e fun u a a' lu=>k u a a' (l.trans lu)
 |setObj e o _ ih=>exact .setObj e o fun t l=>ih t l fun u a a' lu=>k u a a' (l.trans lu)
 |choose q _ ih=>exact .choose q fun t n l=>ih t n l fun u a a' lu=>k u a a' (l.trans lu)
 |env _ ih=>exact .env fun t x l=>ih t x l fun u a a' lu=>k u a a' (l.trans lu)
 |program _ ih=>exact .program fun t l=>ih t l fun u a a' lu=>k u a a' (l.trans lu)
 |mark m hm _ ih=>exact .mark m hm fun t l=>ih t l fun u a a' lu=>k u a a' (l.trans lu)
 |halt h=>exact .halt h
 |lost h=>
  refine .lost fun v=>?_;obtain⟨x,v1,e,hl⟩:=h v;refine⟨x,v1,?_,hl⟩;rw[adT,e];rfl
theorem SR.imp{α:Type}{A B:Rn->α->α->Prop}{r:Rn}{s s':Sem α}(h:SR P A r s s')(k:∀t a a',Le r t->A t a a'->B t a a'):SR P B r s s':=by
 induction h with
 |pure a=>exact .pure (k _ _ _ (.refl _) a)
 |load a _ ih=>exact .load a fun t v v' l e=>ih t v v' l e fun u a a' lu=>k u a a' (l.trans lu)
 |store a v _ ih=>exact .store a v fun t l=>ih t l fun u a a' lu=>k u a a' (l.trans lu)
 |new o _ ih=>exact .new o fun t b b' l e=>ih t b b' l e fun u a a' lu=>k u a a' (l.trans lu)
 |shape e _ ih=>exact .shape e fun t x l=>ih t x l fun u a a' lu=>k u a a' (l.trans lu)
 |freeze n z a _ ih=>exact .freeze n z a fun t l=>ih t l fun u a a' lu=>k u a a' (l.trans lu)
 |frozen z a _ ih=>exact .frozen z a fun t x l=>ih t x l fun u a a' lu=>k u a a' (l.trans lu)
 |getObj e _ ih=>exact .getObj e fun t o o' l e=>ih t o o' l e fun u a a' lu=>k u a a' (l.trans lu)
 |setObj e o _ ih=>exact .setObj e o fun t l=>ih t l fun u a a' lu=>k u a a' (l.trans lu)
 |choose q _ ih=>exact .choose q fun t n l=>ih t n l fun u a a' lu=>k u a a' (l.trans lu)
 |env _ ih=>exact .env fun t x l=>ih t x l fun u a a' lu=>k u a a' (l.trans lu)
 |program _ ih=>exact .program fun t l=>ih t l fun u a a' lu=>k u a a' (l.trans lu)
 |mark m hm _ ih=>exact .mark m hm fun t l=>ih t l fun u a a' lu=>k u a a' (l.trans lu)
 |halt h=>exact .halt h
 |lost h=>exact .lost h
section abJ
variable{r:Rn}{c:Nat}{v w:World}
theorem W.lt(h:W r c v w)(e:r b=some b'):b<v.heap.size/\b'<w.heap.size:=by
 obtain⟨o,o',h1,h2,_⟩:=h.obj b b' e;exact⟨(adK.1 h1).1,(adK.1 h2).1⟩
structure Out(r r1:Rn)(c c1:Nat)(v w v1 w1:World):Prop where
 drew:v1.drawn+c1=v.drawn+c
 CV:w1.drawn+c1=w.drawn+c
 later:v.drawn<=v1.drawn
 le:Le r r1
 wl:W r1 c1 v1 w1
 grow:w.heap.size<=w1.heap.size
 Sm:v.heap.size<=v1.heap.size
 kept:∀a,a<w.heap.size->(∀b,r b=some a->ak.ro b)->w1.heap[a]?=w.heap[a]?
 fresh:∀b a,r1 b=some a->r b=some a\/(w.heap.size<=a/\v.heap.size<=b)
 range:∀a,w.heap.size<=a->a<w1.heap.size->∃b,r1 b=some a
 tape:w1.tape=w.tape
 Sn:v1.tape=v.tape
 os:w1.os=w.os
 output:w1.output=w.output
 vos:v1.os=v.os
 Nz:v1.output=v.output
theorem Out.refl(h:W r c v w):Out r r c c v w v w:=⟨rfl,rfl,ady _,.refl _,h,ady _,ady _,fun _ _ _=>rfl,fun _ _ e=>.inl e,fun a h1 h2=>absurd h2 (by omega),rfl,rfl,rfl,rfl,rfl,rfl⟩
theorem Out.trans{r1 r2:Rn}{c1 c2:Nat}{v1 w1 v2 w2:World}(h:Out r r1 c c1 v w v1 w1)(k:Out r1 r2 c1 c2 v1 w1 v2 w2):Out r r2 c c2 v w v2 w2:=by
 refine⟨k.drew.trans h.drew,k.CV.trans h.CV,adN h.later k.later,h.le.trans k.le,k.wl,adN h.grow k.grow,adN h.Sm k.Sm,fun a ha hr=>?_,fun b a e=>?_,fun a h1 h2=>?_,k.tape.trans h.tape,k.Sn.trans h.Sn,k.os.trans h.os,k.output.trans h.output,k.vos.trans h.vos,k.Nz.trans h.Nz⟩
 ·rw[k.kept a (aef ha h.grow) fun b e=>?_]
  ·exact h.kept a ha hr
  ·rcases h.fresh b a e with e'|⟨e',_⟩
   ·simp_all
   ·omega
 ·rcases k.fresh b a e with e'|⟨e',e''⟩
  ·exact h.fresh b a e'
  ·exact .inr ⟨adN h.grow e',adN h.Sm e''⟩
 ·by_cases ha:a<w1.heap.size
  ·obtain⟨b,e⟩:=h.range a h1 ha;exact⟨b,k.le _ _ e⟩
  ·exact k.range a (by omega) h2
theorem Out.set(h:W r c v w)(e:r b=some b')(fL:¬ak.ro b)(ho:O r o o'):
  Out r r c c v w {v with heap:=v.heap.setIfInBounds b o} {w with heap:=w.heap.setIfInBounds b' o'}:=by
 have hl:=h.lt e;refine⟨rfl,rfl,ady _,.refl _,⟨fun x x' ec=>?_,by simpa using h.gv,by simpa using h.gw,by simpa using h.old,h.tape,h.env⟩,by simp,by simp,fun a ha hr=>?_,fun _ _ x=>.inl x,fun a h1 h2=>absurd h2 (by simp;omega),rfl,rfl,rfl,rfl,rfl,rfl⟩
 ·by_cases hcb:x=b
  ·subst hcb;obtain rfl:x'=b':=adC (ec.symm.trans e);exact⟨o,o',by simp_all,by simp_all,.same fL ho⟩
  ·have am5:x'≠b':=fun y=>hcb (r.inj _ _ _ ec (y▸e));obtain⟨p,p',h1,h2,h3⟩:=h.obj x x' ec;exact⟨p,p',by simp[Ne.symm hcb,h1],by simp[Ne.symm am5,h2],h3⟩
 ·have:a≠b':=fun x=>fL (hr b (x▸e));simp[Ne.symm this]
def ext(r:Rn)(b a:Nat)(ha:∀x,r x≠some a)(hb:ak.size<=b)(ha':ak.size<=a):Rn where
 f:=fun x=>if x=b then some a else r x
 fK:=fun x y h=>by
  by_cases h1:x=b
  ·simp only[h1,if_true,afd]at h;omega
  ·simp only[h1,if_false]at h;exact r.fK x y h
 inj:=fun x y z hx hy=>by
  by_cases h1:x=b<;>by_cases h2:y=b
  ·omega
  ·simp only[h1,if_true,afd]at hx;simp only[h2,if_false]at hy;exact absurd (hx▸hy) (ha y)
  ·simp only[h2,if_true,afd]at hy;simp only[h1,if_false]at hx;exact absurd (hy▸hx) (ha x)
  ·simp only[h1,h2,if_false]at hx hy;exact r.inj _ _ _ hx hy
theorem W.past(h:W r c v w):∀x,r x≠some w.heap.size:=fun x e=>by have:=(h.lt e).2;omega
theorem Out.new(h:W r c v w){o o':Obj}(ho:O r o o'):
  Out r (ext r _ _ h.past h.gv h.gw) c c v w {v with heap:=v.heap.push o} {w with heap:=w.heap.push o'}:=by
 have le:Le r (ext r v.heap.size w.heap.size h.past h.gv h.gw):=fun b a e=>by
  have:=(h.lt e).1;show(if b=v.heap.size then some _ else r b)=some a
  rw[if_neg (by omega)];exact e
 have old:∀b a,ext r v.heap.size w.heap.size h.past h.gv h.gw b=some a->r b=some a\/(b=v.heap.size/\a=w.heap.size):=fun b a e=>by
  have e:(if b=v.heap.size then some _ else r b)=some a:=e;split at e
  ·simp_all
  simp_all
 refine⟨rfl,rfl,ady _,le,⟨fun b b' e=>?_,by have:=h.gv;simp;omega,by have:=h.gw;simp;omega,fun b hb=>by have:=h.old b hb;simp;omega,h.tape,h.env⟩,by simp,by simp,fun a ha hr=>?_,fun b a e=>?_,fun a h1 h2=>⟨v.heap.size,?_⟩,rfl,rfl,rfl,rfl,rfl,rfl⟩
 ·rcases old _ _ e with x|⟨x1,x2⟩
  ·obtain⟨p,p',h1,h2,h3⟩:=h.obj b b' x;have:=h.lt x;exact⟨p,p',by simp only[aew];rw[if_neg (by omega)];exact h1,by simp only[aew];rw[if_neg (by omega)];exact h2,h3.mono le⟩
  ·subst x1;subst x2;exact⟨o,o',by simp,by simp,.same (fun hr=>by have:=h.old _ hr;omega) (ho.mono le)⟩
 ·simp only[aew];rw[if_neg (by omega)]
 ·rcases old _ _ e with x|⟨x1,x2⟩
  ·exact .inl x
  ·omega
 ·simp at h2;show(if v.heap.size=v.heap.size then some _ else r _)=some a
  rw[if_pos rfl];congr 1;omega
theorem Out.draw(h:W r (c+1) v w):Out r r (c+1) c v w {v with drawn:=v.drawn+1} {w with drawn:=w.drawn+1}:=
 ⟨by simp;omega,by simp;omega,by simp,.refl _,⟨h.obj,h.gv,h.gw,h.old,fun i q hi=>by have:=h.tape (1+i) q (by omega);simpa[Nat.add_assoc]using this,h.env⟩,ady _,ady _,fun _ _ _=>rfl,fun _ _ e=>.inl e,fun a h1 h2=>absurd h2 (by simp;omega),rfl,rfl,rfl,rfl,rfl,rfl⟩
end abJ
section runs
variable{r:Rn}{c:Nat}{v w:World}
omit [ak]in
theorem modify_eq{f:Obj->Obj}(e:h[b]?=some o):h.modify b f=h.setIfInBounds b (f o):=by
 obtain⟨aV,he⟩:=adK.1 e;refine Array.ext (by simp) fun i h1 h2=>?_;rw[Array.getElem_modify];by_cases hb:b=i
 ·simp_all
 ·rw[if_neg hb,Array.getElem_setIfInBounds,if_neg hb]
theorem VA.get{c c':Array _}(h:VA r c c')(e:c[i]?=some x):∃x',c'[i]?=some x'/\V r x x':=by
 obtain⟨aV,_⟩:=adK.1 e;have WN:=h.size▸aV;exact⟨c'[i],by simp,h.at_ i x _ e (by simp)⟩
theorem VA.none{c c':Array _}(h:VA r c c')(e:c[i]?=none):c'[i]?=none:=by
 simp at e⊢;have:=h.size;omega
theorem VA.set{c c':Array _}(h:VA r c c')(i:Nat)(hx:V r x x'):VA r (c.setIfInBounds i x) (c'.setIfInBounds i x'):=by
 refine⟨by simp[h.size],fun j y y' e e'=>?_⟩;simp[Array.getElem?_setIfInBounds]at e e';by_cases Ro:i=j
 ·simp_all
 ·rw[if_neg Ro]at e e';exact h.at_ j y y' e e'
theorem W.cell(h:W r c v w)(ha:Ad r a a')(e:v.cell? a=some x):∃x',w.cell? a'=some x'/\V r x x':=by
 obtain⟨o,o',h1,h2,h3⟩:=h.obj _ _ ha.block;simp[ae2,h1]at e;simp[ae2,h2];have cells:∀{cs cL:Array _},VA r cs cL->(if a.spot.isSome=true then none else cs[a.off]?)=some x->∃x',(if a'.spot.isSome=true then none else cL[a'.off]?)=some x'/\V r x x':=by
  intro cs cL hv e;rw[ha.spot,ha.off];split at e
  ·cases e
  ·rename_i hs;rw[if_neg hs];exact hv.get e
 cases h3 with
 |ro e0 n hv hb=>exact cells hv e
 |same n h3=>
  cases h3 with
  |cells e0 fz hv=>exact cells hv e
  |_=>cases e
theorem W.noCell(h:W r c v w)(ha:Ad r a a')(e:v.cell? a=none):w.cell? a'=none:=by
 obtain⟨o,o',h1,h2,h3⟩:=h.obj _ _ ha.block;simp[ae2,h1]at e;simp[ae2,h2];have cells:∀{cs cL:Array _},VA r cs cL->(if a.spot.isSome=true then none else cs[a.off]?)=none->(if a'.spot.isSome=true then none else cL[a'.off]?)=none:=by
  intro cs cL hv e;rw[ha.spot,ha.off];split at e
  ·simp_all
  ·rename_i hs;rw[if_neg hs];exact hv.none e
 cases h3 with
 |ro e0 n hv hb=>exact cells hv e
 |same n h3=>
  cases h3 with
  |cells e0 fz hv=>exact cells hv e
  |_=>rfl
theorem W.frozen(h:W r c v w){a a':Addr}(ha:Ad r a a')(hn:¬ak.ro a.block):w.frozen? a'=v.frozen? a:=by
 obtain⟨o,o',h1,h2,h3⟩:=h.obj _ _ ha.block;simp[World.frozen?,h1,h2];cases h3 with
 |ro e0 n hv hb=>exact absurd n hn
 |same n h3=>cases h3<;>simp[ha.off]
theorem W.Sp(h:W r c v w)(ha:Ad r a a')(hn:ak.ro a.block)(e:v.cell? a=some x):v.frozen? a=true:=by
 obtain⟨o,o',h1,h2,h3⟩:=h.obj _ _ ha.block;simp[ae2,h1]at e;simp[World.frozen?,h1];cases h3 with
 |ro e0 n hv hb=>
  simp only at e⊢;split at e
  ·cases e
  ·have:=(adK.1 e).1;simp[this]
 |same n h3=>exact absurd hn n
theorem W.shape(h:W r c v w){b b':Nat}(e:r b=some b'):w.shape? b'=v.shape? b:=by
 obtain⟨o,o',h1,h2,h3⟩:=h.obj _ _ e;simp[World.shape?,h1,h2];cases h3 with
 |ro e0 n hv hb=>simp[hv.size]
 |same n h3=>
  cases h3 with
  |cells e0 fz hv=>simp[hv.size]
  |_=>rfl
theorem CW(h:V r x x'){bs:List _}(e:x.bytes?=some bs):x'=x:=by
 cases h<;>first|rfl|(simp[Value.bytes?]at e)
theorem rB(p:Program)(h:VA r cs cL)(e:TypeId):∀(f x stop:Nat) {l:List (Nat×Nat×List UInt8)},seenCells p cs e f x stop=.ok l->seenCells p cL e f x stop=.ok l
 |0,_,_,_,h'=>by simp[seenCells]at h'
 |f+1,x,stop,l,h'=>by
  unfold seenCells at h'⊢;split at h'
  ·simp_all
  ·rename_i hs;rw[if_neg hs];simp only at h'⊢;split at h'
   ·cases h'
   ·rename_i hw;rw[if_neg hw];split at h'
    ·omega
    ·rename_i i s hi;split at h'
     ·cases h'
     ·rename_i v hv;obtain⟨v',hv',hvv⟩:=h.get hv;rw[hv'];simp only;split at h'
      ·cases h'
      ·cases h'
      ·rename_i bs n hb;rw[CW hvv hb,hb];simp only;cases hq:seenCells p cs e f _ stop with
       |error y=>rw[hq]at h';cases h'
       |ok l'=>
        rw[hq]at h';rw[rB p h e f _ _ hq];exact h'
theorem GH(h:W r c v w)(P:Program){abK k k':Addr}(ha:Ad r at_ abK)(ho:k'.off=k.off)(hs:k'.spot=k.spot)(fL:¬ak.ro at_.block)(u:TypeId)
  {fz:Nat×Nat}{first:Nat}{l:List (Nat×Nat×List UInt8)}(hv:v.seen P at_ u k false=.ok (cs,e,fz,first,like,l)):
  ∃cL,w.seen P abK u k' false=.ok (cL,e,fz,first,like,l)/\VA r cs cL/\v.heap[at_.block]?=some (.cells cs e fz)/\w.heap[abK.block]?=some (.cells cL e fz)/\∃d,plainCell P d u k.off=some like:=by
 unfold World.seen at hv⊢;rw[ho,hs,ha.off,ha.spot];simp only[bind,aeM,pure,ae3,aeW,throwThe,aeN,aem,if_false]at hv⊢;cases h0:(k.spot.isSome||at_.spot.isSome)with
 |true=>rw[h0]at hv;simp at hv
 |false=>
  rw[h0]at hv;simp only[aem,if_false]at hv⊢;cases h1:plainCell P P.depth u k.off with
  |none=>rw[h1]at hv;simp at hv
  |some af9=>
   rw[h1]at hv;simp only at hv⊢;cases h2:af9.bytes?.map (·.length)with
   |none=>rw[h2]at hv;simp at hv
   |some size=>
    rw[h2]at hv;cases h3:byteOfCell P P.depth u k.off with
    |none=>rw[h3]at hv;simp at hv
    |some β=>
     rw[h3]at hv;obtain⟨o,o',q1,q2,q3⟩:=h.obj _ _ ha.block;rw[q1]at hv;rw[q2];cases q3 with
     |ro e0 n _ _=>exact absurd n fL
     |same n q3=>
      cases q3 with
      |cells e0 fz0 Pv=>
       rename_i d d';by_cases h4:P.cellsOf e0=0
       ·simp[h4]at hv
       ·simp only[h4,if_false]at hv⊢;cases h5:byteOfCell P P.depth e0 _ with
        |none=>rw[h5]at hv;simp at hv
        |some b0=>
         rw[h5]at hv;simp only at hv⊢;cases h6:seenCells P d e0 (size+1) _ _ with
         |error y=>rw[h6]at hv;simp at hv
         |ok l0=>
          rw[h6]at hv;rw[rB P Pv e0 _ _ _ h6];simp only[afj,Prod.mk.injEq]at hv⊢;obtain⟨rfl,rfl,rfl,rfl,rfl,rfl⟩:=hv;exact⟨_,⟨rfl,rfl,rfl,rfl,rfl,rfl⟩,Pv,q1,rfl,_,h1⟩
      |_=>simp at hv
def WO(P:Program):=∀d u k x,plainCell P d u k=some x->(∃b,x=.bool b)\/∃k n,x=.int k n
theorem W.farLoad(h:W r c v w)(NF:WO P)(ha:Ad r a a'):
  (∃x,v.farLoad P a false=.error x/\zV x)\/∃x l l',v.farLoad P a false=.ok (x,l)/\w.farLoad P a' false=.ok (x,l')/\V r x x/\∀y∈l',∃b,r b=some y.block:=by
 obtain⟨o,o',h1,h2,h3⟩:=h.obj _ _ ha.block;simp only[World.farLoad,World.noCell,h1,h2];cases h3 with
 |ro e0 n hv hb=>exact .inl ⟨_,rfl,.inr ⟨_,rfl⟩⟩
 |same n h3=>
  cases h3 with
  |view t n at_=>
   rename_i b b';simp only;cases hl:v.viewLoad P b t a _ with
   |error y=>exact .inl ⟨_,rfl,.inl ⟨_,rfl,rfl⟩⟩
   |ok q=>
    unfold World.viewLoad at hl;simp only[bind,aeM]at hl;cases hs:v.seen P b t a _ with
    |error y=>rw[hs]at hl;simp at hl
    |ok q=>
     obtain⟨cs,e,fz,first,like,ls⟩:=q;rw[hs]at hl;simp only at hl;obtain⟨cL,q1,q2,q3,q4,dp,BL⟩:=GH h P at_ ha.off ha.spot n t hs;cases hb:like.ofBytes _ with
     |none=>rw[hb]at hl;simp at hl
     |some y=>
      rw[hb]at hl;obtain⟨rfl,rfl⟩:=hl;refine .inr ⟨y,_,ls.map fun x=>{block:=b'.block,off:=x.1},rfl,?_,?_,?_⟩
      ·unfold World.viewLoad;simp only[bind,aeM,pure,ae3,q1,hb]
      ·rcases NF _ _ _ _ BL with⟨b,rfl⟩|⟨k,n,rfl⟩<;>simp only[afp]at hb<;>(split at hb<;>first|(rw[<-adC hb];constructor)|cases hb)
      ·intro y hy;obtain⟨z,_,rfl⟩:=List.mem_map.1 hy;exact⟨_,at_.block⟩
  |_=>exact .inl ⟨_,rfl,.inr ⟨_,rfl⟩⟩
theorem CX{X:Type}{f:Array _->X->Except String _}(hf:∀cs cL x c1,VA r cs cL->f cs x=.ok c1->∃ZN,f cL x=.ok ZN/\VA r c1 ZN):∀(l:List X) {cs cL c1:Array _},VA r cs cL->l.foldlM f cs=.ok c1->∃ZN,l.foldlM f cL=.ok ZN/\VA r c1 ZN
 |[],cs,cL,c1,h,hv=>by
  simp[List.foldlM_nil,pure,ae3,afj]at hv⊢;simp_all
 |x::l,cs,cL,c1,h,hv=>by
  simp[List.foldlM_cons,bind,aeM]at hv⊢;cases h1:f cs x with
  |error y=>rw[h1]at hv;simp at hv
  |ok c2=>
   obtain⟨c2',e,h2⟩:=hf _ _ _ _ h h1;rw[h1]at hv;rw[e];exact CX hf l h2 hv
theorem W.farStore(h:W r c v w)(P:Program)(ha:Ad r a a')(hx:V r x x'):
  (∃y,v.farStore P a x false=.error y/\zV y)\/∃b b' o o' l l',¬ak.ro b/\r b=some b'/\O r o o'/\v.farStore P a x false=.ok ({v with heap:=v.heap.setIfInBounds b o},l)/\w.farStore P a' x' false=.ok ({w with heap:=w.heap.setIfInBounds b' o'},l')/\∀y∈l',y.block=b':=by
 obtain⟨o,o',h1,h2,h3⟩:=h.obj _ _ ha.block;simp only[World.farStore,World.noCell,h1,h2];cases h3 with
 |ro e0 n hv hb=>exact .inl ⟨_,rfl,.inr ⟨_,rfl⟩⟩
 |same n h3=>
  cases h3 with
  |view t n at_=>
   rename_i b b';simp only;cases hl:v.viewStore P b t a x false with
   |error y=>exact .inl ⟨_,rfl,.inl ⟨_,rfl,rfl⟩⟩
   |ok q=>
    obtain⟨v1,l⟩:=q;unfold afi at hl;simp only[bind,aeM,pure,ae3,aeW,throwThe,aeN]at hl;cases ht:tight P P.depth t with
    |false=>rw[ht]at hl;simp at hl
    |true=>
     rw[ht]at hl;simp only[afq,aem,if_false]at hl;cases hs:v.seen P b t a false with
     |error y=>rw[hs]at hl;simp at hl
     |ok q=>
      obtain⟨cs,e,fz,first,like,ls⟩:=q;rw[hs]at hl;simp only at hl;obtain⟨cL,q1,q2,q3,q4,dp,BL⟩:=GH h P at_ ha.off ha.spot n t hs;cases hb:x.bytes? with
      |none=>rw[hb]at hl;simp at hl
      |some bytes=>
       have ex:=CW hx hb;subst ex;rw[hb]at hl;simp only at hl;by_cases hn:some bytes.length≠like.bytes?.map (·.length)
       ·rw[if_pos hn]at hl;simp at hl
       ·rw[if_neg hn]at hl;split at hl
        ·cases hl
        ·rename_i c1 fq;have key:=CX (r:=r) ?_ _ q2 fq
         ·obtain⟨ZN,am8,Pv⟩:=key;obtain⟨rfl,rfl⟩:=hl;refine .inr ⟨b.block,b'.block,.cells c1 e fz,.cells ZN e fz,_,ls.map fun x=>{block:=b'.block,off:=x.1},n,at_.block,.cells _ _ Pv,rfl,?_,fun y hy=>?_⟩
          ·unfold afi;simp only[bind,aeM,pure,ae3,aeW,throwThe,aeN,ht,q1,hb,afq,aem,if_false,if_neg hn,am8]
          ·obtain⟨z,_,rfl⟩:=List.mem_map.1 hy;rfl
         ·rintro cs cL ⟨i,s,bs⟩ c2 Pv hf;simp only at hf⊢;split at hf
          ·cases hf
          ·rename_i h3;rw[if_neg h3];split at hf
           ·cases hf
           ·rename_i h4;rw[if_neg h4];cases h5:cs[i]? with
            |none=>rw[h5]at hf;simp at hf
            |some old=>
             obtain⟨am9,h5',ho⟩:=Pv.get h5;rw[h5]at hf;rw[h5'];simp only at hf⊢;cases h6:old.ofBytes ((bytes.drop (s-first)).take bs.length)with
             |none=>rw[h6]at hf;simp at hf
             |some new=>
              have eo:am9=old:=by cases ho<;>first|rfl|(simp[afp]at h6;done)
              have hn:V r new new:=by cases ho<;>simp only[afp]at h6<;>first|cases h6|(split at h6<;>first|(rw[<-adC h6];constructor)|cases h6)
              rw[h6]at hf;rw[eo,h6];simp only[afj]at hf⊢;subst hf;exact⟨_,rfl,Pv.set _ hn⟩
  |_=>exact .inl ⟨_,rfl,.inr ⟨_,rfl⟩⟩
theorem Out.setCell(h:W r c v w)(ha:Ad r a a')(fL:¬ak.ro a.block)(hx:V r x x'):Out r r c c v w (v.setCell a x) (w.setCell a' x'):=by
 obtain⟨o,o',h1,h2,h3⟩:=h.obj _ _ ha.block;simp[World.setCell];rw[modify_eq h1,modify_eq h2];refine Out.set h ha.block fL ?_;cases h3 with
 |ro e0 n hv hb=>exact absurd n fL
 |same n h3=>
  cases h3 with
  |cells e0 fz hv=>
   simp only;rw[ha.spot,ha.off];split
   ·exact .cells _ _ hv
   ·exact .cells _ _ (hv.set _ hx)
  |map cl hs hi=>exact .map cl hs hi
  |stringIter s p=>exact .stringIter s p
  |c9 a s n=>exact .c9 a s n
  |mapIter a s n e=>exact .mapIter a s n e
  |loop l=>exact .loop l
  |view t n a=>exact .view t n a
  |number l a=>exact .number l a
  |deferred d=>exact .deferred d
theorem Out.freeze(h:W r c v w){a a':Addr}(ha:Ad r a a')(fL:¬ak.ro a.block)(n:Nat):Out r r c c v w (v.freeze a n) (w.freeze a' n):=by
 obtain⟨o,o',h1,h2,h3⟩:=h.obj _ _ ha.block;simp[World.freeze];split
 ·exact .refl h
 rw[modify_eq h1,modify_eq h2];refine Out.set h ha.block fL ?_;cases h3 with
 |ro e0 n hv hb=>exact absurd n fL
 |same n h3=>
  cases h3 with
  |cells e0 fz hv=>simp[ha.off];exact .cells _ _ hv
  |map cl hs hi=>exact .map cl hs hi
  |stringIter s p=>exact .stringIter s p
  |c9 a s n=>exact .c9 a s n
  |mapIter a s n e=>exact .mapIter a s n e
  |loop l=>exact .loop l
  |view t n a=>exact .view t n a
  |number l a=>exact .number l a
  |deferred d=>exact .deferred d
def BN(r:Rn)(w:World)(u:Nat)(e:Event):=
 (∃a:Addr,e.loc=.cell a/\e.sync=false/\((∃b,r b=some a.block/\(e.write=true->¬ak.ro b))\/(w.heap.size<=a.block/\a.block<u)))\/
 (∃a:Nat,e.loc=.obj a/\e.sync=false/\((∃b,r b=some a/\(e.write=true->¬ak.ro b))\/(w.heap.size<=a/\a<u)))\/
 (∃m,e.loc=.mark m/\(m=.noRoom\/∃f,m=.extern f))\/e.loc=.output
theorem BN.mono{u':Nat}(hu:u<=u'){e:Event}(h:BN r w u e):BN r w u' e:=by
 rcases h with⟨a,h1,h2,h3⟩|⟨a,h1,h2,h3⟩|h
 ·exact .inl ⟨a,h1,h2,h3.imp id fun x=>⟨x.1,aef x.2 hu⟩⟩
 ·exact .inr (.inl ⟨a,h1,h2,h3.imp id fun x=>⟨x.1,aef x.2 hu⟩⟩)
 ·exact .inr (.inr h)
theorem BN.back{r1:Rn}{c1:Nat}{w1:World}(o:Out r r1 c c1 v w v1 w1)(hu:w1.heap.size<=u){e:Event}(h:BN r1 w1 u e):BN r w u e:=by
 have key:∀(a:Nat) (wr:Bool),((∃b,r1 b=some a/\(wr=true->¬ak.ro b))\/(w1.heap.size<=a/\a<u))->(∃b,r b=some a/\(wr=true->¬ak.ro b))\/(w.heap.size<=a/\a<u):=by
  rintro a wr (⟨b,hb,hw⟩|hb)
  ·rcases o.fresh b a hb with x|x
   ·exact .inl ⟨b,x,hw⟩
   ·exact .inr ⟨x.1,aef (o.wl.lt hb).2 hu⟩
  ·exact .inr ⟨adN o.grow hb.1,hb.2⟩
 rcases h with⟨a,h1,h2,h3⟩|⟨a,h1,h2,h3⟩|h
 ·exact .inl ⟨a,h1,h2,key _ _ h3⟩
 ·exact .inr (.inl ⟨a,h1,h2,key _ _ h3⟩)
 ·exact .inr (.inr h)
inductive RR{α:Type}(A:Rn->α->α->Prop)(r:Rn)(c:Nat)(es:Array Event)(v w:World):Result α->Result α×Array Event->Prop
 |ok {a a':α} {v1 w1:World} {fs:Array Event} (r1:Rn) (c1:Nat):Out r r1 c c1 v w v1 w1->A r1 a a'->(∀e∈fs,e∈es\/BN r w w1.heap.size e)->RR A r c es v w (.ok a v1) (.ok a' w1,fs)
 |halt {h h':Halt} {v1 w1:World} {fs:Array Event} (r1:Rn) (c1:Nat):Out r r1 c c1 v w v1 w1->Hl r1 h h'->(∀e∈fs,e∈es\/BN r w w1.heap.size e)->RR A r c es v w (.halt h v1) (.halt h' w1,fs)
 |lost {h:Halt} {v1:World} {x:Result α×Array Event}:zV h->RR A r c es v w (.halt h v1) x
 |zg {x:Result α} {y:Result α×Array Event}:v.drawn+c<x.world.drawn->w.drawn+c<y.1.world.drawn->RR A r c es v w x y
theorem RR.after{α:Type}{A:Rn->α->α->Prop}{r1:Rn}{c1:Nat}{es ZO:Array _}{w1:World}{x:Result α}{x':Result α×Array _}(o:Out r r1 c c1 v w v1 w1)(he:∀e∈ZO,e∈es\/BN r w 0 e)(h:RR A r1 c1 ZO v1 w1 x x'):RR A r c es v w x x':=by
 have ev:∀{fs:Array _} {u:Nat},w1.heap.size<=u->(∀e∈fs,e∈ZO\/BN r1 w1 u e)->∀e∈fs,e∈es\/BN r w u e:=fun hu k e hf=>(k e hf).elim (fun x=>(he e x).imp id fun y=>y.mono (afH _)) fun x=>.inr (x.back o hu);cases h with
 |ok r2 c2 o2 a f=>exact .ok r2 c2 (o.trans o2) a (ev o2.grow f)
 |halt r2 c2 o2 a f=>exact .halt r2 c2 (o.trans o2) a (ev o2.grow f)
 |lost h=>exact .lost h
 |zg h k=>exact .zg (by have:=o.drew;omega) (by have:=o.CV;omega)
theorem RR.stuck{α:Type}{A:Rn->α->α->Prop}{es:Array _}(y:String){x:Result α×Array _}:RR A r c es v w (.halt (.stuck y) v) x:=.lost (.inr ⟨_,rfl⟩)
theorem RR.here{α:Type}{A:Rn->α->α->Prop}{es ZO:Array _}{x:Result α}{x':Result α×Array _}(h:W r c v w)(he:∀e∈ZO,e∈es\/BN r w 0 e)(k:RR A r c ZO v w x x'):RR A r c es v w x x':=k.after (.refl h) he
omit [ak]in
theorem mem_push{es:Array _}{e x:Event}(h:x∈es.push e):x∈es\/x=e:=Array.mem_push.1 h
omit [ak]in
theorem p8{es:Array _}{Q:Event->Prop}:∀e∈es,e∈es\/Q e:=fun _ h=>.inl h
theorem SR.run{α:Type}{A:Rn->α->α->Prop}(NF:WO P){s s':Sem α}(h:SR P A r s s'):∀{c:Nat} {v w:World} (es:Array Event),W r c v w->RR A r c es v w (s.run P v) (s'.runT P w es):=by
 induction h with
 |pure a=>exact fun es hw=>.ok _ _ (.refl hw) a p8
 |@load r a a' k k' ha _ ih=>
  intro c v w es hw;simp only[adJ,aeR];cases hc:v.cell? a with
  |some x=>
   obtain⟨x',oj,hv⟩:=hw.cell ha hc;rw[oj];refine(ih r x x' (.refl _) hv _ hw).here hw fun e he=>?_;rcases mem_push he with he|rfl
   ·exact .inl he
   ·exact .inr (.inl ⟨a',rfl,rfl,.inl ⟨_,ha.block,fun x=>by cases x⟩⟩)
  |none=>
   rw[hw.noCell ha hc];have em:(Mode.plain==Mode.atomic)=false:=rfl;simp only[em];rcases hw.farLoad NF ha with⟨y,e,hl⟩|⟨x,l,l',e,e',hv,hy⟩
   ·rw[e];exact .lost hl
   ·rw[e,e'];simp only;refine(ih r x x (.refl _) hv _ hw).here hw fun z hz=>?_;rcases afO.1 hz with hz|hz
    ·exact .inl hz
    ·simp only[Array.mem_map,afP]at hz;obtain⟨y,hm,rfl⟩:=hz;obtain⟨b,hb⟩:=hy y hm;exact .inr (.inl ⟨y,rfl,rfl,.inl ⟨b,hb,fun x=>by cases x⟩⟩)
 |@store r a a' x x' k k' ha hx _ ih=>
  intro c v w es hw;have main:(∀c,x≠.agg c)->(∀c,x≠.tuple c)->(∀c,x'≠.agg c)->(∀c,x'≠.tuple c)->RR A r c es v w ((Sem.store .plain a x k).run P v) ((Sem.store .plain a' x' k').runT P w es):=by
   intro n1 n2 n3 n4;have e1:=Sem.run.eq_5 P v .plain a x k n1 n2;have e2:=Sem.runT.eq_5 P w es .plain a' x' k' n3 n4;rw[e1,e2];cases hc:v.cell? a with
   |some y=>
    obtain⟨y',hy',_⟩:=hw.cell ha hc;rw[hy'];simp only;by_cases fL:ak.ro a.block
    ·rw[hw.Sp ha fL hc];exact .lost (.inl ⟨_,rfl,rfl⟩)
    ·rw[hw.frozen ha fL];split
     ·exact .lost (.inl ⟨_,rfl,rfl⟩)
     ·refine(ih r (.refl _) _ (Out.setCell hw ha fL hx).wl).after (Out.setCell hw ha fL hx) fun e he=>?_;rcases mem_push he with he|rfl
      ·exact .inl he
      ·exact .inr (.inl ⟨a',rfl,rfl,.inl ⟨_,ha.block,fun _=>fL⟩⟩)
   |none=>
    rw[hw.noCell ha hc];have em:(Mode.plain==Mode.atomic)=false:=rfl;simp only[em];rcases hw.farStore P ha hx with⟨y,e,hl⟩|⟨b,b',o,o',l,l',fL,hb,ho,e,e',hy⟩
    ·rw[e];exact .lost hl
    ·rw[e,e'];simp only;refine(ih r (.refl _) _ (Out.set hw hb fL ho).wl).after (Out.set hw hb fL ho) fun z hz=>?_;rcases afO.1 hz with hz|hz
     ·exact .inl hz
     ·simp only[Array.mem_map,afP]at hz;obtain⟨y,hm,rfl⟩:=hz;exact .inr (.inl ⟨y,rfl,rfl,.inl ⟨b,by rw[hy y hm];exact hb,fun _=>fL⟩⟩)
  cases hx with
  |agg _ _=>exact .stuck _
  |tuple _ _=>exact .stuck _
  |blank _=>exact .stuck _
  |_=>exact main (fun _ h=>by cases h) (fun _ h=>by cases h) (fun _ h=>by cases h) (fun _ h=>by cases h)
 |@new r o o' k k' ho _ ih=>
  intro c v w es hw;simp only[adJ,aeR];have q:=Out.new hw ho;exact(ih _ _ _ q.le (by show(if v.heap.size=v.heap.size then some w.heap.size else r v.heap.size)=_;rw[if_pos rfl]) es q.wl).after q p8
 |@shape r b b' k k' e _ ih=>
  intro c v w es hw;simp only[adJ,aeR,hw.shape e];exact ih r _ (.refl _) es hw
 |@freeze r a a' n k k' z ha _ ih=>
  intro c v w es hw;simp only[adJ,aeR];exact(ih r (.refl _) es (Out.freeze hw ha (z _) n).wl).after (Out.freeze hw ha (z _) n) p8
 |@frozen r a a' k k' z ha _ ih=>
  intro c v w es hw;simp only[adJ,aeR,hw.frozen ha (z _)];exact ih r _ (.refl _) es hw
 |@getObj r b b' k k' e _ ih=>
  intro c v w es hw;obtain⟨o,o',h1,h2,h3⟩:=hw.obj _ _ e;simp only[adJ,aeR,h1,h2];cases h3 with
  |ro e0 n hv hb=>exact .stuck _
  |same n h3=>
   have go:∀{p p':Obj},O r p p'->p'.isChan=false->RR A r c es v w ((k p).run P v) ((k' p').runT P w (es.push ⟨.obj b',false,p'.isChan⟩)):=by
    intro p p' hp F5;refine(ih r _ _ (.refl _) hp _ hw).here hw fun x he=>?_;rcases mem_push he with he|rfl
    ·exact .inl he
    ·exact .inr (.inr (.inl ⟨b',rfl,F5,.inl ⟨_,e,fun x=>by cases x⟩⟩))
   cases h3 with
   |cells e0 fz hv=>exact .stuck _
   |map cl hs hi=>exact go (.map cl hs hi) rfl
   |stringIter s p=>exact go (.stringIter s p) rfl
   |c9 a s n=>exact go (.c9 a s n) rfl
   |mapIter a s n e=>exact go (.mapIter a s n e) rfl
   |loop l=>exact go (.loop l) rfl
   |view t n a=>exact go (.view t n a) rfl
   |number l a=>exact go (.number l a) rfl
   |deferred d=>exact go (.deferred d) rfl
 |@setObj r b b' o o' k k' e ho _ ih=>
  intro c v w es hw;obtain⟨p,p',h1,h2,h3⟩:=hw.obj _ _ e;simp only[adJ,aeR,h1,h2];have F5:o'.isChan=false:=by cases ho<;>rfl
  cases h3 with
  |ro e0 n hv hb=>exact .stuck _
  |same n h3=>
   have go:RR A r c es v w (k.run P {v with heap:=v.heap.setIfInBounds b o}) (k'.runT P {w with heap:=w.heap.setIfInBounds b' o'} (es.push ⟨.obj b',true,o'.isChan⟩)):=by
    refine(ih r (.refl _) _ (Out.set hw e n ho).wl).after (Out.set hw e n ho) fun x he=>?_;rcases mem_push he with he|rfl
    ·exact .inl he
    ·exact .inr (.inr (.inl ⟨b',rfl,F5,.inl ⟨_,e,fun _=>n⟩⟩))
   cases h3 with
   |cells e0 fz hv=>exact .stuck _
   |_=>exact go
 |@choose r q k k' _ ih=>
  intro c v w es hw;simp only[adJ,aeR];split
  ·exact ih r _ (.refl _) es hw
  ·cases c with
   |zero=>
    refine .zg ?_ ?_
    ·exact aef (afQ _) (qG (P:=P) (k (q.cut (v.tape v.drawn q))) {v with drawn:=v.drawn+1})
    ·rw[Sem.runT_eq];exact aef (afQ _) (qG (P:=P) (k' (q.cut (w.tape w.drawn q))) {w with drawn:=w.drawn+1})
   |succ c=>
    have:=hw.tape 0 q (by omega);simp only[Nat.add_zero]at this;rw[<-this];exact(ih r _ (.refl _) es (Out.draw hw).wl).after (Out.draw hw) p8
 |@env r k k' _ ih=>
  intro c v w es hw;have e1:(Sem.sys .env k).run P v=(k (.strings v.os.env)).run P v:=rfl;have e2:(Sem.sys .env k').runT P w es=(k' (.strings w.os.env)).runT P w (es.push ⟨.output,true,false⟩):=rfl;rw[e1,e2,hw.env];refine(ih r _ (.refl _) _ hw).here hw fun e he=>?_;rcases mem_push he with he|rfl
  ·exact .inl he
  ·exact .inr (.inr (.inr (.inr rfl)))
 |program _ ih=>exact fun es hw=>ih _ (.refl _) es hw
 |mark m hm _ ih=>
  intro c v w es hw;simp only[adJ,aeR];refine(ih _ (.refl _) _ hw).here hw fun e he=>?_;rcases mem_push he with he|rfl
  ·exact .inl he
  ·exact .inr (.inr (.inr (.inl ⟨m,rfl,hm⟩)))
 |halt hh=>exact fun es hw=>.halt _ _ (.refl hw) hh p8
 |lost hl=>
  intro c v w es hw;obtain⟨x,v1,e,h⟩:=hl v;rw[e];exact .lost h
end runs
abbrev iO[ak]{α:Type}:Rn->α->α->Prop:=fun _ a b=>a=b
def pg[ak](P:Program):=∀t i z,P.info? t=some i->i.zero=some z->∀r,V r z z
section
variable[ak]{P:Program}{r:Rn}{α:Type}{A:Rn->α->α->Prop}
theorem ae(why:String){s:Sem α}:SR P A r (stuck why) s:=.lost fun _=>⟨_,_,rfl,.inr ⟨_,rfl⟩⟩
theorem ah(u:Unsupported)(hu:EC u=false:=by rfl){s:Sem α}:SR P A r (unsupported u) s:=.lost fun _=>⟨_,_,rfl,.inl ⟨_,rfl,hu⟩⟩
theorem lU{v:Value}(h:V r v v'):SR P A r (goPanic v) (goPanic v'):=.halt (.panic h)
theorem bC:SR P (fun _ a b=>a=P/\b=P) r program program:=.program fun _ _=>.pure ⟨rfl,rfl⟩
theorem ef(q:Question):SR P iO r (choose q) (choose q):=.choose q fun _ _ _=>.pure rfl
theorem zh(h:Ad r a a'):SR P V r (load a) (load a'):=.load h fun _ _ _ _ e=>.pure e
theorem Sq(h:Ad r a a'){v:Value}(hv:V r v v'):SR P iO r (store a v) (store a' v'):=.store h hv fun _ _=>.pure rfl
theorem sd(h:O r o o'):SR P (fun r b b'=>r b=some b') r (newObj o) (newObj o'):=.new h fun _ _ _ _ e=>.pure e
theorem eg(h:r b=some b'):SR P iO r (shape b) (shape b'):=.shape h fun _ _ _=>.pure rfl
theorem qI(z:∀b,¬ak.ro b)(h:Ad r a a'):SR P iO r (frozen a) (frozen a'):=.frozen z h fun _ _ _=>.pure rfl
theorem CY(z:∀b,¬ak.ro b)(h:Ad r a a')(n:Nat):SR P iO r (freeze a n) (freeze a' n):=.freeze n z h fun _ _=>.pure rfl
theorem cJ(h:r b=some b'):SR P O r (getObj b) (getObj b'):=.getObj h fun _ _ _ _ e=>.pure e
theorem iu(h:r b=some b')(ho:O r o o'):SR P iO r (setObj b o) (setObj b' o'):=.setObj h ho fun _ _=>.pure rfl
theorem se(n:Nat):SR P iO r (askRoom n) (askRoom n):=by
 unfold askRoom;split
 ·exact .mark _ (.inl rfl) fun _ _=>.pure rfl
 ·exact .pure rfl
theorem cT(t:TypeId):SR P (fun _ i j=>i=j/\P.info? t=some i) r (typeInfo t) (typeInfo t):=by
 refine SR.bind bC ?_;rintro s p q _ ⟨hp,hq⟩;rw[hp,hq];cases h:P.info? t with
 |some i=>exact .pure ⟨rfl,rfl⟩
 |none=>exact ae _
theorem az(t:TypeId):SR P iO r (underlying t) (underlying t):=by
 refine SR.bind bC ?_;rintro s p q _ ⟨hp,hq⟩;rw[hp,hq];cases h:P.underlying t with
 |some i=>exact .pure rfl
 |none=>exact ae _
theorem bQ(t:TypeId):SR P iO r (sizeOf t) (sizeOf t):=by
 refine SR.bind (cT t) ?_;rintro s i _ _ ⟨rfl,_⟩;exact .pure rfl
theorem oD(Z:pg P)(t:TypeId):SR P V r (zeroValue t) (zeroValue t):=by
 refine SR.bind (cT t) ?_;rintro s i _ _ ⟨rfl,h⟩;cases hz:i.zero with
 |some z=>exact .pure (Z t i z h hz s)
 |none=>exact ah _
theorem GJ(t:TypeId):SR P iO r (isAgg t) (isAgg t):=by
 refine SR.bind (az t) ?_;rintro s d _ _ rfl;split<;>exact .pure rfl
theorem vQ(t:TypeId):SR P iO r (elemOf t) (elemOf t):=by
 refine SR.bind (az t) ?_;rintro s d _ _ rfl;split
 ·exact .pure rfl
 ·exact ae _
theorem Ad.add(h:Ad r a a')(n:Nat):Ad r (a.add n) (a'.add n):=by
 unfold aeQ;split
 ·exact h
 ·exact⟨h.block,by simp[h.off],rfl⟩
theorem VA.push{c c':Array _}(h:VA r c c')(hx:V r x x'):VA r (c.push x) (c'.push x'):=by
 refine⟨by simp[h.size],fun i y y' e e'=>?_⟩;have hs:=h.size;rw[aew]at e e';rw[<-hs]at e';split at e
 ·simp_all
 ·rename_i hi;rw[if_neg hi]at e';exact h.at_ i y y' e e'
theorem VA.nil:VA r #[] #[]:=⟨rfl,fun i x x' e=>by simp⟩
theorem VA.extract{c c':Array _}(h:VA r c c')(i j:Nat):VA r (c.extract i j) (c'.extract i j):=by
 have hs:=h.size;refine⟨by simp[hs],fun k x x' e e'=>?_⟩;simp only[Array.getElem?_extract,hs]at e e';split at e
 ·rename_i hk;rw[if_pos hk]at e';exact h.at_ _ x x' e e'
 ·cases e
theorem nQ:∀n i {r:Rn} {a a':Addr} {c c':Array _},Ad r a a'->VA r c c'->SR P VA r (loadCellsFrom a i n c) (loadCellsFrom a' i n c')
 |0,i,r,a,a',c,c',h,hc=>.pure hc
 |n+1,i,r,a,a',c,c',h,hc=>by
  refine SR.bind (zh (h.add i)) ?_;intro s v v' l hv;exact nQ n _ (h.mono l) ((hc.mono l).push hv)
theorem oE(n:Nat)(h:Ad r a a'):SR P VA r (loadCells a n) (loadCells a' n):=nQ n 0 h .nil
inductive VL(r:Rn):List Value->List Value->Prop
 |nil:VL r [] []
 |cons {x y:Value} {xs ys:List Value}:V r x y->VL r xs ys->VL r (x::xs) (y::ys)
theorem VL.mono{s:Rn}(h:Le r s){xs ys:List _}(k:VL r xs ys):VL s xs ys:=by
 induction k with
 |nil=>exact .nil
 |cons x _ ih=>exact .cons (x.mono h) ih
theorem VA.toList{c c':Array _}(h:VA r c c'):VL r c.toList c'.toList:=by
 obtain⟨c⟩:=c;obtain⟨c'⟩:=c';obtain⟨hs,hi⟩:=h;induction c generalizing c' with
 |nil=>cases c' with
  |nil=>exact .nil
  |cons y ys=>simp at hs
 |cons x xs ih=>cases c' with
  |nil=>simp at hs
  |cons y ys=>exact .cons (hi 0 x y rfl rfl) (ih ys (by simpa using hs) fun i a b e e'=>hi (i+1) a b (by simpa using e) (by simpa using e'))
theorem VL.toArray{xs ys:List _}(h:VL r xs ys):VA r xs.toArray ys.toArray:=by
 induction h with
 |nil=>exact .nil
 |cons x _ ih=>
  obtain⟨hs,hi⟩:=ih;simp at hs hi;refine⟨by simp_all,fun i a b e e'=>?_⟩;simp at e e';cases i with
  |zero=>simp at e e';simp_all
  |succ i=>exact hi i a b e e'
theorem ft:∀{xs ys:List _} i {r:Rn} {a a':Addr},Ad r a a'->VL r xs ys->SR P iO r (storeCells a xs i) (storeCells a' ys i)
 |_,_,i,r,a,a',h,.nil=>.pure rfl
 |_,_,i,r,a,a',h,.cons x xs=>by
  refine SR.bind (Sq (h.add i) x) ?_;intro s _ _ l _;exact ft _ (h.mono l) (VL.mono l xs)
theorem V.cells{x y:Value}(h:V r x y):VA r x.cells y.cells:=by
 have one:∀{x y:Value},V r x y->VA r _ _:=fun h=>(VL.toArray (.cons h .nil));cases h with
 |agg hs hi=>exact⟨hs,hi⟩
 |blank h=>
  have e:y.cells=#[y]:=by cases y<;>first|rfl|simp[Hid]at h
  rw[e];exact one (.blank h)
 |func a b c d e=>exact one (.func a b c d e)
 |tuple hs hi=>exact one (.tuple hs hi)
 |iface t h=>exact one (.iface t h)
 |ptr a=>exact one (.ptr a)
 |slice l c a=>exact one (.slice l c a)
 |map e=>exact one (.map e)
 |chan e=>exact one (.chan e)
 |bool b=>exact one (.bool b)
 |int k n=>exact one (.int k n)
 |string s=>exact one (.string s)
 |nilPtr=>exact one .nilPtr
 |bt l c=>exact one (.bt l c)
 |ik=>exact one .ik
 |fW=>exact one .fW
 |nilFunc=>exact one .nilFunc
 |nilIface=>exact one .nilIface
theorem zX(t:TypeId)(h:Ad r a a'):SR P V r (loadVar t a) (loadVar t a'):=by
 refine SR.bind (GJ t) ?_;rintro s b _ l rfl;split
 ·refine SR.bind (bQ t) ?_;rintro u n _ lu rfl;refine SR.bind (oE n ((h.mono l).mono lu)) ?_;intro q c c' _ hc;exact .pure (.agg hc.size hc.at_)
 ·exact zh (h.mono l)
theorem GK(t:TypeId)(h:Ad r a a')(hx:V r x x'):SR P iO r (storeVar t a x) (storeVar t a' x'):=by
 refine SR.bind (bQ t) ?_;rintro s n _ l rfl;rw[hx.cells.size];split
 ·refine SR.bind (ae (A:=iO) _) ?_;rintro u _ _ lu rfl;exact ft 0 ((h.mono l).mono lu) ((hx.cells.toList.mono l).mono lu)
 ·exact ft 0 (h.mono l) (hx.cells.toList.mono l)
theorem jy(t:TypeId){c c':Array _}(h:VA r c c'):SR P Ad r (newRow t c) (newRow t c'):=by
 refine SR.bind (sd (.cells t _ h)) ?_;intro s b b' l e;exact .pure ⟨e,rfl,rfl⟩
theorem vR(t:TypeId)(h:V r x x'):SR P Ad r (newVar t x) (newVar t x'):=jy t h.cells
theorem NA(t:TypeId){c c':Array _}(h:VA r c c')(o:Nat):SR P V r (part t c o) (part t c' o):=by
 refine SR.bind (GJ t) ?_;rintro s b _ l rfl;split
 ·refine SR.bind (bQ t) ?_;rintro u n _ lu rfl;have q:=((h.mono l).mono lu).extract o (o+n);exact .pure (.agg q.size q.at_)
 ·cases hc:c[o]? with
  |some x=>
   obtain⟨x',e,hv⟩:=h.get hc;rw[e];exact .pure (hv.mono l)
  |none=>exact ae _
end
section
variable[ak]{P:Program}{r:Rn}{α:Type}{A:Rn->α->α->Prop}
theorem VA.one(h:V r x y):VA r #[x] #[y]:=(VL.toArray (.cons h .nil))
theorem VA.two(h:V r x y)(h':V r x' y'):VA r #[x,x'] #[y,y']:=(VL.toArray (.cons h (.cons h' .nil)))
theorem VA.three{x2 y2:Value}(h:V r x y)(h':V r x' y')(h2:V r x2 y2):VA r #[x,x',x2] #[y,y',y2]:=(VL.toArray (.cons h (.cons h' (.cons h2 .nil))))
theorem V.NB{c c':Array _}(h:VA r c c'):V r (.agg c) (.agg c'):=.agg h.size h.at_
theorem V.jS{c c':Array _}(h:VA r c c'):V r (.tuple c) (.tuple c'):=.tuple h.size h.at_
def GN:RuntimeError->Prop
 |.bounds .. |.error _|.plain _|.nilDeref=>True
 |_=>False
theorem iw{e:RuntimeError}(h:GN e):SR P A r (runtimePanic e) (runtimePanic e):=by
 refine SR.bind bC ?_;rintro s p q _ ⟨hp,hq⟩;rw[hp,hq];cases e with
 |bounds x y sg c=>exact lU (.iface _ (.NB (VL.toArray (.cons (.int _ _) (.cons (.int _ _) (.cons (.bool _) (.cons (.int _ _) .nil)))))))
 |error m=>exact lU (.iface _ (.string _))
 |plain m=>exact lU (.iface _ (.string _))
 |nilDeref=>exact lU (.iface _ (.string _))
 |typeAssertion=>exact h.elim
 |panicNil=>exact h.elim
 |unhashable=>exact h.elim
theorem fM(k:IntKind)(x y:Int)(c:BoundsCode):SR P A r (boundsPanic k x y c) (boundsPanic k x y c):=by
 unfold boundsPanic;split
 ·refine SR.bind (A:=iO) (SR.bind (ef _) fun s a b _ e=>e▸ .pure rfl) ?_;rintro s a _ _ rfl;exact iw trivial
 ·refine SR.bind (A:=iO) (.pure rfl) ?_;rintro s a _ _ rfl;exact iw trivial
theorem oF(h:V r x x'):SR P iO r (asIntOf x) (asIntOf x'):=by
 cases h with
 |int k n=>exact .pure rfl
 |ptr a=>exact ah _
 |_=>exact ae _
theorem nR(h:V r x x'):SR P iO r (asInt x) (asInt x'):=by
 exact SR.bind (oF h) fun s a b _ e=>e▸ .pure rfl
theorem CZ(h:V r x x'):SR P iO r (asBool x) (asBool x'):=by
 cases h with
 |bool b=>exact .pure rfl
 |_=>exact ae _
theorem Sr(h:V r x x'):SR P VA r (asAgg x) (asAgg x'):=by
 cases h with
 |agg s i=>exact .pure ⟨s,i⟩
 |_=>exact ae _
theorem C0(h:V r x x'):SR P Ad r (asAddr x) (asAddr x'):=by
 cases h with
 |ptr a=>exact .pure a
 |nilPtr=>exact iw (e:=.nilDeref) trivial
 |_=>exact ae _
theorem j8(h:V r x x'):SR P Ad r (Instr.sureAddr x) (Instr.sureAddr x'):=by
 cases h with
 |ptr a=>exact .pure a
 |_=>exact ae _
theorem abL(t:TypeId)(h:V r x x'):SR P V r (Instr.box t x) (Instr.box t x'):=
 SR.bind (vR t h) fun s a b _ e=>.pure (.ptr e)
theorem Ss(Z:pg P)(t:TypeId):SR P V r (Instr.alloc t true (.tuple #[])) (Instr.alloc t true (.tuple #[])):=by
 refine SR.bind (oD Z t) fun s a b _ e=>?_;exact SR.bind (vR t e) fun s a b _ e=>.pure (.ptr e)
theorem Pw(t:TypeId)(h:V r x x'):SR P V r (Instr.loadAt t x) (Instr.loadAt t x'):=
 SR.bind (j8 h) fun s a b _ e=>zX t e
theorem KR(t:TypeId)(h:V r x x')(hy:V r y y'):SR P iO r (Instr.storeAt t x y) (Instr.storeAt t x' y'):=
 SR.bind (j8 h) fun s a b l e=>GK t e (hy.mono l)
theorem KS(h:V r x x')(i:Nat):SR P V r (afr x i) (afr x' i):=by
 cases h with
 |tuple s hi=>
  rename_i c c';have q:VA r c c':=⟨s,hi⟩;simp[afr];cases hc:c[i]? with
  |some y=>obtain⟨y',e,hv⟩:=q.get hc;rw[e];exact .pure hv
  |none=>exact ae _
 |_=>exact ae _
theorem vS(t:TypeId)(h:V r x x'):SR P V r (aft t x) (aft t x'):=by
 refine SR.bind (az t) ?_;rintro s d _ l rfl;split
 ·exact ae _
 ·exact .pure (.iface t (h.mono l))
theorem St(t:TypeId)(h:V r x x')(i:Nat):SR P V r (Instr.field t x i) (Instr.field t x' i):=by
 refine SR.bind (az t) ?_;rintro s d _ l rfl;split
 ·split
  ·exact SR.bind (Sr (h.mono l)) fun _ _ _ _ e=>NA _ e _
  ·exact ae _
 ·exact ae _
theorem Su(t:TypeId)(h:V r x x')(hy:V r y y'):SR P V r (Instr.index t x y) (Instr.index t x' y'):=by
 refine SR.bind (oF hy) ?_;rintro s ⟨k,i⟩ _ l rfl;refine SR.bind (az t) ?_;rintro u d _ lu rfl;have h2:=(h.mono l).mono lu;cases d with
 |array len elem=>
  cases h2 with
  |agg hs hi=>
   simp only;split
   ·exact SR.bind (bQ _) fun w a b lw e=>e▸NA _ (VA.mono lw ⟨hs,hi⟩) _
   ·exact fM ..
  |_=>exact ae _
 |string=>
  cases h2 with
  |string b=>
   simp only;split
   ·exact .pure (.int _ _)
   ·exact fM ..
  |_=>exact ae _
 |_=>exact ae _
def VW(r:Rn)(x y:Option (Addr×TypeId)):=(x=none/\y=none)\/∃a a' t,x=some (a,t)/\y=some (a',t)/\Ad r a a'
theorem qJ(h:r b=some b'):SR P VW r (viewAt b) (viewAt b'):=by
 refine SR.bind (eg h) ?_;rintro s x _ l rfl;split
 ·exact .pure (.inl ⟨rfl,rfl⟩)
 ·refine SR.bind (cJ (l _ _ h)) ?_;intro u o o' _ ho;cases ho with
  |view t n a=>exact .pure (.inr ⟨_,_,_,rfl,rfl,a⟩)
  |_=>exact .pure (.inl ⟨rfl,rfl⟩)
theorem vT(h:Ad r a a'):SR P iO r (noView a) (noView a'):=by
 refine SR.bind (qJ h.block) ?_;rintro s x y l (⟨rfl,rfl⟩|⟨_,_,_,rfl,rfl,_⟩)
 ·exact .pure rfl
 ·exact ah _
theorem jA(h:Ad r a a'):SR P iO r (byteOf a) (byteOf a'):=by
 unfold byteOf;rw[h.spot,h.off];dsimp only;split
 ·exact .pure rfl
 ·refine SR.bind bC ?_;rintro s p q l ⟨hp,hq⟩;rw[hp,hq];refine SR.bind (vT (h.mono l)) ?_;rintro u _ _ lu _;refine SR.bind (eg ((h.mono l).mono lu).block) ?_;rintro w x _ lw rfl;split
  ·split
   ·exact .pure rfl
   ·split
    ·exact .pure rfl
    ·exact ae _
  ·exact ae _
theorem Px(h:Ad r a a')(c b:Nat):SR P Ad r (partAt a c b) (partAt a' c b):=by
 refine SR.bind (jA h) ?_;rintro s x _ l rfl;have hp:Ad s {block:=a.block,off:=a.off+c} {block:=a'.block,off:=a'.off+c}:=⟨l _ _ h.block,by simp[h.off],rfl⟩;refine SR.bind (jA hp) ?_;rintro u y _ lu rfl;split
 ·exact .pure (hp.mono lu)
 ·exact .pure ⟨lu _ _ hp.block,hp.off,rfl⟩
theorem B7(h:Ad r a a')(f:Field):SR P Ad r (fieldPlace a f) (fieldPlace a' f):=by
 refine SR.bind (bQ _) ?_;rintro s n _ l rfl;split
 ·exact Px (h.mono l) _ _
 ·exact .pure ((h.mono l).add _)
theorem KT(t:TypeId)(h:V r x x')(i:Nat):SR P V r (Instr.fieldAt t x i) (Instr.fieldAt t x' i):=by
 refine SR.bind (az t) ?_;rintro s d _ l rfl;split
 ·split
  ·refine SR.bind (j8 (h.mono l)) fun u a b lu e=>?_;exact SR.bind (B7 e _) fun w a b _ e=>.pure (.ptr e)
  ·exact ae _
 ·exact ae _
theorem tM(t elem:TypeId)(k:IntKind)(i:Int)(len:Nat)(h:Ad r a a')(f:TypeDesc->Bool):
  SR P V r (do let d<-underlying t;if 0<=i/\i<len then(do let n<-sizeOf elem;pure (ae_ (some (a.add (i.toNat *n)))))else if(decide (len<=1)&&f d)=true then unsupported (.noEntry "op/indexAddr.an index out of range at an array of length 0 or 1 (ledger 616)")else boundsPanic k i len .index)
   (do let d<-underlying t;if 0<=i/\i<len then(do let n<-sizeOf elem;pure (ae_ (some (a'.add (i.toNat *n)))))else if(decide (len<=1)&&f d)=true then unsupported (.noEntry "op/indexAddr.an index out of range at an array of length 0 or 1 (ledger 616)")else boundsPanic k i len .index):=by
 refine SR.bind (az t) ?_;rintro s d _ l rfl;split
 ·refine SR.bind (bQ _) ?_;rintro u n _ lu rfl;exact .pure (.ptr (((h.mono l).mono lu).add _))
 ·split
  ·exact ah _
  ·exact fM ..
theorem KU(t:TypeId)(h:V r x x')(hy:V r y y'):SR P V r (Instr.indexAt t x y) (Instr.indexAt t x' y'):=by
 refine SR.bind (oF hy) ?_;rintro s ⟨k,i⟩ _ l rfl;refine SR.bind (az t) ?_;rintro u d _ lu rfl;have h2:=(h.mono l).mono lu;cases d with
 |array len elem=>
  refine SR.bind (j8 h2) fun w a b lw e=>?_;exact tM t _ k i len e _
 |slice elem=>
  cases h2 with
  |slice len cap e=>exact tM t _ k i len e _
  |bt len cap=>
   show SR P V u (underlying t >>= fun _=>boundsPanic k i 0 _) _
   exact SR.bind (az t) fun _ _ _ _ _=>fM ..
  |_=>exact SR.lost fun _=>⟨_,_,rfl,.inr ⟨_,rfl⟩⟩
 |_=>exact SR.lost fun _=>⟨_,_,rfl,.inr ⟨_,rfl⟩⟩
theorem B8(h:V r x x')(y:Nat)(c:BoundsCode):SR P iO r (aeY x y c) (aeY x' y c):=by
 refine SR.bind (oF h) ?_;rintro s ⟨k,i⟩ _ l rfl;dsimp only;split
 ·exact .pure rfl
 ·exact fM ..
inductive VO(r:Rn):Option Value->Option Value->Prop
 |none:VO r none none
 |some {x y:Value}:V r x y->VO r (some x) (some y)
theorem VO.mono{s:Rn}(h:Le r s){x y:Option _}(k:VO r x y):VO s x y:=by
 cases k with
 |none=>exact .none
 |some e=>exact .some (e.mono h)
theorem VO.isSome{x y:Option _}(k:VO r x y):y.isSome=x.isSome:=by cases k<;>rfl
theorem fN(b:Bool)(len cap:Nat){lo ZP hi eO mx ZQ:Option _}(h1:VO r lo ZP)(h2:VO r hi eO)(h3:VO r mx ZQ):
  SR P iO r (afG b len cap lo hi mx) (afG b len cap ZP eO ZQ):=by
 have step:∀{β:Type} {B:Rn->β->β->Prop} {s:Rn} {x x':Value} (l:Le r s) (h:V r x x') (y:Nat) (c:BoundsCode) {f f':Nat->Sem β},(∀t n,Le r t->SR P B t (f n) (f' n))->
   SR P B s (aeY x y c >>= f) (aeY x' y c >>= f'):=
  by
  intro β B s x x' l h y c f f' k;refine SR.bind (B8 (h.mono l) y c) fun t a b lt e=>?_;obtain rfl:a=b:=e;exact k t a (l.trans lt)
 cases h1 with
 |none=>cases h2 with
  |none=>cases h3 with
   |none=>exact .pure rfl
   |some e3=>exact step (.refl _) e3 _ _ fun t n l=>SR.lost fun _=>⟨_,_,rfl,.inr ⟨_,rfl⟩⟩
  |some e2=>cases h3 with
   |none=>exact step (.refl _) e2 _ _ fun t n l=>.pure rfl
   |some e3=>exact step (.refl _) e3 _ _ fun t n l=>step l e2 _ _ fun t n l=>.pure rfl
 |some e1=>cases h2 with
  |none=>cases h3 with
   |none=>exact step (.refl _) e1 _ _ fun t n l=>.pure rfl
   |some e3=>exact step (.refl _) e3 _ _ fun t n l=>SR.lost fun _=>⟨_,_,rfl,.inr ⟨_,rfl⟩⟩
  |some e2=>cases h3 with
   |none=>exact step (.refl _) e2 _ _ fun t n l=>step l e1 _ _ fun t n l=>.pure rfl
   |some e3=>exact step (.refl _) e3 _ _ fun t n l=>step l e2 _ _ fun t n l=>step l e1 _ _ fun t n l=>.pure rfl
theorem Sv(t:TypeId)(h:V r x x'){lo ZP hi eO mx ZQ:Option Value}(h1:VO r lo ZP)(h2:VO r hi eO)(h3:VO r mx ZQ):
  SR P V r (Instr.slice t x lo hi mx) (Instr.slice t x' ZP eO ZQ):=by
 refine SR.bind (az t) ?_;rintro s d _ l rfl;have hs:=h.mono l;cases d with
 |string=>
  cases hs with
  |string b=>
   dsimp only;rw[h3.isSome];split
   ·exact SR.lost fun _=>⟨_,_,rfl,.inr ⟨_,rfl⟩⟩
   ·refine SR.bind (fN _ _ _ (h1.mono l) (h2.mono l) .none) ?_;rintro u ⟨a,b,c⟩ _ lu rfl;exact .pure (.string _)
  |_=>exact ae _
 |slice elem=>
  cases hs with
  |slice len cap e=>
   refine SR.bind (fN _ _ _ (h1.mono l) (h2.mono l) (h3.mono l)) ?_;rintro u ⟨a,b,c⟩ _ lu rfl;refine SR.bind (bQ _) ?_;rintro w n _ lw rfl;split
   ·exact .pure (.slice _ _ ((e.mono lu).mono lw))
   ·exact .pure (.slice _ _ (((e.mono lu).mono lw).add _))
  |bt len cap=>
   refine SR.bind (fN _ _ _ (h1.mono l) (h2.mono l) (h3.mono l)) ?_;rintro u ⟨a,b,c⟩ _ lu rfl;refine SR.bind (bQ _) ?_;rintro w n _ lw rfl;split<;>exact .pure (.bt _ _)
  |_=>exact ae _
 |pointer arr=>
  refine SR.bind (C0 hs) fun u a a' lu e=>?_;refine SR.bind (az arr) ?_;rintro w d _ lw rfl;cases d with
  |array n elem=>
   refine SR.bind (fN _ _ _ (((h1.mono l).mono lu).mono lw) (((h2.mono l).mono lu).mono lw) (((h3.mono l).mono lu).mono lw)) ?_;rintro z ⟨a1,b1,c1⟩ _ lz rfl;refine SR.bind (bQ _) ?_;rintro y n _ ly rfl;have e2:=((e.mono lw).mono lz).mono ly;split
   ·exact .pure (.slice _ _ e2)
   ·exact .pure (.slice _ _ (e2.add _))
  |_=>exact ae _
 |_=>exact ae _
theorem KV(t:TypeId)(h:V r x x'){lo ZP hi eO mx ZQ:Option _}(h1:VO r lo ZP)(h2:VO r hi eO)(h3:VO r mx ZQ):
  SR P V r (Instr.sliceAt t x lo hi mx) (Instr.sliceAt t x' ZP eO ZQ):=by
 refine SR.bind (az t) ?_;rintro s d _ l rfl;have hs:=h.mono l;split
 ·rename_i n elem;refine SR.bind (j8 hs) fun u a a' lu e=>?_;refine SR.bind (fN _ _ _ ((h1.mono l).mono lu) ((h2.mono l).mono lu) ((h3.mono l).mono lu)) ?_;rintro z ⟨a1,b1,c1⟩ _ lz rfl;refine SR.bind (bQ _) ?_;rintro y n _ ly rfl;have e2:=(e.mono lz).mono ly;split
  ·exact .pure (.slice _ _ e2)
  ·exact .pure (.slice _ _ (e2.add _))
 ·exact Sv t hs (h1.mono l) (h2.mono l) (h3.mono l)
end
section
variable[ak]{P:Program}{r:Rn}{α:Type}{A:Rn->α->α->Prop}
theorem VA.append{a a' b b':Array _}(h:VA r a a')(k:VA r b b'):VA r (a++b) (a'++b'):=by
 refine⟨by simp[h.size,k.size],fun i x x' e e'=>?_⟩;have hs:=h.size;rw[Array.getElem?_append]at e e';rw[<-hs]at e';split at e
 ·rename_i hi;rw[if_pos hi]at e';exact h.at_ i x x' e e'
 ·rename_i hi;rw[if_neg hi]at e';exact k.at_ _ x x' e e'
theorem VA.NC{z z':Array _}(h:VA r z z')(n:Nat):VA r ((aeB n).map (z[· %z.size]!)) ((aeB n).map (z'[· %z'.size]!)):=by
 refine⟨by simp,fun i x x' e e'=>?_⟩;simp only[Array.getElem?_map,Array.getElem?_range,aeX]at e e';obtain⟨j,hj,rfl⟩:=e;obtain⟨j',hj',rfl⟩:=e';split at hj
 ·rename_i hi;rw[if_pos hi]at hj';obtain rfl:=adC hj;obtain rfl:=adC hj';have hs:=h.size;by_cases nJ:z.size=0
  ·rw[getElem!_neg z _ (by omega),getElem!_neg z' _ (by omega)];exact .bool _
  have hz:0<z.size:=by omega
  have h1:i%z.size<z.size:=Nat.mod_lt _ hz;have h2:i%z'.size<z'.size:=Nat.mod_lt _ (hs▸hz);refine h.at_ (i%z.size) _ _ (by simp[h1]) ?_;simp_all
 ·cases hj
theorem VA.bytes(b:ByteArray):VA r (b.data.map fun b=>afh .u8 b.toNat) (b.data.map fun b=>afh .u8 b.toNat):=by
 refine⟨rfl,fun i x x' e e'=>?_⟩;obtain rfl:x=x':=adC (e.symm.trans e');simp at e;obtain⟨_,_,rfl⟩:=e;exact .int _ _
theorem VA.rep(n:Nat)(h:V r x x'):VA r (afU n x) (afU n x'):=by
 refine⟨by simp,fun i y y' e e'=>?_⟩;simp[Array.getElem?_replicate]at e e';simp_all
theorem GO{fn mN:Fn}(hf:Pu r fn mN){a a' c c':Array _}(h:VA r a a')(k:VA r c c'):SR P V r (Instr.makeFunc fn a c) (Instr.makeFunc mN a' c'):=
 .pure (.func hf h.size h.at_ k.size k.at_)
theorem KW(t:TypeId){x x':Option _}(h:VO r x x'):SR P V r (Instr.makeMap t x) (Instr.makeMap t x'):=by
 have fin:∀{s:Rn},SR P V s (newObj (.map #[] 0) >>= fun b=>pure (Value.map (some b))) (newObj (.map #[] 0) >>= fun b=>pure (Value.map (some b))):=by
  refine SR.bind (sd (.map 0 rfl fun i x x' e=>by simp)) fun _ _ _ _ e=>.pure (.map e)
 cases h with
 |none=>exact fin
 |some e=>
  refine SR.bind (az t) ?_;rintro s d _ l rfl;cases d with
  |map key elem=>exact SR.bind (nR (e.mono l)) fun _ _ _ _ _=>fin
  |_=>exact SR.lost fun _=>⟨_,_,rfl,.inr ⟨_,rfl⟩⟩
theorem zY(h:V r x x'):SR P iO r (aeu x) (aeu x'):=by
 cases h with
 |slice l c a=>exact .pure rfl
 |bt l c=>exact .pure rfl
 |string s=>exact .pure rfl
 |_=>exact ae _
theorem g_(size n:Nat)(h:V r x x'):SR P VA r (adz size n x) (adz size n x'):=by
 cases h with
 |slice l c a=>exact oE _ a
 |bt l c=>exact .pure .nil
 |string s=>exact .pure (.bytes _)
 |_=>exact ae _
theorem mO(Z:pg P)(elem:TypeId)(b l c:Nat):
  SR P V r (do askRoom b;let n<-sizeOf elem;if c *n=0 then(do let zero<-pure #[];let a<-newRow elem ((aeB (c *n)).map fun x=>zero[x%zero.size]!);pure (aeI (some a) l c))else(do let z<-zeroValue elem;let zero<-pure z.cells;let a<-newRow elem ((aeB (c *n)).map fun x=>zero[x%zero.size]!);pure (aeI (some a) l c)))
   (do askRoom b;let n<-sizeOf elem;if c *n=0 then(do let zero<-pure #[];let a<-newRow elem ((aeB (c *n)).map fun x=>zero[x%zero.size]!);pure (aeI (some a) l c))else(do let z<-zeroValue elem;let zero<-pure z.cells;let a<-newRow elem ((aeB (c *n)).map fun x=>zero[x%zero.size]!);pure (aeI (some a) l c))):=by
 refine SR.bind (se b) fun s _ _ l1 _=>?_;refine SR.bind (bQ _) ?_;rintro s n _ l2 rfl;split
 ·exact SR.bind (.pure .nil) fun _ _ _ _ e=>SR.bind (jy _ (VA.NC e _)) fun _ _ _ _ e=>SR.pure (V.slice _ _ e)
 ·exact SR.bind (oD Z _) fun _ _ _ _ e=>SR.bind (.pure e.cells) fun _ _ _ _ e=>SR.bind (jy _ (VA.NC e _)) fun _ _ _ _ e=>SR.pure (V.slice _ _ e)
theorem ED(Z:pg P)(t:TypeId)(h:V r x x')(hy:V r y y'):SR P V r (afk t x y) (afk t x' y'):=by
 unfold afk;refine SR.bind (az t) ?_;rintro s d _ l rfl;cases d with
 |slice elem=>
  refine SR.bind (nR (h.mono l)) ?_;rintro s1 a _ l1 rfl;refine SR.bind (nR ((hy.mono l).mono l1)) ?_;rintro s2 b _ l2 rfl;refine SR.bind (cT elem) ?_;rintro s3 i _ l3 ⟨rfl,hi⟩;dsimp only;split
  ·split
   ·exact SR.bind (A:=iO) (iw (e:=.error _) trivial) fun _ _ _ _ _=>mO Z elem _ _ _
   ·split
    ·exact SR.bind (A:=iO) (iw (e:=.error _) trivial) fun _ _ _ _ _=>mO Z elem _ _ _
    ·refine SR.bind (ef _) ?_;rintro s4 q _ l4 rfl;exact SR.bind (A:=iO) (iw (e:=.error _) trivial) fun _ _ _ _ _=>mO Z elem _ _ _
  ·exact mO Z elem _ _ _
 |_=>exact ae _
theorem WQ(ts:Array _)(t:TypeId){a a':Array _}(h:VA r a a'):SR P V r (afs ts t a) (afs ts t a'):=by
 unfold afs;cases h1:ts[0]? with
 |none=>exact ae _
 |some dt=>
  cases h2:a[0]? with
  |none=>exact ae _
  |some x=>
   cases h3:a[1]? with
   |none=>exact ae _
   |some y=>
    obtain⟨x',e2,hx⟩:=h.get h2;obtain⟨y',e3,hy⟩:=h.get h3;rw[e2,e3];refine SR.bind (az dt) ?_;rintro s d _ l rfl;cases d with
    |slice elem=>
     have hx:=hx.mono l;have go:∀{b b':Option _} (q:Nat),((b=none/\b'=none)\/∃c c',b=some c/\b'=some c'/\Ad s c c')->
       SR P V s (do let n<-aeu y;let sz<-sizeOf elem;let cells<-adz sz (afn n q) y;(match b with|some c=>storeCells c cells.toList >>= fun _=>pure (goInt (afn n q))|none=>pure (goInt (afn n q))))
        (do let n<-aeu y';let sz<-sizeOf elem;let cells<-adz sz (afn n q) y';(match b' with|some c=>storeCells c cells.toList >>= fun _=>pure (goInt (afn n q))|none=>pure (goInt (afn n q)))):=by
      intro b b' q hb;refine SR.bind (zY (hy.mono l)) ?_;rintro s1 n _ l1 rfl;refine SR.bind (bQ _) ?_;rintro s2 sz _ l2 rfl;refine SR.bind (g_ _ _ (((hy.mono l).mono l1).mono l2)) fun s3 c c' l3 hc=>?_;rcases hb with⟨rfl,rfl⟩|⟨p,p',rfl,rfl,hp⟩
      ·exact .pure (.int _ _)
      ·exact SR.bind (ft 0 (((hp.mono l1).mono l2).mono l3) hc.toList) fun _ _ _ _ _=>.pure (.int _ _)
     cases hx with
     |slice q c e=>exact go q (.inr ⟨_,_,rfl,rfl,e⟩)
     |bt q c=>exact go q (.inl ⟨rfl,rfl⟩)
     |_=>exact ae _
    |_=>exact ae _
theorem abM(ts:Array _)(t:TypeId){a a':Array _}(h:VA r a a'):SR P V r (afz ts t a) (afz ts t a'):=by
 unfold afz;cases h1:ts[0]? with
 |none=>exact ae _
 |some dt=>
  cases h2:a[0]? with
  |none=>exact ae _
  |some x=>
   obtain⟨x',e2,hx⟩:=h.get h2;rw[e2];refine SR.bind (az dt) ?_;rintro s d _ l rfl;have hx:=hx.mono l;cases d with
   |string=>cases hx with
    |string b=>exact .pure (.int _ _)
    |_=>exact ae _
   |array n e=>exact .pure (.int _ _)
   |pointer arr=>
    refine SR.bind (az arr) ?_;rintro u d _ lu rfl;cases d with
    |array n e=>exact .pure (.int _ _)
    |_=>exact ae _
   |slice elem=>cases hx with
    |slice q c e=>exact .pure (.int _ _)
    |bt q c=>exact .pure (.int _ _)
    |_=>exact ae _
   |map k e=>cases hx with
    |ik=>exact .pure (.int _ _)
    |map e=>
     refine SR.bind (cJ e) fun u o o' lu ho=>?_;cases ho with
     |map cl hs hi=>dsimp only;rw[hs];exact .pure (.int _ _)
     |_=>exact ae _
    |_=>exact ae _
   |chan a e=>cases hx with
    |fW=>exact .pure (.int _ _)
    |chan e=>
     refine SR.bind (cJ e) fun u o o' lu ho=>?_;cases ho<;>exact ae _
    |_=>exact ae _
   |_=>exact ae _
end
section
variable[ak]{P:Program}{r:Rn}{α:Type}{A:Rn->α->α->Prop}
theorem Sw(op:BinOp)(k:IntKind)(a b:Int):SR P V r (afL op k a b) (afL op k a b):=by
 unfold afL;split<;>first|exact .pure (.int _ _)|exact ae _
theorem Sx(op:BinOp)(a b:Int):SR P V r (afW op a b) (afW op a b):=by
 unfold afW;split<;>first|exact .pure (.bool _)|exact ae _
theorem KX(op:BinOp)(a b:ByteArray):SR P V r (ae4 op a b) (ae4 op a b):=by
 unfold ae4;split
 ·split
  ·exact ah _
  ·exact .pure (.string _)
 all_goals first|exact .pure (.bool _)|exact ae _
theorem B9(z:∀b,¬ak.ro b)(t:TypeId)(s:ByteArray):SR P V r (afA t s) (afA t s):=by
 refine SR.bind (ef _) ?_;rintro u c _ l rfl;refine SR.bind (jy t ((VA.bytes s).append (.rep _ (.int _ _)))) fun u a a' l e=>?_;refine SR.bind (A:=iO) ?_ fun _ _ _ l _=>.pure (.slice _ _ (e.mono l));refine SR.bind (eg e.block) ?_;rintro u x _ l rfl;split
 ·exact CY z (a:=⟨a.block,_,none⟩) (a':=⟨a'.block,_,none⟩) ⟨l _ _ e.block,rfl,rfl⟩ _
 ·exact .pure rfl
def AO(r:Rn)(b b':Option _):=(b=none/\b'=none)\/∃a a',b=some a/\b'=some a'/\Ad r a a'
theorem AO.mono{s:Rn}(l:Le r s){b b':Option _}(h:AO r b b'):AO s b b':=by
 rcases h with h|⟨a,a',h1,h2,h3⟩
 ·exact .inl h
 ·exact .inr ⟨a,a',h1,h2,h3.mono l⟩
theorem AO.slice{b b':Option _}(h:AO r b b')(l c:Nat):V r (.slice b l c) (.slice b' l c):=by
 rcases h with⟨rfl,rfl⟩|⟨a,a',rfl,rfl,h3⟩
 ·exact .bt l c
 ·exact .slice l c h3
omit [ak]in
theorem xS(size tN n:Nat)(b:Option Addr)(x:Value)(v:World):∃t,(aeZ size tN n b x).run P v=.ok t v:=by
 have hold:∀(a:Addr) (m:Nat),∃t,(afB a m).run P v=.ok t v:=fun a m=>by
  unfold afB;simp only[afC,shape,adJ,afe];split<;>exact⟨_,rfl⟩
 unfold aeZ;cases b with
 |none=>
  simp only[afC,Sem.run_pure,afe,afq,aem,if_false];split
  ·rename_i c _ _;obtain⟨t,e⟩:=hold c (n *size);simp_all
  ·simp
 |some a=>
  obtain⟨t,e⟩:=hold a (tN *size);simp only[afC,e,frozen,adJ,Sem.run_pure,afe];split
  ·simp
  ·split
   ·rename_i c _ _;obtain⟨t,e⟩:=hold c (n *size);simp_all
   ·simp
theorem VA.tO{z z':Array _}(h:VA r z z')(n:Nat):VA r (aeJ z n) (aeJ z' n):=by
 unfold aeJ;rw[<-h.size];have:=h.NC (n *z.size);rw[<-h.size]at this;omega
theorem aQ{c:Prop}[Decidable c]{x x' y y':Sem α}(h1:c->SR P A r x x')(h2:¬c->SR P A r y y'):SR P A r (if c then x else y) (if c then x' else y'):=by
 split
 ·simp_all
 ·simp_all
end
section
variable[ak]{P:Program}{r:Rn}{α:Type}{A:Rn->α->α->Prop}
theorem Sy(h:V r x x'):(∃base C3 n c,x=.slice base n c/\x'=.slice C3 n c/\AO r base C3)\/∀b n c,x≠.slice b n c:=by
 cases h with
 |bt l c=>exact .inl ⟨none,none,l,c,rfl,rfl,.inl ⟨rfl,rfl⟩⟩
 |slice l c ha=>exact .inl ⟨_,_,l,c,rfl,rfl,.inr ⟨_,_,rfl,rfl,ha⟩⟩
 |_=>exact .inr fun _ _ _ e=>by cases e
theorem C4(Z:pg P)(elem:TypeId)(size tN need Sz n:Nat)(hx:V r x x')(hy:V r y y'):
  SR P V r (do
    let si<-choose (.appendCap need Sz elem)
    askRoom (si *(<-typeInfo elem).bytes)
    let old<-adz size tN x
    let new<-adz size n y
    let rest:=aeJ (<-zeroValue elem).cells (si-need)
    pure (aeI (some (<-newRow elem (old++new++rest))) need si))
   (do
    let si<-choose (.appendCap need Sz elem)
    askRoom (si *(<-typeInfo elem).bytes)
    let old<-adz size tN x'
    let new<-adz size n y'
    let rest:=aeJ (<-zeroValue elem).cells (si-need)
    pure (aeI (some (<-newRow elem (old++new++rest))) need si)):=by
 refine SR.bind (ef _) ?_;rintro t1 nc _ l1 rfl;refine SR.bind (cT _) ?_;rintro t2 i _ l2 ⟨rfl,_⟩;refine SR.bind (se _) ?_;rintro t3 _ _ l3 _;refine SR.bind (g_ _ _ (((hx.mono l1).mono l2).mono l3)) ?_;intro t4 o o' l4 ho;refine SR.bind (g_ _ n ((((hy.mono l1).mono l2).mono l3).mono l4)) ?_;intro t5 c c' l5 hc;refine SR.bind (oD Z _) ?_;intro t6 z z' l6 hz;refine SR.bind (jy _ ((((ho.mono l5).append hc).mono l6).append (hz.cells.tO _))) ?_;intro t7 a a' l7 ha;exact .pure (.slice _ _ ha)
theorem j9{β:Type}{s s':Sem β}{f f':β->Sem α}(h:SR P (fun _ _ _=>False) r s s'):SR P A r (s.bind f) (s'.bind f'):=SR.bind h fun _ _ _ _ e=>e.elim
theorem SA{e:RuntimeError}(h:GN e){β:Type}:SR P (fun _ (_ _:β)=>False) r (runtimePanic e) (runtimePanic e):=iw h
theorem aT(t:TypeId):SR P (fun _ d d'=>d=d'/\P.underlying t=some d) r (underlying t) (underlying t):=by
 refine SR.bind bC ?_;rintro s p q _ ⟨hp,hq⟩;rw[hp,hq];cases h:P.underlying t with
 |some i=>exact .pure ⟨rfl,rfl⟩
 |none=>exact ae _
theorem Py(Z:pg P)(ts:Array TypeId)(t:TypeId)(hts:∀xT d,ts[1]?=some xT->P.underlying xT=some d->∀k,d≠.int k){a a':Array Value}(h:VA r a a'):SR P V r (afl ts t a) (afl ts t a'):=by
 unfold afl;cases h0:ts[0]? with
 |none=>exact ae _
 |some sT=>
  cases h1:a[0]? with
  |none=>rw[h.none h1];exact ae _
  |some s=>
   obtain⟨s',e1,hs⟩:=h.get h1;rw[e1];cases h2:a[1]? with
   |none=>rw[h.none h2];exact ae _
   |some x=>
    obtain⟨x',e2,hx⟩:=h.get h2;rw[e2];simp only;refine SR.bind (az sT) ?_;rintro t1 d _ l1 rfl;cases d with
    |slice elem=>
     simp only;rcases Sy hs with⟨base,C3,tN,Sz,rfl,rfl,hb⟩|p9
     ·simp only;refine SR.bind (bQ elem) ?_;rintro t2 size _ l2 rfl;have hxx:=(hx.mono l1).mono l2;have hbb:=(hb.mono l1).mono l2;cases hz:ts[1]? with
      |none=>
       refine SR.bind (A:=fun _ z z'=>z=false/\z'=false) (.pure ⟨rfl,rfl⟩) ?_;rintro t3 _ _ l3 ⟨rfl,rfl⟩;have Pz:=hxx.mono l3;have fj:=hbb.mono l3;change SR P V t3 (adv (aeu x) _) (adv (aeu x') _);refine SR.bind (zY Pz) ?_;rintro t4 n _ l4 rfl;refine aQ (fun hc=>?_) (fun hc=>?_)
       ·change SR P V t4 (adv (adz size n x) _) (adv (adz size n x') _);refine SR.bind (g_ size n (Pz.mono l4)) ?_;intro t5 c c' l5 hc5;rcases fj with⟨rfl,rfl⟩|⟨b,b',rfl,rfl,SB⟩
        ·exact .pure (.bt _ _)
        ·refine SR.bind (ft 0 (((SB.mono l4).mono l5).add _) hc5.toList) ?_;rintro t6 _ _ l6 _;exact .pure (.slice _ _ (((SB.mono l4).mono l5).mono l6))
       ·change SR P V t4 (adv (typeInfo elem) _) (adv (typeInfo elem) _);refine SR.bind (cT elem) ?_;rintro t5 i _ l5 ⟨rfl,_⟩;refine aQ (fun _=>?_) (fun _=>?_)
        ·exact j9 (SA (e:=.error "growslice: len out of range") trivial)
        ·change SR P V t5 (adv (typeInfo elem) _) (adv (typeInfo elem) _);refine SR.bind (cT elem) ?_;rintro t6 j _ l6 ⟨rfl,_⟩;refine aQ (fun _=>?_) (fun _=>?_)
         ·refine .lost fun v=>?_;obtain⟨b,e⟩:=xS (P:=P) size tN n base x v;change∃h v1,adJ P (adv (adv (aeZ size tN n base x) _) _) v=.halt h v1/\zV h;rw[adT,adT,e];cases b
          ·exact⟨_,_,rfl,.inl ⟨_,rfl,rfl⟩⟩
          ·exact⟨_,_,rfl,.inl ⟨_,rfl,rfl⟩⟩
         ·exact C4 Z elem size tN (tN+n) Sz n ((AO.mono ((l4.trans l5).trans l6) fj).slice _ _) (((Pz.mono l4).mono l5).mono l6)
      |some xT=>
       refine SR.bind (aT xT) ?_;rintro t3' d _ l3' ⟨rfl,hd⟩;refine SR.bind (A:=fun _ z z'=>z=false/\z'=false) (.pure ?_) ?_
       ·simp_all
       rintro t3 _ _ anb ⟨rfl,rfl⟩;have l3:=l3'.trans anb;have Pz:=hxx.mono l3;have fj:=hbb.mono l3;change SR P V t3 (adv (aeu x) _) (adv (aeu x') _);refine SR.bind (zY Pz) ?_;rintro t4 n _ l4 rfl;refine aQ (fun hc=>?_) (fun hc=>?_)
       ·change SR P V t4 (adv (adz size n x) _) (adv (adz size n x') _);refine SR.bind (g_ size n (Pz.mono l4)) ?_;intro t5 c c' l5 hc5;rcases fj with⟨rfl,rfl⟩|⟨b,b',rfl,rfl,SB⟩
        ·exact .pure (.bt _ _)
        ·refine SR.bind (ft 0 (((SB.mono l4).mono l5).add _) hc5.toList) ?_;rintro t6 _ _ l6 _;exact .pure (.slice _ _ (((SB.mono l4).mono l5).mono l6))
       ·change SR P V t4 (adv (typeInfo elem) _) (adv (typeInfo elem) _);refine SR.bind (cT elem) ?_;rintro t5 i _ l5 ⟨rfl,_⟩;refine aQ (fun _=>?_) (fun _=>?_)
        ·exact j9 (SA (e:=.error "growslice: len out of range") trivial)
        ·change SR P V t5 (adv (typeInfo elem) _) (adv (typeInfo elem) _);refine SR.bind (cT elem) ?_;rintro t6 j _ l6 ⟨rfl,_⟩;refine aQ (fun _=>?_) (fun _=>?_)
         ·refine .lost fun v=>?_;obtain⟨b,e⟩:=xS (P:=P) size tN n base x v;change∃h v1,adJ P (adv (adv (aeZ size tN n base x) _) _) v=.halt h v1/\zV h;rw[adT,adT,e];cases b
          ·exact⟨_,_,rfl,.inl ⟨_,rfl,rfl⟩⟩
          ·exact⟨_,_,rfl,.inl ⟨_,rfl,rfl⟩⟩
         ·exact C4 Z elem size tN (tN+n) Sz n ((AO.mono ((l4.trans l5).trans l6) fj).slice _ _) (((Pz.mono l4).mono l5).mono l6)
     ·cases hs with
      |bt l c=>exact absurd rfl (p9 _ _ _)
      |slice l c ha=>exact absurd rfl (p9 _ _ _)
      |_=>exact ae _
    |_=>exact ae _
end
section
variable[ak]{P:Program}{r:Rn}{α:Type}{A:Rn->α->α->Prop}
theorem ND{β γ:Type}(g:β->Sem γ)(h:∀b t,SR P iO t (g b) (g b)):∀(l:List β) r,SR P iO r (l.mapM g) (l.mapM g)
 |[],r=>by exact .pure rfl
 |b::l,r=>by
  rw[List.mapM_cons];refine SR.bind (h b r) ?_;rintro t x _ l1 rfl;refine SR.bind (ND g h l t) ?_;rintro u xs _ l2 rfl;exact .pure rfl
theorem SC{β γ:Type}(g:β->Sem γ)(h:∀b t,SR P iO t (g b) (g b))(a:Array β):SR P iO r (a.mapM g) (a.mapM g):=by
 rw[Array.mapM_eq_mapM_toList];refine SR.bind (ND g h _ r) ?_;rintro t x _ l rfl;exact .pure rfl
inductive PL(r:Rn):List (Nat×Value)->List (Nat×Value)->Prop
 |nil:PL r [] []
 |cons (i:Nat) {x y:Value} {xs ys:List (Nat×Value)}:V r x y->PL r xs ys->PL r ((i,x)::xs) ((i,y)::ys)
theorem PL.mono{s:Rn}(h:Le r s){xs ys:List _}(k:PL r xs ys):PL s xs ys:=by
 induction k with
 |nil=>exact .nil
 |cons i x _ ih=>exact .cons i (x.mono h) ih
theorem GP(off:Nat):∀{xs ys:List _} k {c c':Array _},VL r xs ys->VA r c c'->
  VA r ((xs.zipIdx k).foldl (fun cs p=>cs.setIfInBounds (off+p.2) p.1) c) ((ys.zipIdx k).foldl (fun cs p=>cs.setIfInBounds (off+p.2) p.1) c')
 |_,_,k,c,c',.nil,h=>h
 |_,_,k,c,c',.cons x xs,h=>by
  exact GP off (k+1) xs (h.set _ x)
theorem tP(place:Nat->Option _):∀{ps qs:List _} {c c':Array _},PL r ps qs->VA r c c'->
  (aeV place c ps=none/\aeV place c' qs=none)\/∃d d',aeV place c ps=some d/\aeV place c' qs=some d'/\VA r d d'
 |_,_,c,c',.nil,h=>.inr ⟨c,c',rfl,rfl,h⟩
 |_,_,c,c',.cons i hx rest,h=>by
  unfold aeV;cases place i with
  |none=>exact .inl ⟨rfl,rfl⟩
  |some p=>
   obtain⟨off,size⟩:=p;simp only;rw[<-hx.cells.size,<-h.size];split
   ·simp
   ·refine tP _ rest ?_;rw[<-afD,<-afD,afu,afu];exact GP off 0 hx.cells.toList h
theorem SD(Z:pg P)(t:TypeId){ps qs:Array _}(h:PL r ps.toList qs.toList):SR P V r (Instr.build t ps) (Instr.build t qs):=by
 refine SR.bind (oD Z t) ?_;intro t1 z z' l1 hz;refine SR.bind (az t) ?_;rintro t2 d _ l2 rfl;have hc:=hz.cells.mono l2;have hp:=(h.mono l1).mono l2;cases d with
 |struct fields=>
  refine SR.bind (SC _ (fun f u=>SR.bind (bQ _) fun _ _ _ _ e=>e▸ .pure rfl) _) ?_;rintro t3 places _ l3 rfl;rcases tP _ (hp.mono l3) (hc.mono l3)with⟨e1,e2⟩|⟨d,d',e1,e2,hd⟩
  ·rw[e1];exact ae _
  ·rw[e1,e2];exact .pure (.NB hd)
 |array len elem=>
  refine SR.bind (bQ _) ?_;rintro t3 size _ l3 rfl;rcases tP _ (hp.mono l3) (hc.mono l3)with⟨e1,e2⟩|⟨d,d',e1,e2,hd⟩
  ·rw[e1];exact ae _
  ·rw[e1,e2];exact .pure (.NB hd)
 |_=>exact ae _
theorem B_(Z:pg P)(t:TypeId)(len:Nat){ps qs:Array _}(h:PL r ps.toList qs.toList):SR P V r (afR t len ps) (afR t len qs):=by
 refine SR.bind (az t) ?_;rintro t1 d _ l1 rfl;cases d with
 |slice elem=>
  refine SR.bind (bQ _) ?_;rintro t2 size _ l2 rfl;refine aQ (fun _=>j9 (ah _)) (fun _=>?_);have go:∀{t3:Rn} {z z':Array _},Le t2 t3->VA t3 z z'->SR P V t3
    (match aeV (fun i=>some (i *size,size)) ((aeB (len *size)).map (z[· %z.size]!)) ps.toList with
     |some cells=>do pure (aeI (some (<-newRow elem cells)) len len)
     |_=>stuck "buildSlice: a part of the wrong size")
    (match aeV (fun i=>some (i *size,size)) ((aeB (len *size)).map (z'[· %z'.size]!)) qs.toList with
     |some cells=>do pure (aeI (some (<-newRow elem cells)) len len)
     |_=>stuck "buildSlice: a part of the wrong size"):=by
   intro t3 z z' l3 hz;rcases tP _ (((h.mono l1).mono l2).mono l3) (hz.NC _)with⟨e1,e2⟩|⟨d,d',e1,e2,hd⟩
   ·rw[e1];exact ae _
   ·rw[e1,e2];exact SR.bind (jy _ hd) fun _ _ _ _ e=>.pure (.slice _ _ e)
  refine aQ (fun _=>?_) (fun _=>?_)
  ·exact go (.refl _) .nil
  ·refine SR.bind (oD Z _) ?_;intro t3 z z' l3 hz;exact go l3 hz.cells
 |_=>exact ae _
def plainKey(d:TypeDesc):=(∃k,d=.int k)\/d=.string\/d=.bool
theorem xU(e:Bool)(t:TypeId)(v v':Value)(h:∀d,P.underlying t=some d->plainKey d):SR P iO r (ae0 e 10000 t v) (ae0 e 10000 t v'):=by
 refine SR.bind (aT t) ?_;rintro t1 d _ l1 ⟨rfl,hd⟩;rcases h d hd with⟨k,rfl⟩|rfl|rfl<;>exact .pure rfl
inductive Full:Value->Prop
 |int (k:IntKind) (n:Int):Full (.int k n)
 |string (s:ByteArray):Full (.string s)
 |bool (b:Bool):Full (.bool b)
 |ptr (a:Addr):Full (.pointer (some a))
def Met(k:Value)(es:List MapEntry)(i j:Nat):=Full k/\i<=j/\∃x,es[j-i]?=some x/\Full x.key
theorem Met.cons{es:List _}(x:MapEntry)(h:Met k es (i+1) j):Met k (x::es) i j:=by
 obtain⟨h1,h2,y,h3,h4⟩:=h;refine⟨h1,by omega,y,?_,h4⟩;rw[show j-i=(j-(i+1))+1 by omega];simp_all
theorem tQ{d:TypeDesc}{e:Value}{b:Bool}(h:aev d k e=some b):Full k/\Full e:=by
 unfold aev at h;split at h
 ·exact⟨.int _ _,.int _ _⟩
 ·exact⟨.string _,.string _⟩
 ·exact⟨.bool _,.bool _⟩
 ·cases h
def Blank(x:Value):=x=.tuple #[]
theorem GQ{d:TypeDesc}{e e':Value}(hd:plainKey d)(h:V r k k')(h':V r e e')(n:¬Blank k)(n':¬Blank e):aev d k' e'=aev d k e:=by
 cases h with
 |blank _=>exact absurd rfl n
 |_=>
  cases h' with
  |blank _=>exact absurd rfl n'
  |_=>rcases hd with⟨j,rfl⟩|rfl|rfl<;>rfl
omit [ak]in
theorem Ca{d:TypeDesc}{e:Value}(h:Blank k\/Blank e):aev d k e=none:=by
 rcases h with h|h<;>(rw[h];cases d<;>first|rfl|(cases k<;>rfl))
omit [ak]in
theorem xV{e:Value}(hk:∀d,P.underlying t=some d->plainKey d)(h:Blank k\/Blank e)(v:World):∃x v1,(adM t k e).run P v=.halt x v1/\zV x:=by
 unfold adM ae5;rw[show(10000:Nat)=9999+1 from rfl];unfold aff underlying program;cases hd:P.underlying t with
 |none=>exact⟨.stuck "no such type",v,by simp[adJ,bind,adv,hd,stuck],.inr ⟨_,rfl⟩⟩
 |some d=>
  have key:∀{x:Sem Bool},(∃u,x=unsupported u/\EC u=false)\/(∃y,x=stuck y)->∃z v1,x.run P v=.halt z v1/\zV z:=by
   rintro x (⟨u,rfl,hu⟩|⟨y,rfl⟩)
   ·exact⟨_,_,rfl,.inl ⟨_,rfl,hu⟩⟩
   ·exact⟨_,_,rfl,.inr ⟨_,rfl⟩⟩
  simp only[bind,adv,adJ,hd];rcases hk d hd with⟨j,rfl⟩|rfl|rfl<;>rcases h with h|h<;>rw[h]<;>(first|(cases k with|pointer a=>(cases a<;>exact key (by first|exact .inl ⟨_,rfl,rfl⟩|exact .inr ⟨_,rfl⟩))|_=>exact key (by first|exact .inl ⟨_,rfl,rfl⟩|exact .inr ⟨_,rfl⟩))|(cases e with|pointer a=>(cases a<;>exact key (by first|exact .inl ⟨_,rfl,rfl⟩|exact .inr ⟨_,rfl⟩))|_=>exact key (by first|exact .inl ⟨_,rfl,rfl⟩|exact .inr ⟨_,rfl⟩)))
omit [ak]in
theorem PA{d:TypeDesc}{e:Value}{b:Bool}(hd:P.underlying t=some d)(h:aev d k e=some b)(v:World):(adM t k e).run P v=.ok b v:=by
 unfold adM ae5;rw[show(10000:Nat)=9999+1 from rfl];unfold aff underlying program;simp only[bind,adv,adJ,hd];unfold aev at h;split at h
 ·split at h
  ·rename_i hk;subst hk;rw[<-adC h];simp[pure,adv]
  ·cases h
 ·rw[<-adC h];rfl
 ·rw[<-adC h];rfl
 ·cases h
inductive EL(r:Rn):List MapEntry->List MapEntry->Prop
 |nil:EL r [] []
 |cons {x y:MapEntry} {xs ys:List MapEntry}:En r x y->EL r xs ys->EL r (x::xs) (y::ys)
theorem EL.mono{s:Rn}(h:Le r s){xs ys:List _}(k:EL r xs ys):EL s xs ys:=by
 induction k with
 |nil=>exact .nil
 |cons x _ ih=>exact .cons (x.mono h) ih
def af_(P:Program)(t:TypeId)(k:Value)(es:List MapEntry):Prop:=∀(i:Nat) (v:World),∃x v1,(afg t k es i).run P v=.halt x v1/\zV x
theorem xW{d:TypeDesc}(ht:P.underlying t=some d)(hd:plainKey d)(h:V r k k'):∀{es kA:List _} i,EL r es kA->
  (adU d k es i=none/\af_ P t k es)\/
  (adU d k es i=none/\adU d k' kA i=none)\/(adU d k es i=some none/\adU d k' kA i=some none)\/
   ∃j v v',adU d k es i=some (some (j,v))/\adU d k' kA i=some (some (j,v'))/\V r v v'/\Met k es i j
 |_,_,i,.nil=>.inr (.inr (.inl ⟨rfl,rfl⟩))
 |_,_,i,.cons (x:=x) (y:=y) hx rest=>by
  have hk:∀d',P.underlying t=some d'->plainKey d':=fun d' e=>by simp_all
  by_cases hb:Blank k\/Blank x.key
  ·refine .inl ⟨by unfold adU;rw[Ca hb],fun j v=>?_⟩;obtain⟨z,v1,e,hl⟩:=xV hk hb v;refine⟨z,v1,?_,hl⟩;show(adv _ _).run P v=_
   rw[adT,e];rfl
  ·have n1:=fun z=>hb (.inl z);have n2:=fun z=>hb (.inr z);unfold adU;rw[GQ hd h hx.key n1 n2];cases hs:aev d k _ with
   |none=>exact .inr (.inl ⟨rfl,rfl⟩)
   |some b=>
    cases b with
    |true=>exact .inr (.inr (.inr ⟨i,x.val,y.val,rfl,rfl,hx.val,(tQ hs).1,ady _,x,by simp,(tQ hs).2⟩))
    |false=>
     rcases xW ht hd h _ rest with⟨e1,e2⟩|q
     ·refine .inl ⟨e1,fun j v=>?_⟩;obtain⟨z,v1,e,hl⟩:=e2 _ v;refine⟨z,v1,?_,hl⟩;show(adv _ _).run P v=_
      rw[adT,PA ht hs v];exact e
     ·exact .inr (q.imp id (Or.imp id fun⟨j,v,v',a1,a2,a3,a4⟩=>⟨j,v,v',a1,a2,a3,a4.cons x⟩))
def NW(r:Rn)(x y:Option (Addr×Bool)):=(x=none/\y=none)\/∃a a' t,x=some (a,t)/\y=some (a',t)/\Ad r a a'
theorem xX(h:r b=some b'):SR P NW r (numberAt b) (numberAt b'):=by
 refine SR.bind (eg h) ?_;rintro t x _ l rfl;split
 ·exact .pure (.inl ⟨rfl,rfl⟩)
 ·refine SR.bind (cJ (l _ _ h)) ?_;intro u o o' _ ho;cases ho with
  |number l a=>exact .pure (.inr ⟨_,_,_,rfl,rfl,a⟩)
  |_=>exact .pure (.inl ⟨rfl,rfl⟩)
theorem jB(h:Ad r a a'):SR P (fun s x y=>Ad s x.1 y.1/\x.2=y.2) r (behindNumber a) (behindNumber a'):=by
 refine SR.bind (xX h.block) ?_;rintro t x y l (⟨rfl,rfl⟩|⟨_,_,_,rfl,rfl,ha⟩)
 ·exact .pure ⟨h.mono l,rfl⟩
 ·exact .pure ⟨ha,rfl⟩
theorem Ad.eq_iff{b b':Addr}(h:Ad r a a')(k:Ad r b b'):(a'==b')=(a==b):=by
 rw[afm];simp;constructor
 ·intro e;have e1:=r.inj _ _ _ h.block (by rw[k.block,e]);have e2:a.off=b.off:=by rw[<-h.off,<-k.off,e]
  have e3:a.spot=b.spot:=by rw[<-h.spot,<-k.spot,e]
  obtain⟨x,y,z⟩:=a;simp_all
 ·intro e;have e1:=by have:=h.block;rw[e,k.block]at this;exact(adC this).symm
  have e2:a'.off=b'.off:=by rw[h.off,k.off,e]
  have e3:a'.spot=b'.spot:=by rw[h.spot,k.spot,e]
  obtain⟨x,y,z⟩:=a';simp_all
theorem Ad.EE{b b':Addr}(h:Ad r a a')(k:Ad r b b'):(a'.block==b'.block)=(a.block==b.block):=by
 rw[afm];simp;constructor
 ·exact fun e=>r.inj _ _ _ h.block (by rw[k.block,e])
 ·intro e;have:=h.block;rw[e,k.block]at this;simp_all
theorem GR(hG:ak.size=P.globals.size)(hk:∀d,P.underlying t=some d->plainKey d)(hx:V r x x')(hy:V r y y'):SR P (fun _ b b'=>b=b'/\(b=true->Full x/\Full y)) r (adM t x y) (adM t x' y'):=by
 unfold adM ae5;rw[show(10000:Nat)=9999+1 from rfl];unfold aff;refine SR.bind (aT t) ?_;rintro t1 d _ l1 ⟨rfl,hd⟩;have pN:=hx.mono l1;have ti:=hy.mono l1;rcases hk d hd with⟨k,rfl⟩|rfl|rfl
 ·cases pN with
  |int k1 n1=>
   cases ti with
   |int k2 n2=>exact aQ (fun _=>.pure ⟨rfl,fun _=>⟨.int _ _,.int _ _⟩⟩) (fun _=>ae _)
   |ptr hb=>
    by_cases h0:n1=0
    ·subst h0;exact .pure ⟨rfl,fun h=>by cases h⟩
    ·simp only;split<;>first|(exfalso;simp_all;done)|exact .pure ⟨rfl,fun h=>by cases h⟩|exact ah _|exact ae _
   |nilPtr=>exact ah _
   |_=>exact ae _
  |nilPtr=>cases ti<;>first|exact ah _|exact ae _
  |ptr ha=>
   cases ti with
   |int k2 n2=>
    by_cases h0:n2=0
    ·subst h0;exact .pure ⟨rfl,fun h=>by cases h⟩
    ·simp only;split<;>first|(exfalso;simp_all;done)|exact .pure ⟨rfl,fun h=>by cases h⟩|exact ah _|exact ae _
   |ptr hb=>
    simp only;refine SR.bind (jB ha) ?_;rintro t2 ⟨a1,la⟩ ⟨a2,la'⟩ l2 ⟨WR,_⟩;refine SR.bind (jB (hb.mono l2)) ?_;rintro t3 ⟨b1,lb⟩ ⟨b2,lb'⟩ l3 ⟨fj,_⟩;have ha3:=WR.mono l3;simp only at ha3 fj;refine SR.bind bC ?_;rintro t4 p q l4 ⟨hp,hq⟩;rw[hp,hq];have e1:=ha3.EE fj;have e2:=ha3.eq_iff fj;have e3:=t3.fK _ _ ha3.block;rw[hG]at e3;simp only[e1,e2,decide_eq_decide.2 e3.symm];refine aQ (fun _=>?_) (fun _=>?_)
    ·refine SR.bind (jA (ha3.mono l4)) ?_;rintro t5 u _ l5 rfl;refine SR.bind (jA ((fj.mono l4).mono l5)) ?_;rintro t6 v _ l6 rfl;exact .pure ⟨rfl,fun _=>⟨.ptr _,.ptr _⟩⟩
    ·refine SR.bind (cT t) ?_;rintro t5 i _ l5 ⟨rfl,_⟩;split
     ·exact aQ (fun _=>.pure ⟨rfl,fun _=>⟨.ptr _,.ptr _⟩⟩) (fun _=>ah _)
     ·exact ah _
   |_=>exact ah _
  |_=>cases ti<;>first|exact ah _|exact ae _
 ·cases pN with
  |string a=>
   cases ti with
   |string b=>exact .pure ⟨rfl,fun _=>⟨.string _,.string _⟩⟩
   |_=>exact ae _
  |_=>exact ae _
 ·cases pN with
  |bool a=>
   cases ti with
   |bool b=>exact .pure ⟨rfl,fun _=>⟨.bool _,.bool _⟩⟩
   |_=>exact ae _
  |_=>exact ae _
theorem rC(hG:ak.size=P.globals.size)(hk:∀d,P.underlying t=some d->plainKey d):∀{es kA:List _} i {r:Rn},V r k k'->EL r es kA->
  SR P (fun r o o'=>(o=none/\o'=none)\/∃j v v',o=some (j,v)/\o'=some (j,v')/\V r v v'/\Met k es i j) r (afg t k es i) (afg t k' kA i)
 |_,_,i,r,h,.nil=>.pure (.inl ⟨rfl,rfl⟩)
 |_,_,i,r,h,.cons hx rest=>by
  refine SR.bind (GR hG hk h hx.key) ?_;rintro t1 b _ l1 ⟨rfl,hf⟩;refine aQ (fun hb=>.pure (.inr ⟨i,_,_,rfl,rfl,hx.val.mono l1,(hf hb).1,ady _,_,by simp,(hf hb).2⟩)) (fun _=>?_);exact(rC hG hk _ (h.mono l1) (rest.mono l1)).imp fun t a a' _ ha=>ha.imp id fun⟨j,v,v',a1,a2,a3,a4⟩=>⟨j,v,v',a1,a2,a3,a4.cons _⟩
theorem zZ(hG:ak.size=P.globals.size)(hk:∀d,P.underlying t=some d->plainKey d)(h:V r k k'){es kA:List _}(he:EL r es kA):
  SR P (fun r o o'=>(o=none/\o'=none)\/∃j v v',o=some (j,v)/\o'=some (j,v')/\V r v v'/\Met k es 0 j) r (afa t k es) (afa t k' kA):=by
 refine SR.bind (aT t) ?_;rintro t1 d _ l1 ⟨rfl,hd⟩;rcases xW hd (hk d hd) (h.mono l1) 0 (he.mono l1)with⟨e1,e2⟩|⟨e1,e2⟩|⟨e1,e2⟩|⟨j,v,v',e1,e2,hv,hm⟩
 ·rw[e1];exact .lost fun v=>e2 0 v
 ·rw[e1,e2];exact rC hG hk 0 (h.mono l1) (he.mono l1)
 ·rw[e1,e2];exact .pure (.inl ⟨rfl,rfl⟩)
 ·rw[e1,e2];exact .pure (.inr ⟨j,v,v',rfl,rfl,hv,hm⟩)
structure EA(r:Rn)(es kA:Array MapEntry):Prop where
 size:es.size=kA.size
 at_:∀(i:Nat) x x',es[i]?=some x->kA[i]?=some x'->En r x x'
theorem EA.mono{s:Rn}(h:Le r s){es kA:Array _}(k:EA r es kA):EA s es kA:=⟨k.size,fun i x x' e e'=>(k.at_ i x x' e e').mono h⟩
theorem EA.toList{c c':Array _}(h:EA r c c'):EL r c.toList c'.toList:=by
 obtain⟨c⟩:=c;obtain⟨c'⟩:=c';obtain⟨hs,hi⟩:=h;induction c generalizing c' with
 |nil=>cases c' with
  |nil=>exact .nil
  |cons y ys=>simp at hs
 |cons x xs ih=>cases c' with
  |nil=>simp at hs
  |cons y ys=>exact .cons (hi 0 x y rfl rfl) (ih ys (by simpa using hs) fun i a b e e'=>hi (i+1) a b (by simpa using e) (by simpa using e'))
theorem EL.toArray{xs ys:List _}(h:EL r xs ys):EA r xs.toArray ys.toArray:=by
 induction h with
 |nil=>exact⟨rfl,fun i x x' e=>by simp⟩
 |cons x _ ih=>
  obtain⟨hs,hi⟩:=ih;simp at hs hi;refine⟨by simp_all,fun i a b e e'=>?_⟩;simp at e e';cases i with
  |zero=>simp at e e';simp_all
  |succ i=>exact hi i a b e e'
theorem EA.push{c c':Array _}(h:EA r c c'){x x':MapEntry}(hx:En r x x'):EA r (c.push x) (c'.push x'):=by
 refine⟨by simp[h.size],fun i y y' e e'=>?_⟩;have hs:=h.size;rw[aew]at e e';rw[<-hs]at e';split at e
 ·simp_all
 ·rename_i hi;rw[if_neg hi]at e';exact h.at_ i y y' e e'
theorem EA.get{c c':Array _}(h:EA r c c'){x:MapEntry}(e:c[i]?=some x):∃x',c'[i]?=some x'/\En r x x':=by
 obtain⟨aV,_⟩:=adK.1 e;have WN:=h.size▸aV;exact⟨c'[i],by simp,h.at_ i x _ e (by simp)⟩
theorem EA.none{c c':Array _}(h:EA r c c')(e:c[i]?=none):c'[i]?=none:=by
 simp at e⊢;have:=h.size;omega
theorem EA.modify{c c':Array _}(h:EA r c c')(i:Nat)(f f':MapEntry->MapEntry)(hf:∀x x',En r x x'->En r (f x) (f' x')):EA r (c.modify i f) (c'.modify i f'):=by
 refine⟨by simp[h.size],fun j y y' e e'=>?_⟩;rw[Array.getElem?_modify]at e e';by_cases Ro:i=j
 ·rw[if_pos Ro]at e e';obtain⟨x,hx,rfl⟩:=aeX.1 e;obtain⟨x',oj,rfl⟩:=aeX.1 e';exact hf x x' (h.at_ j x x' hx oj)
 ·rw[if_neg Ro]at e e';exact h.at_ j y y' e e'
theorem O.mapOf{c c':Array _}(h:EA r c c')(n:Nat):O r (.map c n) (.map c' n):=.map n h.size h.at_
theorem PD(Z:pg P)(hG:ak.size=P.globals.size)(ht:∀k e,P.underlying t=some (.map k e)->∀d,P.underlying k=some d->plainKey d)(hx:V r x x')(hy:V r y y')(ok:Bool):
  SR P V r (afE t x y ok) (afE t x' y' ok):=by
 unfold afE;refine SR.bind (aT t) ?_;rintro t1 d _ l1 ⟨rfl,hd⟩;cases d with
 |map key elem=>
  have hk:=ht key elem hd;simp only;have tail:∀{s:Rn} {es kA:Array MapEntry},Le t1 s->EA s es kA->SR P V s
    (do
      ae0 es.isEmpty 10000 key y
      let o<-afa key y es.toList
      match o with
       |some (_,v)=>(do let(v,ok')<-pure (v,true);pure (if ok=true then ae6 #[v,.bool ok']else v))
       |none=>(do let z<-zeroValue elem;let(v,ok')<-pure (z,false);pure (if ok=true then ae6 #[v,.bool ok']else v)))
    (do
      ae0 kA.isEmpty 10000 key y'
      let o<-afa key y' kA.toList
      match o with
       |some (_,v)=>(do let(v,ok')<-pure (v,true);pure (if ok=true then ae6 #[v,.bool ok']else v))
       |none=>(do let z<-zeroValue elem;let(v,ok')<-pure (z,false);pure (if ok=true then ae6 #[v,.bool ok']else v))):=by
   intro s es kA l he;have hem:kA.isEmpty=es.isEmpty:=by
    have:=he.size;rw[afm];simp[Array.isEmpty,this]
   rw[hem];refine SR.bind (xU _ _ _ _ hk) ?_;rintro t2 _ _ l2 _;refine SR.bind (zZ hG hk (((hy.mono l1).mono l).mono l2) (he.mono l2).toList) ?_;rintro t3 o o' l3 (⟨rfl,rfl⟩|⟨j,v,v',rfl,rfl,hv,_⟩)
   ·refine SR.bind (oD Z elem) ?_;intro t4 z z' l4 hz;cases ok
    ·exact .pure hz
    ·exact .pure (.jS (.two hz (.bool _)))
   ·cases ok
    ·exact .pure hv
    ·exact .pure (.jS (.two hv (.bool _)))
  have pN:=hx.mono l1;cases pN with
  |ik=>exact tail (.refl _) ⟨rfl,fun i x x' e=>by simp at e⟩
  |map e=>
   refine SR.bind (cJ e) ?_;intro t2 o o' l2 ho;cases ho with
   |map cl hs hi=>exact tail l2 ⟨hs,hi⟩
   |_=>exact ae _
  |_=>exact ae _
 |_=>exact ae _
end
section
variable[ak]{P:Program}{r:Rn}{α:Type}{A:Rn->α->α->Prop}
theorem EF{a a' b b':Value}(fa:Full a)(fb:Full b)(h:V r a a')(k:V r b b'):Instr.sameBits n a' b'=Instr.sameBits n a b:=by
 have ptr:∀{a a' b b':Addr},Ad r a a'->Ad r b b'->((some a')==some b')=(some a==some b):=fun h k=>by
  have:=h.eq_iff k;simp_all
 cases fa<;>cases h<;>cases fb<;>cases k<;>cases n<;>first|rfl|(exact ptr (by omega) (by omega))
theorem GU{a a' b b':Value}(fa:Full a)(fb:Full b)(h:V r a a')(k:V r b b'):SR P V r (ae8 a b) (ae8 a' b'):=by
 unfold ae8;rw[EF fa fb h k];refine aQ (fun _=>.pure k) (fun _=>?_);refine SR.bind (ef _) ?_;rintro t n _ l rfl;by_cases hn:n=0
 ·simp[hn];exact .pure (k.mono l)
 ·simp[hn];exact .pure (h.mono l)
theorem EG(hG:ak.size=P.globals.size)(ht:∀k e,P.underlying t=some (.map k e)->∀d,P.underlying k=some d->plainKey d){z z':Value}(hx:V r x x')(hy:V r y y')(hz:V r z z'):
  SR P iO r (afV t x y z) (afV t x' y' z'):=by
 refine SR.bind (aT t) ?_;rintro t1 d _ l1 ⟨rfl,hd⟩;cases d with
 |map key elem=>
  have hk:=ht key _ hd;have pN:=hx.mono l1;cases pN with
  |ik=>exact iw trivial
  |map e=>
   refine SR.bind (cJ e) ?_;intro t2 o o' l2 ho;cases ho with
   |map cl hs hi=>
    rename_i es kA;have he:EA t2 es kA:=⟨hs,hi⟩;refine SR.bind (xU _ _ _ _ hk) ?_;rintro t3 _ _ l3 _;have hy3:=((hy.mono l1).mono l2).mono l3;refine SR.bind (zZ hG hk hy3 (he.mono l3).toList) ?_;rintro t4 o o' l4 (⟨rfl,rfl⟩|⟨j,v,v',rfl,rfl,hv,fy,_,xm,hxm,fx⟩)
    ·exact iu (((l2.trans l3).trans l4) _ _ e) (.mapOf (((he.mono l3).mono l4).push (x:={key:=y,val:=z,born:=cl}) (x':={key:=y',val:=z',born:=cl}) ⟨hy3.mono l4,hz.mono (((l1.trans l2).trans l3).trans l4),rfl⟩) _)
    ·simp only;have hj:=by simpa using hxm
     obtain⟨xm',ej',V5⟩:=he.get hj;rw[hj,ej'];refine SR.bind (GU fx fy ((V5.key.mono l3).mono l4) (hy3.mono l4)) ?_;intro t5 k5 k5' l5 hk5;exact iu ((((l2.trans l3).trans l4).trans l5) _ _ e) (.mapOf ((((he.mono l3).mono l4).mono l5).modify j (fun e=>{e with key:=k5,val:=z}) (fun e=>{e with key:=k5',val:=z'}) fun x x' oj=>⟨hk5,hz.mono ((((l1.trans l2).trans l3).trans l4).trans l5),oj.born⟩) _)
   |_=>exact ae _
  |_=>exact ae _
 |_=>exact ae _
theorem SE(t:TypeId)(hx:V r x x'):SR P V r (Instr.range t x) (Instr.range t x'):=by
 refine SR.bind (az t) ?_;rintro t1 d _ l1 rfl;have fin:∀{s:Rn} {o o':Obj},O s o o'->SR P V s (do pure (ae_ (some ⟨<-newObj o,0,none⟩))) (do pure (ae_ (some ⟨<-newObj o',0,none⟩))):=fun ho=>
  SR.bind (sd ho) fun s b b' _ e=>.pure (.ptr ⟨e,rfl,rfl⟩)
 have pN:=hx.mono l1;cases d with
 |string=>
  cases pN with
  |string s=>exact fin (.stringIter s 0)
  |_=>exact ae _
 |map k e=>
  cases pN with
  |ik=>exact fin (.c9 _ _ _)
  |map eb=>
   refine SR.bind (cJ eb) ?_;intro t2 o o' l2 ho;cases ho with
   |map cl hs hi=>exact fin (.mapIter _ _ _ (l2 _ _ eb))
   |_=>exact ae _
  |_=>exact ae _
 |_=>exact ae _
theorem EL.filter{xs ys:List _}(h:EL r xs ys)(f:MapEntry->Bool)(hf:∀x y,En r x y->f y=f x):EL r (xs.filter f) (ys.filter f):=by
 induction h with
 |nil=>exact .nil
 |cons x _ ih=>
  rw[afS,afS,hf _ _ x];split
  ·exact .cons x ih
  ·omega
theorem EA.filter{c c':Array _}(h:EA r c c')(f:MapEntry->Bool)(hf:∀x y,En r x y->f y=f x):EA r (c.filter f) (c'.filter f):=by
 have:=(h.toList.filter f hf).toArray;rw[<-afv,<-afv,aeL,aeL]at this;omega
theorem EA.append{a a' b b':Array _}(h:EA r a a')(k:EA r b b'):EA r (a++b) (a'++b'):=by
 have app:∀{xs ys us vs:List _},EL r xs ys->EL r us vs->EL r (xs++us) (ys++vs):=fun h k=>by
  induction h with
  |nil=>exact k
  |cons x _ ih=>exact .cons x ih
 have:=(app h.toList k.toList).toArray;rw[<-afw,<-afw,aeL,aeL]at this;omega
theorem EA.all{c c':Array _}(h:EA r c c')(f:MapEntry->Bool)(hf:∀x y,En r x y->f y=f x):c'.all f=c.all f:=by
 have key:∀{xs ys:List _},EL r xs ys->ys.all f=xs.all f:=fun h=>by
  induction h with
  |nil=>rfl
  |cons x _ ih=>simp;rw[hf _ _ x,ih]
 have:=key h.toList;simp_all
theorem EA.isEmpty{c c':Array _}(h:EA r c c'):c'.isEmpty=c.isEmpty:=by
 have:=h.size;simp[Array.isEmpty,this]
theorem SG{c c':Array _}(h:EA r c c')(b:Bool):((if b=true then#[none]else#[])++c'.map some).size=((if b=true then#[none]else#[])++c.map some).size/\
  ∀i:Nat,(((if b=true then#[none]else#[])++c.map some)[i]?=none/\((if b=true then#[none]else#[])++c'.map some)[i]?=none)\/(((if b=true then#[none]else#[])++c.map some)[i]?=some none/\((if b=true then#[none]else#[])++c'.map some)[i]?=some none)\/
   ∃e e',((if b=true then#[none]else#[])++c.map some)[i]?=some (some e)/\((if b=true then#[none]else#[])++c'.map some)[i]?=some (some e')/\En r e e':=by
 have hs:=h.size;have one:∀i:Nat,((c.map some)[i]?=none/\(c'.map some)[i]?=none)\/∃e e',(c.map some)[i]?=some (some e)/\(c'.map some)[i]?=some (some e')/\En r e e':=by
  intro i;simp;cases hi:c[i]? with
  |none=>left;simp_all
  |some x=>obtain⟨x',e',oj⟩:=h.get hi;simp_all
 cases b with
 |false=>
  simp only[aem,if_false,Array.empty_append];exact⟨by simp[hs],fun i=>(one i).imp id .inr⟩
 |true=>
  simp only[if_true];refine⟨by simp[hs],fun i=>?_⟩;cases i with
  |zero=>exact .inr (.inl ⟨by rw[afb (by simp)];rfl,by rw[afb (by simp)];rfl⟩)
  |succ i=>
   have e1:(#[none]++c.map _)[i+1]?=(c.map some)[i]?:=ae9 (by simp);have e2:(#[none]++c'.map some)[i+1]?=(c'.map _)[i]?:=ae9 (by simp);rw[e1,e2];exact(one i).imp id .inr
theorem WT(hx:V r x x')(b:Bool)(t:TypeId):SR P V r (Instr.next x b t) (Instr.next x' b t):=by
 cases hx with
 |ptr ha=>
  rename_i a a';obtain⟨ab,ao,aBN⟩:=a;obtain⟨ab',ao',as'⟩:=a';obtain⟨h1,h2,h3⟩:=ha;subst h2;cases ao' with
  |zero=>
   refine SR.bind (cJ h1) ?_;intro t1 o o' l1 ho;cases ho with
   |stringIter s p=>
    cases b with
    |true=>
     refine aQ (fun _=>?_) (fun _=>.pure (.jS (.one (.bool _))));refine SR.bind (iu (l1 _ _ h1) (.stringIter _ _)) ?_;rintro t2 _ _ l2 _;exact .pure (.jS (.three (.bool _) (.int _ _) (.int _ _)))
    |false=>exact ae _
   |c9 a s n=>
    cases b with
    |true=>exact ae _
    |false=>exact .pure (.jS (.one (.bool _)))
   |mapIter since seen last em=>
    cases b with
    |true=>exact ae _
    |false=>
     refine SR.bind (cJ em) ?_;intro t2 o o' l2 ho;cases ho with
     |map clock hs hi=>
      rename_i es kA;have he:EA t2 es kA:=⟨hs,hi⟩;simp only;rw[he.isEmpty,he.all _ fun x y h=>by rw[h.born]];refine aQ (fun _=>j9 (ah _)) (fun _=>?_);have rD:=he.filter (fun e=>!seen.contains e.born) fun x y h=>by rw[h.born]
      have hold:=rD.filter (fun e=>decide (e.born<since)) fun x y h=>by rw[h.born]
      have iE:=rD.filter (fun e=>decide (e.born>=since)) fun x y h=>by rw[h.born]
      have sc:=hold.append iE;rw[hold.isEmpty];obtain⟨c1,c2⟩:=SG sc _;rw[c1];refine SR.bind (ef _) ?_;rintro t3 i _ l3 rfl;rcases c2 i with⟨e1,e2⟩|⟨e1,e2⟩|⟨e,e',e1,e2,hen⟩
      ·rw[e1];exact ae _
      ·rw[e1,e2];exact .pure (.jS (.one (.bool _)))
      ·rw[e1,e2];simp only;rw[hen.born];refine SR.bind (iu (((l1.trans l2).trans l3) _ _ h1) (.mapIter _ _ _ ((l2.trans l3) _ _ em))) ?_;rintro t4 _ _ l4 _;exact .pure (.jS (.three (.bool _) ((hen.key.mono l3).mono l4) ((hen.val.mono l3).mono l4)))
     |_=>exact ae _
   |_=>exact ae _
  |succ n=>exact ae _
 |_=>exact ae _
theorem abQ{c c':Array _}(h:EA r c c')(f:MapEntry->Bool)(hf:∀x y,En r x y->f y=f x):(c.find? f=none/\c'.find? f=none)\/∃e e',c.find? f=some e/\c'.find? f=some e'/\En r e e':=by
 have key:∀{xs ys:List _},EL r xs ys->(xs.find? f=none/\ys.find? f=none)\/∃e e',xs.find? f=some e/\ys.find? f=some e'/\En r e e':=fun h=>by
  induction h with
  |nil=>exact .inl ⟨rfl,rfl⟩
  |cons x _ ih=>
   simp only[List.find?_cons];rw[hf _ _ x];split
   ·simp_all
   ·omega
 have:=key h.toList;simp_all
theorem SH(hx:V r x x'):SR P V r (Instr.entry x) (Instr.entry x'):=by
 cases hx with
 |ptr ha=>
  rename_i a a';obtain⟨ab,ao,aBN⟩:=a;obtain⟨ab',ao',as'⟩:=a';obtain⟨h1,h2,h3⟩:=ha;subst h2;cases ao' with
  |zero=>
   refine SR.bind (cJ h1) ?_;intro t1 o o' l1 ho;cases ho with
   |mapIter since seen last em=>
    simp only;split
    ·refine SR.bind (cJ em) ?_;intro t2 o o' l2 ho;cases ho with
     |map clock hs hi=>
      rename_i es kA;have he:EA t2 es kA:=⟨hs,hi⟩;refine aQ (fun _=>j9 (ah _)) (fun _=>?_);rename_i aga _ _;rcases abQ he (fun e=>e.born==aga) (fun x y h=>by rw[h.born])with⟨e1,e2⟩|⟨e,e',e1,e2,hen⟩
      ·rw[e1];exact ah _
      ·rw[e1,e2];exact .pure (.jS (.two hen.key hen.val))
     |_=>exact ae _
    ·exact ae _
   |_=>exact ae _
  |succ n=>exact ae _
 |_=>exact ae _
theorem Cb(Z:pg P)(hx:V r x x')(xt a:TypeId)(ha:∀ms,P.underlying a≠some (.interface ms)):SR P V r (afT x xt a true) (afT x' xt a true):=by
 refine SR.bind (aT a) ?_;rintro t1 d _ l1 ⟨rfl,hd⟩;have ZR:∀{s:Rn},SR P V s (do pure (ae6 #[<-zeroValue a,.bool false])) _:=fun{s}=>
  SR.bind (oD Z a) fun _ _ _ _ e=>.pure (.jS (.two e (.bool _)))
 have pN:=hx.mono l1;cases d with
 |interface ms=>exact absurd hd (ha ms)
 |_=>
  cases pN with
  |nilIface=>exact ZR
  |iface t hv=>
   refine aQ (fun _=>.pure (.jS (.two hv (.bool _)))) (fun _=>ZR)
  |_=>exact ae _
theorem GV:SR P A r (runtimePanic .panicNil) (runtimePanic .panicNil):=by
 refine SR.bind bC ?_;rintro s p q _ ⟨hp,hq⟩;rw[hp,hq];refine SR.bind (vQ _) ?_;rintro t1 e _ l1 rfl;refine SR.bind (vR e (.NB (VA.nil))) ?_;intro t2 a a' l2 ha;exact lU (.iface _ (.ptr ha))
theorem KY(hx:V r x x'):SR P V r (Instr.panic x) (Instr.panic x'):=by
 cases hx with
 |iface t hv=>exact lU (.iface t hv)
 |nilIface=>
  have q:SR P iO r Instr.panicnil Instr.panicnil:=by
   refine SR.bind (.env fun _ _ _=>.pure rfl) ?_;rintro t1 x _ l1 rfl;split
   ·refine SR.bind bC ?_;rintro t2 p q l2 ⟨hp,hq⟩;rw[hp,hq];exact .pure rfl
   ·exact ae _
  refine SR.bind q ?_;rintro t1 n _ l1 rfl;exact aQ (fun _=>lU .nilIface) (fun _=>GV)
 |_=>exact ae _
end
section
variable[ak]{P:Program}{r:Rn}{α:Type}{A:Rn->α->α->Prop}
theorem KZ(op:BinOp)(k:IntKind)(a b:Int):SR P V r (Op.intBits op k a b) (Op.intBits op k a b):=by
 cases op<;>first|exact .pure (.int _ _)|exact ae _
theorem PF(op:BinOp)(k:IntKind)(a b:Int):SR P V r (afY op k a b) (afY op k a b):=by
 unfold afY;split
 ·exact iw trivial
 ·cases op<;>first|exact .pure (.int _ _)|exact ae _
theorem GX(op:BinOp)(k:IntKind)(a:Int)(j:IntKind)(b:Int):SR P V r (Op.shift op k a j b) (Op.shift op k a j b):=by
 unfold Op.shift;split
 ·exact iw trivial
 ·cases op<;>first|exact .pure (.int _ _)|exact ae _
theorem SI(op:UnOp)(h:V r x x'):SR P V r (Op.unary op x) (Op.unary op x'):=by
 cases h<;>cases op<;>first|exact Sw _ _ _ _|exact .pure (.int _ _)|exact .pure (.bool _)|exact ah _|exact ae _
theorem tR(t:TypeId)(h:Ad r a a')(hy:V r y y'):SR P (fun s x x'=>∃b b',x=.pointer (some b)/\x'=.pointer (some b')/\Ad s b b') r (aeS #[] t #[.pointer (some a),y]) (aeS #[] t #[.pointer (some a'),y']):=by
 refine SR.bind (nR hy) ?_;rintro t1 n _ l1 rfl;have h1:=h.mono l1;refine aQ (fun _=>?_) (fun _=>?_)
 ·refine SR.bind (qJ h1.block) ?_;rintro t2 x y l2 (⟨rfl,rfl⟩|⟨_,_,_,rfl,rfl,_⟩)
  ·exact .pure ⟨_,_,rfl,rfl,h1.mono l2⟩
  ·exact ah _
 ·refine aQ (fun _=>?_) (fun _=>?_)
  ·exact ah _
  ·refine SR.bind (eg h1.block) ?_;rintro t2 x _ l2 rfl;split
   ·refine SR.bind bC ?_;rintro t3 p q l3 ⟨hp,hq⟩;rw[hp,hq,h1.off];split
    ·exact .pure ⟨_,_,rfl,rfl,⟨(l2.trans l3) _ _ h1.block,rfl,h1.spot⟩⟩
    ·exact ah _
   ·exact ah _
theorem GY(h:Ad r a a')(b:Bool):SR P V r (asNumber a b) (asNumber a' b):=by
 exact SR.bind (sd (.number b h)) fun s x x' l e=>.pure (.ptr ⟨e,rfl,rfl⟩)
theorem C5(t:TypeId)(hy:V r y y'):SR P (fun _ _ _=>False) r (aeS #[] t #[.pointer none,y]) (aeS #[] t #[.pointer none,y']):=by
 refine SR.bind (nR hy) ?_;rintro t1 n _ l1 rfl;refine aQ (fun _=>?_) (fun _=>?_)
 ·exact ah _
 ·refine aQ (fun _=>?_) (fun _=>?_)
  ·exact ah _
  ·exact ah _
theorem eh(t:TypeId)(hx:V r x x')(hy:V r y y')(h:(∃a,x=.pointer a)):SR P V r (movedNumber t x y) (movedNumber t x' y'):=by
 refine SR.bind (az t) ?_;rintro t1 d _ l1 rfl;refine aQ (fun _=>?_) (fun _=>?_)
 ·exact ah _
 have oB:=hx.mono l1;have NG:=hy.mono l1;obtain⟨a,rfl⟩:=h;cases oB with
 |nilPtr=>exact(C5 t NG).imp fun _ _ _ _ h=>h.elim
 |ptr ha=>
  refine SR.bind (jB ha) ?_;rintro t3 ⟨a1,b1⟩ ⟨a2,b2⟩ l3 ⟨ha3,e⟩;subst e;refine SR.bind (tR t ha3 (NG.mono l3)) ?_;rintro t4 _ _ l4 ⟨b,b',rfl,rfl,hb⟩;exact GY hb _
theorem pj(t:TypeId)(hx:V r x x')(hy:V r y y')(h:(∃a,x=.pointer a)):SR P V r (movedPointer t x y) (movedPointer t x' y'):=by
 obtain⟨a,rfl⟩:=h;cases hx with
 |nilPtr=>exact(C5 t hy).imp fun _ _ _ _ h=>h.elim
 |ptr ha=>
  refine SR.bind (xX ha.block) ?_;rintro t1 x y l1 (⟨rfl,rfl⟩|⟨_,_,_,rfl,rfl,_⟩)
  ·refine(tR t (ha.mono l1) (hy.mono l1)).imp ?_;rintro _ _ _ _ ⟨b,b',rfl,rfl,hb⟩;exact V.ptr hb
  ·exact ah _
theorem tS(hG:ak.size=P.globals.size){b b':Addr}(ha:Ad r a a')(hb:Ad r b b'):SR P iO r (Op.twoPlaces a b) (Op.twoPlaces a' b'):=by
 refine SR.bind bC ?_;rintro t1 p q l1 ⟨hp,hq⟩;rw[hp,hq];have e1:=ha.EE hb;have e3:=r.fK _ _ ha.block;have e4:(a'.block != b'.block||decide (a'.block>=P.globals.size))=(a.block != b.block||decide (a.block>=P.globals.size)):=by
  rw[bne,bne,e1];congr 1;rw[decide_eq_decide];omega
 rw[e4];refine aQ (fun _=>?_) (fun _=>?_)
 ·exact ah _
 refine SR.bind (jA (ha.mono l1)) ?_;rintro t3 x _ l3 rfl;refine SR.bind (jA ((hb.mono l1).mono l3)) ?_;rintro t4 y _ l4 rfl;exact .pure rfl
theorem K1(hG:ak.size=P.globals.size)(k:IntKind){b b':Addr}(ha:Ad r a a')(hb:Ad r b b'):SR P V r (Op.addrSub k a b) (Op.addrSub k a' b'):=by
 refine SR.bind (tS hG ha hb) ?_;rintro t1 x _ l1 rfl;exact .pure (.int _ _)
theorem K6(hG:ak.size=P.globals.size)(op:BinOp){b b':Addr}(ha:Ad r a a')(hb:Ad r b b'):SR P V r (Op.addrCmp op a b) (Op.addrCmp op a' b'):=by
 refine SR.bind (tS hG ha hb) ?_;rintro t1 x _ l1 rfl;cases op<;>first|exact .pure (.bool _)|exact ah _
theorem z7(k:IntKind)(ha:Ad r a a')(n:Int):SR P V r (Op.addrMod k a n) (Op.addrMod k a' n):=by
 refine SR.bind (eg ha.block) ?_;rintro t1 x _ l1 rfl;split
 ·refine SR.bind (cT _) ?_;rintro t2 i _ l2 ⟨rfl,_⟩;refine aQ (fun _=>?_) (fun _=>?_)
  ·exact ah _
  refine SR.bind (jA ((ha.mono l1).mono l2)) ?_;rintro t4 y _ l4 rfl;exact .pure (.int _ _)
 ·exact ah _
theorem tT(z:∀b,¬ak.ro b)(h:Ad r a a'):SR P iO r (stringish a) (stringish a'):=by
 refine SR.bind (qI z h) ?_;rintro t1 b _ l1 rfl;refine aQ (fun _=>?_) (fun _=>?_)
 ·exact .pure rfl
 ·refine SR.bind (eg (h.mono l1).block) ?_;rintro t2 x _ l2 rfl;split
  ·exact qI z ⟨(l1.trans l2) _ _ h.block,rfl,rfl⟩
  ·exact .pure rfl
theorem GZ(z:∀b,¬ak.ro b){b b':Addr}(ha:Ad r a a')(hb:Ad r b b'):SR P iO r (mayBeOne a b) (mayBeOne a' b'):=by
 refine SR.bind (tT z ha) ?_;rintro t1 x _ l1 rfl;refine SR.bind (tT z (hb.mono l1)) ?_;rintro t2 y _ l2 rfl;refine SR.bind (SR.bind (eg ((ha.mono l1).mono l2).block) fun _ _ _ _ e=>by subst e;exact .pure rfl) ?_;rintro t3 u _ l3 rfl;refine SR.bind (SR.bind (eg (((hb.mono l1).mono l2).mono l3).block) fun _ _ _ _ e=>by subst e;exact .pure rfl) ?_;rintro t4 u _ l4 rfl;exact .pure rfl
theorem G0(z:∀b,¬ak.ro b){b b':Addr}(ha:Ad r a a')(hb:Ad r b b'):SR P iO r (sameAddr a b) (sameAddr a' b'):=by
 unfold sameAddr;rw[ha.EE hb,ha.eq_iff hb];refine aQ (fun _=>?_) (fun _=>?_)
 ·exact .pure rfl
 refine SR.bind (qI z ha) ?_;rintro t1 x _ l1 rfl;refine SR.bind (qI z (hb.mono l1)) ?_;rintro t2 y _ l2 rfl;refine aQ (fun _=>?_) (fun _=>?_)
 ·exact ah _
 have WR:=(ha.mono l1).mono l2;have di:=(hb.mono l1).mono l2;refine SR.bind (vT WR) ?_;rintro t3 _ _ l3 _;refine SR.bind (vT (di.mono l3)) ?_;rintro t4 _ _ l4 _;refine SR.bind (GZ z ((WR.mono l3).mono l4) ((di.mono l3).mono l4)) ?_;rintro t5 u _ l5 rfl;refine aQ (fun _=>?_) (fun _=>?_)
 ·refine SR.bind (ef _) ?_;rintro t6 n _ l6 rfl;exact .pure rfl
 ·exact .pure rfl
theorem G3(z:∀b,¬ak.ro b)(ht:P.underlying t=some (.pointer e))(hx:V r x x')(hy:V r y y'):SR P iO r (adM t x y) (adM t x' y'):=by
 refine SR.bind (aT t) ?_;rintro t1 d _ l1 ⟨rfl,hd⟩;rw[ht]at hd;obtain rfl:=adC hd;have pN:=hx.mono l1;have ti:=hy.mono l1;cases pN with
 |nilPtr=>
  cases ti with
  |nilPtr=>exact .pure rfl
  |ptr _=>exact .pure rfl
  |_=>exact ae _
 |ptr ha=>
  cases ti with
  |nilPtr=>exact .pure rfl
  |ptr hb=>
   refine SR.bind (bQ _) ?_;rintro t2 n _ l2 rfl;refine aQ (fun _=>?_) (fun _=>?_)
   ·exact G0 z (ha.mono l2) (hb.mono l2)
   ·rw[(ha.mono l2).eq_iff (hb.mono l2)];refine aQ (fun _=>?_) (fun _=>?_)
    ·exact .pure rfl
    ·refine SR.bind (ef _) ?_;rintro t3 k _ l3 rfl;exact .pure rfl
  |_=>exact ae _
 |_=>exact ae _
theorem xY{m:Array _}(ht:P.underlying t=some (.interface m))(hx:V r x x'):SR P iO r (adM t x .nilIface) (adM t x' .nilIface):=by
 refine SR.bind (aT t) ?_;rintro t1 d _ l1 ⟨rfl,hd⟩;rw[ht]at hd;obtain rfl:=adC hd;have pN:=hx.mono l1;cases pN with
 |nilIface=>exact .pure rfl
 |iface _ _=>exact .pure rfl
 |_=>exact ae _
end
section
variable[ak]{P:Program}{r:Rn}{α:Type}{A:Rn->α->α->Prop}
def SJ(P:Program)(t:TypeId):Prop:=(∀d,P.underlying t=some d->plainKey d)\/∃e,P.underlying t=some (.pointer e)
theorem z8(hG:ak.size=P.globals.size)(z:(∃e,P.underlying t=some (.pointer e))->∀b,¬ak.ro b)(h:SJ P t)(hx:V r x x')(hy:V r y y'):SR P iO r (adM t x y) (adM t x' y'):=by
 rcases h with h|⟨e,h⟩
 ·exact(GR hG h hx hy).imp fun _ _ _ _ q=>q.1
 ·exact G3 (z ⟨e,h⟩) h hx hy
theorem C6{s s':Sem Bool}(h:SR P iO r s s'):SR P V r (do pure (afo (<-s))) (do pure (afo (<-s'))):=SR.bind h fun _ _ _ _ e=>by subst e;exact .pure (.bool _)
theorem G5{s s':Sem Bool}(h:SR P iO r s s'):SR P V r (do pure (afo (!(<-s)))) (do pure (afo (!(<-s')))):=SR.bind h fun _ _ _ _ e=>by subst e;exact .pure (.bool _)
def ep:Value->Value->Bool
 |.int ..,.int .. |.string _,.string _=>true
 |_,_=>false
theorem binOp_eql(t:TypeId)(h:ep x y=false)(hf:∀k b,x≠.float k b)(hc:∀k a b,x≠.complex k a b):binOp .eql t x y=(do pure (.bool (<-adM t x y)))/\binOp .neq t x y=(do pure (.bool (!(<-adM t x y)))):=by
 cases x<;>first|exact absurd rfl (hf _ _)|exact absurd rfl (hc _ _ _)|(cases y<;>first|exact⟨rfl,rfl⟩|(simp[ep]at h))
theorem V.Cc(h:V r x x'):(∀k b,x≠.float k b)/\(∀k a b,x≠.complex k a b):=⟨fun _ _ e=>(by subst e;cases h),fun _ _ _ e=>(by subst e;cases h)⟩
theorem V.ZS(h:V r x x')(n:x≠.tuple #[]):(∀k b,x'≠.float k b)/\(∀k a b,x'≠.complex k a b):=by
 cases h with
 |blank _=>exact absurd rfl n
 |_=>exact⟨fun _ _ e=>(by cases e),fun _ _ _ e=>(by cases e)⟩
theorem xZ(hG:ak.size=P.globals.size){op:BinOp}(ho:op≠.eql/\op≠.neq)(hx:V r x x')(hy:V r y y'):SR P V r (binOp op t x y) (binOp op t x' y'):=by
 cases hx with
 |int k a=>
  cases hy with
  |int k' b=>
   cases op<;>first|exact absurd rfl ho.1|exact absurd rfl ho.2|exact GX .shl k a k' b|exact GX .shr k a k' b|exact aQ (fun _=>ae _) (fun _=>Sw _ _ _ _)|exact aQ (fun _=>ae _) (fun _=>PF _ _ _ _)|exact aQ (fun _=>ae _) (fun _=>KZ _ _ _ _)|exact aQ (fun _=>ae _) (fun _=>Sx _ _ _)
  |ptr hb=>cases op<;>first|exact absurd rfl ho.1|exact absurd rfl ho.2|exact eh t (.ptr hb) (.int _ _) ⟨_,rfl⟩|(refine SR.bind (jB hb) ?_;rintro t1 ⟨a1,b1⟩ ⟨a2,b2⟩ l1 ⟨h1,_⟩;exact z7 _ h1 _)|exact ah _|exact ae _
  |nilPtr=>cases op<;>first|exact absurd rfl ho.1|exact absurd rfl ho.2|exact eh t .nilPtr (.int _ _) ⟨_,rfl⟩|exact ah _|exact ae _
  |_=>cases op<;>first|exact absurd rfl ho.1|exact absurd rfl ho.2|exact ae _
 |string a=>
  cases hy with
  |string b=>
   have e:binOp op t (.string a) (.string b)=ae4 op a b:=by cases op<;>rfl
   rw[e];exact KX op a b
  |ptr hb=>cases op<;>first|exact absurd rfl ho.1|exact absurd rfl ho.2|exact ah _|exact ae _
  |nilPtr=>cases op<;>first|exact absurd rfl ho.1|exact absurd rfl ho.2|exact ah _|exact ae _
  |_=>cases op<;>first|exact absurd rfl ho.1|exact absurd rfl ho.2|exact ae _
 |ptr ha=>
  cases hy with
  |int k b=>
   cases op<;>first|exact absurd rfl ho.1|exact absurd rfl ho.2|exact eh t (.ptr ha) (.int _ _) ⟨_,rfl⟩|(refine SR.bind (az t) ?_;rintro t1 d _ l1 rfl;exact aQ (fun _=>pj t (.ptr (ha.mono l1)) (.int _ _) ⟨_,rfl⟩) (fun _=>eh t (.ptr (ha.mono l1)) (.int _ _) ⟨_,rfl⟩))|(refine SR.bind (jB ha) ?_;rintro t1 ⟨a1,b1⟩ ⟨a2,b2⟩ l1 ⟨h1,_⟩;exact z7 _ h1 _)|exact ah _|exact ae _
  |ptr hb=>
   cases op<;>first|exact absurd rfl ho.1|exact absurd rfl ho.2|(refine SR.bind (jB ha) ?_;rintro t1 ⟨a1,b1⟩ ⟨a2,b2⟩ l1 ⟨h1,_⟩;refine SR.bind (jB (hb.mono l1)) ?_;rintro t2 ⟨a3,b3⟩ ⟨a4,b4⟩ l2 ⟨h2,_⟩;first|exact K1 hG _ (h1.mono l2) h2|exact K6 hG _ (h1.mono l2) h2)|exact ah _|exact ae _
  |_=>cases op<;>first|exact absurd rfl ho.1|exact absurd rfl ho.2|exact ah _|exact ae _
 |nilPtr=>
  cases hy with
  |int k b=>cases op<;>first|exact absurd rfl ho.1|exact absurd rfl ho.2|exact eh t .nilPtr (.int _ _) ⟨_,rfl⟩|(refine SR.bind (az t) ?_;rintro t1 d _ l1 rfl;exact aQ (fun _=>pj t .nilPtr (.int _ _) ⟨_,rfl⟩) (fun _=>eh t .nilPtr (.int _ _) ⟨_,rfl⟩))|exact ah _|exact ae _
  |_=>cases op<;>first|exact absurd rfl ho.1|exact absurd rfl ho.2|exact ah _|exact ae _
 |_=>
  cases hy with
  |ptr hb=>cases op<;>first|exact absurd rfl ho.1|exact absurd rfl ho.2|exact ah _|exact ae _
  |nilPtr=>cases op<;>first|exact absurd rfl ho.1|exact absurd rfl ho.2|exact ah _|exact ae _
  |_=>cases op<;>first|exact absurd rfl ho.1|exact absurd rfl ho.2|exact ae _
theorem SK(hx:V r x x')(hy:V r y y')(h:ep x y=false)(h':ep x' y'=true):x=.tuple #[]\/y=.tuple #[]:=by
 cases hx<;>first|exact .inl rfl|(cases hy<;>first|exact .inr rfl|(simp[ep]at h h'))
theorem K8(h:SJ P t)(hb:x=.tuple #[]\/y=.tuple #[])(v:World):∃z v1,(adM t x y).run P v=.halt z v1/\zV z:=by
 rcases h with h|⟨e,h⟩
 ·exact xV h hb v
 ·unfold adM ae5;unfold aff underlying program;simp only[bind,adv,adJ,h];rcases hb with rfl|rfl
  ·exact⟨_,_,rfl,.inr ⟨_,rfl⟩⟩
  ·cases x with
   |pointer a=>cases a<;>exact⟨_,_,rfl,.inr ⟨_,rfl⟩⟩
   |_=>exact⟨_,_,rfl,.inr ⟨_,rfl⟩⟩
theorem SM(hG:ak.size=P.globals.size){op:BinOp}(ho:op=.eql\/op=.neq)(z:(∃e,P.underlying t=some (.pointer e))->∀b,¬ak.ro b)(ht:SJ P t)(hx:V r x x')(hy:V r y y'):SR P V r (binOp op t x y) (binOp op t x' y'):=by
 by_cases hp:ep x y=true
 ·cases hx with
  |int k a=>
   cases hy with
   |int k' b=>rcases ho with rfl|rfl<;>exact aQ (fun _=>ae _) (fun _=>Sx _ _ _)
   |_=>simp[ep]at hp
  |string a=>
   cases hy with
   |string b=>
    have e:binOp op t (.string a) (.string b)=ae4 op a b:=by cases op<;>rfl
    rw[e];exact KX op a b
   |_=>simp[ep]at hp
  |_=>simp[ep]at hp
 ·have hp:ep x y=false:=by simpa using hp
  obtain⟨e1,e2⟩:=binOp_eql t hp hx.Cc.1 hx.Cc.2;by_cases hb:x=.tuple #[]\/y=.tuple #[]
  ·refine .lost fun v=>?_;obtain⟨q,v1,e,hl⟩:=K8 ht hb v;rcases ho with rfl|rfl
   ·simp_all
   ·simp_all
  ·have PG:ep x' y'=false:=by
    cases h:ep x' y' with
    |false=>rfl
    |true=>exact absurd (SK hx hy hp h) hb
   have nf:=hx.ZS fun e=>hb (.inl e);obtain⟨e1',e2'⟩:=binOp_eql t PG nf.1 nf.2;rcases ho with rfl|rfl
   ·rw[e1,e1'];exact C6 (z8 hG z ht hx hy)
   ·rw[e2,e2'];exact G5 (z8 hG z ht hx hy)
theorem PH{op:BinOp}(ho:op=.eql\/op=.neq){m:Array (String×TypeId)}(ht:P.underlying t=some (.interface m))(hx:V r x x'):SR P V r (binOp op t x .nilIface) (binOp op t x' .nilIface):=by
 by_cases hb:x=.tuple #[]
 ·subst hb;refine .lost fun v=>?_;have e:∃q v1,(adM t (.tuple #[]) .nilIface).run P v=.halt q v1/\zV q:=by
   unfold adM ae5;unfold aff underlying program;simp only[bind,adv,adJ,ht];exact⟨_,_,rfl,.inr ⟨_,rfl⟩⟩
  obtain⟨q,v1,e,hl⟩:=e;refine⟨q,v1,?_,hl⟩;rcases ho with rfl|rfl
  ·show(adv _ _).run P v=_;rw[adT,e];rfl
  ·show(adv _ _).run P v=_;rw[adT,e];rfl
 ·have tp:∀y,ep y .nilIface=false:=fun y=>by cases y<;>rfl
  obtain⟨e1,e2⟩:=binOp_eql t (tp x) hx.Cc.1 hx.Cc.2;have nf:=hx.ZS hb;obtain⟨e1',e2'⟩:=binOp_eql t (tp x') nf.1 nf.2;rcases ho with rfl|rfl
  ·rw[e1,e1'];exact C6 (xY ht hx)
  ·rw[e2,e2'];exact G5 (xY ht hx)
end
end Ren
end Go.Proofs.YtdcjnhipenbcfaaGreatDoor
