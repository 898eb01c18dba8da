/-
  Own text. Part 8 of what the claim rests on.
-/
import Derived.Test.YtdcjnhipenbcfaaGreatDoorPk7
import Derived.Maps.RangeWalk
import Derived.Maps.OwnOps
import Derived.Maps.Views
import Derived.Lib.MinMax
import Derived.Sort.KeysCollected
import Derived.Lib.AppendIntMem
import Derived.Deep.AppendLies
import Derived.Deep.RegionLaw
import Derived.Deep.RegionHeld3
import Derived.Laws.StructEq
import Derived.Conc.HoldsTime
import Derived.StillGives
import Derived.LaidLaws
import Derived.SevenTiedAt
set_option linter.unusedVariables false
set_option linter.unusedSectionVars false
set_option linter.unusedSimpArgs false
set_option maxRecDepth 100000
set_option maxHeartbeats 16000000
open Array renaming getElem?_eq_some_iff->ar,toList_extract->aV,getElem?_eq_none->bN
open Bool renaming not_eq_true->bj,or_true->bk,and_eq_true->bO,not_eq_false'->bP,true_or->bQ
open ByteArray renaming size_extract->aD,data_extract->aW
open Go.ByteArray renaming toList_eq->bR
open Go.Claim7 renaming isSixth->bS
open Go.Instr renaming typeAssert->bm
open Go.IntKind renaming i64->ai
open Go.IntWalk renaming i64_in->aj,wrap64_in->bU
open Go.Lib renaming byteCells->ax,indexByte->aH,BuilderAt->aJ,IsBuilder->aK,cell_of_heap->aX,decDigits->bp,frozen_of_heap->bW,strCells->bX
open Go.Lib.BuilderAt renaming put->bV
open Go.Maps renaming keyOf_str->cu
open Go.Proofs.Tryz renaming func45->aA,ntmps45->aB,underlying65->aI,func147->aP,ntmps147->aQ,underlying3->aT,underlying9->aU,underlying113->bg,func26->bK,ntmps26->bL,ntmps93->cB,underlying131->cC,underlying25->cD,underlying79->cE
open Go.RowKit.Below renaming refl->af
open Go.Value renaming int->bM
open Go.World renaming drewN_drewN->bh,news_of_block->cG
open Int renaming natCast_nonneg->bT
open List renaming length_append->ah,getD_eq_getElem?_getD->ao,getElem?_eq_getElem->au,map_append->az,length_cons->aL,length_singleton->aM,mem_singleton->aN,take_of_length_le->aO,mem_append->aY,mem_map->aZ,reverse_append->a_,contains_iff_mem->bq,getElem?_drop->br,getElem?_take_of_lt->bt,length_map->bu,length_nil->bA,mem_of_getElem?->bB,pairwise_map->bC,range_succ->bD,countP_append->bY,drop_take->bZ,extract_eq_take_drop->b_,getElem?_eq_none->cf,getElem?_map->cg,getElem?_reverse->cj,getElem_of_mem->ck,mem_range->cm,pairwise_append->cn
open Nat renaming le_refl->ae,zero_le->ak,lt_or_ge->ay,mul_le_mul->bc,le_total->bE,le_trans->bF,min_eq_left->bG,min_eq_right->bH,mul_add->bI,mul_comm->bJ,add_assoc->cv,div_add_mod->cw,div_mul_le_self->cx,le_antisymm->cy,lt_of_lt_of_le->cA
namespace Go.Proofs.YtdcjnhipenbcfaaGreatDoor
variable {P S X a p s t:ByteArray}{f:FuncId}{L:List ByteArray}{x y:List UInt8}{G b d i j k q:Nat}{o:Obj}{e:TypeId}{v:Value}{w w':World}
section
open RowKit Maps
def iu(s:ByteArray)(q i:Nat):=(s.extract i (i+q)).data.toList
def lE(x:List UInt8):=!x.contains 78
def iZ(s:ByteArray)(q:Nat)(x:List _)
 |0=>0
 |k+1=>iZ s q x k+(if iu s q k=x/\lE x=true then 1 else 0)
theorem Iw(s:ByteArray)(q:Nat)(x:List _):∀k,iZ s q x k<=k
 |0=>ae _
 |k+1=>by have:=Iw s q x k;simp[iZ];split<;>omega
def lY(s:ByteArray)(q:Nat)(x:List _):=iZ s q x (s.size+1-q)
theorem I4(s:ByteArray)(q:Nat)(x:List _):lY s q x<=s.size+1:=by
 have:=Iw s q x (s.size+1-q);unfold lY;omega
theorem OU(Y:lE (iu s q k)=true):iZ s q (iu s q k) (k+1)=iZ s q (iu s q k) k+1:=by
 rw[iZ,if_pos ⟨rfl,Y⟩]
theorem GY{x:List _}(Y:¬(iu s q k=x/\lE x=true)):iZ s q x (k+1)=iZ s q x k:=by
 simp[iZ];simp_all
def rH(D:DataW Unit)(f:List UInt8->Nat):Prop:=
 IsMap D/\(∀x,D.atKey (.string x) (.lit (.int .i64 0))=.lit (.int .i64 (f x:Int)))/\∀x,has D (.string x)=true↔0<f x
theorem X6(s:ByteArray)(q:Nat):rH (.map []) (fun x=>iZ s q x 0):=⟨isMap_empty,fun x=>rfl,fun x=>by rw[has_eq];simp[iZ]⟩
theorem YO{D:DataW _}(h:rH D (fun x=>iZ s q x k))(Y:lE (iu s q k)=false):rH D (fun x=>iZ s q x (k+1)):=by
 have e:(fun x=>iZ s q x (k+1))=fun x=>iZ s q x k:=by
  funext x;exact GY (by rintro⟨rfl,h⟩;simp_all)
 simp_all
theorem Z_{D:DataW _}{c:Int}(h:rH D (fun x=>iZ s q x k))(U:lE (iu s q k)=true)
  (C:D.atKey (.string (iu s q k)) (.lit (.int .i64 0))=.lit (.int .i64 c)):rH (D.put (.string (iu s q k)) (.lit (.int .i64 (c+1)))) (fun x=>iZ s q x (k+1)):=by
 have R:=h.2.1 (iu s q k);rw[C]at R;have K:=by simpa using R
 have Y:WideAt.IsKeyLit (.string (iu s q k)):=by first|trivial
 refine⟨h.1.put _ _,fun x=>?_,fun x=>?_⟩
 ·by_cases H:x=iu s q k
  ·subst H;rw[atKey_put_same h.1 Y];show _=DataW.lit (.int .i64 ((iZ s q _ _)))
   rw[OU U,K];simp
  ·rw[atKey_put_other (by simp_all),h.2.1 x];show _=DataW.lit (.int .i64 ((iZ s q x _)))
   rw[GY (by rintro⟨e,_⟩;simp_all)]
 ·by_cases H:x=iu s q k
  ·subst H;rw[has_put_same h.1 Y];show _↔0<iZ s q _ (k+1)
   rw[OU U];simp
  ·rw[has_put_other (by simp_all),h.2.2 x];show _↔0<iZ s q x (k+1)
   rw[GY (by rintro⟨e,_⟩;simp_all)]
theorem Ix{D:DataW _}{f:List _->Nat}{x:List _}{c:Int}(h:rH D f)(K:D.atKey (.string x) (.lit (.int .i64 0))=.lit (.int .i64 c)):c=(f x):=by
 have Y:=h.2.1 x;simp_all
theorem ahC(l:List _):aH l 78<0↔lE l=true:=by
 unfold lE;induction l with
 |nil=>simp[aH]
 |cons a l D=>
  simp only[aH];by_cases H:a=78
  ·simp_all
  ·have Y:¬(a==78)=true:=by simp_all
   have K:(List.contains (a::l) 78)=l.contains 78:=by
    rw[List.contains_cons];have:(78==a)=false:=by simpa using fun e=>H e.symm
    simp_all
   rw[K,if_neg Y,<-D];by_cases R:aH l 78= -1
   ·simp_all
   ·rw[if_neg (by simp_all)];omega
theorem Bn:Keyed Tryz.prog 9:=string_keyed aU
theorem TA(w:World):(zeroValue 3).run Tryz.prog w=.ok (.int .i64 0) w:=by simp
abbrev tY(w:World)(b n:Nat)(D:DataW Unit):=w.ownsMap Tryz.prog 9 (plainElem Tryz.prog 3) b n D
theorem Xi(s:ByteArray)(w:World):
  Calls Tryz.prog 99 #[.string s,.int .u8 78] w fun e w'=>e=.returned (.int .i64 (aH s.data.toList 78))/\w'=w:=Tryz.strings_IndexByte s 78 w
theorem Nv(s:ByteArray)(q:Nat)(w:World)(r:s.size<=1000)(l:1<=q)(g:q<=1000):
  Calls Tryz.prog 76 #[.string s,.int .i64 (q:Int)] w fun e w'=>e=.returned (.map (some w.heap.size))/\(∃(n:Nat) (D:DataW Unit),n<=1001/\tY w' w.heap.size n D/\rH D (lY s q))/\Below w.heap.size w w':=by
 have z:=@run_makeMap Tryz.prog
 go_enter Tryz.func76,Tryz.ntmps76
 go_wp2
 go_loopw [6] (fun ev wr=>∃(k:Nat) (D:DataW Unit),k<=s.size+1-q/\ev=.int .i64 ((q:Int)+(k:Int))/\tY wr w.heap.size k D/\Hid (rH D (fun x=>iZ s q x k))/\Below w.heap.size w wr) (fun ev _=>s.size+1-(intOf ev).toNat)
 case atStart=>exact⟨0,.map [],ak _,by simp,World.ownsMap_made _ _ _ _,laid (X6 s q),(af _ _).alloc (ae _) _⟩
 case round=>
  obtain⟨k,D,hk,rfl,K,J,Y⟩:=hrel;by_cases W:q+k<=s.size
  ·have d:ai.wrap ((q:Int)+(k:Int)-(q:Int))=(k:Int):=by rw[show(q:Int)+(k:Int)-(q:Int)=(k:Int) by omega];exact aj _ (by omega)
   have hX:(s.extract k (q+k)).data.toList=iu s q k:=by unfold iu;rw[Nat.add_comm q k]
   have O:(s.extract k (q+k)).size<=maxLen:=by rw[aD];unfold maxLen;omega
   have S:=laid hX;clear hX;have L:=laid (ahC (iu s q k));have E:=Iw s q (iu s q k) k;go_wp2_with fail
   refine(Xi _ _).mono ?_;rintro e w' ⟨rfl,rfl⟩;rw[S.out];generalize aH (iu s q k) 78=ix at *;by_cases C:ix<0
   ·have H:=L.out.1 C;have N:=laid H;have U:keyOf Tryz.prog 9 (.string (s.extract k (q+k)))=some (.string (iu s q k)):=by rw[<-S.out];exact WideMaps.keyOf_string_mk aU O
    have Q:=laid U;clear H U L;generalize s.extract k (q+k)=X at *;go_wp2_with(first
     |(at_lookup;refine wpList_lookup_own_int _ rfl _ _ 113 rfl 9 3 .i64 Bn bg aT (TA _) w.heap.size k D rfl K _ _ rfl Q.out ?_;intro c B f)
     |(at_mapUpdate;refine wpList_mapUpdate_own _ rfl _ _ _ 113 rfl 9 3 Bn bg _ w.heap.size k D rfl K (by unfold maxLen;omega) _ _ _ rfl rfl Q.out _ [] (plainElem_int aT (wrap64_wf _)) ?_;intro w1 R A)
     |go_in)
    have Z:=Ix J.out B;have V:wrap64 (c+1)=c+1:=bU (c+1) (by omega);rw[V]at R;have I:=Z_ J.out N.out B;have P:Below w.heap.size w w1:=Y.grown A Y.size (fun j G=>by cases G;exact ae _)
    go_roundw
    case rel=>go_light;exact⟨k+1,_,by omega,iY (by omega),R,laid I,P⟩
    case measure=>go_light;simp[intOf];omega
   ·have H:lE (iu s q k)=false:=by
     rw[<-bj,<-L.out];exact C
    have I:=YO J.out H;have M:=laid I;clear H I L;generalize s.extract k (q+k)=X at *;go_wp2
    go_roundw
    case rel=>go_light;exact⟨k+1,D,by omega,iY (by omega),K.mono (by omega),M,Y⟩
    case measure=>go_light;simp[intOf];omega
  ·have F:k=s.size+1-q:=by omega
   have T:Hid (rH D (lY s q)):=laid (by have:=J.out;unfold lY;rw[<-F];exact this);clear F;go_wp2
   go_ret
   exact⟨rfl,⟨k,D,by omega,K,T.out⟩,Y⟩
theorem CM{b:ByteArray}:a.data.toList=b.data.toList↔a=b:=⟨fun h=>ByteArray.ext (Array.ext' h),fun h=>by rw[h]⟩
theorem Dr(r s:ByteArray)(Y:lE r.data.toList=true):∀k,xp r s k=iZ s r.size r.data.toList k
 |0=>rfl
 |k+1=>by
  simp[xp,iZ];rw[Dr r s Y k];by_cases h:s.extract k (k+r.size)=r
  ·rw[if_pos ((Dh _ _).2 h),if_pos ⟨by unfold iu;rw[h],Y⟩]
  ·rw[if_neg (by rw[Dh];exact h),if_neg (by rintro⟨e,_⟩;exact h (CM.1 e))]
theorem PB(r s:ByteArray):∀k,0<xp r s k↔∃j,j<k/\s.extract j (j+r.size)=r
 |0=>by simp[xp]
 |k+1=>by
  simp[xp];have H:=PB r s k;by_cases h:s.extract k (k+r.size)=r
  ·rw[if_pos ((Dh _ _).2 h)];exact⟨fun _=>⟨k,by omega,h⟩,fun _=>by omega⟩
  ·rw[if_neg (by rw[Dh];exact h),Nat.add_zero,H];constructor
   ·rintro⟨j,K,e⟩;exact⟨j,by omega,e⟩
   ·rintro⟨j,K,e⟩;rcases ay j k with Y|Y
    ·exact⟨j,Y,e⟩
    ·obtain rfl:j=k:=by omega
     simp_all
theorem Uu(r:ByteArray):0<pz ⟨#[78]⟩ r↔lE r.data.toList=false:=by
 have K:(⟨#[78]⟩:ByteArray).size=1:=rfl;unfold pz;rw[PB,K,Nat.add_sub_cancel];have key:∀j,j<r.size->(r.extract j (j+1)=⟨#[78]⟩↔r.data.toList[j]?=some 78):=by
  intro j Y;rw[<-CM];have D:(r.extract j (j+1)).data.toList=(r.data.toList.drop j).take 1:=by simp
  have H:=by simpa using Y
  rw[D,List.drop_eq_getElem_cons H,au H];simp
 unfold lE;constructor
 ·rintro⟨j,Y,e⟩;have:=(key j Y).1 e;simp only[bP,bq];exact bB this
 ·intro h;simp only[bP,bq]at h;obtain⟨j,Y,e⟩:=ck h;exact⟨j,by simpa using Y,(key j (by simpa using Y)).2 (by rw[au Y,e])⟩
theorem WW(p:ByteArray)(n j q:Nat)(h:j+q<=n):(p.extract 0 n).extract j (j+q)=p.extract j (j+q):=by
 rw[<-CM];simp_all
theorem RV(p:ByteArray)(q n:Nat)(x:List _):∀k,k+q<=n+1->iZ (p.extract 0 n) q x k=iZ p q x k
 |0,_=>rfl
 |k+1,h=>by
  simp[iZ];rw[RV p q n x k (by omega)];unfold iu;rw[WW p n k q (by omega)]
theorem adB(p:ByteArray)(q k:Nat)(h:k+q<=p.size):(p.extract k (k+q)).size=q:=by simp_all
def ou(P S:ByteArray)(q:Nat)(x:List _):=min (lY P q x) (lY S q x)
theorem afI(P S:ByteArray)(q k:Nat)(U:1<=q)(h:k+q<=P.size):
  Kq P S q k=if iZ P q (iu P q k) k=0/\lE (iu P q k)=true then ou P S q (iu P q k)else 0:=by
 have Y:=adB P q k h;unfold Kq;by_cases K:lE (iu P q k)=true
 ·have hN:¬0<pz ⟨#[78]⟩ (P.extract k (k+q)):=by rw[Uu];show¬lE (iu P q k)=false;simp_all
  have I:pz (P.extract k (k+q)) (P.extract 0 (k+q-1))=iZ P q (iu P q k) k:=by
   unfold pz;rw[Dr _ _ K,Y,aD,show min _ P.size-0+1-q=k by omega];exact RV P q _ _ k (by omega)
  have D:pz (P.extract k (k+q)) P=lY P q (iu P q k):=by
   unfold pz;rw[Dr _ _ K,Y];rfl
  have R:pz (P.extract k (k+q)) S=lY S q (iu P q k):=by
   unfold pz;rw[Dr _ _ K,Y];rfl
  rw[I,D,R];by_cases H:iZ P q (iu P q k) k=0
  ·rw[if_neg (by omega),if_pos ⟨H,K⟩];rfl
  ·simp_all
 ·have hN:0<pz ⟨#[78]⟩ (P.extract k (k+q)):=by rw[Uu];show lE (iu P q k)=false;simpa using K
  simp_all
def tR(P:ByteArray)(q:Nat)
 |0=>[]
 |k+1=>if iZ P q (iu P q k) k=0/\lE (iu P q k)=true then tR P q k++[iu P q k]else tR P q k
theorem CB(P:ByteArray)(q:Nat)(x:List _):∀k,x∈tR P q k↔0<iZ P q x k
 |0=>by simp[tR,iZ]
 |k+1=>by
  have K:=CB P q x k;simp[tR,iZ];by_cases h:iZ P q (iu P q k) k=0/\lE (iu P q k)=true
  ·rw[if_pos h,aY,aN,K];by_cases Y:iu P q k=x
   ·simp_all
   ·rw[if_neg (fun e=>Y e.1)];exact⟨fun e=>e.elim (fun e=>by omega) (fun e=>absurd e.symm Y),fun e=>.inl (by omega)⟩
  ·rw[if_neg h,K];by_cases Y:iu P q k=x/\lE x=true
   ·have H:¬iZ P q x k=0:=fun e=>h (by simp_all);omega
   ·rw[if_neg Y];omega
theorem Cj(P:ByteArray)(q:Nat):∀k,(tR P q k).Nodup
 |0=>List.nodup_nil
 |k+1=>by
  simp[tR];split
  ·refine List.nodup_append.2 ⟨Cj P q k,by simp,?_⟩;intro a K b Y e;rw[aN]at Y;subst Y;subst e;have:=(CB P q _ k).1 K;omega
  ·exact Cj P q k
def jN(f:List UInt8->Nat)(l:List _):=(l.map f).sum
theorem PD(f:List _->Nat)(l:List _)(x:List _):jN f (l++[x])=jN f l+f x:=by simp[jN]
theorem abK(f:List _->Nat){l l':List _}(h:l.Perm l'):jN f l=jN f l':=(h.map f).sum_nat
theorem QM(P S:ByteArray)(q:Nat)(Y:1<=q):∀k,k+q<=P.size+1->Ea P S q k=jN (ou P S q) (tR P q k)
 |0,_=>rfl
 |k+1,h=>by
  simp[Ea,tR];rw[QM P S q Y k (by omega),afI P S q k Y (by omega)];split
  ·rw[PD]
  ·simp
theorem OV(P S:ByteArray)(q:Nat)(D:1<=q)(Y:List _)(K:Y.Nodup)(H:∀x,x∈Y↔0<lY P q x):jN (ou P S q) Y=sJ P S q:=by
 unfold sJ;by_cases h:q<=P.size+1
 ·rw[QM P S q D _ (by omega)];exact abK _ ((List.perm_ext_iff_of_nodup K (Cj P q _)).2 fun x=>(H x).trans (CB P q x _).symm)
 ·have e:P.size+1-q=0:=by omega
  rw[e];have:Y=[]:=by
   cases Y with
   |nil=>rfl
   |cons a l=>
    have:=(H a).1 (by simp);unfold lY at this;rw[e]at this;simp[iZ]at this
  rw[this];rfl
theorem RX(P S:ByteArray)(q:Nat):∀l,jN (ou P S q) l<=l.length *(S.size+1)
 |[]=>by simp[jN]
 |x::l=>by
  have K:=RX P S q l;have Y:ou P S q x<=S.size+1:=bF (Nat.min_le_right _ _) (I4 S q x);have e:jN (ou P S q) (x::l)=ou P S q x+jN (ou P S q) l:=by simp[jN]
  rw[e,aL,Nat.succ_mul];omega
end
section
open RowKit Maps
open Proofs (encStr)
theorem aac{n:Nat}{D:DataW _}(h:tY w b n D):Maps.size D<=n:=by
 obtain⟨es,clock,_,_,Y,rfl⟩:=h;rw[size_eq,length_sorted,bu,Array.length_toList];exact Y
theorem aad(P S:ByteArray)(q M n1 Q n2:Nat)(J N:DataW Unit)(w:World)(hq:1<=q)(hs:S.size<=1000)(Mu:n1<=1001)
  (D:tY w M n1 J)(R:tY w Q n2 N)(Z:rH J (lY P q))(U:rH N (lY S q)):
  Calls Tryz.prog 78 #[.map (some M),.map (some Q)] w fun e w'=>e=.returned (.int .i64 (sJ P S q:Int))/\Below w.heap.size w w':=by
 have L:=laid Z;have o:=laid U;clear Z U;have Mq:=R.lt;have Vk:=aac D
 go_enter Tryz.func78,Tryz.ntmps78
 go_wp2_with(first
  |(at_range;refine wpList_range_own _ rfl _ 113 rfl 9 3 Bn bg _ M n1 _ rfl D ?_;intro w0 z X b)
  |go_in)
 clear b
 go_frame
 go_loopw [5] (fun sv wr=>∃(left:Lit->Bool) (cnt:Nat) (Y:List (List UInt8)),wr.ranges Tryz.prog 9 (plainElem Tryz.prog 3) M w.heap.size n1 J left cnt/\tY wr Q n2 N/\Hid (Collected J left Y)/\Y.length+cnt<=Maps.size J/\sv=.int .i64 (jN (ou P S q) Y:Int)/\Below w.heap.size w wr)
  (fun _ wr=>wr.rangeLeft M w.heap.size)
 case atStart=>exact⟨_,_,[],z,R.kept X (by simp),laid (Collected.start J),by simp,rfl,(af _ _).grown X (ae _) (fun j s=>by cases s)⟩
 case round=>
  obtain⟨left,cnt,Y,W,how,l,FW,rfl,K⟩:=hrel;have TW:jN (ou P S q) Y<=1002001:=by
   have h1:=RX P S q Y;have h2:Y.length *(S.size+1)<=1001 *1001:=bc (by omega) (by omega);omega
  go_wp2_with(first
   |(at_next;refine wpList_next_ranges _ rfl _ rfl 9 Bn (plainElem Tryz.prog 3) encStr (bM .i64) (fun key kl hk=>by obtain⟨x,hx,_⟩:=cu aU hk;exact⟨x,hx⟩) (fun v y g=>by obtain⟨c,rfl,_⟩:=plainElem_int_inv aT g;exact⟨c,rfl⟩) M w.heap.size n1 _ _ _ rfl W ?_ ?_)
   |go_in)
  ·intro Vh u;have I:jN (ou P S q) Y=sJ P S q:=OV P S q hq Y l.out.1 fun x=>by
    rw[l.out.2 x,u,L.out.2.2 x];simp
   have O:=laid I;clear I;go_wp2
   go_ret
   exact⟨yJ (by rw[O.out]),K⟩
  ·intro x c kl yd yp w2 T H G g C B m E t hen;obtain⟨x',ex,rfl,_⟩:=cu aU H;obtain rfl:x=x':=encStr_inj ex;obtain⟨c',a,k,_⟩:=plainElem_int_inv aT g;obtain rfl:c=c':=by simpa using a
   have f:yd=.lit (.int .i64 c):=congrArg Prod.fst k;have US:c=(lY P q x:Int):=Ix L.out (by rw[C];exact f);have p:=laid (l.out.step G C);clear t g a k C f ex;have A:tY w2 Q n2 N:=how.kept E (by intro e;cases e;omega);have r:Below w.heap.size w w2:=K.grown E K.size (fun j s=>by cases s;exact ae _);have i:=I4 P q x;have h:=I4 S q x;have HK:=laid H;have n:=laid B.left_eq;have d:=laid W.left_eq;clear H G;go_wp2_with(first
    |(at_lookup;refine wpList_lookup_own_int _ rfl _ _ 113 rfl 9 3 .i64 Bn bg aT (TA _) Q n2 N rfl A _ _ rfl HK.out ?_;intro c2 V apu)
    |go_in)
   have U:=Ix o.out V;have F:wrap64 ((jN (ou P S q) Y:Int)+min (lY P q x:Int) c2)=(jN (ou P S q) (Y++[x]):Int):=by
    rw[PD,U];have e:min (lY P q x:Int) (lY S q x:Int)=((ou P S q x:Nat):Int):=by unfold ou;omega
    rw[e,bU _ (by omega)];omega
   go_roundw
   case rel=>go_light;exact⟨_,T,Y++[x],B,A,p,by rw[ah];simp;omega,iY F,r⟩
   case measure=>go_light;rw[n.out,d.out];exact m
end
section
open RowKit
def oT(k q st:Int):Bool:=decide (0<=k/\k<=6/\1<=q/\q<=8/\1<=st/\st<=200)
theorem PF(k m q st:Int):xc k m q st=(oT k q st&&decide (k<m)):=by
 unfold xc oT;rw[Bool.eq_iff_iff];simp;omega
theorem abL(k q st:Int)(w:World):
  Calls Tryz.prog 45 #[.agg #[.int .i64 k,.int .i64 q,.int .i64 st]] w fun e w'=>e=.returned (.bool (oT k q st))/\Below w.heap.size w w':=by
 have Y:∀o,Below w.heap.size w (w.alloc o):=fun o=>(af _ _).alloc (ae _) o;by_cases K:0<=k
 case neg=>
  go_enter aA,aB
  go_wp2
  go_ret
  exact⟨nW (by unfold oT;rw[decide_eq_false (by omega)]),Y _⟩
 by_cases H:k<=6
 case neg=>
  go_enter aA,aB
  go_wp2
  go_ret
  exact⟨nW (by unfold oT;rw[decide_eq_false (by omega)]),Y _⟩
 by_cases D:1<=q
 case neg=>
  go_enter aA,aB
  go_wp2
  go_ret
  exact⟨nW (by unfold oT;rw[decide_eq_false (by omega)]),Y _⟩
 by_cases R:q<=8
 case neg=>
  go_enter aA,aB
  go_wp2
  go_ret
  exact⟨nW (by unfold oT;rw[decide_eq_false (by omega)]),Y _⟩
 by_cases I:1<=st
 case neg=>
  go_enter aA,aB
  go_wp2
  go_ret
  exact⟨nW (by unfold oT;rw[decide_eq_false (by omega)]),Y _⟩
 by_cases A:st<=200
 case neg=>
  go_enter aA,aB
  go_wp2
  go_ret
  exact⟨nW (by unfold oT;rw[decide_eq_false (by omega)]),Y _⟩
 go_enter aA,aB
 go_wp2
 go_ret
 exact⟨nW (by unfold oT;rw[decide_eq_true (by omega)]),Y _⟩
theorem X7(k q st:Int)(S:ByteArray)(w:World)(Y:S.size<=1000):
  Calls Tryz.prog 46 #[.agg #[.int .i64 k,.int .i64 q,.int .i64 st],.string S] w fun e w'=>e=.returned (.bool (decide (k<(S.size:Int))))/\Below w.heap.size w w':=by
 go_wp2
 go_ret
 exact⟨rfl,(af _ _).alloc (ae _) _⟩
theorem ahD(len k q m:Nat)(Y:(k:Int) *(q:Int)=(m:Int)):o_ len k q=(len:Int)-(q:Int)+1-(m:Int):=by
 unfold o_;have:k *q=m:=by omega
 rw[this]
theorem aae(k q st len:Nat)(w:World)(hk:k<=6)(H:q<=8)(D:len<=1000):
  Calls Tryz.prog 75 #[.agg #[.int .i64 (k:Int),.int .i64 (q:Int),.int .i64 (st:Int)],.int .i64 (len:Int)] w fun e w'=>e=.returned (.int .i64 (o_ len k q))/\Below w.heap.size w w':=by
 obtain⟨m,Y,K⟩:∃m:Nat,(k:Int) *(q:Int)=(m:Int)/\m<=48:=⟨k *q,by simp,by have:=bc hk H;omega⟩;rw[ahD len k q m Y];go_wp2
 go_ret
 exact⟨rfl,(af _ _).alloc (ae _) _⟩
theorem YP(X:ByteArray)(k q st len b:Nat)(w:World)(hX:X.size<=1000)(hk:k<=6)(C:st<=200)(U:len<=1000)(D:b *st<=X.size)(R:b<=100000):
  Calls Tryz.prog 77 #[.agg #[.int .i64 (k:Int),.int .i64 (q:Int),.int .i64 (st:Int)],.string X,.int .i64 (len:Int),.int .i64 (b:Int)] w fun e w'=>e=.returned (.string (X.extract (b *st) (pE len X.size k st b)))/\Below w.heap.size w w':=by
 have Y:pE len X.size k st b=min (b *st+st+len+k) X.size:=rfl;rw[Y];obtain⟨m,K,I⟩:∃m:Nat,b *st=m/\(b:Int) *(st:Int)=(m:Int):=⟨b *st,rfl,by simp⟩;rw[K]at D⊢;clear K Y;have H:min ((m:Int)+(st:Int)+(len:Int)+(k:Int)) (X.size:Int)=((min (m+st+len+k) X.size:Nat):Int):=by omega
 go_wp2
 go_ret
 exact⟨rfl,(af _ _).alloc (ae _) _⟩
theorem QN(L:List _)(i:Nat)(r:ByteArray×ByteArray×ByteArray)(h:L[i]?=some r):(lG L)[i *3]?=some (.string r.1)/\(lG L)[i *3+1]?=some (.string r.2.1)/\(lG L)[i *3+2]?=some (.string r.2.2):=by
 induction L generalizing i with
 |nil=>simp at h
 |cons a L Y=>
  cases i with
  |zero=>simp at h;subst h;exact⟨rfl,rfl,rfl⟩
  |succ i=>
   have:=Y i (by simp_all);rw[show(i+1) *3=i *3+1+1+1 by omega];exact this
def Gc(w:World)(b:Nat)(k q st:Int):=w.heap[b]?=some (.cells #[.int .i64 k,.int .i64 q,.int .i64 st] 75 (0,0))
def pn(k:Int)(L:List (ByteArray×ByteArray×ByteArray)):Bool:=L.all fun r=>decide (k<(r.2.1.size:Int))
theorem W8(k q st:Int)(L:List (ByteArray×ByteArray×ByteArray))(v:Value)(B:Nat)(w:World)(U:w.ownsRow B 131 3 v L.length (lG L))(hl:L.length<=1000)(z:∀r∈L,r.2.1.size<=1000):
  Calls Tryz.prog 59 #[.agg #[.int .i64 k,.int .i64 q,.int .i64 st],v] w fun e w'=>e=.returned (.bool (pn k L))/\Below w.heap.size w w':=by
 obtain⟨p,c,b,A⟩:∃(p:Option Addr) (c:Nat),v=.slice p L.length c/\Hid (∀i (r:ByteArray×ByteArray×ByteArray),L[i]?=some r->∃g,p=some ⟨g,0,none⟩/\g<w.heap.size/\w.cell? ⟨g,i *3,none⟩=some (.string r.1)/\w.cell? ⟨g,i *3+1,none⟩=some (.string r.2.1)/\w.cell? ⟨g,i *3+2,none⟩=some (.string r.2.2)):=by
  rcases U.2 with⟨rfl,O⟩|⟨g,cap,o,rfl,hB,J,s,u,x,y⟩
  ·refine⟨none,0,by rw[O],laid fun i r hr=>?_⟩;have:L=[]:=List.length_eq_zero_iff.1 O;subst this;simp at hr
  ·refine⟨some ⟨g,0,none⟩,cap,rfl,laid fun i r hr=>⟨g,rfl,(ar.1 J).1,?_⟩⟩;have h:=QN L i r hr;have f:=U.cells (g:=g) rfl;have f0:=f _ _ h.1;have f1:=f _ _ h.2.1;have f2:=f _ _ h.2.2;rw[yE]at f0 f1 f2;exact⟨f0,f1,f2⟩
 subst b;have d:=laid z;have T:=laid (fun(S:ByteArray) (W:World) (h:S.size<=1000)=>X7 k q st S W h);clear U z
 go_enter Tryz.func59,Tryz.ntmps59
 go_wp2
 have O:Hid (Gc (w.alloc (.cells #[.int .i64 k,.int .i64 q,.int .i64 st] 75)) w.heap.size k q st):=laid (heap_alloc_new w _)
 go_loopw [9] (fun iv wr=>∃i:Nat,iv=.int .i64 (i:Int)/\i<=L.length/\Hid (pn k (L.take i)=true)/\Gc wr w.heap.size k q st/\Below w.heap.size w wr) (fun iv _=>L.length-(intOf iv).toNat)
 case atStart=>exact⟨0,rfl,ak _,laid rfl,O.out,(af _ _).alloc (ae _) _⟩
 case round=>
  obtain⟨i,rfl,n,M,C,Y⟩:=hrel;clear O;by_cases Z:i<L.length
  ·obtain⟨r,hr⟩:∃r,L[i]?=some r:=⟨L[i],au Z⟩;obtain⟨g,rfl,J,E,G,j⟩:=A.out i r hr;have Q:=d.out r (bB hr);have I:Hid (L.take (i+1)=L.take i++[r]):=laid (by rw[List.take_add_one,hr];rfl);have K:=laid (bB hr);obtain⟨t,rb,a⟩:=r;simp only at E G j Q;have c0:wr.cell? ⟨g,i *3,none⟩=some (.string t):=by rw[Y.cell (p:=⟨g,i *3,none⟩) J];exact E
   have c1:wr.cell? ⟨g,i *3+1,none⟩=some (.string rb):=by rw[Y.cell (p:=⟨g,i *3+1,none⟩) J];exact G
   have c2:wr.cell? ⟨g,i *3+2,none⟩=some (.string a):=by rw[Y.cell (p:=⟨g,i *3+2,none⟩) J];exact j
   have m:g<wr.heap.size:=cA J Y.size;have X:w.heap.size<wr.heap.size:=(ar.1 C).1;have z0:wr.cell? ⟨w.heap.size,0,none⟩=some (.int .i64 k):=by rw[cell_of_row wr _ 0 _ _ _ C];rfl
   have z1:wr.cell? ⟨w.heap.size,1,none⟩=some (.int .i64 q):=by rw[cell_of_row wr _ 1 _ _ _ C];rfl
   have z2:wr.cell? ⟨w.heap.size,2,none⟩=some (.int .i64 st):=by rw[cell_of_row wr _ 2 _ _ _ C];rfl
   have b1:(i:Int)<(L.length:Int):=by omega
   have b2:(0:Int)<=(i:Int):=by omega
   have x1:ai.wrap ((i:Int)+1)=(i:Int)+1:=aj _ (by omega);have l:=laid C;clear hr E G j C;go_wp2_with fail
   refine(T.out rb _ Q).mono ?_;rintro e w2 ⟨rfl,P⟩;have H:Below wr.heap.size wr w2:=((af _ _).alloc (ae _) _).trans (P.mono (by simp));have F:Gc w2 w.heap.size k q st:=by unfold Gc;rw[H.block _ X];exact l.out
   have D:Below w.heap.size w w2:=Y.trans (H.mono Y.size);clear P H;by_cases R:k<(rb.size:Int)
   ·have N:Hid (pn k (L.take (i+1))=true):=laid (by
     rw[I.out];unfold pn;rw[List.all_append];have:=M.out;unfold pn at this;rw[this];simp[R])
    have V:=laid F;rw[decide_eq_true R];clear F I K M;go_wp2
    go_roundw
    case rel=>go_light;exact⟨i+1,by go_num,by omega,N,V.out,D⟩
    case measure=>go_light;simp[intOf];omega
   ·have N:Hid (pn k L=false):=laid (by
     unfold pn;rw[List.all_eq_false];exact⟨_,K.out,by simpa using R⟩)
    rw[decide_eq_false R];clear F I K M R;go_wp2
    go_ret
    exact⟨nW N.out.symm,D⟩
  ·have N:Hid (pn k L=true):=laid (by
    have:=M.out;rw[aO (by omega)]at this;exact this)
   clear M C;go_wp2
   go_ret
   exact⟨nW N.out.symm,Y⟩
end
section
open RowKit Maps
def j9(P X:ByteArray)(k q st:Nat)(t:Int)
 |0=>[]
 |b+1=>if looked P X k q st t b=true then j9 P X k q st t b++[b]else j9 P X k q st t b
theorem GZ(P X:ByteArray)(k q st:Nat)(t:Int):∀n,(j9 P X k q st t n).length<=n
 |0=>ae _
 |n+1=>by
  have:=GZ P X k q st t n;simp[j9];split
  ·simp_all
  ·omega
theorem Ob{st:Nat}{t:Int}(h:looked P X k q st t b=true):j9 P X k q st t (b+1)=j9 P X k q st t b++[b]:=by
 rw[j9,if_pos h]
theorem aaf{st:Nat}{t:Int}(h:looked P X k q st t b=false):j9 P X k q st t (b+1)=j9 P X k q st t b:=by
 rw[j9,if_neg (by simp[h])]
def oU(z:Nat):Value:=.int .i64 (z:Int)
def ST(w:World)(p:Nat)(k q st:Nat):Prop:=w.heap[p]?=some (.cells #[.int .i64 (k:Int),.int .i64 (q:Int),.int .i64 (st:Int)] 75 (0,0))
theorem ST.c0{p st:Nat}(h:ST w p k q st):w.cell? ⟨p,0,none⟩=some (.int .i64 k):=by rw[cell_of_row w p 0 _ _ _ h];rfl
theorem ST.c1{p st:Nat}(h:ST w p k q st):w.cell? ⟨p,1,none⟩=some (.int .i64 q):=by rw[cell_of_row w p 1 _ _ _ h];rfl
theorem ST.c2{p st:Nat}(h:ST w p k q st):w.cell? ⟨p,2,none⟩=some (.int .i64 st):=by rw[cell_of_row w p 2 _ _ _ h];rfl
theorem ST.lt{p st:Nat}(h:ST w p k q st):p<w.heap.size:=by
 have:=block_lt_of_cell h.c0;omega
theorem ST.below{p st B:Nat}(h:ST w p k q st)(K:Below B w w')(Y:p<B):ST w' p k q st:=by unfold ST at *;rw[K.block p Y];exact h
theorem ST.new(w:World)(k q st:Nat):ST (w.alloc (.cells #[.int .i64 k,.int .i64 q,.int .i64 st] 75)) w.heap.size k q st:=heap_alloc_new w _
theorem afJ:(Tryz.prog.info? 3).map (fun i=>(i.zero,i.size,i.bytes))=some (some (.int .i64 0),1,8):=by kernel_rfl
theorem C_{B:Nat}{n:Nat}{xs:List _}(h:w.ownsRow B e 1 v n xs)(Y:Below w.heap.size w w'):w'.ownsRow B e 1 v n xs:=
 h.kept (th Y none) (by cases v.ownBlock<;>simp)
theorem YQ{n B:Nat}{D:DataW _}(h:tY w b n D)(K:Below B w w')(Y:b<B):tY w' b n D:=by
 obtain⟨es,clock,H,r⟩:=h;exact⟨es,clock,by rw[K.block b Y];exact H,r⟩
theorem yH{B B':Nat}{n:Nat}{xs:List _}(h:w.ownsRow B e 1 v n xs)(R:B'<=B):w.ownsRow B' e 1 v n xs:=by
 refine⟨h.1,?_⟩;rcases h.2 with h'|⟨g,cap,Y,K,D,H⟩
 ·simp_all
 ·exact .inr ⟨g,cap,Y,K,by omega,H⟩
theorem X8(X P:ByteArray)(k q st:Nat)(w:World)(hX:X.size<=200)(hP:P.size<=30)(hk:k<=6)(hq:1<=q)(zI:q<=8)(hs:1<=st)(Vz:st<=200):
  Calls Tryz.prog 48 #[.string X,.string P,.agg #[.int .i64 (k:Int),.int .i64 (q:Int),.int .i64 (st:Int)]] w fun e w'=>
   ∃v,e=.returned v/\w'.ownsRow w.heap.size 3 1 v (j9 P X k q st (o_ P.size k q) (stretches X.size st)).length ((j9 P X k q st (o_ P.size k q) (stretches X.size st)).map oU)/\Below w.heap.size w w':=by
 obtain⟨i0,hi,sZ,rj,s_⟩:=info_parts afJ;have htl: -1000<=o_ P.size k q/\o_ P.size k q<=1000:=by
  unfold o_;have:=bc hk zI;omega
 have s:=laid (fun b=>Ci X.size st b hs);have hsl:stretches X.size st<=400:=by
  unfold stretches;have:=Nat.div_le_self (X.size+st-1) st;omega
 generalize hT:o_ P.size k q=t at *;have HT:=laid hT;clear hT
 go_enter Tryz.func48,Tryz.ntmps48
 go_wp2_with fail
 refine(aae k q st P.size _ hk zI (by omega)).mono ?_;rintro e w1 ⟨rfl,d⟩;have F:=(ST.new w k q st).below d (by simp);have O:Below w.heap.size w w1:=((af _ _).alloc (ae _) _).trans (d.mono (by simp));clear d;rw[HT.out];clear HT;have c1:=F.c1;go_wp2_with fail
 refine(Nv P q _ (by omega) hq (by omega)).mono ?_;rintro e w2 ⟨rfl,⟨n1,D1,Mu,Q,G⟩,f⟩;have Z:=F.below f F.lt;have i:Below w.heap.size w w2:=O.trans (f.mono O.size);have VB:=Z.lt;have n:=Q.lt;clear f O F c1;have HCN:=laid G;clear G;generalize w1.heap.size=b1 at *;go_wp2
 go_loopw [9,10] (fun v num wr=>∃b:Nat,num=.int .i64 (b:Int)/\b<=stretches X.size st/\wr.ownsRow w2.heap.size 3 1 v (j9 P X k q st t b).length ((j9 P X k q st t b).map oU)/\Below w2.heap.size w2 wr) (fun _ num _=>stretches X.size st-(intOf num).toNat)
 case atStart=>exact⟨0,rfl,ak _,⟨rfl,.inl ⟨rfl,rfl⟩⟩,af _ _⟩
 case round=>
  obtain⟨b,rfl,hb,c,C⟩:=hrel;have gq:=Z.below C VB;have c0:=gq.c0;have c1:=gq.c1;have c2:=gq.c2;have hll:=GZ P X k q st t b;have L:Hid (looked P X k q st t b=(decide (t<=0)||decide (t<=(sJ P (X.extract (b *st) (pE P.size X.size k st b)) q:Int)))):=laid rfl;by_cases vy:b<stretches X.size st
  ·have N:=(s.out b).2 vy;have y:=laid (fun W=>YP X k q st P.size b W (by omega) hk Vz (by omega) (by omega) (by omega));obtain⟨m,M,hm⟩:∃m:Nat,b *st=m/\(b:Int) *(st:Int)=(m:Int):=⟨b *st,rfl,by simp⟩;rw[M]at N;have hS:(X.extract (b *st) (pE P.size X.size k st b)).size<=1000:=by rw[aD];omega
   generalize X.extract (b *st) (pE P.size X.size k st b)=S at *;clear M;go_wp2_with fail
   refine(y.out _).mono ?_;rintro e w3 ⟨rfl,l⟩;have U:=C_ c l;have Y:=C.trans (l.mono C.size);clear l y;by_cases ht0:t<=0
   ·have x:Hid (looked P X k q st t b=true):=laid (by rw[L.out,decide_eq_true ht0];rfl);clear L;go_wp2_with(first
     |(at_builtin;refine wpList_append_own _ rfl _ _ 25 rfl w2.heap.size 3 i0 (.int .i64 0) 1 8 cD hi sZ rj s_ rfl (by decide) _ _ _ rfl (U.alloc _) ⟨w3.heap.size,0,none⟩ 1 1 [oU b] rfl rfl ?c1 ?c2 ?c3 ?c4 ?c5 ?_)
     |go_in)
    case c1=>
     intro j u J
     match j,J with
     |0,J=>simp at J;subst J;simp[Addr.add,oU]
    case c2=>intro u hu;simp at hu;subst hu;rfl
    case c3=>unfold maxLen;omega
    case c4=>omega
    case c5=>have:=Y.size;simp;omega
    intro v' wz K D _;have A:Below w2.heap.size w2 wz:=(Y.alloc Y.size _).grown D (by have:=Y.size;simp;omega) (fun j J=>(U.lt j J).1);have R:wz.ownsRow w2.heap.size 3 1 v' (j9 P X k q st t (b+1)).length ((j9 P X k q st t (b+1)).map oU):=by
     rw[Ob x.out,ah,az];exact K
    obtain⟨g,cap,n',rfl⟩:∃g cap n',v'=.slice (some ⟨g,0,none⟩) n' cap:=by
     rcases K.2 with⟨_,h0⟩|⟨g,cap,cur,hv,_⟩
     ·omega
     ·exact⟨g,cap,_,hv⟩
    clear K D;go_wp2
    go_roundw
    case rel=>go_light;exact⟨b+1,by go_num,by omega,R,A⟩
    case measure=>go_light;simp[intOf];omega
   ·have akJ:=Z.below Y VB;have d1:=akJ.c1;clear c0 c1 c2;go_wp2_with fail
    refine(Nv S q _ hS hq (by omega)).mono ?_;rintro e w4 ⟨rfl,⟨n2,D2,hn2,T,z⟩,o⟩;have I:=Y.trans (o.mono Y.size);have r:=C_ U o;have V:=YQ Q I n;have E:=laid z;clear z o;go_wp2_with fail
    refine(aad P S q b1 n1 _ n2 D1 D2 _ hq hS Mu V T HCN.out E.out).mono ?_;rintro e w5 ⟨rfl,p⟩;have H:=I.trans (p.mono I.size);have B:=C_ r p;clear p V T E;by_cases hge:t<=(sJ P S q:Int)
    ·have x:Hid (looked P X k q st t b=true):=laid (by rw[L.out,decide_eq_true hge,bk]);clear L;go_wp2_with(first
      |(at_builtin;refine wpList_append_own _ rfl _ _ 25 rfl w2.heap.size 3 i0 (.int .i64 0) 1 8 cD hi sZ rj s_ rfl (by decide) _ _ _ rfl (B.alloc _) ⟨w5.heap.size,0,none⟩ 1 1 [oU b] rfl rfl ?c1 ?c2 ?c3 ?c4 ?c5 ?_)
      |go_in)
     case c1=>
      intro j u J
      match j,J with
      |0,J=>simp at J;subst J;simp[Addr.add,oU]
     case c2=>intro u hu;simp at hu;subst hu;rfl
     case c3=>unfold maxLen;omega
     case c4=>omega
     case c5=>have:=H.size;simp;omega
     intro v' wz K D _;have A:Below w2.heap.size w2 wz:=(H.alloc H.size _).grown D (by have:=H.size;simp;omega) (fun j J=>(B.lt j J).1);have R:wz.ownsRow w2.heap.size 3 1 v' (j9 P X k q st t (b+1)).length ((j9 P X k q st t (b+1)).map oU):=by
      rw[Ob x.out,ah,az];exact K
     obtain⟨g,cap,n',rfl⟩:∃g cap n',v'=.slice (some ⟨g,0,none⟩) n' cap:=by
      rcases K.2 with⟨_,h0⟩|⟨g,cap,cur,hv,_⟩
      ·omega
      ·exact⟨g,cap,_,hv⟩
     clear K D;go_wp2
     go_roundw
     case rel=>go_light;exact⟨b+1,by go_num,by omega,R,A⟩
     case measure=>go_light;simp[intOf];omega
    ·have x:Hid (looked P X k q st t b=false):=laid (by rw[L.out,decide_eq_false (by omega),decide_eq_false (by omega)];rfl);clear L;have R:w5.ownsRow w2.heap.size 3 1 u9 (j9 P X k q st t (b+1)).length ((j9 P X k q st t (b+1)).map oU):=by
      rw[aaf x.out];exact B
     go_wp2
     go_roundw
     case rel=>go_light;exact⟨b+1,by go_num,by omega,R,H⟩
     case measure=>go_light;simp[intOf];omega
  ·have a:b=stretches X.size st:=by omega
   have N:=fun h=>vy ((s.out b).1 h);obtain⟨m,M,hm⟩:∃m:Nat,b *st=m/\(b:Int) *(st:Int)=(m:Int):=⟨b *st,rfl,by simp⟩;rw[M]at N;have hmb:m<=100000:=by rw[<-M];exact bF (bc (show b<=400 by omega) Vz) (by omega)
   clear M;have hms:X.size<=m:=Nat.le_of_not_lt N;have HBE:=laid a;clear N a;go_wp2
   go_ret
   exact⟨u9,rfl,by rw[<-HBE.out];exact yH c (by omega),i.trans (C.mono (by omega))⟩
end
section
open RowKit
theorem aag(n:Nat):bp n=gR n:=by
 induction n using Nat.strongRecOn with
 |_ n Y=>
  by_cases h:n<10
  ·rw[bp,dif_pos h,vR n (by omega)];rfl
  ·rw[bp,dif_neg h,yD n (by omega),Y _ (by omega)];rfl
theorem QO(z:Nat)(w:World)(K:z<=9999)(Y:iU w):
  Calls Tryz.prog 74 #[.int .i64 z] w fun e w'=>e=.returned (.string (str (gR z)))/\Below w.heap.size w w':=by
 refine(Tryz.strconv_Itoa _ (by omega) (by omega) w Y).mono ?_;rintro e w' ⟨rfl,k,os,rfl⟩;rw[Lib.itoa_nonneg,aag];exact⟨rfl,Lib.below_grow _ w (ae _) k os⟩
theorem Oc{p:Value}{B:Nat}{bs:List _}(h:aJ 102 5 B B p bs w)(R:Below w.heap.size w w'):aJ 102 5 B B p bs w':=by
 obtain⟨D,v,I,Y,K⟩:=h;have H:=Lib.BuilderAt.lt ⟨D,v,I,Y,K⟩;exact⟨D,v,by rw[R.block B H];exact I,C_ Y R,K⟩
theorem ic.below{B:Nat}{acc:List _}(h:ic B acc w)(Y:Below w.heap.size w w'):ic B acc w':=
 h.imp (fun h=>Oc h Y) (fun h=>Oc h Y)
theorem QP(B:Nat)(acc:List _)(c:UInt8)(w:World)(h:ic B acc w)(R:acc.length+1<=1000000):
  Calls Tryz.prog 73 #[.pointer (some ⟨B,0,none⟩),.int .u8 c.toNat] w fun e w'=>e=.returned .nilIface/\ic B (acc++[c]) w'/\Below B w w':=by
 refine(XC B B _ _ w h (by simp[ax];omega) (by have:=h.lt;omega)).mono ?_;rintro e w' ⟨D,K,H⟩;have Y:ax acc++[bM .u8 c.toNat]=ax (acc++[c]):=by simp[ax]
 simp_all
theorem yO(x:Int)(z:Nat)(K:x=z)(w:World)(H:z<=9999)(Y:iU w):
  Calls Tryz.prog 74 #[.int .i64 x] w fun e w'=>e=.returned (.string (str (gR z)))/\Below w.heap.size w w':=by subst K;exact QO z w H Y
theorem aah(s:ByteArray)(w:World)(hs:s.size<=1000)(Q:iU w):
  Calls Tryz.prog 127 #[.string s] w fun e w'=>e=.returned (.string (str (py s)))/\Below w.heap.size w w':=by
 have HT:=laid Q;clear Q
 go_enter Tryz.func127,Tryz.ntmps127
 go_wp2
 go_loopw [4,8] (fun k iv wr=>∃i:Nat,k=.int .i64 ((jx s i).2:Int)/\iv=.int .i64 (i:Int)/\i<=s.size/\ic w.heap.size (jx s i).1 wr/\Below w.heap.size w wr) (fun _ iv _=>s.size-(intOf iv).toNat)
 case atStart=>exact⟨0,rfl,rfl,ak _,ic.new w,(af _ _).alloc (ae _) _⟩
 case round=>
  obtain⟨i,rfl,rfl,b,J,H⟩:=hrel;have Z:=I2 s i (by omega);by_cases o:i<s.size
  ·have m:(i:Int)<(s.size:Int):=by omega
   have y:(0:Int)<=(i:Int):=by omega
   have v:=mm s i o;have d:=laid (@adp s i);have c:=laid (@afE s i);have x:=om ((jx s i).2+1) (by omega);have x1:ai.wrap ((i:Int)+1)=(i:Int)+1:=aj _ (by omega);have x2:ai.wrap (((jx s i).2:Int)+1)=((jx s i).2:Int)+1:=aj _ (by omega);have E:Hid (∀W:World,Below w.heap.size w W->Calls Tryz.prog 74 #[.int .i64 (((jx s i).2:Int)+1)] W fun e w'=>e=.returned (.string (str (gR ((jx s i).2+1))))/\Below W.heap.size W w'):=laid (fun W u=>yO _ ((jx s i).2+1) (by omega) W (by omega) (HT.out.on u));have t:(jx s i).2<=1000:=by omega
   have hO:(jx s i).1.length<=5000:=by omega
   generalize(jx s i).1=O at *;generalize(jx s i).2=n at *;by_cases K:i+1=s.size\/at8 s (i+1)≠at8 s i
   ·have T:=laid (d.out K);clear d c Z;have X:((i:Int)+1==(s.size:Int))=true\/(((i:Int)+1==(s.size:Int))=false/\i+1<s.size/\(((at8 s (i+1)).toNat:Int) != ((at8 s i).toNat:Int))=true):=by
     by_cases N:i+1=s.size
     ·left;simp;omega
     ·right;refine⟨by simp;omega,by omega,?_⟩;rcases K with h|h
      ·exact absurd h N
      ·exact toNat_ne h
    clear K;rcases X with q|⟨q,P,a⟩
    ·go_wp2_with fail
     go_quiet(fail)
     have D:=J.drewN nq;have Y:=Go.below_drewN H nq;go_wp2_with fail
     refine(E.out _ Y).mono ?_;rintro e w2 ⟨rfl,U⟩;have R:=D.below U;have B:=Y.trans (U.mono Y.size);clear U J H D Y E;go_wp2_with fail
     refine(C7 _ _ (str (gR (n+1))) _ R (by rw[gV];omega)).mono ?_;rintro e w3 ⟨rfl,I,L⟩;have C:=B.trans L;clear L R;go_wp2_with fail
     refine(QP _ _ (at8 s i) _ I (by rw[ah];show _+(gR (n+1)).length+1<=_;omega)).mono ?_;rintro e w4 ⟨rfl,A,M⟩;have F:=C.trans M;have S:=laid A;clear M I A;go_wp2
     go_roundw
     case rel=>go_light;exact⟨i+1,iY (by rw[T.out];rfl),by go_num,by omega,by rw[T.out];exact S.out,F⟩
     case measure=>go_light;simp[intOf];omega
    ·have g:(i:Int)+1<(s.size:Int):=by omega
     have l:(0:Int)<=(i:Int)+1:=by omega
     have G:=mm s (i+1) P;go_wp2_with fail
     go_quiet(fail)
     have D:=J.drewN nq;have Y:=Go.below_drewN H nq;go_wp2_with fail
     refine(E.out _ Y).mono ?_;rintro e w2 ⟨rfl,U⟩;have R:=D.below U;have B:=Y.trans (U.mono Y.size);clear U J H D Y E;go_wp2_with fail
     refine(C7 _ _ (str (gR (n+1))) _ R (by rw[gV];omega)).mono ?_;rintro e w3 ⟨rfl,I,L⟩;have C:=B.trans L;clear L R;go_wp2_with fail
     refine(QP _ _ (at8 s i) _ I (by rw[ah];show _+(gR (n+1)).length+1<=_;omega)).mono ?_;rintro e w4 ⟨rfl,A,M⟩;have F:=C.trans M;have S:=laid A;clear M I A;go_wp2
     go_roundw
     case rel=>go_light;exact⟨i+1,iY (by rw[T.out];rfl),by go_num,by omega,by rw[T.out];exact S.out,F⟩
     case measure=>go_light;simp[intOf];omega
   ·have T:=laid (c.out K);have N:i+1≠s.size:=fun h=>K (.inl h);have z:at8 s (i+1)=at8 s i:=Classical.byContradiction fun h=>K (.inr h);have q:((i:Int)+1==(s.size:Int))=false:=by simp;omega
    have P:i+1<s.size:=by omega
    have g:(i:Int)+1<(s.size:Int):=by omega
    have l:(0:Int)<=(i:Int)+1:=by omega
    have G:=mm s (i+1) P;have a:=toNat_eq z;have p:=laid J;clear d c N z K Z E;go_wp2_with fail
    go_quiet(fail)
    have Y:=Go.below_drewN H nq;go_wp2
    go_roundw
    case rel=>go_light;exact⟨i+1,iY (by rw[T.out];simp),by go_num,by omega,by rw[T.out];exact p.out.drewN _,Y⟩
    case measure=>go_light;simp[intOf];omega
  ·have j:i=s.size:=by omega
   have r:Hid (str (jx s i).1=str (py s)):=laid (by unfold py;rw[j]);clear j Z;generalize(jx s i).1=O at *;generalize(jx s i).2=n at *;go_wp2_with fail
   refine(CK _ _ _ J).mono ?_;rintro e w1 ⟨rfl,f⟩;have V:=H.trans f;go_wp2
   go_ret
   exact⟨Ra r.out,V⟩
def Kp(b:Nat)(w w':World):Prop:=∀(x:Nat) (c:Array Value) (T:TypeId) (fz:Nat×Nat),x≠b->T≠5->w.heap[x]?=some (.cells c T fz)->w'.heap[x]?=some (.cells c T fz)
theorem Kp.refl(b:Nat)(w:World):Kp b w w:=fun _ _ _ _ _ _ h=>h
theorem Kp.trans{b:Nat}{w w' x7:World}(h:Kp b w w')(k:Kp b w' x7):Kp b w x7:=fun x c T fz Y K H=>k x c T fz Y K (h x c T fz Y K H)
theorem Kp.uQ(h:Below w.heap.size w w'):Kp b w w':=fun x c T fz H D Y=>by
 have K:=(ar.1 Y).1;rw[h.block x K];exact Y
theorem Kp.put(b k:Nat)(v:Value)(w:World):Kp b w (w.setCell ⟨b,k,none⟩ v):=fun x c T fz Y D K=>by
 have H:=(ar.1 K).1;have:=(pW w b k v).block x H (fun e=>Y (by simp_all));simp_all
theorem Kp.alloc(b:Nat)(w:World)(o:Obj):Kp b w (w.alloc o):=fun x c T fz H D Y=>by
 have K:=(ar.1 Y).1;rw[heap_alloc_old w _ K];exact Y
theorem Kp.row{B n:Nat}{xs:List _}(D:w.ownsRow B 5 1 v n xs)(h:w.grownBy w' v.ownBlock):Kp b w w':=fun x c T fz R K Y=>by
 have H:=(ar.1 Y).1;rw[h.block x H (fun e=>yv D Y K e.symm)];exact Y
theorem Od(B b:Nat)(bs:List _)(w:World)(h:aK 102 5 B b bs w):
  Calls Tryz.prog 96 #[.pointer (some ⟨b,0,none⟩)] w fun e w'=>e=.returned (.tuple #[])/\aJ 102 5 B b (.pointer (some ⟨b,0,none⟩)) bs w'/\Below B w w'/\Kp b w w':=by
 rcases h with h|h
 ·refine(M9 b w h.cell0 h.shape h.frozen0).mono ?_;rintro e w' ⟨rfl,rfl⟩;exact⟨rfl,h.used _,(af B w).setCell h.1 _,Kp.put b 0 _ w⟩
 ·refine(Nf b w h.cell0).mono ?_;rintro e w' ⟨rfl,rfl⟩;exact⟨rfl,h,af B _,Kp.refl b _⟩
theorem XE(B b:Nat)(bs:List Value)(s:ByteArray)(w:World)(h:aK 102 5 B b bs w)(Q:bs.length+s.size<=1000000000)(V:B<=w.heap.size):
  Calls Tryz.prog 63 #[.pointer (some ⟨b,0,none⟩),.string s] w fun e w'=>e=.returned (.tuple #[.int .i64 (s.size:Int),.nilIface])/\aK 102 5 B b (bs++bX s) w'/\Below B w w'/\Kp b w w':=by
 obtain⟨i0,X,J,L,M⟩:=info_parts Eu
 go_enter Tryz.func63,Tryz.ntmps63
 go_wp2_with(go_at_call 96;refine(Od B b bs _ h).mono ?_)
 rintro e w1 ⟨rfl,⟨O,v,I,K,C⟩,D,A⟩;have c1:w1.cell? ⟨b,1,none⟩=some v:=by rw[aX I];rfl
 go_wp2_with(at_builtin;refine Lib.wpList_append_own_string _ rfl _ _ 79 9 rfl B 5 i0 cE aU X J L M _ _ _ rfl K s rfl ?c3 ?c4 ?c5 ?_)
 case c3=>unfold maxLen;omega
 case c4=>omega
 case c5=>have:=D.size;omega
 intro v' w2 H Y _;have U:b<w1.heap.size:=by
  rcases ay b w1.heap.size with h'|h'
  ·exact h'
  ·simp[bN h']at I
 have R:w2.heap[b]?=some (.cells #[.pointer (some ⟨b,0,none⟩),v] 102 (0,0)):=by
  rw[Y.block b U (fun e=>C e.symm)];exact I
 have d1:w2.cell? ⟨b,1,none⟩=some v:=by rw[aX R];rfl
 have f1:w2.frozen? ⟨b,1,none⟩=false:=bW R 1;obtain⟨N,P,cap,rfl⟩:∃N P cap,v'=.slice N P cap:=by
  rcases H.2 with⟨F,_⟩|⟨g,cap,S,F,_⟩
  ·exact⟨_,_,_,F⟩
  ·exact⟨_,_,_,F⟩
 go_wp2
 go_ret2
 refine⟨rfl,.inr ?_,?_,?_⟩
 ·exact bV (T:=102) (e:=5) O R (bs':=bs++bX s) (by simpa[Lib.strCells_length]using H) F6
 ·exact(D.grown Y (by have:=D.size;omega) (fun k hk=>(K.lt k hk).1)).setCell (p:=⟨b,1,none⟩) O _
 ·exact(A.trans (Kp.row K Y)).trans (Kp.put b 1 _ w2)
theorem YR(B b:Nat)(bs:List Value)(c:Int)(w:World)(h:aK 102 5 B b bs w)(O:bs.length+1<=1000000000)(V:B<=w.heap.size):
  Calls Tryz.prog 73 #[.pointer (some ⟨b,0,none⟩),.int .u8 c] w fun e w'=>e=.returned .nilIface/\aK 102 5 B b (bs++[.int .u8 c]) w'/\Below B w w'/\Kp b w w':=by
 obtain⟨i0,S,J,L,M⟩:=info_parts Eu
 go_enter Tryz.func73,Tryz.ntmps73
 go_wp2_with(go_at_call 96;refine(Od B b bs _ h).mono ?_)
 rintro e w1 ⟨rfl,⟨N,v,I,K,F⟩,D,U⟩;have c1:w1.cell? ⟨b,1,none⟩=some v:=by rw[aX I];rfl
 go_wp2_with(at_builtin;refine wpList_append_own _ rfl _ _ 79 rfl B 5 i0 (.int .u8 0) 1 1 cE S J L M rfl (by decide) _ _ _ rfl (K.alloc _) ⟨w1.heap.size,0,none⟩ 1 1 [.int .u8 c] rfl rfl ?c1 ?c2 ?c3 ?c4 ?c5 ?_)
 case c1=>
  intro j u A
  match j,A with
  |0,A=>simp at A;subst A;simp[Addr.add]
 case c2=>intro u P;simp at P;subst P;rfl
 case c3=>unfold maxLen;omega
 case c4=>omega
 case c5=>have:=D.size;simp;omega
 intro v' w2 H Y _;have C:b<w1.heap.size:=by
  rcases ay b w1.heap.size with h'|h'
  ·exact h'
  ·simp[bN h']at I
 have R:w2.heap[b]?=some (.cells #[.pointer (some ⟨b,0,none⟩),v] 102 (0,0)):=by
  rw[Y.block b (by simp;omega) (fun e=>F e.symm),Lib.alloc_old w1 _ b C];exact I
 have d1:w2.cell? ⟨b,1,none⟩=some v:=by rw[aX R];rfl
 have f1:w2.frozen? ⟨b,1,none⟩=false:=bW R 1;obtain⟨g,cap,rfl⟩:∃g cap,v'=.slice (some ⟨g,0,none⟩) (bs.length+1) cap:=by
  rcases H.2 with⟨_,Z⟩|⟨g,cap,Q,X,_⟩
  ·omega
  ·exact⟨g,cap,X⟩
 go_wp2
 go_ret
 refine⟨rfl,.inr ?_,?_,?_⟩
 ·exact bV (T:=102) (e:=5) N R (bs':=bs++[.int .u8 c]) (by simpa using H) F6
 ·exact((D.alloc (by have:=D.size;omega) _).grown Y (by have:=D.size;simp;omega) (fun k hk=>(K.lt k hk).1)).setCell (p:=⟨b,1,none⟩) N _
 ·exact((U.trans (Kp.alloc b w1 _)).trans (Kp.row (K.alloc _) Y)).trans (Kp.put b 1 _ w2)
theorem PG(B:Nat)(acc:List _)(x:ByteArray)(w:World)(h:ic B acc w)(R:acc.length+x.size<=1000000000):
  Calls Tryz.prog 63 #[.pointer (some ⟨B,0,none⟩),.string x] w fun e w'=>e=.returned (.tuple #[.int .i64 x.size,.nilIface])/\ic B (acc++x.data.toList) w'/\Below B w w'/\Kp B w w':=by
 refine(XE B B _ x w h (by simp[ax];omega) (by have:=h.lt;omega)).mono ?_;rintro e w' ⟨D,Y,K,H⟩;rw[Pw]at Y;simp_all
theorem wV(B:Nat)(acc:List _)(c:UInt8)(w:World)(h:ic B acc w)(U:acc.length+1<=1000000000):
  Calls Tryz.prog 73 #[.pointer (some ⟨B,0,none⟩),.int .u8 c.toNat] w fun e w'=>e=.returned .nilIface/\ic B (acc++[c]) w'/\Below B w w'/\Kp B w w':=by
 refine(YR B B _ _ w h (by simp[ax];omega) (by have:=h.lt;omega)).mono ?_;rintro e w' ⟨R,K,H,D⟩;have Y:ax acc++[bM .u8 c.toNat]=ax (acc++[c]):=by simp[ax]
 simp_all
def ns(xs:List ByteArray):=Lib.join (xs.map (·.data.toList)) [9]
def VC(x:ByteArray):Value:=.string x
theorem GA(B V:Nat)(acc:List UInt8)(xs:List ByteArray)(v:Value)(w:World)(H:ic B acc w)(Y:w.ownsRow V 9 1 v xs.length (xs.map VC))(l:1<=xs.length)(r:xs.length<=100)(z:acc.length+(ns xs).length+1<=1000000000):
  Calls Tryz.prog 91 #[.pointer (some ⟨B,0,none⟩),v] w fun e w'=>e=.returned (.tuple #[])/\ic B (acc++ns xs++[10]) w'/\Below B w w'/\Kp B w w':=by
 rcases Y.2 with⟨_,c⟩|⟨g,cap,Z,rfl,G,C,L,W,M,N⟩
 ·omega
 have T:Hid (Calls Tryz.prog 110 _ w fun e w'=>e=.returned (.string (str (ns xs)))/\Below w.heap.size w w'):=laid (by
  refine(Tryz.strings_Join g 0 cap xs ⟨#[9]⟩ w (fun j x q=>?_) (ar.1 C).1 (by omega) L (by unfold ns at z;show(Lib.join _ [9]).length<=_;omega)).mono ?_
  ·have h:=(Y.cells (g:=g) rfl) j (VC x) (by rw[cg,q];rfl);rw[yE]at h;rw[Nat.zero_add];exact h
  ·rintro e w' ⟨rfl,E⟩;exact⟨rfl,E⟩)
 clear Y C M N
 go_enter Tryz.func91,Tryz.ntmps91
 go_wp2_with fail
 refine T.out.mono ?_;rintro e w1 ⟨rfl,K⟩;have I:=H.below K;have O:Kp B w w1:=Kp.uQ K;have D:Below B w w1:=K.mono (by have:=H.lt;omega);clear K T H;go_wp2_with fail
 refine(PG _ _ (str (ns xs)) _ I (by rw[gV];omega)).mono ?_;rintro e w2 ⟨rfl,A,F,P⟩;have Q:=O.trans P;have R:=D.trans F;go_wp2_with fail
 refine(wV _ _ 10 _ A (by rw[ah];show _+(ns xs).length+1<=_;omega)).mono ?_;rintro e w3 ⟨rfl,U,J,S⟩;have X:Hid (ic B (acc++ns xs++[10]) w3/\Below B w w3/\Kp B w w3):=laid ⟨U,R.trans J,Q.trans S⟩;go_wp2
 go_end0
 exact⟨rfl,X.out⟩
theorem RY:(Tryz.prog.info? 9).map (fun i=>(i.zero,i.size,i.bytes))=some (some (.string ⟨#[]⟩),1,16):=by kernel_rfl
theorem QQ:∀l m,(∀x∈l,x.length<=m)->(Lib.join l [9]).length<=l.length *(m+1)
 |[],m,_=>by simp[Lib.join]
 |[a],m,h=>by have:=h a (by simp);simp[Lib.join];omega
 |a::b::l,m,h=>by
  have K:=h a (by simp);have H:=QQ (b::l) m (fun x Y=>h x (by simp[Y]));have e:Lib.join (a::b::l) [9]=a++([9]++Lib.join (b::l) [9]):=by simp[Lib.join]
  rw[e,ah,ah];simp at *;rw[Nat.add_mul _ 1 _];omega
theorem RZ(xs:List _)(m:Nat)(h:∀x∈xs,x.size<=m):(ns xs).length<=xs.length *(m+1):=by
 have:=QQ _ m (fun x Y=>by
  rw[aZ]at Y;obtain⟨y,K,rfl⟩:=Y;exact h y K)
 rw[bu]at this;exact this
def sE(rn rb rm:ByteArray):Value:=.agg #[.string rn,.string rb,.string rm]
structure Pl where
 rn:ByteArray
 rb:ByteArray
 rm:ByteArray
 fl:Bool
 st:Nat
 er:Nat
 lt:ByteArray
 df:ByteArray
def Pl.val(p:Pl):Value:=.agg #[.string p.rn,.string p.rb,.string p.rm,.bool p.fl,.int .i64 (p.st:Int),.int .i64 (p.er:Int),.string p.lt,.string p.df]
def vf(fl first:Bool):=(if fl then 16 else 0)+(if first then 0 else 256)
theorem abM(p:Pl)(w:World):
  Calls Tryz.prog 241 #[p.val] w fun e w'=>e=.returned (sE p.rn p.rb p.rm)/\Below w.heap.size w w':=by
 unfold Pl.val sE;obtain⟨rn,rb,rm,fl,st,er,lt,df⟩:=p;simp only;go_wp2
 refine bodyPost_ret (results_cell_row rfl _ _ _ _ _ _ _ rfl (heap_alloc2_new _ _ _) cC rfl JG) rfl ?_;exact⟨rfl,((af _ _).alloc (ae _) _).alloc (by simp) _⟩
theorem abN(p:Pl)(first:Bool)(w:World):
  Calls Tryz.prog 240 #[p.val,.bool first] w fun e w'=>e=.returned (.int .i64 (vf p.fl first:Int))/\Below w.heap.size w w':=by
 unfold Pl.val;obtain⟨rn,rb,rm,fl,st,er,lt,df⟩:=p;simp only;cases fl<;>cases first
 all_goals
  go_wp2
  go_ret
  exact⟨rfl,(af _ _).alloc (ae _) _⟩
theorem abO(rn rb rm:ByteArray)(w:World):
  Calls Tryz.prog 239 #[sE rn rb rm] w fun e w'=>e=.returned (sE rn rb rm)/\Below w.heap.size w w':=by
 unfold sE;go_wp2
 refine bodyPost_ret (results_cell_row rfl _ _ _ _ _ _ _ rfl (heap_alloc2_new _ _ _) cC rfl JG) rfl ?_;exact⟨rfl,((af _ _).alloc (ae _) _).alloc (by simp) _⟩
theorem abP(rn rb rm:ByteArray)(first:Bool)(w:World):
  Calls Tryz.prog 238 #[sE rn rb rm,.bool first] w fun e w'=>e=.returned (.int .i64 4)/\Below w.heap.size w w':=by
 go_wp2
 go_ret
 exact⟨rfl,(af _ _).alloc (ae _) _⟩
theorem abQ(a b c:ByteArray)(w:World):(bm (.iface 155 (.agg #[.string a,.string b,.string c])) 136 158 true).run Tryz.prog w=.ok (.tuple #[.agg #[.string ⟨#[]⟩,.string ⟨#[]⟩,.string ⟨#[]⟩,.bool false,.int .i64 0,.int .i64 0,.string ⟨#[]⟩,.string ⟨#[]⟩],.bool false]) w:=by kernel_rfl
theorem abR(a b c:ByteArray)(w:World):(bm (.iface 155 (.agg #[.string a,.string b,.string c])) 136 155 true).run Tryz.prog w=.ok (.tuple #[.agg #[.string a,.string b,.string c],.bool true]) w:=by kernel_rfl
theorem abS(p:Pl)(w:World):(bm (.iface 158 p.val) 136 158 true).run Tryz.prog w=.ok (.tuple #[p.val,.bool true]) w:=by kernel_rfl
theorem WX(B:Nat)(acc:List UInt8)(XN rn rb rm:ByteArray)(first:Bool)(w:World)(l:ic B acc w)(m:rn.size<=1000)(h2:rb.size<=1000)(h3:rm.size<=1000)(hl:acc.length<=500000000)(Z:iU w):
  Calls Tryz.prog 93 #[.pointer (some ⟨B,0,none⟩),.string XN,.iface 155 (sE rn rb rm),.bool first] w fun e w'=>e=.returned (.tuple #[])/\ic B (acc++ns [rn,str (gR 4),str [42],str [48],str [42],str [45],str [45],rb,rm]++[10]) w'/\Below B w w'/\Kp B w w':=by
 have HT:=laid Z;have p:=laid (fun W:World=>abP rn rb rm first W);have v:=laid (abO rn rb rm w);clear Z;unfold sE at *
 go_enter Tryz.func93,cB
 go_wp2_with fail
 refine v.out.mono ?_;rintro e w1 ⟨rfl,L⟩;have M:=l.below L;have k:Kp B w w1:=Kp.uQ L;have N:Below B w w1:=L.mono (by have:=l.lt;omega);have y:=laid (HT.out.on L);clear L v l HT;go_wp2_with fail
 obtain⟨i0,hi,sZ,rj,s_⟩:=info_parts RY;obtain⟨w2,Q,rY,a,T,V,O,i,n⟩:∃(w2:World) (Q:Nat),w1.alloc (.cells #[.string rn,.string rb,.string rm] 131)=w2/\w1.heap.size=Q/\w2.heap[Q]?=some (.cells #[.string rn,.string rb,.string rm] 131 (0,0))/\ic B acc w2/\Below B w w2/\Kp B w w2/\iU w2:=by
  have hb:Below w1.heap.size w1 (w1.alloc (.cells #[.string rn,.string rb,.string rm] 131)):=(af _ _).alloc (ae _) _;exact⟨_,_,rfl,rfl,heap_alloc_new w1 _,M.below hb,N.trans (hb.mono (by have:=M.lt;omega)),k.trans (Kp.uQ hb),y.out.on hb⟩
 rw[rY,a];clear rY a M N k y;have a0:w2.cell? ⟨Q,0,none⟩=some (.string rn):=by rw[cell_of_row w2 _ 0 _ _ _ T];rfl
 have Mw:Q<w2.heap.size:=(ar.1 T).1;have s:=laid T;have q:=laid V;have c:Hid (∀W:World,Below w2.drew.heap.size w2.drew W->Calls Tryz.prog 74 #[.int .i64 4] W fun e w'=>e=.returned (.string (str (gR 4)))/\Below W.heap.size W w'):=laid fun W b=>yO 4 4 rfl W (by omega) (n.on (w':=W) ⟨b.os,b.tape,b.output,b.size,b.block⟩);obtain⟨G,d⟩:∃D,D=str (gR 4):=⟨_,rfl⟩;rw[<-d]at c;have z:=laid d;clear d T V n
 go_region_held3 (fun w'=>w'.cell? ⟨Q,0,none⟩=some (.string rn))
  (first
   |go_keep
   |(rw[S.cell (by have:=K.size;simp at this⊢;omega),K.cell (by first|omega|(simp;omega))];assumption)
   |(rw[K.cell (by first|omega|(simp;omega))];assumption))
  (first
   |(go_at_call 238;refine(p.out _).mono ?_;rintro e w' ⟨rfl,K⟩)
   |(go_at_call 74;refine(c.out _ K).mono ?_;rintro e F ⟨rfl,S⟩))
 have A:Below w2.heap.size w2 (F.alloc (.cells #[.string rn,.string G] 9)):=by
  have m:Below w2.heap.size w2 w':=⟨K.os,K.tape,K.output,K.size,K.block⟩;have h2:=m.trans (S.mono m.size);exact h2.alloc h2.size _
 have R:(F.alloc (.cells #[.string rn,.string G] 9)).ownsRow w2.heap.size 9 1 (.slice (some ⟨F.heap.size,0,none⟩) 2 2) 2 [.string rn,.string G]:=
  ⟨rfl,.inr ⟨F.heap.size,2,_,rfl,by have m:=K.size;have h2:=S.size;simp at m;omega,heap_alloc_new F _,ae _,by unfold maxLen;omega,rfl,rfl⟩⟩
 obtain⟨w4,uw⟩:∃w4:World,F.alloc (.cells #[.string rn,.string G] 9)=w4:=⟨_,rfl⟩;rw[uw]at A R⊢;generalize F.heap.size=g4 at *;clear uw K S c p;have f:w2.heap.size<=w4.heap.size:=A.size;have q1:=abQ rn rb rm;have q2:=abR rn rb rm;clear a0;go_wp2_with(first
  |(at_builtin;refine wpList_append_own _ rfl _ _ 65 rfl w2.heap.size 9 i0 (.string ⟨#[]⟩) 1 16 aI hi sZ rj s_ rfl (by decide) _ _ _ rfl ((R.alloc _).alloc _) ⟨w4.heap.size+1,0,none⟩ 5 5 [.string ⟨#[42]⟩,.string ⟨#[48]⟩,.string ⟨#[42]⟩,.string ⟨#[45]⟩,.string ⟨#[45]⟩] rfl rfl ?c1 ?c2 ?c3 ?c4 ?c5 ?_)
  |go_in)
 case c1=>
  intro j u Y
  match j,Y with
  |0,Y=>simp at Y;subst Y;simp[Addr.add,go_sem]
  |1,Y=>simp at Y;subst Y;simp[Addr.add,go_sem]
  |2,Y=>simp at Y;subst Y;simp[Addr.add,go_sem]
  |3,Y=>simp at Y;subst Y;simp[Addr.add,go_sem]
  |4,Y=>simp at Y;subst Y;simp[Addr.add,go_sem]
 case c2=>intro u hu;simp at hu;rcases hu with rfl|rfl|rfl|rfl|rfl<;>rfl
 case c3=>unfold maxLen;omega
 case c4=>omega
 case c5=>simp;omega
 intro v5 E I H _;have U:Below w2.heap.size w2 E:=((A.alloc A.size _).alloc (by simp;omega) _).grown H (by simp;omega) (fun j Y=>(R.lt j Y).1);obtain⟨g5,ER,rfl⟩:∃g cap,v5=.slice (some ⟨g,0,none⟩) 7 cap:=by
  rcases I.2 with⟨_,h0⟩|⟨gg,cap,cur,hv,_⟩
  ·omega
  ·exact⟨gg,cap,hv⟩
 clear H R A q1 q2 f;have P:E.heap[Q]?=some (.cells #[.string rn,.string rb,.string rm] 131 (0,0)):=by rw[U.block Q Mw];exact s.out
 have a1:E.cell? ⟨Q,1,none⟩=some (.string rb):=by rw[cell_of_row E _ 1 _ _ _ P];rfl
 have a2:E.cell? ⟨Q,2,none⟩=some (.string rm):=by rw[cell_of_row E _ 2 _ _ _ P];rfl
 have f:w2.heap.size<=E.heap.size:=U.size;clear P s;go_wp2_with(first
  |(at_builtin;refine wpList_append_own _ rfl _ _ 65 rfl w2.heap.size 9 i0 (.string ⟨#[]⟩) 1 16 aI hi sZ rj s_ rfl (by decide) _ _ _ rfl (I.alloc _) ⟨E.heap.size,0,none⟩ 2 2 [.string rb,.string rm] rfl rfl ?c1 ?c2 ?c3 ?c4 ?c5 ?_)
  |go_in)
 case c1=>
  intro j u Y
  match j,Y with
  |0,Y=>simp at Y;subst Y;simp[Addr.add,go_sem]
  |1,Y=>simp at Y;subst Y;simp[Addr.add,go_sem]
 case c2=>intro u hu;simp at hu;rcases hu with rfl|rfl<;>rfl
 case c3=>unfold maxLen;omega
 case c4=>omega
 case c5=>simp;omega
 intro v6 w6 C H _;have J:Below w2.heap.size w2 w6:=(U.alloc U.size _).grown H (by simp;omega) (fun j Y=>(I.lt j Y).1);obtain⟨g6,apv,rfl⟩:∃g cap,v6=.slice (some ⟨g,0,none⟩) 9 cap:=by
  rcases C.2 with⟨_,h0⟩|⟨gg,cap,cur,hv,_⟩
  ·omega
  ·exact⟨gg,cap,hv⟩
 have HW:=laid (GA B w2.heap.size acc [rn,G,str [42],str [48],str [42],str [45],str [45],rb,rm] _ w6 (q.out.below J) C (by simp) (by simp) (by
  have h:=RZ [rn,G,str [42],str [48],str [42],str [45],str [45],rb,rm] 1000 (fun x hx=>by
   have hd:=om 4 (by omega);have hd4:G.size<=1000:=by rw[z.out,gV];omega
   simp at hx;rcases hx with rfl|rfl|rfl|rfl|rfl|rfl|rfl|rfl|rfl<;>first|assumption|(rw[gV];simp))
  simp at h;omega))
 have o:=laid (O.trans (J.mono (by have:=q.out.lt;omega)));have r:=laid (i.trans (Kp.uQ J));clear H I U f a1 a2 C J q O i;go_wp2_with fail
 refine HW.out.mono ?_;rintro e w7 ⟨rfl,X,t,VD⟩;have HF:Hid (ic B (acc++ns [rn,str (gR 4),str [42],str [48],str [42],str [45],str [45],rb,rm]++[10]) w7/\Below B w w7/\Kp B w w7):=laid ⟨by rw[<-z.out];exact X,o.out.trans t,r.out.trans VD⟩;clear X t VD o r HW z;go_wp2
 go_end0
 exact⟨rfl,HF.out⟩
theorem WY(B:Nat)(acc:List UInt8)(XN:ByteArray)(p:Pl)(first:Bool)(w:World)(Mx:ic B acc w)(h0:XN.size<=1000)(m:p.rn.size<=1000)(n:p.rb.size<=1000)(h3:p.rm.size<=1000)(h4:p.lt.size<=10000)(h5:p.df.size<=10000)(h6:p.st<=1000)(h7:p.er<=1000)(hl:acc.length<=500000000)(vt:iU w):
  Calls Tryz.prog 93 #[.pointer (some ⟨B,0,none⟩),.string XN,.iface 158 p.val,.bool first] w fun e w'=>e=.returned (.tuple #[])/\ic B (acc++ns [p.rn,str (gR (vf p.fl first)),XN,str (gR (p.st+1)),p.lt,str (gR p.er),p.df,p.rb,p.rm]++[10]) w'/\Below B w w'/\Kp B w w':=by
 have HT:=laid vt;have VE:=laid (fun W:World=>abN p first W);have VF:=laid (abM p w);have q1:=abS p;clear vt;unfold sE Pl.val at *;have hF:vf p.fl first<=272:=by unfold vf;cases p.fl<;>cases first<;>decide
 generalize hFF:vf p.fl first=F at *
 obtain⟨rn,rb,rm,fl,st,er,lt,df⟩:=p;simp only at *;clear hFF
 go_enter Tryz.func93,cB
 go_wp2_with fail
 refine VF.out.mono ?_;rintro e w1 ⟨rfl,Z⟩;have E:=Mx.below Z;have VG:Kp B w w1:=Kp.uQ Z;have G:Below B w w1:=Z.mono (by have:=Mx.lt;omega);have VH:=laid (HT.out.on Z);clear Z VF Mx HT;go_wp2_with fail
 obtain⟨i0,hi,sZ,rj,s_⟩:=info_parts RY;obtain⟨w2,l,rY,F8,r,y,q,VI,My⟩:∃(w2:World) (l:Nat),w1.alloc (.cells #[.string rn,.string rb,.string rm] 131)=w2/\w1.heap.size=l/\w2.heap[l]?=some (.cells #[.string rn,.string rb,.string rm] 131 (0,0))/\ic B acc w2/\Below B w w2/\Kp B w w2/\iU w2:=by
  have hb:Below w1.heap.size w1 (w1.alloc (.cells #[.string rn,.string rb,.string rm] 131)):=(af _ _).alloc (ae _) _;exact⟨_,_,rfl,rfl,heap_alloc_new w1 _,E.below hb,G.trans (hb.mono (by have:=E.lt;omega)),VG.trans (Kp.uQ hb),VH.out.on hb⟩
 rw[rY,F8];clear rY F8 E G VG VH;have a0:w2.cell? ⟨l,0,none⟩=some (.string rn):=by rw[cell_of_row w2 _ 0 _ _ _ r];rfl
 have Mw:l<w2.heap.size:=(ar.1 r).1;have VJ:=laid r;have a:=laid y;have Mz:Hid (∀W:World,Below w2.drew.heap.size w2.drew W->Calls Tryz.prog 74 #[.int .i64 (F:Int)] W fun e w'=>e=.returned (.string (str (gR F)))/\Below W.heap.size W w'):=laid fun W A=>yO (F:Int) F rfl W (by omega) (My.on (w':=W) ⟨A.os,A.tape,A.output,A.size,A.block⟩);have MA:=laid My;obtain⟨f,MB⟩:∃D,D=str (gR F):=⟨_,rfl⟩;rw[<-MB]at Mz;have MC:=laid MB;clear MB r y My
 go_region_held3 (fun w'=>w'.cell? ⟨l,0,none⟩=some (.string rn))
  (first
   |go_keep
   |(rw[J.cell (by have:=Y.size;simp at this⊢;omega),Y.cell (by first|omega|(simp;omega))];assumption)
   |(rw[Y.cell (by first|omega|(simp;omega))];assumption))
  (first
   |(go_at_call 240;refine(VE.out _).mono ?_;rintro e w' ⟨rfl,Y⟩)
   |(go_at_call 74;refine(Mz.out _ Y).mono ?_;rintro e C ⟨rfl,J⟩))
 have N:Below w2.heap.size w2 (C.alloc (.cells #[.string rn,.string f] 9)):=by
  have m:Below w2.heap.size w2 w':=⟨Y.os,Y.tape,Y.output,Y.size,Y.block⟩;have n:=m.trans (J.mono m.size);exact n.alloc n.size _
 have L:(C.alloc (.cells #[.string rn,.string f] 9)).ownsRow w2.heap.size 9 1 (.slice (some ⟨C.heap.size,0,none⟩) 2 2) 2 [.string rn,.string f]:=
  ⟨rfl,.inr ⟨C.heap.size,2,_,rfl,by have m:=Y.size;have n:=J.size;simp at m;omega,heap_alloc_new C _,ae _,by unfold maxLen;omega,rfl,rfl⟩⟩
 obtain⟨w4,uw⟩:∃w4:World,C.alloc (.cells #[.string rn,.string f] 9)=w4:=⟨_,rfl⟩;rw[uw]at N L⊢;generalize C.heap.size=g4 at *;clear uw Y J Mz VE;have ME:w2.heap.size<=w4.heap.size:=N.size;clear a0;go_wp2_with fail
 obtain⟨R,K,zV,v,Q,M,H⟩:∃(R:World) (K:Nat),w4.alloc (.cells #[.string rn,.string rb,.string rm,.bool fl,.int .i64 (st:Int),.int .i64 (er:Int),.string lt,.string df] 158)=R/\w4.heap.size=K/\R.heap[K]?=some (.cells #[.string rn,.string rb,.string rm,.bool fl,.int .i64 (st:Int),.int .i64 (er:Int),.string lt,.string df] 158 (0,0))/\R.ownsRow w2.heap.size 9 1 (.slice (some ⟨g4,0,none⟩) 2 2) 2 [.string rn,.string f]/\Below w2.heap.size w2 R:=
  ⟨_,_,rfl,rfl,heap_alloc_new w4 _,L.alloc _,N.alloc N.size _⟩
 rw[zV,v];have akK:w2.heap.size<=g4:=by
  rcases L.2 with⟨h,_⟩|⟨g,cap,cur,h,h',_⟩
  ·cases h
  ·cases h;exact h'
 clear zV v L N ME q1;have P:K<R.heap.size:=(ar.1 Q).1;have p4:R.cell? ⟨K,4,none⟩=some (.int .i64 (st:Int)):=by rw[cell_of_row R _ 4 _ _ _ Q];rfl
 have I:R.cell? ⟨K,5,none⟩=some (.int .i64 (er:Int)):=by rw[cell_of_row R _ 5 _ _ _ Q];rfl
 have p6:R.cell? ⟨K,6,none⟩=some (.string lt):=by rw[cell_of_row R _ 6 _ _ _ Q];rfl
 have p7:R.cell? ⟨K,7,none⟩=some (.string df):=by rw[cell_of_row R _ 7 _ _ _ Q];rfl
 have x1:ai.wrap ((st:Int)+1)=(st:Int)+1:=aj _ (by omega);have un:∀{W:World},Below R.drew.heap.size R.drew W->Below R.heap.size R W:=fun A=>⟨A.os,A.tape,A.output,A.size,A.block⟩;have HP:Hid (∀W:World,Below R.drew.heap.size R.drew W->W.cell? ⟨K,4,none⟩=some (.int .i64 (st:Int))/\W.cell? ⟨K,5,none⟩=some (.int .i64 (er:Int))/\W.cell? ⟨K,6,none⟩=some (.string lt)/\W.cell? ⟨K,7,none⟩=some (.string df)):=laid fun W A=>⟨by rw[(un A).cell (p:=⟨K,4,none⟩) P];exact p4,by rw[(un A).cell (p:=⟨K,5,none⟩) P];exact I,by rw[(un A).cell (p:=⟨K,6,none⟩) P];exact p6,by rw[(un A).cell (p:=⟨K,7,none⟩) P];exact p7⟩;obtain⟨D1,MF⟩:∃D,D=str (gR (st+1)):=⟨_,rfl⟩;obtain⟨D2,MG⟩:∃D,D=str (gR er):=⟨_,rfl⟩;have k:=laid MF;have i:=laid MG;have VK:Hid (∀W:World,W=R.drew\/Below R.drew.heap.size R.drew W->Calls Tryz.prog 74 #[.int .i64 ((st:Int)+1)] W fun e w'=>e=.returned (.string D1)/\Below W.heap.size W w'):=laid fun W A=>by
  rw[MF];refine yO _ (st+1) (by omega) W (by omega) (MA.out.on ?_);rcases A with rfl|A
  ·exact Go.below_drewN H 1
  ·exact H.trans ((un A).mono H.size)
 have VM:Hid (∀W:World,Below R.drew.heap.size R.drew W->Calls Tryz.prog 74 #[.int .i64 (er:Int)] W fun e w'=>e=.returned (.string D2)/\Below W.heap.size W w'):=laid fun W A=>by
  rw[MG];exact yO _ er rfl W (by omega) (MA.out.on (H.trans ((un A).mono H.size)))
 have B7:Hid (∀(W:World),Below R.drew.heap.size R.drew W->∀o:Obj,(W.alloc o).ownsRow w2.heap.size 9 1 (.slice (some ⟨g4,0,none⟩) 2 2) 2 [.string rn,.string f]):=laid fun W A o=>(uR M (un A)).alloc _;have B8:Hid (∀(W:World),Below R.drew.heap.size R.drew W->∀o:Obj,w2.heap.size<=(W.alloc o).heap.size):=laid fun W A o=>by have m:=H.size;have n:=(un A).size;simp;omega
 have t:=laid H;have B9:Hid (∀(W1 X:World) (o:Obj),Below R.drew.heap.size R.drew W1->(W1.alloc o).grownBy X (some g4)->X.cell? ⟨K,4,none⟩=some (.int .i64 (st:Int))/\X.cell? ⟨K,5,none⟩=some (.int .i64 (er:Int))/\X.cell? ⟨K,6,none⟩=some (.string lt)/\X.cell? ⟨K,7,none⟩=some (.string df)):=laid fun W1 X o A hg=>by
  have e1:X.heap[K]?=some (.cells #[.string rn,.string rb,.string rm,.bool fl,.int .i64 (st:Int),.int .i64 (er:Int),.string lt,.string df] 158 (0,0)):=by
   have hs:=(un A).size;rw[hg.block K (by simp;omega) (fun e=>yv M Q (by decide) e.symm),heap_alloc_old W1 _ (by omega),(un A).block K P];exact Q
  exact⟨by rw[cell_of_row X _ 4 _ _ _ e1];rfl,by rw[cell_of_row X _ 5 _ _ _ e1];rfl,by rw[cell_of_row X _ 6 _ _ _ e1];rfl,by rw[cell_of_row X _ 7 _ _ _ e1];rfl⟩
 clear MF MG M H Q un
 go_region_held3 (fun w'=>w'.cell? ⟨K,4,none⟩=some (.int .i64 (st:Int))/\w'.cell? ⟨K,5,none⟩=some (.int .i64 (er:Int))/\w'.cell? ⟨K,6,none⟩=some (.string lt)/\w'.cell? ⟨K,7,none⟩=some (.string df))
  (first
   |go_keep
   |exact B9.out _ _ _ (Y.trans (J.mono Y.size)) U
   |exact HP.out _ (Y.trans (J.mono Y.size))
   |exact HP.out _ Y)
  (first
   |(go_at_call 74;refine(VK.out _ (.inl rfl)).mono ?_;rintro e w' ⟨rfl,Y⟩)
   |(go_at_call 74;refine(VM.out _ Y).mono ?_;rintro e C ⟨rfl,J⟩)
   |(refine step_append_lies _ rfl _ _ 65 rfl w2.heap.size 9 i0 (.string ⟨#[]⟩) 1 16 aI hi sZ rj s_ rfl (by decide) _ 2 _ rfl (B7.out C (Y.trans (J.mono Y.size)) _) ⟨C.heap.size,0,none⟩ 5 5 [.string XN,.string D1,.string lt,.string D2,.string df] rfl rfl (cG (heap_alloc_new C _)) (fun u hu=>by simp at hu;rcases hu with rfl|rfl|rfl|rfl|rfl<;>rfl) (by omega) (by unfold maxLen;omega) (by omega) (B8.out C (Y.trans (J.mono Y.size)) _) _ rfl ?_;intro g5 ER s d U Gd KM))
 rename_i Kh;clear Kh;have O:Below w2.heap.size w2 s:=by
  have m:Below R.heap.size R w':=⟨Y.os,Y.tape,Y.output,Y.size,Y.block⟩;have n:=t.out.trans (m.mono t.out.size);have h3:=n.trans (J.mono n.size);exact(h3.alloc h3.size _).grown U (by have:=h3.size;simp;omega) (fun j z=>by cases z;exact akK)
 have S:s.ownsRow w2.heap.size 9 1 (.slice (some ⟨g5,0,none⟩) 7 ER) 7 [.string rn,.string f,.string XN,.string D1,.string lt,.string D2,.string df]:=d;simp only[Nat.reduceAdd];clear d;clear U Gd KM Y J VK VM B7 B8 B9 HP p4 I p6 p7 t MA;have c:s.heap[l]?=some (.cells #[.string rn,.string rb,.string rm] 131 (0,0)):=by rw[O.block l Mw];exact VJ.out
 have a1:s.cell? ⟨l,1,none⟩=some (.string rb):=by rw[cell_of_row s _ 1 _ _ _ c];rfl
 have a2:s.cell? ⟨l,2,none⟩=some (.string rm):=by rw[cell_of_row s _ 2 _ _ _ c];rfl
 have ME:w2.heap.size<=s.heap.size:=O.size;clear c VJ;go_wp2_with(first
  |(at_builtin;refine wpList_append_own _ rfl _ _ 65 rfl w2.heap.size 9 i0 (.string ⟨#[]⟩) 1 16 aI hi sZ rj s_ rfl (by decide) _ _ _ rfl (S.alloc _) ⟨s.heap.size,0,none⟩ 2 2 [.string rb,.string rm] rfl rfl ?c1 ?c2 ?c3 ?c4 ?c5 ?_)
  |go_in)
 case c1=>
  intro j u z
  match j,z with
  |0,z=>simp at z;subst z;simp[Addr.add,go_sem]
  |1,z=>simp at z;subst z;simp[Addr.add,go_sem]
 case c2=>intro u hu;simp at hu;rcases hu with rfl|rfl<;>rfl
 case c3=>unfold maxLen;omega
 case c4=>omega
 case c5=>simp;omega
 intro v8 w8 T U _;have V:Below w2.heap.size w2 w8:=(O.alloc O.size _).grown U (by simp;omega) (fun j z=>(S.lt j z).1);obtain⟨g8,apw,rfl⟩:∃g cap,v8=.slice (some ⟨g,0,none⟩) 9 cap:=by
  rcases T.2 with⟨_,h0⟩|⟨gg,cap,cur,hv,_⟩
  ·omega
  ·exact⟨gg,cap,hv⟩
 have HW:=laid (GA B w2.heap.size acc [rn,f,XN,D1,lt,D2,df,rb,rm] _ w8 (a.out.below V) T (by simp) (by simp) (by
  have h:=RZ [rn,f,XN,D1,lt,D2,df,rb,rm] 10000 (fun x hx=>by
   have hd:=om F (by omega);have hd4:f.size<=10000:=by rw[MC.out,gV];omega
   have he:=om (st+1) (by omega);have hd1:D1.size<=10000:=by rw[k.out,gV];omega
   have hf:=om er (by omega);have hd2:D2.size<=10000:=by rw[i.out,gV];omega
   simp at hx;rcases hx with rfl|rfl|rfl|rfl|rfl|rfl|rfl|rfl|rfl<;>omega)
  simp at h;omega))
 have VN:=laid (q.trans (V.mono (by have:=a.out.lt;omega)));have B_:=laid (VI.trans (Kp.uQ V));clear U S O ME a1 a2 T V a q VI;go_wp2_with fail
 refine HW.out.mono ?_;rintro e w9 ⟨rfl,b,VP,VQ⟩;have HF:Hid (ic B (acc++ns [rn,str (gR F),XN,str (gR (st+1)),lt,str (gR er),df,rb,rm]++[10]) w9/\Below B w w9/\Kp B w w9):=laid ⟨by rw[<-MC.out,<-k.out,<-i.out];exact b,VN.out.trans VP,B_.out.trans VQ⟩;clear b VP VQ VN B_ HW MC k i;go_wp2
 go_end0
 exact⟨rfl,HF.out⟩
def AG(w:World)(A n:Nat):Prop:=w.heap[A]?=some (.cells #[.int .i64 (n:Int)] 3 (0,0))
theorem AG.c0{A n:Nat}(h:AG w A n):w.cell? ⟨A,0,none⟩=some (.int .i64 (n:Int)):=by rw[cell_of_row w A 0 _ _ _ h];rfl
theorem AG.fz{A n:Nat}(h:AG w A n):w.frozen? ⟨A,0,none⟩=false:=yA h (by simp)
theorem AG.kp{A B n:Nat}(h:AG w A n)(k:Kp B w w')(Y:A≠B):AG w' A n:=k A _ _ _ Y (by simp) h
theorem AG.put{A n:Nat}(h:AG w A n)(m:Nat):AG (w.setCell ⟨A,0,none⟩ (.int .i64 (m:Int))) A m:=by
 exact yt _ h
theorem PH{p:Value}{B A n:Nat}{bs:List Value}(h:aJ 102 5 B B p bs w)(C:AG w A n)(H:A≠B):aJ 102 5 B B p bs (w.setCell ⟨A,0,none⟩ v):=by
 obtain⟨D,u,I,Y,U⟩:=h;have K:=Lib.BuilderAt.lt ⟨D,u,I,Y,U⟩;have R:=pW w A 0 v;refine⟨D,u,?_,Y.kept R (.inr (yv Y C (by simp))),U⟩;rw[R.block B K (fun e=>H (by simp_all))];exact I
theorem ic.put{B A n:Nat}{acc:List UInt8}(h:ic B acc w)(K:AG w A n)(Y:A≠B):ic B acc (w.setCell ⟨A,0,none⟩ v):=
 h.imp (fun h=>PH h K Y) (fun h=>PH h K Y)
theorem PI{B A:Nat}(h:B<=A):Below B w (w.setCell ⟨A,0,none⟩ v):=(af B w).setCell h v
theorem QR(B A n:Nat)(acc:List UInt8)(W:World)(U:ic B acc W)(R:AG W A n)(Q:B<A)(O:n<=9999)(V:acc.length+10<=1000000)(J:iU W):
  Calls Tryz.prog 149 #[.pointer (some ⟨B,0,none⟩),.pointer (some ⟨A,0,none⟩)] W fun e w'=>e=.returned (.tuple #[])/\ic B (acc++gR n) w'/\AG w' A 0/\Below B W w':=by
 have c0:=R.c0;have P:=om n O
 go_enter Tryz.func149,Tryz.ntmps149
 go_wp2_with fail
 refine(QO n _ O J).mono ?_;rintro e w2 ⟨rfl,K⟩;have C:=U.below K;have I:AG w2 A n:=R.kp (B:=B) (Kp.uQ K) (by omega);have H:Below B W w2:=K.mono (by have:=U.lt;omega);clear K c0;go_wp2_with fail
 refine(PG _ _ (str (gR n)) _ C (by rw[gV];omega)).mono ?_;rintro e w3 ⟨rfl,F,M,N⟩;have Y:=I.kp N (by omega);have D:=H.trans M;have T:=Y.fz;have S:=Y.c0;have L:Hid (ic B (acc++gR n) (w3.setCell _ (.int .i64 0))/\AG _ A 0/\Below B W (w3.setCell ⟨A,0,none⟩ (.int .i64 0))):=laid ⟨F.put Y (by omega),Y.put 0,D.trans (PI (by omega))⟩;go_wp2
 go_end0
 exact⟨rfl,L.out.1,L.out.2.1,L.out.2.2⟩
theorem W9(p t s:ByteArray)(w:World)(hp:p.size<=1000)(ht:t.size<=1000)(hs:s.size<=1000)(m:Fits p t s)(Uv:∀x,x<s.size->at8 s x=77\/at8 s x=73\/at8 s x=68)(vt:iU w):
  Calls Tryz.prog 128 #[.string s,.string p,.string t] w fun e w'=>e=.returned (.string (str (oS p t s)))/\Below w.heap.size w w':=by
 have akL:=laid m;have akM:=laid Uv;have HT:=laid vt;clear m Uv vt
 go_enter Tryz.func128,Tryz.ntmps128
 go_wp2
 have h0:Hid (ic w.heap.size [] ((w.alloc (.cells #[.pointer none,.slice none 0 0] 102)).alloc (.cells #[.int .i64 0] 3))/\AG ((w.alloc (.cells #[.pointer none,.slice none 0 0] 102)).alloc (.cells #[.int .i64 0] 3)) (w.heap.size+1) 0/\Below w.heap.size w ((w.alloc (.cells #[.pointer none,.slice none 0 0] 102)).alloc (.cells #[.int .i64 0] 3))):=laid (by
  refine⟨(ic.new w).below ((af _ _).alloc (ae _) _),?_,((af _ _).alloc (ae _) _).alloc (by simp) _⟩;unfold AG;have:=heap_alloc_new (w.alloc (.cells #[.pointer none,.slice none 0 0] 102)) (.cells #[.int .i64 0] 3);simpa using this)
 go_loopw [8,9,16] (fun iv jv xv wr=>∃x:Nat,iv=.int .i64 ((ja p t s x).i:Int)/\jv=.int .i64 ((ja p t s x).j:Int)/\xv=.int .i64 (x:Int)/\x<=s.size/\ic w.heap.size (ja p t s x).o wr/\AG wr (w.heap.size+1) (ja p t s x).n/\Below w.heap.size w wr) (fun _ _ xv _=>s.size-(intOf xv).toNat)
 case atStart=>exact⟨0,rfl,rfl,rfl,ak _,h0.out.1,h0.out.2.1,h0.out.2.2⟩
 case round=>
  obtain⟨x,rfl,rfl,rfl,EX,S,F,K⟩:=hrel;clear h0;have hle:=I3 p t s x (by omega);by_cases b:x<s.size
  ·have U0:(x:Int)<(s.size:Int):=by omega
   have hx0:(0:Int)<=(x:Int):=by omega
   have Gd:=mm s x b;have r:=akL.out x b;have hlx:=akM.out x b;have x1:ai.wrap ((x:Int)+1)=(x:Int)+1:=aj _ (by omega);have z:Hid (ja p t s (x+1)=uW p t s x (ja p t s x)):=laid rfl;generalize ja p t s x=st at *;obtain⟨O,I,J,N⟩:=st;simp only at *;have hdl:=om N (by omega);have x2:ai.wrap ((I:Int)+1)=(I:Int)+1:=aj _ (by omega);have x3:ai.wrap ((J:Int)+1)=(J:Int)+1:=aj _ (by omega);have x4:ai.wrap ((N:Int)+1)=(N:Int)+1:=aj _ (by omega);have c:Hid (∀W:World,ic w.heap.size O W->AG W (w.heap.size+1) N->Below w.heap.size w W->Calls Tryz.prog 149 #[.pointer (some ⟨w.heap.size,0,none⟩),.pointer (some ⟨w.heap.size+1,0,none⟩)] W fun e w'=>e=.returned (.tuple #[])/\ic w.heap.size (O++gR N) w'/\AG w' (w.heap.size+1) 0/\Below w.heap.size W w'):=laid (fun W h1 h2 h3=>QR _ _ N O W h1 h2 (by omega) (by omega) (by omega) (HT.out.on h3));rcases hlx with u|l|d
   ·have e1:(((at8 s x).toNat:Int)==77)=true:=by rw[u];rfl
    have VS:=r.1 u;have hi1:(I:Int)<(p.size:Int):=by omega
    have E5:(0:Int)<=(I:Int):=by omega
    have Ge:(J:Int)<(t.size:Int):=by omega
    have hj0:(0:Int)<=(J:Int):=by omega
    have hpI:=mm p I VS.1;have htJ:=mm t J VS.2;have T:Hid (ja p t s (x+1)=if ag (at8 p I) (at8 t J)=true then⟨O,I+1,J+1,N+1⟩else⟨O++gR N++[at8 t J],I+1,J+1,0⟩):=laid (by rw[z.out,uW,if_pos u]);clear u r z;have VT:=laid S;have f:=laid F;clear S F;go_wp2_with fail
    go_quiet((go_at_call 150;refine(IG _ _ _).mono ?_;rintro e x7 ⟨rfl,rfl⟩;exact⟨rfl,_,rfl⟩))
    have V:=Go.below_drewN K nq;have q:=VT.out.drewN nq;have L:AG (wr.drewN nq) (w.heap.size+1) N:=f.out;clear VT f;generalize wr.drewN nq=w1 at *;clear K;by_cases M:ag (at8 p I) (at8 t J)=true
    ·have A:Hid (ja p t s (x+1)=⟨O,I+1,J+1,N+1⟩):=laid (by rw[T.out,if_pos M]);rw[M];have c0:=L.c0;have f0:=L.fz;have C:Hid (ic w.heap.size O (w1.setCell ⟨w.heap.size+1,0,none⟩ (.int .i64 ((N:Int)+1)))/\AG (w1.setCell ⟨w.heap.size+1,0,none⟩ (.int .i64 ((N:Int)+1))) (w.heap.size+1) (N+1)/\Below w.heap.size w (w1.setCell ⟨w.heap.size+1,0,none⟩ (.int .i64 ((N:Int)+1)))):=laid ⟨q.put L (by omega),L.put (N+1),V.trans (PI (by omega))⟩;clear T M q L c;go_wp2
     go_roundw
     case rel=>go_light;exact⟨x+1,iY (by rw[A.out];simp),iY (by rw[A.out];simp),by go_num,by omega,by rw[A.out];exact C.out.1,by rw[A.out];exact C.out.2.1,C.out.2.2⟩
     case measure=>go_light;simp[intOf];omega
    ·have A:Hid (ja p t s (x+1)=⟨O++gR N++[at8 t J],I+1,J+1,0⟩):=laid (by rw[T.out,if_neg M]);rw[bj]at M;rw[M];have g:=laid (c.out w1 q L V);clear T M c q L;go_wp2_with fail
     refine g.out.mono ?_;rintro e w2 ⟨rfl,H,D,P⟩;have Y:=V.trans P;clear P g;go_wp2_with fail
     refine(wV _ _ (at8 t J) _ H (by rw[ah];omega)).mono ?_;rintro e w3 ⟨rfl,U,Q,E⟩;have C:Hid (ic w.heap.size (O++gR N++[at8 t J]) w3/\AG w3 (w.heap.size+1) 0/\Below w.heap.size w w3):=laid ⟨U,D.kp E (by omega),Y.trans Q⟩;clear Q E U D H Y V;go_wp2
     go_roundw
     case rel=>go_light;exact⟨x+1,iY (by rw[A.out];simp),iY (by rw[A.out];simp),by go_num,by omega,by rw[A.out];exact C.out.1,by rw[A.out];exact C.out.2.1,C.out.2.2⟩
     case measure=>go_light;simp[intOf];omega
   ·have e1:(((at8 s x).toNat:Int)==77)=false:=by rw[l];rfl
    have e2:(((at8 s x).toNat:Int)==73)=true:=by rw[l];rfl
    have A:Hid (ja p t s (x+1)=⟨O,I+1,J,N⟩):=laid (by rw[z.out,uW,if_neg (by rw[l];decide),if_pos l]);have C:=laid (And.intro S F);clear l r z c S F;go_wp2
    go_roundw
    case rel=>go_light;exact⟨x+1,iY (by rw[A.out];simp),iY (by rw[A.out]),by go_num,by omega,by rw[A.out];exact C.out.1,by rw[A.out];exact C.out.2,K⟩
    case measure=>go_light;simp[intOf];omega
   ·have e1:(((at8 s x).toNat:Int)==77)=false:=by rw[d];rfl
    have e2:(((at8 s x).toNat:Int)==73)=false:=by rw[d];rfl
    have e3:(((at8 s x).toNat:Int)==68)=true:=by rw[d];rfl
    have k:at8 s x≠77:=by rw[d];decide
    have a:at8 s x≠73:=by rw[d];decide
    have hJ:=r.2 k a;have Ge:(J:Int)<(t.size:Int):=by omega
    have hj0:(0:Int)<=(J:Int):=by omega
    have htJ:=mm t J hJ;have T:Hid (ja p t s (x+1)=if x=0\/at8 s (x-1)≠68 then⟨O++gR N++[94]++[at8 t J],I,J+1,0⟩else⟨O++[at8 t J],I,J+1,N⟩):=laid (by rw[z.out,uW,if_neg k,if_neg a]);have g:=laid (c.out wr S F K);clear d r z c k a;have v:(((x:Int)==0)=true/\Hid (ja p t s (x+1)=⟨O++gR N++[94]++[at8 t J],I,J+1,0⟩))\/∃y:Nat,((x:Int)==0)=false/\y<s.size/\ai.wrap ((x:Int)-1)=(y:Int)/\(((((at8 s y).toNat:Int) != 68)=true/\Hid (ja p t s (x+1)=⟨O++gR N++[94]++[at8 t J],I,J+1,0⟩))\/((((at8 s y).toNat:Int) != 68)=false/\Hid (ja p t s (x+1)=⟨O++[at8 t J],I,J+1,N⟩))):=by
     by_cases VU:x=0
     ·exact .inl ⟨by simp;omega,laid (by rw[T.out,if_pos (.inl VU)])⟩
     ·refine .inr ⟨x-1,by simp;omega,by omega,by rw[show(x:Int)-1=((x-1:Nat):Int) by omega];exact aj _ (by omega),?_⟩;by_cases h:at8 s (x-1)=68
      ·exact .inr ⟨by rw[h];rfl,laid (by rw[T.out,if_neg (by rintro(h'|h');exact VU h';exact h' h)])⟩
      ·exact .inl ⟨toNat_ne h,laid (by rw[T.out,if_pos (.inr h)])⟩
    clear T;rcases v with⟨hd,A⟩|⟨y,hd,VV,VX,⟨hq,A⟩|⟨hq,A⟩⟩
    ·skip
     clear S F;go_wp2_with fail
     refine g.out.mono ?_;rintro e w2 ⟨rfl,H,D,P⟩;have Y:=K.trans P;clear P g K;go_wp2_with fail
     refine(wV _ _ 94 _ H (by rw[ah];omega)).mono ?_;rintro e w3 ⟨rfl,U,Q,E⟩;have X:=D.kp E (by omega);have R:=Y.trans Q;clear Q E D H Y;go_wp2_with fail
     refine(wV _ _ (at8 t J) _ U (by rw[ah,ah];simp;omega)).mono ?_;rintro e w4 ⟨rfl,B,Z,G⟩;have C:Hid (ic w.heap.size (O++gR N++[94]++[at8 t J]) w4/\AG w4 (w.heap.size+1) 0/\Below w.heap.size w w4):=laid ⟨B,X.kp G (by omega),R.trans Z⟩;clear Z G B X U R;go_wp2
     go_roundw
     case rel=>go_light;exact⟨x+1,iY (by rw[A.out]),iY (by rw[A.out];simp),by go_num,by omega,by rw[A.out];exact C.out.1,by rw[A.out];exact C.out.2.1,C.out.2.2⟩
     case measure=>go_light;simp[intOf];omega
    ·obtain⟨akN,VY,hy0⟩:s[y]=at8 s y/\(y:Int)<(s.size:Int)/\(0:Int)<=(y:Int):=⟨mm s y VV,by omega,by omega⟩;clear S F;go_wp2_with fail
     refine g.out.mono ?_;rintro e w2 ⟨rfl,H,D,P⟩;have Y:=K.trans P;clear P g K;go_wp2_with fail
     refine(wV _ _ 94 _ H (by rw[ah];omega)).mono ?_;rintro e w3 ⟨rfl,U,Q,E⟩;have X:=D.kp E (by omega);have R:=Y.trans Q;clear Q E D H Y;go_wp2_with fail
     refine(wV _ _ (at8 t J) _ U (by rw[ah,ah];simp;omega)).mono ?_;rintro e w4 ⟨rfl,B,Z,G⟩;have C:Hid (ic w.heap.size (O++gR N++[94]++[at8 t J]) w4/\AG w4 (w.heap.size+1) 0/\Below w.heap.size w w4):=laid ⟨B,X.kp G (by omega),R.trans Z⟩;clear Z G B X U R;go_wp2
     go_roundw
     case rel=>go_light;exact⟨x+1,iY (by rw[A.out]),iY (by rw[A.out];simp),by go_num,by omega,by rw[A.out];exact C.out.1,by rw[A.out];exact C.out.2.1,C.out.2.2⟩
     case measure=>go_light;simp[intOf];omega
    ·have akN:=mm s y VV;have VY:(y:Int)<(s.size:Int):=by omega
     have hy0:(0:Int)<=(y:Int):=by omega
     have f:=laid F;clear F g;go_wp2_with fail
     refine(wV _ _ (at8 t J) _ S (by omega)).mono ?_;rintro e w4 ⟨rfl,B,Z,G⟩;have C:Hid (ic w.heap.size (O++[at8 t J]) w4/\AG w4 (w.heap.size+1) N/\Below w.heap.size w w4):=laid ⟨B,f.out.kp G (by omega),K.trans Z⟩;clear Z G B f S K;go_wp2
     go_roundw
     case rel=>go_light;exact⟨x+1,iY (by rw[A.out]),iY (by rw[A.out];simp),by go_num,by omega,by rw[A.out];exact C.out.1,by rw[A.out];exact C.out.2.1,C.out.2.2⟩
     case measure=>go_light;simp[intOf];omega
  ·have VZ:x=s.size:=by omega
   have C:Hid (str ((ja p t s x).o++gR (ja p t s x).n)=str (oS p t s)):=laid (by unfold oS;rw[VZ]);have g:=laid (QR _ _ (ja p t s x).n (ja p t s x).o wr S F (by omega) (by omega) (by omega) (HT.out.on K));clear VZ hle;generalize ja p t s x=st at *;obtain⟨O,I,J,N⟩:=st;simp only at *;clear S F;go_wp2_with fail
   refine g.out.mono ?_;rintro e w2 ⟨rfl,H,D,P⟩;have Y:=K.trans P;clear P g D;go_wp2_with fail
   refine(CK _ _ _ H).mono ?_;rintro e w3 ⟨rfl,Q⟩;have R:=Y.trans Q;clear Q H;go_wp2
   go_ret
   exact⟨Ra C.out,R⟩
def cutAt(s:ByteArray)(c:UInt8)(i:Nat):Bool:=decide (i=s.size)||decide (at8 s i=c)
def mN(s:ByteArray)(c:UInt8):Nat->Nat
 |0=>0
 |i+1=>if cutAt s c i=true then i+1 else mN s c i
def iP(s:ByteArray)(c:UInt8):Nat->List ByteArray
 |0=>[]
 |i+1=>if cutAt s c i=true then iP s c i++[s.extract (mN s c i) i]else iP s c i
theorem R0(s:ByteArray)(c:UInt8):∀i,mN s c i<=i
 |0=>ae _
 |i+1=>by
  have:=R0 s c i;unfold mN;split<;>omega
theorem Iy(s:ByteArray)(c:UInt8):∀i,(iP s c i).length<=i
 |0=>ae _
 |i+1=>by
  have:=Iy s c i;unfold iP;split
  ·rw[ah];simp;omega
  ·omega
def sV(s:ByteArray):Value:=.string s
theorem adC:(Tryz.prog.info? 9).map (fun i=>(i.zero,i.size,i.bytes))=some (some (.string ⟨#[]⟩),1,16):=by kernel_rfl
theorem abT(s:ByteArray)(c:UInt8)(w:World)(hs:s.size<=100000000):
  Calls Tryz.prog 40 #[.string s,.int .u8 (c.toNat:Int)] w fun e w'=>∃v,e=.returned v/\w'.ownsRow w.heap.size 9 1 v (iP s c (s.size+1)).length ((iP s c (s.size+1)).map sV)/\Below w.heap.size w w':=by
 obtain⟨i0,d,Q,S,T⟩:=info_parts adC
 go_enter Tryz.func40,Tryz.ntmps40
 go_wp2
 go_loopw [5,6,7] (fun v f i wr=>∃n:Nat,i=.int .i64 (n:Int)/\n<=s.size+1/\f=.int .i64 (mN s c n:Int)/\wr.ownsRow w.heap.size 9 1 v (iP s c n).length ((iP s c n).map sV)/\Below w.heap.size w wr) (fun _ _ i _=>s.size+1-(intOf i).toNat)
 case atStart=>exact⟨0,rfl,ak _,rfl,⟨rfl,.inl ⟨rfl,rfl⟩⟩,af _ _⟩
 case round=>
  obtain⟨n,rfl,a,rfl,R,Y⟩:=hrel;have y:=R0 s c n;have m:=Iy s c n;have U:cutAt s c n=true->mN s c (n+1)=n+1/\iP s c (n+1)=iP s c n++[s.extract (mN s c n) n]:=fun h=>⟨by rw[mN,if_pos h],by rw[iP,if_pos h]⟩;have C:cutAt s c n=false->mN s c (n+1)=mN s c n/\iP s c (n+1)=iP s c n:=fun h=>⟨by rw[mN,if_neg (by rw[h];simp)],by rw[iP,if_neg (by rw[h];simp)]⟩;have J:cutAt s c n=(decide (n=s.size)||decide (at8 s n=c)):=rfl;have M:=laid (show n=s.size+1->iP s c n=iP s c (s.size+1)from fun h=>by rw[h]);generalize mN s c n=F at *;by_cases x:n<=s.size
  ·by_cases I:n=s.size
   ·have N:=laid (U (by rw[J,decide_eq_true I];rfl));clear U C J M;have E:((n:Int)==(s.size:Int))=true:=by simp;omega
    have b:(F:Int)<=(n:Int):=by omega
    have t:(n:Int)<=(s.size:Int):=by omega
    clear I;go_wp2_with(first
     |(at_builtin;refine wpList_append_own _ rfl _ _ 65 rfl w.heap.size 9 i0 (.string ⟨#[]⟩) 1 16 aI d Q S T rfl (by decide) _ _ _ rfl (R.alloc _) ⟨wr.heap.size,0,none⟩ 1 1 [sV (s.extract F n)] rfl rfl ?c1 ?c2 ?c3 ?c4 ?c5 ?_)
     |go_in)
    case c1=>
     intro j u B
     match j,B with
     |0,B=>simp at B;subst B;simp[Addr.add,sV]
    case c2=>intro u P;simp at P;subst P;rfl
    case c3=>unfold maxLen;omega
    case c4=>omega
    case c5=>have:=Y.size;simp;omega
    intro v' X K H _;have A:Below w.heap.size w X:=(Y.alloc Y.size _).grown H (by have:=Y.size;simp;omega) (fun j B=>(R.lt j B).1);have D:X.ownsRow w.heap.size 9 1 v' (iP s c (n+1)).length ((iP s c (n+1)).map sV):=by
     rw[N.out.2,ah,az];exact K
    obtain⟨g,cap,V,rfl⟩:∃g cap V,v'=.slice (some ⟨g,0,none⟩) V cap:=by
     rcases K.2 with⟨_,o⟩|⟨g,cap,Z,W,_⟩
     ·omega
     ·exact⟨g,cap,_,W⟩
    clear K H;go_wp2
    go_roundw
    case rel=>go_light;exact⟨n+1,by go_num,by omega,iY (by rw[N.out.1];omega),D,A⟩
    case measure=>go_light;simp[intOf];omega
   ·have O:n<s.size:=by omega
    have E:((n:Int)==(s.size:Int))=false:=by simp;omega
    have r:(n:Int)<(s.size:Int):=by omega
    have p:=mm s n O;by_cases L:at8 s n=c
    ·have N:=laid (U (by rw[J,decide_eq_true L,bk]));have G:=toNat_eq L;clear U C J M I L;go_wp2_with(first
      |(at_builtin;refine wpList_append_own _ rfl _ _ 65 rfl w.heap.size 9 i0 (.string ⟨#[]⟩) 1 16 aI d Q S T rfl (by decide) _ _ _ rfl (R.alloc _) ⟨wr.heap.size,0,none⟩ 1 1 [sV (s.extract F n)] rfl rfl ?c1 ?c2 ?c3 ?c4 ?c5 ?_)
      |go_in)
     case c1=>
      intro j u B
      match j,B with
      |0,B=>simp at B;subst B;simp[Addr.add,sV]
     case c2=>intro u P;simp at P;subst P;rfl
     case c3=>unfold maxLen;omega
     case c4=>omega
     case c5=>have:=Y.size;simp;omega
     intro v' X K H _;have A:Below w.heap.size w X:=(Y.alloc Y.size _).grown H (by have:=Y.size;simp;omega) (fun j B=>(R.lt j B).1);have D:X.ownsRow w.heap.size 9 1 v' (iP s c (n+1)).length ((iP s c (n+1)).map sV):=by
      rw[N.out.2,ah,az];exact K
     obtain⟨g,cap,V,rfl⟩:∃g cap V,v'=.slice (some ⟨g,0,none⟩) V cap:=by
      rcases K.2 with⟨_,o⟩|⟨g,cap,Z,W,_⟩
      ·omega
      ·exact⟨g,cap,_,W⟩
     clear K H;go_wp2
     go_roundw
     case rel=>go_light;exact⟨n+1,by go_num,by omega,iY (by rw[N.out.1];omega),D,A⟩
     case measure=>go_light;simp[intOf];omega
    ·have q:=laid (C (by rw[J,decide_eq_false I,decide_eq_false L];rfl));have G:=toNat_ne L;clear U C J M I L;have D:wr.ownsRow w.heap.size 9 1 u5 (iP s c (n+1)).length ((iP s c (n+1)).map sV):=by
      rw[q.out.2];exact R
     go_wp2
     go_roundw
     case rel=>go_light;exact⟨n+1,by go_num,by omega,iY (by rw[q.out.1]),D,Y⟩
     case measure=>go_light;simp[intOf];omega
  ·have z:n=s.size+1:=by omega
   have l:=laid (M.out z);clear U C J M z;go_wp2
   go_ret
   exact⟨u5,rfl,by rw[<-l.out];exact R,Y⟩
def uz(c:UInt8):Bool:=decide (48<=c.toNat/\c.toNat<=57)
def oi(s:ByteArray):Nat->Nat
 |0=>0
 |i+1=>10 *oi s i+((at8 s i).toNat-48)
def nx(s:ByteArray):Nat->Bool
 |0=>true
 |i+1=>nx s i&&uz (at8 s i)
def j0(s:ByteArray):Int:=if 1<=s.size/\s.size<=6/\nx s s.size=true then(oi s s.size:Int)else-1
theorem SK(s:ByteArray):∀i,nx s i=true->oi s i<10 ^ i
 |0,_=>by simp[oi]
 |i+1,h=>by
  simp only[nx,uz,bO,decide_eq_true_eq]at h;have:=SK s i h.1;rw[oi,Nat.pow_succ];omega
theorem PJ(s:ByteArray):∀{i j:Nat},i<=j->nx s j=true->nx s i=true
 |i,0,h,_=>by rw[Nat.le_zero.1 h];rfl
 |i,j+1,h,k=>by
  simp only[nx,bO]at k;by_cases e:i=j+1
  ·rw[e,nx,k.1,k.2];rfl
  ·exact PJ s (by omega) k.1
theorem aai(s:ByteArray)(w:World)(E:s.size<=100000000):
  Calls Tryz.prog 26 #[.string s] w fun e w'=>e=.returned (.int .i64 (j0 s))/\w'=w:=by
 by_cases V:s.size<1
 ·have g1:(s.size:Int)<1:=by omega
  have R:Hid (j0 s= -1):=laid (by rw[j0,if_neg (by omega)])
  go_enter bK,bL
  go_wp2
  go_ret
  exact⟨by rw[R.out];rfl,rfl⟩
 by_cases X:6<s.size
 ·have g1:¬(s.size:Int)<1:=by omega
  have O:(6:Int)<(s.size:Int):=by omega
  have R:Hid (j0 s= -1):=laid (by rw[j0,if_neg (by omega)])
  go_enter bK,bL
  go_wp2
  go_ret
  exact⟨by rw[R.out];rfl,rfl⟩
 have g1:¬(s.size:Int)<1:=by omega
 have O:¬(6:Int)<(s.size:Int):=by omega
 go_enter bK,bL
 go_wp2
 go_loop [3,4] (fun n i=>∃k:Nat,k<=s.size/\i=.int .i64 (k:Int)/\n=.int .i64 (oi s k:Int)/\nx s k=true) (fun _ i=>s.size-(intOf i).toNat)
 case atStart=>exact⟨0,ak _,rfl,rfl,rfl⟩
 case round=>
  obtain⟨k,hk,rfl,rfl,Y⟩:=hrel;have G:oi s k<1000000:=cA (SK s k Y) (Nat.pow_le_pow_right (by decide) (show k<=6 by omega));have L:Hid (oi s (k+1)=10 *oi s k+((at8 s k).toNat-48)):=laid rfl;have J:Hid (nx s (k+1)=(nx s k&&uz (at8 s k))):=laid rfl;have F:Hid (nx s k=true):=laid Y;have A:Hid (k=s.size->j0 s=(oi s k:Int)):=laid fun e=>by rw[j0,if_pos ⟨by omega,by omega,e▸Y⟩,e]
  have I:Hid (k<s.size->uz (at8 s k)=false->j0 s= -1):=laid fun e h=>by
   rw[j0,if_neg];rintro⟨_,_,P⟩;have:=PJ s (show k+1<=s.size by omega) P;rw[nx,h,Bool.and_false]at this;cases this
  clear Y;generalize oi s k=N at *;by_cases H:k<s.size
  ·have S:(k:Int)<(s.size:Int):=by omega
   have Q:=mm s k H;have D:=I.out H;clear I A;generalize at8 s k=C at *;have Z:=C.toNat_lt;by_cases d1:C.toNat<48
   ·have K:=laid (D (by simp[uz];omega));clear D;have U:(C.toNat:Int)<48:=by omega
    go_wp2
    go_ret
    exact⟨by rw[K.out];rfl,rfl⟩
   ·by_cases d2:57<C.toNat
    ·have K:=laid (D (by simp[uz];omega));clear D;have U:¬(C.toNat:Int)<48:=by omega
     have M:(57:Int)<(C.toNat:Int):=by omega
     go_wp2
     go_ret
     exact⟨by rw[K.out];rfl,rfl⟩
    ·clear D;have U:¬(C.toNat:Int)<48:=by omega
     have M:¬(57:Int)<(C.toNat:Int):=by omega
     have T:(48:Int)<=(C.toNat:Int):=by omega
     go_wp2
     go_round
     case rel=>go_light;exact⟨k+1,by omega,by go_num,iY (by rw[L.out];omega),by rw[J.out,F.out];simp[uz];omega⟩
     case measure=>go_light;simp[intOf];omega
  ·have B:k=s.size:=by omega
   have K:=laid (A.out B);clear A I B;go_wp2
   go_ret
   exact⟨by rw[K.out];rfl,rfl⟩
theorem CN(s:ByteArray)(c:UInt8):∀i,∀x∈iP s c i,x.size<=s.size
 |0,x,h=>by simp[iP]at h
 |i+1,x,h=>by
  unfold iP at h;split at h
  ·rw[aY,aN]at h;rcases h with h|rfl
   ·exact CN s c i x h
   ·rw[aD];omega
  ·exact CN s c i x h
abbrev nS:ByteArray:=⟨#[]⟩
def oy(s:ByteArray):List ByteArray:=iP s 9 (s.size+1)
def qT(P:List ByteArray):List Value:=[.string (P.getD 0 nS),.int .i64 (j0 (P.getD 1 nS)),.string (P.getD 2 nS),.int .i64 (j0 (P.getD 3 nS)),.string (P.getD 4 nS),.string (P.getD 5 nS),.string (P.getD 6 nS),.string (P.getD 7 nS),.string (P.getD 8 nS)]
def xk(L:List ByteArray):Nat->List Value
 |0=>[]
 |i+1=>xk L i++qT (oy (L.getD (i+1) nS))
theorem PK{B:Nat}(h:w.ownsRow B e 1 v L.length (L.map sV))(F:1<=L.length):∃g cap Y,v=.slice (some ⟨g,0,none⟩) L.length cap/\B<=g/\w.heap[g]?=some (.cells Y e)/\∀i,i<L.length->Y[i]?=some (.string (L.getD i nS)):=by
 rcases h.2 with⟨_,I⟩|⟨g,cap,Y,rfl,H,D,A,U,C,R⟩
 ·omega
 ·refine⟨g,cap,Y,rfl,H,D,fun i K=>?_⟩;have:=congrArg (·[i]?) R;simp only[Nat.mul_one,bt K,Array.getElem?_toList,cg]at this;rw[this,au K,ao,au K];rfl
theorem I5:(Tryz.prog.info? 42).map (fun i=>(i.zero,i.size,i.bytes))=some (some (.agg #[.string nS,.int .i64 0,.string nS,.int .i64 0,.string nS,.string nS,.string nS,.string nS,.string nS]),9,128):=by kernel_rfl
theorem AP(l:List UInt8)(a b:Nat):(str l).extract a b=str ((l.take b).drop a):=by
 apply ByteArray.ext;apply Array.ext';simp[str,bZ]
section
variable{c:UInt8}{A B:List UInt8}(I:c∉A)
include I
theorem ahE(i:Nat)(Y:i<A.length):cutAt (str (A++B)) c i=false:=by
 have K:¬i=(str (A++B)).size:=by rw[gV,ah];omega
 have H:¬at8 (str (A++B)) i=c:=by
  rw[ss,ao,List.getElem?_append_left Y,au Y];intro e;exact I (e▸List.getElem_mem Y)
 simp only[cutAt,decide_eq_false K,decide_eq_false H,Bool.or_self]
theorem JI(B:List UInt8):∀i,i<=A.length->iP (str (A++B)) c i=[]/\mN (str (A++B)) c i=0
 |0,_=>⟨rfl,rfl⟩
 |i+1,h=>by
  have:=JI B i (by omega);have Y:=ahE (B:=B) I i (by omega);exact⟨by rw[iP,Y];exact this.1,by rw[mN,Y];exact this.2⟩
theorem afK:iP (str A) c (A.length+1)=[str A]:=by
 have:=JI I [] A.length (ae _);rw[List.append_nil]at this;have Y:cutAt (str A) c A.length=true:=by
  have:A.length=(str A).size:=(gV A).symm;simp only[cutAt,decide_eq_true this,bQ]
 rw[iP,if_pos Y,this.1,this.2,AP];simp
theorem R2:∀i,i<=B.length+1->iP (str (A++c::B)) c (A.length+1+i)=str A::iP (str B) c i/\mN (str (A++c::B)) c (A.length+1+i)=A.length+1+mN (str B) c i
 |0,_=>by
  have:=JI I (c::B) A.length (ae _);have Y:cutAt (str (A++c::B)) c A.length=true:=by
   have:at8 (str (A++c::B)) A.length=c:=by rw[ss,ao];simp
   simp only[cutAt,decide_eq_true this,bk]
  refine⟨?_,?_⟩
  ·show(if cutAt _ c A.length=true then _ else _)=_
   rw[if_pos Y,this.1,this.2,AP];simp[iP]
  ·show(if cutAt _ c A.length=true then _ else _)=_
   rw[if_pos Y];rfl
 |i+1,h=>by
  obtain⟨U,H⟩:=R2 i (by omega);have Y:cutAt (str (A++c::B)) c (A.length+1+i)=cutAt (str B) c i:=by
   have K:(A.length+1+i=(str (A++c::B)).size)=(i=(str B).size):=by
    rw[gV,gV,ah,aL];exact propext (by omega)
   have R:i<B.length->at8 (str (A++c::B)) (A.length+1+i)=at8 (str B) i:=fun D=>by
    rw[ss,ss,ao,ao,List.getElem?_append_right (by omega),show A.length+1+i-A.length=i+1 by omega,List.getElem?_cons_succ]
   by_cases D:i<B.length
   ·simp only[cutAt,K,R D]
   ·have:i=(str B).size:=by rw[gV];omega
    simp only[cutAt,K,decide_eq_true this,bQ]
  have C:(str (A++c::B)).extract (A.length+1+mN (str B) c i) (A.length+1+i)=(str B).extract (mN (str B) c i) i:=by
   rw[AP,AP,show A++c::B=(A++[c])++B by simp,show A.length+1=(A++[c]).length by simp,List.take_length_add_append,List.drop_length_add_append]
  refine⟨?_,?_⟩
  ·rw[<-cv,iP,Y,U,H,iP];split
   ·rw[C];rfl
   ·rfl
  ·rw[<-cv,mN,Y,H,mN];split<;>omega
theorem adD:iP (str (A++c::B)) c ((str (A++c::B)).size+1)=str A::iP (str B) c ((str B).size+1):=by
 have:=(R2 (B:=B) I (B.length+1) (ae _)).1;rw[gV,gV,ah,aL,show A.length+(B.length+1)+1=A.length+1+(B.length+1) by omega];exact this
end
def kg(c:UInt8):List (List UInt8)->List UInt8
 |[]=>[]
 |x::xs=>x++c::kg c xs
theorem Iz(c:UInt8)(T:List UInt8)(K:c∉T):∀Y:List (List UInt8),(∀x∈Y,c∉x)->iP (str (kg c Y++T)) c ((str (kg c Y++T)).size+1)=Y.map str++[str T]
 |[],_=>by
  rw[kg,List.nil_append,gV];exact afK K
 |x::xs,h=>by
  rw[kg,List.append_assoc,List.cons_append,adD (h x (by simp)),Iz c T K xs (fun y H=>h y (by simp[H]))];rfl
theorem TB:Tryz.prog.underlying 42=some (.struct (Tryz.prog.fieldsOf 42)):=by kernel_rfl
theorem afL:Tryz.prog.stoodInHeld 42=false:=by kernel_rfl
theorem Da(p0 p2 p4 I p6 p7 p8:ByteArray)(z1 z3:Int)(w:World):
  Calls Tryz.prog 36 #[.agg #[.string p0,.int .i64 z1,.string p2,.int .i64 z3,.string p4,.string I,.string p6,.string p7,.string p8]] w fun e w'=>e=.returned (.agg #[.string p0,.int .i64 0,.string p2,.int .i64 z3,.string p4,.string I,.string p6,.string p7,.string nS])/\Below w.heap.size w w':=by
 obtain⟨i0,K,H,Y,D⟩:=info_parts I5
 go_enter Tryz.func36,Tryz.ntmps36
 go_wp2
 refine bodyPost_ret (results_cell_row rfl _ _ (w.heap.size+1) _ _ _ _ rfl (heap_alloc2_new _ _ _) TB rfl (by rw[K];exact congrArg some Y)) rfl ?_;exact⟨rfl,((af _ _).alloc (ae _) _).alloc (by simp) _⟩
theorem adE{b:ByteArray}:a.toList=b.toList↔a=b:=by
 rw[bR,bR];exact⟨fun h=>ByteArray.ext (Array.ext' h),fun h=>h▸rfl⟩
section
variable(p0 p2 p4 I p6 p7 p8 q0 q2 q4 q5 q6 q7 q8:ByteArray)(y1 y3 z1 z3:Int)(w:World)
theorem QS:(binOp .eql 42 (.agg #[.string p0,.int .i64 y1,.string p2,.int .i64 y3,.string p4,.string I,.string p6,.string p7,.string p8]) (.agg #[.string q0,.int .i64 z1,.string q2,.int .i64 z3,.string q4,.string q5,.string q6,.string q7,.string q8])).run Tryz.prog w=.ok (.bool (decide (p0=q0/\y1=z1/\p2=q2/\y3=z3/\p4=q4/\I=q5/\p6=q6/\p7=q7/\p8=q8))) w/\(binOp .neq 42 (.agg #[.string p0,.int .i64 y1,.string p2,.int .i64 y3,.string p4,.string I,.string p6,.string p7,.string p8]) (.agg #[.string q0,.int .i64 z1,.string q2,.int .i64 z3,.string q4,.string q5,.string q6,.string q7,.string q8])).run Tryz.prog w=.ok (.bool (!decide (p0=q0/\y1=z1/\p2=q2/\y3=z3/\p4=q4/\I=q5/\p6=q6/\p7=q7/\p8=q8))) w:=by
 have key:∀f:Bool->Value,(((Op.equalIn 10000 42 (.agg #[.string p0,.int .i64 y1,.string p2,.int .i64 y3,.string p4,.string I,.string p6,.string p7,.string p8]) (.agg #[.string q0,.int .i64 z1,.string q2,.int .i64 z3,.string q4,.string q5,.string q6,.string q7,.string q8])).run Tryz.prog w).andThen fun b w'=>.ok (f b) w')=.ok (f (decide (p0=q0/\y1=z1/\p2=q2/\y3=z3/\p4=q4/\I=q5/\p6=q6/\p7=q7/\p8=q8))) w:=fun f=>by
  rw[show(10000:Nat)=9999+1 from rfl,run_equalIn_agg _ _ _ _ _ TB afL];simp[go_sem,Op.eqFields,Program.fieldsOf,Tryz.underlying42,adE]
  repeat' split
  all_goals simp_all
 exact⟨(run_eql_struct w 42 _ _).trans (key Value.bool),(run_neq_struct w 42 _ _).trans (key fun b=>.bool !b)⟩
end
end
section
open RowKit Maps Go.Sort Shelf
theorem adF(m:Nat):AnyZI.SortsIn Tryz.prog Tryz.N6 Fence.wide m:=
 ⟨fun blk off cap D W H Y K=>callsIn_wide.2 (AnyM.slices_Sort_int Tryz.Tw blk off cap D W H Y K),
  fun p cap W=>callsIn_wide.2 (AnyM.slices_Sort_int_none Tryz.Tw p cap W)⟩
theorem YS(mb:Option Nat)(W:World):
  Calls Tryz.prog 124 #[.map mb] W fun e w'=>e=.returned (.func (.func 143) #[] #[.pointer (some ⟨W.heap.size,0,none⟩)])/\w'=W.alloc (.cells #[.map mb] 166):=by
 refine(callsIn_wide (n:=5)).1 ?_;exact AnyZI.keys_in Tryz.Tv _ 5 trivial rfl mb W
theorem XG{H:Type}(b C:Nat)(D0:DataW H)(R:Value->Option _)(w:World)(Y:w.ownsMap Tryz.prog 3 R b C D0)(O:Maps.size D0<=10000):
  Calls Tryz.prog 123 #[.func (.func 143) #[] #[.pointer (some ⟨w.heap.size,0,none⟩)]] (w.alloc (.cells #[.map (some b)] 166)) fun e w'=>∃(v:Value) (U:List Int),e=.returned v/\U.Perm (intKeys D0)/\
   w'.ownsRow w.heap.size 3 1 v U.length ((U.mergeSort (fun x y=>decide (x<=y))).map encZ)/\Below w.heap.size w w':=by
 refine(callsIn_wide (n:=5)).1 ?_;have A:=Y.lt;have D:SeqGives Fence.wide 2 _ 143 _ _ _ _ (w.alloc (.cells #[.map (some b)] 166)):=
  AnyZI.keys_gives {Tryz.Tv with} _ _ trivial rfl (by omega) w.heap.size b C D0 _ (by simp) (by simp) (by
   obtain⟨es,clock,I,F,N,L⟩:=Y;exact⟨es,clock,(Below.heap_alloc _ _ b A).trans I,F,N,L⟩)
 have J:=AnyZI.sorted_in Tryz.afz _ 5 trivial trivial trivial trivial rfl (by omega) (adF _) (enters_of Tryz.func142 (by kernel_rfl) rfl) 143 _ trivial (enters_of Tryz.func143 (by kernel_rfl) rfl) _ _ (by unfold maxLen;omega) (by omega) _ D;refine J.mono ?_;rintro e w' ⟨v,U,rfl,M,K,B,I⟩;exact⟨v,U,rfl,M,ownsRow_base_a K (by simp),((af _ w).alloc (ae _) _).trans (I.mono (by simp))⟩
end
section
structure Good(q:Nat)(p t:ByteArray)(i j:Nat)(l:List (Nat×Nat)):Prop where
 Gf:∀w∈l,w.1+q<=i/\w.2+q<=j/\∀u,u<q->ag (at8 p (w.1+u)) (at8 t (w.2+u))=true
 up:l.Pairwise fun a b=>a.1<b.1/\a.2<b.2
theorem Good.nil(q:Nat)(p t:ByteArray)(i j:Nat):Good q p t i j []:=⟨fun _ h=>by simp at h,List.Pairwise.nil⟩
theorem Good.mono{i' j':Nat}{l:List _}(h:Good q p t i j l)(Y:i<=i')(K:j<=j'):Good q p t i' j' l:=
 ⟨fun w hw=>by have:=h.Gf w hw;exact⟨by omega,by omega,this.2.2⟩,h.up⟩
structure r6(p t:ByteArray)(i j r:Nat):Prop where
 li:r<=i
 lj:r<=j
 all:∀u,u<r->ag (at8 p (i-1-u)) (at8 t (j-1-u))=true
theorem r6.zero(p t:ByteArray)(i j:Nat):r6 p t i j 0:=⟨ak _,ak _,fun u h=>by omega⟩
theorem r6.succ{r:Nat}(h:r6 p t i j r)(Y:ag (at8 p i) (at8 t j)=true):r6 p t (i+1) (j+1) (r+1):=
 ⟨by have:=h.li;omega,by have:=h.lj;omega,fun u K=>by
  cases u with
  |zero=>simpa using Y
  |succ u=>
   have:=h.all u (by omega);rw[show i+1-1-(u+1)=i-1-u by omega,show j+1-1-(u+1)=j-1-u by omega];omega⟩
theorem CC(q:Nat)(R:1<=q)(p t:ByteArray):∀i j,∃l r,Good q p t i j l/\r6 p t i j r/\i+(q-1-min r (q-1))<=l.length+q *dT p t i j+(q-1)
 |0,j=>⟨[],0,Good.nil _ _ _ _ _,r6.zero _ _ _ _,by
   have:0<=q *dT p t 0 j:=ak _;simp only[bA];omega⟩
 |i+1,0=>⟨[],0,Good.nil _ _ _ _ _,r6.zero _ _ _ _,by
   rw[dT];have:i+1<=q *(i+1):=Nat.le_mul_of_pos_left _ R;simp only[bA];omega⟩
 |i+1,j+1=>by
  have D:dT p t (i+1) (j+1)=dT p t i j+cost p t i j\/dT p t (i+1) (j+1)=dT p t i (j+1)+1\/dT p t (i+1) (j+1)=dT p t (i+1) j+1:=by rw[dT];omega
  rcases D with h|h|h
  ·obtain⟨l,r,K,hr,H⟩:=CC q R p t i j;by_cases I:ag (at8 p i) (at8 t j)=true
   ·have U:cost p t i j=0:=if_pos I;have h:dT p t (i+1) (j+1)=dT p t i j:=by rw[h,U];rfl
    rw[h];have Y:=hr.succ I;by_cases C:q<=r+1
    ·refine⟨l++[(i+1-q,j+1-q)],r+1,⟨fun w hw=>?_,?_⟩,Y,?_⟩
     ·rw[aY,aN]at hw;rcases hw with hw|hw
      ·have:=K.Gf w hw;exact⟨by omega,by omega,this.2.2⟩
      ·subst hw;have F:=Y.li;have J:=Y.lj;refine⟨by simp only;omega,by simp only;omega,fun u L=>?_⟩;have:=Y.all (q-1-u) (by omega);simp only;rw[show i+1-q+u=i+1-1-(q-1-u) by omega,show j+1-q+u=j+1-1-(q-1-u) by omega];exact this
     ·refine cn.2 ⟨K.up,List.pairwise_singleton _ _,fun a A b B=>?_⟩;rw[aN]at B;subst B;have:=K.Gf a A;simp only;omega
     ·rw[ah];simp only[aL,bA];omega
    ·exact⟨l,r+1,K.mono (by omega) (by omega),Y,by omega⟩
   ·have U:cost p t i j=1:=if_neg I;rw[U]at h;rw[h,bI];exact⟨l,0,K.mono (by omega) (by omega),r6.zero _ _ _ _,by omega⟩
  ·obtain⟨l,r,K,hr,H⟩:=CC q R p t i (j+1);rw[h,bI];exact⟨l,0,K.mono (by omega) (by omega),r6.zero _ _ _ _,by omega⟩
  ·obtain⟨l,r,K,hr,H⟩:=CC q R p t (i+1) j;rw[h,bI];exact⟨l,0,K.mono (by omega) (by omega),r6.zero _ _ _ _,by omega⟩
theorem CO(P:Nat->Bool):∀k (xs:List Nat),xs.Nodup->(∀x∈xs,x<k/\P x=true)->xs.length<=((List.range k).countP P)
 |0,xs,_,h=>by
  cases xs with
  |nil=>simp
  |cons a l=>have:=(h a (by simp)).1;omega
 |k+1,xs,K,h=>by
  rw[bD,bY];by_cases hk:k∈xs
  ·have R:=(h k hk).2;have D:=CO P k _ (K.erase k) (fun x Y=>by
    have H:=(K.mem_erase_iff).1 Y;have:=h x H.2;exact⟨by omega,this.2⟩)
   simp_all
  ·have D:=CO P k xs K (fun x Y=>by
    have:x≠k:=fun e=>hk (e▸Y);have:=h x Y;exact⟨by omega,this.2⟩)
   omega
theorem CP(s:ByteArray)(q:Nat)(z:List _)(Y:lE z=true):∀k,iZ s q z k=(List.range k).countP (fun x=>decide (iu s q x=z))
 |0=>rfl
 |k+1=>by
  rw[iZ,CP s q z Y k,bD,bY];simp_all
theorem PM(f:Nat×Nat->List _)(Y:List _):∀(l:List _),(∀w∈l,f w∈Y)->l.length<=jN (fun z=>l.countP (fun w=>decide (f w=z))) Y
 |[],_=>ak _
 |w::l,h=>by
  have I:=PM f Y l (fun w' U=>h w' (by simp_all));have H:1<=jN (fun z=>if f w=z then 1 else 0) Y:=by
   have A:=h w (by simp);clear I h;induction Y with
   |nil=>simp at A
   |cons a Y D=>
    have e:jN (fun z=>if f w=z then 1 else 0) (a::Y)=(if f w=a then 1 else 0)+jN (fun z=>if f w=z then 1 else 0) Y:=by simp[jN]
    rw[e];by_cases B:f w=a
    ·simp_all
    ·simp_all
  have K:jN (fun z=>(w::l).countP (fun w=>decide (f w=z))) Y=jN (fun z=>l.countP (fun w=>decide (f w=z))) Y+jN (fun z=>if f w=z then 1 else 0) Y:=by
   clear I H h;induction Y with
   |nil=>rfl
   |cons a Y D=>
    have R:∀g,jN g (a::Y)=g a+jN g Y:=fun g=>by simp[jN]
    rw[R,R,R,D];have:(w::l).countP (fun w=>decide (f w=a))=l.countP (fun w=>decide (f w=a))+(if f w=a then 1 else 0):=by
     rw[List.countP_cons];simp
    omega
  rw[K,aL];omega
theorem adG(f g:List _->Nat)(Y:List _)(h:∀z∈Y,f z<=g z):jN f Y<=jN g Y:=by
 induction Y with
 |nil=>exact ae _
 |cons a Y D=>
  have K:∀g,jN g (a::Y)=g a+jN g Y:=fun g=>by simp[jN]
  rw[K,K];have:=D (fun z H=>h z (by simp[H]));have:=h a (by simp);omega
theorem YT(p S:ByteArray)(q:Nat)(F:1<=q)(l:List (Nat×Nat))(C:l.Pairwise fun a b=>a.1<b.1/\a.2<b.2)
  (H:∀w∈l,w.1+q<=p.size/\w.2+q<=S.size/\iu p q w.1=iu S q w.2/\lE (iu p q w.1)=true):l.length<=sJ p S q:=by
 have U:=Cj p q (p.size+1-q);have Y:=fun z=>CB p q z (p.size+1-q);rw[<-OV p S q F _ U Y];refine bF (PM (fun w=>iu p q w.1) _ l (fun w hw=>?_)) (adG _ _ _ (fun z J=>?_))
 ·have h:=H w hw;rw[Y,CP p q _ h.2.2.2];refine List.countP_pos_iff.2 ⟨w.1,by rw[cm];omega,by simp⟩
 ·have L:=(Y z).1 J;have R:lE z=true:=by
   cases A:lE z with
   |true=>rfl
   |false=>
    have:∀k,iZ p q z k=0:=fun k=>by
     induction k with
     |zero=>rfl
     |succ k M=>rw[iZ,M,if_neg (fun e=>by simp_all)]
    simp_all
  have I:l.countP _=(l.filter (fun w=>decide (iu p q w.1=z))).length:=List.countP_eq_length_filter;have B:(l.filter (fun w=>decide (iu p q w.1=z))).Pairwise _:=C.filter _;have K:∀w∈l.filter (fun w=>decide (iu p q w.1=z)),w.1+q<=p.size/\w.2+q<=S.size/\iu p q w.1=z/\iu S q w.2=z:=fun w hw=>by
   rw[List.mem_filter]at hw;have h:=H w hw.1;simp_all
  generalize l.filter (fun w=>decide (iu p q w.1=z))=m at *;have N:m.length<=lY p q z:=by
   unfold lY;rw[CP p q z R];have A:(m.map (·.1)).Nodup:=bC.2 (B.imp fun h=>by omega);have:=CO (fun x=>decide (iu p q x=z)) (p.size+1-q) _ A (fun x D=>by
    rw[aZ]at D;obtain⟨w,hw,rfl⟩:=D;have:=K w hw;exact⟨by omega,decide_eq_true this.2.2.1⟩)
   simpa using this
  have O:m.length<=lY S q z:=by
   unfold lY;rw[CP S q z R];have A:(m.map (·.2)).Nodup:=bC.2 (B.imp fun h=>by omega);have:=CO (fun x=>decide (iu S q x=z)) (S.size+1-q) (m.map (·.2)) A (fun x D=>by
    rw[aZ]at D;obtain⟨w,hw,rfl⟩:=D;have:=K w hw;exact⟨by omega,decide_eq_true this.2.2.2⟩)
   simpa using this
  unfold ou;omega
theorem vQ(X:ByteArray)(a c i:Nat)(Y:c<=X.size)(K:a+i<c):at8 (X.extract a c) i=at8 X (a+i):=by
 unfold at8;rw[aW,aV];simp only[ao];rw[List.getElem?_take,if_pos (by omega),br]
theorem TC{a b:UInt8}(h:ag a b=true):a=b/\a≠78:=by
 unfold ag at h;simp at h;exact h
theorem I6(s:ByteArray)(q x:Nat)(h:x+q<=s.size):(iu s q x).length=q:=by
 show(s.extract x _).size=q;simp_all
theorem I7(s:ByteArray)(q x u:Nat)(h:x+q<=s.size)(H:u<q):(iu s q x)[u]?=some (at8 s (x+u)):=by
 have Y:=vQ s x _ u h (by omega);unfold at8 at Y;unfold iu;have K:u<(s.extract x (x+q)).data.toList.length:=by
  show u<(s.extract x _).size;simp_all
 rw[ao,au K]at Y;rw[au K];simp only[Option.getD_some]at Y;rw[Y];rfl
theorem afM{x y:Nat}(K:x+q<=p.size)(H:y+q<=S.size)(h:∀u,u<q->at8 p (x+u)=at8 S (y+u)):iu p q x=iu S q y:=by
 apply List.ext_getElem?;intro u;by_cases Y:u<q
 ·rw[I7 p q x u K Y,I7 S q y u H Y,h u Y]
 ·rw[cf (by rw[I6 p q x K];omega),cf (by rw[I6 S q y H];omega)]
theorem ahF{x:Nat}(Y:x+q<=p.size)(h:∀u,u<q->at8 p (x+u)≠78):lE (iu p q x)=true:=by
 unfold lE;rw[Bool.not_eq_true',<-bj,bq];intro H;obtain⟨u,D,e⟩:=ck H;have R:=I6 p q x Y;have K:=I7 p q x u Y (by omega);rw[au D,e]at K;exact h u (by omega) (by simp_all)
theorem Xj(p X:ByteArray)(k q a c s e:Nat)(U:1<=q)(has:a<=s)(J:s<=e)(C:e<=c)(K:c<=X.size)(hd:jf p (X.extract s e)<=k):
  o_ p.size k q<=(sJ p (X.extract a c) q:Int):=by
 obtain⟨l,r,I,hr,F⟩:=CC q U p (X.extract s e) p.size (X.extract s e).size;have Y:(X.extract s e).size=e-s:=by rw[aD];omega
 have R:(X.extract a c).size=c-a:=by simp_all
 have A:l.length<=sJ p (X.extract a c) q:=by
  have B:(l.map fun w=>(w.1,w.2+(s-a))).length=l.length:=bu ..;rw[<-B];refine YT p (X.extract a c) q U _ (bC.2 (I.up.imp fun h=>by simp only;omega)) (fun w hw=>?_);rw[aZ]at hw;obtain⟨v,L,rfl⟩:=hw;have h:=I.Gf v L;rw[Y]at h;refine⟨h.1,by rw[R];simp only;omega,afM h.1 (by rw[R];simp only;omega) (fun u H=>?_),ahF h.1 (fun u H=>(TC (h.2.2 u H)).2)⟩;have D:=(TC (h.2.2 u H)).1;rw[vQ X s e _ (by omega) (by omega)]at D;simp only;rw[vQ X a c _ K (by omega),D];congr 1;omega
 unfold jf at hd;have M:=Nat.mul_le_mul_left q hd;unfold o_;rw[bJ k q];omega
theorem Bb(p t:ByteArray):∀i j,j<=i+dT p t i j/\i<=j+dT p t i j
 |0,j=>by simp[dT]
 |i+1,0=>by simp[dT]
 |i+1,j+1=>by
  have Y:=Bb p t i j;have K:=Bb p t i (j+1);have H:=Bb p t (i+1) j;rw[dT];omega
theorem IA(p X:ByteArray)(k s e:Nat)(H:s<=e)(K:e<=X.size)(hd:jf p (X.extract s e)<=k):e<=s+p.size+k:=by
 have h:=(Bb p (X.extract s e) p.size (X.extract s e).size).1;have Y:(X.extract s e).size=e-s:=by simp_all
 unfold jf at hd;omega
theorem aaj(p X:ByteArray)(k q st s e:Nat)(R:1<=q)(gq:1<=st)(Y:s<=e)(K:e<=X.size)(hd:jf p (X.extract s e)<=k):
  looked p X k q st (o_ p.size k q) ((e-(p.size+k))/st)=true:=by
 have H:=IA p X k s e Y K hd;have I:(e-(p.size+k))/st *st<=e-(p.size+k):=cx _ _;have D:e-(p.size+k)<(e-(p.size+k))/st *st+st:=by
  have:=cw (e-(p.size+k)) st;have A:=Nat.mod_lt (e-(p.size+k)) (show 0<st by omega);rw[bJ]at this;omega
 unfold looked;rw[Bool.or_eq_true];right;refine decide_eq_true ?_;refine Xj p X k q _ _ s e R (by omega) Y ?_ ?_ hd
 ·unfold pE;omega
 ·unfold pE;omega
theorem Az{p' t':ByteArray}:∀i j,(∀x,x<i->at8 p x=at8 p' x)->(∀y,y<j->at8 t y=at8 t' y)->dT p t i j=dT p' t' i j
 |0,j,_,_=>by simp[dT]
 |i+1,0,_,_=>by simp[dT]
 |i+1,j+1,Y,K=>by
  rw[dT,dT,Az i j (fun x h=>Y x (by omega)) (fun y h=>K y (by omega)),Az i _ (fun x h=>Y x (by omega)) K,Az _ j Y (fun y h=>K y (by omega))];unfold cost;simp_all
def dF(p t:ByteArray)(s i j:Nat):=dT p (t.extract s t.size) i (j-s)
theorem ajz(p t:ByteArray)(s e i:Nat)(K:s<=e)(Y:e<=t.size):dT p (t.extract s e) i (e-s)=dF p t s i e:=by
 refine Az i _ (fun _ _=>rfl) (fun y H=>?_);rw[vQ t s e y Y (by omega),vQ t s _ y (ae _) (by omega)]
theorem QU(p t:ByteArray)(s e:Nat)(K:s<=e)(Y:e<=t.size):jf p (t.extract s e)=dF p t s p.size e:=by
 have h:(t.extract s e).size=e-s:=by simp_all
 unfold jf;rw[h];exact ajz p t s e _ K Y
theorem yI(p t:ByteArray)(s i:Nat):dF p t s i s=i:=by
 unfold dF;cases i<;>simp[dT]
theorem Ds(p t:ByteArray)(s i j:Nat)(K:s<=j)(Y:j<t.size):dF p t s (i+1) (j+1)=min (min (dF p t s i j+cost p t i j) (dF p t s i (j+1)+1)) (dF p t s (i+1) j+1):=by
 unfold dF;rw[show j+1-s=(j-s)+1 by omega,dT];have:cost p (t.extract s t.size) i (j-s)=cost p t i j:=by
  unfold cost;rw[vQ t s _ _ (ae _) (by omega),show s+(j-s)=j by omega]
 omega
def sT(p t:ByteArray)
 |0,_=>0
 |i+1,0=>i+1
 |i+1,j+1=>min (min (sT p t i j+cost p t i j) (sT p t i (j+1)+1)) (sT p t (i+1) j+1)
theorem I8(p t:ByteArray):∀i j,sT p t i j<=i
 |0,j=>by simp[sT]
 |i+1,0=>by simp[sT]
 |i+1,j+1=>by have:=I8 p t i (j+1);rw[sT];omega
theorem Bc(p t:ByteArray):∀i j,j<=t.size->∀s,s<=j->sT p t i j<=dF p t s i j
 |0,j,_,s,_=>by simp[sT]
 |i+1,0,_,s,Y=>by
  have:s=0:=by omega
  subst this;rw[yI];exact I8 p t _ _
 |i+1,j+1,K,s,Y=>by
  rcases ay j s with h|h
  ·have:s=j+1:=by omega
   subst this;rw[yI];exact I8 p t _ _
  ·have H:=Bc p t i j (by omega) s h;have D:=Bc p t i (j+1) K s Y;have R:=Bc p t (i+1) j (by omega) s h;rw[sT,Ds p t s i j h (by omega)];omega
theorem Ew(p t:ByteArray):∀i j,j<=t.size->∃s,s<=j/\dF p t s i j=sT p t i j
 |0,j,_=>⟨j,ae _,by rw[yI,sT]⟩
 |i+1,0,_=>⟨0,ae _,by rw[yI,sT]⟩
 |i+1,j+1,D=>by
  have key:∃s,s<=j+1/\dF p t s (i+1) (j+1)<=sT p t (i+1) (j+1):=by
   have K:sT p t (i+1) (j+1)=sT p t i j+cost p t i j\/sT p t (i+1) (j+1)=sT p t i (j+1)+1\/sT p t (i+1) (j+1)=sT p t (i+1) j+1:=by rw[sT];omega
   rcases K with h|h|h
   ·obtain⟨s,Y,e⟩:=Ew p t i j (by omega);exact⟨s,by omega,by rw[Ds p t s i j Y (by omega),h];omega⟩
   ·obtain⟨s,Y,e⟩:=Ew p t i (j+1) D;rcases ay j s with h'|h'
    ·have:s=j+1:=by omega
     subst this;rw[yI]at e;exact⟨j+1,ae _,by rw[yI,h];omega⟩
    ·exact⟨s,Y,by rw[Ds p t s i j h' (by omega),h];omega⟩
   ·obtain⟨s,Y,e⟩:=Ew p t (i+1) j (by omega);exact⟨s,by omega,by rw[Ds p t s i j Y (by omega),h];omega⟩
  obtain⟨s,Y,H⟩:=key;exact⟨s,Y,cy H (Bc p t (i+1) (j+1) D s Y)⟩
theorem Oe(p t:ByteArray)(k e:Nat):∀c,c<=e+1->
  (∀x,x<c->(nK p t k e c).1<=jf p (t.extract (e-x) e))/\
  ((nK p t k e c).1<=k->∃x,x<c/\(nK p t k e c).2=e-x/\jf p (t.extract (e-x) e)=(nK p t k e c).1/\∀y,y<x->(nK p t k e c).1<jf p (t.extract (e-y) e))
 |0,_=>⟨fun x h=>by omega,fun h=>by simp[nK]at h;omega⟩
 |c+1,I=>by
  obtain⟨K,D⟩:=Oe p t k e c (by omega);by_cases h:jf p (t.extract (e-c) e)<(nK p t k e c).1
  ·rw[nK,if_pos h];refine⟨fun x H=>?_,fun hk=>⟨c,by omega,rfl,rfl,fun y R=>?_⟩⟩
   ·rcases ay x c with Y|Y
    ·have:=K x Y;omega
    ·have:x=c:=by omega
     simp_all
   ·have:=K y R;omega
  ·rw[nK,if_neg h];refine⟨fun x H=>?_,fun hk=>?_⟩
   ·rcases ay x c with Y|Y
    ·simp_all
    ·have:x=c:=by omega
     subst this;omega
   ·obtain⟨x,H,a,b,d⟩:=D hk;exact⟨x,by omega,a,b,d⟩
theorem vY(p t:ByteArray)(k e:Nat)(K:e<=t.size):
  (∀s,s<=e->jf p (t.extract s e)<=k->(gX p t k e).1<=jf p (t.extract s e))/\
  ((gX p t k e).1<=k->(gX p t k e).2<=e/\jf p (t.extract (gX p t k e).2 e)=(gX p t k e).1/\(∀s,s<=e->(gX p t k e).1<=jf p (t.extract s e))/\∀s,(gX p t k e).2<s->s<=e->(gX p t k e).1<jf p (t.extract s e)):=by
 have U:tries p k e=min e _+1:=rfl;obtain⟨H,D⟩:=Oe p t k e (tries p k e) (by omega);have I:=fun s Y hd=>by
  have B:=IA p t k s e Y K hd;have:=H (e-s) (by omega);rw[show e-(e-s)=s by omega]at this;exact this
 refine⟨I,fun hk=>?_⟩;obtain⟨x,C,a,b,d⟩:=D hk;refine⟨GJ p t k e _,by unfold gX;rw[a];exact b,fun s Y=>?_,fun s Y A=>?_⟩
 ·rcases ay k (jf p (t.extract s e))with h|h
  ·omega
  ·exact I s Y h
 ·have R:(gX p t k e).2=e-x:=a;have:=d (e-s) (by omega);rw[show e-(e-s)=s by omega]at this;exact this
theorem Nh(X:ByteArray)(a c s e:Nat)(has:a<=s)(H:s<=e)(K:e<=c)(Y:c<=X.size):(X.extract a c).extract (s-a) (e-a)=X.extract s e:=by
 rw[<-CM];simp only[aW,aV,b_];rw[bZ,List.drop_drop,List.take_take,show a+(s-a)=s by omega];congr 1;omega
theorem aak(p X:ByteArray)(a c s e:Nat)(has:a<=s)(H:s<=e)(K:e<=c)(Y:c<=X.size):sT p (X.extract a c) p.size (e-a)<=jf p (X.extract s e):=by
 have D:(X.extract a c).size=c-a:=by simp_all
 have:=Bc p (X.extract a c) p.size (e-a) (by omega) (s-a) (by omega);rw[<-QU p _ _ _ (by omega) (by omega),Nh X a c s e has H K Y]at this;omega
theorem aal(p X:ByteArray)(a c e:Nat)(H:a<=e)(K:e<=c)(Y:c<=X.size):∃s,a<=s/\s<=e/\jf p (X.extract s e)=sT p (X.extract a c) p.size (e-a):=by
 have R:(X.extract a c).size=c-a:=by simp_all
 obtain⟨s,D,h⟩:=Ew p (X.extract a c) _ (e-a) (by omega);rw[<-QU p _ s _ D (by omega)]at h;have:=Nh X a c (a+s) e (by omega) (by omega) K Y;rw[show a+s-a=s by omega]at this;rw[this]at h;exact⟨a+s,by omega,by omega,h⟩
theorem M_(p X:ByteArray)(k a c e:Nat)(Y:a<=e)(H:e<=c)(K:c<=X.size)(hk:sT p (X.extract a c) p.size (e-a)<=k):(gX p X k e).1<=sT p (X.extract a c) p.size (e-a):=by
 obtain⟨s,has,D,h⟩:=aal p X a c e Y H K;rw[<-h]at hk⊢;exact(vY p X k e (by omega)).1 s D hk
theorem X9(p X:ByteArray)(k st e:Nat)(gq:1<=st)(H:e<=X.size)(hk:(gX p X k e).1<=k):
  (e-(p.size+k))/st *st<=e/\e<=pE p.size X.size k st ((e-(p.size+k))/st)/\sT p (X.extract ((e-(p.size+k))/st *st) (pE p.size X.size k st ((e-(p.size+k))/st))) p.size (e-(e-(p.size+k))/st *st)=(gX p X k e).1:=by
 obtain⟨R,A,B,C⟩:=(vY p X k e H).2 hk;have I:=IA p X k _ e R H (by omega);have F:(e-(p.size+k))/st *st<=e-(p.size+k):=cx _ _;have U:e-(p.size+k)<(e-(p.size+k))/st *st+st:=by
  have:=cw (e-(p.size+k)) st;have J:=Nat.mod_lt (e-(p.size+k)) (show 0<st by omega);rw[bJ]at this;omega
 have Y:e<=pE p.size X.size k st ((e-(p.size+k))/st):=by unfold pE;omega
 have K:pE p.size X.size k st ((e-(p.size+k))/st)<=X.size:=by unfold pE;omega
 refine⟨by omega,Y,?_⟩;have D:=aak p X _ _ _ e (show(e-(p.size+k))/st *st<=(gX p X k e).2 by omega) R Y K;rw[A]at D;exact cy D (M_ p X k _ _ e (by omega) Y K (by omega))
inductive Ed:List UInt8->List UInt8->Nat->Prop
 |nil:Ed [] [] 0
 |sub {x y:List UInt8} {n:Nat} (a b:UInt8):Ed x y n->Ed (x++[a]) (y++[b]) (n+co a b)
 |del {x y:List UInt8} {n:Nat} (a:UInt8):Ed x y n->Ed (x++[a]) y (n+1)
 |ins {x y:List UInt8} {n:Nat} (b:UInt8):Ed x y n->Ed x (y++[b]) (n+1)
theorem Ed.akO{x y:List _}{n:Nat}(a b:UInt8)(h:Ed x y n):Ed (a::x) (b::y) (n+co a b):=by
 induction h with
 |nil=>simpa using Ed.sub a b Ed.nil
 |@sub x y n c d _ Y=>have:=Ed.sub c d Y;rw[show n+co c d+co a b=n+co a b+co c d by omega];exact this
 |@del x y n c _ Y=>have:=Ed.del c Y;rw[show n+1+co a b=n+co a b+1 by omega];exact this
 |@ins x y n d _ Y=>have:=Ed.ins d Y;rw[show n+1+co a b=n+co a b+1 by omega];exact this
theorem Ed.akP{x y:List _}{n:Nat}(a:UInt8)(h:Ed x y n):Ed (a::x) y (n+1):=by
 induction h with
 |nil=>simpa using Ed.del a Ed.nil
 |@sub x y n c d _ Y=>have:=Ed.sub c d Y;rw[show n+co c d+1=n+1+co c d by omega];exact this
 |@del x y n c _ Y=>exact Ed.del c Y
 |@ins x y n d _ Y=>exact Ed.ins d Y
theorem Ed.akQ{x y:List _}{n:Nat}(b:UInt8)(h:Ed x y n):Ed x (b::y) (n+1):=by
 induction h with
 |nil=>simpa using Ed.ins b Ed.nil
 |@sub x y n c d _ Y=>have:=Ed.sub c d Y;rw[show n+co c d+1=n+1+co c d by omega];exact this
 |@del x y n c _ Y=>exact Ed.del c Y
 |@ins x y n d _ Y=>exact Ed.ins d Y
theorem Ed.rev{x y:List _}{n:Nat}(h:Ed x y n):Ed x.reverse y.reverse n:=by
 induction h with
 |nil=>exact .nil
 |sub a b _ Y=>rw[a_,a_];exact Y.akO a b
 |del a _ Y=>rw[a_];exact Y.akP a
 |ins b _ Y=>rw[a_];exact Y.akQ b
theorem vS(s:ByteArray)(i:Nat)(h:i<s.size):s.data.toList.take (i+1)=s.data.toList.take i++[at8 s i]:=by
 rw[List.take_succ_eq_append_getElem _];unfold at8;rw[ao,au (by simp_all)];rfl
theorem JJ(p t:ByteArray)(i:Nat):dT p t i 0=i:=by
 cases i with
 |zero=>rw[dT]
 |succ i=>rw[dT]
theorem Ed.zl(p t:ByteArray):∀i j,i<=p.size->j<=t.size->Ed (p.data.toList.take i) (t.data.toList.take j) (dT p t i j)
 |0,0,_,_=>by simpa[dT]using Ed.nil
 |0,j+1,Y,K=>by
  have:=Ed.ins (at8 t j) (Ed.zl p t 0 j Y (by omega));rw[<-vS t j (by omega)]at this;simpa[dT]using this
 |i+1,0,Y,K=>by
  have I:dT p t i 0=i:=JJ p t i;have:=Ed.del (at8 p i) (Ed.zl p t i 0 (by omega) K);rw[<-vS p i (by omega),I]at this;simpa[dT]using this
 |i+1,j+1,Y,K=>by
  have H:=Ed.sub (at8 p i) (at8 t j) (Ed.zl p t i j (by omega) (by omega));have R:=Ed.del (at8 p i) (Ed.zl p t i (j+1) (by omega) K);have D:=Ed.ins (at8 t j) (Ed.zl p t (i+1) j Y (by omega));rw[<-vS p i (by omega),<-vS t j (by omega)]at H;rw[<-vS p i (by omega)]at R;rw[<-vS t j (by omega)]at D;have A:co (at8 p i) (at8 t j)=cost p t i j:=rfl;rw[A]at H;rw[dT];rcases bE (dT p t i j+cost p t i j) (dT p t i (j+1)+1)with a|a
  ·rw[bG a];rcases bE (dT p t i j+cost p t i j) (dT p t (i+1) j+1)with b|b
   ·rw[bG b];exact H
   ·rw[bH b];exact D
  ·rw[bH a];rcases bE (dT p t i (j+1)+1) (dT p t (i+1) j+1)with b|b
   ·rw[bG b];exact R
   ·rw[bH b];exact D
theorem Db{x:List _}{a:UInt8}(H:(x++[a]).length<=s.size)(h:x++[a]=s.data.toList.take (x++[a]).length):x.length<s.size/\x=s.data.toList.take x.length/\a=at8 s x.length:=by
 have Y:=by simp at H;omega
 rw[ah,aM,vS s _ Y]at h;have:=List.append_inj h (by simp;omega);refine⟨Y,this.1,?_⟩;have K:=this.2;simpa using K
theorem Ed.le{n:Nat}(h:Ed x y n)(p t:ByteArray):x.length<=p.size->y.length<=t.size->x=p.data.toList.take x.length->y=t.data.toList.take y.length->dT p t x.length y.length<=n:=by
 induction h with
 |nil=>simp[dT]
 |@sub x y n a b _ R=>
  intro Y K H D;obtain⟨a1,a2,a3⟩:=Db Y H;obtain⟨C,I,A⟩:=Db K D;have:=R (by omega) (by omega) a2 I;rw[ah,ah,aM,aM,dT,a3,A];have J:co _ _=cost p t x.length y.length:=rfl;omega
 |@del x y n a _ R=>
  intro Y K H D;obtain⟨a1,a2,a3⟩:=Db Y H;have:=R (by omega) K a2 D;rw[ah,aM];cases B:y.length with
  |zero=>
   rw[B]at this;have F:dT p t _ 0=x.length:=JJ p t _;rw[dT];omega
  |succ j=>rw[B]at this;rw[dT];omega
 |@ins x y n b _ R=>
  intro Y K H D;obtain⟨C,I,A⟩:=Db K D;have:=R Y (by omega) H I;rw[ah,aM];cases U:x.length with
  |zero=>rw[U]at this;simp[dT]at this⊢;omega
  |succ i=>rw[U]at this;rw[dT];omega
def rev8(s:ByteArray):=str s.data.toList.reverse
theorem vZ(s:ByteArray):(rev8 s).size=s.size:=by unfold rev8;rw[gV];simp
theorem CQ(s:ByteArray):(rev8 s).data.toList=s.data.toList.reverse:=by simp[rev8,str]
theorem Of(p t:ByteArray):jf (rev8 p) (rev8 t)<=jf p t:=by
 have h:=(Ed.zl p t _ _ (ae _) (ae _)).rev;have Y:p.data.toList.take p.size=p.data.toList:=aO (by simp);have K:t.data.toList.take t.size=t.data.toList:=aO (by simp);rw[Y,K]at h;have:=h.le (rev8 p) (rev8 t) (by rw[vZ];simp) (by rw[vZ];simp) (by rw[CQ,aO (by simp)]) (by rw[CQ,aO (by simp)]);unfold jf;rw[vZ,vZ];simp_all
theorem PO(s:ByteArray):rev8 (rev8 s)=s:=by
 simp[rev8,str]
theorem adH(p t:ByteArray):jf (rev8 p) (rev8 t)=jf p t:=by
 have K:=Of p t;have Y:=Of (rev8 p) (rev8 t);rw[PO,PO]at Y;omega
def nR(X o:ByteArray)(e:Nat)
 |0=>id
 |c+1=>mQ (nR X o e c) (c+1) (at8 X (e-(c+1))) o
theorem afN(a b:UInt8):co a b=co b a:=by
 unfold co ag;by_cases h:a=b
 ·simp_all
 ·have Y:(a==b)=false:=by simp_all
  have K:(b==a)=false:=by simpa using fun e=>h e.symm
  simp_all
theorem R3(X:ByteArray)(e c:Nat)(H:e<=X.size)(K:c<e):at8 (rev8 (X.extract 0 e)) c=at8 X (e-(c+1)):=by
 unfold at8;rw[CQ];have Y:(X.extract 0 e).data.toList.length=e:=by simp;omega
 rw[ao,cj (by omega),ao,Y];congr 1;simp only[aW,aV];rw[bt (by omega),br];congr 1;omega
theorem D4(X o:ByteArray)(e:Nat)(Y:e<=X.size):∀c,c<=e->∀j,nR X o e c j=dT o (rev8 (X.extract 0 e)) j c
 |0,_,j=>by rw[JJ];rfl
 |c+1,K,0=>by rw[dT];rfl
 |c+1,K,j+1=>by
  have H:=D4 X o e Y c (by omega) j;have i2:=D4 X o e Y c (by omega) (j+1);have i3:=D4 X o e Y (c+1) K j;rw[dT];show min _ (nR X o e (c+1) j+1)=_
  rw[H,i2,i3,afN,<-R3 X e c Y (by omega)];have K:co _ _=cost o (rev8 (X.extract 0 e)) j c:=rfl;omega
theorem QV(X P:ByteArray)(e c:Nat)(Y:e<=X.size)(K:c<=e):nR X (rev8 P) e c P.size=jf P (X.extract (e-c) e):=by
 rw[D4 X (rev8 P) e Y c K,<-adH P (X.extract (e-c) e)];unfold jf;have D:(rev8 (X.extract (e-c) e)).size=c:=by rw[vZ,aD];omega
 rw[vZ,D];refine Az _ _ (fun _ _=>rfl) fun y R=>?_;rw[R3 X e y Y (by omega)];unfold at8;rw[CQ];have H:(X.extract (e-c) e).data.toList.length=c:=by simp;omega
 rw[ao,ao,cj (by omega),H];congr 1;simp only[aW,aV];rw[b_];rw[bt (by omega),br];congr 1;omega
def qj(p t:ByteArray)(k n:Nat):=(jC p t k n).map (·.2.1)
def jg(p t:ByteArray)(k:Nat):=(iE p t k).map (·.2.1)
theorem H3(p t:ByteArray)(k e:Nat):∀n,e∈qj p t k n↔e<n/\(gX p t k e).1<=k
 |0=>by simp[qj,jC]
 |n+1=>by
  have Y:=H3 p t k e n;unfold qj at *;rw[jC];split
  ·rw[az,aY,Y];simp;constructor
   ·rintro(⟨a,b⟩|rfl)
    ·omega
    ·omega
   ·omega
  ·rename_i h;rw[Y];constructor
   ·omega
   ·rintro⟨a,b⟩;by_cases K:e<n
    ·omega
    ·have:e=n:=by omega
     subst this;omega
theorem OW(p t:ByteArray)(k:Nat):∀n,(qj p t k n).Pairwise (· < ·)
 |0=>by simp[qj,jC]
 |n+1=>by
  have K:=OW p t k n;have Y:=fun e=>H3 p t k e n;unfold qj at *;rw[jC];split
  ·rw[az,cn];simp_all
  ·omega
theorem H4(p t:ByteArray)(k e:Nat):e∈jg p t k↔e<=t.size/\(gX p t k e).1<=k:=by
 have:=H3 p t k e (t.size+1);unfold qj at this;unfold jg iE;rw[this];omega
theorem aam(p t:ByteArray)(k:Nat):(jg p t k).Pairwise (· < ·):=OW p t k _
theorem PQ(p t:ByteArray)(k:Nat):∀n,(qj p t k n).length<=n
 |0=>by simp[qj,jC]
 |n+1=>by
  have Y:=PQ p t k n;unfold qj at *;rw[jC];split
  ·simp_all
  ·omega
theorem Av(p t:ByteArray)(k:Nat):(jg p t k).length<=t.size+1:=PQ p t k _
theorem Og(p t:ByteArray)(k e:Nat)(h:e∈jg p t k):e<=t.size/\(gX p t k e).1<=k/\(gX p t k e).2<=e/\jf p (t.extract (gX p t k e).2 e)<=(gX p t k e).1/\∀c,c<e-(gX p t k e).2->(gX p t k e).1<jf p (t.extract (e-c) e):=by
 obtain⟨Y,K⟩:=(H4 p t k e).1 h;obtain⟨H,D,R,b4⟩:=(vY p t k e Y).2 K;exact⟨Y,K,H,by omega,fun c I=>b4 _ (by omega) (by omega)⟩
theorem GM{H:Type}{enc:TypeId×Value->H}{C:Checked}{os:Os}{fn:Func}{s:ChangeSpec}{conds:List _}{apart:Bool}{X:World->Array _->Prop}(w0:World)(args:Array _)(fuel:Nat)(D:w0.os=os)
  (R:(w0.forCall (fun _ _=>0) ⟨#[],args,[]⟩).Shaped C.prog)
  (K:Input.okWideB C.prog (w0.forCall (fun _ _=>0) ⟨#[],args,[]⟩) f ⟨#[],args,[]⟩=true)
  (Y:s.preB enc C.prog fn conds apart (w0.forCall (fun _ _=>0) ⟨#[],args,[]⟩).memory args fuel=true)
  (U:s.sizedB enc C.prog fn apart (w0.forCall (fun _ _=>0) ⟨#[],args,[]⟩).memory args fuel=true)
  (F:X (w0.forCall (fun _ _=>0) ⟨#[],args,[]⟩).memory args):
  ∃(w:World) (tape:Tape) (i:Input),w.os=os/\(w.forCall tape i).Shaped C.prog/\i.vars=[]/\Input.okWide C.prog (w.forCall tape i) .any w.heap.size f i/\
   ((s.pre enc C.prog fn conds apart (w.forCall tape i).memory i.args/\X (w.forCall tape i).memory i.args)/\sizedMet enc C.prog fn (OpenSpec.ofChange s) apart (w.forCall tape i).memory i.args)/\
   ({calm:=true}:Assume).holds C.prog (lone (Frame.enter C.prog f i.args .normal) [] (w.forCall tape i)):=by
 have h:=Input.okWide_of_okWideB (base:=w0.heap.size) K;refine⟨w0,fun _ _=>0,⟨#[],args,[]⟩,D,R,h.1,h.2,⟨⟨ChangeSpec.pre_of_preB Y,F⟩,sizedMet_of_sizedB U⟩,?_⟩;exact⟨by simp,fun _ _ _ _=>rfl,by simp,by simp,by simp⟩
theorem H7{p:Pinned}{s:OpenSpec}{c:OpenClaim}(kinds:List _)(tests:Bool)(Y:Bool×String)(lk:Bool)
  (R:c.holds p s)(hw:c.wfByText s=true)(K:c.laidByTextAt .later p kinds tests)
  (gq:c.start=.entering)(H:c.noBlocks=false/\c.again=false)(F:p.checked.prog.mainIs=some (Y.1,Y.2.toList))(J:(!Y.1&&Y.2.isEmpty&&!lk)=false)
  (C:∀f fn,p.checked.prog.funcNamed c.func=some f->p.checked.prog.funcs[f]?=some fn->lk=p.checked.prog.looks []/\∀(j:Nat) t,fn.params[j]?=some t->p.checked.prog.wantsStandIn t=false)
  (U:true=c.goesBy p.checked.prog):
  Claim7.holds p (.plain s) {stood:={row:=c,standIns:=[],harness:=Y,looks:=lk},kinds:=[],alts:=[],goes:=true,laidByText:=true,laidKinds:=kinds,laidTests:=tests,laidLooks:=.later}:=by
 have D:bS {stood:={row:=c,standIns:=[],harness:=Y,looks:=lk},kinds:=[]}=false:=by simpa[bS]using J
 exact⟨Claim7.tied_new_at .later kinds tests (Claim7.new_of_sixth R Y lk gq H F D C) hw,(fun _ h=>by cases h),K,(fun h=>by cases h),U⟩
end
section
open RowKit
def pa(w:World)(p:Nat)(e d:Nat):Prop:=w.heap[p]?=some (.cells #[.int .i64 (e:Int),.int .i64 (d:Int)] 173 (0,0))
theorem pa.c0{p e:Nat}(h:pa w p e d):w.cell? ⟨p,0,none⟩=some (.int .i64 e):=by rw[cell_of_row w p 0 _ _ _ h];rfl
theorem pa.c1{p e:Nat}(h:pa w p e d):w.cell? ⟨p,1,none⟩=some (.int .i64 d):=by rw[cell_of_row w p 1 _ _ _ h];rfl
theorem pa.below{p e B:Nat}(h:pa w p e d)(K:Below B w w')(Y:p<B):pa w' p e d:=by unfold pa at *;rw[K.block p Y];exact h
theorem pa.drewN{p e:Nat}(h:pa w p e d)(k:Nat):pa (w.drewN k) p e d:=h
theorem lV.drewN{n:Nat}{g:Nat->Nat}(h:lV w G g n)(k:Nat):lV (w.drewN k) G g n:=h
theorem SM(X o:ByteArray)(e:Nat):∀c j,nR X o e c j<=c+j
 |0,j=>by simp[nR]
 |c+1,j=>Dy _ _ _ _ j
theorem abU(s:ByteArray):str (jW s)=rev8 s:=by unfold rev8;rw[C8]
theorem YU(X P:ByteArray)(e d c0:Nat)(w:World)(hX:X.size<=200)(hP:P.size<=100)(he:e<=X.size)(hd:d<=1000)(hc:c0<=e)(h1:jf P (X.extract (e-c0) e)<=d)(h2:∀c,c<c0->d<jf P (X.extract (e-c) e)):
  Calls Tryz.prog 125 #[.string X,.string P,.agg #[.int .i64 (e:Int),.int .i64 (d:Int)]] w fun r w'=>r=.returned (.int .i64 ((e-c0:Nat):Int))/\Below w.heap.size w w':=by
 have i:Hid (nR X (rev8 P) e c0 P.size<=d):=laid (by rw[QV X P e c0 he hc];exact h1);have h:Hid (∀c,c<c0->d<nR X (rev8 P) e c P.size):=laid fun c E=>by rw[QV X P e c he (by omega)];exact h2 c E
 clear h1 h2;have Z:(rev8 P).size=P.size:=vZ P;have V:Hid (∀W:World,Calls Tryz.prog 129 #[.string P] W fun e w'=>e=.returned (.string (rev8 P))/\Below W.heap.size W w'):=laid fun W=>by
  have:=Nt P W (by omega);rw[abU]at this;exact this
 generalize rev8 P=R at *;have g:pa (w.alloc (.cells #[.int .i64 (e:Int),.int .i64 (d:Int)] 173)) w.heap.size e d:=heap_alloc_new w _;have A:∀o,Below w.heap.size w (w.alloc o):=fun o=>(af _ _).alloc (ae _) o;have N:=laid (fun W:World=>Gx R.size W (by omega));rw[<-Z]at i h hP;clear Z;have T:=laid g;clear g
 go_enter Tryz.func125,Tryz.ntmps125
 go_wp2_with fail
 refine(V.out _).mono ?_;rintro e1 w1 ⟨rfl,B⟩;have J:=T.out.below B (by simp);have D:Below w.heap.size w w1:=(A _).trans (B.mono (by simp));clear B T V;go_wp2_with fail
 refine(N.out _).mono ?_;rintro e2 w2 ⟨rfl,z,C⟩;have a:w.heap.size<w1.heap.size:=by have:=J.c0;exact block_lt_of_cell this
 have L:=J.below C a;have U:Below w.heap.size w w2:=D.trans (C.mono D.size);clear C N J D A;have d0:=L.c0;have M:=laid L;have Q:=laid z;clear L z;generalize w1.heap.size=H1 at *;go_wp2
 go_loopw [8,9] (fun lv sv wr=>∃c G:Nat,sv=.int .i64 ((e:Int)-(c:Int))/\lv=.slice (some ⟨G,0,none⟩) (R.size+1) (R.size+1)/\c<=c0/\lV wr G (nR X R e c) (R.size+1)/\pa wr w.heap.size e d/\Below w.heap.size w wr) (fun _ sv _=>(intOf sv).toNat)
 case atStart=>exact⟨0,H1,by simp,rfl,ak _,Q.out,M.out,U⟩
 case round=>
  obtain⟨c,G,rfl,rfl,E,Y,K,H⟩:=hrel;clear Q M U d0;have l:=K.c0;have c1':=K.c1;have x:=Y.cell R.size (by omega);have v:=SM X R e c R.size;by_cases y:c<c0
  ·have u:(d:Int)<(nR X R e c R.size:Int):=by have:=h.out c y;omega
   obtain⟨m,b⟩:∃m:Nat,m=e-(c+1):=⟨_,rfl⟩;have apx:ai.wrap ((e:Int)-(c:Int)-1)=(m:Int):=by rw[show(e:Int)-(c:Int)-1=(m:Int) by omega];exact aj _ (by omega)
   have k:ai.wrap ((e:Int)-(m:Int))=(c:Int)+1:=by rw[show(e:Int)-(m:Int)=(c:Int)+1 by omega];exact aj _ (by omega)
   have t:m<X.size:=by omega
   have p:=mm X m t;have b1:(m:Int)<(X.size:Int):=by omega
   have b2:(0:Int)<=(m:Int):=bT _;have S:Hid (∀W:World,lV W G (nR X R e c) (R.size+1)->Calls Tryz.prog 145 #[.slice (some ⟨G,0,none⟩) (R.size+1) (R.size+1),.int .i64 ((c:Int)+1),.int .u8 ((at8 X m).toNat:Int),.string R] W fun e' w'=>e'=.returned (.slice (some ⟨W.heap.size,0,none⟩) (R.size+1) (R.size+1))/\lV w' W.heap.size (nR X R e (c+1)) (R.size+1)/\Below W.heap.size W w'):=laid fun W hW=>by
    have:=GC (nR X R e c) (c+1) (at8 X m) R G W (by omega) (by omega) (fun j hj=>by have:=SM X R e c j;omega) hW;have e1:nR X R e (c+1)=mQ (nR X R e c) (c+1) (at8 X m) R:=by rw[b];rfl
    rw[e1];rw[show((c+1:Nat):Int)=(c:Int)+1 by omega]at this;exact this
   have HL:=laid Y;have O:=laid K;have HM:=laid b;clear Y K b;generalize nR X R e c R.size=LV at *;have f:w.heap.size<wr.heap.size:=block_lt_of_cell l;go_wp2_with fail
   go_quiet(fail)
   go_wp2_with fail
   go_region_held3 (fun w'=>w'.cell? ⟨w.heap.size,0,none⟩=some (.int .i64 (e:Int)))
    (first|go_keep|(rw[I.cell (by first|exact f|(simp;omega))];assumption))
    (first|(go_at_call 145;refine(S.out _ (HL.out.drewN _)).mono ?_;rintro e' w' ⟨rfl,n,I⟩))
   have F:Below w.heap.size w w':=(Go.below_drewN H _).trans (I.mono H.size);have s:=pa.below (w:=wr.drewN _) (O.out.drewN _) I f;clear I S HL O x u v p;go_wp2
   go_roundw
   case rel=>go_light;exact⟨c+1,_,by have:=HM.out;congr 1;omega,rfl,by omega,n,s,F⟩
   case measure=>go_light;have:=HM.out;simp[intOf];omega
  ·have q:c=c0:=by omega
   have hle:¬((d:Int)<(nR X R e c R.size:Int)):=by have:=i.out;rw[q];omega
   have HC:Hid ((e:Int)-(c:Int)=((e-c0:Nat):Int)):=laid (by omega);generalize nR X R e c R.size=LV at *;clear q;go_wp2_with fail
   go_quiet(fail)
   go_wp2
   go_ret
   exact⟨yJ HC.out,Go.below_drewN H _⟩
theorem afO(p t:ByteArray)(i:Nat):mQ (dT p t i) (i+1) (at8 p i) t=dT p t (i+1):=by
 funext j;induction j with
 |zero=>rw[mQ,dT]
 |succ j Y=>rw[mQ,Y,dT];rfl
theorem adI(p t:ByteArray):(id:Nat->Nat)=dT p t 0:=by
 funext j;rw[dT];rfl
theorem adJ{wr wz:World}{B cap g' EN:Nat}{g:Nat->Nat}(R:qP wr B p t (.slice (some ⟨G,0,none⟩) (i+1) cap) (i+1) g)(N:B<=wr.heap.size)(U:Below wr.drew.heap.size wr.drew w')(C:lV w' wr.heap.size (dT p t (i+1)) (t.size+1))
  (H:(w'.alloc o).grownBy wz (some G))(D:wz.ownsRow B 25 1 (.slice (some ⟨g',0,none⟩) (i+1+1) EN) (i+1+1) ((List.range (i+1)).map (sv t g)++[.slice (some ⟨wr.heap.size,0,none⟩) (t.size+1) (t.size+1)])):
  qP wz B p t (.slice (some ⟨g',0,none⟩) (i+1+1) EN) (i+1+1) (fun x=>if x<i+1 then g x else wr.heap.size):=by
 have L:wr.drew.ownsRow B 25 1 _ (i+1) _:=R.own;have M:=uR L U;have K:∀(k:Nat) (c:Array Value),w'.heap[k]?=some (.cells c 3 (0,0))->wz.heap[k]?=some (.cells c 3 (0,0)):=fun k c hk=>by
  have A:k<w'.heap.size:=by
   rcases ay k w'.heap.size with h'|h'
   ·exact h'
   ·simp_all
  rw[H.block k (by simp;omega) (fun e=>Lib.ownBlock_ne M hk (by decide) e.symm),heap_alloc_old w' _ A];exact hk
 refine⟨?_,fun x I=>?_,fun x I=>?_⟩
 ·have J:(List.range (i+1+1)).map (sv t fun x=>if x<i+1 then g x else wr.heap.size)=(List.range (i+1)).map (sv t g)++[.slice (some ⟨wr.heap.size,0,none⟩) (t.size+1) (t.size+1)]:=by
   rw[bD,az];congr 1
   ·apply List.map_congr_left;intro x I;rw[cm]at I;simp[sv,I]
   ·simp[sv]
  rw[J];exact D
 ·by_cases Y:x<i+1
  ·simp only[Y,if_true];have hr:=R.rows x Y;have A:=hr.lt;refine K _ _ ?_;rw[U.block (g x) A];exact hr
  ·have F:x=i+1:=by omega
   subst F;simp only[Y,if_false];exact K _ _ C
 ·by_cases Y:x<i+1
  ·simp only[Y,if_true];exact R.base x Y
  ·simp only[Y,if_false];exact N
theorem XH(p t:ByteArray)(w:World)(hp:p.size<=100)(h:t.size<=300):
  Calls Tryz.prog 146 #[.string p,.string t] w fun e w'=>∃v g,e=.returned v/\qP w' w.heap.size p t v (p.size+1) g/\Below w.heap.size w w':=by
 obtain⟨i0,hi,d,f,l⟩:=info_parts aez;have J:=laid (fun W:World=>Gx t.size W h)
 go_enter Tryz.func146,Tryz.ntmps146
 go_wp2_with fail
 refine(J.out _).mono ?_;rintro e1 w1 ⟨rfl,C,I⟩;have U:Hid (qP (w1.alloc (.cells #[.slice (some ⟨w.heap.size,0,none⟩) (t.size+1) (t.size+1)] 25)) w.heap.size p t (.slice (some ⟨w1.heap.size,0,none⟩) 1 1) 1 (fun _=>w.heap.size)):=laid (by
  have hl:=C.lt;refine⟨⟨rfl,.inr ⟨w1.heap.size,1,_,rfl,I.size,heap_alloc_new w1 _,ae _,by unfold maxLen;omega,rfl,rfl⟩⟩,fun x hx=>?_,fun x hx=>ae _⟩;have:x=0:=by omega
  subst this;unfold uX;rw[heap_alloc_old w1 _ hl];have:=C;rw[adI p t]at this;exact this)
 have A:Below w.heap.size w (w1.alloc (.cells #[.slice (some ⟨w.heap.size,0,none⟩) (t.size+1) (t.size+1)] 25)):=I.alloc I.size _;clear C I J;go_wp2
 go_loopw [5,13] (fun v iv wr=>∃(i:Nat) (g:Nat->Nat),iv=.int .i64 (i:Int)/\i<=p.size/\qP wr w.heap.size p t v (i+1) g/\Below w.heap.size w wr) (fun _ iv _=>p.size-(intOf iv).toNat)
 case atStart=>exact⟨0,_,rfl,ak _,U.out,A⟩
 case round=>
  obtain⟨i,g,rfl,V0,K,Y⟩:=hrel;clear U A;by_cases q:i<p.size
  ·obtain⟨G,cap,rfl,hGl,n⟩:=K.get (by omega);have Z:=n i (by omega);have z:=mm p i q;have b1:(i:Int)<(p.size:Int):=by omega
   have b2:(0:Int)<=(i:Int):=bT _;have b3:(i:Int)<(i:Int)+1:=by omega
   have x1:ai.wrap ((i:Int)+1)=(i:Int)+1:=aj _ (by omega);have S:=K.rows i (by omega);have X:w.heap.size<=G:=by
    rcases K.own.2 with⟨V,_⟩|⟨g1,y,m,V,T,_⟩
    ·cases V
    ·cases V;exact T
   have L:=laid fun W O=>by
    have:=GC (dT p t i) (i+1) (at8 p i) t (g i) W h (by omega) (fun j hj=>by have:=A4 p t i j;omega) O;rw[afO]at this;rw[show((i+1:Nat):Int)=(i:Int)+1 by omega]at this;exact this
   have r:Hid (lV wr (g i) (dT p t i) (t.size+1)):=laid S;have N:=laid K;have M:Hid (∀(W:World),Below wr.drew.heap.size wr.drew W->∀o:Obj,(W.alloc o).ownsRow w.heap.size 25 1 (.slice (some ⟨G,0,none⟩) (i+1) cap) (i+1) ((List.range (i+1)).map (sv t g))):=laid fun W O o=>by
    have T:wr.drew.ownsRow w.heap.size 25 1 (.slice (some ⟨G,0,none⟩) (i+1) cap) (i+1) ((List.range (i+1)).map (sv t g)):=K.own;exact(uR T O).alloc _
   have F:Hid (∀(W:World),Below wr.drew.heap.size wr.drew W->∀o:Obj,w.heap.size<=(W.alloc o).heap.size):=laid fun W O o=>by have T:=Y.size;have h2:=O.size;simp at h2⊢;omega
   clear K S n;go_wp2_with fail
   go_region_law
    (first
     |(go_simp;go_at_call 145;refine(L.out wr.drew r.out).mono ?_;rintro e' w' ⟨rfl,Q,H⟩)
     |(refine step_append_lies _ rfl _ _ 162 rfl w.heap.size 25 i0 (.slice none 0 0) 1 24 Tryz.underlying162 hi d f l rfl (by decide) _ (i+1) _ rfl (M.out w' H _) ⟨w'.heap.size,0,none⟩ 1 1 [.slice (some ⟨wr.heap.size,0,none⟩) (t.size+1) (t.size+1)] rfl rfl (cG (heap_alloc_new w' _)) (fun u a=>by simp at a;subst a;rfl) (by omega) (by unfold maxLen;omega) (by omega) (F.out w' H _) _ rfl ?_;intro g' s wz R D E b))
   all_goals
    have c:=adJ N.out Y.size H Q D R;have B:Below w.heap.size w wz:=((Go.below_drewN Y 1).trans (H.mono Y.size)).trans (Below.grown (af _ _|>.alloc (by have:=H.size;have:=Y.size;simp at *;omega) _) D (by have:=H.size;have:=Y.size;simp at *;omega) (fun k e=>by cases e;exact X));clear L r N M F Q H R D E Z z;go_wp2
    go_roundw
    case rel=>go_light;exact⟨i+1,_,by go_num,by omega,c,B⟩
    case measure=>go_light;simp[intOf];omega
  ·have P:i=p.size:=by omega
   have HE:Hid (qP wr w.heap.size p t u5 (p.size+1) g):=laid (by rw[<-P];exact K);clear P K;go_wp2
   go_ret
   exact⟨u5,g,rfl,HE.out,Y⟩
def letter(p t:ByteArray)(i j:Nat):UInt8:=if pJ p t i j=true then 77 else if oD p t i j=true then 73 else 68
theorem X_(p t:ByteArray)(B:Nat)(v:Value)(g:Nat->Nat)(i j:Nat)(w:World)(hp:p.size<=100)(ht:t.size<=300)(u:i<=p.size)(m:j<=t.size)(F:qP w B p t v (p.size+1) g):
  Calls Tryz.prog 147 #[v,.string p,.string t,.int .i64 (i:Int),.int .i64 (j:Int)] w fun e w'=>e=.returned (.int .u8 ((letter p t i j).toNat:Int))/\∃d,w'=w.drewN d:=by
 obtain⟨G,cap,rfl,y,r⟩:=F.get (by omega);have Q:=laid r;have O:=laid (fun i u j m=>(F.rows i u).cell j m);clear F r;by_cases U:i=0
 ·have D:Hid (letter p t i j=68):=laid (by unfold letter pJ oD;rw[U];rfl);have hd1:decide ((0:Int)<(i:Int))=false:=by simp;omega
  have Mu:¬(0:Int)<(i:Int):=by omega
  clear Q O
  go_enter aP,aQ
  go_wp2_with fail
  go_quiet(fail)
  go_wp2_with fail
  go_quiet(fail)
  rw[bh];go_wp2
  go_ret
  exact⟨by rw[D.out];rfl,_,rfl⟩
 ·obtain⟨a,R⟩:∃a,i=a+1:=⟨i-1,by omega⟩;have E:(0:Int)<(i:Int):=by omega
  have q:0<i:=by omega
  have hi3:decide (0<i)=true:=decide_eq_true q;have hi4:decide ((0:Int)<(i:Int))=true:=decide_eq_true E;have x:=Q.out i (by omega);have s:=Q.out a (by omega);have r1:=O.out i (by omega) j (by omega);have r3:=O.out a (by omega) j (by omega);have b1:(0:Int)<=(i:Int):=by omega
  have b2:(i:Int)<(p.size:Int)+1:=by omega
  have b3:(0:Int)<=(a:Int):=by omega
  have b4:(a:Int)<(p.size:Int)+1:=by omega
  have b5:(0:Int)<=(j:Int):=by omega
  have b6:(j:Int)<(t.size:Int)+1:=by omega
  have VX:ai.wrap ((i:Int)-1)=(a:Int):=by rw[show(i:Int)-1=(a:Int) by omega];exact aj _ (by omega)
  have hX:dT p t i j<=1000:=by have:=A4 p t i j;omega
  have hZ:dT p t a j<=1000:=by have:=A4 p t a j;omega
  have z1:ai.wrap ((dT p t a j:Int)+1)=(dT p t a j:Int)+1:=aj _ (by omega);have K:Hid (oD p t i j=decide (dT p t i j=dT p t a j+1)):=laid (by unfold oD;rw[R];simp);by_cases I:j=0
  ·have hd2:decide ((0:Int)<(j:Int))=false:=by simp;omega
   have S:Hid (oD p t i j=true):=laid (by rw[I];exact Rg p t i (by omega));have D:Hid (letter p t i j=73):=laid (by unfold letter;rw[S.out];unfold pJ;rw[I];simp);have M:((dT p t i j:Int)==(dT p t a j:Int)+1)=true:=by
    have o:=S.out;rw[K.out]at o;have:=of_decide_eq_true o;simp;omega
   have hj9:¬(0:Int)<(j:Int):=by omega
   have f:¬0<j:=by omega
   have hj7:decide (0<j)=false:=decide_eq_false f;clear S K R I U;generalize dT p t i j=X at *;generalize dT p t a j=Z at *
   go_enter aP,aQ
   go_wp2_with fail
   go_quiet(fail)
   go_wp2_with fail
   go_quiet(fail)
   rw[bh];go_wp2
   go_ret
   exact⟨by rw[D.out];rfl,_,rfl⟩
  ·obtain⟨b,L⟩:∃b,j=b+1:=⟨j-1,by omega⟩;have z:(0:Int)<(j:Int):=by omega
   have c:0<j:=by omega
   have hj3:decide (0<j)=true:=decide_eq_true c;have hj4:decide ((0:Int)<(j:Int))=true:=decide_eq_true z;have r2:=O.out a (by omega) b (by omega);have b7:(0:Int)<=(b:Int):=by omega
   have b8:(b:Int)<(t.size:Int)+1:=by omega
   have n:(a:Int)<(p.size:Int):=by omega
   have k:(b:Int)<(t.size:Int):=by omega
   have T:a<p.size:=by omega
   have V:b<t.size:=by omega
   have hpa:=mm p a T;have htb:=mm t b V;have rY:ai.wrap ((j:Int)-1)=(b:Int):=by rw[show(j:Int)-1=(b:Int) by omega];exact aj _ (by omega)
   have hY:dT p t a b<=1000:=by have:=A4 p t a b;omega
   have h:=S5 (at8 p a) (at8 t b)
   have H:Hid (pJ p t i j=decide (dT p t i j=dT p t a b+co (at8 p a) (at8 t b))):=laid (by unfold pJ;rw[R,L];simp[cost,co];rfl);have A:=laid (fun W:World=>P8 (at8 p a) (at8 t b) W);have y1:ai.wrap ((dT p t a b:Int)+(co (at8 p a) (at8 t b):Int))=(dT p t a b:Int)+(co (at8 p a) (at8 t b):Int):=aj _ (by omega);clear R L U I;generalize dT p t i j=X at *;generalize dT p t a j=Z at *;generalize dT p t a b=Y at *;generalize co (at8 p a) (at8 t b)=C at *;by_cases J:X=Y+C
   ·have D:Hid (letter p t i j=77):=laid (by unfold letter;rw[H.out,decide_eq_true J];rfl);have l:((X:Int)==(Y:Int)+(C:Int))=true:=by simp;omega
    clear H K J
    go_enter aP,aQ
    go_wp2_with fail
    go_quiet((go_at_call 165;refine(A.out _).mono ?_;rintro e N ⟨rfl,rfl⟩;exact⟨rfl,_,rfl⟩))
    go_wp2
    go_ret
    exact⟨by rw[D.out];rfl,_,rfl⟩
   ·have l:((X:Int)==(Y:Int)+(C:Int))=false:=by simp;omega
    by_cases P:X=Z+1
    ·have D:Hid (letter p t i j=73):=laid (by unfold letter;rw[H.out,decide_eq_false J,K.out,decide_eq_true P];rfl);have M:((X:Int)==(Z:Int)+1)=true:=by simp;omega
     clear H K J P
     go_enter aP,aQ
     go_wp2_with fail
     go_quiet((go_at_call 165;refine(A.out _).mono ?_;rintro e N ⟨rfl,rfl⟩;exact⟨rfl,_,rfl⟩))
     go_wp2_with fail
     go_quiet(fail)
     rw[bh];go_wp2
     go_ret
     exact⟨by rw[D.out];rfl,_,rfl⟩
    ·have D:Hid (letter p t i j=68):=laid (by unfold letter;rw[H.out,decide_eq_false J,K.out,decide_eq_false P];rfl);have M:((X:Int)==(Z:Int)+1)=false:=by simp;omega
     clear H K J P
     go_enter aP,aQ
     go_wp2_with fail
     go_quiet((go_at_call 165;refine(A.out _).mono ?_;rintro e N ⟨rfl,rfl⟩;exact⟨rfl,_,rfl⟩))
     go_wp2_with fail
     go_quiet(fail)
     rw[bh];go_wp2
     go_ret
     exact⟨by rw[D.out];rfl,_,rfl⟩
end
end Go.Proofs.YtdcjnhipenbcfaaGreatDoor
