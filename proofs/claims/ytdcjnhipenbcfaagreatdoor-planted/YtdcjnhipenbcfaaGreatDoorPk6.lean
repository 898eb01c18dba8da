/-
  Own text. Part 6 of what the claim rests on.
-/
import Derived.Test.YtdcjnhipenbcfaaGreatDoorPk5
import Derived.Conc.HoldsTime
import Derived.ProofKit
import Derived.OpenShut
import Derived.ShutString
import Derived.ChangeOld
import Derived.Deep.Slices
set_option linter.unusedVariables false
set_option linter.unusedSectionVars false
set_option linter.unusedSimpArgs false
set_option maxRecDepth 100000
set_option maxHeartbeats 16000000
open Array renaming getD->aY,getElem?_eq_some_iff->bL,getElem?_setIfInBounds->bX,getElem?_toList->cz,all_eq_true_iff_forall_mem->cU,getElem?_eq_none->cV,map_congr_left->cW,replicate->cX,any_eq_true'->dB,ext_getElem?->dC,getD_eq_getD_getElem?->dD,getElem?_eq_getElem->dE,getElem?_ofFn->dG,mem_of_getElem?->dH
open Bool renaming toNat_le->bD,and_eq_true->bM,not_eq_true'->dI
open ByteArray renaming size_extract->dJ
open Classical renaming byContradiction->cA
open Go renaming Value->ae,World->af,maxLen->az,Calls->aH,FuncId->aI,TypeId->aV,Frame->bE,Operand->bH,execOp->bI,run_store->bW,DataW->bY,cell_of_row->cy,MemPlace->cO,typeInfo->cT,storeCells->dA,heap_alloc_new->et
open Go.Act renaming eval->bp
open Go.DataW renaming Trod->bN,trod_int->bO,trod->cB,trod_struct->dK
open Go.Ending renaming returned->dL
open Go.Instr renaming loadAt->cC,storeAt->cY
open Go.IntKind renaming i64->ak
open Go.IntWalk renaming i64_in->aQ
open Go.Lib renaming tabData->cD,join->cZ
open Go.Lib.laidMet renaming reads->c7
open Go.OpenSpec renaming ofChange->dt
open Go.Proofs.Tryz renaming prog->ai,f7->bc,underlying3->bC,func60->bR,f25->cx,f16->cQ,f39->cR,func25->cS,func16->du,func7->dx,underlying25->dy,underlying26->dz,ntmps20->ei,underlying28->ej,underlying5->ek
open Go.Proofs.YtdcjnhipenbcfaaGreatDoor.Ph.GW renaming im->ah,cond->aJ,piece->aM,ld->aW,al->bZ
open Go.Proofs.YtdcjnhipenbcfaaGreatDoor.Ph.gL renaming pure->aP,xR->bK
open Go.Proofs.YtdcjnhipenbcfaaGreatDoor.Ph.iW renaming iz->aX
open Go.Region renaming ready->aL,binds->bj
open Go.Region.linearise renaming go->cw
open Go.Value renaming okWide->bm,cells->bT,int->bU
open Go.World renaming cell?->ar,frozen?->bV
open Int renaming natCast_add->dM,tdiv_eq_ediv_of_nonneg->dO
open List renaming getD_eq_getElem?_getD->aj,getElem?_eq_getElem->au,getElem?_map->ax,mem_append->aK,mem_map->aN,append_assoc->aT,length_append->aU,append_nil->aZ,replicate->a_,mem_cons->bg,all_eq_true->bq,getElem?_append_left->br,getElem_mem->bt,mem_of_getElem?->bu,mem_singleton->bA,length_map->bF,map_append->bG,mem_of_mem_take->bP,range->bQ,foldl_append->b_,getElem?_append_right->cf,getElem?_range->cg,length_cons->cj,length_nil->ck,not_mem_nil->cm,eq_nil_or_concat->cE,foldl_cons->cG,getElem?_eq_none->cH,length_pos_iff->cI,length_singleton->cJ,mem_of_mem_drop->cK,mem_range->cL,nil_append->cM,concat_eq_append->c9,cons_append->c_,drop_of_length_le->da,foldl_nil->db,getElem?_cons_succ->dc,getElem?_eq_some_iff->de,map_map->dh,mem_cons_of_mem->di,range_succ->dj,replicate_succ'->dk,take_length->dp,countP_le_length->dP,drop_eq_getElem_cons->dQ,ext_getElem?->dR,getD_cons_zero->dU,getElem?_take_of_lt->dV,length_eq_zero_iff->dW,length_take->dX,map_congr_left->dY,map_cons->dZ,mem_append_left->d_,mem_filter->ec,mem_reverse->ed,take_add_one->ef,take_of_length_le->eg
open Nat renaming le_refl->ao,le_trans->aO,zero_le->bh,add_assoc->cn,lt_of_lt_of_le->cu,zero_add->cv,strongRecOn->cP,sub_zero->dq,div_le_self->eh
open Option renaming getD_some->ay,map_some->bB
open UInt8 renaming ofNat->bk,toNat_inj->eo,toNat_ofNat'->ep
namespace Go.Proofs.YtdcjnhipenbcfaaGreatDoor
noncomputable section
variable {ad:Addr}{listed:Array Bool}{args:Array ae}{main:Bool}{S X XN ref xb:ByteArray}{fn:aI}{cs:List bE}{site:List Item}{Bs:List Nat}{Ud mk rn x x1 x2 xn:List UInt8}{xs:List ae}{id j qq:Nat}{u:Nat->ae}{t' ty:aV}{z1:ae}{v' v0 w w0:af}
section
inductive Rc where
 |hit (p:Pl)
 |no (rn rb rm:ByteArray)
def Rc.val:Rc->ae
 |.hit p=>qR p
 |.no rn rb rm=>zt rn rb rm
def Rc.text(xn:ByteArray):Rc->Bool->List UInt8
 |.hit p,first=>nk [p.rn,str (gV (vj p.fl first)),xn,str (gV (p.st+1)),p.lt,str (gV p.er),p.df,p.rb,p.rm]++[10]
 |.no rn rb rm,_=>nk [rn,str (gV 4),str [42],str [48],str [42],str [45],str [45],rb,rm]++[10]
def Bv:Rc:=.no ⟨#[]⟩ ⟨#[]⟩ ⟨#[]⟩
def oI(X P rn rm:ByteArray)(fl:Bool)(k:Nat):List Rc:=(jx P X k).map fun e=>.hit (pA X P rn rm fl (fun e=>(iy P X k e).2) (fun e=>(iy P X k e).1) e)
def qf(X P rn rm:ByteArray)(k:Nat):=if jx P X k=[]/\jx (iP P 0) X k=[]then [.no rn P rm]else oI X P rn rm false k++oI X (iP P 0) rn (str (ky rm)) true k
def j7(xn:ByteArray)(n:Nat)(L:List Rc)
 |0=>[]
 |i+1=>j7 xn n L i++(L.getD i Bv).text xn (decide (n+i=0))
theorem QC(xn:ByteArray)(n:Nat)(Y U:List Rc):∀i,i<=Y.length->j7 xn n (Y++U) i=j7 xn n Y i
 |0,_=>rfl
 |i+1,h=>by
  rw[j7,j7,QC xn n Y U i (by omega)];rw[aj,aj,br (by omega)]
theorem Ry(xn:ByteArray)(n:Nat)(Y U:List Rc):∀i,j7 xn n (Y++U) (Y.length+i)=j7 xn n Y Y.length++j7 xn (n+Y.length) U i
 |0=>by rw[Nat.add_zero,QC xn n Y U _ (ao _)];simp[j7]
 |i+1=>by
  rw[<-cn,j7,j7,Ry xn n Y U i,aT];congr 3
  ·rw[aj,aj,cf (by omega)];simp_all
  ·congr 1;simp only[eq_iff_iff];omega
theorem OH(p t:ByteArray)(k:Nat):∀n,lQ p t k n=(qe p t k n).map fun e=>((iy p t k e).2,e,(iy p t k e).1)
 |0=>by simp[lQ,qe]
 |n+1=>by
  have Y:=OH p t k n;unfold qe at *;rw[lQ];split
  ·rw[bG,bG,<-Y];rfl
  ·omega
theorem G9(p t:ByteArray)(k:Nat):iL p t k=(jx p t k).map fun e=>((iy p t k e).2,e,(iy p t k e).1):=OH p t k _
theorem Ue(a b c d e f g h i:List _):cZ [a,b,c,d,e,f,g,h,i] [9]=a++[9]++b++[9]++c++[9]++d++[9]++e++[9]++f++[9]++g++[9]++h++[9]++i:=by
 unfold cZ;simp
theorem Kk(l:List _):(str l).data.toList=l:=by unfold str;simp
theorem adN(xn X P rn rm:ByteArray)(fl first:Bool)(k e n:Nat)(hn:vj fl first=n):
  Rc.text xn (.hit (pA X P rn rm fl (fun e=>(iy P X k e).2) (fun e=>(iy P X k e).1) e)) first=xi xn X rn P rm n ((iy P X k e).2,e,(iy P X k e).1):=by
 subst hn;unfold Rc.text pA xi zE nk;simp;rw[Ue];simp[Kk]
theorem afJ(xn rn rb rm:ByteArray)(first:Bool):Rc.text xn (.no rn rb rm) first=xB (rn,rb,rm):=by
 unfold Rc.text xB nk;simp;rw[Ue];simp[Kk];have:gV 4=[52]:=by decide+kernel
 simp_all
theorem GA(xn X P rn rm:ByteArray)(fl:Bool)(k n:Nat):∀i,i<=(jx P X k).length->j7 xn n (oI X P rn rm fl k) i=ql xn X rn P rm (if fl then 16 else 0) (decide (0<n)) (iL P X k) i
 |0,_=>rfl
 |i+1,h=>by
  rw[j7,ql,GA xn X P rn rm fl k n i (by omega)];congr 1;rw[G9];unfold oI;rw[aj,aj,ax,ax,au (by omega)];simp only[bB,ay];refine adN xn X P rn rm fl _ k _ _ ?_;unfold vj qc;by_cases Y:n+i=0
  ·have h1:¬(decide (0<n)=true\/0<i):=by simp;omega
   rw[if_neg h1,decide_eq_true Y];cases fl<;>rfl
  ·have h1:decide (0<n)=true\/0<i:=by simp;omega
   rw[if_pos h1,decide_eq_false Y];cases fl<;>rfl
theorem Rz(xn xb rn p mk:ByteArray)(add:Nat)(more:Bool)(L:List _)(i:Nat)(h:0<i):ql xn xb rn p mk add more L i≠ []:=by
 cases i with
 |zero=>omega
 |succ i=>
  rw[ql];intro e;have:=congrArg List.length e;unfold xi zE at this;simp_all
theorem abO(xn X P rn rm:ByteArray)(k:Nat):j7 xn 0 (qf X P rn rm k) (qf X P rn rm k).length=pT xn X k (rn,P,rm):=by
 have l1:(iL P X k).length=(jx P X k).length:=by rw[G9];simp
 have l2:(iL (iP P 0) X k).length=(jx (iP P 0) X k).length:=by rw[G9];simp
 have D:qd xn X k (rn,P,rm)=j7 xn 0 (oI X P rn rm false k) (jx P X k).length:=by
  rw[GA xn X P rn rm _ k 0 _ (ao _)];unfold qd se;simp_all
 have H:qd xn X k (rn,P,rm)=[]↔jx P X k=[]:=by
  constructor
  ·intro h;apply cA;intro K;unfold qd se at h;rw[l1]at h;exact Rz _ _ _ _ _ _ _ _ _ (cI.2 K) h
  ·intro h;rw[D,h];rfl
 have R:rE xn X k (rn,P,rm)=j7 xn (jx P X k).length (oI X (iP P 0) rn (str (ky rm)) true k) (jx (iP P 0) X k).length:=by
  rw[GA xn X _ rn _ _ k _ _ (ao _)];unfold rE se;rw[l2];have:decide (qd xn X k (rn,P,rm)≠ [])=decide (0<(jx P X k).length):=by
   rw[decide_eq_decide,cI];simp_all
  simp_all
 have Y:rE xn X k (rn,P,rm)=[]↔jx (iP P 0) X k=[]:=by
  constructor
  ·intro h;apply cA;intro K;unfold rE se at h;rw[l2]at h;exact Rz _ _ _ _ _ _ _ _ _ (cI.2 K) h
  ·intro h;rw[R,h];rfl
 unfold pT;by_cases h:jx P X k=[]/\jx (iP P 0) X k=[]
 ·rw[if_pos ⟨H.2 h.1,Y.2 h.2⟩,Y.2 h.2,aZ];have:qf X P rn rm k=[.no rn P rm]:=by unfold qf;simp_all
  rw[this];show j7 xn 0 _ 1=_
  rw[j7,j7,cM];exact afJ xn rn P rm _
 ·rw[if_neg (fun e=>h ⟨H.1 e.1,Y.1 e.2⟩)];have:qf X P rn rm k=oI X P rn rm false k++oI X (iP P 0) rn (str (ky rm)) true k:=by unfold qf;simp_all
  rw[this,aU,Ry,D,R,cv];have I:(oI X P rn rm false k).length=(jx P X k).length:=by unfold oI;simp
  have A:(oI X (iP P 0) rn (str (ky rm)) true k).length=(jx (iP P 0) X k).length:=by unfold oI;simp
  rw[I,A]
theorem Py(xn X:ByteArray):nk [⟨#[64]⟩++xn,str (gV X.size)]++[10]=rq xn X:=by
 unfold nk rq cZ;simp[Kk]
end
namespace Ph
open Conc Ren RowKit
def cp:List Nat->Code->Code
 |1::p,.seq a _|1::p,.block _ a|1::p,.loop a|1::p,.cond _ a _|2::p,.seq _ a|2::p,.cond _ _ a=>cp p a
 |_,c=>c
def opsOf:Code->Array Oper
 |.region _ o _=>o
 |_=>#[]
section
variable{tb:Bool}{Q:QT}{R:ae->af->Prop}{v:af}{fn:aI}{k:List Item}{a:Array ae}
theorem GW.any(f:(Nat->ae)->Array ae)(h:a=f fun i=>a.getD i undef)(g:∀u,GW tb Q R fn k (f u) v):GW tb Q R fn k a v:=by
 rw[h];exact g _
end
theorem ahE{B:Nat}{acc:List UInt8}{v:af}(h:ij B acc v)(k:Kw v v'):ij B acc v':=by
 have hb:Below _ v {v' with os:=v.os,tape:=v.tape,output:=v.output}:=⟨rfl,rfl,rfl,k.size,k⟩;have h2:=h.below hb;exact h2
noncomputable def rX:Code:=Tryz.f60.body.getD .skip
def tB:Code:=cp [2,2,2,1,2,1,1] rX
def tI:Code:=cp [2,2,1,1,2,2,1,1] tB
def tE:Code:=cp [2,2,2,2] rX
def kB:List Item:=[.inLoop tB,.inBlock 0,.code tE]
def kI:List Item:=.inBlock 1:: .code (cp [2,2,2] tB)::kB
def Rc.ok:Rc->Prop
 |.hit p=>p.rn.size<=1000/\p.rb.size<=1000/\p.rm.size<=1000/\p.lt.size<=10000/\p.df.size<=10000/\p.st<=1000/\p.er<=1000
 |.no rn rb rm=>rn.size<=1000/\rb.size<=1000/\rm.size<=1000
theorem abP(B:Nat)(acc:List UInt8)(XN:ByteArray)(x:Rc)(first:Bool)(v:af)(hx:Rc.ok x)(U:XN.size<=1000)(hb:ij B acc v)(F:acc.length<=500000000)(M:iN v):
  aH PR 93 #[ptr B,.string XN,x.val,.bool first] v fun e v'=>∃y,e=.returned y/\ij B (acc++x.text XN first) v'/\(∀g,g<B->v'.heap[g]?=v.heap[g]?)/\Go.Proofs.YtdcjnhipenbcfaaGreatDoor.Kp B v v':=by
 cases x with
 |hit p=>
  obtain⟨h1,h2,Y,H,D,R,I⟩:=hx;refine(Ws B acc XN p _ v hb U h1 h2 Y H D R I F M).mono fun e v' h=>⟨_,h.1,?_,fun g K=>h.2.2.1.block g K,h.2.2.2⟩;have:=h.2.1;rw[aT]at this;exact this
 |no rn rb rm=>
  obtain⟨h1,h2,Y⟩:=hx;refine(Wq B acc XN rn rb rm _ v hb h1 h2 Y F M).mono fun e v' h=>⟨_,h.1,?_,fun g K=>h.2.2.1.block g K,h.2.2.2⟩;have:=h.2.1;rw[aT]at this;exact this
theorem ahF:kE PR (isAgg 136)=some false:=by kernel_rfl
theorem ahG:PR.underlying 133=some (.slice (PR.elem 133)):=by kernel_rfl
theorem afK:(PR.info? (PR.elem 133)).map (·.size)=some 1:=by kernel_rfl
def td(XN X:ByteArray)(k q st n b4 b6 b9:Nat)(sl:ae)(len:Nat)(i y z j:ae)(u:Nat->ae):Array Value:=
 #[pB XN X,sl,jS k q st,iv n,ptr b4,u 5,ptr b6,u 7,.string ⟨#[]⟩,ptr b9,u 10,u 11,u 12,u 13,u 14,u 15,u 16,u 17,u 18,u 19,u 20,u 21,u 22,sl,iv len,i,u 26,u 27,u 28,u 29,u 30,u 31,u 32,y,z,j,u 36,u 37,u 38,u 39,u 40,u 41,u 42,u 43,u 44,u 45,u 46,u 47,u 48]
structure TV(v0:af)(XN X:ByteArray)(k q st b4 b6 b9:Nat)(acc:List UInt8)(v:af):Prop where
 c4:v.heap[b4]?=some (.cells #[.string XN,.string X] 68)
 c6:v.heap[b6]?=some (.cells #[iv k,iv q,iv st] 75)
 Ce:ij b9 acc v
 old:Kw v0 v
 l4:b4<b9
 l6:b6<b9
 l0:v0.heap.size<=b9
theorem TV.on{v:af}{k q st b4 b6 b9:Nat}{acc:List UInt8}(h:TV v0 XN X k q st b4 b6 b9 acc v)(Y:Kw v v'):TV v0 XN X k q st b4 b6 b9 acc v':=⟨Y.at h.c4,Y.at h.c6,ahE h.Ce Y,h.old.trans Y,h.l4,h.l6,h.l0⟩
theorem TV.wrote{v:af}{k q st b4 b6 b9:Nat}{acc:List UInt8}(h:TV v0 XN X k q st b4 b6 b9 acc v)(hb:ij b9 Ud v')(Y:∀g,g<b9->v'.heap[g]?=v.heap[g]?):TV v0 XN X k q st b4 b6 b9 Ud v':=
 ⟨(Y _ h.l4).trans h.c4,(Y _ h.l6).trans h.c6,hb,fun a K=>(Y a (cu K h.l0)).trans (h.old a K),h.l4,h.l6,h.l0⟩
section
variable{Q:QT}{R:ae->af->Prop}{v0:af}{XN X:ByteArray}{k q st n b4 b6 b9 len:Nat}{sl i:ae}{acc:List UInt8}{L:List Rc}{b:Option Addr}{cq:Nat}
theorem afL(Mx:XN.size<=1000)(y:lb v0)(hT:iN v0)(hL:∀x∈L,Rc.ok x)(hn:L.length<=100000)(M:∀j,j<=L.length->(acc++j7 XN 0 L j).length<=500000000)
  (kk:∀j u v,TV v0 XN X k q st b4 b6 b9 (acc++j7 XN 0 L L.length) v->GW false Q R 60 kI (td XN X k q st n b4 b6 b9 sl len i (.slice b L.length cq) (iv L.length) j u) v):
  ∀m j,j+m=L.length->∀u v,TV v0 XN X k q st b4 b6 b9 (acc++j7 XN 0 L j) v->v.ownsRow b9 136 1 (.slice b L.length cq) L.length (L.map Rc.val)->(∀g,(Value.slice b L.length cq).ownBlock=some g->b9<g)->
   GW false Q R 60 (.code tI:: .inLoop tI:: .inBlock 2::kI) (td XN X k q st n b4 b6 b9 sl len i (.slice b L.length cq) (iv L.length) (iv j) u) v:=by
 have Y:∃F,PR.funcs[60]?=some F:=⟨_,bR⟩;intro m;induction m with
 |zero=>
  intro j hj u v A H Z;obtain rfl:j=L.length:=by omega
  refine GW.run 2 (k':=.inRegion (opsOf (cp [1] tI)) [0]:: .code (cp [2] tI):: .inLoop tI:: .inBlock 2::kI) ?_;refine ah Y [0] ?_;refine GW.run 2 (k':=.code (.cond (.tmp 36) .skip (.exit 2)):: .code (cp [2,2] tI):: .inLoop tI:: .inBlock 2::kI) ?_;refine aJ Y (t:=decide ((L.length:Int)<(L.length:Int))) trivial (by kernel_rfl) ?_;rw[show decide ((L.length:Int)<(L.length:Int))=false from decide_eq_false (by omega)];refine GW.run 1 (k':=kI) ?_;exact GW.any (fun u=>td XN X k q st n b4 b6 b9 sl len i (.slice b L.length cq) (iv L.length) (iv L.length) u) (by kernel_rfl) fun f=>kk _ f v A
 |succ m ih=>
  intro j hj u v A H Z;have I:j<L.length:=by omega
  obtain⟨g,K,hb,D,w,z⟩:∃g K,b=some ⟨g,0,none⟩/\v.heap[g]?=some (.cells K 136 (0,0))/\K.size=cq *1/\K.toList.take (L.length *1)=L.map Rc.val:=by
   rcases H.2 with⟨_,h⟩|⟨g,cap,K,A,_,r,h4,h5,s,a⟩
   ·omega
   ·cases A;exact⟨g,K,rfl,r,s,a⟩
  subst hb;have hgb:b9<g:=Z g rfl;have V:K[0+j *1]?=some (L.getD j Bv).val:=by
   have p:(K.toList.take (L.length *1))[j]?=K.toList[j]?:=by rw[List.getElem?_take,if_pos (by omega)]
   rw[z,ax,au I]at p;rw[show 0+j *1=j by omega,<-cz,<-p,aj,au I];rfl
  have J:L.getD j Bv∈L:=by rw[aj,au I];exact bt _
  have c:acc++j7 XN 0 L (j+1)=(acc++j7 XN 0 L j)++(L.getD j Bv).text XN (decide ((j:Int)=0)):=by
   rw[j7,<-aT];congr 2;rw[decide_eq_decide];omega
  have G:=M j (by omega);generalize L.getD j Bv=e at *;refine GW.run 2 (k':=.inRegion (opsOf (cp [1] tI)) [0]:: .code (cp [2] tI):: .inLoop tI:: .inBlock 2::kI) ?_;refine ah Y [0] ?_;refine GW.run 2 (k':=.code (.cond (.tmp 36) .skip (.exit 2)):: .code (cp [2,2] tI):: .inLoop tI:: .inBlock 2::kI) ?_;refine aJ Y (t:=decide ((j:Int)<(L.length:Int))) trivial (by kernel_rfl) ?_;rw[show decide ((j:Int)<(L.length:Int))=true from decide_eq_true (by omega)];refine GW.run 5 (k':=.inRegion (opsOf (cp [2,2,1,1,1] tI)) [0,1,2,3,4]:: .code (cp [2,2,1,1,2] tI):: .inBlock 3:: .code (cp [2,2,2] tI):: .inLoop tI:: .inBlock 2::kI) ?_;refine ah Y [0] ?_;refine GW.ix Y (B:=g) (off:=0) (cap:=cq) I ahG afK ?_;refine aW Y (mO (0+j *1) ahF D V) ?_;refine ah Y [3,4] ?_;refine GW.run 2 (k':=.inRegion (opsOf (cp [2,2,1,1,2] tI)) [0,1,2,3,4,5]:: .inBlock 3:: .code (cp [2,2,2] tI):: .inLoop tI:: .inBlock 2::kI) ?_;refine ah Y [0] ?_;refine aW Y (mO 0 xS A.c4 rfl) ?_;refine ah Y [2,3,4] ?_;refine GW.call Y (aX (R:=fun _ v'=>ij b9 (acc++j7 XN 0 L j++e.text XN (decide ((j:Int)=0))) v'/\(∀g,g<b9->v'.heap[g]?=v.heap[g]?)/\Go.Proofs.YtdcjnhipenbcfaaGreatDoor.Kp b9 v v') (by decide) fun T=>abP b9 (acc++j7 XN 0 L j) XN e (decide ((j:Int)=0)) (tp v T) (hL _ J) Mx A.Ce G (A.old.rF y hT)) ?_;rintro x v' ⟨C,E,W⟩;rw[<-c]at C;refine GW.run 3 (k':=.inRegion (opsOf (cp [2,2,2] tI)) [0,1]:: .inLoop tI:: .inBlock 2::kI) ?_;refine ah Y [0,1] ?_;refine GW.run 2 (k':=.code tI:: .inLoop tI:: .inBlock 2::kI) ?_;refine GW.any (fun u=>td XN X k q st n b4 b6 b9 sl len i (.slice (some ⟨g,0,none⟩) L.length cq) (iv L.length) (.int .i64 (ak.wrap ((j:Int)+1))) u) (by kernel_rfl) fun f=>?_;rw[AP (by omega)];refine ih (j+1) (by omega) f v' (A.wrote C E) ⟨H.1,.inr ⟨g,cq,K,rfl,by omega,W g K 136 (0,0) (by omega) (by decide) D,?_⟩⟩ Z;rcases H.2 with⟨h,_⟩|⟨g',l,o,d,_,U,N,O,P,S⟩
  ·cases h
  ·cases d;rw[D]at U;cases U;exact⟨N,O,P,S⟩
end
section
variable{tb:Bool}{Q:QT}{R:ae->af->Prop}{v:af}{fn:aI}{k:List Item}{a:Array ae}{ops:Array Oper}{i:Nat}{is:List Nat}
theorem afM:(PR.info? 131).map (·.size)=some 3:=by kernel_rfl
theorem GW.sk(Y:∃F,PR.funcs[fn]?=some F){v1:af}{s:Sem Unit}(h:mU ops i a=some (Bu s))(hr:s.run PR v=.ok () v1)(hd:v1.drawn=v.drawn)(g:GW tb Q R fn (.inRegion ops is::k) (lh (ki ops i) undef a) v1):GW tb Q R fn (.inRegion ops (i::is)::k) a v:=
 GW.ex Y h (by simp[Bu,hr]) (.inr ⟨rfl,rfl⟩) hd g
theorem GW.V8(U:∃F,PR.funcs[fn]?=some F){t:aV}(hz:(PR.info? t).map (·.size)=some 3){B:Nat}{x y z:ae}{z0 z2:ae}(Y:v.heap[B]?=some (.cells #[z0,z1,z2] t'))
  (g:∀v1,v1.heap[B]?=some (.cells #[x,y,z] t')->(∀b,b≠B->v1.heap[b]?=v.heap[b]?)->v1.heap.size=v.heap.size->GW tb Q R fn (.inRegion ops is::k) (lh (ki ops i) undef a) v1)(h:mU ops i a=some (Bu (cY t (ptr B) (.agg #[x,y,z]))):=by kernel_rfl)(M:x.oneCell'=true:=by rfl)(O:y.oneCell'=true:=by rfl)(T:z.oneCell'=true:=by rfl):GW tb Q R fn (.inRegion ops (i::is)::k) a v:=by
 obtain⟨A,H,D⟩:=xr hz;have r0:=ra (i:=0) (v:=x) Y;have r1:=ra (i:=1) (v:=y) r0;have I:v.cell? ⟨B,0,none⟩=some z0:=by simp[ar,Y]
 have f0:v.frozen? ⟨B,0,none⟩=false:=by simp[bV,Y]
 have h1:(v.setCell ⟨B,0,none⟩ x).cell? ⟨B,1,none⟩=some z1:=by simp[ar,r0]
 have f1:(v.setCell ⟨B,0,none⟩ x).frozen? ⟨B,1,none⟩=false:=by simp[bV,r0]
 have h2:((v.setCell ⟨B,0,none⟩ x).setCell ⟨B,1,none⟩ y).cell? ⟨B,2,none⟩=some z2:=by simp[ar,r1]
 have f2:((v.setCell ⟨B,0,none⟩ x).setCell ⟨B,1,none⟩ y).frozen? ⟨B,2,none⟩=false:=by simp[bV,r1]
 have K:=akW (a:=x) (b:=y) (c:=z) v Y;refine GW.sk (v1:=EN B x y z v) U h ?_ rfl (g _ K.2 (fun b hb=>K.1.heap b hb) K.1.size);simp[go_sem,sizeOf,cT,H,D,bW PR _ _ x _ M,bW PR _ _ y _ O,bW PR _ _ z _ T,I,f0,h1,f1,h2,f2,ptr,EN]
end
theorem afN:(PR.info? 131).map (·.zero)=some (some (.agg #[.string ⟨#[]⟩,.string ⟨#[]⟩,.string ⟨#[]⟩])):=by kernel_rfl
theorem ajE:PR.underlying 90=some (.slice (PR.elem 90)):=by kernel_rfl
theorem ahH:(PR.info? (PR.elem 90)).map (·.size)=some 3:=by kernel_rfl
theorem afO{v:af}{b o:Nat}{x y z:ae}(c0:v.cell? ⟨b,o,none⟩=some x)(c1:v.cell? ⟨b,o+1,none⟩=some y)(c2:v.cell? ⟨b,o+2,none⟩=some z):(cC 131 (qY b o)).run PR v=.ok (.agg #[x,y,z]) v:=by
 simp[qY,go_sem,c0,c1,c2]
theorem adO(X P rn rm:ByteArray)(k:Nat):qS X P rn rm k=(qf X P rn rm k).map Rc.val:=by
 unfold qS qf;split
 ·rfl
 ·rw[bG];unfold nb oI;rw[dh,dh];rfl
theorem Pz(X P rn rm:ByteArray)(fl:Bool)(k:Nat)(hX:X.size<=200)(hP:P.size<=30)(hk:k<=6)(h1:rn.size<=1000)(h2:rm.size<=1000):∀x∈oI X P rn rm fl k,Rc.ok x:=by
 intro x hx;obtain⟨e,K,rfl⟩:=aN.1 hx;obtain⟨a1,a2,a3,a4,a5⟩:=NY P X k e K;have I:(X.extract (iy P X k e).2 e).size<=200:=by rw[dJ];omega
 have H:=AM P (X.extract (iy P X k e).2 e);have R:(str _).size=(iu P (X.extract (iy P X k e).2 e)).length:=ia _;have D:=Hu (str (iu P (X.extract (iy P X k e).2 e))) (by omega);have Y:=Qo P (X.extract (iy P X k e).2 e) (str (iu P (X.extract (iy P X k e).2 e))) (by omega);refine⟨h1,(show P.size<=1000 by omega),h2,?_,?_,(show(iy P X k e).2<=1000 by omega),(show(iy P X k e).1<=1000 by omega)⟩
 ·show(str (nG (str (iu P (X.extract (iy P X k e).2 e))))).size<=10000
  rw[ia];omega
 ·show(str (pz P (X.extract (iy P X k e).2 e) (str (iu P (X.extract (iy P X k e).2 e))))).size<=10000
  rw[ia];omega
theorem afP(X P rn rm:ByteArray)(k:Nat)(hX:X.size<=200)(hP:P.size<=30)(hk:k<=6)(h1:rn.size<=1000)(h2:rm.size<=1000):∀x∈qf X P rn rm k,Rc.ok x:=by
 intro x hx;unfold qf at hx;split at hx
 ·simp at hx;subst hx;exact⟨h1,(show P.size<=1000 by omega),h2⟩
 ·rcases aK.1 hx with hx|hx
  ·exact Pz X P rn rm _ k hX hP hk h1 h2 x hx
  ·exact Pz X _ rn _ _ k hX (by have:=Cy P 0;omega) hk h1 (by rw[Pe];exact h2) x hx
theorem adP(X P rn rm:ByteArray)(k:Nat)(hX:X.size<=200):(qf X P rn rm k).length<=402:=by
 have Y:=AK P X k;have K:=AK (iP P 0) X k;unfold qf oI;split
 ·simp
 ·simp;omega
theorem QD(xn:ByteArray)(n:Nat)(L:List Rc):∀j d,(j7 xn n L j).length<=(j7 xn n L (j+d)).length
 |j,0=>ao _
 |j,d+1=>by
  have:=QD xn n L j d;rw[<-cn,j7,aU];omega
theorem Z3(s:ByteArray):(iP s 0).size=s.size:=by
 unfold iP;rw[ia];simp
section
variable{Q:QT}{R:ae->af->Prop}{v0:af}{XN X:ByteArray}{k q st n b4 b6 b9 cap:Nat}{a:Option Addr}{I:List mM}
theorem adQ(hX:X.size<=200)(M:XN.size<=1000)(hk:k<=6)(hq:1<=q)(sW:q<=8)(hs:1<=st)(Ac:st<=200)(hn:1<=n)(My:n<=8)(hR:∀r∈I,(r.1.size<=10/\r.2.1.size<=30/\r.2.2.size<=30)/\k<r.2.1.size)(hRL:I.length<=5)(U:lb v0)(hT:iN v0)
  (rows:v0.ownsRow 0 131 3 (.slice a I.length cap) I.length (lU I))
  (kk:∀y z j u v,TV v0 XN X k q st b4 b6 b9 (nT XN X k I I.length) v->GW false Q R 60 [.code tE] (td XN X k q st n b4 b6 b9 (.slice a I.length cap) I.length (iv I.length) y z j u) v):
  ∀m i,i+m=I.length->∀y z j u v,TV v0 XN X k q st b4 b6 b9 (nT XN X k I i) v->GW false Q R 60 (.code tB::kB) (td XN X k q st n b4 b6 b9 (.slice a I.length cap) I.length (iv i) y z j u) v:=by
 have Y:∃F,PR.funcs[60]?=some F:=⟨_,bR⟩;intro m;induction m with
 |zero=>
  intro i w y z j u v A;obtain rfl:i=I.length:=by omega
  refine GW.run 2 (k':=.inRegion (opsOf (cp [1] tB)) [0]:: .code (cp [2] tB)::kB) ?_;refine ah Y [0] ?_;refine GW.run 2 (k':=.code (.cond (.tmp 26) .skip (.exit 0)):: .code (cp [2,2] tB)::kB) ?_;refine aJ Y (t:=decide ((I.length:Int)<(I.length:Int))) trivial (by kernel_rfl) ?_;rw[decide_eq_false (by omega)];refine GW.run 1 (k':=[.code tE]) ?_;exact GW.any (fun u=>td XN X k q st n b4 b6 b9 _ I.length (iv I.length) y z j u) (by kernel_rfl) fun c=>kk _ _ _ c v A
 |succ m ih=>
  intro i w y z j u v A;have N:i<I.length:=by omega
  obtain⟨g,rfl⟩:∃g,a=some ⟨g,0,none⟩:=by
   rcases rows.2 with⟨_,h⟩|⟨g,cap,V,A,_⟩
   ·omega
   ·cases A;exact⟨g,rfl⟩
  obtain⟨rn,P,rm,J⟩:∃rn P rm,I[i]?=some (rn,P,rm):=⟨I[i].1,I[i].2.1,I[i].2.2,au N⟩;have C:I.getD i (⟨#[]⟩,⟨#[]⟩,⟨#[]⟩)=(rn,P,rm):=by simp_all
  obtain⟨⟨s1,T,o⟩,W⟩:=hR _ (bu J);simp only at s1 T o W;obtain⟨f1,f2,p⟩:=Qt I i _ J;have lg:=(rows.lt g rfl).2;have cells:∀j x,(lU I)[j]?=some x->v.cell? ⟨g,j,none⟩=some x:=fun j x l=>by
   have:=rows.cells (g:=g) rfl j x l;rw[yG]at this;rw[<-this];simp only[ar,A.old g lg]
  refine GW.run 2 (k':=.inRegion (opsOf (cp [1] tB)) [0]:: .code (cp [2] tB)::kB) ?_;refine ah Y [0] ?_;refine GW.run 2 (k':=.code (.cond (.tmp 26) .skip (.exit 0)):: .code (cp [2,2] tB)::kB) ?_;refine aJ Y (t:=decide ((i:Int)<(I.length:Int))) trivial (by kernel_rfl) ?_;rw[decide_eq_true (by omega)];refine GW.run 5 (k':=.inRegion (opsOf (cp [2,2,1,1,1] tB)) [0,1,2,3]:: .code (cp [2,2,1,1,2] tB)::kI) ?_;refine GW.ix Y (B:=g) (off:=0) (cap:=cap) N ajE ahH ?_;refine aW Y (y:=qY g (0+i *3)) (afO (by rw[cv];exact cells _ _ f1) (by rw[cv];exact cells _ _ f2) (by rw[cv];exact cells _ _ p)) ?_;refine bZ Y afN fun v1 _ k1 l1 c1=>?_;refine GW.V8 Y afM (x:=.string rn) (y:=.string P) (z:=.string rm) c1 fun v2 c2 k2 l2=>?_;have K2:Kw v v2:=fun b hb=>(k2 b (by omega)).trans (k1 b hb);have D:=A.on K2;refine GW.run 3 (k':=.inRegion (opsOf (cp [2,2,1,1,2,1] tB)) [0,1,2,3,4,5,6]:: .code (cp [2,2,1,1,2,2] tB)::kI) ?_;refine aW Y (Es D.c4) ?_;refine aW Y (Jn c2) ?_;refine aW Y (Bm D.c6) ?_;refine ah Y [3] ?_;refine GW.call Y (abN (XN:=XN) (rn:=rn) (rm:=rm) hX T (by omega) hk W (by rw[Z3];exact W) hq sW hs Ac hn My (D.old.ns U) (D.old.rF U hT)) ?_;rintro x v3 ⟨K,k3⟩;have E:=D.on k3;rw[adO,bF]at K;obtain⟨L,S⟩:∃L,L=qf X P rn rm k:=⟨_,rfl⟩;rw[<-S]at K;obtain⟨b,O,rfl⟩:∃b O,x=.slice b L.length O:=by
   rcases K.2 with⟨hy,h0⟩|⟨f,d,V,A,_⟩
   ·simp_all
   ·exact⟨_,_,A⟩
  have s:L.length<=402:=by rw[S];exact adP X P rn rm k hX
  have H:j7 XN 0 L L.length=pT XN X k (rn,P,rm):=by rw[S];exact abO XN X P rn rm k
  have Z:=fun r hr=>(hR r hr).1;have l9:=A.Ce.lt;refine ah Y [5,6] ?_;refine GW.run 3 (k':=.code tI:: .inLoop tI:: .inBlock 2::kI) ?_;refine GW.any (fun u=>td XN X k q st n b4 b6 b9 (.slice (some ⟨g,0,none⟩) I.length cap) I.length (iv i) (.slice b L.length O) (iv L.length) (iv 0) u) (by kernel_rfl) fun c=>?_;refine afL (L:=L) M U hT (by rw[S];exact afP X P rn rm k hX T hk (by omega) (by omega)) (by omega) (fun j l=>?_) (fun j' u2 v4 G=>?_) L.length 0 (by omega) c v3 (by rw[j7,aZ];exact E) (yK K (by omega)) (fun f e=>by have:=(K.lt f e).1;omega)
  ·have m1:=QD XN 0 L j (L.length-j);rw[show j+(L.length-j)=L.length by omega,H]at m1;have m2:=Gy XN X k (rn,P,rm) M (by omega) ⟨s1,T,o⟩ (by omega);have m3:=Hv XN X k I M (by omega) Z (by omega) i (by omega);rw[aU];omega
  ·refine GW.run 2 (k':=.inRegion (opsOf (cp [2,2,2] tB)) [0,1]::kB) ?_;refine ah Y [0,1] ?_;refine GW.run 2 (k':=.code tB::kB) ?_;refine GW.any (fun u=>td XN X k q st n b4 b6 b9 (.slice (some ⟨g,0,none⟩) I.length cap) I.length (.int .i64 (ak.wrap (i+1))) (.slice b L.length O) (iv L.length) j' u) (by kernel_rfl) fun u3=>?_;rw[AP (by omega)];refine ih (i+1) (by omega) _ _ _ u3 v4 ?_;have:nT XN X k I (i+1)=nT XN X k I i++j7 XN 0 L L.length:=by rw[nT,C,H]
   rw[this];exact G
end
def tH:Array Oper:=opsOf (cp [2,2,1] rX)
theorem afQ:tH.size=9:=by kernel_rfl
theorem ajF:(ab.all fun Y=>ab.all fun d1=>ab.all fun d2=>ab.all fun d3=>ab.all fun d4=>ab.all fun U=>ab.all fun F=>(aL .any tH #[Y,d1,d2,d3,d4,U,F,false,false]).all fun i=>(i==0&&!Y)||(i==1&&(!d1&&Y))||(i==2&&(!d2&&d1))||(i==3&&!d3)||(i==4&&(!d4&&d3))||(i==5&&(!U&&d4))||(i==6&&(!F&&U))||(i==7&&(d2&&F)))=true:=by decide+kernel
theorem tdy(Y d1 d2 d3 d4 U F:Bool)(i:Nat)(M:i∈aL .any tH #[Y,d1,d2,d3,d4,U,F,false,false]):(i=0/\Y=false)\/(i=1/\d1=false/\Y=true)\/(i=2/\d2=false/\d1=true)\/(i=3/\d3=false)\/(i=4/\d4=false/\d3=true)\/(i=5/\U=false/\d4=true)\/(i=6/\F=false/\U=true)\/(i=7/\d2=true/\F=true):=by
 have h:=bq.1 (ly (ly (ly (ly (ly (ly (ly ajF Y) d1) d2) d3) d4) U) F) i M;simpa[or_assoc]using h
theorem ajG:(ab.all fun U=>ab.all fun d1=>ab.all fun d2=>ab.all fun d3=>ab.all fun d4=>ab.all fun Y=>ab.all fun F=>(d1&&!U)||(d2&&!d1)||(d4&&!d3)||(Y&&!d4)||(F&&!Y)||!(aL .any tH #[U,d1,d2,d3,d4,Y,F,false,false]).isEmpty)=true:=by decide+kernel
theorem ajH:aL .any tH #[true,true,true,true,true,true,true,true,false]=[8]:=by decide+kernel
section
variable{tb:Bool}{Q:QT}{R:ae->af->Prop}{v:af}{fn:aI}{k:List Item}{a:Array ae}{ops:Array Oper}{i:Nat}{is:List Nat}
theorem GW.cat(Y:∃F,PR.funcs[fn]?=some F)(p q:bH){x y:ByteArray}(U:x.size+y.size<=100000000)(g:GW tb Q R fn (.inRegion ops is::k) (lh (ki ops i) (.string (x++y)) a) v)(h:mU ops i a=some (sL (do eqGuard .add 9 p q (.string x) (.string y);binOp .add 9 (.string x) (.string y))):=by kernel_rfl):GW tb Q R fn (.inRegion ops (i::is)::k) a v:=
 GW.vl Y h (by simp[go_sem,run_string_add_sum (w:=v) x y (by omega)]) rfl g
theorem GW.bs(Y:∃F,PR.funcs[fn]?=some F){x y:ByteArray}(g:∀v1,Kw v v1->v1.heap[v.heap.size]?=some (.cells #[.string x,.string y] 9)->GW tb Q R fn (.inRegion ops is::k) (lh (ki ops i) (.slice (some ⟨v.heap.size,0,none⟩) 2 2) a) v1)(h:mU ops i a=some (sL (Instr.buildSlice 65 2 #[(0,.string x),(1,.string y)])):=by kernel_rfl):GW tb Q R fn (.inRegion ops (i::is)::k) a v:=by
 obtain⟨K,h1,h2⟩:=xr (f:=fun i=>(i.zero,i.size)) (z:=(some (.string ⟨#[]⟩),1)) (t:=9) (by kernel_rfl);simp only[Prod.mk.injEq]at h2;exact GW.vl (v1:=v.alloc _) Y h (by simp[go_sem]) rfl (g _ (.alloc v _) (et v _))
end
def Ge(XN X:ByteArray)(k q st n b4 b6 b9:Nat)(sl:ae)(Y d1 d2 d3 d4 U F:Bool):Array Value:=
 #[pB XN X,sl,jS k q st,iv n,ptr b4,undef,ptr b6,undef,.string ⟨#[]⟩,ptr b9,undef,undef,undef,undef,pk Y (qY b4 0),pk d1 (.string XN),pk d2 (.string (⟨#[64]⟩++XN)),pk d3 (qY b4 1),pk d4 (.string X),pk U (.int .i64 (X.size:Int)),pk F (.string (str (gV X.size))),undef,undef,undef,undef,undef,undef,undef,undef,undef,undef,undef,undef,undef,undef,undef,undef,undef,undef,undef,undef,undef,undef,undef,undef,undef,undef,undef,undef]
section
variable{Q:QT}{R:ae->af->Prop}{v0 v:af}{XN X:ByteArray}{k q st n b4 b6 b9 cap len:Nat}{sl:ae}{K:List Item}
theorem abQ(hX:X.size<=200)(Mx:XN.size<=1000)(O:lb v0)(hT:iN v0)(hv:TV v0 XN X k q st b4 b6 b9 [] v)
  (kk:∀z x v',TV v0 XN X k q st b4 b6 b9 (rq XN X) v'->GW false Q R 60 (.inRegion tH []::K) (lh (some 22) x (lh (some 21) z (Ge XN X k q st n b4 b6 b9 sl true true true true true true true))) v'):
  GW false Q R 60 (.code (.region 2 tH true)::K) (Ge XN X k q st n b4 b6 b9 sl false false false false false false false) v:=by
 have Y:∃F,PR.funcs[60]?=some F:=⟨_,bR⟩;refine GW.draw fun t=>?_;rw[afQ];refine GW.Ti (md:=.any) (fun D=>Ge XN X k q st n b4 b6 b9 sl (D.getD 0 false) (D.getD 1 false) (D.getD 2 false) (D.getD 3 false) (D.getD 4 false) (D.getD 5 false) (D.getD 6 false)) (fun fuel D u=>∃U d1 d2 d3 d4 I A:Bool,D=#[U,d1,d2,d3,d4,I,A,false,false]/\(d1=true->U=true)/\(d2=true->d1=true)/\(d4=true->d3=true)/\(I=true->d4=true)/\(A=true->I=true)/\fuel+(U.toNat+d1.toNat+d2.toNat+d3.toNat+d4.toNat+I.toNat+A.toNat)=9/\TV v0 XN X k q st b4 b6 b9 [] u) ?_ ?_ 9 t (cX 9 false) v ⟨false,false,false,false,false,false,false,rfl,nofun,nofun,nofun,nofun,nofun,rfl,hv⟩
 ·rintro D i fuel t u ⟨U,d1,d2,d3,d4,I,A,rfl,h1,h2,C,J,L,B,T⟩ E H;rcases tdy U d1 d2 d3 d4 I A i E with⟨rfl,rfl⟩|⟨rfl,rfl,rfl⟩|⟨rfl,rfl,rfl⟩|⟨rfl,rfl⟩|⟨rfl,rfl,rfl⟩|⟨rfl,rfl,rfl⟩|⟨rfl,rfl,rfl⟩|⟨rfl,rfl,rfl⟩
  ·exact ah Y [0] (GW.to _ (H u ⟨true,d1,d2,d3,d4,I,A,rfl,fun _=>rfl,h2,C,J,L,by simp at B⊢;omega,T⟩))
  ·exact aW Y (mO 0 xS T.c4 rfl) (GW.to _ (H u ⟨true,true,d2,d3,d4,I,A,rfl,fun _=>rfl,fun _=>rfl,C,J,L,by simp at B⊢;omega,T⟩))
  ·exact GW.cat Y (.const (.string ⟨#[64]⟩)) (.tmp 15) (x:=⟨#[64]⟩) (y:=XN) (by show 1+XN.size<=_;omega) (GW.to _ (H u ⟨U,true,true,d3,d4,I,A,rfl,h1,fun _=>rfl,C,J,L,by simp at B⊢;omega,T⟩))
  ·exact ah Y [3] (GW.to _ (H u ⟨U,d1,d2,true,d4,I,A,rfl,h1,h2,fun _=>rfl,J,L,by simp at B⊢;omega,T⟩))
  ·exact aW Y (mO 1 xS T.c4 rfl) (GW.to _ (H u ⟨U,d1,d2,true,true,I,A,rfl,h1,h2,fun _=>rfl,fun _=>rfl,L,by simp at B⊢;omega,T⟩))
  ·exact ah Y [5] (GW.to _ (H u ⟨U,d1,d2,d3,true,true,A,rfl,h1,h2,C,fun _=>rfl,fun _=>rfl,by simp at B⊢;omega,T⟩))
  ·refine GW.call Y (aX (R:=fun x v'=>x=.string (str (gV X.size))/\Kw u v') (by decide) fun N=>(yR _ X.size rfl (tp u N) (by omega) (T.old.rF O hT)).mono fun e w' h=>⟨_,h.1,rfl,fun a P=>h.2.block a P⟩) ?_;rintro x c ⟨rfl,Z⟩;exact GW.to _ (H c ⟨U,d1,d2,d3,d4,true,true,rfl,h1,h2,C,J,fun _=>rfl,by simp at B⊢;omega,T.on Z⟩)
  ·clear H;obtain rfl:=h2 rfl;obtain rfl:=h1 rfl;obtain rfl:=L rfl;obtain rfl:=J rfl;obtain rfl:=C rfl;obtain rfl:fuel=1:=by simp at B;omega
   refine GW.bs Y (x:=⟨#[64]⟩++XN) (y:=str (gV X.size)) fun u1 W c1=>?_;rw[show(#[true,true,true,true,true,true,true,false,false]:Array Bool).setIfInBounds 7 true=#[true,true,true,true,true,true,true,true,false]from rfl,D4 ajH];have V:=T.on W;have M:u1.ownsRow u.heap.size 9 1 (.slice (some ⟨u.heap.size,0,none⟩) 2 2) 2 [.string (⟨#[64]⟩++XN),.string (str (gV X.size))]:=⟨rfl,.inr ⟨u.heap.size,2,_,rfl,ao _,c1,ao _,by unfold az;omega,rfl,rfl⟩⟩;have G:(nk [(⟨#[64]⟩:ByteArray)++XN,str (gV X.size)]++[10]).length<=100000:=by
    rw[Py];have:=Hv XN X 0 [] Mx (by omega) (by simp) (by omega) 0 (by simp);simp only[nT]at this;omega
   refine GW.call Y (aX (R:=fun x v'=>ij b9 (rq XN X) v'/\∀g,g<b9->v'.heap[g]?=u1.heap[g]?) (by decide) fun N=>(Gp b9 u.heap.size [] [(⟨#[64]⟩:ByteArray)++XN,str (gV X.size)] (.slice (some ⟨u.heap.size,0,none⟩) 2 2) (tp u1 N) V.Ce M (by simp) (by simp) (by simp at G⊢;omega)).mono fun e w' h=>⟨_,h.1,by have:=h.2.1;rw[cM,Py]at this;exact this,fun a P=>h.2.2.1.block a P⟩) ?_;rintro x u2 ⟨hb,j⟩;exact GW.to _ (kk (.slice (some ⟨u.heap.size,0,none⟩) 2 2) x u2 (V.wrote hb j))
 ·rintro fuel D u ⟨U,d1,d2,d3,d4,I,A,rfl,h1,h2,C,J,L,B,T⟩ S;exfalso;rcases S with rfl|S
  ·have:=bD U;have:=bD d1;have:=bD d2;have:=bD d3;have:=bD d4;have:=bD I;have:=bD A;omega
  ·have h:=ly (ly (ly (ly (ly (ly (ly ajG U) d1) d2) d3) d4) I) A;rw[S]at h;cases U<;>cases d1<;>cases d2<;>cases d3<;>cases d4<;>cases I<;>cases A<;>simp_all
end
section
variable{tb:Bool}{Q:QT}{R:ae->af->Prop}{v:af}{fn:aI}{a:Array ae}
theorem GW.akZ{F:Func}(Y:PR.funcs[fn]?=some F){d:Nat}(hr:F.results=#[.tmp d]){x:ae}(hx:a.getD d undef=x)(h:∀T,R x (tp v T)):GW false Q R fn [.code .ret] a v:=
 GW.rest Y rfl fun T=>wp_ret (bodyPost_ret (results_tmp hr _ _ _) rfl ⟨_,rfl,by have:=h T;rw[<-hx]at this;exact this⟩)
end
theorem afR:(PR.info? 102).map (·.zero)=some (some (.agg #[.pointer none,.slice none 0 0])):=by kernel_rfl
theorem ajI:Tryz.f60.body=some rX:=by kernel_rfl
section
variable{Q:QT}{v:af}{XN X:ByteArray}{k q st n cap:Nat}{a:Option Addr}{I:List mM}
theorem ahI(hX:X.size<=200)(M:XN.size<=1000)(hk:k<=6)(hq:1<=q)(sW:q<=8)(hs:1<=st)(Ac:st<=200)(hn:1<=n)(My:n<=8)(hR:∀r∈I,(r.1.size<=10/\r.2.1.size<=30/\r.2.2.size<=30)/\k<r.2.1.size)(O:I.length<=5)(U:lb v)(hT:iN v)(rows:v.ownsRow 0 131 3 (.slice a I.length cap) I.length (lU I)):
  iW Q 60 #[pB XN X,.slice a I.length cap,jS k q st,iv n] v fun x v'=>x=.string (str (nT XN X k I I.length))/\Kw v v':=by
 have Y:∃F,PR.funcs[60]?=some F:=⟨_,bR⟩;refine iW.of (n:=49) bR ajI (by kernel_rfl) ?_;refine GW.run 2 (k':=[.inRegion (opsOf (cp [1] rX)) [0,1,2],.code (cp [2] rX)]) ?_;refine GW.bx Y (t:=68) (y:=pB XN X) fun v1 N l1 c4=>?_;refine GW.bx Y (t:=75) (y:=jS k q st) fun v2 C l2 c6=>?_;refine ah Y [2] ?_;refine GW.run 3 (k':=[.inRegion (opsOf (cp [2,1] rX)) [0],.code (cp [2,2] rX)]) ?_;refine bZ Y afR fun v3 J A S _=>?_;have hb:ij v2.heap.size [] v3:=by rw[J];exact ij.new v2
 have H:TV v XN X k q st v.heap.size v1.heap.size v2.heap.size [] v3:=⟨A.at (C.at c4),A.at c6,hb,(N.trans C).trans A,by omega,by omega,by omega⟩;refine GW.run 2 (k':=[.code (.region 2 tH true),.code (cp [2,2,2] rX)]) ?_;refine GW.to (Ge XN X k q st n v.heap.size v1.heap.size v2.heap.size (.slice a I.length cap) false false false false false false false) ?_;generalize v.heap.size=b4 at H⊢;generalize v1.heap.size=b6 at H⊢;generalize v2.heap.size=b9 at H⊢;refine abQ hX M U hT H fun z x v4 D=>?_;refine GW.run 4 (k':=[.inRegion (opsOf (cp [2,2,2,1,1] rX)) [0,1,2],.code (cp [2,2,2,1,2] rX),.code tE]) ?_;refine ah Y [0,1,2] ?_;refine GW.run 3 (k':=.code tB::kB) ?_;refine GW.any (fun u=>td XN X k q st n b4 b6 b9 (.slice a I.length cap) I.length (iv 0) (u 33) (u 34) (u 35) u) (by kernel_rfl) fun u=>?_;refine adQ hX M hk hq sW hs Ac hn My hR O U hT rows (fun y z j u v5 K=>?_) I.length 0 (by omega) _ _ _ u v4 D;refine GW.run 2 (k':=[.inRegion (opsOf (cp [1] tE)) [0,1],.code .ret]) ?_;refine GW.call Y (aX (R:=fun x v'=>x=.string (str (nT XN X k I I.length))/\∀g,g<b9->v'.heap[g]?=v5.heap[g]?) (by decide) fun T=>(yA b9 _ (tp v5 T) K.Ce).mono fun e w' h=>⟨_,h.1,rfl,fun a L=>h.2.block a L⟩) ?_;rintro x v6 ⟨rfl,P⟩;refine ah Y [1] ?_;refine GW.run 1 (k':=[.code .ret]) ?_;exact GW.akZ (d:=8) bR (by kernel_rfl) (x:=.string (str (nT XN X k I I.length))) (by kernel_rfl) fun T=>⟨rfl,fun g B=>(P g (cu B K.l0)).trans (K.old g B)⟩
end
section
variable{tb:Bool}{Q:QT}{R:ae->af->Prop}{v:af}{fn:aI}{k:List Item}{a:Array ae}{ops:Array Oper}{i:Nat}{is:List Nat}
theorem GW.V9(U:∃F,PR.funcs[fn]?=some F){t:aV}(T:(PR.info? t).map (·.size)=some 2){B:Nat}{x y:ae}{z0:ae}(Y:v.heap[B]?=some (.cells #[z0,z1] t'))
  (g:∀v1,v1.heap[B]?=some (.cells #[x,y] t')->(∀b,b≠B->v1.heap[b]?=v.heap[b]?)->v1.heap.size=v.heap.size->GW tb Q R fn (.inRegion ops is::k) (lh (ki ops i) undef a) v1)(h:mU ops i a=some (Bu (cY t (ptr B) (.agg #[x,y]))):=by kernel_rfl)(M:x.oneCell'=true:=by rfl)(O:y.oneCell'=true:=by rfl):GW tb Q R fn (.inRegion ops (i::is)::k) a v:=by
 obtain⟨A,H,D⟩:=xr T;have r0:=ra (i:=0) (v:=x) Y;have I:v.cell? ⟨B,0,none⟩=some z0:=by simp[ar,Y]
 have f0:v.frozen? ⟨B,0,none⟩=false:=by simp[bV,Y]
 have h1:(v.setCell ⟨B,0,none⟩ x).cell? ⟨B,1,none⟩=some z1:=by simp[ar,r0]
 have f1:(v.setCell ⟨B,0,none⟩ x).frozen? ⟨B,1,none⟩=false:=by simp[bV,r0]
 have K:=akX (a:=x) (b:=y) v Y;refine GW.sk (v1:=EO B x y v) U h ?_ rfl (g _ K.2 (fun b hb=>K.1.heap b hb) K.1.size);simp[go_sem,storeVar,dA,sizeOf,cT,H,D,bT,bW PR _ _ x _ M,bW PR _ _ y _ O,I,f0,h1,f1,ptr,Addr.add,EO]
theorem GW.Kl(Y:∃F,PR.funcs[fn]?=some F)(x y z:Nat)(h:∀t c cs,gS PR 2 ((bf fn).at ⟨t,[]⟩ (.code .ret::k)) (c::cs)=(c.finish (.tuple #[t.getD x undef,t.getD y undef,t.getD z undef]),cs))(hr:R (.tuple #[a.getD x undef,a.getD y undef,a.getD z undef]) v):GW false Q R fn (.code .ret::k) a v:=by
 intro r Z w t l H D K I;obtain⟨c,cs,rfl⟩:=Dw H;refine aP 2 fun w' hk=>?_;rw[h];have ev:∀n:Nat,@V gv r (a.getD n undef) (t.getD n undef):=fun n=>yS Y D K.gi (x:=.tmp n) trivial;refine I r Z _ _ v w' (fun _ _ e=>e) ?_ (K.quiet hk) (.qt hk) hr
 letI:=gv
 refine .tuple rfl fun i p p' e e'=>?_;have A:i<3:=by
  have:=(bL.1 e).1;simpa using this
 have:i=0\/i=1\/i=2:=by omega
 rcases this with rfl|rfl|rfl<;>cases e<;>cases e'<;>exact ev _
end
noncomputable def ln:Code:=cR.body.getD .skip
abbrev i6(n:Int):Value:=.int .i64 n
def uw(ref reads:ByteArray)(k q st wk:Int)(Ag:Nat)(V:ae)(uy:Nat)(Cf:ae)(u:Nat->ae):Array Value:=
 #[.string ref,.string reads,i6 k,i6 q,i6 st,i6 wk,u 6,u 7,u 8,u 9,u 10,u 11,.string ⟨#[]⟩,i6 0,i6 0,ptr Ag,V,ptr uy,Cf,u 19,u 20,u 21,u 22,u 23,u 24,u 25,u 26,u 27,u 28,u 29,u 30,u 31,u 32,u 33,u 34,u 35,u 36,u 37,u 38,u 39,u 40,u 41,u 42,u 43,u 44,u 45,u 46,u 47,u 48,u 49,u 50,u 51,u 52,u 53,u 54,u 55,u 56,u 57,u 58]
section
variable{v:af}{ref reads:ByteArray}{k q st wk E Pl:Int}{V Cf:ae}{Ag uy I:Nat}{u:Nat->ae}
theorem ajJ(h:w.heap[uy]?=some (.cells #[i6 E,i6 Pl] 70)):(cp [2,2,1,2,1,1] ln).wp PR (fun e a' v'=>e=.normal/\a'.defers=[]/\(a'.tmps.getD 12 undef=.string ⟨#[]⟩/\a'.tmps.getD 13 undef=i6 E/\a'.tmps.getD 14 undef=i6 Pl)/\v'.heap=w.heap) ⟨uw ref reads k q st wk Ag V uy Cf u,[]⟩ w:=by
 have c0:w.cell? ⟨uy,0,none⟩=some (i6 E):=by simp[ar,h]
 have c1:w.cell? ⟨uy,1,none⟩=some (i6 Pl):=by simp[ar,h]
 obtain⟨Q,Y⟩:∃Q:Exit->Act->af->Prop,Q=(fun e a' v'=>e=.normal/\a'.defers=[]/\(a'.tmps.getD 12 undef=.string ⟨#[]⟩/\a'.tmps.getD 13 undef=i6 E/\a'.tmps.getD 14 undef=i6 Pl)/\v'.heap=w.heap):=⟨_,rfl⟩;rw[<-Y];have K:=laid Y;unfold ln cR uw;simp only[ptr]
 go_quiet(fail)
 rw[K.out];exact⟨rfl,rfl,⟨rfl,rfl,rfl⟩,rfl⟩
theorem ajK{L:List mM}{B:Nat}(h:w.heap[I]?=some (.cells #[i6 k,i6 q,i6 st] 75))(U:w.ownsRow B 131 3 V L.length (lU L))(O:L.length<=1000)(T:∀r∈L,r.2.1.size<=1000):(cp [2,2,2,2,1,1] ln).wp PR (fun e a' v'=>e=.normal/\a'.defers=[]/\(a'.tmps=uw ref reads k q st wk Ag V uy (ptr I) (fun n=>a'.tmps.getD n undef)/\a'.tmps.getD 53 undef=.bool (!nJ k q st||!o_ k L||decide (wk<1)||decide (8<wk)))/\∀g,g<w.heap.size->v'.heap[g]?=w.heap[g]?) ⟨uw ref reads k q st wk Ag V uy (ptr I) u,[]⟩ w:=by
 have H:=laid h;have M:=laid U;have N:=laid T;have c0:w.cell? ⟨I,0,none⟩=some (i6 k):=by simp[ar,h]
 have c1:w.cell? ⟨I,1,none⟩=some (i6 q):=by simp[ar,h]
 have c2:w.cell? ⟨I,2,none⟩=some (i6 st):=by simp[ar,h]
 obtain⟨Q,C⟩:∃Q:Exit->Act->af->Prop,Q=(fun e a' v'=>e=.normal/\a'.defers=[]/\(a'.tmps=uw ref reads k q st wk Ag V uy (ptr I) (fun n=>a'.tmps.getD n undef)/\a'.tmps.getD 53 undef=.bool (!nJ k q st||!o_ k L||decide (wk<1)||decide (8<wk)))/\∀g,g<w.heap.size->v'.heap[g]?=w.heap[g]?):=⟨_,rfl⟩;rw[<-C];have D:=laid C;clear C;unfold ln cR uw;simp only[ay,cp];simp only[ptr];go_wp2_with fail
 refine(HA k q st _).mono ?_;rintro e w1 ⟨rfl,Y⟩;cases J:nJ k q st
 ·go_wp2
  rw[D.out];exact⟨rfl,rfl,⟨by kernel_rfl,by rw[J];rfl⟩,fun g K=>Y.block g K⟩
 ·have h1:=(Y.block I (j8 H.out)).trans H.out;have S:w1.cell? ⟨I,0,none⟩=some (i6 k):=by simp[ar,h1]
  have d1:w1.cell? ⟨I,1,none⟩=some (i6 q):=by simp[ar,h1]
  have d2:w1.cell? ⟨I,2,none⟩=some (i6 st):=by simp[ar,h1]
  clear h1;have A:=laid (Bb M.out fun g K=>Y.block g K);go_wp2_with fail
  refine(Wz k q st L V B w1 A.out O N.out).mono ?_;rintro e w2 ⟨rfl,F⟩;have R:=laid fun g K=>(F.block g (cu K Y.size)).trans (Y.block g K);cases P:o_ k L
  ·go_wp2
   rw[D.out];exact⟨rfl,rfl,⟨by kernel_rfl,by rw[J,P];rfl⟩,R.out⟩
  ·by_cases hw:wk<1
   ·go_wp2
    rw[D.out];exact⟨rfl,rfl,⟨by kernel_rfl,by simp_all⟩,R.out⟩
   ·go_wp2
    rw[D.out];exact⟨rfl,rfl,⟨by kernel_rfl,by simp_all⟩,R.out⟩
end
theorem ahJ:(PR.info? 68).map (·.zero)=some (some (.agg #[.string ⟨#[]⟩,.string ⟨#[]⟩])):=by kernel_rfl
theorem ahK:(PR.info? 70).map (·.zero)=some (some (.agg #[i6 0,i6 0])):=by kernel_rfl
theorem ahL:(PR.info? 75).map (·.zero)=some (some (.agg #[i6 0,i6 0,i6 0])):=by kernel_rfl
theorem ahM:(PR.info? 68).map (·.size)=some 2:=by kernel_rfl
theorem ahN:(PR.info? 70).map (·.size)=some 2:=by kernel_rfl
theorem ahO:(PR.info? 75).map (·.size)=some 3:=by kernel_rfl
theorem RA{reads:ByteArray}(h:na ref reads=0):nN ref=xd ref:=by
 have h1:=(ahh h).2.2.1;unfold jV at h1;obtain⟨h2,_⟩:=r6 h1;exact(agv ref h2).symm
theorem OI{reads:ByteArray}{k q st wk:Int}(h:na ref reads≠0):nj ref reads k q st wk=na ref reads:=by unfold nj;rw[if_pos h]
theorem Io{reads:ByteArray}{k q st wk:Int}(h:na ref reads=0)(h2:pZ k 30 q st=false\/wk<1\/8<wk):nj ref reads k q st wk=4:=by unfold nj;rw[if_neg (by rw[h];simp),if_pos h2]
theorem adR{reads:ByteArray}{k q st wk:Int}(h:na ref reads=0)(h2:fewer (ji reads 5 0) k=false):nj ref reads k q st wk=4:=by
 unfold nj;rw[if_neg (by rw[h];simp)];split
 ·rfl
 ·first
   |rfl
   |rw[if_pos h2]
theorem afS{reads:ByteArray}{k q st wk:Int}(h:na ref reads=0)(h2:¬(pZ k 30 q st=false\/wk<1\/8<wk))(Y:fewer (ji reads 5 0) k=true):nj ref reads k q st wk=0:=by
 unfold nj;rw[if_neg (by rw[h];simp),if_neg h2,if_neg (by rw[Y];simp)]
theorem QE{reads:ByteArray}{k q st wk:Int}(h:nj ref reads k q st wk≠0):qm ref reads k q st wk=⟨#[]⟩:=by unfold qm;rw[if_neg h]
theorem afT{B:Nat}{e:aV}{z:Nat}{v:ae}{n:Nat}(h:w.ownsRow B e z v n xs):w.ownsRow 0 e z v n xs:=by
 refine⟨h.1,?_⟩;rcases h.2 with h'|⟨g,cap,Y,h1,h2,K⟩
 ·exact .inl h'
 ·exact .inr ⟨g,cap,Y,h1,bh _,K⟩
theorem ajL:cR.body=some ln:=by kernel_rfl
theorem ajM:kE PR (isAgg 35)=some false:=by kernel_rfl
section
variable{Q:QT}{v:af}{ref reads:ByteArray}{k q st wk:Int}
theorem JQ(h1:ref.size<=az)(h2:reads.size<=az)(V_:lb v)(hT:iN v):
  iW Q 39 #[.string ref,.string reads,i6 k,i6 q,i6 st,i6 wk] v fun x v'=>x=.tuple #[.string (qm ref reads k q st wk),i6 (nj ref reads k q st wk),i6 (vv ref reads)]/\Kw v v':=by
 have Y:∃F,PR.funcs[39]?=some F:=⟨_,Tryz.func39⟩;obtain⟨L,A⟩:∃L,L=ji reads 5 0:=⟨_,rfl⟩;obtain⟨E,d⟩:∃E,E=na ref reads:=⟨_,rfl⟩;obtain⟨Pl,o⟩:∃Pl,Pl=zb ref reads:=⟨_,rfl⟩;refine iW.of (n:=59) Tryz.func39 ajL (by kernel_rfl) ?_;refine GW.run 2 (k':=[.inRegion (opsOf (cp [1] ln)) [0,1,2],.code (cp [2] ln)]) ?_;refine ah Y [0,1,2] ?_;refine GW.run 3 (k':=[.inRegion (opsOf (cp [2,1] ln)) [0,1,2,3,4,5,6,7,8,9,10,11],.code (cp [2,2] ln)]) ?_;refine ah Y [0,1] ?_;refine GW.call Y (aX (R:=fun x v'=>∃a b V,x=.tuple #[.agg #[.string a,.string b],V,.agg #[i6 E,i6 Pl]]/\Kw v v'/\(E=0->a=nN ref/\b=str (kY ref).2/\v'.ownsRow v.heap.size 131 3 V L.length (lU L))) (by decide) fun T=>(XA ref reads (tp v T) h1 h2).mono fun e v' ⟨a,b,V,e1,e2,G,e4⟩=>⟨_,by rw[e1,<-d,<-o],a,b,V,rfl,fun g O=>G.block g O,by rw[d,A];exact e4⟩) ?_;rintro x v1 ⟨a,b,V,rfl,k1,LQ⟩;refine ah Y [3,4,5,6] ?_;refine bZ Y ahJ fun v2 e2 k2 l2 H=>?_;refine bZ Y ahK fun v3 G k3 l3 U=>?_;refine GW.V9 Y ahM (x:=.string a) (y:=.string b) (k3.at H) fun v4 H o4 s4=>?_;refine ah Y [10] ?_;refine GW.V9 Y ahN (x:=i6 E) (y:=i6 Pl) ((o4 _ (by omega)).trans U) fun v5 U o5 s5=>?_;have H:=(o5 v1.heap.size (by omega)).trans H;have K5:Kw v1 v5:=fun g O=>by
  have:=k2.size;rw[o5 g (by omega),o4 g (by omega),k3 g (by omega),k2 g O]
 have n17:v1.heap.size<=v2.heap.size:=k2.size;have s45:v3.heap.size=v5.heap.size:=by omega
 have l17:v2.heap.size<v5.heap.size:=by omega
 clear o4 o5 e2 G;have K05:=k1.trans K5;refine GW.run 4 (k':=[.inRegion (opsOf (cp [2,2,1,1] ln)) [0,1,2],.code (cp [2,2,1,2] ln),.code (cp [2,2,2] ln)]) ?_;refine ah Y [0] ?_;refine aW Y (mO 0 ajM U rfl) ?_;refine ah Y [2] ?_;refine GW.run 1 (k':=[.code (.cond (.tmp 28) (cp [2,2,1,2,1] ln) .skip),.code (cp [2,2,2] ln)]) ?_;refine aJ Y (t:=!(decide (E=0))) trivial (by kernel_rfl) ?_;refine GW.any (fun u=>uw ref reads k q st wk v1.heap.size V v2.heap.size (u 18) u) (by kernel_rfl) fun u=>?_;generalize v2.heap.size=X at *;generalize v1.heap.size=S at *;by_cases D:E=0
 ·rw[decide_eq_true D];obtain⟨ea,eb,J⟩:=LQ D;have K:na ref reads=0:=by rw[<-d];exact D
  have l:vv ref reads=0:=by unfold vv;rw[if_neg (by rw[K];simp)]
  have hLl:L.length<=5:=by rw[A];exact M9 reads 5 0
  have f:∀r∈L,r.1.size<=10/\r.2.1.size<=30/\r.2.2.size<=30:=by rw[A];exact MT reads 5 0
  have s:o_ k L=fewer (ji reads 5 0) k:=by rw[A];rfl
  refine GW.run 3 (k':=[.inRegion (opsOf (cp [2,2,2,1] ln)) [0,1,2,3,4,5],.code (cp [2,2,2,2] ln)]) ?_;refine ah Y [0,1,2,3] ?_;refine bZ Y ahL fun v6 e6 k6 l6 B=>?_;refine GW.V8 Y ahO (x:=i6 k) (y:=i6 q) (z:=i6 st) B fun v7 B o7 s7=>?_;have K7:Kw v5 v7:=fun g O=>(o7 g (by omega)).trans (k6 g O);have H:=K7.at H;have N:=K5.trans K7;have P:=k1.trans N;refine GW.run 3 (k':=[.code (cp [2,2,2,2,1,1] ln),.code (cp [2,2,2,2,1,2] ln),.code (cp [2,2,2,2,2] ln)]) ?_;refine GW.any (fun u=>uw ref reads k q st wk S V X (ptr v5.heap.size) u) (by kernel_rfl) fun u=>?_;generalize v5.heap.size=I at *;refine aM Y (by kernel_rfl) (R1:=fun a' v'=>(a'=uw ref reads k q st wk S V X (ptr I) (fun n=>a'.getD n undef)/\a'.getD 53 undef=.bool (!nJ k q st||!o_ k L||decide (wk<1)||decide (8<wk)))/\Kw v7 v') rfl (fun T=>ajK (w:=tp v7 T) B (Bb J N) (by omega) fun r hr=>by have:=f r hr;omega) ?_;rintro a' v8 ⟨⟨j,W⟩,k8⟩;refine GW.run 0 (k':=[.code (.cond (.tmp 53) (cp [2,2,2,2,1,2,1] ln) .skip),.code (cp [2,2,2,2,2] ln)]) ?_;refine aJ Y trivial W ?_;refine GW.to _ ?_ j;generalize(fun n=>a'.getD n undef)=u';clear j W;cases hb:(!nJ k q st||!o_ k L||decide (wk<1)||decide (8<wk))with
  |true=>
   have h4:nj ref reads k q st wk=4:=by
    simp only[Bool.or_eq_true,dI,decide_eq_true_eq]at hb;rcases hb with((h|h)|h)|h
    ·exact Io K (.inl (by rw[Hz,h];rfl))
    ·exact adR K (by rw[<-s];exact h)
    ·exact Io K (.inr (.inl h))
    ·exact Io K (.inr (.inr h))
   refine GW.run 2 (k':=[.inRegion (opsOf (cp [2,2,2,2,1,2,1,1] ln)) [0,1,2],.code .ret,.code (cp [2,2,2,2,2] ln)]) ?_;refine ah Y [0,1,2] ?_;refine GW.run 1 (k':=[.code .ret,.code (cp [2,2,2,2,2] ln)]) ?_;refine GW.Kl Y 12 13 14 (fun t c cs=>by kernel_rfl) ⟨?_,P.trans k8⟩;rw[QE (by rw[h4];decide),h4,l];kernel_rfl
  |false=>
   simp only[Bool.or_eq_false_iff,Bool.not_eq_false',decide_eq_false_iff_not]at hb;obtain⟨⟨⟨C,Ks⟩,Vy⟩,UQ⟩:=hb;have hm:=of_decide_eq_true C;obtain⟨kn,rfl⟩:∃n:Nat,k=(n:Int):=⟨k.toNat,by omega⟩;obtain⟨qn,rfl⟩:∃n:Nat,q=(n:Int):=⟨q.toNat,by omega⟩;obtain⟨sn,rfl⟩:∃n:Nat,st=(n:Int):=⟨st.toNat,by omega⟩;obtain⟨wn,rfl⟩:∃n:Nat,wk=(n:Int):=⟨wk.toNat,by omega⟩;have i:=afT (Bb J (N.trans k8));obtain⟨Wa,Z,rfl⟩:∃Wa Z,V=.slice Wa L.length Z:=by
    rcases i.2 with⟨hy,h0⟩|⟨g',EI,cur,hv,_⟩
    ·exact⟨none,0,by rw[h0];exact hy⟩
    ·exact⟨_,_,hv⟩
   have hxb:b.size<=200:=by rw[eb,ia];exact Ox ref
   have Cg:a.size<=1000:=by rw[ea,RA K];have:=Pd ref (ik ref 62 0);show(su ref (ik ref 62 0)).size<=1000;omega
   have p:∀r∈L,(r.1.size<=10/\r.2.1.size<=30/\r.2.2.size<=30)/\kn<r.2.1.size:=fun r hr=>⟨f r hr,by
    have:=of_decide_eq_true (bq.1 Ks r hr);omega⟩
   have m:nj ref reads kn qn sn wn=0:=afS K (by
    rintro(h|h|h)
    ·rw[Hz,C]at h;have:decide ((kn:Int)<30)=true:=decide_eq_true (by omega);rw[this]at h;cases h
    ·omega
    ·omega) (by rw[<-s];exact Ks)
   have hS:qm ref reads kn qn sn wn=str (nT a b kn L L.length):=by
    unfold qm oj;rw[if_pos m,ea,eb,RA K,A];rfl
   refine GW.run 3 (k':=[.inRegion (opsOf (cp [2,2,2,2,2,1] ln)) [0,1,2,3,4,5,6,7],.code .ret]) ?_;refine aW Y (Es (k8.at H)) ?_;refine ah Y [1] ?_;refine aW Y (Bm (k8.at B)) ?_;refine ah Y [3] ?_;have M:=P.trans k8;refine GW.call Y (ahI (q:=qn) (st:=sn) (n:=wn) hxb Cg (by omega) (by omega) (by omega) (by omega) (by omega) (by omega) (by omega) p hLl (M.ns V_) (M.rF V_ hT) i) ?_;rintro x v9 ⟨rfl,k9⟩;refine ah Y [5,6,7] ?_;refine GW.run 1 (k':=[.code .ret]) ?_;refine GW.Kl Y 12 13 14 (fun t c cs=>by kernel_rfl) ⟨?_,M.trans k9⟩;rw[hS,m,l];kernel_rfl
 ·rw[decide_eq_false D];refine GW.run 1 (k':=[.code (cp [2,2,1,2,1,1] ln),.code .ret,.code (cp [2,2,2] ln)]) ?_;refine aM Y (by kernel_rfl) (R1:=fun a' v'=>(a'.getD 12 undef=.string ⟨#[]⟩/\a'.getD 13 undef=i6 E/\a'.getD 14 undef=i6 Pl)/\v'.heap=v5.heap) rfl (fun T=>ajJ (w:=tp v5 T) U) ?_;rintro a' v' ⟨⟨e1,e2,G⟩,hh⟩;refine GW.Kl Y 12 13 14 (fun t c cs=>by kernel_rfl) ?_;have K:na ref reads≠0:=by rw[<-d];exact D
  rw[e1,e2,G,QE (by rw[OI K];exact K),OI K,show vv ref reads=zb ref reads by unfold vv;rw[if_pos K],<-d,<-o];exact⟨rfl,fun g O=>by rw[hh];exact K05 g O⟩
end
theorem Jo{i:Nat}(h:i+1<=az):ak.wrap ((i:Int)+1)=((i+1:Nat):Int):=by
 unfold az at h;rw[Go.IntWalk.i64_in _ (by omega)];omega
abbrev ii(n:Int):Value:=.int .i64 n
def zF:Op->Option (List bH)
 |.move x|.assign x|.load _ x|.fieldAddr _ x _|.extract x _|.unOp _ _ x=>some [x]
 |.binOp _ _ x y _|.indexAddr _ x y|.store _ x y=>some [x,y]
 |.build _ l=>some (l.toList.map (·.2))
 |.alloc _=>some []
 |.call c=>match c.callee with
  |.value f=>some (f::c.args.toList)
  |.builtin _=>some c.args.toList
  |_=>none
 |_=>none
theorem execOp_congr{U Y:bH->ae}{o:Oper}{l:List bH}(h:zF o.op=some l)(e:∀x∈l,U x=Y x):bI U o=bI Y o:=by
 unfold bI;generalize o.op=p at h;cases p<;>simp only[zF]at h<;>first|(cases h;done)|skip
 case call c=>
  obtain⟨K,args,D⟩:=c;have H:∀l',(∀x∈l',U x=Y x)->l'=args.toList->args.map U=args.map Y:=fun l' h1 h2=>cW fun x hx=>h1 x (by rw[h2];simpa using hx);cases K with
  |builtin b=>cases h;simp only[resolve,H _ e rfl]
  |value f=>cases h;simp only[resolve,H _ (fun x hx=>e x (di _ hx)) rfl,e f (by simp)]
  |invoke r n=>cases h
 case build t l=>
  cases h;have:(l.map fun(i,x)=>(i,U x))=l.map fun(i,x)=>(i,Y x):=cW fun p hp=>by have:=e p.2 (aN.2 ⟨p,by simpa using hp,rfl⟩);simp only[this]
  simp only[this]
 all_goals(cases h;simp at e;simp only[e])
def Gf:bH->List Nat
 |.tmp j=>[j]
 |_=>[]
def Tj(ops:Array Oper):Bool:=(bQ ops.size).all fun i=>match ops[i]? with
 |some o=>(o.after.all fun e=>!bj .any e||decide (e.on<i))&&match zF o.op with
  |some l=>l.all fun x=>(Gf x).all fun j=>(bQ ops.size).all fun m=>!(ki ops m==some j)||o.after.any fun e=>e.on==m&&bj .any e
  |none=>false
 |none=>false
def Wb(ops:Array Oper)(listed:Array Bool)(A a:Array ae):Prop:=a.size=A.size/\∀j,(∀m,ki ops m=some j->listed.getD m false=true)->a[j]?=A[j]?
def dv(ops:Array Oper)(A:Array ae)(i:Nat):Value:=match ki ops i with
 |some j=>A.getD j undef
 |none=>undef
section
variable{tb:Bool}{Q:QT}{R:ae->af->Prop}{v:af}{fn:aI}{k:List Item}{a A:Array ae}{ops:Array Oper}{Inv I J:af->Prop}{i:Nat}
def Bw(ops:Array Oper)(i:Nat)(A a:Array ae):Prop:=a.size=A.size/\∃o l,ops[i]?=some o/\zF o.op=some l/\∀x∈l,bp ⟨a,[]⟩ x=bp ⟨A,[]⟩ x
theorem Bw.ex(h:Bw ops i A a):mU ops i a=mU ops i A:=by
 obtain⟨_,o,l,K,Y,e⟩:=h;simp only[mU,K,execOp_congr Y e]
theorem Bw.os(h:Bw ops i A a):(tc ops i).map (bp ⟨a,[]⟩)=(tc ops i).map (bp ⟨A,[]⟩):=by
 obtain⟨_,o,l,D,Y,e⟩:=h;unfold tc;rw[D];simp only[bB];split
 ·rename_i c H;rw[Option.some.inj H]at Y;simp only[zF]at Y;refine cW fun x hx=>e x ?_;have K:x∈c.args.toList:=by simpa using hx
  split at Y
  ·cases Y;exact di _ K
  ·cases Y;exact K
  ·cases Y
 ·simp
def Stp(tb:Bool)(Q:QT)(R:ae->af->Prop)(fn:aI)(k:List Item)(ops:Array Oper)(A:Array ae)(I J:af->Prop)(i:Nat):Prop:=
 ∀is a v,I v->Bw ops i A a->(∀v',J v'->GW tb Q R fn (.inRegion ops is::k) (lh (ki ops i) (dv ops A i) a) v')->GW tb Q R fn (.inRegion ops (i::is)::k) a v
theorem Stp.pu(M:∃F,PR.funcs[fn]?=some F)(h:vY ops i A=some A)(U:∀v,I v->J v):Stp tb Q R fn k ops A I J i:=by
 intro is a v K D g;replace K:=U v K;have e:=D.ex;unfold vY at h;cases hx:mU ops i A with
 |none=>rw[hx]at h;cases h
 |some s=>
  rw[hx]at h e;simp only at h;split at h
  ·rename_i x B;refine GW.ex M e (oe B v) (.inl rfl) rfl ?_;have H:=Option.some.inj h;cases hd:ki ops i with
   |none=>have:=g v K;rw[hd]at this;exact this
   |some j=>
    have Y:=g v K;rw[hd]at H Y;simp only[lh,dv,hd]at H Y⊢;by_cases C:j<A.size
    ·have:A.getD j undef=x:=by rw[<-H];simp[aY,C]
     rw[this]at Y;exact Y
    ·rw[Array.setIfInBounds_eq_of_size_le (by rw[D.1];omega)]at Y⊢;exact Y
  ·cases h
theorem Stp.ld(Y:∃F,PR.funcs[fn]?=some F){t:aV}{y x:ae}(U:∀v,I v->(cC t y).run PR v=.ok x v/\J v)(h:mU ops i A=some (sL (cC t y)):=by kernel_rfl)(hx:dv ops A i=x:=by kernel_rfl):Stp tb Q R fn k ops A I J i:=
 fun is a v K H g=>GW.vl Y (H.ex.trans h) (U v K).1 rfl (hx▸g v (U v K).2)
theorem Stp.call(U:∃F,PR.funcs[fn]?=some F){f:aI}{x:ae}(O:∀v,I v->iW Q f args v fun y v'=>y=x/\J v')(Y:(tc ops i).map (bp ⟨A,[]⟩)=args:=by kernel_rfl)(h:∀t,sO ops i t=some (f,(tc ops i).map (bp ⟨t,[]⟩)):=by intro t;kernel_rfl)(M:(tc ops i).all (kt K0)=true:=by kernel_rfl)(hx:dv ops A i=x:=by kernel_rfl):Stp tb Q R fn k ops A I J i:=
 fun is a v D H g=>GW.call U (O v D) (fun y v' K=>by rw[K.1,<-hx];exact g v' K.2) (H.os.trans Y) h M
theorem GW.ahP{md:Region.Mode}(I:Nat->Array Bool->Array ae->af->Prop)
  (U:∀listed i fuel t a v,I (fuel+1) listed a v->i∈aL md ops listed->(∀a' v',I fuel (listed.setIfInBounds i true) a' v'->GW tb Q R fn (.inRegion ops (cw md ops fuel t (listed.setIfInBounds i true) [])::k) a' v')->GW tb Q R fn (.inRegion ops (i::cw md ops fuel t (listed.setIfInBounds i true) [])::k) a v)
  (Y:∀fuel listed a v,I fuel listed a v->fuel=0\/aL md ops listed=[]->GW tb Q R fn (.inRegion ops []::k) a v):
  ∀fuel t listed a v,I fuel listed a v->GW tb Q R fn (.inRegion ops (cw md ops fuel t listed [])::k) a v:=by
 intro fuel;induction fuel with
 |zero=>intro t listed a v h;exact Y 0 listed a v h (.inl rfl)
 |succ fuel A=>
  intro t listed a v h;simp only[cw];change GW tb Q R fn (.inRegion ops (match(aL md ops listed)[t%(aL md ops listed).length]? with
   |some i=>cw md ops fuel (t/(aL md ops listed).length) (listed.setIfInBounds i true) [i]
   |none=>[].reverse)::k) a v
  cases H:(aL md ops listed)[t%(aL md ops listed).length]? with
  |none=>
   have K:aL md ops listed=[]:=by
    cases hr:aL md ops listed with
    |nil=>rfl
    |cons x xs=>
     rw[hr]at H;have D:t%(x::xs).length<(x::xs).length:=Nat.mod_lt _ (by simp);simp at H;simp at D;omega
   exact Y (fuel+1) listed a v h (.inr K)
  |some i=>
   simp only[];rw[linearise_go_acc,List.reverse_singleton,List.singleton_append];exact U listed i fuel _ a v h (bu H) fun a' v' h'=>A _ _ a' v' h'
theorem adS(h:Wb ops listed A a){x:bH}(hx:∀j∈Gf x,∀m,ki ops m=some j->listed.getD m false=true):bp ⟨a,[]⟩ x=bp ⟨A,[]⟩ x:=by
 cases x with
 |tmp j=>
  have:=h.2 j (hx j (by simp[Gf]));show a.getD j undef=A.getD j undef
  simp only[dD,this]
 |_=>rfl
theorem getD_set_ne{l:Array Bool}{i m:Nat}(h:m≠i):(l.setIfInBounds i true).getD m false=l.getD m false:=by
 simp only[dD,bX,if_neg (Ne.symm h)]
theorem Tk{m:Nat}(h:ki ops m=some j):m<ops.size:=by
 unfold ki at h;cases e:ops[m]? with
 |none=>rw[e]at h;cases h
 |some o=>exact(bL.1 e).1
def Ah(ops:Array Oper)(A:Array ae):Nat->Array ae->Array ae
 |0,a=>a
 |m+1,a=>lh (ki ops m) (dv ops A m) (Ah ops A m a)
theorem ahQ(n:Nat)(h:∀m,ki ops m≠some j):(Ah ops A n a)[j]?=a[j]?/\(Ah ops A n a).size=a.size:=by
 induction n with
 |zero=>exact⟨rfl,rfl⟩
 |succ n Y=>
  unfold Ah lh;cases hd:ki ops n with
  |none=>exact Y
  |some d=>simp only[bX,Array.size_setIfInBounds];rw[if_neg (by rintro rfl;exact h n hd)];exact Y
theorem GW.Tl(Inv:Array Bool->af->Prop)(y:Inv (cX ops.size false) v)(L:List Nat)(hI:∀i∈L,∀listed v,Inv listed v->Inv (listed.setIfInBounds i true) v)(hM:∀i listed,i<ops.size->i∉L->listed.size=ops.size->listed.getD i true=false->(∀o,ops[i]?=some o->∀e∈o.after,bj .any e=true->listed.getD e.on false=true)->Stp tb Q R fn k ops A (Inv listed) (Inv (listed.setIfInBounds i true)) i)(g:∀v' listed,(∀m,m<ops.size->listed.getD m false=true)->Inv listed v'->GW tb Q R fn (.inRegion ops []::k) A v')(EX:∃F,PR.funcs[fn]?=some F)
  (hL:L.map (fun i=>vY ops i A)=L.map (fun _=>some A):=by kernel_rfl)(hB:Tj ops=true:=by kernel_rfl)(hA:Ah ops A ops.size a=A:=by kernel_rfl)(zP:a.size=A.size:=by kernel_rfl):GW tb Q R fn (.code (.region id ops true)::k) a v:=by
 have st:∀i listed,i<ops.size->listed.size=ops.size->listed.getD i true=false->(∀o,ops[i]?=some o->∀e∈o.after,bj .any e=true->listed.getD e.on false=true)->Stp tb Q R fn k ops A (Inv listed) (Inv (listed.setIfInBounds i true)) i:=fun i listed C h1 h2 U=>by
  by_cases h:i∈L
  ·exact .pu EX (jr hL h) (hI i h listed)
  ·exact hM i listed C h h1 h2 U
 have P:∀i,i<ops.size->∃o l,ops[i]?=some o/\(∀e∈o.after,bj .any e=true->e.on<i)/\zF o.op=some l/\∀x∈l,∀j∈Gf x,∀m,ki ops m=some j->∃e∈o.after,e.on=m/\bj .any e=true:=by
  intro i C;have h:=bq.1 hB i (cL.2 C);split at h
  ·rename_i o M;simp only[bM]at h;obtain⟨h1,h2⟩:=h;split at h2
   ·rename_i l X;refine⟨o,l,M,fun e K hb=>by simpa[hb]using cU.1 h1 e K,X,fun x hx j J m Y=>?_⟩;have U:=bq.1 (bq.1 (bq.1 h2 x hx) j J) m (cL.2 (Tk Y));rw[Y]at U;simp only[beq_self_eq_true,Bool.not_true,Bool.false_or]at U;obtain⟨e,K,W⟩:=dB.1 U;simp only[bM,beq_iff_eq]at W;exact⟨e,K,W⟩
   ·cases h2
  ·cases h
 have Gd:∀(listed:Array Bool) i,i∈aL .any ops listed↔i<ops.size/\listed.getD i true=false/\∃o,ops[i]?=some o/\∀e∈o.after,bj .any e=true->listed.getD e.on false=true:=by
  intro listed i;unfold aL;simp only[ec,cL,bM,dI];refine and_congr_right fun C=>and_congr_right fun _=>?_;rw[dE C];simp only[bB,ay,Option.some.injEq,exists_eq_left',cU];refine forall_congr' fun e=>forall_congr' fun K=>?_;cases bj .any e<;>simp
 refine GW.draw fun t=>GW.ahP (fun fuel listed a v=>listed.size=ops.size/\listed.toList.countP (fun b=>!b)<=fuel/\Wb ops listed A a/\Inv listed v) ?_ ?_ _ t _ a v ⟨by simp,?_,⟨zP,?_⟩,y⟩
 ·rintro listed i fuel t a v ⟨V,z2,ag,y⟩ C z;obtain⟨h1,h2,o,M,U⟩:=(Gd listed i).1 C;obtain⟨o',l,N,_,X,hx⟩:=P i h1;obtain rfl:=Option.some.inj (M.symm.trans N);refine st i listed h1 V h2 (fun o' N e K hb=>by cases M.symm.trans N;exact U e K hb) _ a v y ⟨ag.1,o,l,M,X,fun x G=>adS ag fun j J m Y=>?_⟩ fun v' E=>z _ v' ⟨by simpa using V,?_,?_,E⟩
  ·obtain⟨e,K,rfl,hb⟩:=hx x G j J m Y;exact U e K hb
  ·have H:i<listed.toList.length:=by simpa[V]using h1
   have hb:listed.toList[i]=false:=by
    have:listed.getD i true=listed[i]'(by simpa using H):=by simp[aY,show i<listed.size by simpa using H]
    rw[this]at h2;simpa using h2
   have c:0<listed.toList.countP (fun b=>!b):=List.countP_pos_iff.2 ⟨_,bt H,by rw[hb];rfl⟩;rw[Array.toList_setIfInBounds,List.countP_set H,hb];show listed.toList.countP (fun b=>!b)-1+0<=fuel
   omega
  ·refine⟨by rw[<-ag.1];unfold lh;split<;>simp,fun j J=>?_⟩;have other:ki ops i≠some j->a[j]?=A[j]?:=fun Z=>ag.2 j fun m Y=>by
    have:=J m Y
    rwa [getD_set_ne (by rintro rfl;exact Z Y)]at this
   unfold lh dv;cases hd:ki ops i with
   |none=>exact other (by rw[hd];simp)
   |some d=>
    simp only;by_cases B:d=j
    ·subst B;rw[bX,if_pos rfl];by_cases D:d<a.size
     ·rw[if_pos D,dE (by rw[<-ag.1];exact D)];simp[aY,show d<A.size by rw[<-ag.1];exact D]
     ·rw[if_neg D,cV (by rw[<-ag.1];omega)]
    ·rw[bX,if_neg B];exact other (by rw[hd];simpa using B)
 ·rintro fuel listed a v ⟨V,z2,ag,y⟩ T;have all:∀m,m<ops.size->listed.getD m false=true:=by
   rcases T with O|O
   ·subst O;have O:=List.countP_eq_zero.1 (Nat.le_zero.1 z2);intro m Y;have I:m<listed.size:=by omega
    have:=O listed[m] (by simp);simp[aY,I];simpa using this
   ·intro m;induction m using cP with
    |ind m q=>
     intro Y;have I:m<listed.size:=by omega
     cases hb:listed[m]with
     |true=>simp[aY,I,hb]
     |false=>
      exfalso;obtain⟨o,l,M,S,_,_⟩:=P m Y;have:m∈aL .any ops listed:=(Gd listed m).2 ⟨Y,by simp[aY,I,hb],o,M,fun e K hb=>q e.on (S e K hb) (by have:=S e K hb;omega)⟩;rw[O]at this;cases this
  have:a=A:=by
   apply dC;intro j;exact ag.2 j fun m Y=>all m (Tk Y)
  rw[this];exact g v listed all y
 ·have:=dP (p:=fun b=>!b) (l:=(cX ops.size false).toList);simpa using this
 ·intro j J;have:=(ahQ (ops:=ops) (A:=A) (a:=a) ops.size (j:=j) fun m e=>by
   have:=J m e;simp[aY]at this).1
  rwa [hA,eq_comm]at this
theorem GW.Uf(Inv:af->Prop)(hv:Inv v)(L:List Nat)(y:∀i,i<ops.size->i∉L->Stp tb Q R fn k ops A Inv Inv i)(g:∀v',Inv v'->GW tb Q R fn (.inRegion ops []::k) A v')(Y:∃F,PR.funcs[fn]?=some F)
  (T:L.map (fun i=>vY ops i A)=L.map (fun _=>some A):=by kernel_rfl)(O:Tj ops=true:=by kernel_rfl)(M:Ah ops A ops.size a=A:=by kernel_rfl)(U:a.size=A.size:=by kernel_rfl):GW tb Q R fn (.code (.region id ops true)::k) a v:=
 GW.Tl (fun _=>Inv) hv L (fun _ _ _ _ h=>h) (fun i _ h1 h2 _ _ _=>y i h1 h2) (fun v' _ _ h=>g v' h) Y T O M U
end
section
variable{Q:QT}{R:ae->af->Prop}{v:af}{fn:aI}{k:List Item}{a:Array ae}
theorem GW.Ug(Y:∃F,PR.funcs[fn]?=some F)(x y:Nat)(hr:R (.tuple #[a.getD x undef,a.getD y undef]) v)(h:∀t c cs,gS PR 2 ((bf fn).at ⟨t,[]⟩ (.code .ret::k)) (c::cs)=(c.finish (.tuple #[t.getD x undef,t.getD y undef]),cs):=by intro t c cs;kernel_rfl):GW false Q R fn (.code .ret::k) a v:=by
 intro r Z w t l H D K I;obtain⟨c,cs,rfl⟩:=Dw H;refine aP 2 fun w' hk=>?_;rw[h];have ev:∀n:Nat,@V gv r (a.getD n undef) (t.getD n undef):=fun n=>yS Y D K.gi (x:=.tmp n) trivial;refine I r Z _ _ v w' (fun _ _ e=>e) ?_ (K.quiet hk) (.qt hk) hr
 letI:=gv
 refine .tuple rfl fun i p p' e e'=>?_;have A:i<2:=by
  have:=(bL.1 e).1;simpa using this
 have:i=0\/i=1:=by omega
 rcases this with rfl|rfl<;>cases e<;>cases e'<;>exact ev _
end
theorem iW.mono{Q:QT}{R U:ae->af->Prop}{v:af}{f:aI}(g:iW Q f args v R)(h:∀x v',R x v'->U x v'):iW Q f args v U:=
 fun r Z w Y c cs A I B=>g r Z w Y c cs A I fun r' Z' x x' v' w' h1 h2 K H D=>B r' Z' x x' v' w' h1 h2 K H (h _ _ D)
def ku(c:Int)(n:Nat):Int:=ak.wrap (1+(iO c n:Nat))
theorem ahR{c:Int}{n:Nat}(h:0<n)(h2:n<=1000):ku c n=1+(iO c n:Nat):=by
 have:=pU c h;unfold ku;rw[Go.IntWalk.i64_in _ (by omega)]
theorem D5{Q:QT}{v v1:af}{c:Int}{n:Nat}(Y:jj c)(h1:1<=n)(h2:n<=1000)(K:Kw v1 v):iW Q 19 #[i6 c,i6 n] v fun y v'=>y=i6 (iO c n:Nat)/\Kw v1 v':=
 aX (R:=fun y v'=>y=i6 (iO c n:Nat)/\Kw v1 v') (by decide) fun T=>(yJ c n (tp v T) Y h1 h2).mono fun e w' h=>⟨_,h.1,rfl,by rw[h.2];exact K⟩
noncomputable def Ai:Code:=Tryz.f22.body.getD .skip
theorem ajN:Tryz.f22.body=some Ai:=by kernel_rfl
def Wc:Array Oper:=opsOf (cp [2,1] Ai)
theorem adT:Wc.size=23:=by kernel_rfl
def slK(ref reads:ByteArray)(k q s wk:Int)(B:Nat)(S:ByteArray)(E P:Int):Array Value:=
 #[.string ref,.string reads,i6 k,.agg #[i6 q,i6 s,i6 wk],undef,undef,undef,ptr B,.string ⟨#[]⟩,i6 0,.string S,i6 E,i6 P,.tuple #[.string S,i6 E,i6 P],.string ref,.string reads,i6 k,
  qY B 0,i6 q,i6 (iO q 8:Nat),i6 (ku q 8),qY B 1,i6 s,i6 (iO s 200:Nat),i6 (ku s 200),qY B 2,i6 wk,i6 (iO wk 8:Nat),i6 (ku wk 8),.tuple #[.string S,i6 E,i6 P],.string S,i6 E,i6 P,undef,undef]
section
variable{Q:QT}{v:af}{ref reads:ByteArray}{k q s wk:Int}
theorem adU(h1:ref.size<=az)(h2:reads.size<=az)(O:jj q)(T:jj s)(hw:jj wk)(U:lb v)(M:iN v):
  iW Q 22 #[.string ref,.string reads,i6 k,.agg #[i6 q,i6 s,i6 wk]] v fun x v'=>x=.tuple #[.string (qm ref reads k (ku q 8) (ku s 200) (ku wk 8)),i6 (nj ref reads k (ku q 8) (ku s 200) (ku wk 8))]/\Kw v v':=by
 have Y:∃F,PR.funcs[22]?=some F:=⟨_,Tryz.func22⟩;refine iW.of (n:=35) Tryz.func22 ajN (by kernel_rfl) ?_;refine GW.run 2 (k':=[.inRegion (opsOf (cp [1] Ai)) [0,1,2],.code (cp [2] Ai)]) ?_;refine GW.bx Y (t:=28) (y:=.agg #[i6 q,i6 s,i6 wk]) fun v1 H l1 c1=>?_;replace c1:v1.heap[v.heap.size]?=some (.cells #[i6 q,i6 s,i6 wk] 28):=c1;refine ah Y [1,2] ?_;refine GW.run 2 (k':=[.code (.region 1 Wc true),.code (cp [2,2] Ai)]) ?_;refine GW.Uf (A:=slK ref reads k q s wk v.heap.size (qm ref reads k (ku q 8) (ku s 200) (ku wk 8)) (nj ref reads k (ku q 8) (ku s 200) (ku wk 8)) (vv ref reads)) (Kw v1) (.refl v1) [0,1,2,3,6,7,10,11,14,16,17,18,19,20,21,22] ?_ ?_ Y
 ·intro i D R;rw[adT]at D;have:i=4\/i=8\/i=12\/i=5\/i=9\/i=13\/i=15:=by simp at R;omega
  rcases this with rfl|rfl|rfl|rfl|rfl|rfl|rfl
  ·exact .ld Y fun u K=>⟨mO 0 EG (K.at c1) rfl,K⟩
  ·exact .ld Y fun u K=>⟨mO 1 EG (K.at c1) rfl,K⟩
  ·exact .ld Y fun u K=>⟨mO 2 EG (K.at c1) rfl,K⟩
  ·exact .call Y fun u K=>D5 (n:=8) O (by omega) (by omega) K
  ·exact .call Y fun u K=>D5 (n:=200) T (by omega) (by omega) K
  ·exact .call Y fun u K=>D5 (n:=8) hw (by omega) (by omega) K
  ·exact .call Y fun u K=>iW.mono (JQ (k:=k) (q:=ku q 8) (st:=ku s 200) (wk:=ku wk 8) h1 h2 ((H.trans K).ns U) ((H.trans K).rF U M)) fun y v' h=>⟨h.1,K.trans h.2⟩
 ·intro v2 K;refine GW.run 3 (k':=[.inRegion (opsOf (cp [2,2,1] Ai)) [0,1,2,3],.code .ret]) ?_;refine ah Y [0,1,2,3] ?_;refine GW.run 1 (k':=[.code .ret]) ?_;exact GW.Ug Y 8 9 ⟨by kernel_rfl,H.trans K⟩
end
noncomputable def te:Code:=cQ.body.getD .skip
theorem ajO:cQ.body=some te:=by kernel_rfl
def Mz(S T:ByteArray)(p q:Int)(u:Nat->ae):Array Value:=
 #[.bool false,.string S,i6 0,i6 p,.string T,i6 0,i6 q,u 7,u 8,u 9,u 10,u 11,u 12,u 13,u 14,u 15,u 16,u 17,u 18,u 19,u 20,u 21,u 22,u 23,u 24,u 25,u 26,u 27,u 28,u 29,u 30,u 31,u 32]
section
variable{Q:QT}{v:af}
theorem ajP{p q:Int}(K:Kw v w):(cp [2,2,2] te).wp PR (bodyPost PR cQ fun e v'=>∃x,e=.returned x/\x=.bool true/\Kw v v') ⟨Mz Ma Mb p q u,[]⟩ w:=by
 unfold te cQ Mz;simp only[ay,cp];go_wp2
 go_ret
 exact⟨_,rfl,rfl,K⟩
theorem afU(U:lb v)(M:iN v):iW Q 16 #[] v fun x v'=>x=.bool true/\Kw v v':=by
 have Y:∃F,PR.funcs[16]?=some F:=⟨_,du⟩;refine iW.of (n:=33) du ajO (by kernel_rfl) ?_;refine GW.run 2 (k':=[.inRegion (opsOf (cp [1] te)) [0],.code (cp [2] te)]) ?_;refine ah Y [0] ?_;refine GW.run 3 (k':=[.inRegion (opsOf (cp [2,1] te)) [0,1,2,3,4,5,6,7],.code (cp [2,2] te)]) ?_;refine GW.call Y (JQ (ref:=vW) (reads:=F3) (k:=0) (q:=2) (st:=4) (wk:=3) (by decide) (by decide) U M) ?_;rintro x v1 ⟨rfl,K⟩;refine ah Y [1,2,3,4,5,6,7] ?_;refine GW.run 3 (k':=[.inRegion (opsOf (cp [2,2,1] te)) [0,1,2,3,4,5,6,7],.code (cp [2,2,2] te)]) ?_;refine GW.call Y (JQ (ref:=vW) (reads:=EK) (k:=1) (q:=1) (st:=3) (wk:=2) (by decide) (by decide) (K.ns U) (K.rF U M)) ?_;rintro x v2 ⟨rfl,H⟩;refine ah Y [1,2,3,4,5,6,7] ?_;refine GW.run 1 (k':=[.code (cp [2,2,2] te)]) ?_;rw[akG,T8,akH,T9];refine GW.any (fun u=>Mz Ma Mb (vv vW F3) (vv vW EK) u) (by kernel_rfl) fun u=>?_;exact GW.rest du (by kernel_rfl) fun T=>ajP (K.trans H)
end
def Bn(f:aI)(args:Array ae)(y:ae):Prop:=∀(I:QT) (Z:Loc->Prop) (w:af) (c:bE) (cs:List bE),PR.globals.size<=w.heap.size->lb w->iN w->(∀g,g=0\/g=2\/g=3->jf Z g)->
 (∀Z' w',(∀l,Z l->Z' l)->(∀l,Z' l->Z l\/∃a:Addr,l=.cell a/\w.heap.size<=a.block)->ie Z w w'->gL PR I Z' (c.finish y) cs w')->gL PR I Z (Frame.enter PR f args .normal) (c::cs) w
theorem Jp{f:aI}{y:ae}(hb:args.all (mh 3)=true)(O:vk 1 y=true)(h:∀Q v,lb v->iN v->iW Q f args v fun x v'=>x=y/\Kw v v'):Bn f args y:=by
 intro I Z w c cs D U H C S
 letI:=gv
 obtain⟨K,R⟩:∃K:Nat->Prop,∀a,K a↔(a=0\/a=2\/a=3):=⟨_,fun _=>Iff.rfl⟩;have A:GI (mq K):=fun g N=>rp ((R g).2 (by
  have:([0,2,3].contains g)=true:=N;simpa using this))
 have F:∀b,¬gK.ro b:=fun b h=>h;have B:W (mq K) 0 w w:=IZ F D fun b hb=>by
  obtain⟨T,t,fz,h,hp⟩:=U b ((R b).1 hb);exact⟨_,h,DG _ _ fun x hx=>by obtain⟨k,n,rfl⟩:=hp x hx;exact .int _ _⟩
 refine h I w U H (mq K) Z w args c cs ⟨rfl,fun i z V e e'=>?_⟩ ⟨B,A,fun a y=>C a ((R a).1 (xf.1 y))⟩ fun r' Z' x x' v' w' h1 h2 L Y M=>?_
 ·obtain rfl:=Option.some.inj (e.symm.trans e');exact yo (cU.1 hb _ (dH e))
 ·obtain⟨rfl,hk⟩:=M;obtain rfl:=De O h2;refine S Z' w' Y.more Y.only ⟨fun a J P=>?_,Y.ke.grow,Y.ke.tape,Y.ke.env,Y.ke.output⟩;by_cases y:K a
  ·exact(L.ns (Kw.ns hk U) a ((R a).1 y)).trans (hk a J)
  ·exact Y.kept a J (fun z=>y (xf.1 z)) P
theorem adV:Bn 16 #[] (.bool true):=Jp (by kernel_rfl) rfl fun Q v h1 h2=>afU h1 h2
theorem RE{c:Int}{n:Nat}(Y:jj c)(h1:1<=n)(h2:n<=1000):Bn 19 #[ii c,ii n] (ii (iO c n:Nat)):=Jp (by kernel_rfl) rfl fun Q v _ _=>D5 Y h1 h2 (.refl v)
theorem ie.on{Z0 Z:Loc->Prop}{wa wb:af}(only:∀l,Z l->Z0 l\/∃a:Addr,l=.cell a/\w0.heap.size<=a.block)(Y:ie Z0 w0 wa)(gb:ie Z wa wb):ie Z0 w0 wb:=
 ⟨fun a K H=>(gb.old a (cu K Y.grow) (uR only H K)).trans (Y.old a K H),aO Y.grow gb.grow,gb.tape.trans Y.tape,gb.env.trans Y.env,gb.output.trans Y.output⟩
structure qo(Z0:Loc->Prop)(w0:af):Prop where
 low:PR.globals.size<=w0.heap.size
 ns:lb w0
 jr:iN w0
 off:∀b,b<w0.heap.size->jf Z0 b
theorem qo.gl{Z0:Loc->Prop}(h:qo Z0 w0){g:Nat}(Y:g=0\/g=2\/g=3):g<w0.heap.size:=by
 obtain⟨_,_,_,e,_⟩:=h.ns g Y;exact j8 e
theorem qo.call{Z0 Z:Loc->Prop}{f:aI}{y:ae}{I:QT}{c:bE}(h:qo Z0 w0)(r:Bn f args y)(more:∀l,Z0 l->Z l)(only:∀l,Z l->Z0 l\/∃a:Addr,l=.cell a/\w0.heap.size<=a.block)(g:ie Z0 w0 w)
  (k:∀Z' w',(∀l,Z0 l->Z' l)->(∀l,Z' l->Z0 l\/∃a:Addr,l=.cell a/\w0.heap.size<=a.block)->ie Z0 w0 w'->gL PR I Z' (c.finish y) cs w'):gL PR I Z (Frame.enter PR f args .normal) (c::cs) w:=by
 have Y:∀g,g=0\/g=2\/g=3->w.heap[g]?=w0.heap[g]?:=fun b hb=>g.old b (h.gl hb) (h.off b (h.gl hb));refine r I Z w c cs (aO h.low g.grow) (h.ns.same Y) (yu h.jr (Y 0 (.inl rfl))) (fun b hb=>uR only (h.off b (h.gl hb)) (h.gl hb)) fun Z' w' m o K=>?_;exact k Z' w' (fun l y=>m l (more l y)) (fun l y=>(o l y).elim (only l) fun⟨a,e,q⟩=>.inr ⟨a,e,aO g.grow q⟩) (g.on only K)
theorem GW.Km{Q:QT}{R:ae->af->Prop}{v:af}{k:List Item}{a:Array ae}(Y:∃F,PR.funcs[fn]?=some F)(x:Nat)(hr:R (a.getD x undef) v)(h1:∀t,(gS PR 1 ((bf fn).at ⟨t,[]⟩ (.code .ret::k)) []).2=[]:=by intro t;kernel_rfl)(h:∀t u,stepG PR true (G (gS PR 1 ((bf fn).at ⟨t,[]⟩ (.code .ret::k)) []).1 []) u=.ended (.done (t.getD x undef)) u #[]:=by intro t u;kernel_rfl):GW true Q R fn (.code .ret::k) a v:=by
 intro r Z w t l H D K I;obtain rfl:l=[]:=List.isEmpty_iff.1 H;refine aP 1 fun w' hk=>?_;rw[h1];exact I r Z _ _ v w' (fun _ _ e=>e) (yS Y D K.gi (x:=.tmp x) trivial) (K.quiet hk) (.qt hk) hr _ (h t)
def blk:ae->ae
 |.slice .. =>.tuple #[]
 |x=>x
theorem afV{I:ae->af->Prop}{n:Nat}{al:List (Nat×ae)}{Z:Loc->Prop}{W0:af}(hp:∀O d,ie (fun _=>False) W0 O->I (.bool true) (O.at d))(H:qo (fun _=>False) W0)(only:∀l,Z l->False\/∃a:Addr,l=.cell a/\W0.heap.size<=a.block)(Y:ie (fun _=>False) W0 w)
  (F:∀b∈Bs,W0.heap.size<=b/\jf Z b/\∃x y z:Int,w.heap[b]?=some (.cells #[ii x,ii y,ii z] 28))
  (M:∀p∈al,(∃a l c,p.2=.slice a l c)\/mh 3 p.2=true\/∃b∈Bs,p.2=ptr b)
  (g:lb w->iN w->GW true (Ren.Ends PR I) (fun x v'=>x=.bool true/\Kw w v') fn site ((TN n (sA al) fun _=>undef).map blk) w):
  gL PR (Ren.Ends PR I) Z (nz fn n site (sA al) fun _=>undef) [] w:=by
 have S:∀g,g=0\/g=2\/g=3->w.heap[g]?=W0.heap[g]?:=fun b hb=>Y.old b (H.gl hb) (H.off b (H.gl hb));have C:lb w:=H.ns.same S;have A:iN w:=yu H.jr (S 0 (.inl rfl))
 letI:=gv
 obtain⟨K,R⟩:∃K:Nat->Prop,∀a,K a↔((a=0\/a=2\/a=3)\/a∈Bs):=⟨_,fun _=>Iff.rfl⟩;have B:GI (mq K):=fun g j=>rp ((R g).2 (.inl (by
  have:([0,2,3].contains g)=true:=j;simpa using this)))
 have N:∀b,¬gK.ro b:=fun b h=>h;have J:W (mq K) 0 w w:=IZ N (aO H.low Y.grow) fun b hb=>by
  rcases(R b).1 hb with hb|hb
  ·obtain⟨v,t,fz,h,hp⟩:=C b hb;exact⟨_,h,DG _ _ fun x hx=>by obtain⟨k,n,rfl⟩:=hp x hx;exact .int _ _⟩
  ·obtain⟨_,_,x,y,z,h⟩:=F b hb;exact⟨_,h,DG _ _ fun u P=>by simp at P;rcases P with rfl|rfl|rfl<;>exact .int _ _⟩
 have E:∀x∈TN n (sA al) fun _=>undef,V (mq K) (blk x) x:=by
  intro x hx;unfold TN at hx;simp only[List.mem_toArray,aN]at hx;obtain⟨i,_,rfl⟩:=hx;unfold sA;cases o:al.lookup i with
  |none=>exact .blank rfl
  |some y=>
   obtain⟨p,hp,rfl⟩:=Px o;simp only[ay];rcases M p hp with⟨a,l,c,e⟩|e|⟨b,hb,e⟩
   ·rw[e];exact .blank rfl
   ·have:=yo (r:=mq K) e;revert e this;cases p.2 with
    |slice a l c=>exact fun _ _=>.blank rfl
    |_=>intro e h;exact h
   ·rw[e];exact .ptr ⟨rp ((R b).2 (.inr hb)),rfl,rfl⟩
 refine g C A (mq K) Z w (TN n (sA al) fun _=>undef) [] rfl ⟨Array.size_map ..,fun i x x' e e'=>?_⟩ ⟨J,B,fun a y=>?_⟩ fun r' Z' x x' v' w' h1 h2 T D X f q=>?_
 ·rw[Array.getElem?_map,e']at e;cases e;exact E x' (dH e')
 ·rcases(R a).1 (xf.1 y)with h|h
  ·exact uR only (H.off a (H.gl h)) (H.gl h)
  ·exact(F a h).2.1
 ·obtain⟨rfl,hk⟩:=X;cases h2;refine gL.done fun s ⟨d,hd⟩=>⟨rfl,_,_,q s,(fun e G=>by simp at G),?_⟩;subst hd;refine hp w' d ⟨fun a L Q=>?_,aO Y.grow D.ke.grow,D.ke.tape.trans Y.tape,D.ke.env.trans Y.env,D.ke.output.trans Y.output⟩;have U:=cu L Y.grow;refine Eq.trans ?_ (Y.old a L Q);by_cases y:K a
  ·rcases(R a).1 y with y|y
   ·exact(T.ns (Kw.ns hk C) a y).trans (hk a U)
   ·have:=(F a y).1;omega
  ·exact D.kept a U (fun z=>y (xf.1 z)) (uR only Q L)
theorem ajQ{v:af}{b:Nat}{x y z:ae}{e:aV}{fz:Nat×Nat}(h:v.heap[b]?=some (.cells #[x,y,z] e fz)):(cC 28 (ptr b)).run PR v=.ok (.agg #[x,y,z]) v:=by
 have c0:v.cell? ⟨b,0,none⟩=some x:=by simp[ar,h]
 have c1:v.cell? ⟨b,1,none⟩=some y:=by simp[ar,h]
 have c2:v.cell? ⟨b,2,none⟩=some z:=by simp[ar,h]
 simp[ptr,go_sem,c0,c1,c2]
theorem ajR{Q:QT}{v v1:af}(hx:x.length<=1000)(K:Kw v1 v):iW Q 23 #[.string (str x)] v fun y v'=>y=.string (str (iU x))/\Kw v1 v':=
 aX (R:=fun y v'=>y=.string (str (iU x))/\Kw v1 v') (by decide) fun T=>(Ro x (tp v T) hx).mono fun e w' h=>⟨_,h.1,rfl,by rw[h.2];exact K⟩
theorem ahS{Q:QT}{v v1:af}(hx:x.length<=60)(K:Kw v1 v):iW Q 24 #[.string (str x)] v fun y v'=>y=.string (str (jB x))/\Kw v1 v':=
 aX (R:=fun y v'=>y=.string (str (jB x))/\Kw v1 v') (by decide) fun T=>(adp x (tp v T) hx).mono fun e w' h=>⟨_,h.1,rfl,K.trans fun a Y=>h.2.block a Y⟩
structure K9 where
 (k n E:Int) (o u:ae) (b1 b2:Nat) (x0 X b0 B RF RD S:ByteArray)
theorem PA{B:Nat}{t:aV}:∀(cs:List ae) (off:Nat) (row:Array ae) (w:af),(∀x∈cs,x.oneCell'=true)->w.heap[B]?=some (.cells row t)->off+cs.length<=row.size->
  ∃w',(dA ⟨B,0,none⟩ cs off).run PR w=.ok () w'/\w'.drawn=w.drawn/\w'.heap.size=w.heap.size/\(∀b,b≠B->w'.heap[b]?=w.heap[b]?)/\∃Y,w'.heap[B]?=some (.cells Y t)/\Y.size=row.size/\∀j,Y[j]?=if off<=j/\j<off+cs.length then cs[j-off]? else row[j]?
 |[],off,row,w,_,h,_=>⟨w,rfl,rfl,rfl,fun _ _=>rfl,row,h,rfl,fun j=>by rw[if_neg (by simp)]⟩
 |x::cs,off,row,w,H,h,N=>by
  have hx:=H x (by simp);simp only[cj]at N;have L:(⟨B,0,none⟩:Addr).add off=⟨B,off,none⟩:=by unfold Addr.add;split<;>simp_all
  have h1:w.cell? ⟨B,off,none⟩=some row[off]:=by simp[ar,h,show off<row.size by omega]
  have f1:w.frozen? ⟨B,off,none⟩=false:=by simp[bV,h]
  have h2:=ra (i:=off) (v:=x) h;obtain⟨w',R,I,A,U,Y,C,F,J⟩:=PA cs (off+1) _ _ (fun y O=>H y (by simp[O])) h2 (by simp;omega);have D:=sb (w:=w) (b:=B) (i:=off) x;refine⟨w',?_,I,A.trans D.size,fun b hb=>(U b hb).trans (D.heap b hb),Y,C,by simpa using F,fun j=>?_⟩
  ·rw[dA,Sem.run_bind,L,bW PR _ _ x _ hx,h1];simp only[f1];exact R
  ·rw[J j];by_cases M:j=off
   ·subst M;rw[if_neg (by omega),if_pos (by simp)];simp[show j<row.size by omega]
   ·by_cases K:off+1<=j/\j<off+1+cs.length
    ·rw[if_pos K,if_pos (by simp;omega),show j-off=(j-(off+1))+1 by omega,dc]
    ·rw[if_neg K,if_neg (by simp;omega),bX,if_neg (by omega)]
def qk(m:Bool)(x y:ae):Value:=if m then x else y
def qZ(u:Nat->ae)(s:ByteArray)(l I:ae)(n i:Int):Array Value:=#[.string s,u 1,u 2,u 3,l,I,ii n,ii i,u 8,u 9,u 10,u 11,u 12,u 13,u 14,u 15,u 16,u 17,u 18,u 19,u 20,u 21,u 22,u 23,u 24,u 25,u 26,u 27,u 28,u 29,u 30,u 31,u 32,u 33,u 34,u 35,u 36,u 37,u 38,u 39,u 40,u 41,u 42,u 43,u 44,u 45,u 46,u 47,u 48,u 49,u 50,u 51,u 52,u 53,u 54,u 55,u 56,u 57,u 58,u 59,u 60,u 61,u 62,u 63,u 64,u 65,u 66,u 67,u 68,u 69,u 70,u 71,u 72,u 73,u 74,u 75,u 76,u 77,u 78,u 79,u 80,u 81,u 82,u 83,u 84,u 85,u 86,u 87,u 88,u 89,u 90,u 91,u 92,u 93,u 94]
def tf(u:Nat->ae)(s:ByteArray)(l I pv:ae)(n i:Int)(g b:Nat)(P:Nat->ByteArray)(Z:Nat->Int)(m:Bool):Array Value:=#[.string s,u 1,u 2,u 3,l,I,ii n,ii i,pv,qk m (ptr b) (u 9),u 10,u 11,u 12,u 13,u 14,u 15,u 16,u 17,u 18,u 19,u 20,u 21,u 22,u 23,u 24,u 25,u 26,u 27,u 28,u 29,u 30,u 31,u 32,u 33,u 34,u 35,u 36,u 37,u 38,u 39,u 40,u 41,u 42,u 43,u 44,u 45,u 46,u 47,u 48,u 49,u 50,u 51,qk m pv (u 52),qk m (.pointer (some ⟨g,0,none⟩)) (u 53),qk m (.string (P 0)) (u 54),qk m pv (u 55),qk m (.pointer (some ⟨g,1,none⟩)) (u 56),qk m (.string (P 1)) (u 57),qk m (ii (Z 1)) (u 58),qk m pv (u 59),qk m (.pointer (some ⟨g,2,none⟩)) (u 60),qk m (.string (P 2)) (u 61),qk m pv (u 62),qk m (.pointer (some ⟨g,3,none⟩)) (u 63),qk m (.string (P 3)) (u 64),qk m (ii (Z 3)) (u 65),qk m pv (u 66),qk m (.pointer (some ⟨g,4,none⟩)) (u 67),qk m (.string (P 4)) (u 68),qk m pv (u 69),qk m (.pointer (some ⟨g,5,none⟩)) (u 70),qk m (.string (P 5)) (u 71),qk m pv (u 72),qk m (.pointer (some ⟨g,6,none⟩)) (u 73),qk m (.string (P 6)) (u 74),qk m pv (u 75),qk m (.pointer (some ⟨g,7,none⟩)) (u 76),qk m (.string (P 7)) (u 77),qk m pv (u 78),qk m (.pointer (some ⟨g,8,none⟩)) (u 79),qk m (.string (P 8)) (u 80),qk m (.agg #[.string (P 0),ii (Z 1),.string (P 2),ii (Z 3),.string (P 4),.string (P 5),.string (P 6),.string (P 7),.string (P 8)]) (u 81),u 82,u 83,u 84,u 85,u 86,u 87,u 88,u 89,u 90,u 91,u 92,u 93,u 94]
noncomputable def lp:Code:=cx.body.getD .skip
theorem ahT:cx.body=some lp:=by kernel_rfl
def uz:Array Oper:=opsOf (cp [2,2,2,2,2,1,2,1,1,2,1,1,2,2,1] lp)
theorem Dg:uz.size=32:=by kernel_rfl
def ng(P:Nat->ByteArray)(Z:Nat->Int):Array Value:=#[.string (P 0),ii (Z 1),.string (P 2),ii (Z 3),.string (P 4),.string (P 5),.string (P 6),.string (P 7),.string (P 8)]
theorem ss:kE PR (isAgg 9)=some false:=by kernel_rfl
theorem ahU:(PR.info? 42).map (·.zero)=some (some (.agg #[.string nS,ii 0,.string nS,ii 0,.string nS,.string nS,.string nS,.string nS,.string nS])):=by kernel_rfl
theorem ahV:(PR.info? 42).map (·.size)=some 9:=by kernel_rfl
structure yf(v:af)(b:Nat)(row:Array ae)(listed:Array Bool)(u:af):Prop where
 ord:listed.getD 31 false=true->listed.getD 30 false=true
 kw:Kw v u
 no:listed.getD 30 false=false->u.heap.size=b
 yes:listed.getD 30 false=true->∃r,u.heap[b]?=some (.cells r 42)/\r.size=9
 laid:listed.getD 31 false=true->u.heap[b]?=some (.cells row 42)
theorem yf.on{v u u':af}{b:Nat}{row:Array ae}{i:Nat}(h:yf v b row listed u)(h1:i≠30)(h2:i≠31)(e:u'.heap=u.heap):yf v b row (listed.setIfInBounds i true) u':=by
 have Y:=getD_set_ne (l:=listed) (Ne.symm h1);have K:=getD_set_ne (l:=listed) (Ne.symm h2);exact⟨by rw[Y,K];exact h.ord,fun a H=>by rw[e];exact h.kw a H,by rw[Y,e];exact h.no,by rw[Y,e];exact h.yes,by rw[K,e];exact h.laid⟩
section
variable{Q:QT}{R:ae->af->Prop}{v:af}{k:List Item}{u:Nat->ae}{s:ByteArray}{l I:ae}{n i:Int}{g b cap:Nat}{P:Nat->ByteArray}{Z:Nat->Int}{cur:Array ae}
theorem adW(M:v.heap[g]?=some (.cells cur 9))(U:∀j,j<9->cur[j]?=some (.string (P j)))(qX:kS (P 1)=Z 1)(hz3:kS (P 3)=Z 3)(Mm:(P 1).size<=100000000)(hs3:(P 3).size<=100000000)(hb:b=v.heap.size)
  (kk:∀v',Kw v v'->v'.heap[b]?=some (.cells (ng P Z) 42)->GW false Q R 25 (.inRegion uz []::k) (tf u s l I (.slice (some ⟨g,0,none⟩) 9 cap) n i g b P Z true) v'):
  GW false Q R 25 (.code (.region 12 uz true)::k) (tf u s l I (.slice (some ⟨g,0,none⟩) 9 cap) n i g b P Z false) v:=by
 have K:∃F,PR.funcs[25]?=some F:=⟨_,cS⟩;have num:∀(x:ByteArray) (z:Int) (listed:Array Bool) (m:Nat) (w:af),m≠30->m≠31->x.size<=100000000->kS x=z->yf v b (ng P Z) listed w->iW Q 26 #[.string x] w fun y v'=>y=ii z/\yf v b (ng P Z) (listed.setIfInBounds m true) v':=fun x z listed m w h1 h2 hx W Y=>
  aX (R:=fun y v'=>y=ii z/\yf v b (ng P Z) (listed.setIfInBounds m true) v') (by decide) fun T=>(G6 x (tp w T) hx).mono fun e w' h=>⟨_,h.1,by rw[W],Y.on h1 h2 (by rw[h.2];rfl)⟩
 refine GW.Tl (A:=tf u s l I (.slice (some ⟨g,0,none⟩) 9 cap) n i g b P Z true) (yf v b (ng P Z)) ?_ [0,1,3,4,7,8,10,11,14,15,17,18,20,21,23,24,26,27,29] ?_ ?_ ?_ K
 ·refine⟨fun h=>?_,.refl v,fun _=>hb.symm,fun h=>?_,fun h=>?_⟩<;>simp[aY]at h
 ·intro j J listed w Y;exact Y.on (by rintro rfl;simp at J) (by rintro rfl;simp at J) rfl
 ·intro j listed J hn d hf ha;rw[Dg]at J;have:j=2\/j=5\/j=9\/j=12\/j=16\/j=19\/j=22\/j=25\/j=28\/j=6\/j=13\/j=30\/j=31:=by simp at hn;omega
  rcases this with rfl|rfl|rfl|rfl|rfl|rfl|rfl|rfl|rfl|rfl|rfl|rfl|rfl
  ·exact .ld K fun w Y=>⟨mO 0 ss (Y.kw.at M) (U 0 (by omega)),Y.on (by omega) (by omega) rfl⟩
  ·exact .ld K fun w Y=>⟨mO 1 ss (Y.kw.at M) (U 1 (by omega)),Y.on (by omega) (by omega) rfl⟩
  ·exact .ld K fun w Y=>⟨mO 2 ss (Y.kw.at M) (U 2 (by omega)),Y.on (by omega) (by omega) rfl⟩
  ·exact .ld K fun w Y=>⟨mO 3 ss (Y.kw.at M) (U 3 (by omega)),Y.on (by omega) (by omega) rfl⟩
  ·exact .ld K fun w Y=>⟨mO 4 ss (Y.kw.at M) (U 4 (by omega)),Y.on (by omega) (by omega) rfl⟩
  ·exact .ld K fun w Y=>⟨mO 5 ss (Y.kw.at M) (U 5 (by omega)),Y.on (by omega) (by omega) rfl⟩
  ·exact .ld K fun w Y=>⟨mO 6 ss (Y.kw.at M) (U 6 (by omega)),Y.on (by omega) (by omega) rfl⟩
  ·exact .ld K fun w Y=>⟨mO 7 ss (Y.kw.at M) (U 7 (by omega)),Y.on (by omega) (by omega) rfl⟩
  ·exact .ld K fun w Y=>⟨mO 8 ss (Y.kw.at M) (U 8 (by omega)),Y.on (by omega) (by omega) rfl⟩
  ·exact .call K fun w Y=>num (P 1) (Z 1) listed 6 w (by omega) (by omega) Mm qX Y
  ·exact .call K fun w Y=>num (P 3) (Z 3) listed 13 w (by omega) (by omega) hs3 hz3 Y
  ·intro is a w Y G N;have f0:listed.getD 30 false=false:=by
    have H:30<listed.size:=by rw[d,Dg];omega
    simpa[aY,H]using hf
   have C:=Y.no f0;obtain⟨q,h1,h2⟩:=xr ahU;rw[show dv uz (tf u s l I (.slice (some ⟨g,0,none⟩) 9 cap) n i g b P Z true) 30=ptr b by kernel_rfl]at N;refine GW.vl (v1:=w.alloc (.cells (Value.agg #[.string nS,ii 0,.string nS,ii 0,.string nS,.string nS,.string nS,.string nS,.string nS]).cells 42)) (x:=ptr b) K (G.ex.trans (show mU uz 30 (tf u s l I (.slice (some ⟨g,0,none⟩) 9 cap) n i g b P Z true)=some (sL (Instr.alloc 42 true (.tuple #[]))) by kernel_rfl)) (by simp[go_sem,Instr.alloc,zeroValue,cT,h1,h2,C,ptr]) rfl (N _ ?_);have D:(listed.setIfInBounds 30 true).getD 30 false=true:=by
    have H:30<listed.size:=by rw[d,Dg];omega
    simp[aY,H]
   have S:=getD_set_ne (l:=listed) (i:=30) (m:=31) (by omega);exact⟨fun _=>D,Y.kw.trans (.alloc w _),(fun h=>by rw[D]at h;cases h),fun _=>⟨_,C▸et w _,rfl⟩,(fun h=>by rw[S]at h;rw[Y.ord h]at f0;cases f0)⟩
  ·intro is a w Y G N;have H:listed.getD 30 false=true:=by
    have hx:(uz[31]?).any (fun o=>o.after.any fun e=>e.on==30&&bj .any e)=true:=by kernel_rfl
    obtain⟨o,ho,hx⟩:=(Option.any_eq_true _ _).1 hx;obtain⟨e,he,hx⟩:=dB.1 hx;simp only[bM,beq_iff_eq]at hx;exact hx.1▸ha o ho e he hx.2
   obtain⟨r,hr,E⟩:=Y.yes H;obtain⟨w',S,f,e3,p,O,V,e6,t⟩:=PA (B:=b) (ng P Z).toList 0 r w (by simp[ng,ii,Value.oneCell']) hr (by rw[E];exact ao _);have L:O=ng P Z:=dC fun j=>by
    rw[t j];by_cases J:j<9
    ·rw[if_pos ⟨bh _,by show j<0+9;omega⟩,dq,cz]
    ·rw[if_neg (by show¬(0<=j/\j<0+9);omega),cV (by omega),cV (by show 9<=j;omega)]
   rw[L]at V;obtain⟨q,h1,h2⟩:=xr ahV;rw[show dv uz (tf u s l I (.slice (some ⟨g,0,none⟩) 9 cap) n i g b P Z true) 31=undef by kernel_rfl]at N;refine GW.sk (v1:=w') K (G.ex.trans (show mU uz 31 (tf u s l I (.slice (some ⟨g,0,none⟩) 9 cap) n i g b P Z true)=some (Bu (cY 42 (ptr b) (.agg (ng P Z)))) by kernel_rfl)) ?_ f (N w' ?_)
   ·have W:(ng P Z).size=9:=rfl;simp[go_sem,storeVar,sizeOf,cT,h1,h2,bT,ptr,W,S]
   ·have D:(listed.setIfInBounds 31 true).getD 30 false=true:=(getD_set_ne (by omega)).trans H;exact⟨fun _=>D,fun c X=>(p c (by omega)).trans (Y.kw c X),(fun h=>by rw[D]at h;cases h),fun _=>⟨_,V,rfl⟩,fun _=>V⟩
 ·intro v' listed all Y;exact kk v' Y.kw (Y.laid (all 31 (by rw[Dg];omega)))
end
def rL:Code:=cp [2,2,2,2,2,1,2,1,1] lp
def oY:List Item:=[.inBlock 0,.code (cp [2,2,2,2,2,2] lp)]
section
variable{u:Nat->ae}{s:ByteArray}{l I pv:ae}{n i:Int}{g b:Nat}{P:Nat->ByteArray}{Z:Nat->Int}{w:af}
def MA(s:ByteArray)(l I pv:ae)(n i:Int)(b:Nat)(a:Array ae):Prop:=a=qZ (fun j=>a.getD j undef) s l I n i/\a.getD 8 undef=pv/\a.getD 9 undef=ptr b
theorem ahW(h:w.heap[b]?=some (.cells (ng P Z) 42))(h1:0<=Z 1)(U:0<=Z 3):(cp [2,1,1,2,2,2,1,1] rL).wp PR (fun e a' v'=>e=.normal/\a'.defers=[]/\(MA s l I pv n i b a'.tmps/\a'.tmps.getD 89 undef=.bool false)/\v'.heap=w.heap) ⟨tf u s l I pv n i g b P Z true,[]⟩ w:=by
 have c1:w.cell? ⟨b,1,none⟩=some (ii (Z 1)):=by simp[ar,h,ng]
 have H:w.cell? ⟨b,3,none⟩=some (ii (Z 3)):=by simp[ar,h,ng]
 clear h;obtain⟨Q,Y⟩:∃Q:Exit->Act->af->Prop,Q=(fun e a' v'=>e=.normal/\a'.defers=[]/\(MA s l I pv n i b a'.tmps/\a'.tmps.getD 89 undef=.bool false)/\v'.heap=w.heap):=⟨_,rfl⟩;rw[<-Y];have K:=laid Y;clear Y;generalize Z 1=D at *;generalize Z 3=z3 at *;unfold rL lp cx tf;simp only[ay,cp,qk,if_true,ptr];go_wp2
 rw[K.out];exact⟨rfl,rfl,⟨⟨by kernel_rfl,by kernel_rfl,by kernel_rfl⟩,congrArg Value.bool (by rw[decide_eq_false (by omega),decide_eq_false (by omega)];rfl)⟩,rfl⟩
theorem ahX{B:Nat}(u9:u 9=ptr b)(h:w.heap[b]?=some (.cells (ng P Z) 42))(U:w.ownsRow B 42 9 l j xs)(y:B<=w.heap.size)(Y:j<=100000001):
  (cp [2,1,1,2,2,2,2] rL).wp PR (fun e a' v'=>e=.normal/\a'.defers=[]/\∃l',(a'.tmps=qZ (fun j=>a'.tmps.getD j undef) s l' I n i)/\v'.ownsRow B 42 9 l' (j+1) (xs++(ng P Z).toList)/\∀c,c<B->v'.heap[c]?=w.heap[c]?) ⟨qZ u s l I n i,[]⟩ w:=by
 obtain⟨i0,G,R,A,C⟩:=info_parts afw;have c:∀k x,(ng P Z)[k]?=some x->w.cell? ⟨b,k,none⟩=some x:=fun k x hx=>by rw[cy w _ k _ _ _ h];exact hx
 have c0:w.cell? ⟨b,0,none⟩=some (.string (P 0)):=c 0 _ rfl;have c1:w.cell? ⟨b,1,none⟩=some (ii (Z 1)):=c 1 _ rfl;have c2:w.cell? ⟨b,2,none⟩=some (.string (P 2)):=c 2 _ rfl;have c3:w.cell? ⟨b,3,none⟩=some (ii (Z 3)):=c 3 _ rfl;have c4:w.cell? ⟨b,4,none⟩=some (.string (P 4)):=c 4 _ rfl;have c5:w.cell? ⟨b,5,none⟩=some (.string (P 5)):=c 5 _ rfl;have c6:w.cell? ⟨b,6,none⟩=some (.string (P 6)):=c 6 _ rfl;have d:w.cell? ⟨b,7,none⟩=some (.string (P 7)):=c 7 _ rfl;have f:w.cell? ⟨b,8,none⟩=some (.string (P 8)):=c 8 _ rfl;obtain⟨Q,D⟩:∃Q:Exit->Act->af->Prop,Q=(fun e a' v'=>e=.normal/\a'.defers=[]/\∃l',(a'.tmps=qZ (fun j=>a'.tmps.getD j undef) s l' I n i)/\v'.ownsRow B 42 9 l' (j+1) (xs++(ng P Z).toList)/\∀c,c<B->v'.heap[c]?=w.heap[c]?):=⟨_,rfl⟩;rw[<-D];have V:=laid D;have X:Hid ((ng P Z).toList=[.string (P 0),ii (Z 1),.string (P 2),ii (Z 3),.string (P 4),.string (P 5),.string (P 6),.string (P 7),.string (P 8)]):=laid rfl;clear D c h;generalize Z 1=T at *;generalize Z 3=z3 at *;generalize P 0=F at *;generalize P 2=J at *;generalize P 4=L at *;generalize P 5=M at *;generalize P 6=N at *;generalize P 7=O at *;generalize P 8=S at *;unfold rL lp cx qZ;simp only[ay,cp,u9,ptr];go_wp2_with(first
  |(at_builtin;refine wpList_append_own _ rfl _ _ 38 rfl B 42 i0 (.agg #[.string nS,.int .i64 0,.string nS,.int .i64 0,.string nS,.string nS,.string nS,.string nS,.string nS]) 9 128 Tryz.underlying38 G R A C rfl (by decide) _ _ _ rfl (U.alloc _) ⟨w.heap.size,0,none⟩ 1 1 [.string F,ii T,.string J,ii z3,.string L,.string M,.string N,.string O,.string S] rfl rfl ?c1 ?c2 ?c3 ?c4 ?c5 ?_)
  |go_in)
 case c1=>
  intro j x Y
  match j,Y with
  |0,Y|1,Y|2,Y|3,Y|4,Y|5,Y|6,Y|7,Y|8,Y=>simp at Y;subst Y;simp[Addr.add,go_sem]
 case c2=>intro x hx;simp at hx;rcases hx with rfl|rfl|rfl|rfl|rfl|rfl|rfl|rfl|rfl<;>rfl
 case c3=>unfold az;omega
 case c4=>omega
 case c5=>simp;omega
 intro v' z H K _;have hk:∀c,c<B->z.heap[c]?=w.heap[c]?:=fun c E=>by
  have:=((Below.refl B w).alloc y (.cells #[.string F,ii T,.string J,ii z3,.string L,.string M,.string N,.string O,.string S] 42)).grown K (by simp;omega) (fun q W=>(U.lt q W).1);exact this.block c E
 go_wp2
 rw[V.out];exact⟨rfl,rfl,v',by kernel_rfl,by rw[X.out];exact H,hk⟩
end
theorem ajS:PR.underlying 65=some (.slice (PR.elem 65)):=by kernel_rfl
theorem ahY:(PR.info? (PR.elem 65)).map (·.size)=some 1:=by kernel_rfl
theorem RH{Q:QT}{v:af}{s:ByteArray}{c:UInt8}(U:s.size<=100000000):iW Q 40 #[.string s,.int .u8 (c.toNat:Int)] v fun y v'=>v'.ownsRow v.heap.size 9 1 y (iZ s c (s.size+1)).length ((iZ s c (s.size+1)).map sV)/\Kw v v':=
 aX (R:=fun y v'=>v'.ownsRow v.heap.size 9 1 y (iZ s c (s.size+1)).length ((iZ s c (s.size+1)).map sV)/\Kw v v') (by decide) fun T=>(Pp s c (tp v T) U).mono fun e w' ⟨y,h1,h2,Y⟩=>⟨y,h1,h2,fun a K=>Y.block a K⟩
def Tm(x:ByteArray):Prop:=x.size<=100000000/\(ot x).length=9/\0<=kS ((ot x).getD 1 nS)/\0<=kS ((ot x).getD 3 nS)
section
variable{Q:QT}{R:ae->af->Prop}{v0:af}{s:ByteArray}{L:List ByteArray}{g cap N:Nat}{cur:Array ae}
theorem adX(hg:v0.heap[g]?=some (.cells cur 9))(M:∀j,j<N->cur[j]?=some (.string (L.getD j nS)))(hN:N<=100000001)(ak0:∀j,j+2<N->Tm (L.getD (j+1) nS))
  (kk:∀u l v,Kw v0 v->v.ownsRow v0.heap.size 42 9 l (N-2) (xq L (N-2))->GW false Q R 25 [.code (cp [2,2,2,2,2,2] lp)] (qZ u s l (.slice (some ⟨g,0,none⟩) N cap) N (N-1:Nat)) v):
  ∀m j,j+m+2=N->∀u l v,Kw v0 v->v.ownsRow v0.heap.size 42 9 l j (xq L j)->GW false Q R 25 (.code rL:: .inLoop rL::oY) (qZ u s l (.slice (some ⟨g,0,none⟩) N cap) N (j+1:Nat)) v:=by
 have Y:∃F,PR.funcs[25]?=some F:=⟨_,cS⟩;intro m;induction m with
 |zero=>
  intro j r u l v K D;obtain rfl:N=j+2:=by omega
  refine GW.run 3 (k':=.inRegion (opsOf (cp [1,1] rL)) [0,1,2,3]:: .code (cp [1,2] rL):: .code (cp [2] rL):: .inLoop rL::oY) ?_;refine ah Y [0,1,2,3] ?_;refine GW.run 1 (k':=.code (.cond (.tmp 41) .skip (.exit 0)):: .code (cp [2] rL):: .inLoop rL::oY) ?_;refine aJ Y (t:=decide (ak.wrap (((j+1:Nat):Int)+1)<((j+2:Nat):Int))) trivial (by kernel_rfl) ?_;rw[Jo (by unfold az;omega),show decide (((j+1+1:Nat):Int)<((j+2:Nat):Int))=false from decide_eq_false (by omega)];refine GW.run 1 (k':=[.code (cp [2,2,2,2,2,2] lp)]) ?_;exact GW.any (fun u=>qZ u s l (.slice (some ⟨g,0,none⟩) (j+2) cap) (j+2:Nat) (j+1:Nat)) (by kernel_rfl) fun h=>kk h l v K D
 |succ m b=>
  intro j r u l v K D;obtain⟨z,q,z1,z3⟩:=ak0 j (by omega);refine GW.run 3 (k':=.inRegion (opsOf (cp [1,1] rL)) [0,1,2,3]:: .code (cp [1,2] rL):: .code (cp [2] rL):: .inLoop rL::oY) ?_;refine ah Y [0,1,2,3] ?_;refine GW.run 1 (k':=.code (.cond (.tmp 41) .skip (.exit 0)):: .code (cp [2] rL):: .inLoop rL::oY) ?_;refine aJ Y (t:=decide (ak.wrap (((j+1:Nat):Int)+1)<(N:Int))) trivial (by kernel_rfl) ?_;rw[Jo (by unfold az;omega),show decide (((j+1+1:Nat):Int)<(N:Int))=true from decide_eq_true (by omega)];refine GW.any (fun u=>qZ u s l (.slice (some ⟨g,0,none⟩) N cap) N (j+1:Nat)) (by kernel_rfl) fun u1=>?_;refine GW.run 5 (k':=.inRegion (opsOf (cp [2,1,1,1] rL)) [0,1,2,3,4,5]:: .code (cp [2,1,1,2] rL):: .inBlock 1:: .code (cp [2,2] rL):: .inLoop rL::oY) ?_;refine ah Y [0,1] ?_;refine GW.ix Y (t:=65) (B:=g) (off:=0) (n:=N) (cap:=cap) (j:=j+1) (by omega) ajS ahY ?_;refine aW Y (mO (0+(j+1) *1) ss (K.at hg) (by rw[show 0+(j+1) *1=j+1 by omega];exact M _ (by omega))) ?_;refine GW.call Y (RH (c:=9) z) ?_;rintro y v1 ⟨A,d⟩;obtain⟨Z,I,W,rfl,p,O,H⟩:=Pr A (by show 1<=(ot _).length;omega);change∀i,i<(ot (L.getD (j+1) nS)).length->_ at H;rw[q]at H;rw[show(iZ (L.getD (j+1) nS) 9 ((L.getD (j+1) nS).size+1)).length=9 from q];refine ah Y [5] ?_;refine GW.run 4 (k':=.inRegion (opsOf (cp [2,1,1,2,1,1] rL)) [0,1,2]:: .code (cp [2,1,1,2,1,2] rL):: .code (cp [2,1,1,2,2] rL):: .inBlock 1:: .code (cp [2,2] rL):: .inLoop rL::oY) ?_;refine ah Y [0,1,2] ?_;refine GW.run 1 (k':=.code (.cond (.tmp 51) (cp [2,1,1,2,1,2,1] rL) .skip):: .code (cp [2,1,1,2,2] rL):: .inBlock 1:: .code (cp [2,2] rL):: .inLoop rL::oY) ?_;refine aJ Y (t:=false) trivial (by kernel_rfl) ?_;refine GW.run 2 (k':=.code (.region 12 uz true):: .code (cp [2,1,1,2,2,2] rL):: .inBlock 1:: .code (cp [2,2] rL):: .inLoop rL::oY) ?_;refine GW.any (fun u=>tf u s l (.slice (some ⟨g,0,none⟩) N cap) (.slice (some ⟨Z,0,none⟩) 9 I) N (j+1:Nat) Z v1.heap.size (fun k=>(ot (L.getD (j+1) nS)).getD k nS) (fun k=>kS ((ot (L.getD (j+1) nS)).getD k nS)) false) (by kernel_rfl) fun u2=>?_;have S:∀k,((ot (L.getD (j+1) nS)).getD k nS).size<=100000000:=fun k=>by
   rw[aj];cases e:(ot (L.getD (j+1) nS))[k]? with
   |none=>exact bh _
   |some x=>exact aO (CR _ 9 _ x (bu e)) z
  refine adW O H rfl rfl (S 1) (S 3) rfl fun v2 K2 J=>?_;refine GW.run 3 (k':=.code (cp [2,1,1,2,2,2,1,1] rL):: .code (cp [2,1,1,2,2,2,1,2] rL):: .code (cp [2,1,1,2,2,2,2] rL):: .inBlock 1:: .code (cp [2,2] rL):: .inLoop rL::oY) ?_;refine aM Y (by kernel_rfl) (R1:=fun a' v'=>(MA s l (.slice (some ⟨g,0,none⟩) N cap) (.slice (some ⟨Z,0,none⟩) 9 I) N (j+1:Nat) v1.heap.size a'/\a'.getD 89 undef=.bool false)/\v'.heap=v2.heap) (by kernel_rfl) (fun T=>ahW (w:=tp v2 T) J z1 z3) ?_;rintro a3 v3 ⟨⟨⟨o,_,f⟩,V⟩,P⟩;refine GW.run 0 (k':=.code (.cond (.tmp 89) (cp [2,1,1,2,2,2,1,2,1] rL) .skip):: .code (cp [2,1,1,2,2,2,2] rL):: .inBlock 1:: .code (cp [2,2] rL):: .inLoop rL::oY) ?_;refine aJ Y (t:=false) trivial V ?_;refine GW.run 1 (k':=.code (cp [2,1,1,2,2,2,2] rL):: .inBlock 1:: .code (cp [2,2] rL):: .inLoop rL::oY) ?_;rw[o];have K3:Kw v v3:=(d.trans K2).trans fun a E=>by rw[P]
  have C:=K.trans K3;refine aM Y (by kernel_rfl) (R1:=fun a' v'=>∃l',(a'=qZ (fun j=>a'.getD j undef) s l' (.slice (some ⟨g,0,none⟩) N cap) N (j+1:Nat))/\v'.ownsRow v0.heap.size 42 9 l' (j+1) (xq L j++(ng (fun k=>(ot (L.getD (j+1) nS)).getD k nS) (fun k=>kS ((ot (L.getD (j+1) nS)).getD k nS))).toList)/\∀c,c<v0.heap.size->v'.heap[c]?=v3.heap[c]?) (by kernel_rfl) (fun T=>ahX (w:=tp v3 T) f (by show v3.heap[_]?=_;rw[P];exact J) (Bb D K3) C.size (by omega)) ?_;rintro a4 v4 ⟨l',X,U,G⟩;rw[X];refine GW.run 2 (k':=.inRegion (opsOf (cp [2,2] rL)) [0,1,2]:: .inLoop rL::oY) ?_;refine ah Y [0,1,2] ?_;refine GW.run 2 (k':=.code rL:: .inLoop rL::oY) ?_;refine GW.any (fun u=>qZ u s l' (.slice (some ⟨g,0,none⟩) N cap) N (ak.wrap (((j+1:Nat):Int)+1))) (by kernel_rfl) fun u5=>?_;rw[Jo (by unfold az;omega)];exact b (j+1) (by omega) u5 l' v4 (fun a E=>(G a E).trans (C a E)) U
end
def Aj(u:Nat->ae)(s:ByteArray)(I:ae)(n:Int):Array Value:=#[.string s,u 1,u 2,u 3,.slice none 0 0,I,ii n,u 7,u 8,u 9,u 10,u 11,u 12,u 13,u 14,u 15,u 16,u 17,u 18,u 19,u 20,u 21,u 22,u 23,u 24,u 25,u 26,u 27,u 28,u 29,u 30,u 31,u 32,u 33,u 34,u 35,u 36,u 37,u 38,u 39,u 40,u 41,u 42,u 43,u 44,u 45,u 46,u 47,u 48,u 49,u 50,u 51,u 52,u 53,u 54,u 55,u 56,u 57,u 58,u 59,u 60,u 61,u 62,u 63,u 64,u 65,u 66,u 67,u 68,u 69,u 70,u 71,u 72,u 73,u 74,u 75,u 76,u 77,u 78,u 79,u 80,u 81,u 82,u 83,u 84,u 85,u 86,u 87,u 88,u 89,u 90,u 91,u 92,u 93,u 94]
section
variable{Q:QT}{v:af}{s:ByteArray}{L:List ByteArray}{u:Nat->ae}{g cap N:Nat}{cur:Array ae}{w:af}
theorem ajT{l0:ByteArray}(U:w.heap[g]?=some (.cells cur 9))(c0:cur[0]?=some (.string l0))(c1:cur[N-1]?=some (.string nS))(M:2<=l0.size)(F:l0.size<=100000000)(Y:at8 l0 0=64)(hn:2<=N)(O:N<=100000001):
  (cp [2,2,2,2,1,1] lp).wp PR (fun e a' v'=>e=.normal/\a'.defers=[]/\(a'.tmps=Aj (fun j=>a'.tmps.getD j undef) s (.slice (some ⟨g,0,none⟩) N cap) N/\a'.tmps.getD 37 undef=.bool false)/\v'.heap=w.heap) ⟨Aj u s (.slice (some ⟨g,0,none⟩) N cap) N,[]⟩ w:=by
 have R:w.cell? ⟨g,0,none⟩=some (.string l0):=by rw[cy w _ 0 _ _ _ U];exact c0
 have d1:w.cell? ⟨g,N-1,none⟩=some (.string nS):=by rw[cy w _ _ _ _ _ U];exact c1
 have K:=mn l0 0 (by omega);rw[Y]at K;have I:ak.wrap ((N:Int)-1)=((N-1:Nat):Int):=by rw[aQ _ (by omega)];omega
 have A:((N-1:Nat):Int)<(N:Int):=by omega
 have B:((N:Int)<2)=False:=by simp;omega
 have C:((l0.size:Int)<2)=False:=by simp;omega
 have J:(0:Int)<(l0.size:Int):=by omega
 clear U c0 c1 Y;obtain⟨Q,H⟩:∃Q:Exit->Act->af->Prop,Q=(fun e a' v'=>e=.normal/\a'.defers=[]/\(a'.tmps=Aj (fun j=>a'.tmps.getD j undef) s (.slice (some ⟨g,0,none⟩) N cap) N/\a'.tmps.getD 37 undef=.bool false)/\v'.heap=w.heap):=⟨_,rfl⟩;rw[<-H];have D:=laid H;clear H;unfold lp cx Aj;simp only[ay,cp];go_wp2
 rw[D.out];exact⟨rfl,rfl,⟨by kernel_rfl,by kernel_rfl⟩,rfl⟩
theorem afW(hs:s.size<=100000000)(hL:iZ s 10 (s.size+1)=L)(hn:2<=L.length)(U:L.getD (L.length-1) nS=nS)(h0:2<=(L.getD 0 nS).size)(O:at8 (L.getD 0 nS) 0=64)(M:∀j,j+2<L.length->Tm (L.getD (j+1) nS)):
  iW Q 25 #[.string s] v fun y v'=>∃l,y=.tuple #[l,.bool true]/\v'.ownsRow v.heap.size 42 9 l (L.length-2) (xq L (L.length-2))/\Kw v v':=by
 have Y:∃F,PR.funcs[25]?=some F:=⟨_,cS⟩;have H:L.length<=100000001:=by rw[<-hL];exact aO (Il s 10 _) (by omega)
 have C:(L.getD 0 nS).size<=100000000:=by
  rw[aj];cases e:L[0]? with
  |none=>exact bh _
  |some x=>exact aO (CR s 10 _ x (hL▸bu e)) hs
 refine iW.of (n:=95) cS ahT (by kernel_rfl) ?_;refine GW.run 2 (k':=[.inRegion (opsOf (cp [1] lp)) [0,1],.code (cp [2] lp)]) ?_;refine ah Y [0,1] ?_;refine GW.run 3 (k':=[.inRegion (opsOf (cp [2,1] lp)) [0],.code (cp [2,2] lp)]) ?_;refine ah Y [0] ?_;refine GW.run 3 (k':=[.inRegion (opsOf (cp [2,2,1] lp)) [0,1,2],.code (cp [2,2,2] lp)]) ?_;refine ah Y [0] ?_;refine GW.call Y (RH (c:=10) hs) ?_;rw[hL];rintro y v1 ⟨D,J⟩;obtain⟨g,cap,N,rfl,V,I,K⟩:=Pr D (by omega);refine ah Y [2] ?_;refine GW.run 3 (k':=[.inRegion (opsOf (cp [2,2,2,1] lp)) [0,1,2],.code (cp [2,2,2,2] lp)]) ?_;refine ah Y [0,1,2] ?_;refine GW.run 3 (k':=[.code (cp [2,2,2,2,1,1] lp),.code (cp [2,2,2,2,1,2] lp),.code (cp [2,2,2,2,2] lp)]) ?_;refine GW.any (fun u=>Aj u s (.slice (some ⟨g,0,none⟩) L.length cap) L.length) (by kernel_rfl) fun u1=>?_;refine aM Y (by kernel_rfl) (R1:=fun a' v'=>(a'=Aj (fun j=>a'.getD j undef) s (.slice (some ⟨g,0,none⟩) L.length cap) L.length/\a'.getD 37 undef=.bool false)/\v'.heap=v1.heap) (by kernel_rfl) (fun T=>ajT (w:=tp v1 T) I (K 0 (by omega)) (by rw[K _ (by omega),U]) h0 C O hn H) ?_;rintro a2 v2 ⟨⟨P,B⟩,A⟩;refine GW.run 0 (k':=[.code (.cond (.tmp 37) (cp [2,2,2,2,1,2,1] lp) .skip),.code (cp [2,2,2,2,2] lp)]) ?_;refine aJ Y (t:=false) trivial B ?_;refine GW.run 4 (k':=[.inRegion (opsOf (cp [2,2,2,2,2,1,1] lp)) [0],.code (cp [2,2,2,2,2,1,2] lp),.code (cp [2,2,2,2,2,2] lp)]) ?_;rw[P];refine ah Y [0] ?_;refine GW.run 3 (k':=.code rL:: .inLoop rL::oY) ?_;refine GW.any (fun u=>qZ u s (.slice none 0 0) (.slice (some ⟨g,0,none⟩) L.length cap) L.length ((0+1:Nat):Int)) (by kernel_rfl) fun u3=>?_;have K2:Kw v v2:=J.trans fun a S=>by rw[A]
 refine adX (v0:=v2) (by rw[A];exact I) K H M (fun u l v3 K3 R=>?_) (L.length-2) 0 (by omega) u3 _ v2 (.refl v2) ⟨rfl,.inl ⟨rfl,rfl⟩⟩;refine GW.run 2 (k':=[.inRegion (opsOf (cp [2,2,2,2,2,2,1] lp)) [0,1,2],.code .ret]) ?_;refine ah Y [0,1,2] ?_;refine GW.run 1 (k':=[.code .ret]) ?_;exact GW.Ug Y 2 3 ⟨l,by kernel_rfl,CQ R K2.size,K2.trans K3⟩
end
end Ph
namespace Ph
open Conc ConcM Ren RowKit
theorem HJ{W:af}{n:String}{k:IntKind}{zs:List Int}{g m:Nat}{t e:aV}(h:Lib.VarReads PR W n (cD k zs))(M:Program.globalNamed PR n=some g)(T:((PR).globals[g]?).map (·.type)=some t)(y:PR.underlying t=some (.array m e))(O:PR.underlying e=some (.int k))(U:PR.cellsOf e=1)(F:PR.cellsOf t=m):
  ∃(c:Array ae) (t':aV) (fz:Nat×Nat),W.heap[g]?=some (.cells c t' fz)/\∀x∈c,∃k n,x=bU k n:=by
 obtain⟨I,t1,cs,fuel,p,h1,h2,Y,D⟩:=h;obtain rfl:=Option.some.inj (M.symm.trans h1);obtain rfl:=Option.some.inj (T.symm.trans h2);have H:=Lib.cells_of_tab y O U F D;unfold World.var? at Y;rw[M]at Y;simp only[Option.bind_some]at Y;split at Y
 ·rename_i c t' fz R;cases Y;refine⟨_,t',fz,R,fun x hx=>?_⟩;have K:x∈cs.toList:=by simpa using hx
  rw[H]at K;obtain⟨z,_,rfl⟩:=aN.1 K;exact⟨_,_,rfl⟩
 ·cases Y
def Uh:bY Unit->List Int
 |.agg l=>l.map fun|.lit (.int _ z)=>z|_=>0
 |_=>[]
theorem Nq{W:af}(h:laidMetH ai vf W):lb W:=by
 have e:vf=[("math/bits.deBruijn32tab",(cD .u8 (Uh Rows.laid_math_bits_deBruijn32tab))),("math/bits.deBruijn64tab",(cD .u8 (Uh Rows.laid_math_bits_deBruijn64tab))),("internal/strconv.uint64pow10",(cD .u64 Lib.pow10Tab))]:=by kernel_rfl
 rw[e]at h;have r0:=HJ (c7 h (.tail _ (.tail _ (.head _)))) (g:=0) (by kernel_rfl) (by kernel_rfl) Tryz.underlying202 Tryz.underlying176 (by kernel_rfl) (by kernel_rfl);have r1:=HJ (c7 h (.head _)) (g:=2) (by kernel_rfl) (by kernel_rfl) Tryz.underlying245 ek (by kernel_rfl) (by kernel_rfl);have r2:=HJ (c7 h (.tail _ (.head _))) (g:=3) (by kernel_rfl) (by kernel_rfl) Tryz.underlying246 ek (by kernel_rfl) (by kernel_rfl);intro g Y;rcases Y with rfl|rfl|rfl
 ·omega
 ·omega
 ·omega
theorem YC:PR.globals.size<=4:=of_decide_eq_true (by simp)
theorem YD{W:af}(h:lb W):PR.globals.size<=W.heap.size:=by
 obtain⟨_,_,_,Y,_⟩:=h 3 (.inr (.inr rfl));have:=j8 Y;have:=YC;omega
theorem Wi{H:Type}{enc:aV×ae->H}{a:Assume}{C:Checked}{os:Os}{f:aI}{fn:Func}{s:ChangeSpec}{F:Stop.Interp}{Y:List PathCond}{apart fresh handsOn:Bool}{X:af->Array ae->Prop}
  (hX:∀(w w':af) (args:Array ae),w.heap=w'.heap->X w args->X w' args)
  (own:ownKnob C.prog.godebug=none)(O:os.Started)(EX:C.prog.funcs[f]?=some fn)
  (T:∃(w:af) (tape:Tape) (i:Input),w.os=os/\(w.forCall tape i).Shaped C.prog/\i.vars=[]/\Input.okWide C.prog (w.forCall tape i) .any w.heap.size f i/\
   ((s.pre enc C.prog fn Y apart (w.forCall tape i).memory i.args/\X (w.forCall tape i).memory i.args)/\sizedMet enc C.prog fn (dt s) apart (w.forCall tape i).memory i.args)/\a.holds C.prog (lone (Frame.enter C.prog f i.args .normal) [] (w.forCall tape i)))
  (runs:∀(W:af) (base:Nat) (args:Array ae) (y gs:List (bY H)) (U:List cO),
   (∀(j:Nat) t v,fn.params[j]?=some t->args[j]?=some v->bm C.prog W .any base t v)->
   DataW.Whole enc C.prog fn.params.toList s.vars apart W args.toList y gs U->
   Y.all (PathCond.test C.prog ⟨fn.params.toList,y,s.plain.varTypes C.prog,gs⟩)=true->X W args->
   ∃M last o w' t',runNT C.prog (M+1) (solo (G (Frame.enter C.prog f args .normal) []) W) #[]=(.ended o w',t')/\runN C.prog M (solo (G (Frame.enter C.prog f args .normal) []) W)=.next last/\
    step C.prog last=.ended o w'/\Conc.Good C.prog (fun v W'=>s.post enc C.prog fn apart fresh handsOn false W args v {W' with os:=W.os}/\OsLater W.os W'.os) last o w' t'):
  ReturnsInLeavingWide a C os f .any (fun w args=>(s.pre enc C.prog fn Y apart w args/\X w args)/\sizedMet enc C.prog fn (dt s) apart w args) ((dt s).postWith enc C.prog fn F (outsideKept [.timePasses]) apart fresh handsOn):=by
 refine returnsInLeavingWide_of_good own O T ?_;intro w tape i _ _ _ A D I;obtain⟨_,_,_,je,K,_,_,_,_,R⟩:=A;have e:=Option.some.inj (K.symm.trans EX);subst e;obtain⟨⟨⟨y,gs,U,hw,N⟩,hx⟩,Q⟩:=D;have B:=DataW.Whole.of_heap (w':=w.forCall tape i) (by rfl) hw;obtain⟨M,last,o,w',t',h1,h2,J,L⟩:=runs _ _ _ y gs _ R B N (hX _ _ _ (by rfl) hx);obtain⟨v,e,hp,r1,r2,r3,P⟩:=L;exact⟨M,last,o,w',t',h1,h2,J,v,e,postWith_blind (postWith_of_post hp.1 hp.2),r1,r2,r3,P⟩
theorem Xh{W W':af}{d:Nat}(h:ie (fun _=>False) W W'):Below W.heap.size W {W'.at d with os:=W.os}/\OsLater W.os (W'.at d).os:=
 ⟨⟨rfl,h.tape,h.output,h.grow,fun k hk=>h.old k hk (fun _ _ y=>y)⟩,h.env⟩
end Ph
section
open ChangeShapes WideShapes ChangeAt RowKit Deep
theorem xc:ai.cellsOf 3=1:=by kernel_rfl
theorem uZ{n:Int}(h:(Lit.int .i64 n).wf=true):jj n:=by
 simp only[Lit.wf,bM,decide_eq_true_eq]at h;exact h
section
variable{H:Type}{enc:aV×ae->H}{W:af}{base b0:Nat}{I:Nat->Bool}{held:Bool}{d:bY H}{p:List cO}{v:ae}{r:Reach}
theorem afX(F:bm ai W r b0 25 v)(h:bN enc ai W base I held 25 v d p):∃a len cap zs,v=.slice a len cap/\ahk W a len zs:=by
 obtain⟨a,len,cap,rfl⟩:=okWide_slice dy F;obtain⟨fuel,B⟩:=h;refine⟨a,len,cap,?_⟩;rcases open_ints dy bC xc B with⟨Y,_⟩|⟨ad,A,D,zs,Y,_,M,N,J,_,R,hw⟩
 ·simp[bT]at Y;obtain⟨rfl,rfl,rfl⟩:=Y;exact⟨fun _=>0,rfl,.inl rfl⟩
 ·simp[bT]at Y;obtain⟨rfl,rfl,rfl⟩:=Y;refine⟨fun i=>zs.getD i 0,rfl,?_⟩;by_cases U:len=0
  ·exact .inl U
  have C:len<=zs.length:=by rw[J];split<;>omega
  obtain⟨b,off,sp⟩:=ad;have H:sp=none:=by
   have h2:=World.cell?_spot (R 0 (by omega));simpa[Addr.add]using h2
  subst H;have K:∀j,(⟨b,off,none⟩:Addr).add j=⟨b,off+j,none⟩:=by
   intro j;unfold Addr.add;split<;>simp_all
  refine .inr ⟨b,off,rfl,by omega,fun i L=>⟨by rw[<-K];exact R i (by omega),uZ (hw _ ?_)⟩⟩;simp only[aj,au (show i<zs.length by omega),ay];exact bt _
theorem Sz(Y:bm ai W r b0 3 v)(h:bN enc ai W base I held 3 v d p):∃n,v=.int .i64 n/\jj n:=by
 obtain⟨n,rfl,_,_,hw⟩:=open_int bC Y h;exact⟨n,rfl,uZ hw⟩
theorem abR:ai.cellsOf 28=3:=by kernel_rfl
theorem afY(F:bm ai W r b0 28 v)(h:bN enc ai W base I held 28 v d p):∃x y z,v=.agg #[.int .i64 x,.int .i64 y,.int .i64 z]/\jj x/\jj y/\jj z:=by
 obtain⟨cs,rfl,_⟩:=okWide_struct ej F;obtain⟨fuel,U⟩:=h;obtain⟨xs,m,_,_,K,H,Y⟩:=dK ej U;rw[abR]at K;obtain⟨cs⟩:=cs;simp only[bT]at K Y
 match cs,K with
 |[c0,c1,c2],_=>
  have hx:xs.length=3:=by simpa using H
  match xs,hx with
  |[x0,B,C],_=>
   have f0:cB enc ai W base I held m 3 [c0]=some x0:=by simpa[xc]using Y 0 _ rfl
   have f1:cB enc ai W base I held m 3 [c1]=some B:=by simpa[xc]using Y 1 _ rfl
   have f2:cB enc ai W base I held m 3 [c2]=some C:=by simpa[xc]using Y 2 _ rfl
   obtain⟨a0,D,_,z0⟩:=bO bC f0;obtain⟨a1,R,_,J⟩:=bO bC f1;obtain⟨a2,A,_,z2⟩:=bO bC f2;simp at D R A;subst D R A;exact⟨a0,a1,a2,rfl,uZ z0,uZ J,uZ z2⟩
end
end
section
open RowKit
theorem QF{b:List UInt8}(hx:∀c∈x,g_ c)(h1:1<=x.length)(h2:x.length<=200)(hb:∀c∈b,g_ c)(U:1<=b.length)(F:b.length<=30):na (str (iU x)) (str (jB b))=0/\ji (str (jB b)) 5 0=[(⟨#[97]⟩,str b,str (iY b.length))]:=by
 obtain⟨r1,r2⟩:=adl hb U F [] [];simp only[cM,aZ,ck,cv]at r1 r2;have K:(jB b).length=2 *b.length+7:=by simp[jB,oG];omega
 have H:(str (jB b)).size=(jB b).length:=ia _;have D:(str (iU x)).size=x.length+4:=by rw[ia];simp[iU]
 have Y:(lu (str (jB b)) 5 0).2=false:=by
  rw[lu,if_neg (by omega),kX (by rw[r1]),r1];simp only;rw[lu,if_pos (by omega)]
 refine⟨?_,?_⟩
 ·rw[na,if_neg (by omega),kJ,if_neg (by rw[Ih hx h1 h2];simp),if_neg (by rw[Y];simp)];rfl
 ·rw[ji,if_neg (by omega),r2,r1,if_neg (by simp)];simp only;rw[ji,if_pos (by omega)]
theorem Jq{c:Int}{n:Nat}(h:0<n)(h2:n<=1000):1<=Ph.ku c n/\Ph.ku c n<=n:=by
 have:=pU c h;rw[Ph.ahR h h2];omega
theorem QG{b:List UInt8}{n:Nat}{q t w:Int}(hx:∀c∈x,g_ c)(h1:1<=x.length)(h2:x.length<=200)(hb:∀c∈b,g_ c)(U:1<=b.length)(F:b.length<=30)(hn:n<=6):nj (str (iU x)) (str (jB b)) (n:Nat) (Ph.ku q 8) (Ph.ku t 200) (Ph.ku w 8)=if n<b.length then 0 else 4:=by
 obtain⟨K,H⟩:=QF hx h1 h2 hb U F;have a1:=Jq (c:=q) (show 0<8 by decide) (by decide);have a2:=Jq (c:=t) (show 0<200 by decide) (by decide);have a3:=Jq (c:=w) (show 0<8 by decide) (by decide);have hr:pZ (n:Nat) 30 (Ph.ku q 8) (Ph.ku t 200)=true:=by
  unfold pZ;rw[decide_eq_true_eq];omega
 rw[nj,if_neg (by rw[K];simp),if_neg (by rw[hr];simp;omega),H,fewer];have Y:(str b).size=b.length:=ia b;by_cases h:n<b.length
 ·rw[if_pos h,if_neg];simp[Y,h]
 ·rw[if_neg h,if_pos];simp[Y,h]
theorem adY{b:List UInt8}{n:Nat}{q t w:Int}(hx:∀c∈x,g_ c)(h1:1<=x.length)(h2:x.length<=200)(hb:∀c∈b,g_ c)(Y:1<=b.length)(U:b.length<=30)(hn:n<=6):qm (str (iU x)) (str (jB b)) (n:Nat) (Ph.ku q 8) (Ph.ku t 200) (Ph.ku w 8)=if n<b.length then str (oj (str (iU x)) (str (jB b)) n)else⟨#[]⟩:=by
 rw[qm,QG hx h1 h2 hb Y U hn];by_cases h:n<b.length
 ·rw[if_pos h,if_pos rfl,if_pos h];rfl
 ·rw[if_neg h,if_neg (by decide),if_neg h]
abbrev Ko(a:List UInt8):mM:=(⟨#[97]⟩,str a,str (iY a.length))
section
variable{x a b:List UInt8}(hx:∀c∈x,g_ c)(h1:1<=x.length)(h2:x.length<=200){n:Nat}
include hx h1 h2
theorem Tn(Y:∀c∈a,g_ c)(a1:1<=a.length)(a2:a.length<=30):oj (str (iU x)) (str (jB a)) n=rq ⟨#[114]⟩ (str x)++pT ⟨#[114]⟩ (str x) n (Ko a):=by
 rw[oj,Yn hx h1 h2,Oz hx h1 h2,(QF hx h1 h2 Y a1 a2).2];rfl
end
theorem adZ(x:List UInt8)(h:x.length<=200):(rq ⟨#[114]⟩ (str x)).length<=100:=by
 have hd:=mF (str x).size (by rw[ia];omega);have Y:(⟨#[114]⟩:ByteArray).data.toList.length=1:=rfl;simp only[rq,aU,cj,ck]at Y⊢;omega
theorem afZ{a:List UInt8}{n:Nat}(hx:x.length<=200)(Y:a.length<=30)(hn:n<=6):(pT ⟨#[114]⟩ (str x) n (Ko a)).length<=15000000:=
 Gy _ _ _ _ (by decide) (by rw[ia];omega) ⟨by show(⟨#[97]⟩:ByteArray).size<=10;decide,by show(str a).size<=30;rw[ia];exact Y,by show(str _).size<=30;rw[ia,oG];exact Y⟩ (by omega)
def NT(l:List UInt8):Prop:=∀c∈l,c≠9/\c≠10
theorem NT.app{l m:List UInt8}(h:NT l)(k:NT m):NT (l++m):=fun c Y=>(aK.1 Y).elim (h c) (k c)
theorem NT.one{c:UInt8}(h:c≠9/\c≠10):NT [c]:=fun d hd=>by rw[bA.1 hd];exact h
theorem zu{d:Nat}(h:d<=9):(dg d).toNat=48+d:=by
 unfold dg;rw[ep];omega
theorem NT.dg{d:Nat}(h:d<=9):NT [dg d]:=.one ⟨fun e=>by have:=congrArg UInt8.toNat e;rw[zu h]at this;simp at this;omega,fun e=>by have:=congrArg UInt8.toNat e;rw[zu h]at this;simp at this;omega⟩
theorem NT.dec:∀n:Nat,NT (gV n):=by
 intro n;induction n using cP with
 |ind n Y=>
  by_cases h:n<=9
  ·rw[tj n h];exact .dg h
  ·rw[uL n h];exact(Y (n/10) (by omega)).app (.dg (by omega))
theorem NT.at{l:List UInt8}(h:NT l)(i:Nat):NT [at8 (str l) i]:=by
 rw[pX,aj];cases e:l[i]? with
 |none=>exact .one (by decide)
 |some c=>exact .one (h c (bu e))
theorem NT.runs{l:List UInt8}(h:NT l):NT (nG (str l)):=by
 have:∀i,NT (iS (str l) i).1:=by
  intro i;induction i with
  |zero=>exact fun c K=>by simp[iS]at K
  |succ i Y=>
   rw[iS];split
   ·exact(Y.app (.dec _)).app (h.at i)
   ·exact Y
 exact this _
theorem NT.dif{p s:ByteArray}{t:List UInt8}(h:NT t):NT (pz p (str t) s):=by
 have:∀i,NT (jq p (str t) s i).o:=by
  intro i;induction i with
  |zero=>exact fun c K=>by simp[jq]at K
  |succ i Y=>
   rw[jq,uX];split
   ·split
    ·exact Y
    ·exact(Y.app (.dec _)).app (h.at _)
   ·split
    ·exact Y
    ·split
     ·exact((Y.app (.dec _)).app (.one (by decide))).app (h.at _)
     ·exact Y.app (h.at _)
 exact(this _).app (.dec _)
theorem NT.g{l:List UInt8}(h:∀c∈l,g_ c):NT l:=fun c Y=>⟨by rintro rfl;exact absurd (h _ Y).1 (by decide),by rintro rfl;exact absurd (h _ Y).1 (by decide)⟩
theorem NT.lay(p t:ByteArray):NT (iu p t):=by
 have:∀f i j,NT (iR p t f i j):=by
  intro f;induction f with
  |zero=>exact fun i j c Y=>by simp[iR]at Y
  |succ f K=>
   intro i j;rw[iR];split
   ·exact fun c Y=>by simp at Y
   ·split
    ·exact(K _ _).app (.one (by decide))
    ·split
     ·exact(K _ _).app (.one (by decide))
     ·exact(K _ _).app (.one (by decide))
 exact this _ _ _
theorem NT.mks{n:Nat}(h:n<=60):NT (iY n):=fun c Y=>by
 obtain⟨i,K,rfl⟩:=aN.1 Y;have:i<n:=by simpa using K
 have e:(bk (33+i)).toNat=33+i:=by rw[ep];omega
 exact⟨fun h=>by rw[h]at e;simp at e;omega,fun h=>by rw[h]at e;simp at e;omega⟩
theorem ad0(l:List UInt8):ky (str l)=l.reverse:=by
 have:=Ig (str l) (str l).size (ao _);rw[Nat.sub_self,List.drop_zero]at this;exact this
abbrev F9:=List (List UInt8)
def kO(F:F9):List UInt8:=jP 9 (F.take 8)++F.getD 8 []
def vx(xn:List UInt8)(xb:ByteArray)(rn p mk:List UInt8)(n:Nat)(h:Nat×Nat×Nat):F9:=
 [rn,gV n,xn,gV (h.1+1),nG (str (iu (str p) (xb.extract h.1 h.2.1))),gV h.2.2,pz (str p) (xb.extract h.1 h.2.1) (str (iu (str p) (xb.extract h.1 h.2.1))),p,mk]
theorem abS(xn:List UInt8)(xb:ByteArray)(rn p mk:List UInt8)(n:Nat)(h:Nat×Nat×Nat):xi (str xn) xb (str rn) (str p) (str mk) n h=kO (vx xn xb rn p mk n h)++[10]:=by
 have e:∀l:List UInt8,(str l).data.toList=l:=fun _=>rfl;simp[xi,zE,kO,vx,jP,e]
theorem HN(c:UInt8):∀a b:List (List UInt8),jP c (a++b)=jP c a++jP c b
 |[],_=>rfl
 |x::a,b=>by rw[c_,jP,HN c a b,jP,aT];rfl
def pf(xn:List UInt8)(xb:ByteArray)(rn p mk:List UInt8)(add:Nat)(more:Bool)(L:List (Nat×Nat×Nat)):List F9:=(bQ L.length).map fun i=>vx xn xb rn p mk (qc add more i) (L.getD i (0,0,0))
theorem RI(xn:List UInt8)(xb:ByteArray)(rn p mk:List UInt8)(add k:Nat)(more:Bool):se (str xn) xb (str rn) (str p) (str mk) add k more=jP 10 ((pf xn xb rn p mk add more (iL (str p) xb k)).map kO):=by
 have:∀(L:List (Nat×Nat×Nat)) i,ql (str xn) xb (str rn) (str p) (str mk) add more L i=jP 10 (((bQ i).map fun i=>vx xn xb rn p mk (qc add more i) (L.getD i (0,0,0))).map kO):=by
  intro L i;induction i with
  |zero=>rfl
  |succ i Y=>rw[ql,Y,abS,dj,bG,bG,HN];rfl
 exact this _ _
def zv(rn b mk:List UInt8):F9:=[rn,[52],[42],[48],[42],[45],[45],b,mk]
def Et(xn:List UInt8)(xb:ByteArray)(rn b mk:List UInt8)(k:Nat):List F9:=
 let p:=(iP (str b) 0).data.toList
 if iL (str b) xb k=[]/\iL (str p) xb k=[]then [zv rn b mk]
 else pf xn xb rn b mk 0 false (iL (str b) xb k)++pf xn xb rn p (ky (str mk)) 16 (decide (iL (str b) xb k≠ [])) (iL (str p) xb k)
theorem join_nil{c:UInt8}{L:List (List UInt8)}:jP c L=[]↔L=[]:=by
 cases L with
 |nil=>simp[jP]
 |cons x L=>simp[jP]
theorem PB{p:List UInt8}{add:Nat}{more:Bool}{L:List (Nat×Nat×Nat)}:(pf xn xb rn p mk add more L).map kO=[]↔L=[]:=by
 cases L<;>simp[pf,dj]
theorem ahZ(xn:List UInt8)(xb:ByteArray)(rn b mk:List UInt8)(k:Nat):pT (str xn) xb k (str rn,str b,str mk)=jP 10 ((Et xn xb rn b mk k).map kO):=by
 have hp:iP (str b) 0=str (iP (str b) 0).data.toList:=rfl;have H:qd (str xn) xb k (str rn,str b,str mk)=jP 10 ((pf xn xb rn b mk 0 false (iL (str b) xb k)).map kO):=RI ..;have Y:qd (str xn) xb k (str rn,str b,str mk)=[]↔iL (str b) xb k=[]:=by rw[H,join_nil,PB]
 have D:rE (str xn) xb k (str rn,str b,str mk)=jP 10 ((pf xn xb rn (iP (str b) 0).data.toList (ky (str mk)) 16 (decide (iL (str b) xb k≠ [])) (iL (str (iP (str b) 0).data.toList) xb k)).map kO):=by
  rw[rE,show decide (qd (str xn) xb k (str rn,str b,str mk)≠ [])=decide (iL (str b) xb k≠ [])from decide_eq_decide.2 (not_congr Y)];exact RI ..
 have K:rE (str xn) xb k (str rn,str b,str mk)=[]↔iL (str (iP (str b) 0).data.toList) xb k=[]:=by rw[D,join_nil,PB]
 unfold pT Et;by_cases h:iL (str b) xb k=[]/\iL (str (iP (str b) 0).data.toList) xb k=[]
 ·rw[if_pos ⟨Y.2 h.1,K.2 h.2⟩,if_pos h,K.2 h.2];have e:∀l:List UInt8,(str l).data.toList=l:=fun _=>rfl;simp[xB,zv,kO,jP,e]
 ·rw[if_neg (fun y=>h ⟨Y.1 y.1,K.1 y.2⟩),if_neg h,bG,HN,H,D]
def pg(b:List UInt8):List UInt8:=(b.map pb).reverse
theorem ajU:∀n:Fin 256,iM (bk n)=true->gb (bk n)=bk n->bk n=65\/bk n=67\/bk n=71\/bk n=84\/bk n=78:=by decide+kernel
theorem g_.cases{c:UInt8}(h:g_ c):c=65\/c=67\/c=71\/c=84\/c=78:=by
 have:=ajU ⟨c.toNat,c.toNat_lt⟩;simp only[UInt8.ofNat_toNat]at this;exact this h.1 h.2
theorem g_.pb{c:UInt8}(h:g_ c):g_ (pb c)/\Go.Proofs.YtdcjnhipenbcfaaGreatDoor.pb (Go.Proofs.YtdcjnhipenbcfaaGreatDoor.pb c)=c:=by
 rcases h.cases with rfl|rfl|rfl|rfl|rfl<;>exact⟨⟨by decide,by decide⟩,by decide⟩
theorem RJ{b:List UInt8}(h:∀c∈b,g_ c):∀c∈pg b,g_ c:=fun c Y=>by
 obtain⟨d,hd,rfl⟩:=aN.1 (ed.1 Y);exact(h d hd).pb.1
theorem flip_flip{b:List UInt8}(h:∀c∈b,g_ c):pg (pg b)=b:=by
 unfold pg;rw[List.map_reverse,List.reverse_reverse,dh];exact(dY fun c Y=>(h c Y).pb.2).trans (List.map_id _)
theorem Ip(b:List UInt8):(pg b).length=b.length:=by simp[pg]
theorem SA{F:F9}(U:F.length=9)(Y:∀f∈F,NT f):ot (str (kO F))=F.map str:=by
 match F,U with
 |[f0,f1,f2,K,H,f5,f6,f7,f8],_=>
  have h:=Da 9 f8 (fun e=>(Y f8 (by simp) _ e).1 rfl) [f0,f1,f2,K,H,f5,f6,f7] (fun x hx e=>(Y x (bP (i:=8) hx) _ e).1 rfl);exact h
theorem SB(l m:List UInt8):∀i,i<=l.length->oa (str (l++m)) i=oa (str l) i/\mz (str (l++m)) i=mz (str l) i
 |0,_=>⟨rfl,rfl⟩
 |i+1,h=>by
  obtain⟨h1,h2⟩:=SB l m i (by omega);have e:at8 (str (l++m)) i=at8 (str l) i:=by rw[pX,pX,aj,aj,br (by omega)]
  exact⟨by rw[oa,h1,e];rfl,by rw[mz,h2,e];rfl⟩
theorem SC:∀n:Nat,oa (str (gV n)) (gV n).length=n/\mz (str (gV n)) (gV n).length=true:=by
 intro n;induction n using cP with
 |ind n D=>
  have one:∀d (l:List UInt8),d<=9->at8 (str (l++[dg d])) l.length=dg d:=fun d l _=>by rw[pX,aj];simp
  by_cases h:n<=9
  ·rw[tj n h];have:=one n [] h;simp only[cM,ck]at this;simp[oa,mz,this,ta,zu h];omega
  ·obtain⟨h1,h2⟩:=D (n/10) (by omega);rw[uL n h];obtain⟨Y,K⟩:=SB (gV (n/10)) [dg (n%10)] _ (ao _);have H:=one (n%10) (gV (n/10)) (by omega);rw[aU,cJ,oa,mz,Y,K,H,h1,h2];simp[ta,zu (show n%10<=9 by omega)];omega
theorem yT{n:Nat}(h:n<=9999):kS (str (gV n))=n:=by
 have Y:=mF n h;obtain⟨h1,h2⟩:=SC n;rw[kS,ia,if_pos ⟨Y.1,by omega,h2⟩,h1]
structure Ak(F:F9):Prop where
 len:F.length=9
 nt:∀f∈F,NT f
 flag:∃n,n<=9999/\F.getD 1 []=gV n
 pos:∃n,n<=9999/\F.getD 3 []=gV n
theorem QH{F:F9}{i:Nat}:(F.map str).getD i nS=str (F.getD i []):=by
 rw[aj,aj,ax];cases F[i]?<;>rfl
theorem Ak.line{F:F9}(h:Ak F)(U:(kO F).length<=100000000):(str (kO F)).size<=100000000/\(ot (str (kO F))).length=9/\0<=kS ((ot (str (kO F))).getD 1 nS)/\0<=kS ((ot (str (kO F))).getD 3 nS):=by
 obtain⟨n,D,Y⟩:=h.flag;obtain⟨m,H,K⟩:=h.pos;rw[SA h.len h.nt,QH,QH,Y,K,yT D,yT H,bF,h.len,ia];exact⟨U,rfl,by omega,by omega⟩
theorem NT.line{F:F9}(h:∀f∈F,NT f):(10:UInt8)∉kO F:=by
 have:∀Y:List (List UInt8),(∀f∈Y,NT f)->(10:UInt8)∉jP 9 Y:=by
  intro Y;induction Y with
  |nil=>intro _ h;simp[jP]at h
  |cons x Y H=>
   intro h e;rw[jP,aK,bg]at e;rcases e with e|e|e
   ·exact(h x (by simp) _ e).2 rfl
   ·exact absurd e (by decide)
   ·exact H (fun f K=>h f (by simp[K])) e
 intro e;rcases aK.1 e with e|e
 ·exact this _ (fun f K=>h f (bP K)) e
 ·rw[aj]at e;cases e':F[8]? with
  |none=>rw[e']at e;simp at e
  |some f=>rw[e']at e;exact(h f (bu e') _ e).2 rfl
def p9:Option (List UInt8×Nat)->UInt8->Option (List UInt8×Nat)
 |none,_=>none
 |some (o,n),c=>if 48<=c.toNat/\c.toNat<=57/\n<100 then some (o,10 *n+(c.toNat-48))else if(c=77\/c=73\/c=68)/\0<n then some (o++a_ n c,0)else none
def oE(l:List UInt8):Option (List UInt8×Nat):=l.foldl p9 (some ([],0))
theorem ah0(o:List UInt8):∀n,n<=999->(gV n).foldl p9 (some (o,0))=some (o,n):=by
 intro n;induction n using cP with
 |ind n Y=>
  intro K;by_cases h:n<=9
  ·rw[tj n h,cG,db,p9,zu h,if_pos ⟨by omega,by omega,by omega⟩];simp
  ·rw[uL n h,b_,Y (n/10) (by omega) (by omega),cG,db,p9,zu (by omega),if_pos ⟨by omega,by omega,by omega⟩];congr 2;omega
def Ch(c:UInt8):Prop:=c=77\/c=73\/c=68
theorem ah1{c:UInt8}(h:Ch c)(o:List UInt8)(n:Nat)(hn:0<n):p9 (some (o,n)) c=some (o++a_ n c,0):=by
 rw[p9,if_neg,if_pos ⟨h,hn⟩];rcases h with rfl|rfl|rfl<;>simp
theorem RL(s:ByteArray)(F:s.size<=900)(U:∀i,i<s.size->Ch (at8 s i)):∀i,i<=s.size->(iS s i).2<=i/\oE (iS s i).1=some (s.data.toList.take (i-(iS s i).2),0)/\(s.data.toList.take i=s.data.toList.take (i-(iS s i).2)++a_ (iS s i).2 (at8 s i))/\(i=s.size->(iS s i).2=0)
 |0,_=>by simp[iS,oE]
 |i+1,A=>by
  obtain⟨h1,h2,K,I⟩:=RL s F U i (by omega);have H:=A1 s i (by omega);rw[iS];split
  ·rename_i Y;simp only;refine⟨bh _,?_,by simp,by simp⟩;unfold oE at h2⊢;rw[b_,b_,h2,ah0 _ _ (by omega),cG,db,ah1 (U i (by omega)) _ _ (by omega),dq,H,K,aT,<-dk]
  ·rename_i Y;simp only;have D:at8 s (i+1)=at8 s i:=cA fun h=>Y (.inr h);have R:i+1≠s.size:=fun h=>Y (.inl h);refine⟨by omega,?_,?_,fun h=>absurd h R⟩
   ·rw[h2,show i+1-((iS s i).2+1)=i-(iS s i).2 by omega]
   ·rw[H,D,show i+1-((iS s i).2+1)=i-(iS s i).2 by omega,dk,<-aT,<-K]
theorem Z4(s:ByteArray)(F:s.size<=900)(U:∀i,i<s.size->Ch (at8 s i)):oE (nG s)=some (s.data.toList,0):=by
 obtain⟨_,h2,_,Y⟩:=RL s F U s.size (ao _);unfold nG;rw[h2,Y rfl,dq,eg (by simp)]
theorem RP:∀l:List UInt8,l.foldl p9 none=none
 |[]=>rfl
 |c::l=>by rw[cG];exact RP l
theorem ah2{l m:List UInt8}{r:List UInt8×Nat}(h:oE (l++m)=some r):∃q,oE l=some q:=by
 unfold oE at *;rw[b_]at h;cases e:l.foldl p9 (some ([],0))with
 |none=>rw[e,RP]at h;cases h
 |some q=>exact⟨q,rfl⟩
theorem af0{l:List UInt8}{i:Nat}(Y:i<l.length):oE (l.take (i+1))=p9 (oE (l.take i)) (at8 (str l) i):=by
 rw[ef,au Y];unfold oE;rw[b_,pX,aj,au Y];rfl
theorem YE(l o:List UInt8)(n0:Nat)(w:af)(h:oE l=some (o,n0))(y:l.length<=1000):
  aH ai 31 #[.string (str l)] w fun e w'=>e=.returned (.string (str o))/\w'=w:=by
 have v:(str l).size=l.length:=rfl;have B:=laid h;clear h
 go_enter Tryz.func31,Tryz.ntmps31
 go_wp2
 go_loop [3,4,5] (fun s n i=>∃(I N:Nat) (O:List UInt8),I<=l.length/\i=.int .i64 (I:Int)/\n=.int .i64 (N:Int)/\s=.string (str O)/\Hid (oE (l.take I)=some (O,N))/\N<=999/\O.length<=999 *I) (fun _ _ i=>l.length-(intOf i).toNat)
 case atStart=>exact⟨0,0,[],by omega,rfl,rfl,rfl,laid rfl,by omega,by simp⟩
 case round=>
  obtain⟨I,N,O,g,rfl,rfl,rfl,D,r,u⟩:=hrel;have x:(str O).size=O.length:=rfl;by_cases A:I<l.length
  ·have W:(I:Int)<((str l).size:Int):=by omega
   have Z:=mn (str l) I (by omega);have L:=laid (akE (str l) I (by omega));have HT:Hid (oE (l.take (I+1))=p9 (some (O,N)) (at8 (str l) I)):=laid (by rw[af0 A,D.out]);have U:Hid (∃q,oE (l.take (I+1))=some q):=laid (ah2 (m:=l.drop (I+1)) (by rw[List.take_append_drop];exact B.out));generalize at8 (str l) I=C at *;have f:=C.toNat_lt;by_cases hd:48<=C.toNat/\C.toNat<=57/\N<100
   ·have R:Hid (oE (l.take (I+1))=some (O,10 *N+(C.toNat-48))):=laid (by rw[HT.out,p9,if_pos hd]);obtain⟨d1,d2,d3⟩:=hd;have T:(48:Int)<=(C.toNat:Int):=by omega
    have V:(C.toNat:Int)<=57:=by omega
    have c:(N:Int)<100:=by omega
    go_wp2
    go_round
    case rel=>go_light;exact⟨I+1,10 *N+(C.toNat-48),O,by omega,by go_num,jb (by omega),rfl,R,by omega,by omega⟩
    case measure=>go_light;simp[intOf];omega
   ·have Y:(C=77\/C=73\/C=68)/\0<N:=cA fun E=>by
     obtain⟨q,F⟩:=U.out;rw[HT.out,p9,if_neg hd,if_neg E]at F;cases F
    have R:Hid (oE (l.take (I+1))=some (O++a_ N C,0)):=laid (by rw[HT.out,p9,if_neg hd,if_pos Y]);obtain⟨Y,d⟩:=Y;clear hd HT U D;have z:(0:Int)<(N:Int):=by omega
    have T:¬(C.toNat:Int)<=57:=by rcases Y with rfl|rfl|rfl<;>decide
    have Q:Hid (∀K:Nat,str (O++a_ K C)++str [C]=str (O++a_ (K+1) C)):=laid fun K=>by rw[ob,aT,<-dk]
    have hk:(((C.toNat:Int)==77)=true)\/(((C.toNat:Int)==77)=false/\((C.toNat:Int)==73)=true)\/(((C.toNat:Int)==77)=false/\((C.toNat:Int)==73)=false/\((C.toNat:Int)==68)=true):=by
     rcases Y with rfl|rfl|rfl
     ·exact .inl rfl
     ·exact .inr (.inl ⟨rfl,rfl⟩)
     ·exact .inr (.inr ⟨rfl,rfl,rfl⟩)
    clear Y;have V:(48:Int)<=(C.toNat:Int):=by omega
    rcases hk with J|⟨J,j⟩|⟨J,j,t⟩
    all_goals
     go_wp2
     go_loop [3,7] (fun s k=>∃K:Nat,K<=N/\k=.int .i64 (K:Int)/\s=.string (str (O++a_ K C))) (fun _ k=>N-(intOf k).toNat)
     case atStart=>exact⟨0,by omega,rfl,by simp⟩
     case round=>
      obtain⟨K,p,rfl,rfl⟩:=hrel;have G:(str (O++a_ K C)).size=O.length+K:=by rw[ia];simp
      by_cases X:K<N
      ·have b:(K:Int)<(N:Int):=by omega
       have hx:=L.out;have S:=laid (Q.out K);have H:=afq (str (O++a_ K C)) (str [C]) (by omega) (by show 1<=100000000;omega);rw[S.out]at H;go_wp2
       go_round
       case rel=>go_light;exact⟨K+1,by omega,by go_num,rfl⟩
       case measure=>go_light;simp[intOf];omega
      ·have P:Hid (K=N):=laid (by omega);go_wp2
       go_round
       case rel=>go_light;exact⟨I+1,0,O++a_ K C,by omega,by go_num,rfl,rfl,laid (by rw[R.out,P.out]),by omega,by simp;omega⟩
       case measure=>go_light;simp[intOf];omega
  ·have M:Hid (O=o):=laid (by
    have:=D.out;rw[show I=l.length by omega,dp,B.out]at this;injection this with this
    injection this with h1 h2
    exact h1.symm)
   have W:¬(I:Int)<((str l).size:Int):=by omega
   go_wp2
   go_ret
   exact⟨by rw[M.out];rfl,rfl⟩
theorem NT.ext{x:List UInt8}(h:NT x)(a b:Nat):∃t,(str x).extract a b=str t/\NT t:=⟨_,tN x a b,fun c Y=>h c (bP (cK Y))⟩
section
variable{xn x rn p mk:List UInt8}(Cg:NT xn)(hx:NT x)(MB:NT rn)(hp:NT p)(MC:NT mk)
include Cg hx MB hp MC
theorem af1{n:Nat}{h:Nat×Nat×Nat}(hn:n<=9999)(U:h.1+1<=9999):Ak (vx xn (str x) rn p mk n h):=by
 obtain⟨t,K,H⟩:=hx.ext h.1 h.2.1;refine⟨rfl,fun f Y=>?_,⟨n,hn,rfl⟩,⟨h.1+1,U,rfl⟩⟩;simp only[vx,bg,cm,or_false]at Y;rw[K]at Y;rcases Y with rfl|rfl|rfl|rfl|rfl|rfl|rfl|rfl|rfl
 ·exact MB
 ·exact .dec _
 ·exact Cg
 ·exact .dec _
 ·exact(NT.lay _ _).runs
 ·exact .dec _
 ·exact H.dif
 ·exact hp
 ·exact MC
theorem QI{add k:Nat}{more:Bool}(U:add<=16)(M:x.length<=9000):∀F∈pf xn (str x) rn p mk add more (iL (str p) (str x) k),Ak F:=by
 intro F hF;obtain⟨i,K,rfl⟩:=aN.1 hF;have Y:i<(iL (str p) (str x) k).length:=by simpa using K
 have H:(iL (str p) (str x) k).getD i (0,0,0)∈iL (str p) (str x) k:=by rw[aj,au Y];exact bt _
 have:=A2 (str p) (str x) k _ (ao _) _ H;rw[ia]at this;exact af1 Cg hx MB hp MC (by unfold qc;split<;>omega) (by omega)
end
section
variable{x b:List UInt8}(hx:∀c∈x,g_ c)(h1:1<=x.length)(h2:x.length<=200)(hb:∀c∈b,g_ c)(b1:1<=b.length)(b2:b.length<=30){n:Nat}(hn:n<=6)
abbrev pj(x b:List UInt8)(n:Nat):List F9:=Et [114] (str x) [97] b (iY b.length) n
include hx h1 h2 hb b1 b2
theorem QJ:∀F∈pj x b n,Ak F:=by
 intro F hF;have n1:NT [114]:=.one (by decide);have n2:NT [97]:=.one (by decide);have Y:NT (iY b.length):=.mks (by omega);unfold pj Et at hF;simp only at hF;split at hF
 ·rw[bA]at hF;subst hF;refine⟨rfl,fun f K=>?_,⟨4,by decide,rfl⟩,⟨0,by decide,rfl⟩⟩;simp only[zv,bg,cm,or_false]at K;rcases K with rfl|rfl|rfl|rfl|rfl|rfl|rfl|rfl|rfl
  ·exact n2
  ·exact .one (by decide)
  ·exact .one (by decide)
  ·exact .one (by decide)
  ·exact .one (by decide)
  ·exact .one (by decide)
  ·exact .one (by decide)
  ·exact .g hb
  ·exact Y
 ·rw[aK]at hF;rcases hF with hF|hF
  ·exact QI n1 (.g hx) n2 (.g hb) Y (by omega) (by omega) F hF
  ·exact QI n1 (.g hx) n2 (.g (RJ hb)) (by rw[ad0];exact fun c H=>Y c (ed.1 H)) (by omega) (by omega) F hF
theorem To:oj (str (iU x)) (str (jB b)) n=jP 10 (([64,114,9]++gV x.length)::(pj x b n).map kO):=by
 rw[Tn hx h1 h2 hb b1 b2];have:pT ⟨#[114]⟩ (str x) n (Ko b)=jP 10 ((pj x b n).map kO):=ahZ [114] (str x) [97] b (iY b.length) n;rw[this,jP,rq,ia];simp
theorem abT:iZ (str (oj (str (iU x)) (str (jB b)) n)) 10 ((str (oj (str (iU x)) (str (jB b)) n)).size+1)=(([64,114,9]++gV x.length)::(pj x b n).map kO).map str++[nS]:=by
 rw[To hx h1 h2 hb b1 b2];have:=Da 10 [] (by simp) (([64,114,9]++gV x.length)::(pj x b n).map kO) fun l Y=>by
  rcases bg.1 Y with rfl|Y
  ·intro e;rcases aK.1 e with e|e
   ·simp at e
   ·exact(NT.dec _ _ e).2 rfl
  ·obtain⟨F,hF,rfl⟩:=aN.1 Y;exact NT.line (QJ hx h1 h2 hb b1 b2 F hF).nt
 rw[aZ]at this;exact this
end
theorem QK{c:UInt8}:∀{Ls:List (List UInt8)} {l:List UInt8},l∈Ls->l.length<=(jP c Ls).length
 |x::Ls,l,h=>by
  rw[jP,aU,cj];rcases bg.1 h with rfl|h
  ·omega
  ·have:=QK (c:=c) h;omega
def rG(rs:List F9):List Value:=rs.flatMap fun F=>qL (F.map str)
theorem QL{h:List UInt8}{rs:List F9}(Y:∀F∈rs,Ak F):∀i,i<=rs.length->xq ((h::rs.map kO).map str++[nS]) i=rG (rs.take i)
 |0,_=>rfl
 |i+1,K=>by
  have hF:rs[i]?=some rs[i]:=au (by omega);have e:((h::rs.map kO).map str++[nS]).getD (i+1) nS=str (kO rs[i]):=by
   rw[aj,br (by simp;omega),ax,dc,ax,hF];rfl
  have ok:=Y rs[i] (bt _);rw[xq,QL Y i (by omega),e,SA ok.len ok.nt];have:rs.take (i+1)=rs.take i++[rs[i]]:=by rw[ef,hF];rfl
  rw[this,rG,rG,List.flatMap_append,List.flatMap_singleton]
end
namespace Ph
open Conc Ren RowKit
theorem qo.on{W:af}(h:qo (fun _=>False) W)(g:ie (fun _=>False) W w):qo (fun _=>False) w:=by
 have Y:∀b,b=0\/b=2\/b=3->w.heap[b]?=W.heap[b]?:=fun b hb=>g.old b (h.gl hb) (h.off b (h.gl hb));exact⟨aO h.low g.grow,h.ns.same Y,yu h.jr (Y 0 (.inl rfl)),fun _ _ _ _ y=>y⟩
def kH(u:Nat->ae)(x4 Y U F M Cf O T y x22 x23 x24 x25 x30 x31 x32 x33 x34 x71:ae):Array Value:=#[u 0,u 1,u 2,u 3,x4,u 5,u 6,u 7,u 8,u 9,u 10,Y,U,u 13,F,u 15,u 16,M,Cf,O,T,y,x22,x23,x24,x25,u 26,u 27,u 28,u 29,x30,x31,x32,x33,x34,u 35,u 36,u 37,u 38,u 39,u 40,u 41,u 42,u 43,u 44,u 45,u 46,u 47,u 48,u 49,u 50,u 51,u 52,u 53,u 54,u 55,u 56,u 57,u 58,u 59,u 60,u 61,u 62,u 63,u 64,u 65,u 66,u 67,u 68,u 69,u 70,x71,u 72,u 73,u 74,u 75,u 76,u 77,u 78,u 79,u 80,u 81,u 82,u 83,u 84,u 85,u 86,u 87,u 88,u 89,u 90,u 91,u 92,u 93,u 94,u 95,u 96,u 97,u 98,u 99,u 100,u 101,u 102,u 103,u 104,u 105,u 106,u 107,u 108,u 109,u 110,u 111,u 112,u 113,u 114,u 115,u 116,u 117,u 118,u 119,u 120,u 121,u 122,u 123,u 124,u 125,u 126,u 127,u 128,u 129,u 130,u 131,u 132,u 133,u 134,u 135,u 136,u 137,u 138,u 139,u 140,u 141,u 142,u 143,u 144,u 145,u 146,u 147,u 148,u 149,u 150,u 151,u 152,u 153,u 154,u 155,u 156,u 157,u 158,u 159,u 160,u 161,u 162,u 163,u 164,u 165,u 166,u 167,u 168,u 169,u 170,u 171,u 172,u 173,u 174,u 175,u 176,u 177,u 178,u 179,u 180,u 181,u 182,u 183,u 184,u 185,u 186,u 187,u 188,u 189,u 190,u 191,u 192,u 193,u 194,u 195,u 196,u 197,u 198,u 199,u 200,u 201,u 202]
theorem uB{c:Code}{R:Exit->Act->af->Prop}{a:Act}(h:∀Q,Hid (Q=R)->c.wp PR Q a w):c.wp PR R a w:=h R (laid rfl)
abbrev ja(site:List Item)(al:List (Nat×ae)):Frame:=nz 7 203 site (sA al) fun _=>undef
noncomputable def ir:Code:=bc.body.getD .skip
abbrev jh (p:List Nat) (l:List Nat):List Item:=[.inRegion (opsOf (cp (p++[1]) ir)) l,.code (cp (p++[2]) ir)]
abbrev Am (p:List Nat):List Item:=[.code (cp (p++[1,2]) ir),.code (cp (p++[2]) ir)]
def xT(t:ae)(f m:Int)(d:ae)(fl:Bool)(o:ae):List (Nat×ae):=[(0,t),(1,ii f),(2,ii m),(3,d),(4,.bool fl),(5,o)]
def vy(t:ae)(f m:Int)(d:ae)(fl:Bool)(o:ae)(b:Nat):List (Nat×ae):=xT t f m d fl o++[(11,ptr b),(12,.bool false)]
def rO(t:ae)(f m:Int)(d:ae)(fl:Bool)(o:ae)(b:Nat):List (Nat×ae):=vy t f m d fl o b++[(35,.bool true),(13,.bool true),(36,.bool true),(37,.bool false),(38,t)]
def zG(t:ae)(f m:Int)(d:ae)(fl:Bool)(o:ae)(b:Nat)(x0 X:ByteArray)(c:Bool):List (Nat×ae):=rO t f m d fl o b++[(39,.string x0),(40,.string X),(14,.string X),(41,.string X),(42,ii (X.size:Int)),(43,.bool c)]
def zH(t:ae)(f m:Int)(d:ae)(fl:Bool)(o:ae)(b:Nat)(x0 X:ByteArray)(l1:Int):List (Nat×ae):=zG t f m d fl o b x0 X false++[(44,ii f),(45,.string X),(46,ii (X.size:Int)),(47,ii l1)]
def zI(t:ae)(f m:Int)(d:ae)(fl:Bool)(o:ae)(b:Nat)(x0 X:ByteArray)(l1 s:Int):List (Nat×ae):=zH t f m d fl o b x0 X l1++[(48,ii s),(15,ii s),(49,ii m)]
def Bx(t:ae)(f m:Int)(d:ae)(fl:Bool)(o:ae)(b:Nat)(x0 X:ByteArray)(l1 s p m1 e1:Int)(c:Bool):List (Nat×ae):=zI t f m d fl o b x0 X l1 s++[(50,ii p),(51,ii m1),(52,ii s),(53,ii m1),(54,ii e1),(55,.string X),(56,ii (X.size:Int)),(57,.bool c)]
def pC(t:ae)(f m:Int)(d:ae)(fl:Bool)(o:ae)(b:Nat)(x0 X:ByteArray)(l1 s p m1 e1 m2 e:Int)(c:Bool):List (Nat×ae):=(if c=true then [(58,.string X),(59,ii (X.size:Int)),(60,ii s),(61,ii m2)]else [])++Bx t f m d fl o b x0 X l1 s p m1 e1 c++[(16,ii m2),(62,ii s),(63,ii m2),(64,ii e),(17,ii e),(66,.string X),(67,ii s),(68,ii e)]
section
variable{t d o:ae}{f m l1 s p m1 e1 m2 e:Int}{fl:Bool}{b:Nat}{x0 X S:ByteArray}
theorem ak1:iw PR 60 (Frame.enter PR 7 #[t,ii f,ii m,d,.bool fl,o] .normal) []=(ja (jh [] [0,1]) (xT t f m d fl o),[]):=by kernel_rfl
theorem af2:(opAt (ja (jh [] [0,1]) (xT t f m d fl o))).map (fun o=>o.op)=some (.box 28 (.tmp 5)):=by kernel_rfl
theorem ak2:iw PR 60 ((ja (jh [] [0,1]) (xT t f m d fl o)).finish (ptr b)) []=(ja (jh [2] [0,1]) (vy t f m d fl o b),[]):=by kernel_rfl
theorem af3:gS PR 1 (ja (jh [2] [0,1]) (vy t f m d fl o b)) []=(Frame.enter PR 16 #[] .normal,[ja (jh [2] [0,1]) (vy t f m d fl o b)]):=by kernel_rfl
theorem ak3:iw PR 60 (gS PR 11 ((ja (jh [2] [0,1]) (vy t f m d fl o b)).finish (.bool true)) []).1 []=(ja (jh [2,2,2] [1,2,3]) (rO t f m d fl o b),[]):=by kernel_rfl
theorem ah3:(gS PR 11 ((ja (jh [2] [0,1]) (vy t f m d fl o b)).finish (.bool true)) []).2=[]:=by kernel_rfl
theorem af4:gS PR 1 (ja (jh [2,2,2] [1,2,3]) (rO t f m d fl o b)) []=(Frame.enter PR 18 #[t,ii (60:Nat)] .normal,[ja (jh [2,2,2] [1,2,3]) (rO t f m d fl o b)]):=by kernel_rfl
theorem ak4:(ja (jh [2,2,2] [1,2,3]) (rO t f m d fl o b)).finish (.string x0)=ja (jh [2,2,2] [2,3]) (rO t f m d fl o b++[(39,.string x0)]):=by kernel_rfl
theorem af5:gS PR 1 (ja (jh [2,2,2] [2,3]) (rO t f m d fl o b++[(39,.string x0)])) []=(Frame.enter PR 17 #[.string x0] .normal,[ja (jh [2,2,2] [2,3]) (rO t f m d fl o b++[(39,.string x0)])]):=by kernel_rfl
theorem ak5:iw PR 60 ((ja (jh [2,2,2] [2,3]) (rO t f m d fl o b++[(39,.string x0)])).finish (.string X)) []=(ja (Am [2,2,2,2]) (zG t f m d fl o b x0 X (decide ((X.size:Int)<2))),[]):=by kernel_rfl
theorem ak6:iw PR 60 (gS PR 1 (ja (Am [2,2,2,2]) (zG t f m d fl o b x0 X false)) []).1 []=(ja (jh [2,2,2,2,2] [4,5]) (zH t f m d fl o b x0 X (ak.wrap ((X.size:Int)-1))),[]):=by kernel_rfl
theorem ah4:(gS PR 1 (ja (Am [2,2,2,2]) (zG t f m d fl o b x0 X false)) []).2=[]:=by kernel_rfl
theorem af6:gS PR 1 (ja (jh [2,2,2,2,2] [4,5]) (zH t f m d fl o b x0 X l1)) []=(Frame.enter PR 19 #[ii f,ii l1] .normal,[ja (jh [2,2,2,2,2] [4,5]) (zH t f m d fl o b x0 X l1)]):=by kernel_rfl
theorem ak7:iw PR 60 ((ja (jh [2,2,2,2,2] [4,5]) (zH t f m d fl o b x0 X l1)).finish (ii s)) []=(ja (jh [2,2,2,2,2,2] [1,2,3]) (zI t f m d fl o b x0 X l1 s),[]):=by kernel_rfl
theorem af7:gS PR 1 (ja (jh [2,2,2,2,2,2] [1,2,3]) (zI t f m d fl o b x0 X l1 s)) []=(Frame.enter PR 19 #[ii m,ii (18:Nat)] .normal,[ja (jh [2,2,2,2,2,2] [1,2,3]) (zI t f m d fl o b x0 X l1 s)]):=by kernel_rfl
theorem ak8:iw PR 60 ((ja (jh [2,2,2,2,2,2] [1,2,3]) (zI t f m d fl o b x0 X l1 s)).finish (ii p)) []=(ja (Am [2,2,2,2,2,2,2]) (Bx t f m d fl o b x0 X l1 s p (ak.wrap (2+p)) (ak.wrap (s+ak.wrap (2+p))) (decide ((X.size:Int)<ak.wrap (s+ak.wrap (2+p))))++[(16,ii (ak.wrap (2+p)))]),[]):=by kernel_rfl
theorem ajV:gS PR 20 (ja (Am [2,2,2,2,2,2,2]) (Bx t f m d fl o b x0 X l1 s p m1 e1 true++[(16,ii m1)])) []=(ja (jh [2,2,2,2,2,2,2,2,2] [3,4,5,6,7,8,9,10]) (pC t f m d fl o b x0 X l1 s p m1 e1 (ak.wrap ((X.size:Int)-s)) (ak.wrap (s+ak.wrap ((X.size:Int)-s))) true),[]):=by kernel_rfl
theorem ajW:gS PR 14 (ja (Am [2,2,2,2,2,2,2]) (Bx t f m d fl o b x0 X l1 s p m1 e1 false++[(16,ii m1)])) []=(ja (jh [2,2,2,2,2,2,2,2,2] [3,4,5,6,7,8,9,10]) (pC t f m d fl o b x0 X l1 s p m1 e1 m1 (ak.wrap (s+m1)) false),[]):=by kernel_rfl
variable{c:Bool}
theorem af8:(opAt (ja (jh [2,2,2,2,2,2,2,2,2] [3,4,5,6,7,8,9,10]) (pC t f m d fl o b x0 X l1 s p m1 e1 m2 e c))).map (fun o=>o.op)=some (.slice 9 (.tmp 66) (some (.tmp 67)) (some (.tmp 68)) none):=by cases c<;>kernel_rfl
theorem IV:(ja (jh [2,2,2,2,2,2,2,2,2] [3,4,5,6,7,8,9,10]) (pC t f m d fl o b x0 X l1 s p m1 e1 m2 e c)).eval (.tmp 66)=.string X/\(ja (jh [2,2,2,2,2,2,2,2,2] [3,4,5,6,7,8,9,10]) (pC t f m d fl o b x0 X l1 s p m1 e1 m2 e c)).eval (.tmp 67)=ii s/\(ja (jh [2,2,2,2,2,2,2,2,2] [3,4,5,6,7,8,9,10]) (pC t f m d fl o b x0 X l1 s p m1 e1 m2 e c)).eval (.tmp 68)=ii e:=by cases c<;>exact⟨by kernel_rfl,by kernel_rfl,by kernel_rfl⟩
theorem ak9:gS PR 1 ((ja (jh [2,2,2,2,2,2,2,2,2] [3,4,5,6,7,8,9,10]) (pC t f m d fl o b x0 X l1 s p m1 e1 m2 e c)).finish (.string S)) []=(ja (jh [2,2,2,2,2,2,2,2,2] [5,6,7,8,9,10]) (pC t f m d fl o b x0 X l1 s p m1 e1 m2 e c++[(69,.string S),(70,d)]),[]):=by cases c<;>kernel_rfl
theorem af9:gS PR 1 (ja (jh [2,2,2,2,2,2,2,2,2] [5,6,7,8,9,10]) (pC t f m d fl o b x0 X l1 s p m1 e1 m2 e c++[(69,.string S),(70,d)])) []=(Frame.enter PR 20 #[.string S,d,ii (4:Nat)] .normal,[ja (jh [2,2,2,2,2,2,2,2,2] [5,6,7,8,9,10]) (pC t f m d fl o b x0 X l1 s p m1 e1 m2 e c++[(69,.string S),(70,d)])]):=by cases c<;>kernel_rfl
theorem ak_{y:ae}:(ja (jh [2,2,2,2,2,2,2,2,2] [5,6,7,8,9,10]) (pC t f m d fl o b x0 X l1 s p m1 e1 m2 e c++[(69,.string S),(70,d)])).finish y=ja (jh [2,2,2,2,2,2,2,2,2] [6,7,8,9,10]) (pC t f m d fl o b x0 X l1 s p m1 e1 m2 e c++[(69,.string S),(70,d),(71,y)]):=by cases c<;>kernel_rfl
end
theorem af_{f:bE}{x y z:bH}(h:(opAt f).map (fun o=>o.op)=some (.slice 9 x (some y) (some z) none)){a e:Nat}(hx:f.eval x=.string S)(Y:f.eval y=ii (a:Nat))(U:f.eval z=ii (e:Nat))(h1:a<=e)(h2:e<=S.size)(w:af):
  stepG PR main (G f cs) w=.go (G (f.finish (.string (S.extract a e))) cs) w #[]:=by
 obtain⟨op,H,gN⟩:=tT h;have hr:(bI f.eval op).run PR w=.ok (.value (.string (S.extract a e))) w:=by
  unfold bI;simp only[gN,bB,hx,Y,U];simp[go_sem,Tryz.underlying9,h1,h2]
 have K:(bI f.eval op).events PR w #[]=#[]:=by
  unfold bI;simp only[gN,bB,hx,Y,U];simp[go_sem,Instr.sliceAt,Instr.slice,Instr.sliceBounds,Instr.sliceBound,asIntOf,h1,h2]
 rw[pN H hr,K,seen_none]
theorem Z5{Q:QT}{v:af}{b:List UInt8}(hx:∀c∈x,g_ c)(h1:1<=x.length)(h2:x.length<=200)(hb:∀c∈b,g_ c)(b1:1<=b.length)(b2:b.length<=30){n:Nat}(hn:n<=6):
  iW Q 25 #[.string (str (oj (str (iU x)) (str (jB b)) n))] v fun y v'=>∃l,y=.tuple #[l,.bool true]/\v'.ownsRow v.heap.size 42 9 l (pj x b n).length (rG (pj x b n))/\Kw v v':=by
 have K:=QJ hx h1 h2 hb b1 b2 (n:=n);have A:=abT hx h1 h2 hb b1 b2 (n:=n);have R:=To hx h1 h2 hb b1 b2 (n:=n);have C:(oj (str (iU x)) (str (jB b)) n).length<=20000000:=by
  have U:=adZ x h2;have B:=afZ (x:=x) (a:=b) (n:=n) h2 b2 hn;rw[Tn hx h1 h2 hb b1 b2,aU];omega
 generalize pj x b n=rs at *;have Y:((([64,114,9]++gV x.length)::(rs).map kO).map str++[nS]).length=(rs).length+2:=by simp
 have H:=afW (Q:=Q) (v:=v) (s:=str (oj (str (iU x)) (str (jB b)) n)) (by rw[ia];omega) A (by rw[Y];omega) ?_ ?_ ?_ ?_
 ·rw[Y,Nat.add_sub_cancel,QL K _ (ao _),dp]at H;exact H
 ·rw[Y,aj,cf (by simp)];simp
 ·rw[dZ,c_,dU,ia];simp
 ·rw[dZ,c_,dU,pX];rfl
 ·intro j I;rw[Y]at I;obtain⟨F,hF⟩:∃F,rs[j]?=some F:=⟨_,au (show j<rs.length by omega)⟩;have D:=bu hF;have e:(((([64,114,9]++gV x.length)::(rs).map kO).map str++[nS])).getD (j+1) nS=str (kO F):=by
   rw[aj,br (by simp;omega),ax,dc,ax,hF];rfl
  rw[e];refine(K F D).line ?_;have:=QK (c:=10) (Ls:=([64,114,9]++gV x.length)::(rs).map kO) (l:=kO F) (di _ (aN.2 ⟨F,D,rfl⟩));rw[<-R]at this;omega
end Ph
section
open RowKit
theorem PD{p:List UInt8}{add:Nat}{more:Bool}{L:List (Nat×Nat×Nat)}{i:Nat}{h:Nat×Nat×Nat}(e:L[i]?=some h):(pf xn xb rn p mk add more L)[i]?=some (vx xn xb rn p mk (qc add more i) h):=by
 have Y:i<L.length:=(de.1 e).1;unfold pf;rw[ax,cg Y,bB,aj,e];rfl
theorem CX{p:List UInt8}{add:Nat}{more:Bool}{L:List (Nat×Nat×Nat)}:(pf xn xb rn p mk add more L).length=L.length:=by simp[pf]
theorem PF:∀{rs:List F9} {i j:Nat} {F:F9},rs[i]?=some F->j<9->(rG rs)[i *9+j]?=(qL (F.map str))[j]?
 |[],i,j,F,h,_=>by simp at h
 |G::rs,0,j,F,h,Y=>by
  cases h;have e:rG (G::rs)=qL (G.map str)++rG rs:=rfl;rw[e,br (by simp[qL];omega)];simp
 |G::rs,i+1,j,F,h,Y=>by
  have e:rG (G::rs)=qL (G.map str)++rG rs:=rfl;rw[e,cf (by simp[qL];omega),show(i+1) *9+j-(qL (G.map str)).length=i *9+j by simp[qL];omega];exact PF h Y
theorem ad1{H:Nat}{l:ae}{rs:List F9}(h:w.ownsRow H 42 9 l rs.length (rG rs))(hn:1<=rs.length):∃G C,l=.slice (some ⟨G,0,none⟩) rs.length C/\H<=G/\G<w.heap.size/\∀i j F,rs[i]?=some F->j<9->w.cell? ⟨G,i *9+j,none⟩=(qL (F.map str))[j]?:=by
 rcases h.2 with⟨_,I⟩|⟨g,cap,K,rfl,h2,Y,A,U,B,D⟩
 ·omega
 ·refine⟨g,cap,rfl,h2,Ph.j8 Y,fun i j F hF R=>?_⟩;have J:i<rs.length:=(de.1 hF).1;rw[<-PF hF R,<-D,dV (by omega),cz];simp[ar,Y]
def mV(b:List UInt8)(s:Nat):List UInt8:=if s=0 then b else pg b
def We(b:List UInt8)(s:Nat):List UInt8:=if s=0 then iY b.length else ky (str (iY b.length))
def tg(s i:Nat):Nat:=16 *s+if 0<i then 256 else 0
abbrev zJ:=Nat×Nat×Nat×Nat
def lD(x b:List UInt8)(n:Nat):List zJ:=(iL (str (mV b 0)) (str x) n).map (Prod.mk 0)++(iL (str (mV b 1)) (str x) n).map (Prod.mk 1)
def zK(x b:List UInt8)(i:Nat)(q:zJ):F9:=vx [114] (str x) [97] (mV b q.1) (We b q.1) (tg q.1 i) q.2
theorem G_(x b:List UInt8)(n:Nat):pj x b n=if lD x b n=[]then [zv [97] b (iY b.length)]else(bQ (lD x b n).length).map fun i=>zK x b i ((lD x b n).getD i (0,0,0,0)):=by
 have hd:pj x b n=if iL (str b) (str x) n=[]/\iL (str (pg b)) (str x) n=[]then [zv [97] b (iY b.length)]else pf [114] (str x) [97] b (iY b.length) 0 false (iL (str b) (str x) n)++pf [114] (str x) [97] (pg b) (ky (str (iY b.length))) 16 (decide (iL (str b) (str x) n≠ [])) (iL (str (pg b)) (str x) n):=rfl
 have D:lD x b n=(iL (str b) (str x) n).map (Prod.mk 0)++(iL (str (pg b)) (str x) n).map (Prod.mk 1):=rfl;rw[hd,D];generalize iL (str b) (str x) n=Y;generalize iL (str (pg b)) (str x) n=H;by_cases K:Y=[]/\H=[]
 ·rw[if_pos K,K.1,K.2];rfl
 ·rw[if_neg K,if_neg (by simpa using K)];refine dR fun i=>?_;by_cases h1:i<Y.length
  ·obtain⟨h,e⟩:∃h,Y[i]?=some h:=⟨_,au h1⟩;rw[br (by rw[CX];exact h1),PD e,ax,cg (by simp;omega),bB,aj,br (by simpa using h1),ax,e];show some _=some (zK x b i (0,h))
   unfold zK;rw[show qc 0 false i=tg 0 i by simp[qc,tg]];rfl
  ·rw[cf (by rw[CX];omega),CX];by_cases h2:i-Y.length<H.length
   ·obtain⟨h,e⟩:∃h,H[i-Y.length]?=some h:=⟨_,au h2⟩;rw[PD e,ax,cg (by simp;omega),bB,aj,cf (by simp;omega),bF,ax,e];show some _=some (zK x b i (1,h))
    unfold zK;have:qc 16 (decide (Y≠ [])) (i-Y.length)=tg 1 i:=by
     unfold qc tg;rcases Y with _|⟨y,Y⟩
     ·simp;split<;>rfl
     ·simp at h1;rw[if_pos (.inl (by simp)),if_pos (by omega)]
    rw[this];rfl
   ·rw[cH (by rw[CX];omega),cH (by simp;omega)]
theorem ze{b:List UInt8}{n:Nat}{q:zJ}(h:q∈lD x b n):q.1<2/\q.2∈iL (str (mV b q.1)) (str x) n/\q.2.1<=q.2.2.1/\q.2.2.1<=x.length/\q.2.2.2<=n:=by
 have key:∀s y,s<2->y∈iL (str (mV b s)) (str x) n->s<2/\y∈iL (str (mV b s)) (str x) n/\y.1<=y.2.1/\y.2.1<=x.length/\y.2.2<=n:=fun s y K Y=>by
  have:=A2 (str (mV b s)) (str x) n _ (ao _) _ Y;rw[ia]at this;exact⟨K,Y,this⟩
 rcases aK.1 h with h|h
 ·obtain⟨y,Y,rfl⟩:=aN.1 h;exact key 0 y (by decide) Y
 ·obtain⟨y,Y,rfl⟩:=aN.1 h;exact key 1 y (by decide) Y
theorem ah5{b:List UInt8}{n s:Nat}{h:Nat×Nat×Nat}(Y:s<2)(m:h∈iL (str (mV b s)) (str x) n):(s,h)∈lD x b n:=by
 rcases(show s=0\/s=1 by omega)with rfl|rfl
 ·exact d_ _ (aN.2 ⟨h,m,rfl⟩)
 ·exact List.mem_append_right _ (aN.2 ⟨h,m,rfl⟩)
theorem aga(x b:List UInt8)(n:Nat):(lD x b n).length<=2 *(x.length+1):=by
 have h1:=CB (str (mV b 0)) (str x) n ((str x).size+1);have h2:=CB (str (mV b 1)) (str x) n ((str x).size+1);rw[ia]at h1 h2;unfold lD iL;rw[aU,bF,bF,ia];omega
def EP(x b:List UInt8)(i:Nat)(q:zJ):List Value:=[.string (str [97]),.int .i64 (tg q.1 i:Nat),.string (str [114]),.int .i64 (q.2.1+1:Nat),.string (str (nG (str (iu (str (mV b q.1)) ((str x).extract q.2.1 q.2.2.1))))),.string (str (gV q.2.2.2)),.string (str (pz (str (mV b q.1)) ((str x).extract q.2.1 q.2.2.1) (str (iu (str (mV b q.1)) ((str x).extract q.2.1 q.2.2.1))))),.string (str (mV b q.1)),.string (str (We b q.1))]
def Tp(b:List UInt8):List Value:=[.string (str [97]),.int .i64 4,.string (str [42]),.int .i64 0,.string (str [42]),.string (str [45]),.string (str [45]),.string (str b),.string (str (iY b.length))]
theorem agb{b:List UInt8}{i:Nat}{q:zJ}(U:q.1<2)(Y:q.2.1<=9000):qL ((zK x b i q).map str)=EP x b i q:=by
 show [_,bU .i64 (kS (str (gV (tg q.1 i)))),_,bU .i64 (kS (str (gV (q.2.1+1)))),_,_,_,_,_]=_
 rw[yT (by unfold tg;split<;>omega),yT (by omega)];rfl
theorem ad2(b:List UInt8):qL ((zv [97] b (iY b.length)).map str)=Tp b:=by
 show [_,bU .i64 (kS (str [52])),_,bU .i64 (kS (str [48])),_,_,_,_,_]=_
 rw[show kS (str [52])=4 by decide+kernel,show kS (str [48])=0 by decide+kernel];rfl
def nX(x b:List UInt8)(n:Nat):Nat:=if lD x b n=[]then 1 else(lD x b n).length
def sM(x b:List UInt8)(n i:Nat):List Value:=if lD x b n=[]then Tp b else EP x b i ((lD x b n).getD i (0,0,0,0))
theorem PG(x b:List UInt8)(n:Nat):(pj x b n).length=nX x b n:=by
 rw[G_,nX];split
 ·rfl
 ·simp
theorem ah6(x b:List UInt8)(n:Nat):1<=nX x b n:=by
 unfold nX;split
 ·exact ao _
 ·rename_i h;exact cI.2 h
theorem ajX(x b:List UInt8)(n:Nat):nX x b n<=2 *(x.length+1):=by
 have:=aga x b n;unfold nX;split<;>omega
theorem ah7{H:Nat}{l:ae}{b:List UInt8}{n:Nat}(hx:x.length<=200)(h:w.ownsRow H 42 9 l (pj x b n).length (rG (pj x b n))):∃G C,l=.slice (some ⟨G,0,none⟩) (nX x b n) C/\H<=G/\G<w.heap.size/\∀i j,i<nX x b n->j<9->w.cell? ⟨G,i *9+j,none⟩=(sM x b n i)[j]?:=by
 obtain⟨G,C,e,h1,h2,R⟩:=ad1 h (by rw[PG];exact ah6 x b n);rw[PG]at e;refine⟨G,C,e,h1,h2,fun i j K I=>?_⟩;unfold sM;by_cases Y:lD x b n=[]
 ·rw[if_pos Y,<-ad2];rw[nX,if_pos Y]at K;obtain rfl:i=0:=by omega
  exact R 0 j _ (by rw[G_,if_pos Y];rfl) I
 ·rw[nX,if_neg Y]at K;have A:(lD x b n).getD i (0,0,0,0)∈lD x b n:=by rw[aj,au K];exact bt _
  have D:=ze A;rw[if_neg Y,<-agb D.1 (by omega)];exact R i j _ (by rw[G_,if_neg Y,ax,cg K];rfl) I
theorem agc(p t:ByteArray):∀f i j,∀c∈iR p t f i j,Ch c:=by
 intro f;induction f with
 |zero=>exact fun i j c Y=>by simp[iR]at Y
 |succ f K=>
  intro i j c Y;rw[iR]at Y;split at Y
  ·simp at Y
  ·split at Y
   ·rcases aK.1 Y with h|h
    ·exact K _ _ c h
    ·exact .inl (bA.1 h)
   ·split at Y
    ·rcases aK.1 Y with h|h
     ·exact K _ _ c h
     ·exact .inr (.inl (bA.1 h))
    ·rcases aK.1 Y with h|h
     ·exact K _ _ c h
     ·exact .inr (.inr (bA.1 h))
theorem ah8(p t:ByteArray)(x:Nat)(h:x<(str (iu p t)).size):Ch (at8 (str (iu p t)) x):=by
 rw[ia]at h;rw[pX,aj,au h];exact agc p t _ _ _ _ (bt _)
theorem YF(p t:ByteArray)(w:af)(hp:p.size<=60)(U:t.size<=60):
  aH ai 31 #[.string (str (nG (str (iu p t))))] w fun e w'=>e=.returned (.string (str (iu p t)))/\w'=w:=by
 have K:=AM p t;have Y:(str (iu p t)).size=(iu p t).length:=ia _;have hr:=Hu (str (iu p t)) (by omega);exact YE _ _ 0 w (Z4 (str (iu p t)) (by omega) (ah8 p t)) (by omega)
end
namespace Ph
open Conc Ren RowKit
def SD(w:af)(G N:Nat)(A:Nat->Nat->ByteArray)(y z:Nat->Nat):Prop:=∀i,i<N->w.cell? ⟨G,i *9,none⟩=some (.string (A i 0))/\w.cell? ⟨G,i *9+1,none⟩=some (ii (y i))/\w.cell? ⟨G,i *9+2,none⟩=some (.string (A i 2))/\w.cell? ⟨G,i *9+3,none⟩=some (ii (z i))/\w.cell? ⟨G,i *9+4,none⟩=some (.string (A i 4))/\w.cell? ⟨G,i *9+5,none⟩=some (.string (A i 5))/\w.cell? ⟨G,i *9+6,none⟩=some (.string (A i 6))/\w.cell? ⟨G,i *9+7,none⟩=some (.string (A i 7))/\w.cell? ⟨G,i *9+8,none⟩=some (.string (A i 8))
theorem abU(c:Nat)(Y:c<=1000)(W:af):aH PR 19 #[.int .i64 c,.int .i64 2] W fun e w'=>e=.returned (.int .i64 (c%2:Nat))/\w'=W:=by
 have:=yJ (c:Int) 2 W ⟨by omega,by omega⟩ (by omega) (by omega);have e:iO (c:Int) 2=c%2:=by unfold iO;rw[if_neg (by omega)];rfl
 rw[e]at this;exact this
end Ph
section
open RowKit
def ox(x b:List UInt8)(n i c:Nat):ByteArray:=match(sM x b n i)[c]? with
 |some (.string s)=>s
 |_=>nS
def rP(x b:List UInt8)(n i c:Nat):Nat:=match(sM x b n i)[c]? with
 |some (.int _ z)=>z.toNat
 |_=>0
theorem agd(x b:List UInt8)(n i:Nat):sM x b n i=[.string (ox x b n i 0),.int .i64 (rP x b n i 1:Nat),.string (ox x b n i 2),.int .i64 (rP x b n i 3:Nat),.string (ox x b n i 4),.string (ox x b n i 5),.string (ox x b n i 6),.string (ox x b n i 7),.string (ox x b n i 8)]:=by
 unfold ox rP sM;split<;>rfl
theorem age{b:List UInt8}{n G:Nat}(h:∀i j,i<nX x b n->j<9->w.cell? ⟨G,i *9+j,none⟩=(sM x b n i)[j]?):Ph.SD w G (nX x b n) (ox x b n) (fun i=>rP x b n i 1) (fun i=>rP x b n i 3):=by
 intro i Y;have k:=fun j K=>h i j Y K;rw[agd]at k;exact⟨k 0 (by omega),k 1 (by omega),k 2 (by omega),k 3 (by omega),k 4 (by omega),k 5 (by omega),k 6 (by omega),k 7 (by omega),k 8 (by omega)⟩
theorem Z6(s:ByteArray)(w:af)(U:s.size<=200):
  aH ai 21 #[.string s] w fun e w'=>e=.returned (.string (iP s 0))/\w'=w:=by
 go_enter Tryz.func21,Tryz.ntmps21
 go_wp2
 go_loop [3,4] (fun t i=>Tu s t i) (fun _ i=>(intOf i+1).toNat)
 case atStart=>
  rcases Nat.eq_zero_or_pos s.size with K|hp
  ·left;refine⟨by rw[K];rfl,od ?_⟩;unfold iP;rw[da (by rw[Ha];omega)];rfl
  ·refine .inr ⟨s.size-1,by omega,jb (by omega),od ?_⟩;unfold iP;rw[da (by rw[Ha];omega)];rfl
 case round=>
  rcases hrel with⟨rfl,rfl⟩|⟨j,Y,rfl,rfl⟩
  ·go_wp2
   go_ret
   exact⟨rfl,rfl⟩
  ·have H:=Cy s (j+1);go_wp2
   all_goals
    go_round
    case rel=>
     go_light
     first
      |exact AE s j Y _ (aj0 _ ‹_›)
      |exact AE s j Y _ (aj1 _ ‹_›)
      |exact AE s j Y _ (aj2 _ ‹_›)
      |exact AE s j Y _ (aj3 _ ‹_›)
      |exact AE s j Y _ (aj4 _ ‹_› ‹_› ‹_› ‹_›)
    case measure=>go_light;simp[intOf]
theorem PH{p X:ByteArray}{k:Nat}{h:Nat×Nat×Nat}:∀n,h∈lQ p X k n->h.2.1<n/\h.1=(iy p X k h.2.1).2/\h.2.2=(iy p X k h.2.1).1/\h.2.2<=k
 |0,m=>by simp[lQ]at m
 |e+1,m=>by
  have Y:=PH (p:=p) (X:=X) (k:=k) (h:=h) e;rw[lQ]at m;split at m
  ·rename_i hb;rcases aK.1 m with m|m
   ·have:=Y m;exact⟨by omega,this.2⟩
   ·obtain rfl:=bA.1 m;exact⟨Nat.lt_succ_self _,rfl,rfl,hb⟩
  ·have:=Y m;exact⟨by omega,this.2⟩
theorem abV{p:ByteArray}{k:Nat}{h:Nat×Nat×Nat}(m:h∈iL p X k):jd p (X.extract h.1 h.2.1)=h.2.2:=by
 obtain⟨h1,h2,Y,K⟩:=PH _ m;obtain⟨_,b2,_⟩:=(yC p X k h.2.1 (by omega)).2 (by omega);rw[h2,Y];exact b2
theorem RQ(b:List UInt8)(s:Nat):(mV b s).length=b.length:=by
 unfold mV;split
 ·rfl
 ·exact Ip b
section
variable{x b:List UInt8}{n:Nat}
def hX(x b:List UInt8)(n i:Nat):zJ:=(lD x b n).getD i (0,0,0,0)
theorem Tq{i:Nat}(Y:i<(lD x b n).length):(lD x b n)[i]?=some (hX x b n i):=by
 unfold hX;rw[aj,au Y];rfl
theorem ah9{i:Nat}(Y:lD x b n≠ []):sM x b n i=EP x b i (hX x b n i):=by rw[sM,if_neg Y];rfl
end
theorem Ed.app{y1 y2:List UInt8}{n1 n2:Nat}(h1:Ed x1 y1 n1)(h2:Ed x2 y2 n2):Ed (x1++x2) (y1++y2) (n1+n2):=by
 induction h2 with
 |nil=>simpa using h1
 |sub a b _ Y=>rw[<-aT,<-aT,<-cn];exact Y.sub a b
 |del a _ Y=>rw[<-aT,<-cn];exact Y.del a
 |ins b _ Y=>rw[<-aT,<-cn];exact Y.ins b
theorem Ed.len{y:List UInt8}{n:Nat}(h:Ed x y n):y.length<=x.length+n:=by
 induction h with
 |nil=>exact ao _
 |sub a b _ Y=>simp only[aU,cJ];omega
 |del a _ Y=>simp only[aU,cJ];omega
 |ins b _ Y=>simp only[aU,cJ];omega
theorem Ed.split{y:List UInt8}{n:Nat}(h:Ed x y n):∀x1 x2,x=x1++x2->∃y1 y2 n1 n2,y=y1++y2/\n=n1+n2/\Ed x1 y1 n1/\Ed x2 y2 n2:=by
 have cut:∀{x x1 x2:List _} {a:UInt8},x++[a]=x1++x2->x2=[]\/∃z,x2=z++[a]/\x=x1++z:=by
  intro x x1 x2 a e;rcases cE x2 with rfl|⟨z,b,rfl⟩
  ·simp
  ·rw[c9,<-aT]at e;have:=List.append_inj' e rfl;obtain⟨rfl,K⟩:=this;cases K;exact .inr ⟨z,by simp,rfl⟩
 induction h with
 |nil=>
  intro x1 x2 e;obtain⟨rfl,rfl⟩:=List.append_eq_nil_iff.1 e.symm;exact⟨[],[],0,0,rfl,rfl,.nil,.nil⟩
 |@sub x y n a b h Y=>
  intro x1 x2 e;rcases cut e with rfl|⟨z,rfl,rfl⟩
  ·rw[aZ]at e;subst e;exact⟨_,[],_,0,(aZ _).symm,rfl,h.sub a b,.nil⟩
  ·obtain⟨y1,y2,n1,n2,rfl,rfl,h1,h2⟩:=Y x1 z rfl;exact⟨y1,y2++[b],n1,_,by simp,by omega,h1,h2.sub a b⟩
 |@del x y n a h Y=>
  intro x1 x2 e;rcases cut e with rfl|⟨z,rfl,rfl⟩
  ·rw[aZ]at e;subst e;exact⟨_,[],_,0,(aZ _).symm,rfl,h.del a,.nil⟩
  ·obtain⟨y1,y2,n1,n2,rfl,rfl,h1,h2⟩:=Y x1 z rfl;exact⟨y1,y2,n1,_,rfl,by omega,h1,h2.del a⟩
 |@ins x y n b h Y=>
  intro x1 x2 e;obtain⟨y1,y2,n1,n2,rfl,rfl,h1,h2⟩:=Y x1 x2 e;exact⟨y1,y2++[b],n1,_,by simp,by omega,h1,h2.ins b⟩
theorem Ed.all:∀y:List UInt8,Ed [] y y.length:=by
 intro y;induction h:y.length generalizing y with
 |zero=>obtain rfl:=dW.1 h;exact .nil
 |succ n Y=>
  rcases cE y with rfl|⟨z,b,rfl⟩
  ·simp at h
  ·rw[c9]at h⊢;exact(Y z (by simp_all)).ins b
theorem Ed.none{y:List UInt8}{c:UInt8}{m:Nat}(h:Ed [c] y m):∃n,n<=m+1/\Ed [] y n:=⟨_,by have:=h.len;simp at this;omega,Ed.all y⟩
theorem Ed.other{y:List UInt8}{c:UInt8}{m:Nat}(h:Ed [c] y m)(d:UInt8):∃n,n<=m+1/\Ed [d] y n:=by
 have Y:=h.len;rcases cE y with rfl|⟨z,b,rfl⟩
 ·exact⟨1,by omega,by simpa using Ed.del d .nil⟩
 ·refine⟨z.length+co d b,?_,by simpa using(Ed.all z).sub d b⟩;have:co d b<=1:=by unfold co;split<;>omega
  simp at Y;omega
theorem Ed.same:∀x:List UInt8,(∀c∈x,c≠78)->Ed x x 0:=by
 intro x hx;induction h:x.length generalizing x with
 |zero=>obtain rfl:=dW.1 h;exact .nil
 |succ n K=>
  rcases cE x with rfl|⟨z,b,rfl⟩
  ·simp at h
  ·rw[c9]at h hx⊢;have:=(K z (fun c Y=>hx c (d_ _ Y)) (by simp_all)).sub b b;have e:co b b=0:=by
    have hb:=hx b (by simp);unfold co ag;rw[if_pos (by simp[hb])]
   rw[e]at this;exact this
def oy(x y:List UInt8)(n:Nat):Prop:=∃m,m<=n/\Ed x y m
theorem oy.put{y:List UInt8}{n:Nat}(h:oy (x1++x2) y n)(c:UInt8):oy (x1++[c]++x2) y (n+1):=by
 obtain⟨m,Y,h⟩:=h;obtain⟨y1,y2,n1,n2,rfl,rfl,h1,h2⟩:=h.split x1 x2 rfl;refine⟨_,?_,(h1.del c).app h2⟩;omega
theorem oy.cut{y:List UInt8}{c:UInt8}{n:Nat}(h:oy (x1++[c]++x2) y n):oy (x1++x2) y (n+1):=by
 obtain⟨m,R,h⟩:=h;obtain⟨y1,y2,n1,n2,rfl,rfl,h1,h2⟩:=h.split _ x2 rfl;obtain⟨y3,U,n3,I,rfl,rfl,Y,K⟩:=h1.split x1 _ rfl;obtain⟨A,D,H⟩:=K.none;have:=(Y.app H).app h2;rw[aZ]at this;exact⟨_,by omega,this⟩
theorem oy.turn{y:List UInt8}{c:UInt8}{n:Nat}(h:oy (x1++[c]++x2) y n)(d:UInt8):oy (x1++[d]++x2) y (n+1):=by
 obtain⟨m,R,h⟩:=h;obtain⟨y1,y2,n1,n2,rfl,rfl,h1,h2⟩:=h.split _ x2 rfl;obtain⟨y3,U,n3,I,rfl,rfl,Y,K⟩:=h1.split x1 _ rfl;obtain⟨A,D,H⟩:=K.other d;exact⟨_,by omega,(Y.app H).app h2⟩
def An(z:Int):UInt8:=[65,67,71,84].getD (iO z 4) 0
def q6(s:List UInt8)(z:Int×Int×Int):List UInt8×Nat:=
 if iO z.1 3=0/\s.length<30 then(s.take (iO z.2.1 (s.length+1))++[An z.2.2]++s.drop (iO z.2.1 (s.length+1)),1)
 else if iO z.2.1 (s.length+1)<s.length/\iO z.1 3=1/\1<s.length then(s.take (iO z.2.1 (s.length+1))++s.drop (iO z.2.1 (s.length+1)+1),1)
 else if iO z.2.1 (s.length+1)<s.length then(s.take (iO z.2.1 (s.length+1))++[An z.2.2]++s.drop (iO z.2.1 (s.length+1)+1),1)
 else(s,0)
def kV(z:Nat->Int×Int×Int)(s:List UInt8):Nat->List UInt8×Nat
 |0=>(s,0)
 |i+1=>((q6 (kV z s i).1 (z i)).1,(kV z s i).2+(q6 (kV z s i).1 (z i)).2)
def qw(c:UInt8):Prop:=c=65\/c=67\/c=71\/c=84
theorem ah_(z:Int):qw (An z):=by
 have h:=pU z (show 0<4 by decide);unfold An;generalize iO z 4=j at *;have:j=0\/j=1\/j=2\/j=3:=by omega
 rcases this with rfl|rfl|rfl|rfl
 ·exact .inl rfl
 ·exact .inr (.inl rfl)
 ·exact .inr (.inr (.inl rfl))
 ·exact .inr (.inr (.inr rfl))
theorem aia{s y:List UInt8}{n:Nat}(z:Int×Int×Int)(h:oy s y n)(h1:1<=s.length)(U:∀c∈s,qw c):oy (q6 s z).1 y (n+(q6 s z).2)/\1<=(q6 s z).1.length/\(q6 s z).1.length<=s.length+1/\(∀c∈(q6 s z).1,qw c)/\(q6 s z).2<=1:=by
 have hb:=ah_ z.2.2;unfold q6;generalize An z.2.2=b at *;generalize iO z.2.1 _=a at *;have H:∀c∈s.take a,qw c:=fun c Y=>U c (bP Y);have D:∀k,∀c∈s.drop k,qw c:=fun k c Y=>U c (cK Y);have cut:a<s.length->∃c,s=s.take a++[c]++s.drop (a+1):=fun R=>⟨s[a],by simp⟩;split
 ·refine⟨oy.put (by simp_all) b,?_,?_,fun c Y=>?_,ao _⟩
  ·simp;omega
  ·simp;omega
  ·simp only[aK,bA]at Y;rcases Y with(Y|rfl)|Y
   ·exact H c Y
   ·exact hb
   ·exact D _ c Y
 ·split
  ·rename_i K;obtain⟨c,Y⟩:=cut K.1;refine⟨oy.cut (by rw[<-Y];exact h),?_,?_,fun c Y=>?_,ao _⟩
   ·simp;omega
   ·simp;omega
   ·simp only[aK]at Y;rcases Y with Y|Y
    ·exact H c Y
    ·exact D _ c Y
  ·split
   ·rename_i K;obtain⟨c,Y⟩:=cut K;refine⟨oy.turn (by rw[<-Y];exact h) b,?_,?_,fun c Y=>?_,ao _⟩
    ·simp;omega
    ·simp;omega
    ·simp only[aK,bA]at Y;rcases Y with(Y|rfl)|Y
     ·exact H c Y
     ·exact hb
     ·exact D _ c Y
   ·simp_all
theorem Jr(z:Nat->Int×Int×Int){s:List UInt8}(h1:1<=s.length)(Y:∀c∈s,qw c):∀i,oy (kV z s i).1 s (kV z s i).2/\1<=(kV z s i).1.length/\(kV z s i).1.length<=s.length+i/\(∀c∈(kV z s i).1,qw c)/\(kV z s i).2<=i
 |0=>⟨⟨0,ao _,Ed.same s fun c K e=>by have:=Y c K;subst e;exact absurd this (by unfold qw;decide)⟩,h1,ao _,Y,ao _⟩
 |i+1=>by
  obtain⟨a1,a2,a3,a4,a5⟩:=Jr z h1 Y i;obtain⟨b1,b2,H,b4,b5⟩:=aia _ a1 a2 a4;rw[kV];exact⟨b1,b2,by simp only;omega,b4,by omega⟩
theorem abW{p t:List UInt8}{n:Nat}(h:oy p t n):jd (str p) (str t)<=n:=by
 obtain⟨m,Y,h⟩:=h;have:=h.le (str p) (str t) (ao _) (ao _) (by simp[str]) (by simp[str]);exact aO this Y
theorem Ts{c:UInt8}(h:qw c):g_ c:=by
 rcases h with rfl|rfl|rfl|rfl<;>exact⟨by decide,by decide⟩
theorem ad9{p:List UInt8}{n s e:Nat}(U:s<=e)(Y:e<=x.length)(h:jd (str p) ((str x).extract s e)<=n):∃a d,a<=e/\d<=n/\(a,e,d)∈iL (str p) (str x) n:=by
 have:=(yC _ _ n e (by exact Y)).1 s U h;obtain⟨⟨a,e',d⟩,K,rfl⟩:=aN.1 ((CW (str p) (str x) n e).2 ⟨by exact Y,by omega⟩);obtain⟨h1,h2,H⟩:=A2 _ _ _ _ (ao _) _ K;exact⟨a,d,h1,H,K⟩
def jM(f:Bool)(p:List UInt8):List UInt8:=if f=true then pg p else p
theorem RV{p:List UInt8}(f:Bool)(hp:∀c∈p,g_ c):mV (jM f p) (if f=true then 1 else 0)=p:=by
 cases f
 ·rfl
 ·exact flip_flip hp
theorem abX{p:List UInt8}{n s e:Nat}(f:Bool)(hp:∀c∈p,g_ c)(F:s<=e)(U:e<=x.length)(h:jd (str p) ((str x).extract s e)<=n):∃i,i<(lD x (jM f p) n).length/\(hX x (jM f p) n i).1=(if f=true then 1 else 0)/\(hX x (jM f p) n i).2.2.1=e/\(hX x (jM f p) n i).2.2.2<=n:=by
 obtain⟨a,d,h1,h2,H⟩:=ad9 F U h;have D:((if f=true then 1 else 0,a,e,d))∈lD x _ n:=ah5 (by split<;>decide) (by rw[RV f hp];exact H);obtain⟨i,Y⟩:=List.getElem?_of_mem D;have K:=(de.1 Y).1;rw[Tq K]at Y;refine⟨i,K,?_⟩;rw[Option.some.inj Y];exact⟨rfl,rfl,h2⟩
theorem RX(zs:List Nat):∀n,j0 zs (n+1)=jP 44 ((bQ n).map fun i=>gV (zs.getD i 0))++gV (zs.getD n 0)
 |0=>by simp[j0,jP]
 |n+1=>by
  have K:∀(Y:List _) (y:List _),jP 44 (Y++[y])=jP 44 Y++y++[44]:=fun Y y=>by
   induction Y with
   |nil=>simp[jP]
   |cons a Y H=>simp[jP,H]
  rw[j0,RX zs n,if_neg (by omega),dj,bG,List.map_singleton,K];simp
theorem QM(n:Nat)(h:n<=9999):(44:UInt8)∉gV n:=by
 intro H;have hk:=(SC n).2;obtain⟨i,K,e⟩:=List.getElem_of_mem H;have key:∀k,k<=(str (gV n)).size->mz (str (gV n)) k=true->∀j,j<k->ta (at8 _ j)=true:=fun k=>by
  induction k with
  |zero=>omega
  |succ k D=>
   intro hk h j R;rw[mz,bM]at h;by_cases Y:j<k
   ·exact D (by omega) h.1 j Y
   ·obtain rfl:j=k:=by omega
    exact h.2
 have:=key _ (ao _) hk i (by exact K);rw[pX,aj,au K,ay,e]at this;exact absurd this (by decide)
theorem Z8(zs:List Nat)(h1:1<=zs.length)(U:∀z∈zs,z<=9999):iZ (str (j0 zs zs.length)) 44 ((str (j0 zs zs.length)).size+1)=zs.map fun z=>str (gV z):=by
 obtain⟨n,H⟩:∃n,zs.length=n+1:=⟨zs.length-1,by omega⟩;have Y:∀i,i<zs.length->zs.getD i 0<=9999:=fun i K=>by simp_all
 rw[H,RX,Da 44 _ (QM _ (Y n (by omega))) _ (fun y D=>by
  obtain⟨i,K,rfl⟩:=aN.1 D;exact QM _ (Y i (by have:=cL.1 K;omega)))]
 refine dR fun i=>?_;by_cases h:i<n
 ·rw[br (by simp_all),ax,ax,cg h,ax,au _];show some (str (gV _))=some (str (gV zs[i]))
  rw[aj,au _];rfl
 ·by_cases h2:i=n
  ·simp_all
  ·rw[cH (by simp;omega),cH (by simp;omega)]
theorem Z9{p:List UInt8}{n s e:Nat}{q st:Nat}(hx:∀c∈x,g_ c)(x1:1<=x.length)(x2:x.length<=200)(hp:∀c∈p,g_ c)(T:1<=p.length)(y:p.length<=30)(hn:n<=6)(M:n<p.length)(q1:1<=q)(q2:q<=8)(s1:1<=st)(s2:st<=200)(O:s<=e)(F:1<=e)(U:e<=x.length)(h:jd (str p) ((str x).extract s e)<=n):
  qb (str (iU x)) (str p) n q st=0/\∃zs:List Nat,tX (str (iU x)) (str p) n q st=str (j0 zs zs.length)/\(∀z∈zs,z<=9999)/\zs.length<=400/\(e-(p.length+n))/st∈zs:=by
 have hb:(str p).data.toList.all iM=true:=bq.2 fun c K=>(hp c K).1;have I:(str p).data.toList.map gb=p:=(dY fun c K=>(hp c K).2).trans (List.map_id _);have A:(str (iU x)).size=x.length+4:=by rw[ia];simp[iU]
 have Y:=ia p;have hr:pZ n (str p).size q st=true:=by
  unfold pZ;rw[decide_eq_true_eq];omega
 have D:=Oz hx x1 x2;have R:=OE _ _ n q st s e q1 s1 O (by exact U) h;have H:(e-(p.length+n))/st<stretches x.length st:=by
  rw[<-Aw _ _ _ s1];have:=Nat.div_mul_le_self (e-(p.length+n)) st;omega
 have gF:stretches x.length st<=400:=by
  unfold stretches;have:(x.length+st-1)/st<=x.length+st-1:=eh _ _;omega
 refine⟨?_,jE (str p) (str x) n q st (ma p.length n q) (stretches x.length st),?_,fun z Y=>?_,?_,?_⟩
 ·rw[qb,if_neg (by omega),if_neg (by rw[Ih hx x1 x2];simp),if_neg (by rw[hb,Y];rintro(h|h|h)<;>first|omega|cases h),if_neg (by simp_all)]
 ·rw[tX,if_neg (by rw[Ih hx x1 x2,hb,hr,Y,A];rintro(h|h|h|h|h|h)<;>first|omega|cases h),Rj,HD,I,D];simp only[Int.toNat_natCast,Y]
 ·have:=G7 _ _ _ _ _ _ _ z Y;omega
 ·have:=Az (str p) (str x) n q st (ma p.length n q) (stretches x.length st);omega
 ·exact(Cx _).2 ⟨H,R⟩
theorem QO(s:ByteArray):s.data.toList.take s.size=s.data.toList:=eg (by simp)
def sN(s:List UInt8):List UInt8:=s.filter (· != 78)
theorem abY(s:ByteArray)(k:Nat)(h:k<s.size):sN (s.data.toList.take (k+1))=sN (s.data.toList.take k)++if at8 s k=78 then []else [at8 s k]:=by
 rw[A1 s k h];unfold sN;rw[List.filter_append];by_cases e:at8 s k=78
 ·simp_all
 ·simp_all
theorem QP(s:List UInt8):(sN s).length<=s.length:=List.length_filter_le _ _
theorem YG(s:ByteArray)(w:af)(U:s.size<=200):
  aH ai 17 #[.string s] w fun e w'=>e=.returned (.string (str (sN s.data.toList)))/\w'=w:=by
 go_enter Tryz.func17,Tryz.ntmps17
 go_wp2
 go_loop [3,4] (fun t i=>∃k:Nat,k<=s.size/\i=.int .i64 k/\t=.string (str (sN (s.data.toList.take k)))) (fun _ i=>s.size-(intOf i).toNat)
 case atStart=>exact⟨0,bh _,rfl,rfl⟩
 case round=>
  obtain⟨k,hk,rfl,rfl⟩:=hrel;have R:(str (sN (s.data.toList.take k))).size<=200:=by
   have:=QP (s.data.toList.take k);rw[ia];simp only[dX]at this;omega
  by_cases Y:k<s.size
  ·have K:=laid (abY s k Y);have D:=mn s k Y;have hx:s.extract k (k+1)=str [at8 s k]:=by
    rw[<-AJ];simp only[ByteArray.data_extract,Array.toList_extract,List.extract_eq_take_drop];rw[show k+1-k=1 by omega,dQ (by simpa using Y)];rw[<-D];rfl
   have H:=laid hx;clear hx;by_cases e:at8 s k=78
   ·go_wp2
    go_round
    case rel=>go_light;exact⟨k+1,by omega,by go_num,od (by rw[K.out,if_pos e,aZ])⟩
    case measure=>go_light;simp[intOf];omega
   ·have d1:(((at8 s k).toNat:Int) != 78)=true:=by rw[bne_iff_ne];exact fun z=>e (eo.1 (by have:(78:UInt8).toNat=78:=rfl;omega))
    go_wp2
    go_round
    case rel=>go_light;exact⟨k+1,by omega,by go_num,od (by rw[K.out,if_neg e,H.out,ob])⟩
    case measure=>go_light;simp[intOf];omega
  ·go_wp2
   go_ret
   obtain rfl:k=s.size:=by omega
   exact⟨congrArg dL (od (by rw[QO])),rfl⟩
theorem ala(s:ByteArray)(k:Nat)(h:k<s.size):(s.data.toList.take (k+1)).countP mT=(s.data.toList.take k).countP mT+if at8 s k=73 then 0 else 1:=by
 rw[A1 s k h,List.countP_append];by_cases e:at8 s k=73
 ·rw[e];rfl
 ·simp[mT]
theorem abZ(l s:ByteArray)(w:af)(F:s.size<=1000)(U:∀W,aH ai 31 #[.string l] W fun e w'=>e=.returned (.string s)/\w'=W):
  aH ai 27 #[.string l] w fun e w'=>e=.returned (.int .i64 (s.data.toList.countP mT:Nat))/\w'=w:=by
 have H:=laid U;clear U
 go_enter Tryz.func27,Tryz.ntmps27
 go_wp2_with fail
 refine(H.out _).mono ?_;rintro e w1 ⟨rfl,rfl⟩;go_wp2
 go_loop [4,5] (fun t i=>∃k:Nat,k<=s.size/\i=.int .i64 k/\t=.int .i64 ((s.data.toList.take k).countP mT:Nat)) (fun _ i=>s.size-(intOf i).toNat)
 case atStart=>exact⟨0,bh _,rfl,rfl⟩
 case round=>
  obtain⟨k,hk,rfl,rfl⟩:=hrel;have R:(s.data.toList.take k).countP mT<=1000:=aO dP (by rw[dX];omega);by_cases Y:k<s.size
  ·have K:=laid (ala s k Y);have D:=mn s k Y;by_cases e:at8 s k=73
   ·go_wp2
    go_round
    case rel=>go_light;exact⟨k+1,by omega,by go_num,jb (by rw[K.out,if_pos e];rfl)⟩
    case measure=>go_light;simp[intOf];omega
   ·have d1:(((at8 s k).toNat:Int) != 73)=true:=by rw[bne_iff_ne];exact fun z=>e (eo.1 (by have:(73:UInt8).toNat=73:=rfl;omega))
    go_wp2
    go_round
    case rel=>go_light;exact⟨k+1,by omega,by go_num,jb (by rw[K.out,if_neg e];omega)⟩
    case measure=>go_light;simp[intOf];omega
  ·go_wp2
   go_ret
   obtain rfl:k=s.size:=by omega
   exact⟨congrArg dL (jb (by rw[QO,<-Array.countP_toList])),rfl⟩
theorem ab0(p t:ByteArray)(w:af)(hp:p.size<=60)(U:t.size<=60):
  aH ai 27 #[.string (str (nG (str (iu p t))))] w fun e w'=>e=.returned (.int .i64 (t.size:Nat))/\w'=w:=by
 have H:=AM p t;have K:(str _).size=(iu p t).length:=ia _;have Y:=(AB p t _ p.size t.size (ao _)).2;have:=abZ _ _ w (by omega) fun W=>YF p t W hp U;rw[show(str (iu p t)).data.toList.countP mT=t.size from Y]at this;exact this
theorem ab1(zs:List Nat)(n:Nat)(w:af)(h1:n∈zs)(U:∀z∈zs,z<=9999)(hl:zs.length<=400):
  aH ai 29 #[.string (str (j0 zs zs.length)),.int .i64 n] w fun e w'=>e=.returned (.bool true)/\Below w.heap.size w w':=by
 have C:1<=zs.length:=by
  rcases zs with _|⟨z,zs⟩
  ·cases h1
  ·simp
 have A:=Ik zs U zs.length (ao _);have hp:=Pp (str (j0 zs zs.length)) 44 w (by rw[ia];omega);rw[Z8 zs C U]at hp;have Z:=laid hp;have L:=laid h1;have M:=laid U;clear hp h1 U A
 go_enter Tryz.func29,Tryz.ntmps29
 go_wp2_with fail
 refine(Z.out).mono ?_;rintro e w1 ⟨v,rfl,S,hb⟩;have V:=laid hb;rcases S.2 with⟨_,G⟩|⟨g,cap,Y,rfl,h2,N,q,j,c,O⟩
 ·rw[bF]at G;omega
 have P:∀i,i<zs.length->w1.cell? ⟨g,i,none⟩=some (.string (str (gV (zs.getD i 0)))):=fun i I=>by
  have:Y.toList[i]?=some (.string (str (gV (zs.getD i 0)))):=by
   have E:(Y.toList.take ((zs.map fun z=>str (gV z)).length *1))[i]?=Y.toList[i]?:=dV (by simpa using I);rw[<-E,O,ax,ax,au I,aj,au I];rfl
  rw[<-this,cz];simp[ar,N]
 have F:=laid P;clear P S h2 N q j c O hb;simp only[bF];go_wp2
 go_loop [6] (fun i=>∃k:Nat,k<=zs.length/\i=.int .i64 k/\Hid (n∈zs.drop k)) (fun i=>zs.length-(intOf i).toNat)
 case atStart=>exact⟨0,bh _,rfl,L⟩
 case round=>
  obtain⟨k,hk,rfl,J⟩:=hrel;have K:k<zs.length:=by
   rcases Nat.lt_or_ge k zs.length with h|h
   ·exact h
   ·have:=J.out;rw[da h]at this;cases this
  have d:=F.out k K;have R:zs.getD k 0=zs[k]:=by simp_all
  have H:zs.getD k 0<=9999:=by rw[R];exact M.out _ (bt _)
  have Q:n=zs.getD k 0\/n∈zs.drop (k+1):=by
   have:=J.out;rw[dQ K,bg]at this;rw[R];exact this
  have B:=G6 (str (gV (zs.getD k 0)));rw[yT H]at B;have T:(str (gV (zs.getD k 0))).size<=100000000:=by rw[ia];have:=(mF _ H).2;omega
  have X:=laid fun W=>B W T;have D:=laid Q;clear B T Q R M F L;generalize zs.getD k 0=z at *;go_wp2_with fail
  refine(X.out _).mono ?_;rintro e w2 ⟨rfl,rfl⟩;by_cases e:z=n
  ·go_wp2
   go_ret
   exact⟨rfl,V.out⟩
  ·go_wp2
   go_round
   case rel=>go_light;exact⟨k+1,by omega,by go_num,laid (D.out.resolve_left fun y=>e y.symm)⟩
   case measure=>go_light;simp[intOf];omega
theorem ajY(j:Nat)(h:j<4):(⟨#[65,67,71,84]⟩:ByteArray).extract j (j+1)=str [[65,67,71,84].getD j 0]:=by
 have:j=0\/j=1\/j=2\/j=3:=by omega
 rcases this with rfl|rfl|rfl|rfl<;>rfl
theorem Dh(l:List UInt8)(a:Nat):(str l).extract 0 a=str (l.take a):=by rw[tN];simp
theorem Di(l:List UInt8)(a:Nat):(str l).extract a l.length=str (l.drop a):=by rw[tN,dp]
theorem Z_(b off len cap:Nat)(s0:List UInt8)(z:Nat->Int×Int×Int)(w:af)(h1:1<=s0.length)(hs:s0.length<=20)(O:∀c∈s0,qw c)(T:len<=az)
  (h:∀i,i<len->w.cell? ⟨b,off+i *3,none⟩=some (.int .i64 (z i).1)/\w.cell? ⟨b,off+i *3+1,none⟩=some (.int .i64 (z i).2.1)/\w.cell? ⟨b,off+i *3+2,none⟩=some (.int .i64 (z i).2.2)/\jj (z i).1/\jj (z i).2.1/\jj (z i).2.2):
  aH ai 20 #[.string (str s0),.slice (some ⟨b,off,none⟩) len cap,.int .i64 4] w fun e w'=>e=.returned (.tuple #[.string (str (kV z s0 (min len 4)).1),.int .i64 ((kV z s0 (min len 4)).2:Nat)])/\∃k,w'=w.drewN k:=by
 have H:=laid h;have F:=laid (Jr z h1 O);have R:=laid (fun(c:Int) (n:Nat) (N:jj c) (h1:1<=n) (h2:n<=1000) (W:af)=>yJ c n W N h1 h2);clear h;unfold az at T
 go_enter Tryz.func20,ei
 go_wp2
 go_loopw [0,8,9] (fun s n i wr=>∃k:Nat,k<=min len 4/\i=.int .i64 k/\s=.string (str (kV z s0 k).1)/\n=.int .i64 ((kV z s0 k).2:Nat)/\Hid (∃d,wr=w.drewN d)) (fun _ _ i _=>min len 4-(intOf i).toNat)
 case atStart=>exact⟨0,bh _,rfl,rfl,rfl,laid ⟨0,rfl⟩⟩
 case round=>
  obtain⟨k,hk,rfl,rfl,rfl,A⟩:=hrel;by_cases c1:k<len
  ·by_cases c2:k<4
   ·obtain⟨Z,E,G,P,o1,o2⟩:=H.out k c1;obtain⟨d,rfl⟩:=A.out;obtain⟨_,g1,q,_,j⟩:=F.out k;have B:kV z s0 (k+1)=((q6 (kV z s0 k).1 (z k)).1,(kV z s0 k).2+(q6 (kV z s0 k).1 (z k)).2):=rfl;unfold q6 An at B;have Y:=laid B;clear B;generalize(kV z s0 k).1=s at *;generalize(kV z s0 k).2=n at *;generalize z k=y at *;obtain⟨C,y1,y2⟩:=y;dsimp only at *;have f:=pU C (show 0<3 by decide);have g:=pU y1 (show 0<s.length+1 by omega);have Q:=pU y2 (show 0<4 by decide);have o:(str s).size=s.length:=rfl;have I:=laid (ajY _ Q);have l:ak.wrap ((iO y2 4:Nat)+1:Int)=((iO y2 4+1:Nat):Int):=aQ _ (by omega);have K0:=laid (R.out C 3 P (by omega) (by omega));have J:=laid (R.out y1 (s.length+1) o1 (by omega) (by omega));have K2:=laid (R.out y2 4 o2 (by omega) (by omega));clear R;generalize iO C 3=U at *;generalize iO y1 (s.length+1)=K at *;generalize iO y2 4=X at *;go_wp2
    go_quiet((go_at_call 19;refine(K2.out _).mono ?_;rintro e V ⟨rfl,rfl⟩;exact⟨rfl,_,rfl⟩))
    go_wp2_with fail
    refine(J.out _).mono ?_;rintro e w1 ⟨rfl,rfl⟩;have f1:(s.length:Int)<30:=by omega
    rcases(show U=0\/U=1\/U=2 by omega)with rfl|rfl|rfl
    ·rw[if_pos ⟨rfl,by omega⟩]at Y;go_wp2_with fail
     refine(K0.out _).mono ?_;rintro e w2 ⟨rfl,rfl⟩;go_wp2
     go_quiet(fail)
     go_wp2
     go_roundw
     case rel=>go_light;exact⟨k+1,by omega,by go_num,od (by rw[Y.out];show _=str (_);rw[I.out,Dh,Di,ob,ob]),jb (by rw[Y.out];show _=((n+_:Nat):Int);omega),laid ⟨_,rfl⟩⟩
     case measure=>go_light;simp[intOf];omega
    ·rw[if_neg (by omega)]at Y;by_cases D:K<s.length
     ·have f2:(K:Int)<(s.length:Int):=by omega
      have S:ak.wrap ((K:Nat)+1:Int)=((K+1:Nat):Int):=aQ _ (by omega);by_cases c4:1<s.length
      ·have M:(1:Int)<(s.length:Int):=by omega
       rw[if_pos ⟨D,rfl,c4⟩]at Y;go_wp2_with fail
       refine(K0.out _).mono ?_;rintro e w2 ⟨rfl,rfl⟩;go_wp2_with fail
       refine(K0.out _).mono ?_;rintro e w2 ⟨rfl,rfl⟩;go_wp2
       go_quiet(fail)
       go_wp2
       go_roundw
       case rel=>go_light;exact⟨k+1,by omega,by go_num,od (by rw[Y.out];show _=str (_);rw[Dh,Di,ob]),jb (by rw[Y.out];show _=((n+_:Nat):Int);omega),laid ⟨_,rfl⟩⟩
       case measure=>go_light;simp[intOf];omega
      ·have M:¬(1:Int)<(s.length:Int):=by omega
       rw[if_neg (fun h=>c4 h.2.2),if_pos D]at Y;go_wp2_with fail
       refine(K0.out _).mono ?_;rintro e w2 ⟨rfl,rfl⟩;go_wp2_with fail
       refine(K0.out _).mono ?_;rintro e w2 ⟨rfl,rfl⟩;go_wp2
       go_quiet(fail)
       go_wp2
       go_roundw
       case rel=>go_light;exact⟨k+1,by omega,by go_num,od (by rw[Y.out];show _=str (_);rw[I.out,Dh,Di,ob,ob]),jb (by rw[Y.out];show _=((n+_:Nat):Int);omega),laid ⟨_,rfl⟩⟩
       case measure=>go_light;simp[intOf];omega
     ·have f2:¬(K:Int)<(s.length:Int):=by omega
      rw[if_neg (fun h=>D h.1),if_neg D]at Y;go_wp2_with fail
      refine(K0.out _).mono ?_;rintro e w2 ⟨rfl,rfl⟩;go_wp2
      go_roundw
      case rel=>go_light;exact⟨k+1,by omega,by go_num,od (by rw[Y.out]),jb (by rw[Y.out];rfl),laid ⟨_,rfl⟩⟩
      case measure=>go_light;simp[intOf];omega
    ·rw[if_neg (by omega)]at Y;by_cases D:K<s.length
     ·have f2:(K:Int)<(s.length:Int):=by omega
      have S:ak.wrap ((K:Nat)+1:Int)=((K+1:Nat):Int):=aQ _ (by omega);rw[if_neg (by omega),if_pos D]at Y;go_wp2_with fail
      refine(K0.out _).mono ?_;rintro e w2 ⟨rfl,rfl⟩;go_wp2_with fail
      refine(K0.out _).mono ?_;rintro e w2 ⟨rfl,rfl⟩;go_wp2
      go_quiet(fail)
      go_wp2
      go_roundw
      case rel=>go_light;exact⟨k+1,by omega,by go_num,od (by rw[Y.out];show _=str (_);rw[I.out,Dh,Di,ob,ob]),jb (by rw[Y.out];show _=((n+_:Nat):Int);omega),laid ⟨_,rfl⟩⟩
      case measure=>go_light;simp[intOf];omega
     ·have f2:¬(K:Int)<(s.length:Int):=by omega
      rw[if_neg (fun h=>D h.1),if_neg D]at Y;go_wp2_with fail
      refine(K0.out _).mono ?_;rintro e w2 ⟨rfl,rfl⟩;go_wp2
      go_roundw
      case rel=>go_light;exact⟨k+1,by omega,by go_num,od (by rw[Y.out]),jb (by rw[Y.out];rfl),laid ⟨_,rfl⟩⟩
      case measure=>go_light;simp[intOf];omega
   ·have L:¬(k:Int)<4:=by omega
    go_wp2
    go_ret2
    obtain rfl:k=min len 4:=by omega
    exact⟨rfl,A.out⟩
  ·go_wp2
   go_ret2
   obtain rfl:k=min len 4:=by omega
   exact⟨rfl,A.out⟩
end
namespace Ren
def K5:oV:={iz:=fun f=>[18,19,20].contains f,rQ:=fun _=>false,tV:=fun _=>false,qQ:=false,qN:=true}
theorem aac:y9 K5 ai=true:=by decide+kernel
theorem aad:([18,19,20].all fun f=>rD K5 ai sI f)=true:=by decide+kernel
theorem ad_(f:Nat)(h:K5.iz f=true):rD K5 ai sI f=true:=by
 have:f∈[18,19,20]:=by
  have:[18,19,20].contains f=true:=h;simpa using this
 exact bq.1 aad f this
theorem ajZ(ro:Nat->Prop)(jC:Nat->Nat->Prop)(rest:List Item->Prop)(jm:List Deferred->Prop):@lF (K5.jo ai ro jC rest jm) ai:=DX (fun h=>by cases h) _ CO aac ad_ (Dt K5 ro jC _ jm)
section
variable[gK](r:Rn)
theorem SE{c:Array ae}(h:∀(i:Nat) (Y:i<c.size),∃y,V r y c[i]/\∀k n,c[i]=.int k n->y=c[i]):∃c':Array ae,VA r c' c/\∀(i:Nat) k n,c[i]?=some (.int k n)->c'[i]?=some (.int k n):=by
 refine⟨Array.ofFn fun i=>(h i.1 i.2).choose,⟨by simp,fun i x x' e e'=>?_⟩,fun i k n e=>?_⟩
 ·obtain⟨Y,rfl⟩:=bL.1 e';rw[dG,dif_pos Y]at e;obtain rfl:=Option.some.inj e;exact(h i Y).choose_spec.1
 ·obtain⟨Y,K⟩:=bL.1 e;rw[dG,dif_pos Y,(h i Y).choose_spec.2 k n K,K]
theorem TtN(hw:gK.qN=true):∀(m:Nat) (x:ae),SizeOf.sizeOf x<m->∃y,V r y x/\∀k n,x=.int k n->y=x
 |0,x,h=>absurd h (Nat.not_lt_zero _)
 |m+1,x,h=>by
  cases x with
  |agg c=>
   obtain⟨c',H,_⟩:=SE r (c:=c) fun i Y=>TtN hw m c[i] (by
    have:=Array.sizeOf_getElem c i Y;simp at h;omega)
   exact⟨.agg c',.agg H.size H.at_,fun _ _ e=>by cases e⟩
  |bool b=>exact⟨_,.bool b,fun _ _ e=>by simp⟩
  |int k n=>exact⟨_,.int k n,fun _ _ _=>rfl⟩
  |pointer a=>
   cases a with
   |none=>exact⟨_,.nilPtr,fun _ _ e=>by simp⟩
   |some a=>exact⟨_,.blank rfl,fun _ _ e=>by cases e⟩
  |nilIface=>exact⟨_,.nilIface,fun _ _ e=>by simp⟩
  |nilFunc=>exact⟨_,.nilFunc,fun _ _ e=>by simp⟩
  |func _ _ _=>exact⟨_,.blank hw,fun _ _ e=>by cases e⟩
  |_=>exact⟨_,.blank rfl,fun _ _ e=>by cases e⟩
theorem Tt(hw:gK.qN=true)(x:ae):∃y,V r y x/\∀k n,x=.int k n->y=x:=TtN r hw _ x (Nat.lt_succ_self _)
end
end Ren
namespace Ph
open Conc Ren RowKit
def rH(w:af)(a:Option Addr)(len:Nat)(Ok:(Nat->Option ae)->Nat->Prop):Prop:=
 a=none/\len=0\/∃b off cs ty fz,a=some ⟨b,off,none⟩/\w.heap[b]?=some (.cells cs ty fz)/\len<=az/\∀i,i<len->Ok (fun k=>w.cell? ⟨b,off+k,none⟩) i
theorem rH.on{w':af}{a:Option Addr}{len:Nat}{Ok:(Nat->Option ae)->Nat->Prop}(h:rH w a len Ok)(g:ie (fun _=>False) w w'):rH w' a len Ok:=by
 rcases h with h|⟨b,off,cs,I,fz,h1,h2,K,H⟩
 ·exact .inl h
 ·have Y:=g.old b (j8 h2) fun _ _ y=>y;refine .inr ⟨b,off,cs,I,fz,h1,Y.trans h2,K,fun i R=>?_⟩;have D:(fun k=>w'.cell? ⟨b,off+k,none⟩)=fun k=>w.cell? ⟨b,off+k,none⟩:=funext fun k=>by simp only[ar];rw[Y]
  rw[D];exact H i R
def Gg(z:Nat->Int)(c:Nat->Option ae)(i:Nat):Prop:=c i=some (.int .i64 (z i))/\jj (z i)
def Ci(z:Nat->Int×Int×Int)(c:Nat->Option ae)(i:Nat):Prop:=c (i *3)=some (.int .i64 (z i).1)/\c (i *3+1)=some (.int .i64 (z i).2.1)/\c (i *3+2)=some (.int .i64 (z i).2.2)/\jj (z i).1/\jj (z i).2.1/\jj (z i).2.2
theorem ab2(w:af)(cap Y:Nat):
  aH ai 18 #[.slice none 0 cap,.int .i64 Y] w fun e w'=>e=.returned (.string ⟨#[]⟩):=by
 go_wp2
 go_loop [5,6] (fun s i=>s=.string _/\i=.int _ 0) (fun _ _=>0)
 case atStart=>exact⟨rfl,rfl⟩
 case round=>
  go_wp2
  go_ret
  rfl
theorem YH(s0:List UInt8)(w:af)(cap:Nat):
  aH ai 20 #[.string (str s0),.slice none 0 cap,.int .i64 4] w fun e w'=>e=.returned (.tuple #[.string (str s0),.int .i64 (0:Nat)]):=by
 go_enter Tryz.func20,ei
 go_wp2
 go_loop [0,8,9] (fun s n i=>s=.string (str s0)/\n=.int .i64 0/\i=.int .i64 0) (fun _ _ _=>0)
 case atStart=>exact⟨rfl,rfl,rfl⟩
 case round=>
  go_wp2
  go_ret2
  rfl
section
variable{I:QT}{Z0 Z:Loc->Prop}{w0 w:af}{c:bE}{cs:List bE}{len cap:Nat}{a:Option Addr}{z:Nat->Int×Int×Int}{s0:List UInt8}
theorem Dj{f:aI}{y:ae}{b:Nat}{cells:Array ae}{fz:Nat×Nat}(hg:K5.iz f=true)(M:∀(g:gK) (r:@Rn g) x',@V g r y x'->x'=y)(F:∀(g:gK) (r:@Rn g),r b=some b-> @VA g r args args)(hb:w0.heap[b]?=some (.cells cells ty fz))(hc:∀v0:af,(∀k n,w0.cell? ⟨b,k,none⟩=some (.int .i64 n)->v0.cell? ⟨b,k,none⟩=some (.int .i64 n))->aH PR f args v0 fun e _=>e=.returned y)
  (H:qo Z0 w0)(only:∀l,Z l->Z0 l\/∃a:Addr,l=.cell a/\w0.heap.size<=a.block)(G:ie Z0 w0 w)(kk:∀w',ie Z0 w0 w'->gL PR I Z (c.finish y) cs w'):gL PR I Z (Frame.enter PR f args .normal) (c::cs) w:=by
 have Y:=aO H.low G.grow;have B:=j8 hb;have A:=(G.old b B (H.off b B)).trans hb;have J:=j8 A
 letI:=K5.jo PR (fun x=>x=b) uV uY sr
 obtain⟨c',S,hint⟩:=SE _ fun i P=>Tt _ rfl _;obtain⟨v0,C⟩:∃v0:af,v0={w with heap:=w.heap.setIfInBounds b (.cells c' ty (0,c'.size))}:=⟨_,rfl⟩;have R:v0.heap[b]?=some (.cells c' ty (0,c'.size)):=by simp_all
 have U:v0.heap.size=w.heap.size:=by simp_all
 refine gL.call (r0:=mq (fun x=>x=b)) (ajZ _ _ _ _) (fun _ h=>by cases h) (fun _ h=>h) (fun g h=>by cases h) (fun T=>hc _ fun k n e=>?_) (fun e u h=>⟨_,h⟩) hg (F _ _ (rp rfl)) ⟨fun b1 b2 e=>?_,by rw[U];exact Y,Y,fun y M=>by rw[U,M];exact J,fun i q P=>by omega,by rw[C]⟩ (fun a h=>by have e:=(xf (K:=fun x=>x=b)).1 h;rw[e];exact uR only (H.off b B) B) ?_
 ·have L:cells[k]?=some (.int .i64 n):=by rw[<-e];simp[ar,hb]
  rw[<-hint k _ _ L];have:(tp v0 T).heap[b]?=some _:=R;simp[ar,this]
 ·obtain⟨e1,e2⟩:=wW.1 e;rw[←e2,e1];exact⟨_,_,R,A,.ro ty rfl S fun i h=>h.elim⟩
 ·intro r v x x' w' Q O X N D;have hx:=by simpa using N
  rw[hx]at O;rw[M _ _ _ O];exact kk w' (G.on only ⟨fun a F _=>D.kept a F fun y=>(Iv.1 y).2 (Iv.1 y).1,D.grow,D.tape,D.env,D.output⟩)
theorem Gh(g:gK)(r:@Rn g){x y:ae}{a:Option Addr}{l k:Nat}(Y:(∀b,a=some b-> @Ad g r b b))(hx:mh 1 x=true)(U:mh 1 y=true):@VA g r #[x,.slice a l k,y] #[x,.slice a l k,y]/\ @VA g r #[.slice a l k,y] #[.slice a l k,y]:=by
 have H:V r (.slice a l k) (.slice a l k):=by
  cases a with
  |none=>exact .kW _ _
  |some b=>exact .slice _ _ (Y b rfl)
 refine⟨⟨rfl,fun i x x' e e'=>?_⟩,⟨rfl,fun i x x' e e'=>?_⟩⟩<;>(
  obtain rfl:=Option.some.inj (e.symm.trans e');have K:=(bL.1 e).1;simp at K;have:i=0\/i=1\/i=2:=by omega
  rcases this with rfl|rfl|rfl<;>first|omega|(simp at e;subst e;first|exact H|exact yo ‹_›))
theorem aea{zs:Nat->Int}{vn:Nat}(h:rH w0 a len (Gg zs))(F:vn<=60)(H:qo Z0 w0)(only:∀l,Z l->Z0 l\/∃a:Addr,l=.cell a/\w0.heap.size<=a.block)(G:ie Z0 w0 w)(U:∀w',ie Z0 w0 w'->gL PR I Z (c.finish (.string (str (qK zs (min len vn))))) cs w'):
  gL PR I Z (Frame.enter PR 18 #[.slice a len cap,ii (vn:Nat)] .normal) (c::cs) w:=by
 have D:∀(g:gK) (r:@Rn g) x',@V g r (.string (str (qK zs (min len vn)))) x'->x'=.string _:=fun g r x' h=>by cases h;rfl
 rcases h with⟨rfl,rfl⟩|⟨b,off,cells,J,fz,rfl,hb,A,Y⟩
 ·obtain⟨C,t,fz,R,_⟩:=H.ns 0 (.inl rfl);refine Dj (by decide) D (fun g r _=>(Gh g r (x:=ii 0) (fun b e=>by cases e) rfl rfl).2) R (fun v0 _=>?_) H only G U;exact ab2 v0 cap _
 ·exact Dj (by decide) D (fun g r e=>(Gh g r (x:=ii 0) (fun b' e'=>by cases e';exact @Ad.mk g _ _ _ e rfl rfl) rfl rfl).2) hb (fun v0 B=>(ads b off len cap _ zs v0 A F fun i K=>⟨B _ _ (Y i K).1,(Y i K).2⟩).mono fun e w' h=>h.1) H only G U
theorem ab3(h:rH w0 a len (Ci z))(h1:1<=s0.length)(O:s0.length<=20)(M:∀c∈s0,qw c)(H:qo Z0 w0)(only:∀l,Z l->Z0 l\/∃a:Addr,l=.cell a/\w0.heap.size<=a.block)(G:ie Z0 w0 w)
  (U:∀w',ie Z0 w0 w'->gL PR I Z (c.finish (.tuple #[.string (str (kV z s0 (min len 4)).1),ii ((kV z s0 (min len 4)).2:Nat)])) cs w'):
  gL PR I Z (Frame.enter PR 20 #[.string (str s0),.slice a len cap,ii (4:Nat)] .normal) (c::cs) w:=by
 have A:∀(g:gK) (r:@Rn g) x',@V g r (.tuple #[.string (str (kV z s0 (min len 4)).1),ii ((kV z s0 (min len 4)).2)]) x'->x'=.tuple #[.string (str (kV z s0 (min len 4)).1),ii ((kV z s0 (min len 4)).2)]:=by
  intro g r x' J;cases J with
  |tuple N Y=>
   rename_i c';obtain⟨l⟩:=c'
   match l,N with
   |[P,y1],_=>
    have B:=De (n:=1) rfl (Y 0 _ P rfl rfl);have C:=De (n:=1) rfl (Y 1 _ y1 rfl rfl);subst B C;rfl
 rcases h with⟨rfl,rfl⟩|⟨b,off,cells,S,fz,rfl,hb,L,K⟩
 ·obtain⟨Q,t,fz,F,_⟩:=H.ns 0 (.inl rfl);exact Dj (by decide) A (fun g r _=>(Gh g r (fun b e=>by cases e) rfl rfl).1) F (fun v0 _=>YH s0 v0 cap) H only G U
 ·exact Dj (by decide) A (fun g r e=>(Gh g r (fun b' e'=>by cases e';exact @Ad.mk g _ _ _ e rfl rfl) rfl rfl).1) hb (fun v0 R=>(Z_ b off len cap s0 z v0 h1 O M L fun i D=>⟨R _ _ (K i D).1,R _ _ (K i D).2.1,R _ _ (K i D).2.2.1,(K i D).2.2.2⟩).mono fun e w' h=>h.1) H only G U
end
def ME(u:Nat->ae)(fl:Bool)(b:Nat)(X:ByteArray)(e:Int)(T:ae):Array Value:=kH u (.bool fl) (ptr b) (.bool false) (.string X) (ii e) (u 18) (u 19) (u 20) (u 21) (u 22) (u 23) (u 24) (u 25) (u 30) (u 31) (u 32) (u 33) (u 34) T
theorem aae(hx:x.length<=200):Bn 17 #[.string (str x)] (.string (str (sN x))):=
 Jp (by kernel_rfl) rfl fun Q v _ _=>aX (by decide) fun T=>(YG _ _ (by exact hx)).mono fun e w' h=>⟨_,h.1,rfl,by rw[h.2];exact .refl v⟩
theorem agf(h:∀c∈x,g_ c):∀c∈sN x,qw c:=fun c K=>by
 have Y:=ec.1 K;have H:=by simpa using Y.2
 rcases(h c Y.1).cases with e|e|e|e|e
 ·exact .inl e
 ·exact .inr (.inl e)
 ·exact .inr (.inr (.inl e))
 ·exact .inr (.inr (.inr e))
 ·simp_all
section
variable{W:af}{a0 a3:Option Addr}{l0 c0 l3 c3:Nat}{z0:Nat->Int}{z3:Nat->Int×Int×Int}{f m q1 t1 w1:Int}{fl:Bool}{I:ae->af->Prop}
theorem agh(i0:rH W a0 l0 (Gg z0))(hf:jj f)(hm:jj m)(i3:rH W a3 l3 (Ci z3))(H:qo (fun _=>False) W)(hp:∀W' d,ie (fun _=>False) W W'->I (.bool true) (W'.at d))
  (g:∀x (v:af) b s e u,(∀c∈x,qw c)->x.length<=60->s+2<=e->e<=s+20->e<=x.length->lb v->iN v->v.heap[b]?=some (.cells #[ii q1,ii t1,ii w1] 28)->GW true (Ren.Ends PR I) (fun x v'=>x=.bool true/\Kw v v') 7 (jh [2,2,2,2,2,2,2,2,2] [6,7,8,9,10]) (ME u fl b (str x) (e:Nat) (.tuple #[.string (str (kV z3 ((x.take e).drop s) (min l3 4)).1),ii ((kV z3 ((x.take e).drop s) (min l3 4)).2:Nat)])) v):
  gL PR (Ren.Ends PR I) (fun _=>False) (Frame.enter PR 7 #[.slice a0 l0 c0,ii f,ii m,.slice a3 l3 c3,.bool fl,.agg #[ii q1,ii t1,ii w1]] .normal) [] W:=by
 refine bK 60 _ ak1 fun v1 g1 _=>?_;refine gL.alloc (F:=fun B=>(ja (jh [] [0,1]) (xT (.slice a0 l0 c0) f m (.slice a3 l3 c3) fl (.agg #[ii q1,ii t1,ii w1]))).finish (ptr B)) (o:=.cells #[ii q1,ii t1,ii w1] 28) (fun w'=>AQ af2 rfl rfl w') fun b1 v2 n1 u1 O o1 g2=>?_;refine bK 60 _ ak2 fun v5 g5 _=>?_;refine aP 1 fun v6 z=>?_;rw[af3];have C:=g5.trans (ie.of z);have J:=(g1.trans g2).trans C;have A:=H.on J;have E1:=C.at O o1;have s1:=j8 E1;have gr:=g1.grow;refine A.call adV (fun _ y=>y) (fun _ y=>.inl y) ⟨fun _ _ _=>rfl,ao _,rfl,nH.refl _,rfl⟩ fun Z7 v7 m7 o7 Q=>?_;refine aP 11 fun v8 k8=>?_;rw[ah3];refine bK 60 _ ak3 fun v9 g9 _=>?_;refine aP 1 fun vA kA=>?_;rw[af4];refine aea (i0.on J) (by omega) A o7 (((Q.on o7 (ie.of k8)).on o7 g9).on o7 (ie.of kA)) fun vB GB=>?_;have M:=adr z0 (min l0 60);have E:=Pg z0 (min l0 60);generalize qK z0 (min l0 60)=x0 at M E⊢;rw[ak4];refine aP 1 fun vC kC=>?_;rw[af5];refine A.call (aae (by omega)) m7 o7 (GB.on o7 (ie.of kC)) fun ZD vD mD R GD=>?_;have S:=agf M;have hl:=QP x0;generalize sN x0=x at S hl⊢;have sz:(str x).size=x.length:=rfl;have keep:∀{site:List Item} {al:List (Nat×ae)} {Z:Loc->Prop} {w:af},(∀l,Z l->False\/∃a:Addr,l=.cell a/\v6.heap.size<=a.block)->ie (fun _=>False) v6 w->(∀p∈al,(∃a l c,p.2=.slice a l c)\/mh 3 p.2=true\/p.2=ptr b1)->(lb w->iN w->w.heap[b1]?=some (.cells #[ii q1,ii t1,ii w1] 28)->GW true (Ren.Ends PR I) (fun x v'=>x=.bool true/\Kw w v') 7 site ((TN 203 (sA al) fun _=>undef).map blk) w)->gL PR (Ren.Ends PR I) Z (ja site al) [] w:=by
  intro site al Z w only G T k;have L:=G.at E1 (fun _ _ y=>y);refine afV (Bs:=[b1]) hp H (fun l y=>(only l y).elim .inl fun⟨a,e,q⟩=>.inr ⟨a,e,aO J.grow q⟩) (J.trans G) ?_ ?_ fun P Y=>k P Y L
  ·intro b hb;simp only[bg,cm,or_false]at hb;subst hb;exact⟨by omega,uR only (fun _ _ y=>y) s1,_,_,_,L⟩
  ·intro p K;rcases T p K with h|h|h
   ·exact .inl h
   ·exact .inr (.inl h)
   ·exact .inr (.inr ⟨b1,by simp,h⟩)
 have tail:∀(c:Bool) (l1 p0 m1 O m2:Int) (s e:Nat) (Z:Loc->Prop) (w:af),s+2<=e->e<=s+20->e<=x.length->(∀l,Z l->False\/∃a:Addr,l=.cell a/\v6.heap.size<=a.block)->ie (fun _=>False) v6 w->gL PR (Ren.Ends PR I) Z (ja (jh [2,2,2,2,2,2,2,2,2] [3,4,5,6,7,8,9,10]) (pC (.slice a0 l0 c0) f m (.slice a3 l3 c3) fl (.agg #[ii q1,ii t1,ii w1]) b1 (str x0) (str x) l1 s p0 m1 O m2 e c)) [] w:=by
  intro c l1 p0 m1 O m2 s e Z w j V X N GZ;refine gL.still (fun w4=>af_ af8 IV.1 IV.2.1 IV.2.2 (by omega) (by omega) w4) fun w4 g4 _=>?_;rw[tN];refine aP 1 fun w5 k5=>?_;rw[ak9];refine aP 1 fun w6 z=>?_;rw[af9];refine ab3 (i3.on J) (by simp;omega) (by simp;omega) (fun c hc=>S c (bP (cK hc))) A N (((GZ.on N g4).on N (ie.of k5)).on N (ie.of z)) fun w7 Q=>?_;rw[ak_];refine keep N Q ?_ fun P Y L=>?_
  ·intro p K;cases c<;>(
    simp only[pC,Bx,zI,zH,zG,rO,vy,xT,aK,bg,cm,or_false,if_true,if_false,Bool.false_eq_true]at K
    repeat' rcases K with K|K
    all_goals first|exact .inl ⟨_,_,_,rfl⟩|exact .inr (.inr rfl)|exact .inr (.inl (by kernel_rfl)))
  ·cases c<;>exact GW.any (fun u=>ME u fl b1 (str x) (e:Nat) _) (by kernel_rfl) fun u=>g x _ _ s e u S (by omega) j V X P Y L
 refine bK 60 _ ak5 fun vE gE _=>?_;by_cases hx:x.length<2
 ·rw[show decide (((str x).size:Int)<2)=true from decide_eq_true (by omega)];refine keep R (GD.on R gE) ?_ fun P Y L=>?_
  ·intro p K;simp only[zG,rO,vy,xT,aK,bg,cm,or_false]at K
   repeat' rcases K with K|K
   all_goals first|exact .inl ⟨_,_,_,rfl⟩|exact .inr (.inr rfl)|exact .inr (.inl (by kernel_rfl))
  ·have D:∃F,PR.funcs[7]?=some F:=⟨_,dx⟩;refine GW.run 0 (k':=[.code (.cond (.tmp 43) (cp [2,2,2,2,1,2,1] ir) .skip),.code (cp [2,2,2,2,2] ir)]) ?_;refine aJ D (t:=true) trivial (by kernel_rfl) ?_;refine GW.run 2 (k':=[.inRegion (opsOf (cp [2,2,2,2,1,2,1,1] ir)) [0],.code .ret,.code (cp [2,2,2,2,2] ir)]) ?_;refine ah D [0] ?_;refine GW.run 1 (k':=[.code .ret,.code (cp [2,2,2,2,2] ir)]) ?_;exact GW.Km D 12 ⟨by kernel_rfl,.refl _⟩
 ·rw[show decide (((str x).size:Int)<2)=false from decide_eq_false (by omega)];refine aP 1 fun vF kF=>?_;rw[ah4];refine bK 60 _ ak6 fun vG gG _=>?_;rw[show ak.wrap (((str x).size:Int)-1)=((x.length-1:Nat):Int) by rw[show((str x).size:Int)-1=((x.length-1:Nat):Int) by omega];exact aQ _ (by omega)];refine aP 1 fun vH kH=>?_;rw[af6];refine A.call (RE (n:=x.length-1) hf (by omega) (by omega)) mD R ((((GD.on R gE).on R (ie.of kF)).on R gG).on R (ie.of kH)) fun ZI vI mI i GI=>?_;have ps:=pU f (show 0<x.length-1 by omega);generalize iO f (x.length-1)=s at ps⊢;refine bK 60 _ ak7 fun vJ gJ _=>?_;refine aP 1 fun vK kK=>?_;rw[af7];refine A.call (RE (n:=18) hm (by omega) (by omega)) mI i ((GI.on i gJ).on i (ie.of kK)) fun ZL vL mL U GL=>?_;have pm:=pU m (show 0<18 by decide);generalize iO m 18=p at pm⊢;refine bK 60 _ ak8 fun vM gM _=>?_;have q1:ak.wrap (2+(p:Nat):Int)=((2+p:Nat):Int):=aQ _ (by omega);have q2:ak.wrap ((s:Nat)+((2+p:Nat):Int))=((s+(2+p):Nat):Int):=aQ _ (by omega);rw[q1,q2];by_cases hg:x.length<s+(2+p)
  ·rw[show decide (((str x).size:Int)<((s+(2+p):Nat):Int))=true from decide_eq_true (by omega)];refine aP 20 fun vN r=>?_;rw[ajV];have q3:ak.wrap (((str x).size:Int)-(s:Nat))=((x.length-s:Nat):Int):=by rw[show((str x).size:Int)-(s:Nat)=((x.length-s:Nat):Int) by omega];exact aQ _ (by omega)
   have q4:ak.wrap ((s:Nat)+((x.length-s:Nat):Int))=((x.length:Nat):Int):=by rw[show((s:Nat):Int)+((x.length-s:Nat):Int)=((x.length:Nat):Int) by omega];exact aQ _ (by omega)
   rw[q3,q4];exact tail true _ _ _ _ _ s x.length _ _ (by omega) (by omega) (ao _) U ((GL.on U gM).on U (ie.of r))
  ·rw[show decide (((str x).size:Int)<((s+(2+p):Nat):Int))=false from decide_eq_false (by omega)];refine aP 14 fun vN r=>?_;rw[ajW,q2];exact tail false _ _ _ _ _ s (s+(2+p)) _ _ (by omega) (by omega) (by omega) U ((GL.on U gM).on U (ie.of r))
end
def Cj(u:Nat->ae)(fl:Bool)(b:Nat)(X:ByteArray)(e:Int)(B:ByteArray)(n:Int)(L:ae)(F:Bool):Array Value:=kH u (.bool fl) (ptr b) (u 12) (.string X) (ii e) (.string B) (ii n) (u 20) (u 21) (u 22) L (u 24) (.bool F) (u 30) (u 31) (u 32) (u 33) (u 34) (u 71)
structure Pl(B:ByteArray)(n e N J:Nat)(fl:Bool)(A:Nat->Nat->ByteArray)(f z a en st er:Nat->Nat):Prop where
 fg:∀i,i<N->st i<2/\f i/16%2=st i/\f i<=1000
 ps:∀i,i<N->z i=a i+1/\a i<=en i/\en i<=200
 hre:∀i,i<N->∀W,aH PR 27 #[.string (A i 4)] W fun e w'=>e=.returned (.int .i64 (en i-a i:Nat))/\w'=W
 Uw:∀i,i<N->∀W,aH PR 26 #[.string (A i 5)] W fun e w'=>e=.returned (.int .i64 (er i:Nat))/\w'=W
 le:∀i,i<N->er i<=n
 lt:J<N
 sJ:st J=if fl=true then 1 else 0
 eJ:en J=e
 bJ:A J 7=B
section
variable{w:af}{u:Nat->ae}{X B:ByteArray}{n e N G C J b:Nat}{fl:Bool}{A:Nat->Nat->ByteArray}{f z a en st er:Nat->Nat}
theorem ab4(hN:N<=1000)(hn:n<=100)(he:e<=200)(R:SD w G N A f z)(hG:G<w.heap.size)(T:Pl B n e N J fl A f z a en st er):
  (cp [2,2,2,2,2,2,2,2,2,2,2,2,2,2,2,2,2,1] ir).wp PR (fun e' a' v'=>e'=.normal/\a'.defers=[]/\a'.tmps=Cj (fun i=>a'.tmps.getD i undef) fl b X e B n (.slice (some ⟨G,0,none⟩) N C) true/\v'.heap=w.heap) ⟨Cj u fl b X e B n (.slice (some ⟨G,0,none⟩) N C) false,[]⟩ w:=by
 refine uB fun Q o=>?_;have O:=laid R;have HT:=laid T;have l:=laid abU;clear R T;unfold ir bc Cj kH;simp only[ay,cp,ptr];go_wp2
 go_loopw [25,26] (fun v i wr=>∃I:Nat,∃F:Bool,I<=N/\i=ii I/\v=.bool F/\Hid (J<I->F=true)/\Hid (∃d,wr=w.drewN d)) (fun _ i _=>N-(intOf i).toNat)
 case atStart=>exact⟨0,false,by omega,rfl,rfl,laid (fun h=>by omega),laid ⟨0,rfl⟩⟩
 case round=>
  obtain⟨I,F,hI,rfl,rfl,D,c⟩:=hrel;obtain⟨d,rfl⟩:=c.out;by_cases Y:I<N
  ·have x:(I:Int)<(N:Int):=by omega
   obtain⟨c0,c1,c2,c3,c4,c5,c6,E,c8⟩:=O.out I Y;obtain⟨t,q,r⟩:=HT.out.fg I Y;obtain⟨p1,p2,p3⟩:=HT.out.ps I Y;have s:=HT.out.le I Y;have P:=laid (HT.out.hre I Y);have M:=laid (HT.out.Uw I Y);have m:((f I:Nat):Int).tdiv 16=((f I/16:Nat):Int):=by rw[dO (by omega)];omega
   have g1:f I/16<=1000:=by omega
   have x1:ak.wrap ((z I:Int)-1)=(a I:Int):=by rw[show(z I:Int)-1=(a I:Int) by omega];exact aQ _ (by omega)
   have x2:ak.wrap ((a I:Int)+((en I-a I:Nat):Int))=(en I:Int):=by rw[show(a I:Int)+((en I-a I:Nat):Int)=(en I:Int) by omega];exact aQ _ (by omega)
   have y0:(0:Int)<=(er I:Int):=by omega
   have y1:(er I:Int)<=(n:Int):=by omega
   have L:Hid (I=J->st I=(if fl=true then 1 else 0)/\en I=e/\A I 7=B):=laid fun h=>by rw[h];exact⟨HT.out.sJ,HT.out.eJ,HT.out.bJ⟩
   clear O HT;obtain⟨S,v1⟩:∃S:Bool,(((f I/16%2:Nat):Int)==1)=S:=⟨_,rfl⟩;have v3:((f I:Int)/16%2==1)=S:=by rw[<-v1];congr 1
   have V:Hid (S=(((st I:Nat):Int)==1)):=laid (by rw[<-v1,q]);clear q t;cases F;by_cases Z:I=J;obtain⟨j,K,H⟩:=L.out Z;have U:S=fl:=by rw[V.out,j];cases fl<;>rfl
   subst U;rw[H]at E;have W:((en I:Int)==(e:Int))=true:=by rw[K];simp
   clear L D Z j K H;cases S
   rotate_left 2
   have p:Hid (¬J<I+1):=laid fun h=>by
    have:¬J<I:=fun y=>by have:=D.out y;cases this
    omega
   clear L D Z;by_cases U:S=fl;subst U;by_cases K:en I=e;have W:((en I:Int)==(e:Int))=true:=by rw[K];simp
   clear K;by_cases H:A I 7=B;rw[H]at E;clear H;cases S
   rotate_left 2
   cases S
   rotate_left 2
   have W:((en I:Int)==(e:Int))=false:=by rw[beq_eq_false_iff_ne];omega
   clear K;cases S
   rotate_left 2
   cases S<;>cases fl<;>try exact absurd rfl U
   all_goals
    go_wp2_with fail
    refine(l.out _ (by first|exact g1|(rw[m];exact g1)) _).mono ?_;rintro e' w1 ⟨rfl,rfl⟩;go_wp2_with fail
    refine(M.out _).mono ?_;rintro e' w2 ⟨rfl,rfl⟩;go_wp2
    go_quiet((go_at_call 27;refine(P.out _).mono ?_;rintro e' k ⟨rfl,rfl⟩;exact⟨rfl,_,rfl⟩))
    go_wp2
    all_goals
     go_roundw
     case rel=>go_light;exact⟨I+1,_,by omega,by go_num,rfl,laid (by first|exact fun _=>rfl|exact fun h=>absurd h p.out),laid ⟨_,rfl⟩⟩
     case measure=>go_light;simp[intOf];omega
  ·obtain rfl:I=N:=by omega
   have x:¬(I:Int)<(I:Int):=by omega
   have g:=laid HT.out.lt;clear O HT;go_wp2
   rw[o.out];exact⟨rfl,rfl,by rw[D.out g.out];kernel_rfl,rfl⟩
end
end Ph
section
open RowKit
section
variable{x P:List UInt8}{n e J:Nat}{fl:Bool}
theorem aaf(T:x.length<=60)(hP:∀c∈P,g_ c)(O:P.length<=30)(hn:n<=6)(U:J<(lD x (jM fl P) n).length)(F:(hX x (jM fl P) n J).1=if fl=true then 1 else 0)(M:(hX x (jM fl P) n J).2.2.1=e):
  Ph.Pl (str P) n e (nX x (jM fl P) n) J fl (ox x (jM fl P) n) (fun i=>rP x (jM fl P) n i 1) (fun i=>rP x (jM fl P) n i 3) (fun i=>(hX x (jM fl P) n i).2.1) (fun i=>(hX x (jM fl P) n i).2.2.1) (fun i=>(hX x (jM fl P) n i).1) (fun i=>(hX x (jM fl P) n i).2.2.2):=by
 have R:lD x (jM fl P) n≠ []:=fun h=>by rw[h]at U;simp at U
 have S:(jM fl P).length=P.length:=by unfold jM;split<;>simp[Ip]
 have own:=RV fl hP;generalize jM fl P=b at *;have Q:nX x b n=(lD x b n).length:=by rw[nX,if_neg R]
 have at_:∀i,i<nX x b n->hX x b n i∈lD x b n:=fun i Y=>bu (Tq (by omega));have row:∀i,sM x b n i=EP x b i (hX x b n i):=fun i=>ah9 R;have B:∀i,ox x b n i 4=str (nG (str (iu (str (mV b (hX x b n i).1)) ((str x).extract (hX x b n i).2.1 (hX x b n i).2.2.1)))):=fun i=>by unfold ox;rw[row];rfl
 have C:∀i,ox x b n i 5=str (gV (hX x b n i).2.2.2):=fun i=>by unfold ox;rw[row];rfl
 have L:∀i,ox x b n i 7=(str (mV b (hX x b n i).1)):=fun i=>by unfold ox;rw[row];rfl
 have I:∀i,rP x b n i 1=tg (hX x b n i).1 i:=fun i=>by unfold rP;rw[row];rfl
 have A:∀i,rP x b n i 3=(hX x b n i).2.1+1:=fun i=>by unfold rP;rw[row];rfl
 refine⟨fun i Y=>?_,fun i Y=>?_,fun i Y W=>?_,fun i Y W=>?_,fun i Y=>?_,by omega,F,M,?_⟩
 ·obtain⟨h1,_⟩:=ze (at_ i Y);refine⟨h1,?_,?_⟩<;>(rw[I];unfold tg;split<;>omega)
 ·obtain⟨_,_,K,H,_⟩:=ze (at_ i Y);exact⟨A i,K,by omega⟩
 ·obtain⟨_,h2,K,H,D⟩:=ze (at_ i Y);have hd:=Db _ _ n _ _ K (by rw[ia];exact H) (by rw[abV h2];exact D);rw[ia,RQ]at hd;have N:((str x).extract (hX x b n i).2.1 (hX x b n i).2.2.1).size=(hX x b n i).2.2.1-(hX x b n i).2.1:=by rw[dJ,ia];omega
  have:=ab0 (str (mV b (hX x b n i).1)) ((str x).extract (hX x b n i).2.1 (hX x b n i).2.2.1) W (by rw[ia,RQ];omega) (by omega);rw[<-B,N]at this;exact this
 ·rw[C];obtain⟨_,_,_,_,D⟩:=ze (at_ i Y);have hd:(hX x b n i).2.2.2<=9999:=by omega
  have:=G6 (str (gV (hX x b n i).2.2.2)) W (by rw[ia];have:=(mF _ hd).2;omega);rw[yT hd]at this;exact this
 ·exact(ze (at_ i Y)).2.2.2.2
 ·rw[L,F,own]
end
end
namespace Ph
open Conc Ren RowKit
def Ao(u:Nat->ae)(fl:Bool)(b:Nat)(X:ByteArray)(e:Int)(B:ByteArray)(n:Int):Array Value:=kH u (.bool fl) (ptr b) (.bool false) (.string X) (ii e) (.string B) (ii n) (u 20) (u 21) (u 22) (u 23) (u 24) (u 25) (u 30) (u 31) (u 32) (u 33) (u 34) (u 71)
def MF(u:Nat->ae)(fl:Bool)(b:Nat)(X:ByteArray)(e:Int)(B:ByteArray)(n:Int)(A:ByteArray):Array Value:=kH u (.bool fl) (ptr b) (.bool false) (.string X) (ii e) (.string B) (ii n) (.string A) (u 21) (u 22) (u 23) (u 24) (u 25) (u 30) (u 31) (u 32) (u 33) (u 34) (u 71)
def kHv(u:Nat->ae)(fl:Bool)(b:Nat)(X:ByteArray)(e:Int)(B:ByteArray)(n:Int)(A RF RD S:ByteArray)(o:ae):Array Value:=kH (fun i=>([(83,.string X),(84,.string RF),(85,.string A),(86,.string RD),(87,ii n),(88,o),(89,.tuple #[.string S,ii 0]),(82,.tuple #[.string S,ii 0]),(90,.string S),(91,ii 0)].lookup i).getD (u i)) (.bool fl) (ptr b) (.bool false) (.string X) (ii e) (.string B) (ii n) (.string A) (.string S) (ii 0) (u 23) (u 24) (u 25) (u 30) (u 31) (u 32) (u 33) (u 34) (u 71)
def Ck(u:Nat->ae)(fl:Bool)(b:Nat)(X:ByteArray)(e:Int)(B:ByteArray)(n:Int)(S:ByteArray)(L:ae):Array Value:=kH u (.bool fl) (ptr b) (.bool false) (.string X) (ii e) (.string B) (ii n) (u 20) (.string S) (ii 0) L (.bool true) (u 25) (u 30) (u 31) (u 32) (u 33) (u 34) (u 71)
def rY(u:Nat->ae)(b:Nat)(X:ByteArray)(e:Int)(B:ByteArray)(n:Int)(q s:ae):Array Value:=kH u (u 4) (ptr b) (u 12) (.string X) (ii e) (.string B) (ii n) (u 20) (u 21) (u 22) (u 23) (u 24) (.bool true) q s (u 32) (u 33) (u 34) (u 71)
def q7(u:Nat->ae)(e:Int)(B:ByteArray)(n s:Int)(D:ByteArray)(h:ae):Array Value:=kH u (u 4) (u 11) (u 12) (u 14) (ii e) (.string B) (ii n) (u 20) (u 21) (u 22) (u 23) (u 24) (.bool true) (u 30) (ii s) (.string D) (ii 0) h (u 71)
section
variable{w:af}{u:Nat->ae}{n e b st:Nat}{X B S D:ByteArray}{fl:Bool}{L q s h:ae}{q1 t1 w1:Int}
theorem SG{t:Bool}(hn:n<=100)(U:B.size<=100)(Y:B.size<=n/\t=true\/n<B.size/\t=false):(cp [2,2,2,2,2,2,2,2,2,2,1,1] ir).wp PR (fun e' a' v'=>e'=.normal/\a'.defers=[]/\(a'.tmps=Ao (fun i=>a'.tmps.getD i undef) fl b X e B n/\a'.tmps.getD 77 undef=.bool t)/\v'.heap=w.heap) ⟨Ao u fl b X e B n,[]⟩ w:=by
 refine uB fun Q K=>?_;unfold ir bc Ao kH;simp only[ay,cp,ptr];rcases Y with⟨Y,rfl⟩|⟨Y,rfl⟩
 ·have d1:(B.size:Int)<=(n:Int):=by omega
  go_wp2
  rw[K.out];exact⟨rfl,rfl,⟨by kernel_rfl,by first|rfl|(simp[d1])⟩,rfl⟩
 ·have d1:¬(B.size:Int)<=(n:Int):=by omega
  go_wp2
  rw[K.out];exact⟨rfl,rfl,⟨by kernel_rfl,by first|rfl|(simp[d1])⟩,rfl⟩
theorem aib:(cp [2,2,2,2,2,2,2,2,2,2,2,2,2,2,2,1,1] ir).wp PR (fun e' a' v'=>e'=.normal/\a'.defers=[]/\(a'.tmps=Ck (fun i=>a'.tmps.getD i undef) fl b X e B n S L/\a'.tmps.getD 102 undef=.bool false)/\v'.heap=w.heap) ⟨Ck u fl b X e B n S L,[]⟩ w:=by
 refine uB fun Q Y=>?_;unfold ir bc Ck kH;simp only[ay,cp,ptr];go_wp2
 rw[Y.out];exact⟨rfl,rfl,⟨by kernel_rfl,rfl⟩,rfl⟩
theorem aic(hb:w.heap[b]?=some (.cells #[ii q1,ii t1,ii w1] 28))(U:jj q1):(cp [2,2,2,2,2,2,2,2,2,2,2,2,2,2,2,2,2,2,1] ir).wp PR (fun e' a' v'=>e'=.normal/\a'.defers=[]/\a'.tmps=rY (fun i=>a'.tmps.getD i undef) b X e B n (ii (1+iO q1 8:Nat)) (s)/\v'.heap=w.heap) ⟨rY u b X e B n (q) (s),[]⟩ w:=by
 refine uB fun Q H=>?_;unfold ir bc rY kH;simp only[ay,cp,ptr];have c0:w.cell? ⟨b,0,none⟩=some (ii q1):=by rw[cy w _ 0 _ _ _ hb];rfl
 have Y:=fun W=>yJ q1 8 W U (by omega) (by omega);have hp:=pU q1 (show 0<8 by decide);have K:=laid Y;clear Y;generalize iO q1 8=p at *;go_wp2_with fail
 refine(K.out _).mono ?_;rintro e' w2 ⟨rfl,rfl⟩;go_wp2
 rw[H.out];exact⟨rfl,rfl,by rw[dM];kernel_rfl,rfl⟩
theorem aid(hb:w.heap[b]?=some (.cells #[ii q1,ii t1,ii w1] 28))(U:jj t1):(cp [2,2,2,2,2,2,2,2,2,2,2,2,2,2,2,2,2,2,2,1] ir).wp PR (fun e' a' v'=>e'=.normal/\a'.defers=[]/\a'.tmps=rY (fun i=>a'.tmps.getD i undef) b X e B n (q) (ii (1+iO t1 200:Nat))/\v'.heap=w.heap) ⟨rY u b X e B n (q) (s),[]⟩ w:=by
 refine uB fun Q H=>?_;unfold ir bc rY kH;simp only[ay,cp,ptr];have c0:w.cell? ⟨b,1,none⟩=some (ii t1):=by rw[cy w _ 1 _ _ _ hb];rfl
 have Y:=fun W=>yJ t1 200 W U (by omega) (by omega);have hp:=pU t1 (show 0<200 by decide);have K:=laid Y;clear Y;generalize iO t1 200=p at *;go_wp2_with fail
 refine(K.out _).mono ?_;rintro e' w2 ⟨rfl,rfl⟩;go_wp2
 rw[H.out];exact⟨rfl,rfl,by rw[dM];kernel_rfl,rfl⟩
theorem aie(T:x.length<=60)(O:B.size<=az)(M:iN w)(F:tX (str (iU x)) B n qq st=D)(U:qb (str (iU x)) B n qq st=0):(cp [2,2,2,2,2,2,2,2,2,2,2,2,2,2,2,2,2,2,2,2,1] ir).wp PR (fun e' a' v'=>e'=.normal/\a'.defers=[]/\a'.tmps=q7 (fun i=>a'.tmps.getD i undef) e B n st D (a'.tmps.getD 34 undef)/\Kw w v') ⟨rY u b (str x) e B n (ii qq) (ii st),[]⟩ w:=by
 refine uB fun Q R=>?_;unfold ir bc rY kH;simp only[ay,cp,ptr];have hr:=fun W=>Ro x W (by omega);have K:=adx (str (iU x)) B n qq st w M (by rw[ia];simp only[iU,aU,cj,ck,az];omega) O;rw[F,U]at K;have I:=laid hr;have H:=laid K;clear hr K M F U;generalize str (iU x)=RF at *;generalize str x=X at *;go_wp2_with fail
 refine(I.out _).mono ?_;rintro e' w2 ⟨rfl,rfl⟩;go_wp2_with fail
 refine(H.out).mono ?_;rintro e' w2 ⟨rfl,Y⟩;go_wp2
 rw[R.out];exact⟨rfl,rfl,by kernel_rfl,fun a A=>Y.block a A⟩
theorem aif(hn:n<=100)(U:B.size<=100)(F:e<=200):(cp [2,2,2,2,2,2,2,2,2,2,2,2,2,2,2,2,2,2,2,2,2,1] ir).wp PR (fun e' a' v'=>e'=.normal/\a'.defers=[]/\a'.tmps=q7 (fun i=>a'.tmps.getD i undef) e B n st D (ii ((e:Int)-(B.size:Int)-(n:Int)))/\v'.heap=w.heap) ⟨q7 u e B n st D (h),[]⟩ w:=by
 refine uB fun Q Y=>?_;unfold ir bc q7 kH;simp only[ay,cp];have K:ak.wrap ((e:Int)-(B.size:Int))=(e:Int)-(B.size:Int):=aQ _ (by omega);have H:ak.wrap ((e:Int)-(B.size:Int)-(n:Int))=(e:Int)-(B.size:Int)-(n:Int):=aQ _ (by omega);go_wp2
 rw[Y.out];exact⟨rfl,rfl,by kernel_rfl,rfl⟩
theorem aih:(cp [2,2,2,2,2,2,2,2,2,2,2,2,2,2,2,2,2,2,2,2,2,2,1] ir).wp PR (fun e' a' v'=>e'=.normal/\a'.defers=[]/\a'.tmps=q7 (fun i=>a'.tmps.getD i undef) e B n st D (ii (e-(B.size+n):Nat))/\v'.heap=w.heap) ⟨q7 u e B n st D (ii ((e:Int)-(B.size:Int)-(n:Int))),[]⟩ w:=by
 refine uB fun Q Y=>?_;unfold ir bc q7 kH;simp only[ay,cp];obtain⟨A,K⟩:∃A:Int,(e:Int)-(B.size:Int)-(n:Int)=A:=⟨_,rfl⟩;obtain⟨C,H⟩:∃C:Nat,e-(B.size+n)=C:=⟨_,rfl⟩;rw[K];rw[H]at Y;by_cases R:A<0
 ·obtain rfl:C=0:=by omega
  go_wp2
  rw[Y.out];exact⟨rfl,rfl,by kernel_rfl,rfl⟩
 ·obtain rfl:A=(C:Int):=by omega
  go_wp2
  rw[Y.out];exact⟨rfl,rfl,by kernel_rfl,rfl⟩
theorem aii{C M:Nat}(O:1<=st)(gF:st<=1000)(F:C<=1000)(Y:C/st=M)(U:∀W,aH PR 29 #[.string D,.int .i64 (M:Nat)] W fun e w'=>e=.returned (.bool true)/\Below W.heap.size W w'):(cp [2,2,2,2,2,2,2,2,2,2,2,2,2,2,2,2,2,2,2,2,2,2,2,1] ir).wp PR (fun e' a' v'=>e'=.normal/\a'.defers=[]/\a'.tmps.getD 12 undef=.bool true/\Kw w v') ⟨q7 u e B n st D (ii (C:Nat)),[]⟩ w:=by
 refine uB fun Q R=>?_;unfold ir bc q7 kH;simp only[ay,cp];have J:((C:Nat):Int).tdiv ((st:Nat):Int)=((M:Nat):Int):=by rw[dO (by omega),<-Y];omega
 have I:M<=1000:=by rw[<-Y];exact aO (eh _ _) F
 have H:=laid U;clear U Y;have L:¬((st:Nat):Int)=0:=by omega
 have z2:¬st=0:=by omega
 go_wp2_with fail
 refine(H.out _).mono ?_;rintro e' w2 ⟨rfl,K⟩;go_wp2
 rw[R.out];exact⟨rfl,rfl,rfl,fun a A=>K.block a A⟩
end
def Wh (p:List Nat):Array Oper:=opsOf (cp p ir)
theorem aeb:(Wh [2,2,2,2,2,2,2,2,2,2,2,2,2,1]).size=12:=by kernel_rfl
theorem aij{p:List UInt8}(fl:Bool)(hp:∀c∈p,g_ c):(∀c∈jM fl p,g_ c)/\(jM fl p).length=p.length:=by
 cases fl
 ·exact⟨hp,rfl⟩
 ·exact⟨RJ hp,Ip p⟩
section
variable{x p:List UInt8}{n s e b:Nat}{fl:Bool}{q1 t1 w1:Int}{Q:QT}{v v0:af}{u:Nat->ae}
theorem RY(M:∀c∈x,g_ c)(x1:1<=x.length)(lx:x.length<=60)(kp:∀c∈p,g_ c)(p1:1<=p.length)(p2:p.length<=30)(hn:n<=6)(hnp:n<p.length)(hs:s<=e)(Gb:1<=e)(he:e<=x.length)(hd:jd (str p) ((str x).extract s e)<=n)(h1:jj q1/\jj t1/\jj w1)(O:lb v0)(U:iN v0)(hb:v0.heap[b]?=some (.cells #[ii q1,ii t1,ii w1] 28))(k0:Kw v0 v):
  GW true Q (fun y v'=>y=.bool true/\Kw v0 v') 7 [.code (cp [2,2,2,2,2,2,2,2,2,2,2,2,2] ir)] (MF u fl b (str x) e (str p) n (str (jM fl p))) v:=by
 have Y:∃F,PR.funcs[7]?=some F:=⟨_,dx⟩;obtain⟨V,la⟩:=aij fl kp;obtain⟨J,B,j1,j2,j3⟩:=abX fl kp hs he hd;have R:=aaf (e:=e) lx kp p2 hn B j1 j2;have hzz:lD x (jM fl p) n≠ []:=fun h=>by rw[h]at B;simp at B
 refine GW.run 1 (k':=[.code (.region 18 (Wh [2,2,2,2,2,2,2,2,2,2,2,2,2,1]) true),.code (cp [2,2,2,2,2,2,2,2,2,2,2,2,2,2] ir)]) ?_;refine GW.Uf (A:=kHv u fl b (str x) e (str p) n (str (jM fl p)) (str (iU x)) (str (jB (jM fl p))) (str (oj (str (iU x)) (str (jB (jM fl p))) n)) (.agg #[ii q1,ii t1,ii w1])) (Kw v0) k0 [0,2,4,7,8,9,10,11] ?_ ?_ Y
 ·intro i P S;rw[aeb]at P;have:i=1\/i=3\/i=5\/i=6:=by simp at S;omega
  rcases this with rfl|rfl|rfl|rfl
  ·exact .call Y fun u K=>ajR (x:=x) (by omega) K
  ·exact .call Y fun u K=>ahS (x:=jM fl p) (by omega) K
  ·exact .ld Y fun u K=>⟨ajQ (K.at hb),K⟩
  ·refine .call Y fun u K=>iW.mono (adU (k:=(n:Nat)) ?_ ?_ h1.1 h1.2.1 h1.2.2 (K.ns O) (K.rF O U)) fun y v' h=>⟨by rw[h.1,adY M x1 (by omega) V (by omega) (by omega) hn,QG M x1 (by omega) V (by omega) (by omega) hn,if_pos (by omega),if_pos (by omega)],K.trans h.2⟩;all_goals(rw[ia];simp only[iU,jB,oG,aU,cj,ck,az];omega)
 intro v4 k4;refine GW.run 3 (k':=jh [2,2,2,2,2,2,2,2,2,2,2,2,2,2] [0,1,2,3,4,5,6]) ?_;refine ah Y [0] ?_;refine GW.call Y (Z5 M x1 (by omega) V (by omega) (by omega) hn) ?_;rintro z v5 ⟨L,rfl,r1,K5⟩;refine ah Y [2,3,4,5,6] ?_;refine GW.any (fun u=>Ck u fl b (str x) e (str p) n (str (oj (str (iU x)) (str (jB (jM fl p))) n)) L) (by kernel_rfl) fun u6=>?_;obtain⟨G,C,rfl,g1,g2,c1⟩:=ah7 (by omega) r1;have hNl:=ajX x (jM fl p) n;refine GW.run 3 (k':=[.code (cp [2,2,2,2,2,2,2,2,2,2,2,2,2,2,2,1,1] ir),.code (cp [2,2,2,2,2,2,2,2,2,2,2,2,2,2,2,1,2] ir),.code (cp [2,2,2,2,2,2,2,2,2,2,2,2,2,2,2,2] ir)]) ?_;refine aM Y (by kernel_rfl) (R1:=fun a' w'=>(a'=Ck (fun i=>a'.getD i undef) fl b (str x) e (str p) n (str (oj (str (iU x)) (str (jB (jM fl p))) n)) (.slice (some ⟨G,0,none⟩) (nX x (jM fl p) n) C)/\a'.getD 102 undef=.bool false)/\w'.heap=v5.heap) (by kernel_rfl) (fun T=>aib (w:=tp v5 T)) ?_;rintro r v6 ⟨⟨l,g⟩,I⟩;refine GW.run 0 (k':=[.code (.cond (.tmp 102) (cp [2,2,2,2,2,2,2,2,2,2,2,2,2,2,2,1,2,1] ir) .skip),.code (cp [2,2,2,2,2,2,2,2,2,2,2,2,2,2,2,2] ir)]) ?_;refine aJ Y (t:=false) trivial g ?_;rw[l];generalize(fun i=>r.getD i undef)=u7;clear l g;refine GW.run 3 (k':=jh [2,2,2,2,2,2,2,2,2,2,2,2,2,2,2,2] [0]) ?_;refine ah Y [0] ?_;refine GW.run 2 (k':=[.code (cp [2,2,2,2,2,2,2,2,2,2,2,2,2,2,2,2,2,1] ir),.code (cp [2,2,2,2,2,2,2,2,2,2,2,2,2,2,2,2,2,2] ir)]) ?_;refine GW.any (fun u=>Cj u fl b (str x) e (str p) n (.slice (some ⟨G,0,none⟩) (nX x (jM fl p) n) C) false) (by kernel_rfl) fun u8=>?_;have ce:∀p T,(tp v6 T).cell? p=v5.cell? p:=fun p T=>by simp only[ar];rw[show(tp v6 T).heap=v6.heap from rfl,I]
 refine aM Y (by kernel_rfl) (R1:=fun a' w'=>a'=Cj (fun i=>a'.getD i undef) fl b (str x) e (str p) n (.slice (some ⟨G,0,none⟩) (nX x (jM fl p) n) C) true/\w'.heap=v6.heap) (by kernel_rfl) (fun T=>ab4 (w:=tp v6 T) (by omega) (by omega) (by omega) (age fun i j P hj=>by rw[ce];exact c1 i j P hj) (by show G<v6.heap.size;rw[I];exact g2) R) ?_;rintro a9 v9 ⟨e9,h9⟩;rw[e9];have K9:Kw v0 v9:=k4.trans (K5.trans fun a N=>by rw[h9,I]);refine GW.any (fun u=>rY u b (str x) e (str p) n (u 30) (u 31)) (by kernel_rfl) fun u9=>?_;refine GW.run 1 (k':=[.code (cp [2,2,2,2,2,2,2,2,2,2,2,2,2,2,2,2,2,2,1] ir),.code (cp [2,2,2,2,2,2,2,2,2,2,2,2,2,2,2,2,2,2,2] ir)]) ?_;refine aM Y (by kernel_rfl) (R1:=fun a' w'=>a'=rY (fun i=>a'.getD i undef) b (str x) e (str p) n (ii (1+iO q1 8:Nat)) (u9 31)/\w'.heap=v9.heap) (by kernel_rfl) (fun T=>aic (w:=tp v9 T) (K9.at hb) h1.1) ?_;rintro aA X ⟨eA,hA⟩;rw[eA];have f:Kw v0 X:=K9.trans fun a N=>by rw[hA]
 refine GW.run 1 (k':=[.code (cp [2,2,2,2,2,2,2,2,2,2,2,2,2,2,2,2,2,2,2,1] ir),.code (cp [2,2,2,2,2,2,2,2,2,2,2,2,2,2,2,2,2,2,2,2] ir)]) ?_;refine aM Y (by kernel_rfl) (R1:=fun a' w'=>a'=rY (fun i=>a'.getD i undef) b (str x) e (str p) n (ii (1+iO q1 8:Nat)) (ii (1+iO t1 200:Nat))/\w'.heap=X.heap) (by kernel_rfl) (fun T=>aid (w:=tp X T) (f.at hb) h1.2.1) ?_;rintro aB Z ⟨eB,hB⟩;rw[eB];have KB:Kw v0 Z:=f.trans fun a N=>by rw[hB]
 have q8:=pU q1 (show 0<8 by decide);have H:=pU t1 (show 0<200 by decide);generalize iO q1 8=qq at q8⊢;generalize iO t1 200=D at H⊢;obtain⟨m,zs,bS,zl,zn,zm⟩:=Z9 (q:=1+qq) (st:=1+D) M x1 (by omega) kp p1 p2 hn hnp (by omega) (by omega) (by omega) (by omega) hs Gb he hd;refine GW.run 1 (k':=[.code (cp [2,2,2,2,2,2,2,2,2,2,2,2,2,2,2,2,2,2,2,2,1] ir),.code (cp [2,2,2,2,2,2,2,2,2,2,2,2,2,2,2,2,2,2,2,2,2] ir)]) ?_;refine aM Y (by kernel_rfl) (R1:=fun a' w'=>a'=q7 (fun i=>a'.getD i undef) e (str p) n (1+D:Nat) (str (j0 zs zs.length)) (a'.getD 34 undef)/\Kw Z w') (by kernel_rfl) (fun T=>aie (w:=tp Z T) lx (by rw[ia];unfold az;omega) (yu (KB.rF O U) rfl) bS m) ?_;rintro aC E ⟨eC,kC⟩;rw[eC];have sp:(str p).size=p.length:=ia p;refine GW.run 1 (k':=[.code (cp [2,2,2,2,2,2,2,2,2,2,2,2,2,2,2,2,2,2,2,2,2,1] ir),.code (cp [2,2,2,2,2,2,2,2,2,2,2,2,2,2,2,2,2,2,2,2,2,2] ir)]) ?_;refine aM Y (by kernel_rfl) (R1:=fun a' w'=>a'=q7 (fun i=>a'.getD i undef) e (str p) n (1+D:Nat) (str (j0 zs zs.length)) (ii ((e:Int)-((str p).size:Int)-(n:Int)))/\w'.heap=E.heap) (by kernel_rfl) (fun T=>aif (w:=tp E T) (by omega) (by omega) (by omega)) ?_;rintro aD o ⟨eD,hD⟩;rw[eD];refine GW.run 1 (k':=[.code (cp [2,2,2,2,2,2,2,2,2,2,2,2,2,2,2,2,2,2,2,2,2,2,1] ir),.code (cp [2,2,2,2,2,2,2,2,2,2,2,2,2,2,2,2,2,2,2,2,2,2,2] ir)]) ?_;refine aM Y (by kernel_rfl) (R1:=fun a' w'=>a'=q7 (fun i=>a'.getD i undef) e (str p) n (1+D:Nat) (str (j0 zs zs.length)) (ii (e-((str p).size+n):Nat))/\w'.heap=o.heap) (by kernel_rfl) (fun T=>aih (w:=tp o T)) ?_;rintro aE d ⟨eE,hE⟩;rw[eE,sp];refine GW.run 1 (k':=[.code (cp [2,2,2,2,2,2,2,2,2,2,2,2,2,2,2,2,2,2,2,2,2,2,2,1] ir),.code .ret]) ?_;refine aM Y (by kernel_rfl) (R1:=fun a' w'=>a'.getD 12 undef=.bool true/\Kw d w') rfl (fun T=>aii (w:=tp d T) (by omega) (by omega) (by omega) rfl fun W=>ab1 zs _ W zm zl zn) ?_;rintro aF vF ⟨eF,kF⟩;exact GW.Km Y 12 ⟨eF,KB.trans (kC.trans ((show Kw E d from fun a N=>by rw[hE,hD]).trans kF))⟩
theorem agi(kx:∀c∈x,g_ c)(x1:1<=x.length)(lx:x.length<=60)(kp:∀c∈p,g_ c)(p1:1<=p.length)(p2:p.length<=30)(hn:n<=6)(hs:s<=e)(M:1<=e)(he:e<=x.length)(hd:jd (str p) ((str x).extract s e)<=n)(h1:jj q1/\jj t1/\jj w1)(O:lb v)(U:iN v)(hb:v.heap[b]?=some (.cells #[ii q1,ii t1,ii w1] 28)):
  GW true Q (fun y v'=>y=.bool true/\Kw v v') 7 (jh [2,2,2,2,2,2,2,2,2] [6,7,8,9,10]) (ME u fl b (str x) e (.tuple #[.string (str p),ii n])) v:=by
 have Y:∃F,PR.funcs[7]?=some F:=⟨_,dx⟩;have sp:(str p).size=p.length:=ia p;refine ah Y [6,7,8,9,10] ?_;refine GW.any (fun u=>Ao u fl b (str x) e (str p) n) (by kernel_rfl) fun u1=>?_;refine GW.run 3 (k':=[.code (cp [2,2,2,2,2,2,2,2,2,2,1,1] ir),.code (cp [2,2,2,2,2,2,2,2,2,2,1,2] ir),.code (cp [2,2,2,2,2,2,2,2,2,2,2] ir)]) ?_;by_cases B:p.length<=n
 ·refine aM Y (by kernel_rfl) (R1:=fun a' w'=>(a'=Ao (fun i=>a'.getD i undef) fl b (str x) e (str p) n/\a'.getD 77 undef=.bool true)/\w'.heap=v.heap) (by kernel_rfl) (fun T=>SG (w:=tp v T) (by omega) (by omega) (.inl ⟨by omega,rfl⟩)) ?_;rintro a1 v1 ⟨⟨K,H⟩,D⟩;refine GW.run 0 (k':=[.code (.cond (.tmp 77) (cp [2,2,2,2,2,2,2,2,2,2,1,2,1] ir) .skip),.code (cp [2,2,2,2,2,2,2,2,2,2,2] ir)]) ?_;refine aJ Y (t:=true) trivial H ?_;rw[K];refine GW.run 2 (k':=[.inRegion (opsOf (cp [2,2,2,2,2,2,2,2,2,2,1,2,1,1] ir)) [0],.code .ret,.code (cp [2,2,2,2,2,2,2,2,2,2,2] ir)]) ?_;refine ah Y [0] ?_;refine GW.run 1 (k':=[.code .ret,.code (cp [2,2,2,2,2,2,2,2,2,2,2] ir)]) ?_;exact GW.Km Y 12 ⟨by kernel_rfl,fun a A=>by rw[D]⟩
 ·refine aM Y (by kernel_rfl) (R1:=fun a' w'=>(a'=Ao (fun i=>a'.getD i undef) fl b (str x) e (str p) n/\a'.getD 77 undef=.bool false)/\w'.heap=v.heap) (by kernel_rfl) (fun T=>SG (w:=tp v T) (by omega) (by omega) (.inr ⟨by omega,rfl⟩)) ?_;rintro a1 v1 ⟨⟨K,H⟩,D⟩;have I:Kw v v1:=fun a A=>by rw[D]
  refine GW.run 0 (k':=[.code (.cond (.tmp 77) (cp [2,2,2,2,2,2,2,2,2,2,1,2,1] ir) .skip),.code (cp [2,2,2,2,2,2,2,2,2,2,2] ir)]) ?_;refine aJ Y (t:=false) trivial H ?_;rw[K];generalize(fun i=>a1.getD i undef)=u2;refine GW.run 3 (k':=jh [2,2,2,2,2,2,2,2,2,2,2] [0,1]) ?_;refine ah Y [0,1] ?_;refine GW.run 4 (k':=[.inRegion (opsOf (cp [2,2,2,2,2,2,2,2,2,2,2,2,1,1] ir)) [0],.code (cp [2,2,2,2,2,2,2,2,2,2,2,2,1,2] ir),.code (cp [2,2,2,2,2,2,2,2,2,2,2,2,2] ir)]) ?_;refine ah Y [0] ?_;refine GW.run 1 (k':=[.code (.cond (.tmp 79) (cp [2,2,2,2,2,2,2,2,2,2,2,2,1,2,1] ir) .skip),.code (cp [2,2,2,2,2,2,2,2,2,2,2,2,2] ir)]) ?_;refine aJ Y (t:=fl) trivial (by kernel_rfl) ?_;cases fl
  ·refine GW.run 1 (k':=[.code (cp [2,2,2,2,2,2,2,2,2,2,2,2,2] ir)]) ?_;refine GW.any (fun u=>MF u false b (str x) e (str p) n (str (jM false p))) (by kernel_rfl) fun u3=>?_;exact RY kx x1 lx kp p1 p2 hn (by omega) hs M he hd h1 O U hb I
  ·refine GW.run 1 (k':=[.inRegion (opsOf (cp [2,2,2,2,2,2,2,2,2,2,2,2,1,2,1] ir)) [0,1,2],.code (cp [2,2,2,2,2,2,2,2,2,2,2,2,2] ir)]) ?_;refine ah Y [0] ?_;refine GW.call Y (aX (R:=fun y v'=>y=.string (str (pg p))/\Kw v v') (by decide) fun T=>(Z6 (str p) (tp v1 T) (by omega)).mono fun e w' h=>⟨_,h.1,rfl,by rw[h.2];exact I⟩) ?_;rintro z v2 ⟨rfl,K2⟩;refine ah Y [2] ?_;refine GW.run 1 (k':=[.code (cp [2,2,2,2,2,2,2,2,2,2,2,2,2] ir)]) ?_;refine GW.any (fun u=>MF u true b (str x) e (str p) n (str (jM true p))) (by kernel_rfl) fun u3=>?_;exact RY kx x1 lx kp p1 p2 hn (by omega) hs M he hd h1 O U hb K2
end
section
variable{W:af}{a0 a3:Option Addr}{l0 c0 l3 c3:Nat}{z0:Nat->Int}{z3:Nat->Int×Int×Int}{f m q1 t1 w1:Int}{fl:Bool}{I:ae->af->Prop}
theorem agj(i0:rH W a0 l0 (Gg z0))(F:jj f)(M:jj m)(i3:rH W a3 l3 (Ci z3))(h1:jj q1/\jj t1/\jj w1)(H:qo (fun _=>False) W)(hp:∀U d,ie (fun _=>False) W U->I (.bool true) (U.at d)):
  gL PR (Ren.Ends PR I) (fun _=>False) (Frame.enter PR 7 #[.slice a0 l0 c0,ii f,ii m,.slice a3 l3 c3,.bool fl,.agg #[ii q1,ii t1,ii w1]] .normal) [] W:=by
 refine agh i0 F M i3 H hp fun x v b s e u R J C B D A Y hb=>?_;have L:((x.take e).drop s).length=e-s:=by simp;omega
 obtain⟨a1,a2,a3,a4,a5⟩:=Jr z3 (s:=(x.take e).drop s) (by omega) (fun c K=>R c (bP (cK K))) (min l3 4);have hd:=abW a1;rw[<-tN]at hd;exact agi (fun c K=>Ts (R c K)) (by omega) J (fun c K=>Ts (a4 c K)) a2 (by omega) (by omega) (by omega) (by omega) D hd h1 A Y hb
end
end Ph
section
open ChangeShapes WideShapes ChangeAt RowKit Deep
theorem apf:ai.cellsOf 64=3:=by kernel_rfl
section
variable{H:Type}{enc:aV×ae->H}{W:af}{base b0:Nat}{I:Nat->Bool}{held:Bool}{d:bY H}{p:List cO}{v:ae}{r:Reach}
theorem agk(Y:bm ai W r b0 4 v)(h:bN enc ai W base I held 4 v d p):∃f,v=.bool f:=by
 obtain⟨f,rfl,_⟩:=open_bool Tryz.underlying4 Y h;exact⟨f,rfl⟩
theorem agl{n:Nat}{cs:List ae}{x:bY H×List cO}(h:cB enc ai W base I held n 64 cs=some x):∃z:Int×Int×Int,cs=[.int .i64 z.1,.int .i64 z.2.1,.int .i64 z.2.2]/\jj z.1/\jj z.2.1/\jj z.2.2:=by
 obtain⟨xs,m,_,_,A,U,Y⟩:=dK Tryz.underlying64 h
 match cs,A with
 |[c0,c1,c2],_=>
  have hx:=by omega
  match xs,hx with
  |[x0,C,F],_=>
   have f0:=by simpa[xc]using Y 0 _ rfl
   have f1:=by simpa[xc]using Y 1 _ rfl
   have f2:=by simpa[xc]using Y 2 _ rfl
   obtain⟨a0,K,_,z0⟩:=bO bC f0;obtain⟨a1,D,_,B⟩:=bO bC f1;obtain⟨a2,R,_,z2⟩:=bO bC f2;simp at K D R;subst K D R;exact⟨(a0,a1,a2),rfl,uZ z0,uZ B,uZ z2⟩
theorem PI{t e:aV}{len cap:Nat}(F:ai.underlying t=some (.slice e))(U:bm ai W r b0 t (.slice (some ad) len cap)):ad.spot=none/\∃cs ty fz,W.heap[ad.block]?=some (.cells cs ty fz):=by
 simp only[bm,F,Cell.okWide,Cell.ok]at U;obtain⟨_,_,_,h2,row,cells,Y,_⟩:=U;unfold World.shape? at Y;split at Y
 ·simp_all
 ·cases Y
theorem aik(U:bm ai W r b0 25 v)(h:bN enc ai W base I held 25 v d p):∃a len cap z,v=.slice a len cap/\Ph.rH W a len (Ph.Gg z):=by
 obtain⟨a,len,cap,z,rfl,Y⟩:=afX U h;refine⟨a,len,cap,z,rfl,?_⟩;cases a with
 |none=>
  rcases Y with rfl|⟨_,_,e,_⟩
  ·exact .inl ⟨rfl,rfl⟩
  ·cases e
 |some ad=>
  obtain⟨b,off,sp⟩:=ad;obtain⟨rfl,cs,D,fz,hb⟩:=PI dy U;refine .inr ⟨b,off,cs,D,fz,rfl,hb,?_⟩;rcases Y with rfl|⟨b',K,e,h2,H⟩
  ·simp
  ·cases e;exact⟨h2,H⟩
theorem aec(F:bm ai W r b0 26 v)(h:bN enc ai W base I held 26 v d p):∃a len cap z,v=.slice a len cap/\Ph.rH W a len (Ph.Ci z):=by
 obtain⟨a,len,cap,rfl⟩:=okWide_slice dz F;obtain⟨fuel,L⟩:=h;refine⟨a,len,cap,?_⟩;rcases open_slice dz (by simpa[bT]using L)with⟨K,_⟩|⟨ad,J,C,m,n,D,Pl,K,_,S,T,B,_,U⟩
 ·obtain⟨rfl,rfl,rfl⟩:=K;exact⟨fun _=>(0,0,0),rfl,.inl ⟨rfl,rfl⟩⟩
 ·obtain⟨rfl,rfl,rfl⟩:=K;have N:len<=m:=by rw[B];split<;>omega
  obtain⟨b,off,sp⟩:=ad;obtain⟨rfl,cs,P,fz,hb⟩:=PI dz F;have R:∀j,(⟨b,off,none⟩:Addr).add j=⟨b,off+j,none⟩:=by
   intro j;unfold Addr.add;split<;>simp_all
  have Y:∀i,i<len->∃z:Int×Int×Int,(∀j,j<3->W.cell? ⟨b,off+(i *3+j),none⟩=[bU .i64 z.1,.int .i64 z.2.1,.int .i64 z.2.2][j]?)/\jj z.1/\jj z.2.1/\jj z.2.2:=by
   intro i A;obtain⟨gW,H,O⟩:=U i (by omega);obtain⟨z,rfl,Q⟩:=agl O;refine⟨z,fun j M=>?_,Q⟩;have:=(World.cells?_some H).2.2 j M
   rwa [add_add,R]at this
  refine⟨fun i=>if A:i<len then(Y i A).choose else(0,0,0),rfl,.inr ⟨b,off,cs,P,fz,rfl,hb,by omega,fun i A=>?_⟩⟩;unfold Ph.Ci;simp only[A];have H:=(Y i A).choose_spec;exact⟨H.1 0 (by omega),H.1 1 (by omega),H.1 2 (by omega),H.2⟩
end
end
end
end Go.Proofs.YtdcjnhipenbcfaaGreatDoor
