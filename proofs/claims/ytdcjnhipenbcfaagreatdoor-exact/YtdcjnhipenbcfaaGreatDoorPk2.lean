/-
  Own text. Part 2 of what the claim rests on.
-/
import Derived.Test.YtdcjnhipenbcfaaGreatDoorPk1
import GoSem.Dispatch
import Derived.Conc.Own
set_option linter.unusedVariables false
set_option linter.unusedSectionVars false
set_option linter.unusedSimpArgs false
set_option maxRecDepth 100000
set_option maxHeartbeats 16000000
open Array renaming foldl_toList->az,toArray_toList->aA,mapM_eq_mapM_toList->aT,forIn_toList->bD,getElem?_append_left->bE,getElem?_append_right->bF,getElem?_map->bG,getElem?_push->bH,replicate->bI,toList_append->bJ,toList_filter->bK,toList_zipIdx->bL
open Bool renaming false_eq_true->aB,eq_iff_iff->aU
open Go.Builtin renaming firstCells->ae,lenOf->aj,zeroCells->au,mayShare->aD,min2->aH,unsafeAdd_->aI,unsafeString_->aJ,append_->aV,cap_->aW,copy_->aX,len_->aY,min_->aZ,holdsCells->bM,unsafeSliceData_->bN
open Go.Conv renaming unsafePointer->aK,bytesToString->bO,stringToBytes->bP
open Go.Deferred renaming ofValue->aL
open Go.Extern.BytealgIndexByte renaming indexByte->bQ
open Go.Extern.BytealgMakeNoZero renaming makeNoZero->a_
open Go.Extern.Bytes renaming asByte->bR,bytesOf->bS,loadBytes->bT
open Go.Instr renaming findNow->ah,sameNow->ak,checkKey->aM,findKey->aN,sliceBound->aO,enterLoop->bc,findAsking->bg,keyThatStays->bh,lookup->bj,makeSlice->bk,beginRound->bU,buildSlice->bV,endLoop->bW,endRound->bX,fieldAt->bY,getLoop->bZ,indexAt->b_,loadAt->cf,makeFunc->cg,makeInterface->cj,makeMap->ck,mapUpdate->cm,panicnil->cn,sameBits->cu,sliceAt->cv,sliceBounds->cw,storeAt->cx,sureAddr->cy,takeDeferred->cA,typeAssert->cB
open Go.Op renaming equalIn->af,maxDepth->ar,stringOp->ax,intArith->bp,intCmp->bq,intDiv->br,shift->bt,eqGuardIn->cE,twoPlaces->cG
open Go.Proofs.YtdcjnhipenbcfaaGreatDoor.Ren.VA renaming mono->bC
open Go.Result renaming andThen_ok->bA
open Go.Sem renaming run_bind'->ai,run_bind->bB,run_pure->cH
open Go.Value renaming tuple->ay,bool->aQ
open List renaming forIn_cons->aP,mapM_cons->bm,filter_cons->cC
open Nat renaming le_refl->ao,lt_of_lt_of_le->cD
open Option renaming map_eq_some_iff->bu
namespace Go.Proofs.YtdcjnhipenbcfaaGreatDoor
variable {a a':Addr}{bz rd:Bool}{d d':Deferred}{f f':Frame}{b b' c i l l' n:Nat}{o o':Obj}{name:String}{dst src t:TypeId}{k k' v' x x' y y':Value}{u I w:World}
namespace Ren
abbrev ig[gB]{α:Type}:Rn->α->α->Prop:=fun _ a b=>a=b
def qQ[gB](P:Program):=∀t i z,P.info? t=some i->i.zero=some z->∀r,V r z z
section
variable[gB]{P:Program}{r:Rn}{α:Type}{A:Rn->α->α->Prop}
theorem gD(Y:String){s:Sem α}:SR P A r (stuck Y) s:=.lost fun _=>⟨_,_,rfl,.inr ⟨_,rfl⟩⟩
theorem il(u:Unsupported)(Y:Dz u=false:=by rfl){s:Sem α}:SR P A r (unsupported u) s:=.lost fun _=>⟨_,_,rfl,.inl ⟨_,rfl,Y⟩⟩
theorem wj{v:Value}(h:V r v v'):SR P A r (goPanic v) (goPanic v'):=.halt (.panic h)
theorem mV:SR P (fun _ a b=>a=P/\b=P) r program program:=.program fun _ _=>.pure ⟨rfl,rfl⟩
theorem rB(q:Question):SR P ig r (choose q) (choose q):=.choose q fun _ _ _=>.pure rfl
theorem Dk(h:Ad r a a'):SR P V r (load a) (load a'):=.load h fun _ _ _ _ e=>.pure e
theorem acp(h:Ad r a a'){v:Value}(Y:V r v v'):SR P ig r (store a v) (store a' v'):=.store h Y fun _ _=>.pure rfl
theorem xd(h:O r o o'):SR P (fun r b b'=>r b=some b') r (newObj o) (newObj o'):=.new h fun _ _ _ _ e=>.pure e
theorem p9(h:r b=some b'):SR P ig r (shape b) (shape b'):=.shape h fun _ _ _=>.pure rfl
theorem CE(z:∀b,¬gB.ro b)(h:Ad r a a'):SR P ig r (frozen a) (frozen a'):=.frozen z h fun _ _ _=>.pure rfl
theorem O7(z:∀b,¬gB.ro b)(h:Ad r a a')(n:Nat):SR P ig r (freeze a n) (freeze a' n):=.freeze n z h fun _ _=>.pure rfl
theorem oJ(h:r b=some b'):SR P O r (getObj b) (getObj b'):=.getObj h fun _ _ _ _ e=>.pure e
theorem uH(h:r b=some b')(Y:O r o o'):SR P ig r (setObj b o) (setObj b' o'):=.setObj h Y fun _ _=>.pure rfl
theorem G_(n:Nat):SR P ig r (askRoom n) (askRoom n):=by
 unfold askRoom;split
 ·exact .mark _ (.inl rfl) fun _ _=>.pure rfl
 ·exact .pure rfl
theorem ru(t:TypeId):SR P (fun _ i j=>i=j/\P.info? t=some i) r (typeInfo t) (typeInfo t):=by
 refine SR.bind mV ?_;rintro s p q _ ⟨Y,K⟩;rw[Y,K];cases h:P.info? t with
 |some i=>exact .pure ⟨rfl,rfl⟩
 |none=>exact gD _
theorem kv(t:TypeId):SR P ig r (underlying t) (underlying t):=by
 refine SR.bind mV ?_;rintro s p q _ ⟨Y,K⟩;rw[Y,K];cases h:P.underlying t with
 |some i=>exact .pure rfl
 |none=>exact gD _
theorem mW(t:TypeId):SR P ig r (sizeOf t) (sizeOf t):=by
 refine SR.bind (ru t) ?_;rintro s i _ _ ⟨rfl,_⟩;exact .pure rfl
theorem wX(Z:qQ P)(t:TypeId):SR P V r (zeroValue t) (zeroValue t):=by
 refine SR.bind (ru t) ?_;rintro s i _ _ ⟨rfl,h⟩;cases Y:i.zero with
 |some z=>exact .pure (Z t i z h Y s)
 |none=>exact il _
theorem Qc(t:TypeId):SR P ig r (isAgg t) (isAgg t):=by
 refine SR.bind (kv t) ?_;rintro s d _ _ rfl;split<;>exact .pure rfl
theorem Ht(t:TypeId):SR P ig r (elemOf t) (elemOf t):=by
 refine SR.bind (kv t) ?_;rintro s d _ _ rfl;split
 ·exact .pure rfl
 ·exact gD _
theorem Ad.add(h:Ad r a a')(n:Nat):Ad r (a.add n) (a'.add n):=by
 unfold Addr.add;split
 ·exact h
 ·exact⟨h.block,by simp[h.off],rfl⟩
theorem VA.push{c c':Array _}(h:VA r c c')(D:V r x x'):VA r (c.push x) (c'.push x'):=by
 refine⟨by simp[h.size],fun i y H e e'=>?_⟩;have K:=h.size;rw[bH]at e e';rw[<-K]at e';split at e
 ·simp_all
 ·rename_i Y;rw[if_neg Y]at e';exact h.at_ i y H e e'
theorem VA.nil:VA r #[] #[]:=⟨rfl,fun i x x' e=>by simp⟩
theorem VA.extract{c c':Array _}(h:VA r c c')(i j:Nat):VA r (c.extract i j) (c'.extract i j):=by
 have Y:=h.size;refine⟨by simp[Y],fun k x x' e e'=>?_⟩;simp only[Array.getElem?_extract,Y]at e e';split at e
 ·rename_i hk;rw[if_pos hk]at e';exact h.at_ _ x x' e e'
 ·cases e
theorem M4:∀n i {r:Rn} {a a':Addr} {c c':Array _},Ad r a a'->VA r c c'->SR P VA r (loadCellsFrom a i n c) (loadCellsFrom a' i n c')
 |0,i,r,a,a',c,c',h,Y=>.pure Y
 |n+1,i,r,a,a',c,c',h,Y=>by
  refine SR.bind (Dk (h.add i)) ?_;intro s v v' l K;exact M4 n _ (h.mono l) ((Y.mono l).push K)
theorem GK(n:Nat)(h:Ad r a a'):SR P VA r (loadCells a n) (loadCells a' n):=M4 n 0 h .nil
inductive VL(r:Rn):List Value->List Value->Prop
 |nil:VL r [] []
 |cons {x y:Value} {xs ys:List Value}:V r x y->VL r xs ys->VL r (x::xs) (y::ys)
theorem VL.mono{s:Rn}(h:Le r s){xs ys:List _}(k:VL r xs ys):VL s xs ys:=by
 induction k with
 |nil=>exact .nil
 |cons x _ Y=>exact .cons (x.mono h) Y
theorem VA.toList{c c':Array _}(h:VA r c c'):VL r c.toList c'.toList:=by
 obtain⟨c⟩:=c;obtain⟨c'⟩:=c';obtain⟨Y,K⟩:=h;induction c generalizing c' with
 |nil=>cases c' with
  |nil=>exact .nil
  |cons y ys=>simp at Y
 |cons x xs H=>cases c' with
  |nil=>simp at Y
  |cons y ys=>exact .cons (K 0 x y rfl rfl) (H ys (by simpa using Y) fun i a b e e'=>K (i+1) a b (by simpa using e) (by simpa using e'))
theorem VL.toArray{xs ys:List _}(h:VL r xs ys):VA r xs.toArray ys.toArray:=by
 induction h with
 |nil=>exact .nil
 |cons x _ H=>
  obtain⟨K,Y⟩:=H;simp at K Y;refine⟨by simp_all,fun i a b e e'=>?_⟩;simp at e e';cases i with
  |zero=>simp at e e';simp_all
  |succ i=>exact Y i a b e e'
theorem yj:∀{xs ys:List _} i {r:Rn} {a a':Addr},Ad r a a'->VL r xs ys->SR P ig r (storeCells a xs i) (storeCells a' ys i)
 |_,_,i,r,a,a',h,.nil=>.pure rfl
 |_,_,i,r,a,a',h,.cons x xs=>by
  refine SR.bind (acp (h.add i) x) ?_;intro s _ _ l _;exact yj _ (h.mono l) (VL.mono l xs)
theorem V.cells{x y:Value}(h:V r x y):VA r x.cells y.cells:=by
 have one:∀{x y:Value},V r x y->VA r _ _:=fun h=>(VL.toArray (.cons h .nil));cases h with
 |agg K Y=>exact⟨K,Y⟩
 |blank h=>
  have e:y.cells=#[y]:=by cases y<;>first|rfl|simp[Hid]at h
  rw[e];exact one (.blank h)
 |func a b c d e=>exact one (.func a b c d e)
 |tuple K Y=>exact one (.tuple K Y)
 |iface t h=>exact one (.iface t h)
 |ptr a=>exact one (.ptr a)
 |slice l c a=>exact one (.slice l c a)
 |map e=>exact one (.map e)
 |chan e=>exact one (.chan e)
 |bool b=>exact one (.bool b)
 |int k n=>exact one (.int k n)
 |string s=>exact one (.string s)
 |nilPtr=>exact one .nilPtr
 |kW l c=>exact one (.kW l c)
 |oM=>exact one .oM
 |qd=>exact one .qd
 |nilFunc=>exact one .nilFunc
 |nilIface=>exact one .nilIface
theorem Ox(t:TypeId)(h:Ad r a a'):SR P V r (loadVar t a) (loadVar t a'):=by
 refine SR.bind (Qc t) ?_;rintro s b _ l rfl;split
 ·refine SR.bind (mW t) ?_;rintro u n _ K rfl;refine SR.bind (GK n ((h.mono l).mono K)) ?_;intro q c c' _ Y;exact .pure (.agg Y.size Y.at_)
 ·exact Dk (h.mono l)
theorem Yf(t:TypeId)(h:Ad r a a')(Y:V r x x'):SR P ig r (storeVar t a x) (storeVar t a' x'):=by
 refine SR.bind (mW t) ?_;rintro s n _ l rfl;rw[Y.cells.size];split
 ·refine SR.bind (gD (A:=ig) _) ?_;rintro u _ _ K rfl;exact yj 0 ((h.mono l).mono K) ((Y.cells.toList.mono l).mono K)
 ·exact yj 0 (h.mono l) (Y.cells.toList.mono l)
theorem vT(t:TypeId){c c':Array _}(h:VA r c c'):SR P Ad r (newRow t c) (newRow t c'):=by
 refine SR.bind (xd (.cells t _ h)) ?_;intro s b b' l e;exact .pure ⟨e,rfl,rfl⟩
theorem Hu(t:TypeId)(h:V r x x'):SR P Ad r (newVar t x) (newVar t x'):=vT t h.cells
theorem Dm(t:TypeId){c c':Array _}(h:VA r c c')(o:Nat):SR P V r (part t c o) (part t c' o):=by
 refine SR.bind (Qc t) ?_;rintro s b _ l rfl;split
 ·refine SR.bind (mW t) ?_;rintro u n _ H rfl;have q:=((h.mono l).mono H).extract o (o+n);exact .pure (.agg q.size q.at_)
 ·cases Y:c[o]? with
  |some x=>
   obtain⟨x',e,K⟩:=h.get Y;rw[e];exact .pure (K.mono l)
  |none=>exact gD _
end
section
variable[gB]{P:Program}{r:Rn}{α:Type}{A:Rn->α->α->Prop}
theorem VA.one(h:V r x y):VA r #[x] #[y]:=(VL.toArray (.cons h .nil))
theorem VA.two(h:V r x y)(h':V r x' y'):VA r #[x,x'] #[y,y']:=(VL.toArray (.cons h (.cons h' .nil)))
theorem VA.three{x2 y2:Value}(h:V r x y)(h':V r x' y')(Y:V r x2 y2):VA r #[x,x',x2] #[y,y',y2]:=(VL.toArray (.cons h (.cons h' (.cons Y .nil))))
theorem V.Ec{c c':Array _}(h:VA r c c'):V r (.agg c) (.agg c'):=.agg h.size h.at_
theorem V.sc{c c':Array _}(h:VA r c c'):V r (.tuple c) (.tuple c'):=.tuple h.size h.at_
def Qd:RuntimeError->Prop
 |.bounds .. |.error _|.plain _|.nilDeref=>True
 |_=>False
theorem mq{e:RuntimeError}(h:Qd e):SR P A r (runtimePanic e) (runtimePanic e):=by
 refine SR.bind mV ?_;rintro s p q _ ⟨Y,K⟩;rw[Y,K];cases e with
 |bounds x y sg c=>exact wj (.iface _ (.Ec (VL.toArray (.cons (.int _ _) (.cons (.int _ _) (.cons (.bool _) (.cons (.int _ _) .nil)))))))
 |error m=>exact wj (.iface _ (.string _))
 |plain m=>exact wj (.iface _ (.string _))
 |nilDeref=>exact wj (.iface _ (.string _))
 |typeAssertion=>exact h.elim
 |panicNil=>exact h.elim
 |unhashable=>exact h.elim
theorem Ae(k:IntKind)(x y:Int)(c:BoundsCode):SR P A r (boundsPanic k x y c) (boundsPanic k x y c):=by
 unfold boundsPanic;split
 ·refine SR.bind (A:=ig) (SR.bind (rB _) fun s a b _ e=>e▸ .pure rfl) ?_;rintro s a _ _ rfl;exact mq trivial
 ·refine SR.bind (A:=ig) (.pure rfl) ?_;rintro s a _ _ rfl;exact mq trivial
theorem Cw(h:V r x x'):SR P ig r (asIntOf x) (asIntOf x'):=by
 cases h with
 |int k n=>exact .pure rfl
 |ptr a=>exact il _
 |_=>exact gD _
theorem yF(h:V r x x'):SR P ig r (asInt x) (asInt x'):=by
 exact SR.bind (Cw h) fun s a b _ e=>e▸ .pure rfl
theorem O8(h:V r x x'):SR P ig r (asBool x) (asBool x'):=by
 cases h with
 |bool b=>exact .pure rfl
 |_=>exact gD _
theorem acr(h:V r x x'):SR P VA r (asAgg x) (asAgg x'):=by
 cases h with
 |agg s i=>exact .pure ⟨s,i⟩
 |_=>exact gD _
theorem O9(h:V r x x'):SR P Ad r (asAddr x) (asAddr x'):=by
 cases h with
 |ptr a=>exact .pure a
 |nilPtr=>exact mq (e:=.nilDeref) trivial
 |_=>exact gD _
theorem Ak(h:V r x x'):SR P Ad r (cy x) (cy x'):=by
 cases h with
 |ptr a=>exact .pure a
 |_=>exact gD _
theorem agP(t:TypeId)(h:V r x x'):SR P V r (Instr.box t x) (Instr.box t x'):=
 SR.bind (Hu t h) fun s a b _ e=>.pure (.ptr e)
theorem acs(Z:qQ P)(t:TypeId):SR P V r (Instr.alloc t true (.tuple #[])) (Instr.alloc t true (.tuple #[])):=by
 refine SR.bind (wX Z t) fun s a b _ e=>?_;exact SR.bind (Hu t e) fun s a b _ e=>.pure (.ptr e)
theorem aaJ(t:TypeId)(h:V r x x'):SR P V r (cf t x) (cf t x'):=
 SR.bind (Ak h) fun s a b _ e=>Ox t e
theorem Zi(t:TypeId)(h:V r x x')(Y:V r y y'):SR P ig r (cx t x y) (cx t x' y'):=
 SR.bind (Ak h) fun s a b l e=>Yf t e (Y.mono l)
theorem Zj(h:V r x x')(i:Nat):SR P V r (Instr.extract x i) (Instr.extract x' i):=by
 cases h with
 |tuple s K=>
  rename_i c c';have q:VA r c c':=⟨s,K⟩;simp[Instr.extract];cases Y:c[i]? with
  |some y=>obtain⟨D,e,H⟩:=q.get Y;rw[e];exact .pure H
  |none=>exact gD _
 |_=>exact gD _
theorem WU(t:TypeId)(h:V r x x'):SR P V r (cj t x) (cj t x'):=by
 refine SR.bind (kv t) ?_;rintro s d _ l rfl;split
 ·exact gD _
 ·exact .pure (.iface t (h.mono l))
theorem acu(t:TypeId)(h:V r x x')(i:Nat):SR P V r (Instr.field t x i) (Instr.field t x' i):=by
 refine SR.bind (kv t) ?_;rintro s d _ l rfl;split
 ·split
  ·exact SR.bind (acr (h.mono l)) fun _ _ _ _ e=>Dm _ e _
  ·exact gD _
 ·exact gD _
theorem acv(t:TypeId)(h:V r x x')(R:V r y y'):SR P V r (Instr.index t x y) (Instr.index t x' y'):=by
 refine SR.bind (Cw R) ?_;rintro s ⟨k,i⟩ _ l rfl;refine SR.bind (kv t) ?_;rintro u d _ I rfl;have K:=(h.mono l).mono I;cases d with
 |array len Y=>
  cases K with
  |agg D H=>
   simp only;split
   ·exact SR.bind (mW _) fun w a b A e=>e▸Dm _ (bC A ⟨D,H⟩) _
   ·exact Ae ..
  |_=>exact gD _
 |string=>
  cases K with
  |string b=>
   simp only;split
   ·exact .pure (.int _ _)
   ·exact Ae ..
  |_=>exact gD _
 |_=>exact gD _
def VW(r:Rn)(x y:Option (Addr×TypeId)):=(x=none/\y=none)\/∃a a' t,x=some (a,t)/\y=some (a',t)/\Ad r a a'
theorem CF(h:r b=some b'):SR P VW r (viewAt b) (viewAt b'):=by
 refine SR.bind (p9 h) ?_;rintro s x _ l rfl;split
 ·exact .pure (.inl ⟨rfl,rfl⟩)
 ·refine SR.bind (oJ (l _ _ h)) ?_;intro u o o' _ Y;cases Y with
  |view t n a=>exact .pure (.inr ⟨_,_,_,rfl,rfl,a⟩)
  |_=>exact .pure (.inl ⟨rfl,rfl⟩)
theorem Hv(h:Ad r a a'):SR P ig r (noView a) (noView a'):=by
 refine SR.bind (CF h.block) ?_;rintro s x y l (⟨rfl,rfl⟩|⟨_,_,_,rfl,rfl,_⟩)
 ·exact .pure rfl
 ·exact il _
theorem vU(h:Ad r a a'):SR P ig r (byteOf a) (byteOf a'):=by
 unfold byteOf;rw[h.spot,h.off];dsimp only;split
 ·exact .pure rfl
 ·refine SR.bind mV ?_;rintro s p q l ⟨Y,K⟩;rw[Y,K];refine SR.bind (Hv (h.mono l)) ?_;rintro u _ _ H _;refine SR.bind (p9 ((h.mono l).mono H).block) ?_;rintro w x _ D rfl;split
  ·split
   ·exact .pure rfl
   ·split
    ·exact .pure rfl
    ·exact gD _
  ·exact gD _
theorem aaK(h:Ad r a a')(c b:Nat):SR P Ad r (partAt a c b) (partAt a' c b):=by
 refine SR.bind (vU h) ?_;rintro s x _ l rfl;have Y:Ad s {block:=a.block,off:=a.off+c} {block:=a'.block,off:=a'.off+c}:=⟨l _ _ h.block,by simp[h.off],rfl⟩;refine SR.bind (vU Y) ?_;rintro u y _ K rfl;split
 ·exact .pure (Y.mono K)
 ·exact .pure ⟨K _ _ Y.block,Y.off,rfl⟩
theorem Xp(h:Ad r a a')(f:Field):SR P Ad r (fieldPlace a f) (fieldPlace a' f):=by
 refine SR.bind (mW _) ?_;rintro s n _ l rfl;split
 ·exact aaK (h.mono l) _ _
 ·exact .pure ((h.mono l).add _)
theorem Zk(t:TypeId)(h:V r x x')(i:Nat):SR P V r (bY t x i) (bY t x' i):=by
 refine SR.bind (kv t) ?_;rintro s d _ l rfl;split
 ·split
  ·refine SR.bind (Ak (h.mono l)) fun u a b Y e=>?_;exact SR.bind (Xp e _) fun w a b _ e=>.pure (.ptr e)
  ·exact gD _
 ·exact gD _
theorem Nz(t Y:TypeId)(k:IntKind)(i:Int)(len:Nat)(h:Ad r a a')(f:TypeDesc->Bool):
  SR P V r (do let d<-underlying t;if 0<=i/\i<len then(do let n<-sizeOf Y;pure (Value.pointer (some (a.add (i.toNat *n)))))else if(decide (len<=1)&&f d)=true then unsupported (.noEntry "op/indexAddr.an index out of range at an array of length 0 or 1 (ledger 616)")else boundsPanic k i len .index)
   (do let d<-underlying t;if 0<=i/\i<len then(do let n<-sizeOf Y;pure (Value.pointer (some (a'.add (i.toNat *n)))))else if(decide (len<=1)&&f d)=true then unsupported (.noEntry "op/indexAddr.an index out of range at an array of length 0 or 1 (ledger 616)")else boundsPanic k i len .index):=by
 refine SR.bind (kv t) ?_;rintro s d _ l rfl;split
 ·refine SR.bind (mW _) ?_;rintro u n _ K rfl;exact .pure (.ptr (((h.mono l).mono K).add _))
 ·split
  ·exact il _
  ·exact Ae ..
theorem Zl(t:TypeId)(h:V r x x')(H:V r y y'):SR P V r (b_ t x y) (b_ t x' y'):=by
 refine SR.bind (Cw H) ?_;rintro s ⟨k,i⟩ _ l rfl;refine SR.bind (kv t) ?_;rintro u d _ D rfl;have K:=(h.mono l).mono D;cases d with
 |array len Y=>
  refine SR.bind (Ak K) fun w a b R e=>?_;exact Nz t _ k i len e _
 |slice Y=>
  cases K with
  |slice len cap e=>exact Nz t _ k i len e _
  |kW len cap=>
   show SR P V u (underlying t >>= fun _=>boundsPanic k i 0 _) _
   exact SR.bind (kv t) fun _ _ _ _ _=>Ae ..
  |_=>exact SR.lost fun _=>⟨_,_,rfl,.inr ⟨_,rfl⟩⟩
 |_=>exact SR.lost fun _=>⟨_,_,rfl,.inr ⟨_,rfl⟩⟩
theorem Xq(h:V r x x')(y:Nat)(c:BoundsCode):SR P ig r (aO x y c) (aO x' y c):=by
 refine SR.bind (Cw h) ?_;rintro s ⟨k,i⟩ _ l rfl;dsimp only;split
 ·exact .pure rfl
 ·exact Ae ..
inductive VO(r:Rn):Option Value->Option Value->Prop
 |none:VO r none none
 |some {x y:Value}:V r x y->VO r (some x) (some y)
theorem VO.mono{s:Rn}(h:Le r s){x y:Option _}(k:VO r x y):VO s x y:=by
 cases k with
 |none=>exact .none
 |some e=>exact .some (e.mono h)
theorem VO.isSome{x y:Option _}(k:VO r x y):y.isSome=x.isSome:=by cases k<;>rfl
theorem Af(b:Bool)(len cap:Nat){J D F H L R:Option _}(M:VO r J D)(C:VO r F H)(U:VO r L R):
  SR P ig r (cw b len cap J F L) (cw b len cap D H R):=by
 have step:∀{I:Type} {B:Rn->I->I->Prop} {s:Rn} {x x':Value} (l:Le r s) (h:V r x x') (y:Nat) (c:BoundsCode) {f f':Nat->Sem I},(∀t n,Le r t->SR P B t (f n) (f' n))->
   SR P B s (aO x y c >>= f) (aO x' y c >>= f'):=
  by
  intro I B s x x' l h y c f f' k;refine SR.bind (Xq (h.mono l) y c) fun t a b lt e=>?_;obtain rfl:a=b:=e;exact k t a (l.trans lt)
 cases M with
 |none=>cases C with
  |none=>cases U with
   |none=>exact .pure rfl
   |some Y=>exact step (.refl _) Y _ _ fun t n l=>SR.lost fun _=>⟨_,_,rfl,.inr ⟨_,rfl⟩⟩
  |some K=>cases U with
   |none=>exact step (.refl _) K _ _ fun t n l=>.pure rfl
   |some Y=>exact step (.refl _) Y _ _ fun t n l=>step l K _ _ fun t n l=>.pure rfl
 |some A=>cases C with
  |none=>cases U with
   |none=>exact step (.refl _) A _ _ fun t n l=>.pure rfl
   |some Y=>exact step (.refl _) Y _ _ fun t n l=>SR.lost fun _=>⟨_,_,rfl,.inr ⟨_,rfl⟩⟩
  |some K=>cases U with
   |none=>exact step (.refl _) K _ _ fun t n l=>step l A _ _ fun t n l=>.pure rfl
   |some Y=>exact step (.refl _) Y _ _ fun t n l=>step l K _ _ fun t n l=>step l A _ _ fun t n l=>.pure rfl
theorem acw(t:TypeId)(h:V r x x'){lo UG hi E0 mx UH:Option Value}(D:VO r lo UG)(R:VO r hi E0)(U:VO r mx UH):
  SR P V r (Instr.slice t x lo hi mx) (Instr.slice t x' UG E0 UH):=by
 refine SR.bind (kv t) ?_;rintro s d _ l rfl;have I:=h.mono l;cases d with
 |string=>
  cases I with
  |string b=>
   dsimp only;rw[U.isSome];split
   ·exact SR.lost fun _=>⟨_,_,rfl,.inr ⟨_,rfl⟩⟩
   ·refine SR.bind (Af _ _ _ (D.mono l) (R.mono l) .none) ?_;rintro u ⟨a,b,c⟩ _ Y rfl;exact .pure (.string _)
  |_=>exact gD _
 |slice H=>
  cases I with
  |slice len cap e=>
   refine SR.bind (Af _ _ _ (D.mono l) (R.mono l) (U.mono l)) ?_;rintro u ⟨a,b,c⟩ _ Y rfl;refine SR.bind (mW _) ?_;rintro w n _ K rfl;split
   ·exact .pure (.slice _ _ ((e.mono Y).mono K))
   ·exact .pure (.slice _ _ (((e.mono Y).mono K).add _))
  |kW len cap=>
   refine SR.bind (Af _ _ _ (D.mono l) (R.mono l) (U.mono l)) ?_;rintro u ⟨a,b,c⟩ _ Y rfl;refine SR.bind (mW _) ?_;rintro w n _ K rfl;split<;>exact .pure (.kW _ _)
  |_=>exact gD _
 |pointer arr=>
  refine SR.bind (O9 I) fun u a a' Y e=>?_;refine SR.bind (kv arr) ?_;rintro w d _ K rfl;cases d with
  |array n H=>
   refine SR.bind (Af _ _ _ (((D.mono l).mono Y).mono K) (((R.mono l).mono Y).mono K) (((U.mono l).mono Y).mono K)) ?_;rintro z ⟨a1,F,c1⟩ _ C rfl;refine SR.bind (mW _) ?_;rintro y n _ B rfl;have A:=((e.mono K).mono C).mono B;split
   ·exact .pure (.slice _ _ A)
   ·exact .pure (.slice _ _ (A.add _))
  |_=>exact gD _
 |_=>exact gD _
theorem Zm(t:TypeId)(h:V r x x'){L K J Y M H:Option _}(U:VO r L K)(C:VO r J Y)(F:VO r M H):
  SR P V r (cv t x L J M) (cv t x' K Y H):=by
 refine SR.bind (kv t) ?_;rintro s d _ l rfl;have A:=h.mono l;split
 ·rename_i n I;refine SR.bind (Ak A) fun u a a' D e=>?_;refine SR.bind (Af _ _ _ ((U.mono l).mono D) ((C.mono l).mono D) ((F.mono l).mono D)) ?_;rintro z ⟨a1,O,c1⟩ _ N rfl;refine SR.bind (mW _) ?_;rintro y n _ B rfl;have R:=(e.mono N).mono B;split
  ·exact .pure (.slice _ _ R)
  ·exact .pure (.slice _ _ (R.add _))
 ·exact acw t A (U.mono l) (C.mono l) (F.mono l)
end
section
variable[gB]{P:Program}{r:Rn}{α:Type}{A:Rn->α->α->Prop}
theorem VA.append{a a' b b':Array _}(h:VA r a a')(k:VA r b b'):VA r (a++b) (a'++b'):=by
 refine⟨by simp[h.size,k.size],fun i x x' e e'=>?_⟩;have K:=h.size;rw[Array.getElem?_append]at e e';rw[<-K]at e';split at e
 ·rename_i Y;rw[if_pos Y]at e';exact h.at_ i x x' e e'
 ·rename_i Y;rw[if_neg Y]at e';exact k.at_ _ x x' e e'
theorem VA.Ee{z Y:Array _}(h:VA r z Y)(n:Nat):VA r ((Array.range n).map (z[· %z.size]!)) ((Array.range n).map (Y[· %Y.size]!)):=by
 refine⟨by simp,fun i x x' e e'=>?_⟩;simp only[bG,Array.getElem?_range,bu]at e e';obtain⟨j,H,rfl⟩:=e;obtain⟨C,K,rfl⟩:=e';split at H
 ·rename_i I;rw[if_pos I]at K;obtain rfl:=Option.some.inj H;obtain rfl:=Option.some.inj K;have A:=h.size;by_cases U:z.size=0
  ·rw[getElem!_neg z _ (by omega),getElem!_neg Y _ (by omega)];exact .bool _
  have D:0<z.size:=by omega
  have R:i%z.size<z.size:=Nat.mod_lt _ D;have B:i%Y.size<Y.size:=Nat.mod_lt _ (A▸D);refine h.at_ (i%z.size) _ _ (by simp[R]) ?_;simp_all
 ·cases H
theorem VA.bytes(b:ByteArray):VA r (b.data.map fun b=>Value.int .u8 b.toNat) (b.data.map fun b=>Value.int .u8 b.toNat):=by
 refine⟨rfl,fun i x x' e e'=>?_⟩;obtain rfl:x=x':=Option.some.inj (e.symm.trans e');simp at e;obtain⟨_,_,rfl⟩:=e;exact .int _ _
theorem VA.rep(n:Nat)(h:V r x x'):VA r (bI n x) (bI n x'):=by
 refine⟨by simp,fun i y Y e e'=>?_⟩;simp[Array.getElem?_replicate]at e e';simp_all
theorem Yg{fn iT:Fn}(Y:qy r fn iT){a a' c c':Array _}(h:VA r a a')(k:VA r c c'):SR P V r (cg fn a c) (cg iT a' c'):=
 .pure (.func Y h.size h.at_ k.size k.at_)
theorem Zn(t:TypeId){x x':Option _}(h:VO r x x'):SR P V r (ck t x) (ck t x'):=by
 have fin:∀{s:Rn},SR P V s (newObj (.map #[] 0) >>= fun b=>pure (Value.map (some b))) (newObj (.map #[] 0) >>= fun b=>pure (Value.map (some b))):=by
  refine SR.bind (xd (.map 0 rfl fun i x x' e=>by simp)) fun _ _ _ _ e=>.pure (.map e)
 cases h with
 |none=>exact fin
 |some e=>
  refine SR.bind (kv t) ?_;rintro s d _ l rfl;cases d with
  |map key Y=>exact SR.bind (yF (e.mono l)) fun _ _ _ _ _=>fin
  |_=>exact SR.lost fun _=>⟨_,_,rfl,.inr ⟨_,rfl⟩⟩
theorem Ie(h:V r x x'):SR P ig r (aj x) (aj x'):=by
 cases h with
 |slice l c a=>exact .pure rfl
 |kW l c=>exact .pure rfl
 |string s=>exact .pure rfl
 |_=>exact gD _
theorem Ag(size n:Nat)(h:V r x x'):SR P VA r (ae size n x) (ae size n x'):=by
 cases h with
 |slice l c a=>exact GK _ a
 |kW l c=>exact .pure .nil
 |string s=>exact .pure (.bytes _)
 |_=>exact gD _
theorem Cq(Z:qQ P)(Y:TypeId)(b l c:Nat):
  SR P V r (do askRoom b;let n<-sizeOf Y;if c *n=0 then(do let zero<-pure #[];let a<-newRow Y ((Array.range (c *n)).map fun x=>zero[x%zero.size]!);pure (Value.slice (some a) l c))else(do let z<-zeroValue Y;let zero<-pure z.cells;let a<-newRow Y ((Array.range (c *n)).map fun x=>zero[x%zero.size]!);pure (Value.slice (some a) l c)))
   (do askRoom b;let n<-sizeOf Y;if c *n=0 then(do let zero<-pure #[];let a<-newRow Y ((Array.range (c *n)).map fun x=>zero[x%zero.size]!);pure (Value.slice (some a) l c))else(do let z<-zeroValue Y;let zero<-pure z.cells;let a<-newRow Y ((Array.range (c *n)).map fun x=>zero[x%zero.size]!);pure (Value.slice (some a) l c))):=by
 refine SR.bind (G_ b) fun s _ _ l1 _=>?_;refine SR.bind (mW _) ?_;rintro s n _ l2 rfl;split
 ·exact SR.bind (.pure .nil) fun _ _ _ _ e=>SR.bind (vT _ (VA.Ee e _)) fun _ _ _ _ e=>SR.pure (V.slice _ _ e)
 ·exact SR.bind (wX Z _) fun _ _ _ _ e=>SR.bind (.pure e.cells) fun _ _ _ _ e=>SR.bind (vT _ (VA.Ee e _)) fun _ _ _ _ e=>SR.pure (V.slice _ _ e)
theorem XQ(Z:qQ P)(t:TypeId)(h:V r x x')(K:V r y y'):SR P V r (bk t x y) (bk t x' y'):=by
 unfold bk;refine SR.bind (kv t) ?_;rintro s d _ l rfl;cases d with
 |slice Y=>
  refine SR.bind (yF (h.mono l)) ?_;rintro s1 a _ l1 rfl;refine SR.bind (yF ((K.mono l).mono l1)) ?_;rintro R b _ l2 rfl;refine SR.bind (ru Y) ?_;rintro I i _ D ⟨rfl,H⟩;dsimp only;split
  ·split
   ·exact SR.bind (A:=ig) (mq (e:=.error _) trivial) fun _ _ _ _ _=>Cq Z Y _ _ _
   ·split
    ·exact SR.bind (A:=ig) (mq (e:=.error _) trivial) fun _ _ _ _ _=>Cq Z Y _ _ _
    ·refine SR.bind (rB _) ?_;rintro U q _ l4 rfl;exact SR.bind (A:=ig) (mq (e:=.error _) trivial) fun _ _ _ _ _=>Cq Z Y _ _ _
  ·exact Cq Z Y _ _ _
 |_=>exact gD _
theorem aeA(D:Array _)(t:TypeId){a a':Array _}(h:VA r a a'):SR P V r (aX D t a) (aX D t a'):=by
 unfold aX;cases O:D[0]? with
 |none=>exact gD _
 |some A=>
  cases C:a[0]? with
  |none=>exact gD _
  |some x=>
   cases F:a[1]? with
   |none=>exact gD _
   |some y=>
    obtain⟨x',U,H⟩:=h.get C;obtain⟨I,B,R⟩:=h.get F;rw[U,B];refine SR.bind (kv A) ?_;rintro s d _ l rfl;cases d with
    |slice Y=>
     have H:=H.mono l;have go:∀{b b':Option _} (q:Nat),((b=none/\b'=none)\/∃c c',b=some c/\b'=some c'/\Ad s c c')->
       SR P V s (do let n<-aj y;let K<-sizeOf Y;let cells<-ae K (Nat.min n q) y;(match b with|some c=>storeCells c cells.toList >>= fun _=>pure (goInt (Nat.min n q))|none=>pure (goInt (Nat.min n q))))
        (do let n<-aj I;let K<-sizeOf Y;let cells<-ae K (Nat.min n q) I;(match b' with|some c=>storeCells c cells.toList >>= fun _=>pure (goInt (Nat.min n q))|none=>pure (goInt (Nat.min n q)))):=by
      intro b b' q J;refine SR.bind (Ie (R.mono l)) ?_;rintro s1 n _ l1 rfl;refine SR.bind (mW _) ?_;rintro Q K _ l2 rfl;refine SR.bind (Ag _ _ (((R.mono l).mono l1).mono l2)) fun S c c' N L=>?_;rcases J with⟨rfl,rfl⟩|⟨p,p',rfl,rfl,M⟩
      ·exact .pure (.int _ _)
      ·exact SR.bind (yj 0 (((M.mono l1).mono l2).mono N) L.toList) fun _ _ _ _ _=>.pure (.int _ _)
     cases H with
     |slice q c e=>exact go q (.inr ⟨_,_,rfl,rfl,e⟩)
     |kW q c=>exact go q (.inl ⟨rfl,rfl⟩)
     |_=>exact gD _
    |_=>exact gD _
theorem agQ(H:Array _)(t:TypeId){a a':Array _}(h:VA r a a'):SR P V r (aY H t a) (aY H t a'):=by
 unfold aY;cases F:H[0]? with
 |none=>exact gD _
 |some I=>
  cases U:a[0]? with
  |none=>exact gD _
  |some x=>
   obtain⟨x',A,Y⟩:=h.get U;rw[A];refine SR.bind (kv I) ?_;rintro s d _ l rfl;have Y:=Y.mono l;cases d with
   |string=>cases Y with
    |string b=>exact .pure (.int _ _)
    |_=>exact gD _
   |array n e=>exact .pure (.int _ _)
   |pointer arr=>
    refine SR.bind (kv arr) ?_;rintro u d _ R rfl;cases d with
    |array n e=>exact .pure (.int _ _)
    |_=>exact gD _
   |slice D=>cases Y with
    |slice q c e=>exact .pure (.int _ _)
    |kW q c=>exact .pure (.int _ _)
    |_=>exact gD _
   |map k e=>cases Y with
    |oM=>exact .pure (.int _ _)
    |map e=>
     refine SR.bind (oJ e) fun u o o' R K=>?_;cases K with
     |map C B J=>dsimp only;rw[B];exact .pure (.int _ _)
     |_=>exact gD _
    |_=>exact gD _
   |chan a e=>cases Y with
    |qd=>exact .pure (.int _ _)
    |chan e=>
     refine SR.bind (oJ e) fun u o o' R K=>?_;cases K<;>exact gD _
    |_=>exact gD _
   |_=>exact gD _
end
section
variable[gB]{P:Program}{r:Rn}{α:Type}{A:Rn->α->α->Prop}
theorem Si(op:BinOp)(k:IntKind)(a b:Int):SR P V r (bp op k a b) (bp op k a b):=by
 unfold bp;split<;>first|exact .pure (.int _ _)|exact gD _
theorem Sj(op:BinOp)(a b:Int):SR P V r (bq op a b) (bq op a b):=by
 unfold bq;split<;>first|exact .pure (.bool _)|exact gD _
theorem Jg(op:BinOp)(a b:ByteArray):SR P V r (ax op a b) (ax op a b):=by
 unfold ax;split
 ·split
  ·exact il _
  ·exact .pure (.string _)
 all_goals first|exact .pure (.bool _)|exact gD _
theorem Xr(z:∀b,¬gB.ro b)(t:TypeId)(s:ByteArray):SR P V r (bP t s) (bP t s):=by
 refine SR.bind (rB _) ?_;rintro u c _ l rfl;refine SR.bind (vT t ((VA.bytes s).append (.rep _ (.int _ _)))) fun u a a' l e=>?_;refine SR.bind (A:=ig) ?_ fun _ _ _ l _=>.pure (.slice _ _ (e.mono l));refine SR.bind (p9 e.block) ?_;rintro u x _ l rfl;split
 ·exact O7 z (a:=⟨a.block,_,none⟩) (a':=⟨a'.block,_,none⟩) ⟨l _ _ e.block,rfl,rfl⟩ _
 ·exact .pure rfl
def AO(r:Rn)(b b':Option _):=(b=none/\b'=none)\/∃a a',b=some a/\b'=some a'/\Ad r a a'
theorem AO.mono{s:Rn}(l:Le r s){b b':Option _}(h:AO r b b'):AO s b b':=by
 rcases h with h|⟨a,a',Y,K,H⟩
 ·exact .inl h
 ·exact .inr ⟨a,a',Y,K,H.mono l⟩
theorem AO.slice{b b':Option _}(h:AO r b b')(l c:Nat):V r (.slice b l c) (.slice b' l c):=by
 rcases h with⟨rfl,rfl⟩|⟨a,a',rfl,rfl,Y⟩
 ·exact .kW l c
 ·exact .slice l c Y
omit [gB]in
theorem NL(size K n:Nat)(b:Option Addr)(x:Value)(v:World):∃t,(aD size K n b x).run P v=.ok t v:=by
 have Y:∀(a:Addr) (m:Nat),∃t,(bM a m).run P v=.ok t v:=fun a m=>by
  unfold bM;simp only[bB,shape,Sem.run,bA];split<;>exact⟨_,rfl⟩
 unfold aD;cases b with
 |none=>
  simp only[bB,cH,bA,Bool.not_true,aB,if_false];split
  ·rename_i c _ _;obtain⟨t,e⟩:=Y c (n *size);simp_all
  ·simp
 |some a=>
  obtain⟨t,e⟩:=Y a (K *size);simp only[bB,e,frozen,Sem.run,cH,bA];split
  ·simp
  ·split
   ·rename_i c _ _;obtain⟨t,e⟩:=Y c (n *size);simp_all
   ·simp
theorem VA.tT{z Y:Array _}(h:VA r z Y)(n:Nat):VA r (au z n) (au Y n):=by
 unfold au;rw[<-h.size];have:=h.Ee (n *z.size);rw[<-h.size]at this;omega
theorem im{c:Prop}[Decidable c]{x x' y y':Sem α}(Y:c->SR P A r x x')(K:¬c->SR P A r y y'):SR P A r (if c then x else y) (if c then x' else y'):=by
 split
 ·simp_all
 ·simp_all
end
section
variable[gB]{P:Program}{r:Rn}{α:Type}{A:Rn->α->α->Prop}
theorem acx(h:V r x x'):(∃base Y n c,x=.slice base n c/\x'=.slice Y n c/\AO r base Y)\/∀b n c,x≠.slice b n c:=by
 cases h with
 |kW l c=>exact .inl ⟨none,none,l,c,rfl,rfl,.inl ⟨rfl,rfl⟩⟩
 |slice l c K=>exact .inl ⟨_,_,l,c,rfl,rfl,.inr ⟨_,_,rfl,rfl,K⟩⟩
 |_=>exact .inr fun _ _ _ e=>by cases e
theorem O_(Z:qQ P)(K:TypeId)(size D need H n:Nat)(C:V r x x')(F:V r y y'):
  SR P V r (do
    let Y<-choose (.appendCap need H K)
    askRoom (Y *(<-typeInfo K).bytes)
    let old<-ae size D x
    let new<-ae size n y
    let rest:=au (<-zeroValue K).cells (Y-need)
    pure (Value.slice (some (<-newRow K (old++new++rest))) need Y))
   (do
    let Y<-choose (.appendCap need H K)
    askRoom (Y *(<-typeInfo K).bytes)
    let old<-ae size D x'
    let new<-ae size n y'
    let rest:=au (<-zeroValue K).cells (Y-need)
    pure (Value.slice (some (<-newRow K (old++new++rest))) need Y)):=by
 refine SR.bind (rB _) ?_;rintro t1 M _ l1 rfl;refine SR.bind (ru _) ?_;rintro t2 i _ l2 ⟨rfl,_⟩;refine SR.bind (G_ _) ?_;rintro t3 _ _ R _;refine SR.bind (Ag _ _ (((C.mono l1).mono l2).mono R)) ?_;intro t4 o o' l4 U;refine SR.bind (Ag _ n ((((F.mono l1).mono l2).mono R).mono l4)) ?_;intro t5 c c' J A;refine SR.bind (wX Z _) ?_;intro N z Q l6 B;refine SR.bind (vT _ ((((U.mono J).append A).mono l6).append (B.cells.tT _))) ?_;intro O a a' L I;exact .pure (.slice _ _ I)
theorem Am{Y:Type}{s s':Sem Y}{f f':Y->Sem α}(h:SR P (fun _ _ _=>False) r s s'):SR P A r (s.bind f) (s'.bind f'):=SR.bind h fun _ _ _ _ e=>e.elim
theorem Sk{e:RuntimeError}(h:Qd e){Y:Type}:SR P (fun _ (_ _:Y)=>False) r (runtimePanic e) (runtimePanic e):=mq h
theorem mU(t:TypeId):SR P (fun _ d d'=>d=d'/\P.underlying t=some d) r (underlying t) (underlying t):=by
 refine SR.bind mV ?_;rintro s p q _ ⟨Y,K⟩;rw[Y,K];cases h:P.underlying t with
 |some i=>exact .pure ⟨rfl,rfl⟩
 |none=>exact gD _
theorem aaL(Z:qQ P)(N:Array TypeId)(t:TypeId)(p:∀O d,N[1]?=some O->P.underlying O=some d->∀k,d≠.int k){a a':Array Value}(h:VA r a a'):SR P V r (aV N t a) (aV N t a'):=by
 unfold aV;cases m:N[0]? with
 |none=>exact gD _
 |some sT=>
  cases G:a[0]? with
  |none=>rw[h.none G];exact gD _
  |some s=>
   obtain⟨s',f,q⟩:=h.get G;rw[f];cases W:a[1]? with
   |none=>rw[h.none W];exact gD _
   |some x=>
    obtain⟨x',g,u⟩:=h.get W;rw[g];simp only;refine SR.bind (kv sT) ?_;rintro t1 d _ l1 rfl;cases d with
    |slice Y=>
     simp only;rcases acx q with⟨base,Q,K,B,rfl,rfl,o⟩|U
     ·simp only;refine SR.bind (mW Y) ?_;rintro t2 size _ l2 rfl;have J:=(u.mono l1).mono l2;have F:=(o.mono l1).mono l2;cases hz:N[1]? with
      |none=>
       refine SR.bind (A:=fun _ z E=>z=false/\E=false) (.pure ⟨rfl,rfl⟩) ?_;rintro t3 _ _ L ⟨rfl,rfl⟩;have D:=J.mono L;have R:=F.mono L;change SR P V t3 (Sem.bind (aj x) _) (Sem.bind (aj x') _);refine SR.bind (Ie D) ?_;rintro t4 n _ l4 rfl;refine im (fun S=>?_) (fun S=>?_)
       ·change SR P V t4 (Sem.bind (ae size n x) _) (Sem.bind (ae size n x') _);refine SR.bind (Ag size n (D.mono l4)) ?_;intro t5 c c' I C;rcases R with⟨rfl,rfl⟩|⟨b,b',rfl,rfl,H⟩
        ·exact .pure (.kW _ _)
        ·refine SR.bind (yj 0 (((H.mono l4).mono I).add _) C.toList) ?_;rintro X _ _ l6 _;exact .pure (.slice _ _ (((H.mono l4).mono I).mono l6))
       ·change SR P V t4 (Sem.bind (typeInfo Y) _) (Sem.bind (typeInfo Y) _);refine SR.bind (ru Y) ?_;rintro t5 i _ I ⟨rfl,_⟩;refine im (fun _=>?_) (fun _=>?_)
        ·exact Am (Sk (e:=.error "growslice: len out of range") trivial)
        ·change SR P V t5 (Sem.bind (typeInfo Y) _) (Sem.bind (typeInfo Y) _);refine SR.bind (ru Y) ?_;rintro X j _ l6 ⟨rfl,_⟩;refine im (fun _=>?_) (fun _=>?_)
         ·refine .lost fun v=>?_;obtain⟨b,e⟩:=NL (P:=P) size K n base x v;change∃h v1,Sem.run P (Sem.bind (Sem.bind (aD size K n base x) _) _) v=.halt h v1/\rO h;rw[ai,ai,e];cases b
          ·exact⟨_,_,rfl,.inl ⟨_,rfl,rfl⟩⟩
          ·exact⟨_,_,rfl,.inl ⟨_,rfl,rfl⟩⟩
         ·exact O_ Z Y size K (K+n) B n ((AO.mono ((l4.trans I).trans l6) R).slice _ _) (((D.mono l4).mono I).mono l6)
      |some O=>
       refine SR.bind (mU O) ?_;rintro y d _ T ⟨rfl,hd⟩;refine SR.bind (A:=fun _ z E=>z=false/\E=false) (.pure ?_) ?_
       ·simp_all
       rintro t3 _ _ M ⟨rfl,rfl⟩;have L:=T.trans M;have D:=J.mono L;have R:=F.mono L;change SR P V t3 (Sem.bind (aj x) _) (Sem.bind (aj x') _);refine SR.bind (Ie D) ?_;rintro t4 n _ l4 rfl;refine im (fun S=>?_) (fun S=>?_)
       ·change SR P V t4 (Sem.bind (ae size n x) _) (Sem.bind (ae size n x') _);refine SR.bind (Ag size n (D.mono l4)) ?_;intro t5 c c' I C;rcases R with⟨rfl,rfl⟩|⟨b,b',rfl,rfl,H⟩
        ·exact .pure (.kW _ _)
        ·refine SR.bind (yj 0 (((H.mono l4).mono I).add _) C.toList) ?_;rintro X _ _ l6 _;exact .pure (.slice _ _ (((H.mono l4).mono I).mono l6))
       ·change SR P V t4 (Sem.bind (typeInfo Y) _) (Sem.bind (typeInfo Y) _);refine SR.bind (ru Y) ?_;rintro t5 i _ I ⟨rfl,_⟩;refine im (fun _=>?_) (fun _=>?_)
        ·exact Am (Sk (e:=.error "growslice: len out of range") trivial)
        ·change SR P V t5 (Sem.bind (typeInfo Y) _) (Sem.bind (typeInfo Y) _);refine SR.bind (ru Y) ?_;rintro X j _ l6 ⟨rfl,_⟩;refine im (fun _=>?_) (fun _=>?_)
         ·refine .lost fun v=>?_;obtain⟨b,e⟩:=NL (P:=P) size K n base x v;change∃h v1,Sem.run P (Sem.bind (Sem.bind (aD size K n base x) _) _) v=.halt h v1/\rO h;rw[ai,ai,e];cases b
          ·exact⟨_,_,rfl,.inl ⟨_,rfl,rfl⟩⟩
          ·exact⟨_,_,rfl,.inl ⟨_,rfl,rfl⟩⟩
         ·exact O_ Z Y size K (K+n) B n ((AO.mono ((l4.trans I).trans l6) R).slice _ _) (((D.mono l4).mono I).mono l6)
     ·cases q with
      |kW l c=>exact absurd rfl (U _ _ _)
      |slice l c w=>exact absurd rfl (U _ _ _)
      |_=>exact gD _
    |_=>exact gD _
end
section
variable[gB]{P:Program}{r:Rn}{α:Type}{A:Rn->α->α->Prop}
theorem Ri{Y γ:Type}(g:Y->Sem γ)(h:∀b t,SR P ig t (g b) (g b)):∀(l:List Y) r,SR P ig r (l.mapM g) (l.mapM g)
 |[],r=>by exact .pure rfl
 |b::l,r=>by
  rw[bm];refine SR.bind (h b r) ?_;rintro t x _ l1 rfl;refine SR.bind (Ri g h l t) ?_;rintro u xs _ l2 rfl;exact .pure rfl
theorem acy{Y γ:Type}(g:Y->Sem γ)(h:∀b t,SR P ig t (g b) (g b))(a:Array Y):SR P ig r (a.mapM g) (a.mapM g):=by
 rw[aT];refine SR.bind (Ri g h _ r) ?_;rintro t x _ l rfl;exact .pure rfl
inductive PL(r:Rn):List (Nat×Value)->List (Nat×Value)->Prop
 |nil:PL r [] []
 |cons (i:Nat) {x y:Value} {xs ys:List (Nat×Value)}:V r x y->PL r xs ys->PL r ((i,x)::xs) ((i,y)::ys)
theorem PL.mono{s:Rn}(h:Le r s){xs ys:List _}(k:PL r xs ys):PL s xs ys:=by
 induction k with
 |nil=>exact .nil
 |cons i x _ Y=>exact .cons i (x.mono h) Y
theorem Qe(off:Nat):∀{xs ys:List _} k {c c':Array _},VL r xs ys->VA r c c'->
  VA r ((xs.zipIdx k).foldl (fun cs p=>cs.setIfInBounds (off+p.2) p.1) c) ((ys.zipIdx k).foldl (fun cs p=>cs.setIfInBounds (off+p.2) p.1) c')
 |_,_,k,c,c',.nil,h=>h
 |_,_,k,c,c',.cons x xs,h=>by
  exact Qe off (k+1) xs (h.set _ x)
theorem CZ(place:Nat->Option _):∀{Y K:List _} {c c':Array _},PL r Y K->VA r c c'->
  (Instr.fill place c Y=none/\Instr.fill place c' K=none)\/∃d d',Instr.fill place c Y=some d/\Instr.fill place c' K=some d'/\VA r d d'
 |_,_,c,c',.nil,h=>.inr ⟨c,c',rfl,rfl,h⟩
 |_,_,c,c',.cons i H rest,h=>by
  unfold Instr.fill;cases place i with
  |none=>exact .inl ⟨rfl,rfl⟩
  |some p=>
   obtain⟨off,size⟩:=p;simp only;rw[<-H.cells.size,<-h.size];split
   ·simp
   ·refine CZ _ rest ?_;rw[<-az,<-az,bL,bL];exact Qe off 0 H.cells.toList h
theorem acz(Z:qQ P)(t:TypeId){U C:Array _}(h:PL r U.toList C.toList):SR P V r (Instr.build t U) (Instr.build t C):=by
 refine SR.bind (wX Z t) ?_;intro t1 z F l1 B;refine SR.bind (kv t) ?_;rintro t2 d _ l2 rfl;have I:=B.cells.mono l2;have A:=(h.mono l1).mono l2;cases d with
 |struct D=>
  refine SR.bind (acy _ (fun f u=>SR.bind (mW _) fun _ _ _ _ e=>e▸ .pure rfl) _) ?_;rintro t3 places _ H rfl;rcases CZ _ (A.mono H) (I.mono H)with⟨Y,K⟩|⟨d,d',Y,K,hd⟩
  ·rw[Y];exact gD _
  ·rw[Y,K];exact .pure (.Ec hd)
 |array len R=>
  refine SR.bind (mW _) ?_;rintro t3 size _ H rfl;rcases CZ _ (A.mono H) (I.mono H)with⟨Y,K⟩|⟨d,d',Y,K,hd⟩
  ·rw[Y];exact gD _
  ·rw[Y,K];exact .pure (.Ec hd)
 |_=>exact gD _
theorem Xs(Z:qQ P)(t:TypeId)(len:Nat){U C:Array _}(h:PL r U.toList C.toList):SR P V r (bV t len U) (bV t len C):=by
 refine SR.bind (kv t) ?_;rintro t1 d _ l1 rfl;cases d with
 |slice Y=>
  refine SR.bind (mW _) ?_;rintro t2 size _ l2 rfl;refine im (fun _=>Am (il _)) (fun _=>?_);have go:∀{t3:Rn} {z K:Array _},Le t2 t3->VA t3 z K->SR P V t3
    (match Instr.fill (fun i=>some (i *size,size)) ((Array.range (len *size)).map (z[· %z.size]!)) U.toList with
     |some cells=>do pure (Value.slice (some (<-newRow Y cells)) len len)
     |_=>stuck "buildSlice: a part of the wrong size")
    (match Instr.fill (fun i=>some (i *size,size)) ((Array.range (len *size)).map (K[· %K.size]!)) C.toList with
     |some cells=>do pure (Value.slice (some (<-newRow Y cells)) len len)
     |_=>stuck "buildSlice: a part of the wrong size"):=by
   intro t3 z K R D;rcases CZ _ (((h.mono l1).mono l2).mono R) (D.Ee _)with⟨H,I⟩|⟨d,d',H,I,hd⟩
   ·rw[H];exact gD _
   ·rw[H,I];exact SR.bind (vT _ hd) fun _ _ _ _ e=>.pure (.slice _ _ e)
  refine im (fun _=>?_) (fun _=>?_)
  ·exact go (.refl _) .nil
  ·refine SR.bind (wX Z _) ?_;intro t3 z K R D;exact go R D.cells
 |_=>exact gD _
def plainKey(d:TypeDesc):=(∃k,d=.int k)\/d=.string\/d=.bool
theorem NN(e:Bool)(t:TypeId)(v v':Value)(h:∀d,P.underlying t=some d->plainKey d):SR P ig r (aM e 10000 t v) (aM e 10000 t v'):=by
 refine SR.bind (mU t) ?_;rintro t1 d _ l1 ⟨rfl,hd⟩;rcases h d hd with⟨k,rfl⟩|rfl|rfl<;>exact .pure rfl
inductive Full:Value->Prop
 |int (k:IntKind) (n:Int):Full (.int k n)
 |string (s:ByteArray):Full (.string s)
 |bool (b:Bool):Full (.bool b)
 |ptr (a:Addr):Full (.pointer (some a))
def Met(k:Value)(es:List MapEntry)(i j:Nat):=Full k/\i<=j/\∃x,es[j-i]?=some x/\Full x.key
theorem Met.cons{es:List _}{j:Nat}(x:MapEntry)(h:Met k es (i+1) j):Met k (x::es) i j:=by
 obtain⟨Y,H,y,D,K⟩:=h;refine⟨Y,by omega,y,?_,K⟩;rw[show j-i=(j-(i+1))+1 by omega];simp_all
theorem NA{d:TypeDesc}{e:Value}{b:Bool}(h:ak d k e=some b):Full k/\Full e:=by
 unfold ak at h;split at h
 ·exact⟨.int _ _,.int _ _⟩
 ·exact⟨.string _,.string _⟩
 ·exact⟨.bool _,.bool _⟩
 ·cases h
def Blank(x:Value):=x=.tuple #[]
theorem Yh{d:TypeDesc}{e e':Value}(hd:plainKey d)(h:V r k k')(h':V r e e')(n:¬Blank k)(Y:¬Blank e):ak d k' e'=ak d k e:=by
 cases h with
 |blank _=>exact absurd rfl n
 |_=>
  cases h' with
  |blank _=>exact absurd rfl Y
  |_=>rcases hd with⟨j,rfl⟩|rfl|rfl<;>rfl
omit [gB]in
theorem Xt{d:TypeDesc}{e:Value}(h:Blank k\/Blank e):ak d k e=none:=by
 rcases h with h|h<;>(rw[h];cases d<;>first|rfl|(cases k<;>rfl))
omit [gB]in
theorem NP{e:Value}(hk:∀d,P.underlying t=some d->plainKey d)(h:Blank k\/Blank e)(v:World):∃x v1,(Op.equal t k e).run P v=.halt x v1/\rO x:=by
 unfold Op.equal ar;rw[show(10000:Nat)=9999+1 from rfl];unfold af underlying program;cases hd:P.underlying t with
 |none=>exact⟨.stuck "no such type",v,by simp[Sem.run,bind,Sem.bind,hd,stuck],.inr ⟨_,rfl⟩⟩
 |some d=>
  have key:∀{x:Sem Bool},(∃u,x=unsupported u/\Dz u=false)\/(∃y,x=stuck y)->∃z v1,x.run P v=.halt z v1/\rO z:=by
   rintro x (⟨u,rfl,Y⟩|⟨y,rfl⟩)
   ·exact⟨_,_,rfl,.inl ⟨_,rfl,Y⟩⟩
   ·exact⟨_,_,rfl,.inr ⟨_,rfl⟩⟩
  simp only[bind,Sem.bind,Sem.run,hd];rcases hk d hd with⟨j,rfl⟩|rfl|rfl<;>rcases h with h|h<;>rw[h]<;>(first|(cases k with|pointer a=>(cases a<;>exact key (by first|exact .inl ⟨_,rfl,rfl⟩|exact .inr ⟨_,rfl⟩))|_=>exact key (by first|exact .inl ⟨_,rfl,rfl⟩|exact .inr ⟨_,rfl⟩))|(cases e with|pointer a=>(cases a<;>exact key (by first|exact .inl ⟨_,rfl,rfl⟩|exact .inr ⟨_,rfl⟩))|_=>exact key (by first|exact .inl ⟨_,rfl,rfl⟩|exact .inr ⟨_,rfl⟩)))
omit [gB]in
theorem aaM{d:TypeDesc}{e:Value}{b:Bool}(hd:P.underlying t=some d)(h:ak d k e=some b)(v:World):(Op.equal t k e).run P v=.ok b v:=by
 unfold Op.equal ar;rw[show(10000:Nat)=9999+1 from rfl];unfold af underlying program;simp only[bind,Sem.bind,Sem.run,hd];unfold ak at h;split at h
 ·split at h
  ·rename_i hk;subst hk;rw[<-Option.some.inj h];simp[pure,Sem.bind]
  ·cases h
 ·rw[<-Option.some.inj h];rfl
 ·rw[<-Option.some.inj h];rfl
 ·cases h
inductive EL(r:Rn):List MapEntry->List MapEntry->Prop
 |nil:EL r [] []
 |cons {x y:MapEntry} {xs ys:List MapEntry}:En r x y->EL r xs ys->EL r (x::xs) (y::ys)
theorem EL.mono{s:Rn}(h:Le r s){xs ys:List _}(k:EL r xs ys):EL s xs ys:=by
 induction k with
 |nil=>exact .nil
 |cons x _ Y=>exact .cons (x.mono h) Y
def aiu(P:Program)(t:TypeId)(k:Value)(es:List MapEntry):Prop:=∀(i:Nat) (v:World),∃x v1,(bg t k es i).run P v=.halt x v1/\rO x
theorem NQ{d:TypeDesc}(D:P.underlying t=some d)(hd:plainKey d)(h:V r k k'):∀{es iD:List _} i,EL r es iD->
  (ah d k es i=none/\aiu P t k es)\/
  (ah d k es i=none/\ah d k' iD i=none)\/(ah d k es i=some none/\ah d k' iD i=some none)\/
   ∃j v v',ah d k es i=some (some (j,v))/\ah d k' iD i=some (some (j,v'))/\V r v v'/\Met k es i j
 |_,_,i,.nil=>.inr (.inr (.inl ⟨rfl,rfl⟩))
 |_,_,i,.cons (x:=x) (y:=y) R rest=>by
  have hk:∀d',P.underlying t=some d'->plainKey d':=fun d' e=>by simp_all
  by_cases Y:Blank k\/Blank x.key
  ·refine .inl ⟨by unfold ah;rw[Xt Y],fun j v=>?_⟩;obtain⟨z,v1,e,K⟩:=NP hk Y v;refine⟨z,v1,?_,K⟩;show(Sem.bind _ _).run P v=_
   rw[ai,e];rfl
  ·have n1:=fun z=>Y (.inl z);have n2:=fun z=>Y (.inr z);unfold ah;rw[Yh hd h R.key n1 n2];cases H:ak d k _ with
   |none=>exact .inr (.inl ⟨rfl,rfl⟩)
   |some b=>
    cases b with
    |true=>exact .inr (.inr (.inr ⟨i,x.val,y.val,rfl,rfl,R.val,(NA H).1,ao _,x,by simp,(NA H).2⟩))
    |false=>
     rcases NQ D hd h _ rest with⟨I,A⟩|q
     ·refine .inl ⟨I,fun j v=>?_⟩;obtain⟨z,v1,e,K⟩:=A _ v;refine⟨z,v1,?_,K⟩;show(Sem.bind _ _).run P v=_
      rw[ai,aaM D H v];exact e
     ·exact .inr (q.imp id (Or.imp id fun⟨j,v,v',a1,a2,a3,a4⟩=>⟨j,v,v',a1,a2,a3,a4.cons x⟩))
def NW(r:Rn)(x y:Option (Addr×Bool)):=(x=none/\y=none)\/∃a a' t,x=some (a,t)/\y=some (a',t)/\Ad r a a'
theorem NR(h:r b=some b'):SR P NW r (numberAt b) (numberAt b'):=by
 refine SR.bind (p9 h) ?_;rintro t x _ l rfl;split
 ·exact .pure (.inl ⟨rfl,rfl⟩)
 ·refine SR.bind (oJ (l _ _ h)) ?_;intro u o o' _ Y;cases Y with
  |number l a=>exact .pure (.inr ⟨_,_,_,rfl,rfl,a⟩)
  |_=>exact .pure (.inl ⟨rfl,rfl⟩)
theorem vV(h:Ad r a a'):SR P (fun s x y=>Ad s x.1 y.1/\x.2=y.2) r (behindNumber a) (behindNumber a'):=by
 refine SR.bind (NR h.block) ?_;rintro t x y l (⟨rfl,rfl⟩|⟨_,_,_,rfl,rfl,Y⟩)
 ·exact .pure ⟨h.mono l,rfl⟩
 ·exact .pure ⟨Y,rfl⟩
theorem Ad.eq_iff{b b':Addr}(h:Ad r a a')(k:Ad r b b'):(a'==b')=(a==b):=by
 rw[aU];simp;constructor
 ·intro e;have Y:=r.inj _ _ _ h.block (by rw[k.block,e]);have K:a.off=b.off:=by rw[<-h.off,<-k.off,e]
  have H:a.spot=b.spot:=by rw[<-h.spot,<-k.spot,e]
  obtain⟨x,y,z⟩:=a;simp_all
 ·intro e;have Y:=by have:=h.block;rw[e,k.block]at this;exact(Option.some.inj this).symm
  have K:a'.off=b'.off:=by rw[h.off,k.off,e]
  have H:a'.spot=b'.spot:=by rw[h.spot,k.spot,e]
  obtain⟨x,y,z⟩:=a';simp_all
theorem Ad.IJ{b b':Addr}(h:Ad r a a')(k:Ad r b b'):(a'.block==b'.block)=(a.block==b.block):=by
 rw[aU];simp;constructor
 ·exact fun e=>r.inj _ _ _ h.block (by rw[k.block,e])
 ·intro e;have:=h.block;rw[e,k.block]at this;simp_all
theorem Oy(L:gB.size=P.globals.size)(hk:∀d,P.underlying t=some d->plainKey d)(Q:V r x x')(S:V r y y')(D:Nat):SR P (fun _ b b'=>b=b'/\(b=true->Full x/\Full y)) r (af (D+1) t x y) (af (D+1) t x' y'):=by
 unfold af;refine SR.bind (mU t) ?_;rintro t1 d _ l1 ⟨rfl,hd⟩;have R:=Q.mono l1;have Y:=S.mono l1;rcases hk d hd with⟨k,rfl⟩|rfl|rfl
 ·cases R with
  |int j n1=>
   cases Y with
   |int T n2=>exact im (fun _=>.pure ⟨rfl,fun _=>⟨.int _ _,.int _ _⟩⟩) (fun _=>gD _)
   |ptr B=>
    by_cases I:n1=0
    ·subst I;exact .pure ⟨rfl,fun h=>by cases h⟩
    ·simp only;split<;>first|(exfalso;simp_all;done)|exact .pure ⟨rfl,fun h=>by cases h⟩|exact il _|exact gD _
   |nilPtr=>exact il _
   |_=>exact gD _
  |nilPtr=>cases Y<;>first|exact il _|exact gD _
  |ptr M=>
   cases Y with
   |int T n2=>
    by_cases I:n2=0
    ·subst I;exact .pure ⟨rfl,fun h=>by cases h⟩
    ·simp only;split<;>first|(exfalso;simp_all;done)|exact .pure ⟨rfl,fun h=>by cases h⟩|exact il _|exact gD _
   |ptr B=>
    simp only;refine SR.bind (vV M) ?_;rintro t2 ⟨a1,la⟩ ⟨a2,Z⟩ l2 ⟨A,_⟩;refine SR.bind (vV (B.mono l2)) ?_;rintro t3 ⟨G,z⟩ ⟨W,E⟩ X ⟨H,_⟩;have K:=A.mono X;simp only at K H;refine SR.bind mV ?_;rintro t4 p q l4 ⟨N,O⟩;rw[N,O];have F:=K.IJ H;have J:=K.eq_iff H;have U:=t3.ju _ _ K.block;rw[L]at U;simp only[F,J,decide_eq_decide.2 U.symm];refine im (fun _=>?_) (fun _=>?_)
    ·refine SR.bind (vU (K.mono l4)) ?_;rintro t5 u _ C rfl;refine SR.bind (vU ((H.mono l4).mono C)) ?_;rintro c v _ l6 rfl;exact .pure ⟨rfl,fun _=>⟨.ptr _,.ptr _⟩⟩
    ·refine SR.bind (ru t) ?_;rintro t5 i _ C ⟨rfl,_⟩;split
     ·exact im (fun _=>.pure ⟨rfl,fun _=>⟨.ptr _,.ptr _⟩⟩) (fun _=>il _)
     ·exact il _
   |_=>exact il _
  |_=>cases Y<;>first|exact il _|exact gD _
 ·cases R with
  |string a=>
   cases Y with
   |string b=>exact .pure ⟨rfl,fun _=>⟨.string _,.string _⟩⟩
   |_=>exact gD _
  |_=>exact gD _
 ·cases R with
  |bool a=>
   cases Y with
   |bool b=>exact .pure ⟨rfl,fun _=>⟨.bool _,.bool _⟩⟩
   |_=>exact gD _
  |_=>exact gD _
theorem Qf(Y:gB.size=P.globals.size)(hk:∀d,P.underlying t=some d->plainKey d)(K:V r x x')(H:V r y y'):SR P (fun _ b b'=>b=b'/\(b=true->Full x/\Full y)) r (Op.equal t x y) (Op.equal t x' y'):=Oy Y hk K H 9999
theorem Nk(Y:gB.size=P.globals.size)(hk:∀d,P.underlying t=some d->plainKey d):∀{es iD:List _} i {r:Rn},V r k k'->EL r es iD->
  SR P (fun r o o'=>(o=none/\o'=none)\/∃j v v',o=some (j,v)/\o'=some (j,v')/\V r v v'/\Met k es i j) r (bg t k es i) (bg t k' iD i)
 |_,_,i,r,h,.nil=>.pure (.inl ⟨rfl,rfl⟩)
 |_,_,i,r,h,.cons D rest=>by
  refine SR.bind (Qf Y hk h D.key) ?_;rintro t1 b _ l1 ⟨rfl,H⟩;refine im (fun K=>.pure (.inr ⟨i,_,_,rfl,rfl,D.val.mono l1,(H K).1,ao _,_,by simp,(H K).2⟩)) (fun _=>?_);exact(Nk Y hk _ (h.mono l1) (rest.mono l1)).imp fun t a a' _ R=>R.imp id fun⟨j,v,v',a1,a2,a3,a4⟩=>⟨j,v,v',a1,a2,a3,a4.cons _⟩
theorem Oz(D:gB.size=P.globals.size)(hk:∀d,P.underlying t=some d->plainKey d)(h:V r k k'){es iD:List _}(H:EL r es iD):
  SR P (fun r o o'=>(o=none/\o'=none)\/∃j v v',o=some (j,v)/\o'=some (j,v')/\V r v v'/\Met k es 0 j) r (aN t k es) (aN t k' iD):=by
 refine SR.bind (mU t) ?_;rintro t1 d _ l1 ⟨rfl,hd⟩;rcases NQ hd (hk d hd) (h.mono l1) 0 (H.mono l1)with⟨Y,K⟩|⟨Y,K⟩|⟨Y,K⟩|⟨j,v,v',Y,K,I,R⟩
 ·rw[Y];exact .lost fun v=>K 0 v
 ·rw[Y,K];exact Nk D hk 0 (h.mono l1) (H.mono l1)
 ·rw[Y,K];exact .pure (.inl ⟨rfl,rfl⟩)
 ·rw[Y,K];exact .pure (.inr ⟨j,v,v',rfl,rfl,I,R⟩)
structure EA(r:Rn)(es iD:Array MapEntry):Prop where
 size:es.size=iD.size
 at_:∀(i:Nat) x x',es[i]?=some x->iD[i]?=some x'->En r x x'
theorem EA.mono{s:Rn}(h:Le r s){es iD:Array _}(k:EA r es iD):EA s es iD:=⟨k.size,fun i x x' e e'=>(k.at_ i x x' e e').mono h⟩
theorem EA.toList{c c':Array _}(h:EA r c c'):EL r c.toList c'.toList:=by
 obtain⟨c⟩:=c;obtain⟨c'⟩:=c';obtain⟨Y,K⟩:=h;induction c generalizing c' with
 |nil=>cases c' with
  |nil=>exact .nil
  |cons y ys=>simp at Y
 |cons x xs H=>cases c' with
  |nil=>simp at Y
  |cons y ys=>exact .cons (K 0 x y rfl rfl) (H ys (by simpa using Y) fun i a b e e'=>K (i+1) a b (by simpa using e) (by simpa using e'))
theorem EL.toArray{xs ys:List _}(h:EL r xs ys):EA r xs.toArray ys.toArray:=by
 induction h with
 |nil=>exact⟨rfl,fun i x x' e=>by simp⟩
 |cons x _ H=>
  obtain⟨K,Y⟩:=H;simp at K Y;refine⟨by simp_all,fun i a b e e'=>?_⟩;simp at e e';cases i with
  |zero=>simp at e e';simp_all
  |succ i=>exact Y i a b e e'
theorem EA.push{c c':Array _}(h:EA r c c'){x x':MapEntry}(D:En r x x'):EA r (c.push x) (c'.push x'):=by
 refine⟨by simp[h.size],fun i y H e e'=>?_⟩;have K:=h.size;rw[bH]at e e';rw[<-K]at e';split at e
 ·simp_all
 ·rename_i Y;rw[if_neg Y]at e';exact h.at_ i y H e e'
theorem EA.get{c c':Array _}(h:EA r c c'){x:MapEntry}(e:c[i]?=some x):∃x',c'[i]?=some x'/\En r x x':=by
 obtain⟨Y,_⟩:=Array.getElem?_eq_some_iff.1 e;have K:=h.size▸Y;exact⟨c'[i],by simp,h.at_ i x _ e (by simp)⟩
theorem EA.none{c c':Array _}(h:EA r c c')(e:c[i]?=none):c'[i]?=none:=by
 simp at e⊢;have:=h.size;omega
theorem EA.modify{c c':Array _}(h:EA r c c')(i:Nat)(f f':MapEntry->MapEntry)(H:∀x x',En r x x'->En r (f x) (f' x')):EA r (c.modify i f) (c'.modify i f'):=by
 refine⟨by simp[h.size],fun j y R e e'=>?_⟩;rw[Array.getElem?_modify]at e e';by_cases Y:i=j
 ·rw[if_pos Y]at e e';obtain⟨x,D,rfl⟩:=bu.1 e;obtain⟨x',K,rfl⟩:=bu.1 e';exact H x x' (h.at_ j x x' D K)
 ·rw[if_neg Y]at e e';exact h.at_ j y R e e'
theorem O.mapOf{c c':Array _}(h:EA r c c')(n:Nat):O r (.map c n) (.map c' n):=.map n h.size h.at_
theorem aaN(Z:qQ P)(U:gB.size=P.globals.size)(J:∀k e,P.underlying t=some (.map k e)->∀d,P.underlying k=some d->plainKey d)(L:V r x x')(M:V r y y')(ok:Bool):
  SR P V r (bj t x y ok) (bj t x' y' ok):=by
 unfold bj;refine SR.bind (mU t) ?_;rintro t1 d _ l1 ⟨rfl,hd⟩;cases d with
 |map key K=>
  have hk:=J key K hd;simp only;have tail:∀{s:Rn} {es iD:Array MapEntry},Le t1 s->EA s es iD->SR P V s
    (do
      aM es.isEmpty 10000 key y
      let o<-aN key y es.toList
      match o with
       |some (_,v)=>(do let(v,Y)<-pure (v,true);pure (if ok=true then ay #[v,.bool Y]else v))
       |none=>(do let z<-zeroValue K;let(v,Y)<-pure (z,false);pure (if ok=true then ay #[v,.bool Y]else v)))
    (do
      aM iD.isEmpty 10000 key y'
      let o<-aN key y' iD.toList
      match o with
       |some (_,v)=>(do let(v,Y)<-pure (v,true);pure (if ok=true then ay #[v,.bool Y]else v))
       |none=>(do let z<-zeroValue K;let(v,Y)<-pure (z,false);pure (if ok=true then ay #[v,.bool Y]else v))):=by
   intro s es iD l R;have H:iD.isEmpty=es.isEmpty:=by
    have:=R.size;rw[aU];simp[Array.isEmpty,this]
   rw[H];refine SR.bind (NN _ _ _ _ hk) ?_;rintro t2 _ _ l2 _;refine SR.bind (Oz U hk (((M.mono l1).mono l).mono l2) (R.mono l2).toList) ?_;rintro t3 o o' O (⟨rfl,rfl⟩|⟨j,v,v',rfl,rfl,I,_⟩)
   ·refine SR.bind (wX Z K) ?_;intro t4 z Q l4 A;cases ok
    ·exact .pure A
    ·exact .pure (.sc (.two A (.bool _)))
   ·cases ok
    ·exact .pure I
    ·exact .pure (.sc (.two I (.bool _)))
  have D:=L.mono l1;cases D with
  |oM=>exact tail (.refl _) ⟨rfl,fun i x x' e=>by simp at e⟩
  |map e=>
   refine SR.bind (oJ e) ?_;intro t2 o o' l2 C;cases C with
   |map N F B=>exact tail l2 ⟨F,B⟩
   |_=>exact gD _
  |_=>exact gD _
 |_=>exact gD _
end
section
variable[gB]{P:Program}{r:Rn}{α:Type}{A:Rn->α->α->Prop}
theorem XR{a a' b b':Value}(Y:Full a)(K:Full b)(h:V r a a')(k:V r b b'):cu n a' b'=cu n a b:=by
 have ptr:∀{a a' b b':Addr},Ad r a a'->Ad r b b'->((some a')==some b')=(some a==some b):=fun h k=>by
  have:=h.eq_iff k;simp_all
 cases Y<;>cases h<;>cases K<;>cases k<;>cases n<;>first|rfl|(exact ptr (by omega) (by omega))
theorem Yi{a a' b b':Value}(K:Full a)(H:Full b)(h:V r a a')(k:V r b b'):SR P V r (bh a b) (bh a' b'):=by
 unfold bh;rw[XR K H h k];refine im (fun _=>.pure k) (fun _=>?_);refine SR.bind (rB _) ?_;rintro t n _ l rfl;by_cases Y:n=0
 ·simp[Y];exact .pure (k.mono l)
 ·simp[Y];exact .pure (h.mono l)
theorem XS(Q:gB.size=P.globals.size)(Z:∀k e,P.underlying t=some (.map k e)->∀d,P.underlying k=some d->plainKey d){z z':Value}(E:V r x x')(G:V r y y')(N:V r z z'):
  SR P ig r (cm t x y z) (cm t x' y' z'):=by
 refine SR.bind (mU t) ?_;rintro t1 d _ l1 ⟨rfl,hd⟩;cases d with
 |map key L=>
  have hk:=Z key _ hd;have A:=E.mono l1;cases A with
  |oM=>exact mq trivial
  |map e=>
   refine SR.bind (oJ e) ?_;intro t2 o o' l2 T;cases T with
   |map J X S=>
    rename_i es iD;have H:EA t2 es iD:=⟨X,S⟩;refine SR.bind (NN _ _ _ _ hk) ?_;rintro t3 _ _ Y _;have K:=((G.mono l1).mono l2).mono Y;refine SR.bind (Oz Q hk K (H.mono Y).toList) ?_;rintro t4 o o' l4 (⟨rfl,rfl⟩|⟨j,v,v',rfl,rfl,c,O,_,xm,B,fx⟩)
    ·exact uH (((l2.trans Y).trans l4) _ _ e) (.mapOf (((H.mono Y).mono l4).push (x:={key:=y,val:=z,born:=J}) (x':={key:=y',val:=z',born:=J}) ⟨K.mono l4,N.mono (((l1.trans l2).trans Y).trans l4),rfl⟩) _)
    ·simp only;have M:=by simpa using B
     obtain⟨q,D,U⟩:=H.get M;rw[M,D];refine SR.bind (Yi fx O ((U.key.mono Y).mono l4) (K.mono l4)) ?_;intro t5 W C F R;exact uH ((((l2.trans Y).trans l4).trans F) _ _ e) (.mapOf ((((H.mono Y).mono l4).mono F).modify j (fun e=>{e with key:=W,val:=z}) (fun e=>{e with key:=C,val:=z'}) fun x x' I=>⟨R,N.mono ((((l1.trans l2).trans Y).trans l4).trans F),I.born⟩) _)
   |_=>exact gD _
  |_=>exact gD _
 |_=>exact gD _
theorem acA(t:TypeId)(D:V r x x'):SR P V r (Instr.range t x) (Instr.range t x'):=by
 refine SR.bind (kv t) ?_;rintro t1 d _ l1 rfl;have fin:∀{s:Rn} {o o':Obj},O s o o'->SR P V s (do pure (Value.pointer (some ⟨<-newObj o,0,none⟩))) (do pure (Value.pointer (some ⟨<-newObj o',0,none⟩))):=fun K=>
  SR.bind (xd K) fun s b b' _ e=>.pure (.ptr ⟨e,rfl,rfl⟩)
 have Y:=D.mono l1;cases d with
 |string=>
  cases Y with
  |string s=>exact fin (.stringIter s 0)
  |_=>exact gD _
 |map k e=>
  cases Y with
  |oM=>exact fin (.qF _ _ _)
  |map H=>
   refine SR.bind (oJ H) ?_;intro t2 o o' l2 K;cases K with
   |map R A I=>exact fin (.mapIter _ _ _ (l2 _ _ H))
   |_=>exact gD _
  |_=>exact gD _
 |_=>exact gD _
theorem EL.filter{xs ys:List _}(h:EL r xs ys)(f:MapEntry->Bool)(Y:∀x y,En r x y->f y=f x):EL r (xs.filter f) (ys.filter f):=by
 induction h with
 |nil=>exact .nil
 |cons x _ K=>
  rw[cC,cC,Y _ _ x];split
  ·exact .cons x K
  ·omega
theorem EA.filter{c c':Array _}(h:EA r c c')(f:MapEntry->Bool)(Y:∀x y,En r x y->f y=f x):EA r (c.filter f) (c'.filter f):=by
 have:=(h.toList.filter f Y).toArray;rw[<-bK,<-bK,aA,aA]at this;omega
theorem EA.append{a a' b b':Array _}(h:EA r a a')(k:EA r b b'):EA r (a++b) (a'++b'):=by
 have app:∀{xs ys us Y:List _},EL r xs ys->EL r us Y->EL r (xs++us) (ys++Y):=fun h k=>by
  induction h with
  |nil=>exact k
  |cons x _ K=>exact .cons x K
 have:=(app h.toList k.toList).toArray;rw[<-bJ,<-bJ,aA,aA]at this;omega
theorem EA.all{c c':Array _}(h:EA r c c')(f:MapEntry->Bool)(Y:∀x y,En r x y->f y=f x):c'.all f=c.all f:=by
 have key:∀{xs ys:List _},EL r xs ys->ys.all f=xs.all f:=fun h=>by
  induction h with
  |nil=>rfl
  |cons x _ K=>simp;rw[Y _ _ x,K]
 have:=key h.toList;simp_all
theorem EA.isEmpty{c c':Array _}(h:EA r c c'):c'.isEmpty=c.isEmpty:=by
 have:=h.size;simp[Array.isEmpty,this]
theorem acB{c c':Array _}(h:EA r c c')(b:Bool):((if b=true then#[none]else#[])++c'.map some).size=((if b=true then#[none]else#[])++c.map some).size/\
  ∀i:Nat,(((if b=true then#[none]else#[])++c.map some)[i]?=none/\((if b=true then#[none]else#[])++c'.map some)[i]?=none)\/(((if b=true then#[none]else#[])++c.map some)[i]?=some none/\((if b=true then#[none]else#[])++c'.map some)[i]?=some none)\/
   ∃e e',((if b=true then#[none]else#[])++c.map some)[i]?=some (some e)/\((if b=true then#[none]else#[])++c'.map some)[i]?=some (some e')/\En r e e':=by
 have Y:=h.size;have one:∀i:Nat,((c.map some)[i]?=none/\(c'.map some)[i]?=none)\/∃e e',(c.map some)[i]?=some (some e)/\(c'.map some)[i]?=some (some e')/\En r e e':=by
  intro i;simp;cases D:c[i]? with
  |none=>left;simp_all
  |some x=>obtain⟨x',e',R⟩:=h.get D;simp_all
 cases b with
 |false=>
  simp only[aB,if_false,Array.empty_append];exact⟨by simp[Y],fun i=>(one i).imp id .inr⟩
 |true=>
  simp only[if_true];refine⟨by simp[Y],fun i=>?_⟩;cases i with
  |zero=>exact .inr (.inl ⟨by rw[bE (by simp)];rfl,by rw[bE (by simp)];rfl⟩)
  |succ i=>
   have K:(#[none]++c.map _)[i+1]?=(c.map some)[i]?:=bF (by simp);have H:(#[none]++c'.map some)[i+1]?=(c'.map _)[i]?:=bF (by simp);rw[K,H];exact(one i).imp id .inr
theorem aeB(X:V r x x')(b:Bool)(t:TypeId):SR P V r (Instr.next x b t) (Instr.next x' b t):=by
 cases X with
 |ptr Q=>
  rename_i a a';obtain⟨ab,Z,aqY⟩:=a;obtain⟨M,B,N⟩:=a';obtain⟨C,O,E⟩:=Q;subst O;cases B with
  |zero=>
   refine SR.bind (oJ C) ?_;intro t1 o o' l1 J;cases J with
   |stringIter s p=>
    cases b with
    |true=>
     refine im (fun _=>?_) (fun _=>.pure (.sc (.one (.bool _))));refine SR.bind (uH (l1 _ _ C) (.stringIter _ _)) ?_;rintro t2 _ _ l2 _;exact .pure (.sc (.three (.bool _) (.int _ _) (.int _ _)))
    |false=>exact gD _
   |qF a s n=>
    cases b with
    |true=>exact gD _
    |false=>exact .pure (.sc (.one (.bool _)))
   |mapIter since seen last L=>
    cases b with
    |true=>exact gD _
    |false=>
     refine SR.bind (oJ L) ?_;intro t2 o o' l2 J;cases J with
     |map clock T S=>
      rename_i es iD;have F:EA t2 es iD:=⟨T,S⟩;simp only;rw[F.isEmpty,F.all _ fun x y h=>by rw[h.born]];refine im (fun _=>Am (il _)) (fun _=>?_);have Y:=F.filter (fun e=>!seen.contains e.born) fun x y h=>by rw[h.born]
      have K:=Y.filter (fun e=>decide (e.born<since)) fun x y h=>by rw[h.born]
      have I:=Y.filter (fun e=>decide (e.born>=since)) fun x y h=>by rw[h.born]
      have R:=K.append I;rw[K.isEmpty];obtain⟨c1,c2⟩:=acB R _;rw[c1];refine SR.bind (rB _) ?_;rintro t3 i _ U rfl;rcases c2 i with⟨D,A⟩|⟨D,A⟩|⟨e,e',D,A,H⟩
      ·rw[D];exact gD _
      ·rw[D,A];exact .pure (.sc (.one (.bool _)))
      ·rw[D,A];simp only;rw[H.born];refine SR.bind (uH (((l1.trans l2).trans U) _ _ C) (.mapIter _ _ _ ((l2.trans U) _ _ L))) ?_;rintro t4 _ _ l4 _;exact .pure (.sc (.three (.bool _) ((H.key.mono U).mono l4) ((H.val.mono U).mono l4)))
     |_=>exact gD _
   |_=>exact gD _
  |succ n=>exact gD _
 |_=>exact gD _
theorem agR{c c':Array _}(h:EA r c c')(f:MapEntry->Bool)(Y:∀x y,En r x y->f y=f x):(c.find? f=none/\c'.find? f=none)\/∃e e',c.find? f=some e/\c'.find? f=some e'/\En r e e':=by
 have key:∀{xs ys:List _},EL r xs ys->(xs.find? f=none/\ys.find? f=none)\/∃e e',xs.find? f=some e/\ys.find? f=some e'/\En r e e':=fun h=>by
  induction h with
  |nil=>exact .inl ⟨rfl,rfl⟩
  |cons x _ K=>
   simp only[List.find?_cons];rw[Y _ _ x];split
   ·simp_all
   ·omega
 have:=key h.toList;simp_all
theorem acC(O:V r x x'):SR P V r (Instr.entry x) (Instr.entry x'):=by
 cases O with
 |ptr J=>
  rename_i a a';obtain⟨ab,Q,aqY⟩:=a;obtain⟨A,H,U⟩:=a';obtain⟨C,F,S⟩:=J;subst F;cases H with
  |zero=>
   refine SR.bind (oJ C) ?_;intro t1 o o' l1 R;cases R with
   |mapIter since seen last B=>
    simp only;split
    ·refine SR.bind (oJ B) ?_;intro t2 o o' l2 R;cases R with
     |map clock N M=>
      rename_i es iD;have L:EA t2 es iD:=⟨N,M⟩;refine im (fun _=>Am (il _)) (fun _=>?_);rename_i Y _ _;rcases agR L (fun e=>e.born==Y) (fun x y h=>by rw[h.born])with⟨D,I⟩|⟨e,e',D,I,K⟩
      ·rw[D];exact il _
      ·rw[D,I];exact .pure (.sc (.two K.key K.val))
     |_=>exact gD _
    ·exact gD _
   |_=>exact gD _
  |succ n=>exact gD _
 |_=>exact gD _
theorem Xu(Z:qQ P)(U:V r x x')(H a:TypeId)(D:∀ms,P.underlying a≠some (.interface ms)):SR P V r (cB x H a true) (cB x' H a true):=by
 refine SR.bind (mU a) ?_;rintro t1 d _ l1 ⟨rfl,hd⟩;have Y:∀{s:Rn},SR P V s (do pure (ay #[<-zeroValue a,.bool false])) _:=fun{s}=>
  SR.bind (wX Z a) fun _ _ _ _ e=>.pure (.sc (.two e (.bool _)))
 have K:=U.mono l1;cases d with
 |interface ms=>exact absurd hd (D ms)
 |_=>
  cases K with
  |nilIface=>exact Y
  |iface t R=>
   refine im (fun _=>.pure (.sc (.two R (.bool _)))) (fun _=>Y)
  |_=>exact gD _
theorem Yj:SR P A r (runtimePanic .panicNil) (runtimePanic .panicNil):=by
 refine SR.bind mV ?_;rintro s p q _ ⟨K,H⟩;rw[K,H];refine SR.bind (Ht _) ?_;rintro t1 e _ l1 rfl;refine SR.bind (Hu e (.Ec (VA.nil))) ?_;intro t2 a a' l2 Y;exact wj (.iface _ (.ptr Y))
theorem Zo(D:V r x x'):SR P V r (Instr.panic x) (Instr.panic x'):=by
 cases D with
 |iface t H=>exact wj (.iface t H)
 |nilIface=>
  have q:SR P ig r cn cn:=by
   refine SR.bind (.env fun _ _ _=>.pure rfl) ?_;rintro t1 x _ l1 rfl;split
   ·refine SR.bind mV ?_;rintro t2 p q l2 ⟨Y,K⟩;rw[Y,K];exact .pure rfl
   ·exact gD _
  refine SR.bind q ?_;rintro t1 n _ l1 rfl;exact im (fun _=>wj .nilIface) (fun _=>Yj)
 |_=>exact gD _
end
section
variable[gB]{P:Program}{r:Rn}{α:Type}{A:Rn->α->α->Prop}
theorem Zp(op:BinOp)(k:IntKind)(a b:Int):SR P V r (Op.intBits op k a b) (Op.intBits op k a b):=by
 cases op<;>first|exact .pure (.int _ _)|exact gD _
theorem aaO(op:BinOp)(k:IntKind)(a b:Int):SR P V r (br op k a b) (br op k a b):=by
 unfold br;split
 ·exact mq trivial
 ·cases op<;>first|exact .pure (.int _ _)|exact gD _
theorem Qg(op:BinOp)(k:IntKind)(a:Int)(j:IntKind)(b:Int):SR P V r (bt op k a j b) (bt op k a j b):=by
 unfold bt;split
 ·exact mq trivial
 ·cases op<;>first|exact .pure (.int _ _)|exact gD _
theorem acD(op:UnOp)(h:V r x x'):SR P V r (Op.unary op x) (Op.unary op x'):=by
 cases h<;>cases op<;>first|exact Si _ _ _ _|exact .pure (.int _ _)|exact .pure (.bool _)|exact il _|exact gD _
theorem NB(t:TypeId)(h:Ad r a a')(D:V r y y'):SR P (fun s x x'=>∃b b',x=.pointer (some b)/\x'=.pointer (some b')/\Ad s b b') r (aI #[] t #[.pointer (some a),y]) (aI #[] t #[.pointer (some a'),y']):=by
 refine SR.bind (yF D) ?_;rintro t1 n _ l1 rfl;have Y:=h.mono l1;refine im (fun _=>?_) (fun _=>?_)
 ·refine SR.bind (CF Y.block) ?_;rintro t2 x y l2 (⟨rfl,rfl⟩|⟨_,_,_,rfl,rfl,_⟩)
  ·exact .pure ⟨_,_,rfl,rfl,Y.mono l2⟩
  ·exact il _
 ·refine im (fun _=>?_) (fun _=>?_)
  ·exact il _
  ·refine SR.bind (p9 Y.block) ?_;rintro t2 x _ l2 rfl;split
   ·refine SR.bind mV ?_;rintro t3 p q R ⟨K,H⟩;rw[K,H,Y.off];split
    ·exact .pure ⟨_,_,rfl,rfl,⟨(l2.trans R) _ _ Y.block,rfl,Y.spot⟩⟩
    ·exact il _
   ·exact il _
theorem Yk(h:Ad r a a')(b:Bool):SR P V r (asNumber a b) (asNumber a' b):=by
 exact SR.bind (xd (.number b h)) fun s x x' l e=>.pure (.ptr ⟨e,rfl,rfl⟩)
theorem Pa(t:TypeId)(Y:V r y y'):SR P (fun _ _ _=>False) r (aI #[] t #[.pointer none,y]) (aI #[] t #[.pointer none,y']):=by
 refine SR.bind (yF Y) ?_;rintro t1 n _ l1 rfl;refine im (fun _=>?_) (fun _=>?_)
 ·exact il _
 ·refine im (fun _=>?_) (fun _=>?_)
  ·exact il _
  ·exact il _
theorem yi(t:TypeId)(U:V r x x')(C:V r y y')(h:(∃a,x=.pointer a)):SR P V r (movedNumber t x y) (movedNumber t x' y'):=by
 refine SR.bind (kv t) ?_;rintro t1 d _ l1 rfl;refine im (fun _=>?_) (fun _=>?_)
 ·exact il _
 have H:=U.mono l1;have Y:=C.mono l1;obtain⟨a,rfl⟩:=h;cases H with
 |nilPtr=>exact(Pa t Y).imp fun _ _ _ _ h=>h.elim
 |ptr D=>
  refine SR.bind (vV D) ?_;rintro t3 ⟨a1,A⟩ ⟨a2,B⟩ I ⟨K,e⟩;subst e;refine SR.bind (NB t K (Y.mono I)) ?_;rintro t4 _ _ l4 ⟨b,b',rfl,rfl,R⟩;exact Yk R _
theorem M5(t:TypeId)(D:V r x x')(K:V r y y')(h:(∃a,x=.pointer a)):SR P V r (movedPointer t x y) (movedPointer t x' y'):=by
 obtain⟨a,rfl⟩:=h;cases D with
 |nilPtr=>exact(Pa t K).imp fun _ _ _ _ h=>h.elim
 |ptr Y=>
  refine SR.bind (NR Y.block) ?_;rintro t1 x y l1 (⟨rfl,rfl⟩|⟨_,_,_,rfl,rfl,_⟩)
  ·refine(NB t (Y.mono l1) (K.mono l1)).imp ?_;rintro _ _ _ _ ⟨b,b',rfl,rfl,H⟩;exact V.ptr H
  ·exact il _
theorem NC(C:gB.size=P.globals.size){b b':Addr}(Y:Ad r a a')(K:Ad r b b'):SR P ig r (cG a b) (cG a' b'):=by
 refine SR.bind mV ?_;rintro t1 p q l1 ⟨R,I⟩;rw[R,I];have H:=Y.IJ K;have U:=r.ju _ _ Y.block;have D:(a'.block != b'.block||decide (a'.block>=P.globals.size))=(a.block != b.block||decide (a.block>=P.globals.size)):=by
  rw[bne,bne,H];congr 1;rw[decide_eq_decide];omega
 rw[D];refine im (fun _=>?_) (fun _=>?_)
 ·exact il _
 refine SR.bind (vU (Y.mono l1)) ?_;rintro t3 x _ A rfl;refine SR.bind (vU ((K.mono l1).mono A)) ?_;rintro t4 y _ l4 rfl;exact .pure rfl
theorem Zq(Y:gB.size=P.globals.size)(k:IntKind){b b':Addr}(K:Ad r a a')(H:Ad r b b'):SR P V r (Op.addrSub k a b) (Op.addrSub k a' b'):=by
 refine SR.bind (NC Y K H) ?_;rintro t1 x _ l1 rfl;exact .pure (.int _ _)
theorem Zr(Y:gB.size=P.globals.size)(op:BinOp){b b':Addr}(K:Ad r a a')(H:Ad r b b'):SR P V r (Op.addrCmp op a b) (Op.addrCmp op a' b'):=by
 refine SR.bind (NC Y K H) ?_;rintro t1 x _ l1 rfl;cases op<;>first|exact .pure (.bool _)|exact il _
theorem OA(k:IntKind)(Y:Ad r a a')(n:Int):SR P V r (Op.addrMod k a n) (Op.addrMod k a' n):=by
 refine SR.bind (p9 Y.block) ?_;rintro t1 x _ l1 rfl;split
 ·refine SR.bind (ru _) ?_;rintro t2 i _ l2 ⟨rfl,_⟩;refine im (fun _=>?_) (fun _=>?_)
  ·exact il _
  refine SR.bind (vU ((Y.mono l1).mono l2)) ?_;rintro t4 y _ l4 rfl;exact .pure (.int _ _)
 ·exact il _
theorem ND(z:∀b,¬gB.ro b)(h:Ad r a a'):SR P ig r (stringish a) (stringish a'):=by
 refine SR.bind (CE z h) ?_;rintro t1 b _ l1 rfl;refine im (fun _=>?_) (fun _=>?_)
 ·exact .pure rfl
 ·refine SR.bind (p9 (h.mono l1).block) ?_;rintro t2 x _ l2 rfl;split
  ·exact CE z ⟨(l1.trans l2) _ _ h.block,rfl,rfl⟩
  ·exact .pure rfl
theorem Yl(z:∀b,¬gB.ro b){b b':Addr}(Y:Ad r a a')(K:Ad r b b'):SR P ig r (mayBeOne a b) (mayBeOne a' b'):=by
 refine SR.bind (ND z Y) ?_;rintro t1 x _ l1 rfl;refine SR.bind (ND z (K.mono l1)) ?_;rintro t2 y _ l2 rfl;refine SR.bind (SR.bind (p9 ((Y.mono l1).mono l2).block) fun _ _ _ _ e=>by subst e;exact .pure rfl) ?_;rintro t3 u _ H rfl;refine SR.bind (SR.bind (p9 (((K.mono l1).mono l2).mono H).block) fun _ _ _ _ e=>by subst e;exact .pure rfl) ?_;rintro t4 u _ l4 rfl;exact .pure rfl
theorem Ym(z:∀b,¬gB.ro b){b b':Addr}(H:Ad r a a')(D:Ad r b b'):SR P ig r (sameAddr a b) (sameAddr a' b'):=by
 unfold sameAddr;rw[H.IJ D,H.eq_iff D];refine im (fun _=>?_) (fun _=>?_)
 ·exact .pure rfl
 refine SR.bind (CE z H) ?_;rintro t1 x _ l1 rfl;refine SR.bind (CE z (D.mono l1)) ?_;rintro t2 y _ l2 rfl;refine im (fun _=>?_) (fun _=>?_)
 ·exact il _
 have Y:=(H.mono l1).mono l2;have K:=(D.mono l1).mono l2;refine SR.bind (Hv Y) ?_;rintro t3 _ _ R _;refine SR.bind (Hv (K.mono R)) ?_;rintro t4 _ _ l4 _;refine SR.bind (Yl z ((Y.mono R).mono l4) ((K.mono R).mono l4)) ?_;rintro t5 u _ I rfl;refine im (fun _=>?_) (fun _=>?_)
 ·refine SR.bind (rB _) ?_;rintro A n _ l6 rfl;exact .pure rfl
 ·exact .pure rfl
theorem Yn(z:∀b,¬gB.ro b){e:TypeId}(R:P.underlying t=some (.pointer e))(U:V r x x')(C:V r y y'):SR P ig r (Op.equal t x y) (Op.equal t x' y'):=by
 refine SR.bind (mU t) ?_;rintro t1 d _ l1 ⟨rfl,hd⟩;rw[R]at hd;obtain rfl:=Option.some.inj hd;have K:=U.mono l1;have Y:=C.mono l1;cases K with
 |nilPtr=>
  cases Y with
  |nilPtr=>exact .pure rfl
  |ptr _=>exact .pure rfl
  |_=>exact gD _
 |ptr H=>
  cases Y with
  |nilPtr=>exact .pure rfl
  |ptr D=>
   refine SR.bind (mW _) ?_;rintro t2 n _ l2 rfl;refine im (fun _=>?_) (fun _=>?_)
   ·exact Ym z (H.mono l2) (D.mono l2)
   ·rw[(H.mono l2).eq_iff (D.mono l2)];refine im (fun _=>?_) (fun _=>?_)
    ·exact .pure rfl
    ·refine SR.bind (rB _) ?_;rintro t3 k _ I rfl;exact .pure rfl
  |_=>exact gD _
 |_=>exact gD _
theorem NS{m:Array _}(K:P.underlying t=some (.interface m))(H:V r x x'):SR P ig r (Op.equal t x .nilIface) (Op.equal t x' .nilIface):=by
 refine SR.bind (mU t) ?_;rintro t1 d _ l1 ⟨rfl,hd⟩;rw[K]at hd;obtain rfl:=Option.some.inj hd;have Y:=H.mono l1;cases Y with
 |nilIface=>exact .pure rfl
 |iface _ _=>exact .pure rfl
 |_=>exact gD _
end
section
variable[gB]{P:Program}{r:Rn}{α:Type}{A:Rn->α->α->Prop}
def S6(P:Program)(t:TypeId):Prop:=∃fs,P.underlying t=some (.struct fs)/\P.stoodInHeld t=false/\∀f∈fs.toList,∀d,P.underlying f.type=some d->plainKey d
def Bh(P:Program)(t:TypeId):Prop:=(∀d,P.underlying t=some d->plainKey d)\/(∃e,P.underlying t=some (.pointer e))\/S6 P t
theorem Pb{Y γ:Type}(f f':γ->Y->Sem (ForInStep Y)):∀{xs:List γ} (b:Y) {r:Rn},(∀t x b,x∈xs->Le r t->SR P ig t (f x b) (f' x b))->SR P ig r (forIn xs b f) (forIn xs b f')
 |[],b,r,h=>.pure rfl
 |x::xs,b,r,h=>by
  rw[aP,aP];refine SR.bind (h r x b (by simp) (.refl _)) ?_;rintro t1 x _ l1 rfl;cases x with
  |done b=>exact .pure rfl
  |yield b=>exact Pb f f' b (fun t x b m l=>h t x b (by simp[m]) (l1.trans l))
theorem Yo(C:gB.size=P.globals.size)(h:S6 P t)(N:V r x x')(O:V r y y'):SR P ig r (Op.equal t x y) (Op.equal t x' y'):=by
 obtain⟨fs,I,A,U⟩:=h;unfold Op.equal ar;rw[show(10000:Nat)=9998+1+1 from rfl];rw[af,af];refine SR.bind (mU t) ?_;rintro t1 d _ l1 ⟨rfl,hd⟩;rw[I]at hd;cases hd;have Y:=N.mono l1;have K:=O.mono l1;cases Y with
 |agg D v1=>
  cases K with
  |agg R v2=>
   refine SR.bind mV ?_;rintro t2 p q l2 ⟨L,M⟩;rw[L,M,A];simp only[aB,if_false,<-bD];refine SR.bind (Pb _ _ _ ?_) ?_
   ·intro t3 f b J H;refine im (fun _=>?_) (fun _=>.pure rfl);refine SR.bind (Dm f.type (bC (l2.trans H) ⟨D,v1⟩) f.offset) ?_;intro t4 a a' l4 B;refine SR.bind (Dm f.type (bC ((l2.trans H).trans l4) ⟨R,v2⟩) f.offset) ?_;intro t5 c c' Q F;refine SR.bind (Oy C (U f J) (B.mono Q) F 9998) ?_;rintro S o _ l6 ⟨rfl,_⟩;exact im (fun _=>.pure rfl) (fun _=>.pure rfl)
   ·rintro t3 s _ H rfl;split<;>exact .pure rfl
  |_=>exact gD _
 |_=>exact gD _
theorem OC(H:gB.size=P.globals.size)(z:(∃e,P.underlying t=some (.pointer e))->∀b,¬gB.ro b)(h:Bh P t)(Y:V r x x')(K:V r y y'):SR P ig r (Op.equal t x y) (Op.equal t x' y'):=by
 rcases h with h|⟨e,h⟩|h
 ·exact(Qf H h Y K).imp fun _ _ _ _ q=>q.1
 ·exact Yn (z ⟨e,h⟩) h Y K
 ·exact Yo H h Y K
theorem Pd{s s':Sem Bool}(h:SR P ig r s s'):SR P V r (do pure (aQ (<-s))) (do pure (aQ (<-s'))):=SR.bind h fun _ _ _ _ e=>by subst e;exact .pure (.bool _)
theorem Qh{s s':Sem Bool}(h:SR P ig r s s'):SR P V r (do pure (aQ (!(<-s)))) (do pure (aQ (!(<-s')))):=SR.bind h fun _ _ _ _ e=>by subst e;exact .pure (.bool _)
def p_:Value->Value->Bool
 |.int ..,.int .. |.string _,.string _=>true
 |_,_=>false
theorem binOp_eql(t:TypeId)(h:p_ x y=false)(K:∀k b,x≠.float k b)(Y:∀k a b,x≠.complex k a b):binOp .eql t x y=(do pure (.bool (<-Op.equal t x y)))/\binOp .neq t x y=(do pure (.bool (!(<-Op.equal t x y)))):=by
 cases x<;>first|exact absurd rfl (K _ _)|exact absurd rfl (Y _ _ _)|(cases y<;>first|exact⟨rfl,rfl⟩|(simp[p_]at h))
theorem V.sK(h:V r x x'):(∀k b,x≠.float k b)/\(∀k a b,x≠.complex k a b):=⟨fun _ _ e=>(by subst e;cases h),fun _ _ _ e=>(by subst e;cases h)⟩
theorem V.S7(h:V r x x')(n:x≠.tuple #[]):(∀k b,x'≠.float k b)/\(∀k a b,x'≠.complex k a b):=by
 cases h with
 |blank _=>exact absurd rfl n
 |_=>exact⟨fun _ _ e=>(by cases e),fun _ _ _ e=>(by cases e)⟩
theorem NU(C:gB.size=P.globals.size){op:BinOp}(Y:op≠.eql/\op≠.neq)(F:V r x x')(R:V r y y'):SR P V r (binOp op t x y) (binOp op t x' y'):=by
 cases F with
 |int k a=>
  cases R with
  |int k' b=>
   cases op<;>first|exact absurd rfl Y.1|exact absurd rfl Y.2|exact Qg .shl k a k' b|exact Qg .shr k a k' b|exact im (fun _=>gD _) (fun _=>Si _ _ _ _)|exact im (fun _=>gD _) (fun _=>aaO _ _ _ _)|exact im (fun _=>gD _) (fun _=>Zp _ _ _ _)|exact im (fun _=>gD _) (fun _=>Sj _ _ _)
  |ptr H=>cases op<;>first|exact absurd rfl Y.1|exact absurd rfl Y.2|exact yi t (.ptr H) (.int _ _) ⟨_,rfl⟩|(refine SR.bind (vV H) ?_;rintro t1 ⟨a1,I⟩ ⟨a2,A⟩ l1 ⟨K,_⟩;exact OA _ K _)|exact il _|exact gD _
  |nilPtr=>cases op<;>first|exact absurd rfl Y.1|exact absurd rfl Y.2|exact yi t .nilPtr (.int _ _) ⟨_,rfl⟩|exact il _|exact gD _
  |_=>cases op<;>first|exact absurd rfl Y.1|exact absurd rfl Y.2|exact gD _
 |string a=>
  cases R with
  |string b=>
   have e:binOp op t (.string a) (.string b)=ax op a b:=by cases op<;>rfl
   rw[e];exact Jg op a b
  |ptr H=>cases op<;>first|exact absurd rfl Y.1|exact absurd rfl Y.2|exact il _|exact gD _
  |nilPtr=>cases op<;>first|exact absurd rfl Y.1|exact absurd rfl Y.2|exact il _|exact gD _
  |_=>cases op<;>first|exact absurd rfl Y.1|exact absurd rfl Y.2|exact gD _
 |ptr D=>
  cases R with
  |int k b=>
   cases op<;>first|exact absurd rfl Y.1|exact absurd rfl Y.2|exact yi t (.ptr D) (.int _ _) ⟨_,rfl⟩|(refine SR.bind (kv t) ?_;rintro t1 d _ l1 rfl;exact im (fun _=>M5 t (.ptr (D.mono l1)) (.int _ _) ⟨_,rfl⟩) (fun _=>yi t (.ptr (D.mono l1)) (.int _ _) ⟨_,rfl⟩))|(refine SR.bind (vV D) ?_;rintro t1 ⟨a1,I⟩ ⟨a2,A⟩ l1 ⟨K,_⟩;exact OA _ K _)|exact il _|exact gD _
  |ptr H=>
   cases op<;>first|exact absurd rfl Y.1|exact absurd rfl Y.2|(refine SR.bind (vV D) ?_;rintro t1 ⟨a1,I⟩ ⟨a2,A⟩ l1 ⟨K,_⟩;refine SR.bind (vV (H.mono l1)) ?_;rintro t2 ⟨a3,B⟩ ⟨a4,b4⟩ l2 ⟨U,_⟩;first|exact Zq C _ (K.mono l2) U|exact Zr C _ (K.mono l2) U)|exact il _|exact gD _
  |_=>cases op<;>first|exact absurd rfl Y.1|exact absurd rfl Y.2|exact il _|exact gD _
 |nilPtr=>
  cases R with
  |int k b=>cases op<;>first|exact absurd rfl Y.1|exact absurd rfl Y.2|exact yi t .nilPtr (.int _ _) ⟨_,rfl⟩|(refine SR.bind (kv t) ?_;rintro t1 d _ l1 rfl;exact im (fun _=>M5 t .nilPtr (.int _ _) ⟨_,rfl⟩) (fun _=>yi t .nilPtr (.int _ _) ⟨_,rfl⟩))|exact il _|exact gD _
  |_=>cases op<;>first|exact absurd rfl Y.1|exact absurd rfl Y.2|exact il _|exact gD _
 |_=>
  cases R with
  |ptr H=>cases op<;>first|exact absurd rfl Y.1|exact absurd rfl Y.2|exact il _|exact gD _
  |nilPtr=>cases op<;>first|exact absurd rfl Y.1|exact absurd rfl Y.2|exact il _|exact gD _
  |_=>cases op<;>first|exact absurd rfl Y.1|exact absurd rfl Y.2|exact gD _
theorem acE(Y:V r x x')(K:V r y y')(h:p_ x y=false)(h':p_ x' y'=true):x=.tuple #[]\/y=.tuple #[]:=by
 cases Y<;>first|exact .inl rfl|(cases K<;>first|exact .inr rfl|(simp[p_]at h h'))
theorem Zs(h:Bh P t)(Y:x=.tuple #[]\/y=.tuple #[])(v:World):∃z v1,(Op.equal t x y).run P v=.halt z v1/\rO z:=by
 rcases h with h|⟨e,h⟩|⟨e,h,_⟩
 ·exact NP h Y v
 ·unfold Op.equal ar;rw[show(10000:Nat)=9999+1 from rfl];unfold af underlying program;simp only[bind,Sem.bind,Sem.run,h];rcases Y with rfl|rfl
  ·exact⟨_,_,rfl,.inr ⟨_,rfl⟩⟩
  ·cases x with
   |pointer a=>cases a<;>exact⟨_,_,rfl,.inr ⟨_,rfl⟩⟩
   |_=>exact⟨_,_,rfl,.inr ⟨_,rfl⟩⟩
 ·unfold Op.equal ar;rw[show(10000:Nat)=9999+1 from rfl];unfold af underlying program;simp only[bind,Sem.bind,Sem.run,h];rcases Y with rfl|rfl
  ·exact⟨_,_,rfl,.inr ⟨_,rfl⟩⟩
  ·cases x<;>exact⟨_,_,rfl,.inr ⟨_,rfl⟩⟩
theorem acF(F:gB.size=P.globals.size){op:BinOp}(U:op=.eql\/op=.neq)(z:(∃e,P.underlying t=some (.pointer e))->∀b,¬gB.ro b)(C:Bh P t)(K:V r x x')(H:V r y y'):SR P V r (binOp op t x y) (binOp op t x' y'):=by
 by_cases Y:p_ x y=true
 ·cases K with
  |int k a=>
   cases H with
   |int k' b=>rcases U with rfl|rfl<;>exact im (fun _=>gD _) (fun _=>Sj _ _ _)
   |_=>simp[p_]at Y
  |string a=>
   cases H with
   |string b=>
    have e:binOp op t (.string a) (.string b)=ax op a b:=by cases op<;>rfl
    rw[e];exact Jg op a b
   |_=>simp[p_]at Y
  |_=>simp[p_]at Y
 ·have Y:p_ x y=false:=by simpa using Y
  obtain⟨J,L⟩:=binOp_eql t Y K.sK.1 K.sK.2;by_cases I:x=.tuple #[]\/y=.tuple #[]
  ·refine .lost fun v=>?_;obtain⟨q,v1,e,M⟩:=Zs C I v;rcases U with rfl|rfl
   ·simp_all
   ·simp_all
  ·have A:p_ x' y'=false:=by
    cases h:p_ x' y' with
    |false=>rfl
    |true=>exact absurd (acE K H Y h) I
   have B:=K.S7 fun e=>I (.inl e);obtain⟨D,R⟩:=binOp_eql t A B.1 B.2;rcases U with rfl|rfl
   ·rw[J,D];exact Pd (OC F z C K H)
   ·rw[L,R];exact Qh (OC F z C K H)
theorem aaP{op:BinOp}(U:op=.eql\/op=.neq){m:Array (String×TypeId)}(D:P.underlying t=some (.interface m))(Y:V r x x'):SR P V r (binOp op t x .nilIface) (binOp op t x' .nilIface):=by
 by_cases R:x=.tuple #[]
 ·subst R;refine .lost fun v=>?_;have e:∃q v1,(Op.equal t (.tuple #[]) .nilIface).run P v=.halt q v1/\rO q:=by
   unfold Op.equal ar;unfold af underlying program;simp only[bind,Sem.bind,Sem.run,D];exact⟨_,_,rfl,.inr ⟨_,rfl⟩⟩
  obtain⟨q,v1,e,C⟩:=e;refine⟨q,v1,?_,C⟩;rcases U with rfl|rfl
  ·show(Sem.bind _ _).run P v=_;rw[ai,e];rfl
  ·show(Sem.bind _ _).run P v=_;rw[ai,e];rfl
 ·have tp:∀y,p_ y .nilIface=false:=fun y=>by cases y<;>rfl
  obtain⟨A,B⟩:=binOp_eql t (tp x) Y.sK.1 Y.sK.2;have I:=Y.S7 R;obtain⟨K,H⟩:=binOp_eql t (tp x') I.1 I.2;rcases U with rfl|rfl
  ·rw[A,K];exact Pd (NS D Y)
  ·rw[B,H];exact Qh (NS D Y)
end
section
variable[gB]{P:Program}{r:Rn}{α:Type}{A:Rn->α->α->Prop}
theorem Qi{K:Type}(f f':Value->K->Sem _):∀{xs ys:List _} b {r:Rn},(∀t x x' b,Le r t->V t x x'->SR P ig t (f x b) (f' x' b))->VL r xs ys->SR P ig r (forIn xs b f) (forIn ys b f')
 |_,_,b,r,h,.nil=>.pure rfl
 |_,_,b,r,h,.cons Y rest=>by
  rw[aP,aP];refine SR.bind (h r _ _ b (.refl _) Y) ?_;rintro t1 x _ l1 rfl;cases x with
  |done b=>exact .pure rfl
  |yield b=>exact Qi f f' b (fun t x x' b l=>h t x x' b (l1.trans l)) (VL.mono l1 rest)
theorem WV(Y:V r x x'):SR P V r (bO x) (bO x'):=by
 cases Y with
 |kW l c=>exact .pure (.string _)
 |slice l c K=>
  refine SR.bind (GK l K) ?_;intro t1 cs gM l1 H;simp[<-bD];refine SR.bind (Qi _ _ _ ?_ H.toList) ?_
  ·intro t x x' b l Y;cases Y with
   |int k n=>cases k<;>first|exact .pure rfl|exact gD _
   |_=>exact gD _
  ·rintro t2 s _ l2 rfl;exact .pure (.string _)
 |_=>exact gD _
theorem Zt(h:r b=some b'):SR P ig r (cellsIn b) (cellsIn b'):=by
 refine SR.bind (p9 h) ?_;rintro t1 x _ l1 rfl;split
 ·exact .pure rfl
 ·refine SR.bind (oJ (l1 _ _ h)) ?_;intro t2 o o' l2 Y;cases Y<;>exact .pure rfl
theorem Na(h:Ad r a a')(u:TypeId)(n:Nat):SR P ig r (variablesAt a u n) (variablesAt a' u n):=by
 refine SR.bind mV ?_;rintro t1 p q l1 ⟨Y,K⟩;rw[Y,K];refine SR.bind (p9 (l1 _ _ h.block)) ?_;rintro t2 x _ l2 rfl;rw[h.off];split<;>exact .pure rfl
theorem Pe(h:Ad r a a'):SR P Ad r (Conv.seenAt a) (Conv.seenAt a'):=by
 refine SR.bind (CF h.block) ?_;rintro t1 x y l1 (⟨rfl,rfl⟩|⟨b,b',u,rfl,rfl,Y⟩)
 ·exact .pure (h.mono l1)
 ·rw[h.off,h.spot];refine im (fun _=>.pure Y) (fun _=>?_);rw[Y.spot];refine im (fun _=>?_) (fun _=>?_)
  ·exact il _
  refine SR.bind mV ?_;rintro t2 p q l2 ⟨K,H⟩;rw[K,H];split
  ·refine SR.bind (p9 (l2 _ _ Y.block)) ?_;rintro t3 x _ D rfl;split
   ·refine im (fun _=>?_) (fun _=>?_)
    ·exact il _
    rw[Y.off];split
    ·exact .pure ⟨(l2.trans D) _ _ Y.block,rfl,rfl⟩
    ·exact il _
   ·exact il _
  ·exact il _
theorem Ha(z:∀b,¬gB.ro b)(h:Ad r a a')(t:TypeId):SR P V r (do let b<-newObj (.view a t);pure (.pointer (some ⟨b,0,none⟩))) (do let b<-newObj (.view a' t);pure (.pointer (some ⟨b,0,none⟩))):=
 SR.bind (xd (.view t (z _) h)) fun _ _ _ _ e=>.pure (.ptr ⟨e,rfl,rfl⟩)
theorem Yp(z:∀b,¬gB.ro b){e:TypeId}(D:P.underlying src=some (.pointer e))(R:P.underlying dst=some .unsafePointer)(U:V r x x'):SR P V r (aK src dst x) (aK src dst x'):=by
 refine SR.bind (mU src) ?_;rintro t1 d _ l1 ⟨rfl,hd⟩;rw[D]at hd;obtain rfl:=Option.some.inj hd;refine SR.bind (mU dst) ?_;rintro t2 d _ l2 ⟨rfl,hd⟩;rw[R]at hd;obtain rfl:=Option.some.inj hd;have H:=(U.mono l1).mono l2;cases H with
 |nilPtr=>exact .pure .nilPtr
 |ptr I=>
  refine SR.bind (Pe I) ?_;intro t3 s s' B K;refine SR.bind (Zt K.block) ?_;rintro t4 n _ l4 rfl;rw[K.off,K.spot];refine SR.bind (mW _) ?_;rintro t5 m _ A rfl;have Y:=(K.mono l4).mono A;refine im (fun _=>?_) (fun _=>.pure (.ptr Y));exact Ha z Y _
 |_=>exact gD _
theorem Xv(z:∀b,¬gB.ro b){e:TypeId}(U:P.underlying src=some .unsafePointer)(C:P.underlying dst=some (.pointer e))(F:V r x x'):SR P V r (aK src dst x) (aK src dst x'):=by
 refine SR.bind (mU src) ?_;rintro t1 d _ l1 ⟨rfl,hd⟩;rw[U]at hd;obtain rfl:=Option.some.inj hd;refine SR.bind (mU dst) ?_;rintro t2 d _ l2 ⟨rfl,hd⟩;rw[C]at hd;obtain rfl:=Option.some.inj hd;have D:=(F.mono l1).mono l2;cases D with
 |nilPtr=>exact .pure .nilPtr
 |ptr I=>
  refine SR.bind (Pe I) ?_;intro t3 s s' L R;refine SR.bind (mW _) ?_;rintro t4 m _ l4 rfl;refine SR.bind (Na (R.mono l4) _ _) ?_;rintro t5 b _ A rfl;have Y:=(R.mono l4).mono A;refine im (fun _=>.pure (.ptr Y)) (fun _=>?_);refine SR.bind (p9 Y.block) ?_;rintro M x _ l6 rfl;split
  ·refine SR.bind mV ?_;rintro N p q B ⟨K,H⟩;rw[K,H];refine SR.bind mV ?_;rintro O p q J ⟨K,H⟩;rw[K,H];refine im (fun _=>?_) (fun _=>?_)
   ·exact il _
   ·exact Ha z (((Y.mono l6).mono B).mono J) _
  ·exact il _
 |_=>exact gD _
inductive vj(P:Program)(src dst:TypeId):Prop
 |int {k k':IntKind}:P.underlying src=some (.int k)->P.underlying dst=some (.int k')->vj P src dst
 |toStr {e:TypeId}:P.underlying src=some (.slice e)->P.underlying e=some (.int .u8)->P.underlying dst=some .string->vj P src dst
 |toBytes {e:TypeId}:P.underlying src=some .string->P.underlying dst=some (.slice e)->P.underlying e=some (.int .u8)->vj P src dst
 |toUns {e:TypeId}:P.underlying src=some (.pointer e)->P.underlying dst=some .unsafePointer->vj P src dst
 |Rj {e:TypeId}:P.underlying src=some .unsafePointer->P.underlying dst=some (.pointer e)->vj P src dst
theorem Zu(L:(∃k,P.underlying src=some (.int k))\/(∃e,P.underlying src=some (.slice e))\/∀b,¬gB.ro b)(h:vj P src dst)(F:V r x x'):SR P V r (convert src dst x) (convert src dst x'):=by
 have A:(∀k,P.underlying src≠some (.int k))->(∀e,P.underlying src≠some (.slice e))->∀b,¬gB.ro b:=fun H R=>by simp_all
 unfold convert;refine SR.bind (mU src) ?_;rintro t1 d1 _ l1 ⟨rfl,Y⟩;refine SR.bind (mU dst) ?_;rintro t2 d2 _ l2 ⟨rfl,K⟩;have D:=(F.mono l1).mono l2;cases h with
 |int H R=>
  rw[H]at Y;obtain rfl:=Option.some.inj Y;rw[R]at K;obtain rfl:=Option.some.inj K;cases D<;>first|exact .pure (.int _ _)|exact il _|exact gD _
 |toStr H U R=>
  rw[H]at Y;obtain rfl:=Option.some.inj Y;rw[R]at K;obtain rfl:=Option.some.inj K;rename_i e;have I:=D;cases D with
  |int k n=>exact .pure (.string _)
  |string s=>exact .pure (.string _)
  |blank J=>
   refine .lost fun v=>⟨.stuck "bytesToString: slice expected",v,?_,.inr ⟨_,rfl⟩⟩;show(Sem.bind (underlying e) _).run P v=_
   have C:(underlying e).run P v=.ok (.int .u8) v:=by simp[underlying,program,bind,Sem.bind,Sem.run,U,pure]
   rw[ai,C];rfl
  |_=>
   refine SR.bind (mU e) ?_;rintro t3 d _ B ⟨rfl,hd⟩;rw[U]at hd;obtain rfl:=Option.some.inj hd;exact WV (I.mono B)
 |toBytes H R U=>
  have z:=A (fun k x=>by rw[H]at x;cases x) (fun k x=>by rw[H]at x;cases x);rw[H]at Y;obtain rfl:=Option.some.inj Y;rw[R]at K;obtain rfl:=Option.some.inj K;cases D with
  |string s=>
   refine SR.bind (mU _) ?_;rintro t3 d _ B ⟨rfl,hd⟩;rw[U]at hd;obtain rfl:=Option.some.inj hd;exact Xr z _ _
  |_=>first|exact il _|exact gD _
 |toUns H R=>
  have z:=A (fun k x=>by rw[H]at x;cases x) (fun k x=>by rw[H]at x;cases x);rw[H]at Y;obtain rfl:=Option.some.inj Y;rw[R]at K;obtain rfl:=Option.some.inj K;have I:=D;cases D<;>exact Yp z H R I
 |Rj H R=>
  have z:=A (fun k x=>by rw[H]at x;cases x) (fun k x=>by rw[H]at x;cases x);rw[H]at Y;obtain rfl:=Option.some.inj Y;rw[R]at K;obtain rfl:=Option.some.inj K;have I:=D;cases D<;>exact Xv z H R I
end
section
variable[gB]{P:Program}{r:Rn}{α:Type}{A:Rn->α->α->Prop}
theorem aeC(H:V r x x')(Y:V r y y'):SR P V r (aH x y) (aH x' y'):=by
 cases H with
 |int k a=>
  cases Y with
  |int k' b=>exact .pure (.int _ _)
  |_=>first|exact il _|exact gD _
 |string a=>
  cases Y with
  |string b=>
   refine SR.bind (Jg .leq a b) ?_;intro t1 u D l1 K;refine SR.bind (O8 K) ?_;rintro t2 c _ l2 rfl;exact .pure (.string _)
  |_=>first|exact il _|exact gD _
 |ptr a=>exact il _
 |_=>cases Y<;>first|exact il _|exact gD _
theorem Rk:∀{xs ys:List _} {r:Rn} {x x':Value},VL r xs ys->V r x x'->SR P V r (xs.foldlM aH x) (ys.foldlM aH x')
 |_,_,r,x,x',.nil,Y=>.pure Y
 |_,_,r,x,x',.cons H rest,Y=>by
  refine SR.bind (aeC Y H) ?_;intro t1 u D l1 K;exact Rk (VL.mono l1 rest) K
theorem agS(D:Array _)(t:TypeId){a a':Array _}(h:VA r a a'):SR P V r (aZ D t a) (aZ D t a'):=by
 unfold aZ;have Y:=h.toList;cases H:a.toList with
 |nil=>exact gD _
 |cons x xs=>
  rw[H]at Y;cases K:a'.toList with
  |nil=>rw[K]at Y;cases Y
  |cons y ys=>
   rw[K]at Y;cases Y with
   |cons R rest=>exact Rk rest R
theorem agT(Y:Array TypeId)(t:TypeId)(h:V r x x'):SR P V r (aW Y t #[x]) (aW Y t #[x']):=by
 unfold aW;cases D:Y[0]? with
 |none=>exact gD _
 |some t=>
  refine SR.bind (s:=underlying t) (s':=underlying t) (kv t) ?_;rintro t1 d _ l1 rfl;have K:=h.mono l1;cases d with
  |array n e=>exact .pure (.int _ _)
  |pointer arr=>
   refine SR.bind (kv arr) ?_;rintro t2 d _ l2 rfl;cases d<;>first|exact .pure (.int _ _)|exact gD _
  |slice e=>cases K<;>first|exact .pure (.int _ _)|exact gD _
  |chan dir e=>
   cases K with
   |qd=>exact .pure (.int _ _)
   |chan e=>
    refine SR.bind (oJ e) ?_;intro t2 o o' l2 H;cases H<;>exact gD _
   |_=>exact gD _
  |_=>exact gD _
theorem XT(z:∀b,¬gB.ro b)(K:Array _)(t:TypeId)(h:V r x x'):SR P V r (bN K t #[x]) (bN K t #[x']):=by
 cases h with
 |kW l c=>exact .pure .nilPtr
 |slice l c Y=>
  refine im (fun _=>.pure (.ptr Y)) (fun _=>?_);refine SR.bind (CF Y.block) ?_;rintro t1 x y l1 (⟨rfl,rfl⟩|⟨b,b',u,rfl,rfl,H⟩)
  ·refine SR.bind (Ht t) ?_;rintro t2 e _ l2 rfl;exact Ha z ((Y.mono l1).mono l2) _
  ·exact .pure (.ptr (Y.mono l1))
 |_=>exact gD _
theorem NF:∀n acc {r:Rn} {a a':Addr},Ad r a a'->SR P ig r (loadBytes a acc n) (loadBytes a' acc n)
 |0,acc,r,a,a',h=>.pure rfl
 |n+1,acc,r,a,a',h=>by
  refine SR.bind (Dk h) ?_;intro t1 x x' l1 Y;cases Y with
  |int k b=>cases k<;>first|exact NF n _ ((h.mono l1).add 1)|exact gD _
  |_=>exact gD _
theorem W3(z:∀b,¬gB.ro b)(K:Array _)(t:TypeId)(h:V r x x')(U:V r y y'):SR P V r (aJ K t #[x,y]) (aJ K t #[x',y']):=by
 have main:∀{p p':Option _},((p=none/\p'=none)\/∃a a',p=some a/\p'=some a'/\Ad r a a')->SR P V r (aJ K t #[.pointer p,y]) (aJ K t #[.pointer p',y']):=by
  intro p p' R;refine SR.bind (yF U) ?_;rintro t1 n _ l1 rfl;cases K[0]? with
  |none=>exact gD _
  |some pt=>
   refine im (fun _=>?_) (fun _=>?_)
   ·exact SR.bind (A:=fun _ _ _=>False) (mq trivial) fun _ _ _ _ h=>h.elim
   refine im (fun _=>?_) (fun _=>?_)
   ·exact il _
   rcases R with⟨rfl,rfl⟩|⟨a,a',rfl,rfl,H⟩
   ·refine im (fun _=>.pure (.string _)) (fun _=>?_);exact mq trivial
   ·refine im (fun _=>.pure (.string _)) (fun _=>?_);refine SR.bind (Ht pt) ?_;rintro t2 e _ l2 rfl;have Y:=(H.mono l1).mono l2;refine SR.bind (Na Y _ _) ?_;rintro t3 b _ D rfl;refine im (fun _=>?_) (fun _=>?_)
    ·refine SR.bind (NF _ _ (Y.mono D)) ?_;rintro t4 s _ l4 rfl;refine SR.bind (O7 z ((Y.mono D).mono l4) _) ?_;rintro t5 _ _ I _;exact .pure (.string _)
    ·exact il _
 cases h with
 |nilPtr=>exact main (.inl ⟨rfl,rfl⟩)
 |ptr H=>exact main (.inr ⟨_,_,rfl,rfl,H⟩)
 |_=>exact gD _
theorem Yq{a a':Array _}(h:VA r a a'):SR P V r (Extern.AbiNoEscape.same a) (Extern.AbiNoEscape.same a'):=by
 obtain⟨l⟩:=a;obtain⟨l'⟩:=a';have Y:=h.toList;cases Y with
 |nil=>exact gD _
 |cons K rest=>
  cases rest with
  |nil=>exact .pure K
  |cons _ _=>exact gD _
theorem Zv(h:V r x x'):SR P ig r (bS x) (bS x'):=by
 have D:∀(n:Nat) (acc:ByteArray) {r:Rn} {a a':Addr},Ad r a a'->SR P ig r (bT a n acc) (bT a' n acc):=by
  intro n;induction n with
  |zero=>exact fun acc _ _ _ _=>.pure rfl
  |succ n H=>
   intro acc r a a' h;refine SR.bind (Dk h) ?_;intro t1 x x' l1 K;cases K with
   |int k b=>cases k<;>first|exact H _ ((h.mono l1).add 1)|exact gD _
   |_=>exact gD _
 cases h with
 |string s=>exact .pure rfl
 |kW l c=>exact .pure rfl
 |slice l c Y=>exact D _ _ Y
 |_=>exact gD _
theorem XU{a a':Array _}(h:VA r a a'):SR P V r (bQ a) (bQ a'):=by
 obtain⟨l⟩:=a;obtain⟨l'⟩:=a';have K:=h.toList;cases K with
 |nil=>exact gD _
 |cons H rest=>
  cases rest with
  |nil=>exact gD _
  |cons D rest=>
   cases rest with
   |nil=>
    rename_i x x' y R;refine SR.bind (Zv H) ?_;rintro t1 b _ l1 rfl;have ab:SR P ig t1 (bR y) (bR R):=by
     have Y:=D.mono l1;cases Y with
     |int k n=>cases k<;>first|exact .pure rfl|exact gD _
     |_=>exact gD _
    refine SR.bind ab ?_;rintro t2 c _ l2 rfl;split<;>exact .pure (.int _ _)
   |cons _ _=>exact gD _
theorem VA.digits:∀n t {a a':Array _},VA r a a'->VA r (Extern.BytealgMakeNoZero.digits n t a) (Extern.BytealgMakeNoZero.digits n t a')
 |0,t,a,a',h=>h
 |n+1,t,a,a',h=>VA.digits n _ (h.push (.int _ _))
theorem Xw(K rs:Array _){a a':Array _}(h:VA r a a'):SR P V r (a_ K rs a) (a_ K rs a'):=by
 obtain⟨l⟩:=a;obtain⟨l'⟩:=a';have D:=h.toList;cases D with
 |nil=>exact gD _
 |cons R rest=>
  cases rest with
  |nil=>
   cases R with
   |int k n=>
    cases k with
    |i64=>
     unfold a_;cases hr:rs[0]? with
     |none=>exact gD _
     |some t=>
      refine SR.bind (kv t) ?_;rintro t1 d _ l1 rfl;cases d with
      |slice Y=>
       refine im (fun _=>?_) (fun _=>?_)
       ·exact SR.bind (A:=fun _ _ _=>False) (mq trivial) fun _ _ _ _ h=>h.elim
       refine SR.bind (rB _) ?_;rintro t2 c _ l2 rfl;refine SR.bind (G_ c) ?_;rintro t3 _ _ I _;refine SR.bind (rB _) ?_;rintro t4 b _ l4 rfl;refine SR.bind (vT _ (VA.digits _ _ .nil)) ?_;intro t5 a a' U H;exact .pure (.slice _ _ H)
      |_=>exact gD _
    |_=>exact gD _
   |_=>exact gD _
  |cons _ _=>exact gD _
def AQ(P:Program)(name:String):=∀t i m,P.info? t=some i->i.methods.find? (·.name==name)=some m->m.path=#[]/\(∃f,m.func=some (f,false)/\gB.ij f)/\∀e,P.underlying t≠some (.pointer e)
theorem aaQ(U:AQ P name)(n:Nat)(t:TypeId){v:Value}(h:V r v v'):SR P (fun s x y=>x.1=y.1/\gB.ij x.1/\V s x.2 y.2) r (method n t v name) (method n t v' name):=by
 cases n with
 |zero=>exact il _
 |succ n=>
  refine SR.bind (ru t) ?_;rintro t1 i _ l1 ⟨rfl,I⟩;cases D:i.methods.find? _ with
  |none=>exact gD _
  |some m=>
   obtain⟨B,⟨f,Y,R⟩,K⟩:=U t i m I D;simp[B,Y];refine SR.bind (A:=fun s x y=>x=(t,Place.val v)/\y=(t,Place.val v')) (.pure ⟨rfl,rfl⟩) ?_;rintro t2 _ _ l2 ⟨rfl,rfl⟩;refine SR.bind ?_ fun s x y l H=>.pure ⟨rfl,R,H⟩;refine SR.bind (mU t) ?_;rintro t3 d _ C ⟨rfl,hd⟩;cases d with
   |pointer e=>exact absurd hd (K e)
   |_=>exact .pure (((h.mono l1).mono l2).mono C)
end
section
variable[gB]{P:Program}{r:Rn}{α:Type}{A:Rn->α->α->Prop}{bb:Bool}
theorem An(h:r l=some l'):SR P Lp r (bZ l) (bZ l'):=by
 refine SR.bind (oJ h) ?_;intro t1 o o' l1 Y;cases Y with
 |loop q=>exact .pure q
 |_=>exact gD _
inductive LO(r:Rn):Option Nat->Option Nat->Prop
 |none:LO r none none
 |some {l l':Nat}:r l=some l'->LO r (some l) (some l')
theorem LO.mono{s:Rn}(h:Le r s){a b:Option Nat}(k:LO r a b):LO s a b:=by
 cases k with
 |none=>exact .none
 |some e=>exact .some (h _ _ e)
theorem XV(fn:FuncId){tmps Y:Array _}(C:VA r tmps Y)(K:Array Tmp){aqY bd:Code}(H:gB.code aqY)(D:gB.code bd){o o':Option Nat}(U:LO r o o'):
  SR P (fun s x y=>s x.1=some y.1/\DL s x.2 y.2) r (bc fn tmps K aqY bd o) (bc fn Y K aqY bd o'):=by
 unfold bc;have fin:∀{s:Rn} {d d':Nat} {m m':List _},Le r s->s d=some d'->DL s m m'->
   SR P (fun s x y=>s x.1=some y.1/\DL s x.2 y.2) s (do let b<-newObj (.loop {state:=.ready,pending:=none,fn,tmps,params:=K,assign:=aqY,body:=bd,defers:=d});pure (b,m)) (do let b<-newObj (.loop {state:=.ready,pending:=none,fn,tmps:=Y,params:=K,assign:=aqY,body:=bd,defers:=d'});pure (b,m')):=by
  intro s d d' m m' l hd R;refine SR.bind (xd (.loop ⟨rfl,rfl,rfl,rfl,rfl,rfl,C.mono l,hd,(fun c e=>by cases e),H,D⟩)) ?_;intro t b b' l' e;exact .pure ⟨e,R.mono l'⟩
 cases U with
 |none=>
  refine SR.bind (xd (.deferred (.some .nil))) ?_;intro t1 b b' l1 e;exact fin l1 e (.cons ⟨.collected e,.nil⟩ .nil)
 |some e=>
  refine SR.bind (An e) ?_;intro t1 q A l1 I;exact fin l1 I.defers .nil
theorem NV:∀{Y:List Tmp} {xs ys:List _} {c c':Array _},VL r xs ys->VA r c c'->
  VA r ((Y.zip xs).foldl (fun tmps p=>tmps.setIfInBounds p.1 p.2) c) ((Y.zip ys).foldl (fun tmps p=>tmps.setIfInBounds p.1 p.2) c')
 |[],_,_,_,_,_,h=>h
 |_::_,_,_,_,_,.nil,h=>h
 |t::Y,_,_,_,_,.cons K rest,h=>by
  simp;exact NV rest (h.set _ K)
theorem VA.round{Y:Array Tmp}{a a' c c':Array _}(h:VA r a a')(k:VA r c c'):
  VA r ((Y.zip a).foldl (fun tmps x=>tmps.setIfInBounds x.1 x.2) c) ((Y.zip a').foldl (fun tmps x=>tmps.setIfInBounds x.1 x.2) c'):=by
 simp only[<-az,Array.toList_zip];exact NV h.toList k
inductive NX(bb:Bool)(r:Rn):Next->Next->Prop
 |value {v v':Value}:V r v v'->NX bb r (.value v) (.value v')
 |skip:NX bb r .skip .skip
 |enter {f:FuncId} {a a':Array Value}:gB.ij f->VA r a a'->NX bb r (.enter f a) (.enter f a')
 |defer {d d':Deferred}:Df r d d'->NX bb r (.defer d) (.defer d')
 |recover:bb=true->NX bb r .recover .recover
 |round {l l':Nat} {f:FuncId} {t t':Array Value} {aqY bd:Code}:r l=some l'->VA r t t'->gB.code aqY->gB.code bd->NX bb r (.round l f t aqY bd) (.round l' f t' aqY bd)
theorem acG(h:r l=some l'){a a':Array _}(K:VA r a a'):SR P (NX bb) r (Instr.yield l a) (Instr.yield l' a'):=by
 refine SR.bind (An h) ?_;intro t1 q H l1 Y;rw[Y.params,K.size,Y.fn,Y.assign,Y.body];refine im (fun _=>?_) (fun _=>?_)
 ·exact gD _
 ·exact .pure (.round (l1 _ _ h) (VA.round (K.mono l1) Y.tmps) Y.ca Y.cb)
theorem Xx(h:r l=some l'):SR P ig r (bU l) (bU l'):=by
 refine SR.bind (An h) ?_;intro t1 q K l1 Y;refine SR.bind (uH (l1 _ _ h) (.loop ⟨rfl,Y.pending,Y.fn,Y.params,Y.assign,Y.body,Y.tmps,Y.defers,Y.cp,Y.ca,Y.cb⟩)) ?_;rintro t2 _ _ l2 _;rw[Y.state];cases q.state<;>first|exact .pure rfl|exact mq trivial
theorem Yr(h:r l=some l'){j:Option _}(K:∀c,j=some c->gB.code c):SR P V r (bX l j) (bX l' j):=by
 refine SR.bind (An h) ?_;intro t1 q H l1 Y;refine SR.bind (uH (l1 _ _ h) (.loop ⟨rfl,rfl,Y.fn,Y.params,Y.assign,Y.body,Y.tmps,Y.defers,K,Y.ca,Y.cb⟩)) ?_;rintro t2 _ _ l2 _;exact .pure (.bool _)
theorem Zw(h:r l=some l'):SR P (fun _ x y=>x=y/\∀c,x=some c->gB.code c) r (bW l) (bW l'):=by
 refine SR.bind (An h) ?_;intro t1 q K l1 Y;rw[Y.state];refine im (fun _=>?_) (fun _=>?_)
 ·exact SR.bind (A:=fun _ _ _=>False) (mq trivial) fun _ _ _ _ h=>h.elim
 ·refine SR.bind (uH (l1 _ _ h) (.loop ⟨rfl,Y.pending,Y.fn,Y.params,Y.assign,Y.body,Y.tmps,Y.defers,Y.cp,Y.ca,Y.cb⟩)) ?_;rintro t2 _ _ l2 _;exact .pure ⟨Y.pending.symm,Y.cp⟩
theorem W4(h:r b=some b'):SR P DL r (cA b) (cA b'):=by
 refine SR.bind (oJ h) ?_;intro t1 o o' l1 Y;cases Y with
 |deferred d=>
  cases d with
  |none=>exact gD _
  |some q=>
   refine SR.bind (uH (l1 _ _ h) (.deferred .none)) ?_;rintro t2 _ _ l2 _;exact .pure (q.mono l2)
 |_=>exact gD _
structure Ef(P:Program)(f:FuncId)(fn:Func):Prop where
 has:P.funcs[f]?=some fn
 name:(fn.name== "runtime.NumGoroutine")=false
 ext:fn.body=none->Extern.findNext fn=none/\∃e,Extern.find fn=some e/\∀r a a',VA r a a'->SR P V r (e a) (e a')
theorem NY(U:∀f,gB.ij f->∃fn,Ef P f fn){f:FuncId}(h:gB.ij f){a a':Array _}(K:VA r a a'):SR P (NX bb) r (callFunc f a) (callFunc f a'):=by
 obtain⟨fn,Y⟩:=U f h;refine SR.bind mV ?_;rintro t1 p q l1 ⟨A,B⟩;rw[A,B];simp[Y.has,Y.name];cases R:fn.body with
 |some c=>exact .pure (.enter h (K.mono l1))
 |none=>
  obtain⟨H,e,D,I⟩:=Y.ext R;simp[H,D];refine SR.bind (.mark _ (.inr ⟨_,rfl⟩) fun _ _=>.pure rfl) ?_;rintro t2 _ _ l2 _;refine SR.bind (I t2 _ _ ((K.mono l1).mono l2)) ?_;intro t3 v v' F C;exact .pure (.value C)
theorem VA.tail{a a':Array _}(h:VA r a a'):VA r (a.extract 1 a.size) (a'.extract 1 a'.size):=by
 rw[<-h.size];exact h.extract 1 _
theorem Xy(H:∀f,gB.ij f->∃fn,Ef P f fn)(D:AQ P name)(C:V r x x'){a a':Array _}(K:VA r a a'):SR P (NX bb) r (callMethod x name a) (callMethod x' name a'):=by
 cases C with
 |iface t U=>
  refine SR.bind mV ?_;rintro t1 p q l1 ⟨R,I⟩;rw[R,I];refine SR.bind (aaQ D _ t (U.mono l1)) ?_;rintro t2 ⟨f,u⟩ ⟨f',B⟩ l2 ⟨e,Y,A⟩;subst e;exact NY H Y ((VA.one A).append ((K.mono l1).mono l2))
 |nilIface=>exact mq (e:=.nilDeref) trivial
 |_=>exact gD _
theorem Zx(H:V r x x'){a a':Array _}(Y:VA r a a'):SR P Df r (aL x a) (aL x' a'):=by
 cases H with
 |func K s1 D R i2=>exact .pure ⟨.fn K.toR ⟨R,i2⟩,VA.append ⟨s1,D⟩ Y⟩
 |nilFunc=>exact .pure ⟨.nil,Y⟩
 |_=>exact gD _
theorem CG(K:∀f,gB.ij f->∃fn,Ef P f fn)(U:∀n,gB.methods n->AQ P n)(h:Df r d d')(C:∀b,d.target≠.collected b):SR P (NX bb) r (invoke d.target d.args) (invoke d'.target d'.args):=by
 obtain⟨I,Y⟩:=h;obtain⟨t,a⟩:=d;obtain⟨t',a'⟩:=d';unfold invoke;cases I with
 |fn R D=>
  cases R with
  |func g=>exact NY K g (Y.append D)
  |method g=>
   cases H:a[0]? with
   |none=>exact gD _
   |some x=>
    obtain⟨x',e,A⟩:=Y.get H;rw[e];exact Xy K (U _ g) A Y.tail
  |yield e=>exact acG e Y
 |nil=>exact mq trivial
 |collected e=>exact absurd rfl (C _)
end
section
variable[gB]{P:Program}{r:Rn}{α:Type}{A:Rn->α->α->Prop}{bb:Bool}
def jr:Operand->Prop
 |.tmp _=>True
 |.const v=>∀r,V r v v
 |.global g=>gB.sW g
 |.func f=>gB.ij f
def EE:=∀b,¬gB.ro b
def zd:Option Operand->Prop
 |none=>True
 |some x=>jr x
def sd:BinOp->Bool
 |.eql|.neq=>false
 |_=>true
def S8(P:Program)(t:TypeId)(y:Operand):=P.eqGuardType P.depth t=false/\((Bh P t/\((∃e,P.underlying t=some (.pointer e))->EE))\/(y=.const .nilIface/\∃m,P.underlying t=some (.interface m)))
def Hw(P:Program)(b:Builtin)(K:Array TypeId)(n:Nat):Prop:=
 match b with
 |.append=>∀Y d,K[1]?=some Y->P.underlying Y=some d->∀k,d≠.int k
 |.cap=>n=1
 |.copy|.len|.min|.recover=>True
 |.unsafeSliceData=>n=1/\EE
 |.unsafeString=>n=2/\EE
 |_=>False
def DC(P:Program)(c:Call):=
 (∀x∈c.args,jr x)/\
 match c.callee with
 |.value f=>jr f
 |.invoke x name=>jr x/\gB.methods name
 |.builtin b=>Hw P b c.argTypes c.args.size
def Ig(P:Program)(t:TypeId):=∀k e,P.underlying t=some (.map k e)->∀d,P.underlying k=some d->plainKey d
def EF(P:Program):Op->Prop
 |.move x|.assign x|.box _ x|.load _ x|.nilCheck x|.unOp _ _ x|.makeInterface _ x|.fieldAddr _ x _|.field _ x _|.range _ x|.next x _|.entry x|.extract x _|.panic x=>jr x
 |.pick c a b=>jr c/\jr a/\jr b
 |.alloc _=>True
 |.build _ Y|.buildSlice _ _ Y=>∀p∈Y,jr p.2
 |.store _ a x|.makeSlice _ a x|.indexAddr _ a x|.index _ a x=>jr a/\jr x
 |.binOp op t x y _=>jr x/\jr y/\(sd op=true\/S8 P t y)
 |.convert s d x=>jr x/\vj P s d/\((∃k,P.underlying s=some (.int k))\/(∃e,P.underlying s=some (.slice e))\/EE)
 |.makeFunc fn first cap=>(∃f,fn=.func f/\gB.ij f)/\(∀x∈first,jr x)/\∀x∈cap,jr x
 |.makeMap _ x=>zd x
 |.slice _ x H K D=>jr x/\zd H/\zd K/\zd D
 |.lookup t x i _=>jr x/\jr i/\Ig P t
 |.mapUpdate t m k x=>jr m/\jr k/\jr x/\Ig P t
 |.typeAssert x _ a ok=>jr x/\ok=true/\∀ms,P.underlying a≠some (.interface ms)
 |.call c=>DC P c
 |.defer c=>DC P c/\∃f,c.callee=.value f
 |_=>False
structure Fit(P:Program):Prop where
 tT:qQ P
 ju:gB.size=P.globals.size
 sK:ED P
 ij:∀f,gB.ij f->∃fn,Ef P f fn
 EG:∀n,gB.methods n->AQ P n
theorem VA.mapOf{l:Array _}{H Y:Operand->Value}(h:∀x∈l,V r (H x) (Y x)):VA r (l.map H) (l.map Y):=by
 refine⟨by simp,fun i x x' e e'=>?_⟩;simp only[bG]at e e';cases K:l[i]? with
 |none=>rw[K]at e;cases e
 |some y=>
  rw[K]at e e';simp at e e';rw[<-e,<-e'];exact h y (Array.mem_of_getElem? K)
theorem VO.mapOf{o:Option _}{K Y:Operand->Value}(h:∀x,jr x->V r (K x) (Y x))(H:zd o):VO r (o.map K) (o.map Y):=by
 cases o with
 |none=>exact .none
 |some x=>exact .some (h x H)
theorem PL.mapOf{D Y:Operand->Value}(h:∀x,jr x->V r (D x) (Y x)){l:Array (Nat×Operand)}(K:∀p∈l,jr p.2):
  PL r (l.map fun x=>(x.1,D x.2)).toList (l.map fun x=>(x.1,Y x.2)).toList:=by
 obtain⟨l⟩:=l;simp;have K:=fun p R=>K p (by simpa using R);rename_i H;clear H;induction l with
 |nil=>exact .nil
 |cons p l A=>exact .cons _ (h _ (K p (by simp))) (A fun q I=>K q (by simp[I]))
theorem jL{s s':Sem _}(h:SR P V r s s'):SR P (NX bb) r (do pure (Next.value (<-s))) (do pure (Next.value (<-s'))):=SR.bind h fun _ _ _ _ e=>.pure (.value e)
theorem Ks{s s':Sem _}(h:SR P ig r s s'):SR P (NX bb) r (do s;pure Next.skip) (do s';pure Next.skip):=SR.bind h fun _ _ _ _ _=>.pure .skip
theorem Zy{op:BinOp}(R:P.eqGuardType P.depth t=false)(x y:Operand){a a' b b':Value}(D:V r a a')(H:V r b b'):SR P ig r (eqGuard op t x y a b) (eqGuard op t x y a' b'):=by
 refine im (fun _=>?_) (fun _=>?_)
 ·exact .pure rfl
 cases D with
 |blank h=>cases a'<;>first|(simp[Hid]at h;done)|exact .pure rfl
 |nilIface=>
  cases H with
  |blank h=>cases b'<;>first|(simp[Hid]at h;done)|exact .pure rfl
  |nilIface=>
   refine im (fun _=>?_) (fun _=>?_)
   ·exact .pure rfl
   have q:SR P ig r (cE ar t .nilIface .nilIface) (cE ar t .nilIface .nilIface):=by
    refine SR.bind (kv t) ?_;rintro t1 d _ l1 rfl;cases d<;>exact .pure rfl
   refine SR.bind q ?_;rintro t1 b _ l1 rfl;refine im (fun _=>?_) (fun _=>?_)
   ·exact il _
   ·exact .pure rfl
  |_=>exact .pure rfl
 |agg A I=>
  cases H with
  |blank h=>cases b'<;>first|(simp[Hid]at h;done)|exact .pure rfl
  |agg ks U=>
   refine SR.bind mV ?_;rintro t1 p q l1 ⟨Y,K⟩;rw[Y,K];refine SR.bind mV ?_;rintro t2 p q l2 ⟨Y,K⟩;rw[Y,K,R];exact .pure rfl
  |_=>exact .pure rfl
 |_=>exact .pure rfl
theorem Zz(F:Fit P){b:Builtin}{Y:Array _}{cs:Array _}{a a':Array _}(h:Hw P b Y a.size)(hr:b=.recover->bb=true)(K:VA r a a'):SR P (NX bb) r (builtin b Y t cs a) (builtin b Y t cs a'):=by
 cases b with
 |append=>exact jL (aaL F.tT Y t h K)
 |copy=>exact jL (aeA Y t K)
 |len=>exact jL (agQ Y t K)
 |min=>exact jL (agS Y t K)
 |recover=>exact .pure (.recover (hr rfl))
 |cap=>
  obtain⟨l⟩:=a;obtain⟨l'⟩:=a';have H:=K.toList;have h:l.length=1:=h;cases H with
  |nil=>simp at h
  |cons D rest=>
   cases rest with
   |nil=>exact jL (agT Y t D)
   |cons _ _=>simp at h
 |unsafeSliceData=>
  obtain⟨h,z⟩:=h;obtain⟨l⟩:=a;obtain⟨l'⟩:=a';have H:=K.toList;cases H with
  |nil=>simp at h
  |cons D rest=>
   cases rest with
   |nil=>exact jL (XT z Y t D)
   |cons _ _=>simp at h
 |unsafeString=>
  obtain⟨h,z⟩:=h;obtain⟨l⟩:=a;obtain⟨l'⟩:=a';have H:=K.toList;cases H with
  |nil=>simp at h
  |cons D rest=>
   cases rest with
   |nil=>simp at h
   |cons R rest=>
    cases rest with
    |nil=>exact jL (W3 z Y t D R)
    |cons _ _=>simp at h
 |_=>exact h.elim
theorem NZ(H:V r x x'){a a':Array _}(Y:VA r a a'):SR P (fun s d d'=>Df s d d'/\∀b,d.target≠.collected b) r (aL x a) (aL x' a'):=by
 cases H with
 |func K s1 D R i2=>exact .pure ⟨⟨.fn K.toR ⟨R,i2⟩,VA.append ⟨s1,D⟩ Y⟩,fun b e=>by cases e⟩
 |nilFunc=>exact .pure ⟨⟨.nil,Y⟩,fun b e=>by cases e⟩
 |_=>exact gD _
theorem aeD(F:Fit P){D Y:Operand->Value}(K:∀x,jr x->V r (D x) (Y x)){c:Call}(h:DC P c)(hr:c.callee=.builtin .recover->bb=true)(t:TypeId):SR P (NX bb) r (do let d<-resolve D c t;invoke d.target d.args) (do let d<-resolve Y c t;invoke d.target d.args):=by
 obtain⟨A,H⟩:=h;have R:=VA.mapOf fun x U=>K x (A x U);unfold resolve;cases I:c.callee with
 |builtin b=>
  rw[I]at H;exact Zz F (by simp_all) (fun e=>hr (by simp_all)) R
 |invoke x name=>
  rw[I]at H;exact CG F.ij F.EG (d:={target:=.fn _ #[],args:=#[D x]++c.args.map D}) (d':={target:=.fn _ #[],args:=#[Y x]++c.args.map Y}) ⟨.fn (.method H.2) .nil,(VA.one (K x H.1)).append R⟩ (fun b e=>by cases e)
 |value f=>
  rw[I]at H;exact SR.bind (NZ (K f H) R) fun t1 d d' l1 hd=>CG F.ij F.EG hd.1 hd.2
theorem Pf(F:Fit P){L H:Operand->Value}(Y:∀x,jr x->V r (L x) (H x))(C:∀v,L (.const v)=v/\H (.const v)=v)(o:Oper)(h:EF P o.op)(hr:∀c,o.op=.call c->c.callee=.builtin .recover->bb=true):SR P (NX bb) r (execOp L o) (execOp H o):=by
 obtain⟨dst,op,ty,pos,after,guard⟩:=o;unfold execOp;simp only at h⊢;cases op with
 |move x=>exact .pure (.value (Y x h))
 |assign x=>exact .pure (.value (Y x h))
 |pick c a b=>
  refine SR.bind (O8 (Y c h.1)) ?_;rintro t1 t _ l1 rfl;cases t
  ·exact .pure (.value ((Y b h.2.2).mono l1))
  ·exact .pure (.value ((Y a h.2.1).mono l1))
 |alloc e=>exact jL (acs F.tT e)
 |box e x=>exact jL (agP e (Y x h))
 |build t E=>exact jL (acz F.tT t (PL.mapOf Y h))
 |buildSlice t n E=>exact jL (Xs F.tT t n (PL.mapOf Y h))
 |load t a=>exact jL (aaJ t (Y a h))
 |store t a x=>exact Ks (Zi t (Y a h.1) (Y x h.2))
 |nilCheck x=>
  have K:=Y x h;simp only;generalize L x=u at K⊢;generalize H x=W at K⊢;cases K with
  |blank h=>
   cases W with
   |pointer a=>cases a<;>first|(simp[Hid]at h;done)|exact SR.pure (A:=NX bb) (NX.value (V.blank (y:=.pointer (some _)) rfl))
   |_=>first|(simp[Hid]at h;done)|exact SR.pure (A:=NX bb) (NX.value (V.blank h))
  |nilPtr=>exact mq (e:=.nilDeref) trivial
  |nilIface=>exact mq (e:=.nilDeref) trivial
  |nilFunc=>exact mq (e:=.nilDeref) trivial
  |func B s1 Z G i2=>
   have N:=V.func B s1 Z G i2;cases B with
   |func _=>exact .pure (.value N)
   |yield _=>exact .pure (.value N)
  |ptr a=>exact .pure (.value (.ptr a))
  |bool=>exact .pure (.value (.bool _))
  |int=>exact .pure (.value (.int _ _))
  |string=>exact .pure (.value (.string _))
  |kW=>exact .pure (.value (.kW _ _))
  |slice l c a=>exact .pure (.value (.slice l c a))
  |oM=>exact .pure (.value .oM)
  |map e=>exact .pure (.value (.map e))
  |qd=>exact .pure (.value .qd)
  |chan e=>exact .pure (.value (.chan e))
  |iface t h=>exact .pure (.value (.iface t h))
  |agg s i=>exact .pure (.value (.agg s i))
  |tuple s i=>exact .pure (.value (.tuple s i))
 |binOp op t x y p=>
  obtain⟨R,D,I⟩:=h;have K:=Y x R;have J:=Y y D;rcases I with I|⟨X,I⟩
  ·refine jL (SR.bind (A:=ig) ?_ fun t1 _ _ l1 _=>NU F.ju ⟨fun e=>(by subst e;simp[sd]at I),fun e=>(by subst e;simp[sd]at I)⟩ (K.mono l1) (J.mono l1));unfold eqGuard;cases op<;>first|exact .pure rfl|simp[sd]at I
  ·by_cases U:sd op=true
   ·refine jL (SR.bind (A:=ig) ?_ fun t1 _ _ l1 _=>NU F.ju ⟨fun e=>(by subst e;simp[sd]at U),fun e=>(by subst e;simp[sd]at U)⟩ (K.mono l1) (J.mono l1));unfold eqGuard;cases op<;>first|exact .pure rfl|simp[sd]at U
   ·have U:op=.eql\/op=.neq:=by cases op<;>first|exact .inl rfl|exact .inr rfl|simp[sd]at U
    refine jL (SR.bind (Zy X x y K J) fun t1 _ _ l1 _=>?_);rcases I with⟨S,z⟩|⟨rfl,m,T⟩
    ·exact acF F.ju U z S (K.mono l1) (J.mono l1)
    ·rw[(C .nilIface).1,(C .nilIface).2];exact aaP U T (K.mono l1)
 |unOp op t x=>exact jL (acD op (Y x h))
 |convert s d x=>exact jL (Zu h.2.2 h.2.1 (Y x h.1))
 |makeInterface t x=>exact jL (WU t (Y x h))
 |makeFunc fn first cap=>
  obtain⟨⟨f,rfl,B⟩,R,D⟩:=h;exact jL (Yg (.func B) (VA.mapOf fun x K=>Y x (R x K)) (VA.mapOf fun x K=>Y x (D x K)))
 |makeMap t x=>exact jL (Zn t (VO.mapOf Y h))
 |makeSlice t l c=>exact jL (XQ F.tT t (Y l h.1) (Y c h.2))
 |slice t x j q g=>exact jL (Zm t (Y x h.1) (VO.mapOf Y h.2.1) (VO.mapOf Y h.2.2.1) (VO.mapOf Y h.2.2.2))
 |fieldAddr t x f=>exact jL (Zk t (Y x h) f)
 |field t x f=>exact jL (acu t (Y x h) f)
 |indexAddr t x i=>exact jL (Zl t (Y x h.1) (Y i h.2))
 |index t x i=>exact jL (acv t (Y x h.1) (Y i h.2))
 |lookup t x i ok=>exact jL (aaN F.tT F.ju h.2.2 (Y x h.1) (Y i h.2.1) ok)
 |mapUpdate t m k x=>exact Ks (XS F.ju h.2.2.2 (Y m h.1) (Y k h.2.1) (Y x h.2.2.1))
 |range t x=>exact jL (acA t (Y x h))
 |next x b=>exact jL (aeB (Y x h) b ty)
 |entry x=>exact jL (acC (Y x h))
 |typeAssert x t a ok=>
  obtain⟨R,rfl,D⟩:=h;exact jL (Xu F.tT (Y x R) t a D)
 |extract x i=>exact jL (Zj (Y x h) i)
 |panic x=>exact jL (Zo (Y x h))
 |call c=>exact aeD F Y h (hr c rfl) ty
 |defer c=>
  obtain⟨⟨R,D⟩,f,C⟩:=h;have M:=VA.mapOf fun x K=>Y x (R x K);obtain⟨Q,args,O⟩:=c;simp only at C M D;subst C;refine SR.bind (Zx (Y f D) M) ?_;intro t1 d d' l1 hd;exact .pure (.defer hd)
 |_=>exact h.elim
end
structure Bu(A B:gB):Prop where
 size:A.size=B.size
 ij:∀f,A.ij f->B.ij f
 methods:∀n,A.methods n->B.methods n
 code:∀c,A.code c->B.code c
 ro:∀b,A.ro b↔B.ro b
 jH:∀b i,B.jH b i->A.jH b i
def oO{A B:gB}(h:Bu A B)(r:@Rn A):@Rn B:=@Rn.mk B (@Rn.f A r) (@Rn.inj A r) (fun b c e=>by rw[<-h.size];exact @Rn.ju A r b c e)
section
variable{A B:gB}(h:Bu A B){r:@Rn A}
include h
theorem DG(k:@Ad A r a a'):@Ad B (oO h r) a a':=by
 obtain⟨Y,K,H⟩:=k;exact @Ad.mk B _ _ _ Y K H
theorem aeE{f f':Fn}(k:@qy A r f f'):@qy B (oO h r) f f':=by
 cases k with
 |func g=>exact @qy.func B _ _ (h.ij _ g)
 |yield e=>exact @qy.yield B _ _ _ e
theorem aeF{f f':Fn}(k:@qx A r f f'):@qx B (oO h r) f f':=by
 cases k with
 |func g=>exact @qx.func B _ _ (h.ij _ g)
 |method g=>exact @qx.method B _ _ (h.methods _ g)
 |yield e=>exact @qx.yield B _ _ _ e
theorem JR(k:@V A r x y):@V B (oO h r) x y:=by
 induction k with
 |blank e=>exact .blank e
 |bool b=>exact .bool b
 |int k n=>exact .int k n
 |string s=>exact .string s
 |nilPtr=>exact .nilPtr
 |ptr a=>exact .ptr (DG h a)
 |kW l c=>exact .kW l c
 |slice l c a=>exact .slice l c (DG h a)
 |oM=>exact .oM
 |map e=>exact .map e
 |qd=>exact .qd
 |chan e=>exact .chan e
 |func n s1 _ K _ Y i2=>exact .func (aeE h n) s1 Y K i2
 |nilFunc=>exact .nilFunc
 |iface t _ i=>exact .iface t i
 |nilIface=>exact .nilIface
 |agg s _ i=>exact .agg s i
 |tuple s _ i=>exact .tuple s i
theorem uT{c c':Array _}(k:@VA A r c c'):@VA B (oO h r) c c':=by
 obtain⟨Y,K⟩:=k;exact @VA.mk B _ _ _ Y fun i x x' e e'=>JR h (K i x x' e e')
theorem agV{e e':MapEntry}(k:@En A r e e'):@En B (oO h r) e e':=by
 obtain⟨Y,K,H⟩:=k;exact @En.mk B _ _ _ (JR h Y) (JR h K) H
theorem agW{t t':Target}(k:@Tg A r t t'):@Tg B (oO h r) t t':=by
 cases k with
 |fn f c=>exact .fn (aeF h f) (uT h c)
 |nil=>exact .nil
 |collected e=>exact .collected e
theorem agX{d d':List _}(k:@DL A r d d'):@DL B (oO h r) d d':=by
 induction k with
 |nil=>exact .nil
 |cons x _ H=>
  obtain⟨Y,K⟩:=x;exact .cons ⟨agW h Y,uT h K⟩ H
theorem aiv(k:@O A r o o'):@O B (oO h r) o o':=by
 cases k with
 |loop l=>
  obtain⟨a1,a2,a3,a4,a5,Y,K,H,a9,D,R⟩:=l;exact .loop ⟨a1,a2,a3,a4,a5,Y,uT h K,H,fun c e=>h.code _ (a9 c e),h.code _ D,h.code _ R⟩
 |view t n a=>exact .view t (fun y=>n ((h.ro _).2 y)) (DG h a)
 |number l a=>exact .number l (DG h a)
 |deferred d=>
  cases d with
  |none=>exact .deferred .none
  |some x=>exact .deferred (.some (agX h x))
 |cells e fz a=>exact .cells e fz (uT h a)
 |map I C U=>exact .map I C fun i x x' e e'=>agV h (U i x x' e e')
 |stringIter s p=>exact .stringIter s p
 |qF a s n=>exact .qF a s n
 |mapIter a s n e=>exact .mapIter a s n e
theorem agY(k:@OB A r b o o'):@OB B (oO h r) b o o':=by
 cases k with
 |same n o=>exact .same (fun y=>n ((h.ro _).2 y)) (aiv h o)
 |ro e n a Y=>exact .ro e ((h.ro _).1 n) (uT h a) fun i K=>Y i (h.jH _ _ K)
theorem JS{v:World}(k:@W A r c v w):@W B (oO h r) c v w:=by
 obtain⟨D,R,I,U,C,F⟩:=k;refine @W.mk B _ _ _ _ (fun b b' e=>?_) (by rw[<-h.size];exact R) (by rw[<-h.size];exact I) (fun b J=>U b ((h.ro b).2 J)) C F;obtain⟨o,o',Y,K,H⟩:=D b b' e;exact⟨o,o',Y,K,agY h H⟩
end
end Ren
namespace Ren
open Conc
section
variable[gB]{P:Program}{r:Rn}
def yU(P:Program)(rd:Bool)(o:Oper):=EF P o.op/\(rd=true->(∀c,o.op≠.defer c)/\∀c,o.op=.call c->c.callee≠.builtin .recover)
def lO(P:Program)(rd:Bool):Code->Prop
 |.skip|.label _|.exit _|.goto _|.ret=>True
 |.refuse y=>y≠ ""
 |.region _ ops _=>gB.wall ops\/∀o∈ops,yU P rd o
 |.seq a b=>lO P rd a/\lO P rd b
 |.cond c a b=>jr c/\lO P rd a/\lO P rd b
 |.block _ c|.loop c|.scope c=>lO P rd c
 |.rangeFunc f _ aqY bd=>jr f/\gB.code aqY/\gB.code bd
structure ly(P:Program):Prop extends Fit P where
 code:∀c,gB.code c->lO P true c
 ret:gB.code .ret
 exit:∀i,gB.code (.exit i)
 goto:∀i,gB.code (.goto i)
 body:∀f fn c,gB.ij f->P.funcs[f]?=some fn->fn.body=some c->lO P false c
inductive IT(P:Program)(r:Rn)(rd:Bool):Item->Item->Prop
 |code {c:Code}:lO P rd c->IT P r rd (.code c) (.code c)
 |inBlock (i:Nat):IT P r rd (.inBlock i) (.inBlock i)
 |inLoop {c:Code}:lO P rd c->IT P r rd (.inLoop c) (.inLoop c)
 |inScope {c:Code}:lO P rd c->IT P r rd (.inScope c) (.inScope c)
 |inRegion {ops:Array Oper} (l:List Nat):(∀i∈l,∀o,ops[i]?=some o->yU P rd o)->IT P r rd (.inRegion ops l) (.inRegion ops l)
 |inRangeFunc {l l':Nat}:r l=some l'->IT P r rd (.inRangeFunc l) (.inRangeFunc l')
 |endRangeFunc {l l':Nat}:r l=some l'->IT P r rd (.endRangeFunc l) (.endRangeFunc l')
 |beginRound:IT P r rd .beginRound .beginRound
def AR:List Item->Bool
 |[]|.code _::_|.inBlock _::_|.inLoop _::_|.inScope _::_=>true
 |_=>false
inductive IL(P:Program)(r:Rn)(rd bz:Bool):List Item->List Item->Prop
 |nil:IL P r rd bz [] []
 |rest {k':List Item}:rd=false->bz=true->gB.rest k'->AR k'=true->IL P r rd bz [.code (.refuse "")] k'
 |cons {x y:Item} {k k':List Item}:IT P r rd x y->IL P r rd bz k k'->IL P r rd bz (x::k) (y::k')
structure PE(r:Rn)(x y:PanicEntry):Prop where
 v:V r x.v y.v
 recovered:y.recovered=x.recovered
 goexit:y.goexit=x.goexit
inductive oE(r:Rn):List PanicEntry->List PanicEntry->Prop
 |nil:oE r [] []
 |cons {x y:PanicEntry} {k k':List PanicEntry}:PE r x y->oE r k k'->oE r (x::k) (y::k')
inductive MD(r:Rn):FrameMode->FrameMode->Prop
 |run:MD r .run .run
 |returning:MD r .returning .returning
 |panicking {k k':List PanicEntry}:oE r k k'->MD r (.panicking k) (.panicking k')
inductive DB(r:Rn)(bz:Bool):List Deferred->List Deferred->Prop
 |nil:DB r bz [] []
 |rest {l':List Deferred}:bz=true->gB.ji l'->DB r bz [] l'
 |cons {d d':Deferred} {l l':List Deferred}:Df r d d'->DB r bz l l'->DB r bz (d::l) (d'::l')
structure FR(P:Program)(r:Rn)(bz:Bool)(f f':Frame):Prop where
 fn:f'.fn=f.fn
 tmps:VA r f.tmps f'.tmps
 todo:IL P r f.roundOf.isSome bz f.todo f'.todo
 defers:DB r bz f.defers f'.defers
 mode:MD r f.mode f'.mode
 kind:f'.kind=f.kind
 kinds:f.kind=.normal\/f.kind=.deferred
 round:LO r f.roundOf f'.roundOf
 has:f.roundOf=none->∃fn,P.funcs[f.fn]?=some fn
inductive SL(P:Program)(r:Rn)(cs gM:List Frame):Nat->List Frame->List Frame->Prop
 |base:SL P r cs gM 0 cs gM
 |cons {n:Nat} {f f':Frame} {l l':List Frame}:FR P r (n==0) f f'->(n=0->f.roundOf=none/\f.kind=.normal)->SL P r cs gM n l l'->SL P r cs gM (n+1) (f::l) (f'::l')
theorem IT.mono{s:Rn}(h:Le r s){x y:Item}(k:IT P r rd x y):IT P s rd x y:=by
 cases k with
 |code c=>exact .code c
 |inBlock i=>exact .inBlock i
 |inLoop c=>exact .inLoop c
 |inScope c=>exact .inScope c
 |inRegion l o=>exact .inRegion l o
 |inRangeFunc e=>exact .inRangeFunc (h _ _ e)
 |endRangeFunc e=>exact .endRangeFunc (h _ _ e)
 |beginRound=>exact .beginRound
theorem IL.mono{s:Rn}(h:Le r s){x y:List Item}(k:IL P r rd bz x y):IL P s rd bz x y:=by
 induction k with
 |nil=>exact .nil
 |rest a b c d=>exact .rest a b c d
 |cons a _ Y=>exact .cons (a.mono h) Y
theorem PE.mono{s:Rn}(h:Le r s){x y:PanicEntry}(k:PE r x y):PE s x y:=⟨k.v.mono h,k.recovered,k.goexit⟩
theorem oE.mono{s:Rn}(h:Le r s){x y:List _}(k:oE r x y):oE s x y:=by
 induction k with
 |nil=>exact .nil
 |cons a _ Y=>exact .cons (a.mono h) Y
theorem oE.append{x y x' y':List _}(h:oE r x y)(k:oE r x' y'):oE r (x++x') (y++y'):=by
 induction h with
 |nil=>exact k
 |cons a _ Y=>exact .cons a Y
theorem MD.mono{s:Rn}(h:Le r s){x y:FrameMode}(k:MD r x y):MD s x y:=by
 cases k with
 |run=>exact .run
 |returning=>exact .returning
 |panicking p=>exact .panicking (p.mono h)
theorem DB.mono{s:Rn}(h:Le r s){x y:List _}(k:DB r bz x y):DB s bz x y:=by
 induction k with
 |nil=>exact .nil
 |rest a b=>exact .rest a b
 |cons a _ Y=>exact .cons (a.mono h) Y
theorem DL.TU{x y x' y':List _}(h:DL r x y)(k:DB r bz x' y'):DB r bz (x++x') (y++y'):=by
 induction h with
 |nil=>exact k
 |cons a _ Y=>exact .cons a Y
theorem FR.mono{s:Rn}(h:Le r s)(k:FR P r bz f f'):FR P s bz f f':=⟨k.fn,k.tmps.mono h,k.todo.mono h,k.defers.mono h,k.mode.mono h,k.kind,k.kinds,k.round.mono h,k.has⟩
theorem SL.mono{s:Rn}{cs gM:List _}(h:Le r s){l l':List _}(k:SL P r cs gM n l l'):SL P s cs gM n l l':=by
 induction k with
 |base=>exact .base
 |cons f b _ Y=>exact .cons (f.mono h) b Y
theorem VA.getD{c c':Array _}(h:VA r c c')(i:Nat):V r (c.getD i undef) (c'.getD i undef):=by
 have e:∀a:Array _,a.getD i undef=(a[i]?).getD undef:=fun a=>by simp
 rw[e,e];cases Y:c[i]? with
 |some x=>obtain⟨x',e',K⟩:=h.get Y;simp_all
 |none=>rw[h.none Y];exact .tuple rfl (fun i x x' e=>by simp)
def GI(r:Rn):=∀g,gB.sW g->r g=some g
theorem GI.mono{s:Rn}(h:Le r s)(k:GI r):GI s:=fun g Y=>h _ _ (k g Y)
theorem FR.eval(h:FR P r bz f f')(g:GI r)(x:Operand)(Y:jr x):V r (f.eval x) (f'.eval x):=by
 cases x with
 |tmp t=>exact h.tmps.getD t
 |const v=>exact Y r
 |global i=>exact .ptr ⟨g i Y,rfl,rfl⟩
 |func f=>exact .func (.func Y) rfl (fun i x x' e=>by simp) rfl (fun i x x' e=>by simp)
theorem ZA{ops:Array _}{c c':Array _}(h:VA r c c'):yielded ops c'=yielded ops c:=by
 funext j;unfold yielded;cases hd:(ops[j]?).bind _ with
 |none=>rfl
 |some d=>
  simp;cases Y:c[d]? with
  |none=>rw[h.none Y]
  |some x=>
   obtain⟨x',e,H⟩:=h.get Y;rw[e];cases H with
   |blank K=>cases x'<;>first|rfl|(simp[Hid]at K)
   |_=>rfl
theorem FR.finish(h:FR P r bz f f'){v:Value}(S:V r v v'):FR P r bz (f.finish v) (f'.finish v'):=by
 obtain⟨fn,tmps,todo,defers,mode,kind,ro⟩:=f;obtain⟨iT,L,B,C,J,F,T⟩:=f';obtain⟨K,Y,M,H,D,R,I,A,U⟩:=h;simp only at K Y M H D R I A U;unfold Frame.finish;cases M with
 |nil=>exact⟨K,Y,.nil,H,D,R,I,A,U⟩
 |rest a b c d=>
  cases B with
  |nil=>exact⟨K,Y,.rest a b c d,H,D,R,I,A,U⟩
  |cons x q=>cases x<;>first|exact⟨K,Y,.rest a b c d,H,D,R,I,A,U⟩|(simp[AR]at d)
 |cons O hk=>
  cases O with
  |code c=>exact⟨K,Y,.cons (.code c) hk,H,D,R,I,A,U⟩
  |inBlock i=>exact⟨K,Y,.cons (.inBlock i) hk,H,D,R,I,A,U⟩
  |inLoop c=>exact⟨K,Y,.cons (.inLoop c) hk,H,D,R,I,A,U⟩
  |inScope c=>exact⟨K,Y,.cons (.inScope c) hk,H,D,R,I,A,U⟩
  |inRegion l N=>
   cases l with
   |nil=>exact⟨K,Y,.cons (.inRegion [] N) hk,H,D,R,I,A,U⟩
   |cons i rest=>
    refine⟨K,?_,.cons (.inRegion rest fun j Q=>N j (by simp[Q])) hk,H,D,R,I,A,U⟩;simp only;split
    ·exact Y.set _ S
    ·exact Y
  |inRangeFunc e=>exact⟨K,Y,.cons (.endRangeFunc e) hk,H,D,R,I,A,U⟩
  |endRangeFunc e=>exact⟨K,Y,.cons (.endRangeFunc e) hk,H,D,R,I,A,U⟩
  |beginRound=>exact⟨K,Y,hk,H,D,R,I,A,U⟩
theorem FR.raise(h:FR P r bz f f'){x y:List _}(H:oE r x y):FR P r bz (f.raise x) (f'.raise y):=by
 have D:=h.mode;unfold Frame.raise;cases Y:f.mode<;>cases K:f'.mode<;>rw[Y,K]at D<;>cases D
 ·exact⟨h.fn,h.tmps,h.todo,h.defers,.panicking H,h.kind,h.kinds,h.round,h.has⟩
 ·exact⟨h.fn,h.tmps,h.todo,h.defers,.panicking H,h.kind,h.kinds,h.round,h.has⟩
 ·rename_i R;exact⟨h.fn,h.tmps,h.todo,h.defers,.panicking (H.append R),h.kind,h.kinds,h.round,h.has⟩
theorem FR.enter(F:ly P){f:FuncId}(H:gB.ij f){a a':Array _}(K:VA r a a'){k:CallKind}(hk:k=.normal\/k=.deferred):FR P r bz (Frame.enter P f a k) (Frame.enter P f a' k):=by
 obtain⟨fn,Y⟩:=F.ij f H;unfold Frame.enter;refine⟨rfl,?_,.cons (.code ?_) .nil,.nil,.run,rfl,hk,.none,fun _=>⟨fn,Y.has⟩⟩
 ·simp[<-K.size];exact K.append (.rep _ (.tuple rfl (fun i x x' e=>by simp)))
 ·simp[Y.has,Option.bind_some];cases D:fn.body with
  |none=>exact(by simp:("unsupported: a function without a Go body is entered")≠ "")
  |some c=>exact F.body f fn c H Y.has D
theorem FR.roundOf(F:ly P)(H:r l=some l')(f:FuncId){t t':Array _}(D:VA r t t'){aqY bd:Code}(Y:gB.code aqY)(K:gB.code bd){k:CallKind}(hk:k=.normal\/k=.deferred):FR P r bz (Frame.round l f t aqY bd k) (Frame.round l' f t' aqY bd k):=
 ⟨rfl,D,.cons (.code (F.code aqY Y)) (.cons .beginRound (.cons (.code (F.code bd K)) .nil)),.nil,.run,rfl,hk,.some H,fun h=>by cases h⟩
theorem IL.exitTo(i:Nat){k k':List Item}(h:IL P r rd bz k k'):(exitTo i k=none/\(rd=false\/exitTo i k'=none))\/∃m m',exitTo i k=some m/\exitTo i k'=some m'/\IL P r rd bz m m':=by
 induction h with
 |nil=>exact .inl ⟨rfl,.inr rfl⟩
 |rest a b c d=>exact .inl ⟨rfl,.inl a⟩
 |cons a b K=>
  cases a with
  |inBlock j=>
   unfold Go.exitTo;by_cases Y:(j==i)=true
   ·rw[if_pos Y,if_pos Y];exact .inr ⟨_,_,rfl,rfl,b⟩
   ·rw[if_neg Y,if_neg Y];exact K
  |_=>exact K
theorem lO.findLabel:∀{c:Code} {l:Nat} {d:Code},lO P rd c->findLabel c l=some d->lO P rd d:=by
 intro c;induction c with
 |seq a b K H=>
  intro l d h e;unfold Go.findLabel at e;cases Y:Go.findLabel a l with
  |some x=>rw[Y]at e;rw[<-Option.some.inj e];exact⟨K h.1 Y,h.2⟩
  |none=>rw[Y]at e;exact H h.2 e
 |label j=>
  intro l d h e;unfold Go.findLabel at e;split at e
  ·rw[<-Option.some.inj e];exact trivial
  ·cases e
 |_=>intro l d h e;simp[Go.findLabel]at e
theorem IL.gotoIn(i:Nat){k k':List Item}(h:IL P r rd bz k k'):(gotoIn i k=none/\(rd=false\/gotoIn i k'=none))\/∃m m',gotoIn i k=some m/\gotoIn i k'=some m'/\IL P r rd bz m m':=by
 induction h with
 |nil=>exact .inl ⟨rfl,.inr rfl⟩
 |rest a b c d=>exact .inl ⟨rfl,.inl a⟩
 |cons a b K=>
  cases a with
  |inScope Y=>
   rename_i c;unfold Go.gotoIn;cases H:Go.findLabel c i with
   |some d=>exact .inr ⟨_,_,rfl,rfl,.cons (.code (Y.findLabel H)) (.cons (.inScope Y) b)⟩
   |none=>exact K
  |_=>exact K
theorem Rl{H:Type}(g Y:H->Sem _):∀(l:List H) r,(∀b s,Le r s->SR P V s (g b) (Y b))->SR P VL r (l.mapM g) (l.mapM Y)
 |[],r,h=>by exact .pure .nil
 |b::l,r,h=>by
  rw[bm,bm];refine SR.bind (h b r (.refl _)) ?_;intro t x x' l1 D;refine SR.bind (Rl g Y l t fun b s l2=>h b s (l1.trans l2)) ?_;intro u xs R l2 K;exact .pure (.cons (D.mono l2) K)
theorem OD{fn:Func}{c c':Array _}(h:VA r c c'):SR P V r (results fn c) (results fn c'):=by
 unfold results;rw[aT,aT];refine SR.bind (SR.bind (Rl _ _ _ r ?_) fun _ _ _ _ e=>.pure e.toArray) ?_
 ·intro D s l;cases D with
  |tmp t=>exact .pure ((h.getD t).mono l)
  |cell a t=>exact SR.bind (O9 ((h.getD a).mono l)) fun _ _ _ _ e=>Ox t e
 ·intro t x y l Y;by_cases H:x.size=1
  ·have K:y.size=1:=by rw[<-Y.size];exact H
   exact .pure (Y.at_ 0 _ _ (by simp[H]) (by simp_all))
  ·have K:¬y.size=1:=by rw[<-Y.size];exact H
   rw[dif_neg H,dif_neg K];exact .pure (.tuple Y.size Y.at_)
end
section
variable[gB]{P:Program}{r:Rn}{c:Nat}{cs gM:List Frame}{v w:World}
def q_:GStep->World
 |.go _ w _|.comm _ _ _ _ w _|.spawn _ _ w _|.count _ w _|.timer _ _ w _|.alone _ _ w _|.newcoro _ _ _ w _|.coroswitch _ _ _ w _|.collect _ w _|.watch _ w _|.ended _ w _=>w
inductive ST(P:Program)(r:Rn)(c:Nat)(cs gM:List Frame)(v w:World):GStep->GStep->Prop
 |go {n:Nat} {f f':Frame} {l l':List Frame} {v1 w1:World} {es iD:Array Event} (r1:Rn) (c1:Nat):FR P r1 (n==0) f f'->SL P r1 cs gM n l l'->(n=0->f.roundOf=none/\f.kind=.normal)->Out r r1 c c1 v w v1 w1->(∀e∈iD,lT r w w1.heap.size e)->
   ST P r c cs gM v w (.go (G f l) v1 es) (.go (G f' l') w1 iD)
 |ended {o:Outcome} {v1:World} {es:Array Event} {x:GStep}:ST P r c cs gM v w (.ended o v1 es) x
 |lC {s x:GStep}:v.drawn+c<(q_ s).drawn->w.drawn+c<(q_ x).drawn->ST P r c cs gM v w s x
omit [gB]in
theorem rC(es:Array _)(s:GStep):q_ (GStep.after es s)=q_ s:=by cases s<;>rfl
omit [gB]in
theorem C0{α:Type}{s:Sem α}{a:α}(h:s.run P u=.ok a I):u.drawn<=I.drawn:=by
 have:=CD (P:=P) s u;rw[h]at this;exact this
omit [gB]in
theorem Hb{α:Type}{s:Sem α}{a:Halt}(h:s.run P u=.halt a I):u.drawn<=I.drawn:=by
 have:=CD (P:=P) s u;rw[h]at this;exact this
omit [gB]in
theorem Ys(fr:Frame)(l:List Frame)(d:Option Dying)(g:Nat)(u:World):u.drawn<=(q_ (early P fr l d g u)).drawn:=by
 unfold early;dsimp only
 repeat' split
 all_goals first|exact ao _|skip
 ·rename_i e _ _ _ _;exact Nat.le_trans (C0 e) (ao _)
 ·rename_i e _ _;exact C0 e
 ·rename_i e;exact C0 e
 ·rename_i e;exact Hb e
omit [gB]in
theorem GU(f:Frame)(l:List Frame)(d:Option Dying)(m:String)(u:World):u.drawn<=(q_ (endFatal P f l d m u)).drawn:=by
 unfold endFatal dieOf;dsimp only;split
 ·rename_i e;exact C0 e
 ·rename_i e;exact Hb e
 ·first|exact Hb ‹_›
omit [gB]in
theorem N0{s:Sem Next}{l:List Frame}{d:Option Dying}(u:World):(s.run P u).world.drawn<=(q_ (stepG.apply P true f l d s u)).drawn:=by
 unfold stepG.apply;simp only[if_true,rC];have Y:(s.runT P u #[]).1=s.run P u:=by simp
 generalize s.runT P u #[]=sv at Y;obtain⟨D,H⟩:=sv;subst Y;cases s.run P u with
 |ok a v=>
  cases a<;>(try simp only)<;>first
   |exact ao _
   |(repeat' split)<;>exact ao _
 |halt a v=>
  cases a<;>(try simp only)<;>first
   |exact ao _
   |exact GU _ _ _ _ _
   |(rename_i K;cases K<;>first|exact ao _|exact Ys _ _ _ _ _)
theorem lz{u:Nat}:∀e∈(#[]),lT r w u e:=by simp
theorem Qj{e:Event}(f:Bool×Array _->Event->Bool×Array _)(Y:∀x a,e∈(f x a).2->e∈x.2\/e=a):∀(l:List _) x,e∈(l.foldl f x).2->e∈x.2\/e∈l
 |[],x,h=>.inl h
 |a::l,x,h=>by
  rcases Qj f Y l _ h with y|y
  ·exact(Y x a y).imp id fun z=>by simp_all
  ·simp_all
theorem mem_seen(fn:FuncId)(es:Array _):∀e∈seen P fn es,e∈es:=by
 intro e Y;dsimp only[seen]at Y;rw[<-az]at Y;refine(Qj _ ?_ _ _ Y).elim (fun x=>by simp at x) (fun x=>Array.mem_toList_iff.1 x);rintro⟨q,kept⟩ a h;split at h
 ·simp_all
 ·split at h
  ·simp_all
  ·simp_all
theorem ST.after{r1:Rn}{c1:Nat}{v1 w1:World}{s s':GStep}(o:Out r r1 c c1 v w v1 w1)(h:ST P r1 c1 cs gM v1 w1 s s')(es iD:Array _)(Y:∀e∈iD,lT r w w1.heap.size e):ST P r c cs gM v w (GStep.after es s) (GStep.after iD s'):=by
 cases h with
 |go r2 c2 a b d o2 e=>exact .go r2 c2 a b d (o.trans o2) fun x K=>(Array.mem_append.1 K).elim (fun y=>(Y x y).mono o2.grow) (fun y=>(e x y).back o o2.grow)
 |ended=>exact .ended
 |lC h k=>exact .lC (by rw[rC];have:=o.drew;omega) (by rw[rC];have:=o.zb;omega)
theorem acH(h:FR P r bz f f'):
  FR P r bz (match f.mode with|.panicking ({recovered:=true,..}::Y)=>(match Y.dropWhile (!·.goexit)with|[]=>{f with mode:=.returning}|rest=>{f with mode:=.panicking rest})|_=>f)
   (match f'.mode with|.panicking ({recovered:=true,..}::Y)=>(match Y.dropWhile (!·.goexit)with|[]=>{f' with mode:=.returning}|rest=>{f' with mode:=.panicking rest})|_=>f'):=by
 have K:=h.mode;generalize f.mode=m at K;generalize f'.mode=m' at K;cases K with
 |run=>exact h
 |returning=>exact h
 |panicking H=>
  cases H with
  |nil=>exact h
  |cons a b=>
   rename_i x y k k';obtain⟨A,I,xg⟩:=x;obtain⟨B,D,U⟩:=y;obtain⟨a1,a2,a3⟩:=a;subst a2;cases D with
   |false=>exact h
   |true=>
    have dw:oE r (k.dropWhile (!·.goexit)) (k'.dropWhile (!·.goexit)):=by
     induction b with
     |nil=>exact .nil
     |cons p q R=>
      simp[List.dropWhile_cons,p.goexit];split
      ·omega
      ·exact .cons p q
    simp only;generalize k.dropWhile _=z at dw;generalize k'.dropWhile _=C at dw;cases dw with
    |nil=>exact⟨h.fn,h.tmps,h.todo,h.defers,.returning,h.kind,h.kinds,h.round,h.has⟩
    |cons p q=>exact⟨h.fn,h.tmps,h.todo,h.defers,.panicking (.cons p q),h.kind,h.kinds,h.round,h.has⟩
theorem Xd{l l':List _}(K:FR P r (n==0) f f')(R:n=0->f.roundOf=none/\f.kind=.normal)(U:SL P r cs gM n l l'):
  (tryRecover f l=none/\tryRecover f' l'=none)\/∃x x' m m',tryRecover f l=some (x,m)/\tryRecover f' l'=some (x',m')/\V r x x'/\SL P r cs gM n m m':=by
 have hk:=K.kind;unfold tryRecover;rw[hk];rcases K.kinds with h|h
 ·simp_all
 ·rw[h];cases U with
  |base=>exact absurd ((R rfl).2.symm.trans h) (by simp)
  |cons a b d=>
   rename_i k g D l l';simp only;have Y:=a.mode;generalize I:g.mode=m at Y;generalize H:D.mode=m' at Y;cases Y with
   |run=>exact .inl ⟨rfl,rfl⟩
   |returning=>exact .inl ⟨rfl,rfl⟩
   |panicking A=>
    cases A with
    |nil=>exact .inl ⟨rfl,rfl⟩
    |cons p q=>
     rename_i x y k k';obtain⟨J,F,xg⟩:=x;obtain⟨L,C,B⟩:=y;obtain⟨a1,a2,a3⟩:=p;subst a2;subst a3;cases C<;>cases B<;>first
      |exact .inl ⟨rfl,rfl⟩
      |exact .inr ⟨_,_,_,_,rfl,rfl,a1,.cons ⟨a.fn,a.tmps,a.todo,a.defers,.panicking (.cons ⟨a1,rfl,rfl⟩ q),a.kind,a.kinds,a.round,a.has⟩ b d⟩
theorem Hx{l l':List _}(K:FR P r bz f f')(H:SL P r cs gM (n+1) l l')(hw:W r c v w)(D:V r x x')(main main':Bool):ST P r c cs gM v w (doReturn P main f l none x v) (doReturn P main' f' l' none x' w):=by
 cases H with
 |cons a b d=>
  unfold doReturn;rw[K.kind];rcases K.kinds with h|h
  ·rw[h];refine .go r c (a.finish D) d ?_ (.refl hw) lz;intro Y;have:=b Y;unfold Frame.finish;split<;>exact this
  ·rw[h];have bd:=acH a;refine .go r c bd d ?_ (.refl hw) lz;intro Y;have:=b Y;split
   ·split<;>exact this
   ·omega
theorem acI(H:n=0->f.roundOf=none/\f.kind=.normal)(Y:List _)(x:Value):n=0->(Frame.finish {f with defers:=Y} x).roundOf=none/\(Frame.finish {f with defers:=Y} x).kind=.normal:=fun K=>by
 have:=H K;unfold Frame.finish;split<;>exact this
theorem aeG{a b:Option Nat}(h:LO r a b)(e:a=none):b=none:=by
 cases h with
 |none=>rfl
 |some _=>cases e
theorem Ih(F:ly P){l l':List Frame}{s s':Sem Next}(h:SR P (NX (f.roundOf.isNone)) r s s')(C:FR P r (n==0) f f')(U:n=0->f.roundOf=none/\f.kind=.normal)(g:SL P r cs gM n l l')(hw:W r c v w):
  ST P r c cs gM v w (stepG.apply P true f l none s v) (stepG.apply P true f' l' none s' w):=by
 have A:(f.kind==CallKind.early)=false:=by rcases C.kinds with h|h<;>rw[h]<;>rfl
 have B:(f'.kind==CallKind.early)=false:=by rw[C.kind];exact A
 have R:∀(x:Value),n=0->(f.finish x).roundOf=none/\(f.finish x).kind=.normal:=fun x N=>by
  have:=U N;unfold Frame.finish;split<;>exact this
 have T:∀(x:List PanicEntry),n=0->(f.raise x).roundOf=none/\(f.raise x).kind=.normal:=fun x N=>by
  have:=U N;unfold Frame.raise;split<;>exact this
 have run:=h.run F.sK #[] hw;by_cases H:v.drawn+c<(s.run P v).world.drawn/\w.drawn+c<(s'.runT P w #[]).1.world.drawn
 ·refine .lC (cD H.1 (N0 v)) (cD ?_ (N0 w));have:=H.2;rw[Sem.runT_eq]at this;exact this
 unfold stepG.apply;simp only[if_true,A,B,aB,if_false];have ev:∀{fs:Array Event} {u:Nat},(∀e∈fs,e∈(#[]:Array Event)\/lT r w u e)->∀e∈seen P f'.fn fs,lT r w u e:=fun V e D=>(V e (mem_seen _ _ e D)).elim (fun x=>by simp at x) id;have M:(s.runT P v #[]).1=s.run P v:=by rw[Sem.runT_eq]
 generalize E3:s.runT P v #[]=sv at M;generalize Z:s'.runT P w #[]=sw at run;obtain⟨rv,p⟩:=sv;simp only at M;subst M;simp only;generalize X:s.run P v=rv at run;cases run with
 |lC h k=>rw[X,Z]at H;exact absurd ⟨h,k⟩ H
 |lost h=>
  rename_i x v1 y;rcases h with⟨u,rfl,hu⟩|⟨y,rfl⟩
  ·cases u<;>first|exact .ended|(simp[Dz]at hu)
  ·exact .ended
 |halt r1 c1 o V D=>
  cases V with
  |panic E=>exact ST.after o (.go r1 c1 ((C.mono o.le).raise (oE.cons (x:=⟨_,false,false⟩) (y:=⟨_,false,false⟩) ⟨E,rfl,rfl⟩ .nil)) (g.mono o.le) (T _) (.refl o.wl) lz) _ _ (ev D)
 |ok r1 c1 o G D=>
  have Y:=C.mono o.le;have K:=g.mono o.le;cases G with
  |value E=>exact ST.after o (.go r1 c1 (Y.finish E) K (R _) (.refl o.wl) lz) _ _ (ev D)
  |skip=>exact ST.after o (.go r1 c1 (Y.finish (.tuple rfl (fun i x x' e=>by simp at e))) K (R _) (.refl o.wl) lz) _ _ (ev D)
  |enter b O=>
   refine ST.after o ?_ _ _ (ev D);dsimp only;have I:=C.todo;split
   ·rename_i e;rw[e]at I;generalize f'.todo=z at I;cases I with
    |cons a _=>cases a
   ·split
    ·rename_i e;rw[e]at I;generalize f.todo=z at I;cases I with
     |rest _ _ _ d=>simp[AR]at d
     |cons a _=>cases a
    ·exact .go r1 c1 (FR.enter F b O (.inl rfl)) (.cons Y U K) (fun h=>by omega) (.refl o.wl) lz
  |defer hd=>exact ST.after o (.go r1 c1 (FR.finish (f:={f with defers:=_::f.defers}) (f':={f' with defers:=_::f'.defers}) ⟨Y.fn,Y.tmps,Y.todo,.cons hd Y.defers,Y.mode,Y.kind,Y.kinds,Y.round,Y.has⟩ (.tuple rfl (fun i x x' e=>by simp at e))) K (acI U _ _) (.refl o.wl) lz) _ _ (ev D)
  |round t I O Q=>exact ST.after o (.go r1 c1 (FR.roundOf F t _ I O Q (.inl rfl)) (.cons Y U K) (fun h=>by omega) (.refl o.wl) lz) _ _ (ev D)
  |recover S=>
   have J:f.roundOf=none:=by simpa using S
   have L:f'.roundOf=none:=aeG C.round J;simp only[J,L];refine ST.after o ?_ _ _ (ev D);rcases Xd Y U K with⟨q,j⟩|⟨x,x',m,m',q,j,G,hm⟩
   ·rw[q,j];exact .go r1 c1 (Y.finish .nilIface) K (R _) (.refl o.wl) lz
   ·rw[q,j];exact .go r1 c1 (Y.finish G) hm (R _) (.refl o.wl) lz
end
end Ren
end Go.Proofs.YtdcjnhipenbcfaaGreatDoor
