/-
  Own text. Part 2 of what the claim rests on.
-/
import Derived.Test.YtdcjnhipenbcfaaGreatDoorPk1
import Derived.Conc.Own
import Derived.Conc.LoneCalls
import Derived.Conc.Beside
import Derived.Conc.WrSpec
import Derived.Conc.AtomicLaws2
import Derived.Conc.ClockLaws
import Derived.Conc.MarkLaws
import Derived.Conc.SmallLaws
import Derived.Conc.TokenWalk
import Derived.Laws.LoneSync
import Derived.Conc.Own2
import Derived.Conc.CrowdComm
import Derived.Laws.Tables
import Derived.Test.YtdcjnhipenbcfaaGreatDoorProg
import Derived.KernelRfl
set_option linter.unusedVariables false
set_option linter.unusedSectionVars false
set_option linter.unusedSimpArgs false
set_option maxRecDepth 100000
set_option maxHeartbeats 16000000
open Array renaming foldl_toList->bR,getElem?_eq_getElem->bS,getElem?_map->bT,mem_of_getElem?->bU,toArray_toList->bV,getElem?_eq_some_iff->cL,getElem?_setIfInBounds_ne->cM,mapM_eq_mapM_toList->cO,mem_map->cP,getElem?_append_left->dy,getElem?_append_right->dz,getElem?_modify->dA,mem_append->dB,toList_append->dC,toList_filter->dD,toList_zipIdx->dE
open Bool renaming false_eq_true->bX,eq_iff_iff->cQ,not_eq_true->cR
open Classical renaming choose->bI,byContradiction->cg,choose_spec->dJ
open Go renaming Frame->ae,World->af,Value->ah,TypeId->ai,stepG->aj,FuncId->ao,Goroutine->ar,MapEntry->ay,execOp->aA,Trace->aD,IntKind->aI,undef->aJ,Operand->aL,doReturn->aM,runNT->aN,Event->aO,MemOp->aP,underlying->aQ,Deferred->aT,Ending->aU,GStep->aV,PanicEntry->aX,Question->aY,typeInfo->a_,unwind->bc,BinOp->bg,Touch->bu,runN_add->bC,yielded->bD,TypeDesc->bF,tryRecover->bQ,FrameMode->cu,bodyPost->cD,eqGuard->cE,mayWake->cH,newRow->cI,run_store->cJ,runtimePanic->cK,CallKind->cV,callDeferred->dp,sameAddr->dv,step_lone_ended->dx,behindNumber->ey,events_store->ez,movedPointer->eA
open Go.Act renaming put->bH
open Go.Builtin renaming firstCells->bm,lenOf->bY,min2->bZ,unsafeAdd_->b_,unsafeString_->cf,append_->cS,cap_->cT,min_->cU,mayShare->dG,unsafeSliceData_->dH,zeroCells->dI
open Go.Conc renaming Knows->ax,touchAt->aB,seen_none->aZ,act?_of->bB,semEvents->bG,Deaf_other->bJ,act?_old->bO,lt_of_act?->bP,Before->bW,NoRelease->cz,heard_old->cG,getElem?_append_old->dq,lone_eq_solo->dt,ofEvents_eq->du,runT_crowd_go->eB,semEvents_sync->eC,step_solo_go->eD,woken_quitsD->eE
open Go.Conv renaming unsafePointer->cj,bytesToString->dK
open Go.Deferred renaming ofValue->bE
open Go.Extern renaming findNext->cZ
open Go.Extern.Atomic renaming casT->dL
open Go.Extern.BytealgIndexByte renaming indexByte->dM
open Go.Extern.BytealgMakeNoZero renaming makeNoZero->cW
open Go.Extern.Bytes renaming asByte->dO,bytesOf->dP,loadBytes->dQ
open Go.Extern.Race renaming none_->cX,at_->dR
open Go.Extern.Sync renaming count->ck,semacquire->cm,semrelease->cY,canSpin->dS,none_->dU
open Go.Frame renaming raise->bq,finish_at->cn
open Go.Instr renaming endRound->aK,enterLoop->bh,findNow->bj,sameNow->bp,checkKey->cv,endLoop->cw,findKey->cx,findAsking->c7,getLoop->c8,keyThatStays->c9,lookup->c_,beginRound->dV,buildSlice->dW,mapUpdate->dX,panicnil->dY,sameBits->dZ,takeDeferred->d_,typeAssert->ec
open Go.Machine.mk renaming injEq->eh
open Go.MemAct renaming ofEvent->br,touch?->cy
open Go.MemOp renaming ofEvents->bK
open Go.Op renaming maxDepth->bt,equalIn->bL,intArith->de,intDiv->dh,shift->di,eqGuardIn->eo,twoPlaces->ep
open Go.Region renaming wanted->cB
open Go.Sem renaming runT->au,run_bind'->bk,runT_eq->dk
open Go.Stepped.next renaming injEq->eu
open Go.Value renaming tuple->bN,bool->cC
open Go.World renaming cell?->bA,frozen?->ew
open Go.stepG renaming exec->aH
open List renaming mapM_cons->da,filter_cons->ef,forIn_cons->eg
open Nat renaming le_refl->ak,lt_of_lt_of_le->az,le_trans->aW,lt_or_ge->db,pos_of_ne_zero->dc,add_sub_cancel_left->ei,eq_zero_or_pos->ej,exists_eq_add_of_le->ek
open Option renaming map_eq_some_iff->bM,map_some->dj,getD_some->et
open Or renaming imp->cA
namespace Go.Proofs.YtdcjnhipenbcfaaGreatDoor
noncomputable section
variable {a' ad b':Addr}{bz main rd said:Bool}{d':aT}{e:aO}{f f' f0 f1 fr g1:ae}{cs gS l l':List ae}{kr:List Item}{I5 Z:Loc->Prop}{c i:Nat}{K S S' S1 SF X X1 XF:Nat->Prop}{o':Obj}{o:Option Nat}{o2:Option Obj}{P:Program}{pos:String}{dst src:ai}{k' v' x x' y I:ah}{u1 v0 v1 w w2:af}
namespace Ren
section
variable[gm]{P:Program}{r:Rn}{α:Type}{A:Rn->α->α->Prop}
theorem acu(h:V r x x'):(∃base Y n c,x=.slice base n c/\x'=.slice Y n c/\AO r base Y)\/∀b n c,x≠.slice b n c:=by
 cases h with
 |kQ l c=>exact .inl ⟨none,none,l,c,rfl,rfl,.inl ⟨rfl,rfl⟩⟩
 |slice l c K=>exact .inl ⟨_,_,l,c,rfl,rfl,.inr ⟨_,_,rfl,rfl,K⟩⟩
 |_=>exact .inr fun _ _ _ e=>by cases e
theorem O2(Z:qw P)(H:ai)(size C need R n:Nat)(F:V r x x')(J:V r y I):
  SR P V r (do
    let Y<-choose (.appendCap need R H)
    askRoom (Y *(<-a_ H).bytes)
    let old<-bm size C x
    let new<-bm size n y
    let rest:=dI (<-zeroValue H).cells (Y-need)
    pure (Value.slice (some (<-cI H (old++new++rest))) need Y))
   (do
    let Y<-choose (.appendCap need R H)
    askRoom (Y *(<-a_ H).bytes)
    let old<-bm size C x'
    let new<-bm size n I
    let rest:=dI (<-zeroValue H).cells (Y-need)
    pure (Value.slice (some (<-cI H (old++new++rest))) need Y)):=by
 refine SR.bind (qS _) ?_;rintro t1 N _ l1 rfl;refine SR.bind (qR _) ?_;rintro t2 i _ l2 ⟨rfl,_⟩;refine SR.bind (F7 _) ?_;rintro t3 _ _ K _;refine SR.bind (zk _ _ (((F.mono l1).mono l2).mono K)) ?_;intro t4 o o' l4 U;refine SR.bind (zk _ n ((((J.mono l1).mono l2).mono K).mono l4)) ?_;intro t5 c c' L A;refine SR.bind (vT Z _) ?_;intro O z S l6 B;refine SR.bind (vF _ ((((U.mono L).append A).mono l6).append (B.cells.s_ _))) ?_;intro Q a a' M D;exact .pure (.slice _ _ D)
theorem zt{Y:Type}{s s':Sem Y}{f f':Y->Sem α}(h:SR P (fun _ _ _=>False) r s s'):SR P A r (s.bind f) (s'.bind f'):=SR.bind h fun _ _ _ _ e=>e.elim
theorem RQ{e:RuntimeError}(h:P2 e){Y:Type}:SR P (fun _ (_ _:Y)=>False) r (cK e) (cK e):=mr h
theorem mW(t:ai):SR P (fun _ d d'=>d=d'/\P.underlying t=some d) r (aQ t) (aQ t):=by
 refine SR.bind mX ?_;rintro s p q _ ⟨Y,K⟩;rw[Y,K];cases h:P.underlying t with
 |some i=>exact .pure ⟨rfl,rfl⟩
 |none=>exact gn _
theorem aaJ(Z:qw P)(N:Array ai)(t:ai)(p:∀O d,N[1]?=some O->P.underlying O=some d->∀k,d≠.int k){a a':Array ah}(h:VA r a a'):SR P V r (cS N t a) (cS N t a'):=by
 unfold cS;cases m:N[0]? with
 |none=>exact gn _
 |some sT=>
  cases G:a[0]? with
  |none=>rw[h.none G];exact gn _
  |some s=>
   have⟨s',f,q⟩:=h.get G;rw[f];cases W:a[1]? with
   |none=>rw[h.none W];exact gn _
   |some x=>
    have⟨x',g,u⟩:=h.get W;rw[g];simp only;refine SR.bind (kv sT) ?_;rintro t1 d _ l1 rfl;cases d with
    |slice Y=>
     simp only;rcases acu q with⟨base,Q,K,B,rfl,rfl,o⟩|U
     ·simp only;refine SR.bind (mI Y) ?_;rintro t2 size _ l2 rfl;have J:=(u.mono l1).mono l2;have F:=(o.mono l1).mono l2;cases hz:N[1]? with
      |none=>
       refine SR.bind (A:=fun _ z E=>z=false/\E=false) (.pure ⟨rfl,rfl⟩) ?_;rintro t3 _ _ L ⟨rfl,rfl⟩;have D:=J.mono L;have R:=F.mono L;change SR P V t3 (Sem.bind (bY x) _) (Sem.bind (bY x') _);refine SR.bind (Hc D) ?_;rintro t4 n _ l4 rfl;refine iD (fun S=>?_) (fun S=>?_)
       ·change SR P V t4 (Sem.bind (bm size n x) _) (Sem.bind (bm size n x') _);refine SR.bind (zk size n (D.mono l4)) ?_;intro t5 c c' I C;rcases R with⟨rfl,rfl⟩|⟨b,b',rfl,rfl,H⟩
        ·exact .pure (.kQ _ _)
        ·refine SR.bind (xF 0 (((H.mono l4).mono I).add _) C.toList) ?_;rintro X _ _ l6 _;exact .pure (.slice _ _ (((H.mono l4).mono I).mono l6))
       ·change SR P V t4 (Sem.bind (a_ Y) _) (Sem.bind (a_ Y) _);refine SR.bind (qR Y) ?_;rintro t5 i _ I ⟨rfl,_⟩;refine iD (fun _=>?_) (fun _=>?_)
        ·exact zt (RQ (e:=.error "growslice: len out of range") trivial)
        ·change SR P V t5 (Sem.bind (a_ Y) _) (Sem.bind (a_ Y) _);refine SR.bind (qR Y) ?_;rintro X j _ l6 ⟨rfl,_⟩;refine iD (fun _=>?_) (fun _=>?_)
         ·refine .lost fun v=>?_;have⟨b,e⟩:=Nk (P:=P) size K n base x v;change∃h v1,Sem.run P (Sem.bind (Sem.bind (dG size K n base x) _) _) v=.halt h v1/\rl h;rw[bk,bk,e];cases b
          ·exact⟨_,_,rfl,.inl ⟨_,rfl,rfl⟩⟩
          ·exact⟨_,_,rfl,.inl ⟨_,rfl,rfl⟩⟩
         ·exact O2 Z Y size K (K+n) B n ((AO.mono ((l4.trans I).trans l6) R).slice _ _) (((D.mono l4).mono I).mono l6)
      |some O=>
       refine SR.bind (mW O) ?_;rintro y d _ T ⟨rfl,hd⟩;refine SR.bind (A:=fun _ z E=>z=false/\E=false) (.pure ?_) ?_
       ·simp_all
       rintro t3 _ _ M ⟨rfl,rfl⟩;have L:=T.trans M;have D:=J.mono L;have R:=F.mono L;change SR P V t3 (Sem.bind (bY x) _) (Sem.bind (bY x') _);refine SR.bind (Hc D) ?_;rintro t4 n _ l4 rfl;refine iD (fun S=>?_) (fun S=>?_)
       ·change SR P V t4 (Sem.bind (bm size n x) _) (Sem.bind (bm size n x') _);refine SR.bind (zk size n (D.mono l4)) ?_;intro t5 c c' I C;rcases R with⟨rfl,rfl⟩|⟨b,b',rfl,rfl,H⟩
        ·exact .pure (.kQ _ _)
        ·refine SR.bind (xF 0 (((H.mono l4).mono I).add _) C.toList) ?_;rintro X _ _ l6 _;exact .pure (.slice _ _ (((H.mono l4).mono I).mono l6))
       ·change SR P V t4 (Sem.bind (a_ Y) _) (Sem.bind (a_ Y) _);refine SR.bind (qR Y) ?_;rintro t5 i _ I ⟨rfl,_⟩;refine iD (fun _=>?_) (fun _=>?_)
        ·exact zt (RQ (e:=.error "growslice: len out of range") trivial)
        ·change SR P V t5 (Sem.bind (a_ Y) _) (Sem.bind (a_ Y) _);refine SR.bind (qR Y) ?_;rintro X j _ l6 ⟨rfl,_⟩;refine iD (fun _=>?_) (fun _=>?_)
         ·refine .lost fun v=>?_;have⟨b,e⟩:=Nk (P:=P) size K n base x v;change∃h v1,Sem.run P (Sem.bind (Sem.bind (dG size K n base x) _) _) v=.halt h v1/\rl h;rw[bk,bk,e];cases b
          ·exact⟨_,_,rfl,.inl ⟨_,rfl,rfl⟩⟩
          ·exact⟨_,_,rfl,.inl ⟨_,rfl,rfl⟩⟩
         ·exact O2 Z Y size K (K+n) B n ((AO.mono ((l4.trans I).trans l6) R).slice _ _) (((D.mono l4).mono I).mono l6)
     ·cases q with
      |kQ l c=>exact absurd rfl (U _ _ _)
      |slice l c w=>exact absurd rfl (U _ _ _)
      |_=>exact gn _
    |_=>exact gn _
end
section
variable[gm]{P:Program}{r:Rn}{α:Type}{A:Rn->α->α->Prop}
theorem QW{Y γ:Type}(g:Y->Sem γ)(h:∀b t,SR P iy t (g b) (g b)):∀(l:List Y) r,SR P iy r (l.mapM g) (l.mapM g)
 |[],r=>by exact .pure rfl
 |b::l,r=>by
  rw[da];refine SR.bind (h b r) ?_;rintro t x _ l1 rfl;refine SR.bind (QW g h l t) ?_;rintro u xs _ l2 rfl;exact .pure rfl
theorem acv{Y γ:Type}(g:Y->Sem γ)(h:∀b t,SR P iy t (g b) (g b))(a:Array Y):SR P iy r (a.mapM g) (a.mapM g):=by
 rw[cO];refine SR.bind (QW g h _ r) ?_;rintro t x _ l rfl;exact .pure rfl
inductive PL(r:Rn):List (Nat×ah)->List (Nat×ah)->Prop
 |nil:PL r [] []
 |cons (i:Nat) {x y:ah} {xs ys:List (Nat×ah)}:V r x y->PL r xs ys->PL r ((i,x)::xs) ((i,y)::ys)
theorem PL.mono{s:Rn}(h:Le r s){xs ys:List _}(k:PL r xs ys):PL s xs ys:=by
 induction k with
 |nil=>exact .nil
 |cons i x _ Y=>exact .cons i (x.mono h) Y
theorem P3(off:Nat):∀{xs ys:List _} k {c c':Array _},VL r xs ys->VA r c c'->
  VA r ((xs.zipIdx k).foldl (fun cs p=>cs.setIfInBounds (off+p.2) p.1) c) ((ys.zipIdx k).foldl (fun cs p=>cs.setIfInBounds (off+p.2) p.1) c')
 |_,_,k,c,c',.nil,h=>h
 |_,_,k,c,c',.cons x xs,h=>by
  exact P3 off (k+1) xs (h.set _ x)
theorem Cr(place:Nat->Option _):∀{Y H:List _} {c c':Array _},PL r Y H->VA r c c'->
  (Instr.fill place c Y=none/\Instr.fill place c' H=none)\/∃d d',Instr.fill place c Y=some d/\Instr.fill place c' H=some d'/\VA r d d'
 |_,_,c,c',.nil,h=>.inr ⟨c,c',rfl,rfl,h⟩
 |_,_,c,c',.cons i K rest,h=>by
  unfold Instr.fill;cases place i with
  |none=>exact .inl ⟨rfl,rfl⟩
  |some p=>
   have⟨off,size⟩:=p;simp only;rw[<-K.cells.size,<-h.size];split
   ·simp
   ·refine Cr _ rest ?_;rw[<-bR,<-bR,dE,dE];exact P3 off 0 K.cells.toList h
theorem acw(Z:qw P)(t:ai){C F:Array _}(h:PL r C.toList F.toList):SR P V r (Instr.build t C) (Instr.build t F):=by
 refine SR.bind (vT Z t) ?_;intro t1 z B l1 U;refine SR.bind (kv t) ?_;rintro t2 d _ l2 rfl;have I:=U.cells.mono l2;have A:=(h.mono l1).mono l2;cases d with
 |struct D=>
  refine SR.bind (acv _ (fun f u=>SR.bind (mI _) fun _ _ _ _ e=>e▸ .pure rfl) _) ?_;rintro t3 places _ H rfl;rcases Cr _ (A.mono H) (I.mono H)with⟨Y,K⟩|⟨d,d',Y,K,hd⟩
  ·rw[Y];exact gn _
  ·rw[Y,K];exact .pure (.Da hd)
 |array len R=>
  refine SR.bind (mI _) ?_;rintro t3 size _ H rfl;rcases Cr _ (A.mono H) (I.mono H)with⟨Y,K⟩|⟨d,d',Y,K,hd⟩
  ·rw[Y];exact gn _
  ·rw[Y,K];exact .pure (.Da hd)
 |_=>exact gn _
theorem W8(Z:qw P)(t:ai)(len:Nat){C F:Array _}(h:PL r C.toList F.toList):SR P V r (dW t len C) (dW t len F):=by
 refine SR.bind (kv t) ?_;rintro t1 d _ l1 rfl;cases d with
 |slice Y=>
  refine SR.bind (mI _) ?_;rintro t2 size _ l2 rfl;refine iD (fun _=>zt (iw _)) (fun _=>?_);have go:∀{t3:Rn} {z K:Array _},Le t2 t3->VA t3 z K->SR P V t3
    (match Instr.fill (fun i=>some (i *size,size)) ((Array.range (len *size)).map (z[· %z.size]!)) C.toList with
     |some cells=>do pure (Value.slice (some (<-cI Y cells)) len len)
     |_=>stuck "buildSlice: a part of the wrong size")
    (match Instr.fill (fun i=>some (i *size,size)) ((Array.range (len *size)).map (K[· %K.size]!)) F.toList with
     |some cells=>do pure (Value.slice (some (<-cI Y cells)) len len)
     |_=>stuck "buildSlice: a part of the wrong size"):=by
   intro t3 z K R D;rcases Cr _ (((h.mono l1).mono l2).mono R) (D.Db _)with⟨H,I⟩|⟨d,d',H,I,hd⟩
   ·rw[H];exact gn _
   ·rw[H,I];exact SR.bind (vF _ hd) fun _ _ _ _ e=>.pure (.slice _ _ e)
  refine iD (fun _=>?_) (fun _=>?_)
  ·exact go (.refl _) .nil
  ·refine SR.bind (vT Z _) ?_;intro t3 z K R D;exact go R D.cells
 |_=>exact gn _
def plainKey(d:bF):=(∃k,d=.int k)\/d=.string\/d=.bool
theorem Nl(e:Bool)(t:ai)(v v':ah)(h:∀d,P.underlying t=some d->plainKey d):SR P iy r (cv e 10000 t v) (cv e 10000 t v'):=by
 refine SR.bind (mW t) ?_;rintro t1 d _ l1 ⟨rfl,hd⟩;rcases h d hd with⟨k,rfl⟩|rfl|rfl<;>exact .pure rfl
inductive Full:ah->Prop
 |int (k:aI) (n:Int):Full (.int k n)
 |string (s:ByteArray):Full (.string s)
 |bool (b:Bool):Full (.bool b)
 |ptr (a:Addr):Full (.pointer (some a))
def Met(k:ah)(es:List ay)(i j:Nat):=Full k/\i<=j/\∃x,es[j-i]?=some x/\Full x.key
theorem Met.cons{k:ah}{es:List _}{i j:Nat}(x:ay)(h:Met k es (i+1) j):Met k (x::es) i j:=by
 have⟨Y,H,y,D,K⟩:=h;refine⟨Y,by omega,y,?_,K⟩;rw[show j-i=(j-(i+1))+1 by omega];simp_all
theorem M0{d:bF}{k e:ah}{b:Bool}(h:bp d k e=some b):Full k/\Full e:=by
 unfold bp at h;split at h
 ·exact⟨.int _ _,.int _ _⟩
 ·exact⟨.string _,.string _⟩
 ·exact⟨.bool _,.bool _⟩
 ·cases h
def Blank(x:ah):=x=.tuple #[]
theorem Yc{d:bF}{k e e':ah}(hd:plainKey d)(h:V r k k')(h':V r e e')(n:¬Blank k)(Y:¬Blank e):bp d k' e'=bp d k e:=by
 cases h with
 |blank _=>exact absurd rfl n
 |_=>
  cases h' with
  |blank _=>exact absurd rfl Y
  |_=>rcases hd with⟨j,rfl⟩|rfl|rfl<;>rfl
omit [gm]in
theorem W9{d:bF}{k e:ah}(h:Blank k\/Blank e):bp d k e=none:=by
 rcases h with h|h<;>(rw[h];cases d<;>first|rfl|(cases k<;>rfl))
omit [gm]in
theorem Nn{t:ai}{k e:ah}(hk:∀d,P.underlying t=some d->plainKey d)(h:Blank k\/Blank e)(v:af):∃x v1,(Op.equal t k e).run P v=.halt x v1/\rl x:=by
 unfold Op.equal bt;rw[show(10000:Nat)=9999+1 from rfl];unfold bL aQ program;cases hd:P.underlying t with
 |none=>exact⟨.stuck "no such type",v,by simp[Sem.run,bind,Sem.bind,hd,stuck],.inr ⟨_,rfl⟩⟩
 |some d=>
  have key:∀{x:Sem Bool},(∃u,x=unsupported u/\CU u=false)\/(∃y,x=stuck y)->∃z v1,x.run P v=.halt z v1/\rl z:=by
   rintro x (⟨u,rfl,Y⟩|⟨y,rfl⟩)
   ·exact⟨_,_,rfl,.inl ⟨_,rfl,Y⟩⟩
   ·exact⟨_,_,rfl,.inr ⟨_,rfl⟩⟩
  simp only[bind,Sem.bind,Sem.run,hd];rcases hk d hd with⟨j,rfl⟩|rfl|rfl<;>rcases h with h|h<;>rw[h]<;>(first|(cases k with|pointer a=>(cases a<;>exact key (by first|exact .inl ⟨_,rfl,rfl⟩|exact .inr ⟨_,rfl⟩))|_=>exact key (by first|exact .inl ⟨_,rfl,rfl⟩|exact .inr ⟨_,rfl⟩))|(cases e with|pointer a=>(cases a<;>exact key (by first|exact .inl ⟨_,rfl,rfl⟩|exact .inr ⟨_,rfl⟩))|_=>exact key (by first|exact .inl ⟨_,rfl,rfl⟩|exact .inr ⟨_,rfl⟩)))
omit [gm]in
theorem aaK{t:ai}{d:bF}{k e:ah}{b:Bool}(hd:P.underlying t=some d)(h:bp d k e=some b)(v:af):(Op.equal t k e).run P v=.ok b v:=by
 unfold Op.equal bt;rw[show(10000:Nat)=9999+1 from rfl];unfold bL aQ program;simp only[bind,Sem.bind,Sem.run,hd];unfold bp at h;split at h
 ·split at h
  ·rename_i hk;subst hk;rw[<-Option.some.inj h];simp[pure,Sem.bind]
  ·cases h
 ·rw[<-Option.some.inj h];rfl
 ·rw[<-Option.some.inj h];rfl
 ·cases h
inductive EL(r:Rn):List ay->List ay->Prop
 |nil:EL r [] []
 |cons {x y:ay} {xs ys:List ay}:En r x y->EL r xs ys->EL r (x::xs) (y::ys)
theorem EL.mono{s:Rn}(h:Le r s){xs ys:List _}(k:EL r xs ys):EL s xs ys:=by
 induction k with
 |nil=>exact .nil
 |cons x _ Y=>exact .cons (x.mono h) Y
def ahp(P:Program)(t:ai)(k:ah)(es:List ay):Prop:=∀(i:Nat) (v:af),∃x v1,(c7 t k es i).run P v=.halt x v1/\rl x
theorem Np{t:ai}{d:bF}(R:P.underlying t=some d)(hd:plainKey d){k:ah}(h:V r k k'):∀{es iI:List _} i,EL r es iI->
  (bj d k es i=none/\ahp P t k es)\/
  (bj d k es i=none/\bj d k' iI i=none)\/(bj d k es i=some none/\bj d k' iI i=some none)\/
   ∃j v v',bj d k es i=some (some (j,v))/\bj d k' iI i=some (some (j,v'))/\V r v v'/\Met k es i j
 |_,_,i,.nil=>.inr (.inr (.inl ⟨rfl,rfl⟩))
 |_,_,i,.cons (x:=x) (y:=y) D rest=>by
  have hk:∀d',P.underlying t=some d'->plainKey d':=fun d' e=>by simp_all
  by_cases Y:Blank k\/Blank x.key
  ·refine .inl ⟨by unfold bj;rw[W9 Y],fun j v=>?_⟩;have⟨z,v1,e,K⟩:=Nn hk Y v;refine⟨z,v1,?_,K⟩;show(Sem.bind _ _).run P v=_
   rw[bk,e];rfl
  ·have n1:=fun z=>Y (.inl z);have n2:=fun z=>Y (.inr z);unfold bj;rw[Yc hd h D.key n1 n2];cases H:bp d k _ with
   |none=>exact .inr (.inl ⟨rfl,rfl⟩)
   |some b=>
    cases b with
    |true=>exact .inr (.inr (.inr ⟨i,x.val,y.val,rfl,rfl,D.val,(M0 H).1,ak _,x,by simp,(M0 H).2⟩))
    |false=>
     rcases Np R hd h _ rest with⟨I,A⟩|q
     ·refine .inl ⟨I,fun j v=>?_⟩;obtain⟨z,v1,e,K⟩:=A _ v;refine⟨z,v1,?_,K⟩;show(Sem.bind _ _).run P v=_
      rw[bk,aaK R H v];exact e
     ·exact .inr (q.imp id (cA id fun⟨j,v,v',a1,a2,a3,a4⟩=>⟨j,v,v',a1,a2,a3,a4.cons x⟩))
def NW(r:Rn)(x y:Option (Addr×Bool)):=(x=none/\y=none)\/∃a a' t,x=some (a,t)/\y=some (a',t)/\Ad r a a'
theorem Nq{b b':Nat}(h:r b=some b'):SR P NW r (numberAt b) (numberAt b'):=by
 refine SR.bind (pF h) ?_;rintro t x _ l rfl;split
 ·exact .pure (.inl ⟨rfl,rfl⟩)
 ·refine SR.bind (oh (l _ _ h)) ?_;intro u o o' _ Y;cases Y with
  |number l a=>exact .pure (.inr ⟨_,_,_,rfl,rfl,a⟩)
  |_=>exact .pure (.inl ⟨rfl,rfl⟩)
theorem vH{a:Addr}(h:Ad r a a'):SR P (fun s x y=>Ad s x.1 y.1/\x.2=y.2) r (ey a) (ey a'):=by
 refine SR.bind (Nq h.block) ?_;rintro t x y l (⟨rfl,rfl⟩|⟨_,_,_,rfl,rfl,Y⟩)
 ·exact .pure ⟨h.mono l,rfl⟩
 ·exact .pure ⟨Y,rfl⟩
theorem Ad.eq_iff{a b:Addr}(h:Ad r a a')(k:Ad r b b'):(a'==b')=(a==b):=by
 rw[cQ];simp;constructor
 ·intro e;have Y:=r.inj _ _ _ h.block (by rw[k.block,e]);have K:a.off=b.off:=by rw[<-h.off,<-k.off,e]
  have H:a.spot=b.spot:=by rw[<-h.spot,<-k.spot,e]
  have⟨x,y,z⟩:=a;simp_all
 ·intro e;have Y:=by have:=h.block;rw[e,k.block]at this;exact(Option.some.inj this).symm
  have K:a'.off=b'.off:=by rw[h.off,k.off,e]
  have H:a'.spot=b'.spot:=by rw[h.spot,k.spot,e]
  have⟨x,y,z⟩:=a';simp_all
theorem Ad.H2{a b:Addr}(h:Ad r a a')(k:Ad r b b'):(a'.block==b'.block)=(a.block==b.block):=by
 rw[cQ];simp;constructor
 ·exact fun e=>r.inj _ _ _ h.block (by rw[k.block,e])
 ·intro e;have:=h.block;rw[e,k.block]at this;simp_all
theorem P4(L:gm.size=P.globals.size){t:ai}(hk:∀d,P.underlying t=some d->plainKey d)(T:V r x x')(G:V r y I):SR P (fun _ b b'=>b=b'/\(b=true->Full x/\Full y)) r (Op.equal t x y) (Op.equal t x' I):=by
 unfold Op.equal bt;rw[show(10000:Nat)=9999+1 from rfl];unfold bL;refine SR.bind (mW t) ?_;rintro t1 d _ l1 ⟨rfl,hd⟩;have D:=T.mono l1;have Y:=G.mono l1;rcases hk d hd with⟨k,rfl⟩|rfl|rfl
 ·cases D with
  |int j n1=>
   cases Y with
   |int Q n2=>exact iD (fun _=>.pure ⟨rfl,fun _=>⟨.int _ _,.int _ _⟩⟩) (fun _=>gn _)
   |ptr B=>
    by_cases R:n1=0
    ·subst R;exact .pure ⟨rfl,fun h=>by cases h⟩
    ·simp only;split<;>first|(exfalso;simp_all;done)|exact .pure ⟨rfl,fun h=>by cases h⟩|exact iw _|exact gn _
   |nilPtr=>exact iw _
   |_=>exact gn _
  |nilPtr=>cases Y<;>first|exact iw _|exact gn _
  |ptr M=>
   cases Y with
   |int Q n2=>
    by_cases R:n2=0
    ·subst R;exact .pure ⟨rfl,fun h=>by cases h⟩
    ·simp only;split<;>first|(exfalso;simp_all;done)|exact .pure ⟨rfl,fun h=>by cases h⟩|exact iw _|exact gn _
   |ptr B=>
    simp only;refine SR.bind (vH M) ?_;rintro t2 ⟨a1,la⟩ ⟨a2,X⟩ l2 ⟨A,_⟩;refine SR.bind (vH (B.mono l2)) ?_;rintro t3 ⟨E,z⟩ ⟨W,Z⟩ S ⟨H,_⟩;have K:=A.mono S;simp only at K H;refine SR.bind mX ?_;rintro t4 p q l4 ⟨N,O⟩;rw[N,O];have F:=K.H2 H;have J:=K.eq_iff H;have U:=t3.jD _ _ K.block;rw[L]at U;simp only[F,J,decide_eq_decide.2 U.symm];refine iD (fun _=>?_) (fun _=>?_)
    ·refine SR.bind (vG (K.mono l4)) ?_;rintro t5 u _ C rfl;refine SR.bind (vG ((H.mono l4).mono C)) ?_;rintro c v _ l6 rfl;exact .pure ⟨rfl,fun _=>⟨.ptr _,.ptr _⟩⟩
    ·refine SR.bind (qR t) ?_;rintro t5 i _ C ⟨rfl,_⟩;split
     ·exact iD (fun _=>.pure ⟨rfl,fun _=>⟨.ptr _,.ptr _⟩⟩) (fun _=>iw _)
     ·exact iw _
   |_=>exact iw _
  |_=>cases Y<;>first|exact iw _|exact gn _
 ·cases D with
  |string a=>
   cases Y with
   |string b=>exact .pure ⟨rfl,fun _=>⟨.string _,.string _⟩⟩
   |_=>exact gn _
  |_=>exact gn _
 ·cases D with
  |bool a=>
   cases Y with
   |bool b=>exact .pure ⟨rfl,fun _=>⟨.bool _,.bool _⟩⟩
   |_=>exact gn _
  |_=>exact gn _
theorem MK(Y:gm.size=P.globals.size){t:ai}(hk:∀d,P.underlying t=some d->plainKey d){k:ah}:∀{es iI:List _} i {r:Rn},V r k k'->EL r es iI->
  SR P (fun r o o'=>(o=none/\o'=none)\/∃j v v',o=some (j,v)/\o'=some (j,v')/\V r v v'/\Met k es i j) r (c7 t k es i) (c7 t k' iI i)
 |_,_,i,r,h,.nil=>.pure (.inl ⟨rfl,rfl⟩)
 |_,_,i,r,h,.cons D rest=>by
  refine SR.bind (P4 Y hk h D.key) ?_;rintro t1 b _ l1 ⟨rfl,H⟩;refine iD (fun K=>.pure (.inr ⟨i,_,_,rfl,rfl,D.val.mono l1,(H K).1,ak _,_,by simp,(H K).2⟩)) (fun _=>?_);exact(MK Y hk _ (h.mono l1) (rest.mono l1)).imp fun t a a' _ R=>R.imp id fun⟨j,v,v',a1,a2,a3,a4⟩=>⟨j,v,v',a1,a2,a3,a4.cons _⟩
theorem Oc(R:gm.size=P.globals.size){t:ai}(hk:∀d,P.underlying t=some d->plainKey d){k:ah}(h:V r k k'){es iI:List _}(H:EL r es iI):
  SR P (fun r o o'=>(o=none/\o'=none)\/∃j v v',o=some (j,v)/\o'=some (j,v')/\V r v v'/\Met k es 0 j) r (cx t k es) (cx t k' iI):=by
 refine SR.bind (mW t) ?_;rintro t1 d _ l1 ⟨rfl,hd⟩;rcases Np hd (hk d hd) (h.mono l1) 0 (H.mono l1)with⟨Y,K⟩|⟨Y,K⟩|⟨Y,K⟩|⟨j,v,v',Y,K,I,D⟩
 ·rw[Y];exact .lost fun v=>K 0 v
 ·rw[Y,K];exact MK R hk 0 (h.mono l1) (H.mono l1)
 ·rw[Y,K];exact .pure (.inl ⟨rfl,rfl⟩)
 ·rw[Y,K];exact .pure (.inr ⟨j,v,v',rfl,rfl,I,D⟩)
structure EA(r:Rn)(es iI:Array ay):Prop where
 size:es.size=iI.size
 at_:∀(i:Nat) x x',es[i]?=some x->iI[i]?=some x'->En r x x'
theorem EA.mono{s:Rn}(h:Le r s){es iI:Array _}(k:EA r es iI):EA s es iI:=⟨k.size,fun i x x' e e'=>(k.at_ i x x' e e').mono h⟩
theorem EA.toList{c c':Array _}(h:EA r c c'):EL r c.toList c'.toList:=by
 obtain⟨c⟩:=c;obtain⟨c'⟩:=c';obtain⟨Y,K⟩:=h;induction c generalizing c' with
 |nil=>cases c' with
  |nil=>exact .nil
  |cons y ys=>simp at Y
 |cons x xs H=>cases c' with
  |nil=>simp at Y
  |cons y ys=>exact .cons (K 0 x y rfl rfl) (H ys (by simpa using Y) fun i a b e e'=>K (i+1) a b (by simpa using e) (by simpa using e'))
theorem EL.toArray{xs ys:List _}(h:EL r xs ys):EA r xs.toArray ys.toArray:=by
 induction h with
 |nil=>exact⟨rfl,fun i x x' e=>by simp⟩
 |cons x _ H=>
  obtain⟨K,Y⟩:=H;simp at K Y;refine⟨by simp_all,fun i a b e e'=>?_⟩;simp at e e';cases i with
  |zero=>simp at e e';simp_all
  |succ i=>exact Y i a b e e'
theorem EA.push{c c':Array _}(h:EA r c c'){x x':ay}(H:En r x x'):EA r (c.push x) (c'.push x'):=by
 refine⟨by simp[h.size],fun i y I e e'=>?_⟩;have K:=h.size;rw[Array.getElem?_push]at e e';rw[<-K]at e';split at e
 ·simp_all
 ·rename_i Y;rw[if_neg Y]at e';exact h.at_ i y I e e'
theorem EA.get{c c':Array _}(h:EA r c c'){x:ay}(e:c[i]?=some x):∃x',c'[i]?=some x'/\En r x x':=by
 have⟨Y,_⟩:=cL.1 e;have K:=h.size▸Y;exact⟨c'[i],by simp,h.at_ i x _ e (by simp)⟩
theorem EA.none{c c':Array _}(h:EA r c c')(e:c[i]?=none):c'[i]?=none:=by
 simp at e⊢;have:=h.size;omega
theorem EA.modify{c c':Array _}(h:EA r c c')(i:Nat)(f f':ay->ay)(H:∀x x',En r x x'->En r (f x) (f' x')):EA r (c.modify i f) (c'.modify i f'):=by
 refine⟨by simp[h.size],fun j y I e e'=>?_⟩;rw[dA]at e e';by_cases Y:i=j
 ·rw[if_pos Y]at e e';obtain⟨x,D,rfl⟩:=bM.1 e;obtain⟨x',K,rfl⟩:=bM.1 e';exact H x x' (h.at_ j x x' D K)
 ·rw[if_neg Y]at e e';exact h.at_ j y I e e'
theorem O.mapOf{c c':Array _}(h:EA r c c')(n:Nat):O r (.map c n) (.map c' n):=.map n h.size h.at_
theorem aaL(Z:qw P)(C:gm.size=P.globals.size){t:ai}(L:∀k e,P.underlying t=some (.map k e)->∀d,P.underlying k=some d->plainKey d)(M:V r x x')(N:V r y I)(ok:Bool):
  SR P V r (c_ t x y ok) (c_ t x' I ok):=by
 unfold c_;refine SR.bind (mW t) ?_;rintro t1 d _ l1 ⟨rfl,hd⟩;cases d with
 |map key K=>
  have hk:=L key K hd;simp only;have tail:∀{s:Rn} {es iI:Array ay},Le t1 s->EA s es iI->SR P V s
    (do
      cv es.isEmpty 10000 key y
      let o<-cx key y es.toList
      match o with
       |some (_,v)=>(do let(v,Y)<-pure (v,true);pure (if ok=true then bN #[v,.bool Y]else v))
       |none=>(do let z<-zeroValue K;let(v,Y)<-pure (z,false);pure (if ok=true then bN #[v,.bool Y]else v)))
    (do
      cv iI.isEmpty 10000 key I
      let o<-cx key I iI.toList
      match o with
       |some (_,v)=>(do let(v,Y)<-pure (v,true);pure (if ok=true then bN #[v,.bool Y]else v))
       |none=>(do let z<-zeroValue K;let(v,Y)<-pure (z,false);pure (if ok=true then bN #[v,.bool Y]else v))):=by
   intro s es iI l R;have H:iI.isEmpty=es.isEmpty:=by
    have:=R.size;rw[cQ];simp[Array.isEmpty,this]
   rw[H];refine SR.bind (Nl _ _ _ _ hk) ?_;rintro t2 _ _ l2 _;refine SR.bind (Oc C hk (((N.mono l1).mono l).mono l2) (R.mono l2).toList) ?_;rintro t3 o o' Q (⟨rfl,rfl⟩|⟨j,v,v',rfl,rfl,A,_⟩)
   ·refine SR.bind (vT Z K) ?_;intro t4 z S l4 U;cases ok
    ·exact .pure U
    ·exact .pure (.rT (.two U (.bool _)))
   ·cases ok
    ·exact .pure A
    ·exact .pure (.rT (.two A (.bool _)))
  have D:=M.mono l1;cases D with
  |om=>exact tail (.refl _) ⟨rfl,fun i x x' e=>by simp at e⟩
  |map e=>
   refine SR.bind (oh e) ?_;intro t2 o o' l2 F;cases F with
   |map O J B=>exact tail l2 ⟨J,B⟩
   |_=>exact gn _
  |_=>exact gn _
 |_=>exact gn _
end
section
variable[gm]{P:Program}{r:Rn}{α:Type}{A:Rn->α->α->Prop}
theorem Xx{n:Nat}{a a' b b':ah}(Y:Full a)(H:Full b)(h:V r a a')(k:V r b b'):dZ n a' b'=dZ n a b:=by
 have ptr:∀{a a' b b':Addr},Ad r a a'->Ad r b b'->((some a')==some b')=(some a==some b):=fun h k=>by
  have:=h.eq_iff k;simp_all
 cases Y<;>cases h<;>cases H<;>cases k<;>cases n<;>first|rfl|(exact ptr (by omega) (by omega))
theorem Yd{a a' b b':ah}(H:Full a)(R:Full b)(h:V r a a')(k:V r b b'):SR P V r (c9 a b) (c9 a' b'):=by
 unfold c9;rw[Xx H R h k];refine iD (fun _=>.pure k) (fun _=>?_);refine SR.bind (qS _) ?_;rintro t n _ l rfl;by_cases Y:n=0
 ·simp[Y];exact .pure (k.mono l)
 ·simp[Y];exact .pure (h.mono l)
theorem Xy(T:gm.size=P.globals.size){t:ai}(G:∀k e,P.underlying t=some (.map k e)->∀d,P.underlying k=some d->plainKey d){z z':ah}(W:V r x x')(q:V r y I)(O:V r z z'):
  SR P iy r (dX t x y z) (dX t x' I z'):=by
 refine SR.bind (mW t) ?_;rintro t1 d _ l1 ⟨rfl,hd⟩;cases d with
 |map key M=>
  have hk:=G key _ hd;have U:=W.mono l1;cases U with
  |om=>exact mr trivial
  |map e=>
   refine SR.bind (oh e) ?_;intro t2 o o' l2 X;cases X with
   |map L Z S=>
    rename_i es iI;have H:EA t2 es iI:=⟨Z,S⟩;refine SR.bind (Nl _ _ _ _ hk) ?_;rintro t3 _ _ Y _;have K:=((q.mono l1).mono l2).mono Y;refine SR.bind (Oc T hk K (H.mono Y).toList) ?_;rintro t4 o o' l4 (⟨rfl,rfl⟩|⟨j,v,v',rfl,rfl,f,Q,_,xm,C,fx⟩)
    ·exact tU (((l2.trans Y).trans l4) _ _ e) (.mapOf (((H.mono Y).mono l4).push (x:={key:=y,val:=z,born:=L}) (x':={key:=I,val:=z',born:=L}) ⟨K.mono l4,O.mono (((l1.trans l2).trans Y).trans l4),rfl⟩) _)
    ·simp only;have N:=by simpa using C
     have⟨c,D,B⟩:=H.get N;rw[N,D];refine SR.bind (Yd fx Q ((B.key.mono Y).mono l4) (K.mono l4)) ?_;intro t5 E F J R;exact tU ((((l2.trans Y).trans l4).trans J) _ _ e) (.mapOf ((((H.mono Y).mono l4).mono J).modify j (fun e=>{e with key:=E,val:=z}) (fun e=>{e with key:=F,val:=z'}) fun x x' A=>⟨R,O.mono ((((l1.trans l2).trans Y).trans l4).trans J),A.born⟩) _)
   |_=>exact gn _
  |_=>exact gn _
 |_=>exact gn _
theorem acx(t:ai)(R:V r x x'):SR P V r (Instr.range t x) (Instr.range t x'):=by
 refine SR.bind (kv t) ?_;rintro t1 d _ l1 rfl;have fin:∀{s:Rn} {o o':Obj},O s o o'->SR P V s (do pure (Value.pointer (some ⟨<-newObj o,0,none⟩))) (do pure (Value.pointer (some ⟨<-newObj o',0,none⟩))):=fun K=>
  SR.bind (vW K) fun s b b' _ e=>.pure (.ptr ⟨e,rfl,rfl⟩)
 have Y:=R.mono l1;cases d with
 |string=>
  cases Y with
  |string s=>exact fin (.stringIter s 0)
  |_=>exact gn _
 |map k e=>
  cases Y with
  |om=>exact fin (.qe _ _ _)
  |map H=>
   refine SR.bind (oh H) ?_;intro t2 o o' l2 K;cases K with
   |map D A I=>exact fin (.mapIter _ _ _ (l2 _ _ H))
   |_=>exact gn _
  |_=>exact gn _
 |_=>exact gn _
theorem EL.filter{xs ys:List _}(h:EL r xs ys)(f:ay->Bool)(Y:∀x y,En r x y->f y=f x):EL r (xs.filter f) (ys.filter f):=by
 induction h with
 |nil=>exact .nil
 |cons x _ K=>
  rw[ef,ef,Y _ _ x];split
  ·exact .cons x K
  ·omega
theorem EA.filter{c c':Array _}(h:EA r c c')(f:ay->Bool)(Y:∀x y,En r x y->f y=f x):EA r (c.filter f) (c'.filter f):=by
 have:=(h.toList.filter f Y).toArray;rw[<-dD,<-dD,bV,bV]at this;omega
theorem EA.append{a a' b b':Array _}(h:EA r a a')(k:EA r b b'):EA r (a++b) (a'++b'):=by
 have app:∀{xs ys us Y:List _},EL r xs ys->EL r us Y->EL r (xs++us) (ys++Y):=fun h k=>by
  induction h with
  |nil=>exact k
  |cons x _ K=>exact .cons x K
 have:=(app h.toList k.toList).toArray;rw[<-dC,<-dC,bV,bV]at this;omega
theorem EA.all{c c':Array _}(h:EA r c c')(f:ay->Bool)(Y:∀x y,En r x y->f y=f x):c'.all f=c.all f:=by
 have key:∀{xs ys:List _},EL r xs ys->ys.all f=xs.all f:=fun h=>by
  induction h with
  |nil=>rfl
  |cons x _ K=>simp;rw[Y _ _ x,K]
 have:=key h.toList;simp_all
theorem EA.isEmpty{c c':Array _}(h:EA r c c'):c'.isEmpty=c.isEmpty:=by
 have:=h.size;simp[Array.isEmpty,this]
theorem acy{c c':Array _}(h:EA r c c')(b:Bool):((if b=true then#[none]else#[])++c'.map some).size=((if b=true then#[none]else#[])++c.map some).size/\
  ∀i:Nat,(((if b=true then#[none]else#[])++c.map some)[i]?=none/\((if b=true then#[none]else#[])++c'.map some)[i]?=none)\/(((if b=true then#[none]else#[])++c.map some)[i]?=some none/\((if b=true then#[none]else#[])++c'.map some)[i]?=some none)\/
   ∃e e',((if b=true then#[none]else#[])++c.map some)[i]?=some (some e)/\((if b=true then#[none]else#[])++c'.map some)[i]?=some (some e')/\En r e e':=by
 have Y:=h.size;have one:∀i:Nat,((c.map some)[i]?=none/\(c'.map some)[i]?=none)\/∃e e',(c.map some)[i]?=some (some e)/\(c'.map some)[i]?=some (some e')/\En r e e':=by
  intro i;simp;cases D:c[i]? with
  |none=>left;simp_all
  |some x=>have⟨x',e',R⟩:=h.get D;simp_all
 cases b with
 |false=>
  simp only[bX,if_false,Array.empty_append];exact⟨by simp[Y],fun i=>(one i).imp id .inr⟩
 |true=>
  simp only[if_true];refine⟨by simp[Y],fun i=>?_⟩;cases i with
  |zero=>exact .inr (.inl ⟨by rw[dy (by simp)];rfl,by rw[dy (by simp)];rfl⟩)
  |succ i=>
   have K:(#[none]++c.map _)[i+1]?=(c.map some)[i]?:=dz (by simp);have H:(#[none]++c'.map some)[i+1]?=(c'.map _)[i]?:=dz (by simp);rw[K,H];exact(one i).imp id .inr
theorem aeg(G:V r x x')(b:Bool)(t:ai):SR P V r (Instr.next x b t) (Instr.next x' b t):=by
 cases G with
 |ptr Q=>
  rename_i a a';have⟨ab,X,aqZ⟩:=a;have⟨M,B,N⟩:=a';have⟨C,O,Z⟩:=Q;subst O;cases B with
  |zero=>
   refine SR.bind (oh C) ?_;intro t1 o o' l1 J;cases J with
   |stringIter s p=>
    cases b with
    |true=>
     refine iD (fun _=>?_) (fun _=>.pure (.rT (.one (.bool _))));refine SR.bind (tU (l1 _ _ C) (.stringIter _ _)) ?_;rintro t2 _ _ l2 _;exact .pure (.rT (.three (.bool _) (.int _ _) (.int _ _)))
    |false=>exact gn _
   |qe a s n=>
    cases b with
    |true=>exact gn _
    |false=>exact .pure (.rT (.one (.bool _)))
   |mapIter since seen last L=>
    cases b with
    |true=>exact gn _
    |false=>
     refine SR.bind (oh L) ?_;intro t2 o o' l2 J;cases J with
     |map clock T S=>
      rename_i es iI;have F:EA t2 es iI:=⟨T,S⟩;simp only;rw[F.isEmpty,F.all _ fun x y h=>by rw[h.born]];refine iD (fun _=>zt (iw _)) (fun _=>?_);have Y:=F.filter (fun e=>!seen.contains e.born) fun x y h=>by rw[h.born]
      have K:=Y.filter (fun e=>decide (e.born<since)) fun x y h=>by rw[h.born]
      have I:=Y.filter (fun e=>decide (e.born>=since)) fun x y h=>by rw[h.born]
      have R:=K.append I;rw[K.isEmpty];obtain⟨c1,c2⟩:=acy R _;rw[c1];refine SR.bind (qS _) ?_;rintro t3 i _ U rfl;rcases c2 i with⟨D,A⟩|⟨D,A⟩|⟨e,e',D,A,H⟩
      ·rw[D];exact gn _
      ·rw[D,A];exact .pure (.rT (.one (.bool _)))
      ·rw[D,A];simp only;rw[H.born];refine SR.bind (tU (((l1.trans l2).trans U) _ _ C) (.mapIter _ _ _ ((l2.trans U) _ _ L))) ?_;rintro t4 _ _ l4 _;exact .pure (.rT (.three (.bool _) ((H.key.mono U).mono l4) ((H.val.mono U).mono l4)))
     |_=>exact gn _
   |_=>exact gn _
  |succ n=>exact gn _
 |_=>exact gn _
theorem af_{c c':Array _}(h:EA r c c')(f:ay->Bool)(Y:∀x y,En r x y->f y=f x):(c.find? f=none/\c'.find? f=none)\/∃e e',c.find? f=some e/\c'.find? f=some e'/\En r e e':=by
 have key:∀{xs ys:List _},EL r xs ys->(xs.find? f=none/\ys.find? f=none)\/∃e e',xs.find? f=some e/\ys.find? f=some e'/\En r e e':=fun h=>by
  induction h with
  |nil=>exact .inl ⟨rfl,rfl⟩
  |cons x _ K=>
   simp only[List.find?_cons];rw[Y _ _ x];split
   ·simp_all
   ·omega
 have:=key h.toList;simp_all
theorem acz(O:V r x x'):SR P V r (Instr.entry x) (Instr.entry x'):=by
 cases O with
 |ptr J=>
  rename_i a a';have⟨ab,Q,aqZ⟩:=a;have⟨A,H,U⟩:=a';have⟨C,F,S⟩:=J;subst F;cases H with
  |zero=>
   refine SR.bind (oh C) ?_;intro t1 o o' l1 R;cases R with
   |mapIter since seen last B=>
    simp only;split
    ·refine SR.bind (oh B) ?_;intro t2 o o' l2 R;cases R with
     |map clock N M=>
      rename_i es iI;have L:EA t2 es iI:=⟨N,M⟩;refine iD (fun _=>zt (iw _)) (fun _=>?_);rename_i Y _ _;rcases af_ L (fun e=>e.born==Y) (fun x y h=>by rw[h.born])with⟨D,I⟩|⟨e,e',D,I,K⟩
      ·rw[D];exact iw _
      ·rw[D,I];exact .pure (.rT (.two K.key K.val))
     |_=>exact gn _
    ·exact gn _
   |_=>exact gn _
  |succ n=>exact gn _
 |_=>exact gn _
theorem W_(Z:qw P)(C:V r x x')(H a:ai)(R:∀ms,P.underlying a≠some (.interface ms)):SR P V r (ec x H a true) (ec x' H a true):=by
 refine SR.bind (mW a) ?_;rintro t1 d _ l1 ⟨rfl,hd⟩;have Y:∀{s:Rn},SR P V s (do pure (bN #[<-zeroValue a,.bool false])) _:=fun{s}=>
  SR.bind (vT Z a) fun _ _ _ _ e=>.pure (.rT (.two e (.bool _)))
 have K:=C.mono l1;cases d with
 |interface ms=>exact absurd hd (R ms)
 |_=>
  cases K with
  |nilIface=>exact Y
  |iface t D=>
   refine iD (fun _=>.pure (.rT (.two D (.bool _)))) (fun _=>Y)
  |_=>exact gn _
theorem Ye:SR P A r (cK .panicNil) (cK .panicNil):=by
 refine SR.bind mX ?_;rintro s p q _ ⟨K,H⟩;rw[K,H];refine SR.bind (Gt _) ?_;rintro t1 e _ l1 rfl;refine SR.bind (Gu e (.Da (VA.nil))) ?_;intro t2 a a' l2 Y;exact vO (.iface _ (.ptr Y))
theorem Zk(R:V r x x'):SR P V r (Instr.panic x) (Instr.panic x'):=by
 cases R with
 |iface t H=>exact vO (.iface t H)
 |nilIface=>
  have q:SR P iy r dY dY:=by
   refine SR.bind (.env fun _ _ _=>.pure rfl) ?_;rintro t1 x _ l1 rfl;split
   ·refine SR.bind mX ?_;rintro t2 p q l2 ⟨Y,K⟩;rw[Y,K];exact .pure rfl
   ·exact gn _
  refine SR.bind q ?_;rintro t1 n _ l1 rfl;exact iD (fun _=>vO .nilIface) (fun _=>Ye)
 |_=>exact gn _
end
section
variable[gm]{P:Program}{r:Rn}{α:Type}{A:Rn->α->α->Prop}
theorem Zl(op:bg)(k:aI)(a b:Int):SR P V r (Op.intBits op k a b) (Op.intBits op k a b):=by
 cases op<;>first|exact .pure (.int _ _)|exact gn _
theorem aaM(op:bg)(k:aI)(a b:Int):SR P V r (dh op k a b) (dh op k a b):=by
 unfold dh;split
 ·exact mr trivial
 ·cases op<;>first|exact .pure (.int _ _)|exact gn _
theorem P5(op:bg)(k:aI)(a:Int)(j:aI)(b:Int):SR P V r (di op k a j b) (di op k a j b):=by
 unfold di;split
 ·exact mr trivial
 ·cases op<;>first|exact .pure (.int _ _)|exact gn _
theorem acA(op:UnOp)(h:V r x x'):SR P V r (Op.unary op x) (Op.unary op x'):=by
 cases h<;>cases op<;>first|exact RJ _ _ _ _|exact .pure (.int _ _)|exact .pure (.bool _)|exact iw _|exact gn _
theorem M3(t:ai){a:Addr}(h:Ad r a a')(R:V r y I):SR P (fun s x x'=>∃b b',x=.pointer (some b)/\x'=.pointer (some b')/\Ad s b b') r (b_ #[] t #[.pointer (some a),y]) (b_ #[] t #[.pointer (some a'),I]):=by
 refine SR.bind (xY R) ?_;rintro t1 n _ l1 rfl;have Y:=h.mono l1;refine iD (fun _=>?_) (fun _=>?_)
 ·refine SR.bind (Cc Y.block) ?_;rintro t2 x y l2 (⟨rfl,rfl⟩|⟨_,_,_,rfl,rfl,_⟩)
  ·exact .pure ⟨_,_,rfl,rfl,Y.mono l2⟩
  ·exact iw _
 ·refine iD (fun _=>?_) (fun _=>?_)
  ·exact iw _
  ·refine SR.bind (pF Y.block) ?_;rintro t2 x _ l2 rfl;split
   ·refine SR.bind mX ?_;rintro t3 p q D ⟨K,H⟩;rw[K,H,Y.off];split
    ·exact .pure ⟨_,_,rfl,rfl,⟨(l2.trans D) _ _ Y.block,rfl,Y.spot⟩⟩
    ·exact iw _
   ·exact iw _
theorem Yf{a:Addr}(h:Ad r a a')(b:Bool):SR P V r (asNumber a b) (asNumber a' b):=by
 exact SR.bind (vW (.number b h)) fun s x x' l e=>.pure (.ptr ⟨e,rfl,rfl⟩)
theorem O3(t:ai)(Y:V r y I):SR P (fun _ _ _=>False) r (b_ #[] t #[.pointer none,y]) (b_ #[] t #[.pointer none,I]):=by
 refine SR.bind (xY Y) ?_;rintro t1 n _ l1 rfl;refine iD (fun _=>?_) (fun _=>?_)
 ·exact iw _
 ·refine iD (fun _=>?_) (fun _=>?_)
  ·exact iw _
  ·exact iw _
theorem xE(t:ai)(C:V r x x')(F:V r y I)(h:(∃a,x=.pointer a)):SR P V r (movedNumber t x y) (movedNumber t x' I):=by
 refine SR.bind (kv t) ?_;rintro t1 d _ l1 rfl;refine iD (fun _=>?_) (fun _=>?_)
 ·exact iw _
 have H:=C.mono l1;have Y:=F.mono l1;obtain⟨a,rfl⟩:=h;cases H with
 |nilPtr=>exact(O3 t Y).imp fun _ _ _ _ h=>h.elim
 |ptr D=>
  refine SR.bind (vH D) ?_;rintro t3 ⟨a1,U⟩ ⟨a2,B⟩ A ⟨K,e⟩;subst e;refine SR.bind (M3 t K (Y.mono A)) ?_;rintro t4 _ _ l4 ⟨b,b',rfl,rfl,R⟩;exact Yf R _
theorem Mr(t:ai)(R:V r x x')(H:V r y I)(h:(∃a,x=.pointer a)):SR P V r (eA t x y) (eA t x' I):=by
 obtain⟨a,rfl⟩:=h;cases R with
 |nilPtr=>exact(O3 t H).imp fun _ _ _ _ h=>h.elim
 |ptr Y=>
  refine SR.bind (Nq Y.block) ?_;rintro t1 x y l1 (⟨rfl,rfl⟩|⟨_,_,_,rfl,rfl,_⟩)
  ·refine(M3 t (Y.mono l1) (H.mono l1)).imp ?_;rintro _ _ _ _ ⟨b,b',rfl,rfl,K⟩;exact V.ptr K
  ·exact iw _
theorem M4(C:gm.size=P.globals.size){a b:Addr}(Y:Ad r a a')(H:Ad r b b'):SR P iy r (ep a b) (ep a' b'):=by
 refine SR.bind mX ?_;rintro t1 p q l1 ⟨R,I⟩;rw[R,I];have K:=Y.H2 H;have U:=r.jD _ _ Y.block;have D:(a'.block != b'.block||decide (a'.block>=P.globals.size))=(a.block != b.block||decide (a.block>=P.globals.size)):=by
  rw[bne,bne,K];congr 1;rw[decide_eq_decide];omega
 rw[D];refine iD (fun _=>?_) (fun _=>?_)
 ·exact iw _
 refine SR.bind (vG (Y.mono l1)) ?_;rintro t3 x _ A rfl;refine SR.bind (vG ((H.mono l1).mono A)) ?_;rintro t4 y _ l4 rfl;exact .pure rfl
theorem Zm(Y:gm.size=P.globals.size)(k:aI){a b:Addr}(H:Ad r a a')(R:Ad r b b'):SR P V r (Op.addrSub k a b) (Op.addrSub k a' b'):=by
 refine SR.bind (M4 Y H R) ?_;rintro t1 x _ l1 rfl;exact .pure (.int _ _)
theorem Zn(Y:gm.size=P.globals.size)(op:bg){a b:Addr}(H:Ad r a a')(R:Ad r b b'):SR P V r (Op.addrCmp op a b) (Op.addrCmp op a' b'):=by
 refine SR.bind (M4 Y H R) ?_;rintro t1 x _ l1 rfl;cases op<;>first|exact .pure (.bool _)|exact iw _
theorem Od(k:aI){a:Addr}(Y:Ad r a a')(n:Int):SR P V r (Op.addrMod k a n) (Op.addrMod k a' n):=by
 refine SR.bind (pF Y.block) ?_;rintro t1 x _ l1 rfl;split
 ·refine SR.bind (qR _) ?_;rintro t2 i _ l2 ⟨rfl,_⟩;refine iD (fun _=>?_) (fun _=>?_)
  ·exact iw _
  refine SR.bind (vG ((Y.mono l1).mono l2)) ?_;rintro t4 y _ l4 rfl;exact .pure (.int _ _)
 ·exact iw _
theorem M5(z:∀b,¬gm.ro b){a:Addr}(h:Ad r a a'):SR P iy r (stringish a) (stringish a'):=by
 refine SR.bind (Cb z h) ?_;rintro t1 b _ l1 rfl;refine iD (fun _=>?_) (fun _=>?_)
 ·exact .pure rfl
 ·refine SR.bind (pF (h.mono l1).block) ?_;rintro t2 x _ l2 rfl;split
  ·exact Cb z ⟨(l1.trans l2) _ _ h.block,rfl,rfl⟩
  ·exact .pure rfl
theorem Yg(z:∀b,¬gm.ro b){a b:Addr}(Y:Ad r a a')(H:Ad r b b'):SR P iy r (mayBeOne a b) (mayBeOne a' b'):=by
 refine SR.bind (M5 z Y) ?_;rintro t1 x _ l1 rfl;refine SR.bind (M5 z (H.mono l1)) ?_;rintro t2 y _ l2 rfl;refine SR.bind (SR.bind (pF ((Y.mono l1).mono l2).block) fun _ _ _ _ e=>by subst e;exact .pure rfl) ?_;rintro t3 u _ K rfl;refine SR.bind (SR.bind (pF (((H.mono l1).mono l2).mono K).block) fun _ _ _ _ e=>by subst e;exact .pure rfl) ?_;rintro t4 u _ l4 rfl;exact .pure rfl
theorem Yh(z:∀b,¬gm.ro b){a b:Addr}(H:Ad r a a')(R:Ad r b b'):SR P iy r (dv a b) (dv a' b'):=by
 unfold dv;rw[H.H2 R,H.eq_iff R];refine iD (fun _=>?_) (fun _=>?_)
 ·exact .pure rfl
 refine SR.bind (Cb z H) ?_;rintro t1 x _ l1 rfl;refine SR.bind (Cb z (R.mono l1)) ?_;rintro t2 y _ l2 rfl;refine iD (fun _=>?_) (fun _=>?_)
 ·exact iw _
 have Y:=(H.mono l1).mono l2;have K:=(R.mono l1).mono l2;refine SR.bind (Gw Y) ?_;rintro t3 _ _ D _;refine SR.bind (Gw (K.mono D)) ?_;rintro t4 _ _ l4 _;refine SR.bind (Yg z ((Y.mono D).mono l4) ((K.mono D).mono l4)) ?_;rintro t5 u _ I rfl;refine iD (fun _=>?_) (fun _=>?_)
 ·refine SR.bind (qS _) ?_;rintro A n _ l6 rfl;exact .pure rfl
 ·exact .pure rfl
theorem Yi(z:∀b,¬gm.ro b){t e:ai}(R:P.underlying t=some (.pointer e))(C:V r x x')(F:V r y I):SR P iy r (Op.equal t x y) (Op.equal t x' I):=by
 refine SR.bind (mW t) ?_;rintro t1 d _ l1 ⟨rfl,hd⟩;rw[R]at hd;obtain rfl:=Option.some.inj hd;have K:=C.mono l1;have Y:=F.mono l1;cases K with
 |nilPtr=>
  cases Y with
  |nilPtr=>exact .pure rfl
  |ptr _=>exact .pure rfl
  |_=>exact gn _
 |ptr H=>
  cases Y with
  |nilPtr=>exact .pure rfl
  |ptr D=>
   refine SR.bind (mI _) ?_;rintro t2 n _ l2 rfl;refine iD (fun _=>?_) (fun _=>?_)
   ·exact Yh z (H.mono l2) (D.mono l2)
   ·rw[(H.mono l2).eq_iff (D.mono l2)];refine iD (fun _=>?_) (fun _=>?_)
    ·exact .pure rfl
    ·refine SR.bind (qS _) ?_;rintro t3 k _ A rfl;exact .pure rfl
  |_=>exact gn _
 |_=>exact gn _
theorem Nr{t:ai}{m:Array _}(H:P.underlying t=some (.interface m))(R:V r x x'):SR P iy r (Op.equal t x .nilIface) (Op.equal t x' .nilIface):=by
 refine SR.bind (mW t) ?_;rintro t1 d _ l1 ⟨rfl,hd⟩;rw[H]at hd;obtain rfl:=Option.some.inj hd;have Y:=R.mono l1;cases Y with
 |nilIface=>exact .pure rfl
 |iface _ _=>exact .pure rfl
 |_=>exact gn _
end
section
variable[gm]{P:Program}{r:Rn}{α:Type}{A:Rn->α->α->Prop}
def Ar(P:Program)(t:ai):Prop:=(∀d,P.underlying t=some d->plainKey d)\/∃e,P.underlying t=some (.pointer e)
theorem Oe(R:gm.size=P.globals.size){t:ai}(z:(∃e,P.underlying t=some (.pointer e))->∀b,¬gm.ro b)(h:Ar P t)(Y:V r x x')(H:V r y I):SR P iy r (Op.equal t x y) (Op.equal t x' I):=by
 rcases h with h|⟨e,h⟩
 ·exact(P4 R h Y H).imp fun _ _ _ _ q=>q.1
 ·exact Yi (z ⟨e,h⟩) h Y H
theorem O4{s s':Sem Bool}(h:SR P iy r s s'):SR P V r (do pure (cC (<-s))) (do pure (cC (<-s'))):=SR.bind h fun _ _ _ _ e=>by subst e;exact .pure (.bool _)
theorem P6{s s':Sem Bool}(h:SR P iy r s s'):SR P V r (do pure (cC (!(<-s)))) (do pure (cC (!(<-s')))):=SR.bind h fun _ _ _ _ e=>by subst e;exact .pure (.bool _)
def pG:ah->ah->Bool
 |.int ..,.int .. |.string _,.string _=>true
 |_,_=>false
theorem binOp_eql(t:ai)(h:pG x y=false)(H:∀k b,x≠.float k b)(Y:∀k a b,x≠.complex k a b):binOp .eql t x y=(do pure (.bool (<-Op.equal t x y)))/\binOp .neq t x y=(do pure (.bool (!(<-Op.equal t x y)))):=by
 cases x<;>first|exact absurd rfl (H _ _)|exact absurd rfl (Y _ _ _)|(cases y<;>first|exact⟨rfl,rfl⟩|(simp[pG]at h))
theorem V.r7(h:V r x x'):(∀k b,x≠.float k b)/\(∀k a b,x≠.complex k a b):=⟨fun _ _ e=>(by subst e;cases h),fun _ _ _ e=>(by subst e;cases h)⟩
theorem V.Ss(h:V r x x')(n:x≠.tuple #[]):(∀k b,x'≠.float k b)/\(∀k a b,x'≠.complex k a b):=by
 cases h with
 |blank _=>exact absurd rfl n
 |_=>exact⟨fun _ _ e=>(by cases e),fun _ _ _ e=>(by cases e)⟩
theorem Ns(C:gm.size=P.globals.size){op:bg}(Y:op≠.eql/\op≠.neq){t:ai}(F:V r x x')(R:V r y I):SR P V r (binOp op t x y) (binOp op t x' I):=by
 cases F with
 |int k a=>
  cases R with
  |int k' b=>
   cases op<;>first|exact absurd rfl Y.1|exact absurd rfl Y.2|exact P5 .shl k a k' b|exact P5 .shr k a k' b|exact iD (fun _=>gn _) (fun _=>RJ _ _ _ _)|exact iD (fun _=>gn _) (fun _=>aaM _ _ _ _)|exact iD (fun _=>gn _) (fun _=>Zl _ _ _ _)|exact iD (fun _=>gn _) (fun _=>RP _ _ _)
  |ptr H=>cases op<;>first|exact absurd rfl Y.1|exact absurd rfl Y.2|exact xE t (.ptr H) (.int _ _) ⟨_,rfl⟩|(refine SR.bind (vH H) ?_;rintro t1 ⟨a1,A⟩ ⟨a2,U⟩ l1 ⟨K,_⟩;exact Od _ K _)|exact iw _|exact gn _
  |nilPtr=>cases op<;>first|exact absurd rfl Y.1|exact absurd rfl Y.2|exact xE t .nilPtr (.int _ _) ⟨_,rfl⟩|exact iw _|exact gn _
  |_=>cases op<;>first|exact absurd rfl Y.1|exact absurd rfl Y.2|exact gn _
 |string a=>
  cases R with
  |string b=>
   have e:binOp op t (.string a) (.string b)=Op.stringOp op a b:=by cases op<;>rfl
   rw[e];exact Iv op a b
  |ptr H=>cases op<;>first|exact absurd rfl Y.1|exact absurd rfl Y.2|exact iw _|exact gn _
  |nilPtr=>cases op<;>first|exact absurd rfl Y.1|exact absurd rfl Y.2|exact iw _|exact gn _
  |_=>cases op<;>first|exact absurd rfl Y.1|exact absurd rfl Y.2|exact gn _
 |ptr D=>
  cases R with
  |int k b=>
   cases op<;>first|exact absurd rfl Y.1|exact absurd rfl Y.2|exact xE t (.ptr D) (.int _ _) ⟨_,rfl⟩|(refine SR.bind (kv t) ?_;rintro t1 d _ l1 rfl;exact iD (fun _=>Mr t (.ptr (D.mono l1)) (.int _ _) ⟨_,rfl⟩) (fun _=>xE t (.ptr (D.mono l1)) (.int _ _) ⟨_,rfl⟩))|(refine SR.bind (vH D) ?_;rintro t1 ⟨a1,A⟩ ⟨a2,U⟩ l1 ⟨K,_⟩;exact Od _ K _)|exact iw _|exact gn _
  |ptr H=>
   cases op<;>first|exact absurd rfl Y.1|exact absurd rfl Y.2|(refine SR.bind (vH D) ?_;rintro t1 ⟨a1,A⟩ ⟨a2,U⟩ l1 ⟨K,_⟩;refine SR.bind (vH (H.mono l1)) ?_;rintro t2 ⟨a3,J⟩ ⟨a4,b4⟩ l2 ⟨B,_⟩;first|exact Zm C _ (K.mono l2) B|exact Zn C _ (K.mono l2) B)|exact iw _|exact gn _
  |_=>cases op<;>first|exact absurd rfl Y.1|exact absurd rfl Y.2|exact iw _|exact gn _
 |nilPtr=>
  cases R with
  |int k b=>cases op<;>first|exact absurd rfl Y.1|exact absurd rfl Y.2|exact xE t .nilPtr (.int _ _) ⟨_,rfl⟩|(refine SR.bind (kv t) ?_;rintro t1 d _ l1 rfl;exact iD (fun _=>Mr t .nilPtr (.int _ _) ⟨_,rfl⟩) (fun _=>xE t .nilPtr (.int _ _) ⟨_,rfl⟩))|exact iw _|exact gn _
  |_=>cases op<;>first|exact absurd rfl Y.1|exact absurd rfl Y.2|exact iw _|exact gn _
 |_=>
  cases R with
  |ptr H=>cases op<;>first|exact absurd rfl Y.1|exact absurd rfl Y.2|exact iw _|exact gn _
  |nilPtr=>cases op<;>first|exact absurd rfl Y.1|exact absurd rfl Y.2|exact iw _|exact gn _
  |_=>cases op<;>first|exact absurd rfl Y.1|exact absurd rfl Y.2|exact gn _
theorem acB(Y:V r x x')(H:V r y I)(h:pG x y=false)(h':pG x' I=true):x=.tuple #[]\/y=.tuple #[]:=by
 cases Y<;>first|exact .inl rfl|(cases H<;>first|exact .inr rfl|(simp[pG]at h h'))
theorem Zo{t:ai}(h:Ar P t)(Y:x=.tuple #[]\/y=.tuple #[])(v:af):∃z v1,(Op.equal t x y).run P v=.halt z v1/\rl z:=by
 rcases h with h|⟨e,h⟩
 ·exact Nn h Y v
 ·unfold Op.equal bt;unfold bL aQ program;simp only[bind,Sem.bind,Sem.run,h];rcases Y with rfl|rfl
  ·exact⟨_,_,rfl,.inr ⟨_,rfl⟩⟩
  ·cases x with
   |pointer a=>cases a<;>exact⟨_,_,rfl,.inr ⟨_,rfl⟩⟩
   |_=>exact⟨_,_,rfl,.inr ⟨_,rfl⟩⟩
theorem acC(J:gm.size=P.globals.size){op:bg}(C:op=.eql\/op=.neq){t:ai}(z:(∃e,P.underlying t=some (.pointer e))->∀b,¬gm.ro b)(F:Ar P t)(H:V r x x')(R:V r y I):SR P V r (binOp op t x y) (binOp op t x' I):=by
 by_cases Y:pG x y=true
 ·cases H with
  |int k a=>
   cases R with
   |int k' b=>rcases C with rfl|rfl<;>exact iD (fun _=>gn _) (fun _=>RP _ _ _)
   |_=>simp[pG]at Y
  |string a=>
   cases R with
   |string b=>
    have e:binOp op t (.string a) (.string b)=Op.stringOp op a b:=by cases op<;>rfl
    rw[e];exact Iv op a b
   |_=>simp[pG]at Y
  |_=>simp[pG]at Y
 ·have Y:pG x y=false:=by simpa using Y
  have⟨L,M⟩:=binOp_eql t Y H.r7.1 H.r7.2;by_cases A:x=.tuple #[]\/y=.tuple #[]
  ·refine .lost fun v=>?_;have⟨q,v1,e,N⟩:=Zo F A v;rcases C with rfl|rfl
   ·simp_all
   ·simp_all
  ·have U:pG x' I=false:=by
    cases h:pG x' I with
    |false=>rfl
    |true=>exact absurd (acB H R Y h) A
   have B:=H.Ss fun e=>A (.inl e);have⟨K,D⟩:=binOp_eql t U B.1 B.2;rcases C with rfl|rfl
   ·rw[L,K];exact O4 (Oe J z F H R)
   ·rw[M,D];exact P6 (Oe J z F H R)
theorem aaN{op:bg}(C:op=.eql\/op=.neq){t:ai}{m:Array (String×ai)}(R:P.underlying t=some (.interface m))(Y:V r x x'):SR P V r (binOp op t x .nilIface) (binOp op t x' .nilIface):=by
 by_cases D:x=.tuple #[]
 ·subst D;refine .lost fun v=>?_;have e:∃q v1,(Op.equal t (.tuple #[]) .nilIface).run P v=.halt q v1/\rl q:=by
   unfold Op.equal bt;unfold bL aQ program;simp only[bind,Sem.bind,Sem.run,R];exact⟨_,_,rfl,.inr ⟨_,rfl⟩⟩
  have⟨q,v1,e,B⟩:=e;refine⟨q,v1,?_,B⟩;rcases C with rfl|rfl
  ·show(Sem.bind _ _).run P v=_;rw[bk,e];rfl
  ·show(Sem.bind _ _).run P v=_;rw[bk,e];rfl
 ·have tp:∀y,pG y .nilIface=false:=fun y=>by cases y<;>rfl
  have⟨A,U⟩:=binOp_eql t (tp x) Y.r7.1 Y.r7.2;have I:=Y.Ss D;have⟨K,H⟩:=binOp_eql t (tp x') I.1 I.2;rcases C with rfl|rfl
  ·rw[A,K];exact O4 (Nr R Y)
  ·rw[U,H];exact P6 (Nr R Y)
end
section
variable[gm]{P:Program}{r:Rn}{α:Type}{A:Rn->α->α->Prop}
theorem P7{H:Type}(f f':ah->H->Sem _):∀{xs ys:List _} b {r:Rn},(∀t x x' b,Le r t->V t x x'->SR P iy t (f x b) (f' x' b))->VL r xs ys->SR P iy r (forIn xs b f) (forIn ys b f')
 |_,_,b,r,h,.nil=>.pure rfl
 |_,_,b,r,h,.cons Y rest=>by
  rw[eg,eg];refine SR.bind (h r _ _ b (.refl _) Y) ?_;rintro t1 x _ l1 rfl;cases x with
  |done b=>exact .pure rfl
  |yield b=>exact P7 f f' b (fun t x x' b l=>h t x x' b (l1.trans l)) (VL.mono l1 rest)
theorem Ws(Y:V r x x'):SR P V r (dK x) (dK x'):=by
 cases Y with
 |kQ l c=>exact .pure (.string _)
 |slice l c K=>
  refine SR.bind (FH l K) ?_;intro t1 cs gS l1 H;simp[<-Array.forIn_toList];refine SR.bind (P7 _ _ _ ?_ H.toList) ?_
  ·intro t x x' b l Y;cases Y with
   |int k n=>cases k<;>first|exact .pure rfl|exact gn _
   |_=>exact gn _
  ·rintro t2 s _ l2 rfl;exact .pure (.string _)
 |_=>exact gn _
theorem Zp{b b':Nat}(h:r b=some b'):SR P iy r (cellsIn b) (cellsIn b'):=by
 refine SR.bind (pF h) ?_;rintro t1 x _ l1 rfl;split
 ·exact .pure rfl
 ·refine SR.bind (oh (l1 _ _ h)) ?_;intro t2 o o' l2 Y;cases Y<;>exact .pure rfl
theorem My{a:Addr}(h:Ad r a a')(u:ai)(n:Nat):SR P iy r (variablesAt a u n) (variablesAt a' u n):=by
 refine SR.bind mX ?_;rintro t1 p q l1 ⟨Y,K⟩;rw[Y,K];refine SR.bind (pF (l1 _ _ h.block)) ?_;rintro t2 x _ l2 rfl;rw[h.off];split<;>exact .pure rfl
theorem O5{a:Addr}(h:Ad r a a'):SR P Ad r (Conv.seenAt a) (Conv.seenAt a'):=by
 refine SR.bind (Cc h.block) ?_;rintro t1 x y l1 (⟨rfl,rfl⟩|⟨b,b',u,rfl,rfl,Y⟩)
 ·exact .pure (h.mono l1)
 ·rw[h.off,h.spot];refine iD (fun _=>.pure Y) (fun _=>?_);rw[Y.spot];refine iD (fun _=>?_) (fun _=>?_)
  ·exact iw _
  refine SR.bind mX ?_;rintro t2 p q l2 ⟨K,H⟩;rw[K,H];split
  ·refine SR.bind (pF (l2 _ _ Y.block)) ?_;rintro t3 x _ D rfl;split
   ·refine iD (fun _=>?_) (fun _=>?_)
    ·exact iw _
    rw[Y.off];split
    ·exact .pure ⟨(l2.trans D) _ _ Y.block,rfl,rfl⟩
    ·exact iw _
   ·exact iw _
  ·exact iw _
theorem F8(z:∀b,¬gm.ro b){a:Addr}(h:Ad r a a')(t:ai):SR P V r (do let b<-newObj (.view a t);pure (.pointer (some ⟨b,0,none⟩))) (do let b<-newObj (.view a' t);pure (.pointer (some ⟨b,0,none⟩))):=
 SR.bind (vW (.view t (z _) h)) fun _ _ _ _ e=>.pure (.ptr ⟨e,rfl,rfl⟩)
theorem Yj(z:∀b,¬gm.ro b){e:ai}(R:P.underlying src=some (.pointer e))(C:P.underlying dst=some .unsafePointer)(F:V r x x'):SR P V r (cj src dst x) (cj src dst x'):=by
 refine SR.bind (mW src) ?_;rintro t1 d _ l1 ⟨rfl,hd⟩;rw[R]at hd;obtain rfl:=Option.some.inj hd;refine SR.bind (mW dst) ?_;rintro t2 d _ l2 ⟨rfl,hd⟩;rw[C]at hd;obtain rfl:=Option.some.inj hd;have H:=(F.mono l1).mono l2;cases H with
 |nilPtr=>exact .pure .nilPtr
 |ptr D=>
  refine SR.bind (O5 D) ?_;intro t3 s s' A K;refine SR.bind (Zp K.block) ?_;rintro t4 n _ l4 rfl;rw[K.off,K.spot];refine SR.bind (mI _) ?_;rintro t5 m _ I rfl;have Y:=(K.mono l4).mono I;refine iD (fun _=>?_) (fun _=>.pure (.ptr Y));exact F8 z Y _
 |_=>exact gn _
theorem Xa(z:∀b,¬gm.ro b){e:ai}(C:P.underlying src=some .unsafePointer)(F:P.underlying dst=some (.pointer e))(J:V r x x'):SR P V r (cj src dst x) (cj src dst x'):=by
 refine SR.bind (mW src) ?_;rintro t1 d _ l1 ⟨rfl,hd⟩;rw[C]at hd;obtain rfl:=Option.some.inj hd;refine SR.bind (mW dst) ?_;rintro t2 d _ l2 ⟨rfl,hd⟩;rw[F]at hd;obtain rfl:=Option.some.inj hd;have D:=(J.mono l1).mono l2;cases D with
 |nilPtr=>exact .pure .nilPtr
 |ptr I=>
  refine SR.bind (O5 I) ?_;intro t3 s s' L R;refine SR.bind (mI _) ?_;rintro t4 m _ l4 rfl;refine SR.bind (My (R.mono l4) _ _) ?_;rintro t5 b _ A rfl;have Y:=(R.mono l4).mono A;refine iD (fun _=>.pure (.ptr Y)) (fun _=>?_);refine SR.bind (pF Y.block) ?_;rintro M x _ l6 rfl;split
  ·refine SR.bind mX ?_;rintro N p q U ⟨K,H⟩;rw[K,H];refine SR.bind mX ?_;rintro O p q B ⟨K,H⟩;rw[K,H];refine iD (fun _=>?_) (fun _=>?_)
   ·exact iw _
   ·exact F8 z (((Y.mono l6).mono U).mono B) _
  ·exact iw _
 |_=>exact gn _
inductive uW(P:Program)(src dst:ai):Prop
 |int {k k':aI}:P.underlying src=some (.int k)->P.underlying dst=some (.int k')->uW P src dst
 |toStr {e:ai}:P.underlying src=some (.slice e)->P.underlying e=some (.int .u8)->P.underlying dst=some .string->uW P src dst
 |toBytes {e:ai}:P.underlying src=some .string->P.underlying dst=some (.slice e)->P.underlying e=some (.int .u8)->uW P src dst
 |toUns {e:ai}:P.underlying src=some (.pointer e)->P.underlying dst=some .unsafePointer->uW P src dst
 |QX {e:ai}:P.underlying src=some .unsafePointer->P.underlying dst=some (.pointer e)->uW P src dst
theorem Zq(L:(∃k,P.underlying src=some (.int k))\/(∃e,P.underlying src=some (.slice e))\/∀b,¬gm.ro b)(h:uW P src dst)(F:V r x x'):SR P V r (convert src dst x) (convert src dst x'):=by
 have A:(∀k,P.underlying src≠some (.int k))->(∀e,P.underlying src≠some (.slice e))->∀b,¬gm.ro b:=fun H R=>by simp_all
 unfold convert;refine SR.bind (mW src) ?_;rintro t1 d1 _ l1 ⟨rfl,Y⟩;refine SR.bind (mW dst) ?_;rintro t2 d2 _ l2 ⟨rfl,K⟩;have D:=(F.mono l1).mono l2;cases h with
 |int H R=>
  rw[H]at Y;obtain rfl:=Option.some.inj Y;rw[R]at K;obtain rfl:=Option.some.inj K;cases D<;>first|exact .pure (.int _ _)|exact iw _|exact gn _
 |toStr H U R=>
  rw[H]at Y;obtain rfl:=Option.some.inj Y;rw[R]at K;obtain rfl:=Option.some.inj K;rename_i e;have I:=D;cases D with
  |int k n=>exact .pure (.string _)
  |string s=>exact .pure (.string _)
  |blank J=>
   refine .lost fun v=>⟨.stuck "bytesToString: slice expected",v,?_,.inr ⟨_,rfl⟩⟩;show(Sem.bind (aQ e) _).run P v=_
   have C:(aQ e).run P v=.ok (.int .u8) v:=by simp[aQ,program,bind,Sem.bind,Sem.run,U,pure]
   rw[bk,C];rfl
  |_=>
   refine SR.bind (mW e) ?_;rintro t3 d _ B ⟨rfl,hd⟩;rw[U]at hd;obtain rfl:=Option.some.inj hd;exact Ws (I.mono B)
 |toBytes H R U=>
  have z:=A (fun k x=>by rw[H]at x;cases x) (fun k x=>by rw[H]at x;cases x);rw[H]at Y;obtain rfl:=Option.some.inj Y;rw[R]at K;obtain rfl:=Option.some.inj K;cases D with
  |string s=>
   refine SR.bind (mW _) ?_;rintro t3 d _ B ⟨rfl,hd⟩;rw[U]at hd;obtain rfl:=Option.some.inj hd;exact W7 z _ _
  |_=>first|exact iw _|exact gn _
 |toUns H R=>
  have z:=A (fun k x=>by rw[H]at x;cases x) (fun k x=>by rw[H]at x;cases x);rw[H]at Y;obtain rfl:=Option.some.inj Y;rw[R]at K;obtain rfl:=Option.some.inj K;have I:=D;cases D<;>exact Yj z H R I
 |QX H R=>
  have z:=A (fun k x=>by rw[H]at x;cases x) (fun k x=>by rw[H]at x;cases x);rw[H]at Y;obtain rfl:=Option.some.inj Y;rw[R]at K;obtain rfl:=Option.some.inj K;have I:=D;cases D<;>exact Xa z H R I
end
section
variable[gm]{P:Program}{r:Rn}{α:Type}{A:Rn->α->α->Prop}
theorem aeh(H:V r x x')(Y:V r y I):SR P V r (bZ x y) (bZ x' I):=by
 cases H with
 |int k a=>
  cases Y with
  |int k' b=>exact .pure (.int _ _)
  |_=>first|exact iw _|exact gn _
 |string a=>
  cases Y with
  |string b=>
   refine SR.bind (Iv .leq a b) ?_;intro t1 u D l1 K;refine SR.bind (O0 K) ?_;rintro t2 c _ l2 rfl;exact .pure (.string _)
  |_=>first|exact iw _|exact gn _
 |ptr a=>exact iw _
 |_=>cases Y<;>first|exact iw _|exact gn _
theorem QY:∀{xs ys:List _} {r:Rn} {x x':ah},VL r xs ys->V r x x'->SR P V r (xs.foldlM bZ x) (ys.foldlM bZ x')
 |_,_,r,x,x',.nil,Y=>.pure Y
 |_,_,r,x,x',.cons H rest,Y=>by
  refine SR.bind (aeh Y H) ?_;intro t1 u D l1 K;exact QY (VL.mono l1 rest) K
theorem aga(R:Array _)(t:ai){a a':Array _}(h:VA r a a'):SR P V r (cU R t a) (cU R t a'):=by
 unfold cU;have Y:=h.toList;cases H:a.toList with
 |nil=>exact gn _
 |cons x xs=>
  rw[H]at Y;cases K:a'.toList with
  |nil=>rw[K]at Y;cases Y
  |cons y ys=>
   rw[K]at Y;cases Y with
   |cons D rest=>exact QY rest D
theorem agb(Y:Array ai)(t:ai)(h:V r x x'):SR P V r (cT Y t #[x]) (cT Y t #[x']):=by
 unfold cT;cases D:Y[0]? with
 |none=>exact gn _
 |some t=>
  refine SR.bind (s:=aQ t) (s':=aQ t) (kv t) ?_;rintro t1 d _ l1 rfl;have K:=h.mono l1;cases d with
  |array n e=>exact .pure (.int _ _)
  |pointer arr=>
   refine SR.bind (kv arr) ?_;rintro t2 d _ l2 rfl;cases d<;>first|exact .pure (.int _ _)|exact gn _
  |slice e=>cases K<;>first|exact .pure (.int _ _)|exact gn _
  |chan dir e=>
   cases K with
   |pK=>exact .pure (.int _ _)
   |chan e=>
    refine SR.bind (oh e) ?_;intro t2 o o' l2 H;cases H<;>exact gn _
   |_=>exact gn _
  |_=>exact gn _
theorem Xz(z:∀b,¬gm.ro b)(H:Array _)(t:ai)(h:V r x x'):SR P V r (dH H t #[x]) (dH H t #[x']):=by
 cases h with
 |kQ l c=>exact .pure .nilPtr
 |slice l c Y=>
  refine iD (fun _=>.pure (.ptr Y)) (fun _=>?_);refine SR.bind (Cc Y.block) ?_;rintro t1 x y l1 (⟨rfl,rfl⟩|⟨b,b',u,rfl,rfl,K⟩)
  ·refine SR.bind (Gt t) ?_;rintro t2 e _ l2 rfl;exact F8 z ((Y.mono l1).mono l2) _
  ·exact .pure (.ptr (Y.mono l1))
 |_=>exact gn _
theorem M6:∀n acc {r:Rn} {a a':Addr},Ad r a a'->SR P iy r (loadBytes a acc n) (loadBytes a' acc n)
 |0,acc,r,a,a',h=>.pure rfl
 |n+1,acc,r,a,a',h=>by
  refine SR.bind (CH h) ?_;intro t1 x x' l1 Y;cases Y with
  |int k b=>cases k<;>first|exact M6 n _ ((h.mono l1).add 1)|exact gn _
  |_=>exact gn _
theorem Wz(z:∀b,¬gm.ro b)(H:Array _)(t:ai)(h:V r x x')(C:V r y I):SR P V r (cf H t #[x,y]) (cf H t #[x',I]):=by
 have main:∀{p p':Option _},((p=none/\p'=none)\/∃a a',p=some a/\p'=some a'/\Ad r a a')->SR P V r (cf H t #[.pointer p,y]) (cf H t #[.pointer p',I]):=by
  intro p p' R;refine SR.bind (xY C) ?_;rintro t1 n _ l1 rfl;cases H[0]? with
  |none=>exact gn _
  |some pt=>
   refine iD (fun _=>?_) (fun _=>?_)
   ·exact SR.bind (A:=fun _ _ _=>False) (mr trivial) fun _ _ _ _ h=>h.elim
   refine iD (fun _=>?_) (fun _=>?_)
   ·exact iw _
   rcases R with⟨rfl,rfl⟩|⟨a,a',rfl,rfl,K⟩
   ·refine iD (fun _=>.pure (.string _)) (fun _=>?_);exact mr trivial
   ·refine iD (fun _=>.pure (.string _)) (fun _=>?_);refine SR.bind (Gt pt) ?_;rintro t2 e _ l2 rfl;have Y:=(K.mono l1).mono l2;refine SR.bind (My Y _ _) ?_;rintro t3 b _ D rfl;refine iD (fun _=>?_) (fun _=>?_)
    ·refine SR.bind (M6 _ _ (Y.mono D)) ?_;rintro t4 s _ l4 rfl;refine SR.bind (OZ z ((Y.mono D).mono l4) _) ?_;rintro t5 _ _ U _;exact .pure (.string _)
    ·exact iw _
 cases h with
 |nilPtr=>exact main (.inl ⟨rfl,rfl⟩)
 |ptr K=>exact main (.inr ⟨_,_,rfl,rfl,K⟩)
 |_=>exact gn _
theorem Yk{a a':Array _}(h:VA r a a'):SR P V r (Extern.AbiNoEscape.same a) (Extern.AbiNoEscape.same a'):=by
 have⟨l⟩:=a;have⟨l'⟩:=a';have Y:=h.toList;cases Y with
 |nil=>exact gn _
 |cons K rest=>
  cases rest with
  |nil=>exact .pure K
  |cons _ _=>exact gn _
theorem Zr(h:V r x x'):SR P iy r (dP x) (dP x'):=by
 have D:∀(n:Nat) (acc:ByteArray) {r:Rn} {a a':Addr},Ad r a a'->SR P iy r (dQ a n acc) (dQ a' n acc):=by
  intro n;induction n with
  |zero=>exact fun acc _ _ _ _=>.pure rfl
  |succ n H=>
   intro acc r a a' h;refine SR.bind (CH h) ?_;intro t1 x x' l1 K;cases K with
   |int k b=>cases k<;>first|exact H _ ((h.mono l1).add 1)|exact gn _
   |_=>exact gn _
 cases h with
 |string s=>exact .pure rfl
 |kQ l c=>exact .pure rfl
 |slice l c Y=>exact D _ _ Y
 |_=>exact gn _
theorem XA{a a':Array _}(h:VA r a a'):SR P V r (dM a) (dM a'):=by
 have⟨l⟩:=a;have⟨l'⟩:=a';have K:=h.toList;cases K with
 |nil=>exact gn _
 |cons H rest=>
  cases rest with
  |nil=>exact gn _
  |cons D rest=>
   cases rest with
   |nil=>
    rename_i x x' y I;refine SR.bind (Zr H) ?_;rintro t1 b _ l1 rfl;have ab:SR P iy t1 (dO y) (dO I):=by
     have Y:=D.mono l1;cases Y with
     |int k n=>cases k<;>first|exact .pure rfl|exact gn _
     |_=>exact gn _
    refine SR.bind ab ?_;rintro t2 c _ l2 rfl;split<;>exact .pure (.int _ _)
   |cons _ _=>exact gn _
theorem VA.digits:∀n t {a a':Array _},VA r a a'->VA r (Extern.BytealgMakeNoZero.digits n t a) (Extern.BytealgMakeNoZero.digits n t a')
 |0,t,a,a',h=>h
 |n+1,t,a,a',h=>VA.digits n _ (h.push (.int _ _))
theorem Xb(H rs:Array _){a a':Array _}(h:VA r a a'):SR P V r (cW H rs a) (cW H rs a'):=by
 have⟨l⟩:=a;have⟨l'⟩:=a';have D:=h.toList;cases D with
 |nil=>exact gn _
 |cons R rest=>
  cases rest with
  |nil=>
   cases R with
   |int k n=>
    cases k with
    |i64=>
     unfold cW;cases hr:rs[0]? with
     |none=>exact gn _
     |some t=>
      refine SR.bind (kv t) ?_;rintro t1 d _ l1 rfl;cases d with
      |slice Y=>
       refine iD (fun _=>?_) (fun _=>?_)
       ·exact SR.bind (A:=fun _ _ _=>False) (mr trivial) fun _ _ _ _ h=>h.elim
       refine SR.bind (qS _) ?_;rintro t2 c _ l2 rfl;refine SR.bind (F7 c) ?_;rintro t3 _ _ I _;refine SR.bind (qS _) ?_;rintro t4 b _ l4 rfl;refine SR.bind (vF _ (VA.digits _ _ .nil)) ?_;intro t5 a a' U K;exact .pure (.slice _ _ K)
      |_=>exact gn _
    |_=>exact gn _
   |_=>exact gn _
  |cons _ _=>exact gn _
def zV(P:Program)(name:String):=∀t i m,P.info? t=some i->i.methods.find? (·.name==name)=some m->m.path=#[]/\(∃f,m.func=some (f,false)/\gm.iG f)/\∀e,P.underlying t≠some (.pointer e)
theorem aaO{name:String}(C:zV P name)(n:Nat)(t:ai){v:ah}(h:V r v v'):SR P (fun s x y=>x.1=y.1/\gm.iG x.1/\V s x.2 y.2) r (method n t v name) (method n t v' name):=by
 cases n with
 |zero=>exact iw _
 |succ n=>
  refine SR.bind (qR t) ?_;rintro t1 i _ l1 ⟨rfl,I⟩;cases D:i.methods.find? _ with
  |none=>exact gn _
  |some m=>
   obtain⟨U,⟨f,Y,R⟩,K⟩:=C t i m I D;simp[U,Y];refine SR.bind (A:=fun s x y=>x=(t,Place.val v)/\y=(t,Place.val v')) (.pure ⟨rfl,rfl⟩) ?_;rintro t2 _ _ l2 ⟨rfl,rfl⟩;refine SR.bind ?_ fun s x y l H=>.pure ⟨rfl,R,H⟩;refine SR.bind (mW t) ?_;rintro t3 d _ B ⟨rfl,hd⟩;cases d with
   |pointer e=>exact absurd hd (K e)
   |_=>exact .pure (((h.mono l1).mono l2).mono B)
end
section
variable[gm]{P:Program}{r:Rn}{α:Type}{A:Rn->α->α->Prop}{bb:Bool}
theorem zx{l l':Nat}(h:r l=some l'):SR P Lp r (c8 l) (c8 l'):=by
 refine SR.bind (oh h) ?_;intro t1 o o' l1 Y;cases Y with
 |loop q=>exact .pure q
 |_=>exact gn _
inductive LO(r:Rn):Option Nat->Option Nat->Prop
 |none:LO r none none
 |some {l l':Nat}:r l=some l'->LO r (some l) (some l')
theorem LO.mono{s:Rn}(h:Le r s){a b:Option Nat}(k:LO r a b):LO s a b:=by
 cases k with
 |none=>exact .none
 |some e=>exact .some (h _ _ e)
theorem XC(fn:ao){tmps Y:Array _}(J:VA r tmps Y)(H:Array Tmp){aqZ bd:Code}(R:gm.code aqZ)(C:gm.code bd){o':Option Nat}(F:LO r o o'):
  SR P (fun s x y=>s x.1=some y.1/\DL s x.2 y.2) r (bh fn tmps H aqZ bd o) (bh fn Y H aqZ bd o'):=by
 unfold bh;have fin:∀{s:Rn} {d d':Nat} {m m':List _},Le r s->s d=some d'->DL s m m'->
   SR P (fun s x y=>s x.1=some y.1/\DL s x.2 y.2) s (do let b<-newObj (.loop {state:=.ready,pending:=none,fn,tmps,params:=H,assign:=aqZ,body:=bd,defers:=d});pure (b,m)) (do let b<-newObj (.loop {state:=.ready,pending:=none,fn,tmps:=Y,params:=H,assign:=aqZ,body:=bd,defers:=d'});pure (b,m')):=by
  intro s d d' m m' l hd K;refine SR.bind (vW (.loop ⟨rfl,rfl,rfl,rfl,rfl,rfl,J.mono l,hd,(fun c e=>by cases e),R,C⟩)) ?_;intro t b b' l' e;exact .pure ⟨e,K.mono l'⟩
 cases F with
 |none=>
  refine SR.bind (vW (.deferred (.some .nil))) ?_;intro t1 b b' l1 e;exact fin l1 e (.cons ⟨.collected e,.nil⟩ .nil)
 |some e=>
  refine SR.bind (zx e) ?_;intro t1 q I l1 D;exact fin l1 D.defers .nil
theorem Nt:∀{Y:List Tmp} {xs ys:List _} {c c':Array _},VL r xs ys->VA r c c'->
  VA r ((Y.zip xs).foldl (fun tmps p=>tmps.setIfInBounds p.1 p.2) c) ((Y.zip ys).foldl (fun tmps p=>tmps.setIfInBounds p.1 p.2) c')
 |[],_,_,_,_,_,h=>h
 |_::_,_,_,_,_,.nil,h=>h
 |t::Y,_,_,_,_,.cons K rest,h=>by
  simp;exact Nt rest (h.set _ K)
theorem VA.round{Y:Array Tmp}{a a' c c':Array _}(h:VA r a a')(k:VA r c c'):
  VA r ((Y.zip a).foldl (fun tmps x=>tmps.setIfInBounds x.1 x.2) c) ((Y.zip a').foldl (fun tmps x=>tmps.setIfInBounds x.1 x.2) c'):=by
 simp only[<-bR,Array.toList_zip];exact Nt h.toList k
inductive NX(bb:Bool)(r:Rn):Next->Next->Prop
 |value {v v':ah}:V r v v'->NX bb r (.value v) (.value v')
 |skip:NX bb r .skip .skip
 |enter {f:ao} {a a':Array ah}:gm.iG f->VA r a a'->NX bb r (.enter f a) (.enter f a')
 |defer {d d':aT}:Df r d d'->NX bb r (.defer d) (.defer d')
 |recover:bb=true->NX bb r .recover .recover
 |round {l l':Nat} {f:ao} {t t':Array ah} {aqZ bd:Code}:r l=some l'->VA r t t'->gm.code aqZ->gm.code bd->NX bb r (.round l f t aqZ bd) (.round l' f t' aqZ bd)
theorem acD{l l':Nat}(h:r l=some l'){a a':Array _}(H:VA r a a'):SR P (NX bb) r (Instr.yield l a) (Instr.yield l' a'):=by
 refine SR.bind (zx h) ?_;intro t1 q K l1 Y;rw[Y.params,H.size,Y.fn,Y.assign,Y.body];refine iD (fun _=>?_) (fun _=>?_)
 ·exact gn _
 ·exact .pure (.round (l1 _ _ h) (VA.round (H.mono l1) Y.tmps) Y.ca Y.cb)
theorem Xc{l l':Nat}(h:r l=some l'):SR P iy r (dV l) (dV l'):=by
 refine SR.bind (zx h) ?_;intro t1 q K l1 Y;refine SR.bind (tU (l1 _ _ h) (.loop ⟨rfl,Y.pending,Y.fn,Y.params,Y.assign,Y.body,Y.tmps,Y.defers,Y.cp,Y.ca,Y.cb⟩)) ?_;rintro t2 _ _ l2 _;rw[Y.state];cases q.state<;>first|exact .pure rfl|exact mr trivial
theorem Yl{l l':Nat}(h:r l=some l'){j:Option _}(H:∀c,j=some c->gm.code c):SR P V r (aK l j) (aK l' j):=by
 refine SR.bind (zx h) ?_;intro t1 q K l1 Y;refine SR.bind (tU (l1 _ _ h) (.loop ⟨rfl,rfl,Y.fn,Y.params,Y.assign,Y.body,Y.tmps,Y.defers,H,Y.ca,Y.cb⟩)) ?_;rintro t2 _ _ l2 _;exact .pure (.bool _)
theorem Zs{l l':Nat}(h:r l=some l'):SR P (fun _ x y=>x=y/\∀c,x=some c->gm.code c) r (cw l) (cw l'):=by
 refine SR.bind (zx h) ?_;intro t1 q K l1 Y;rw[Y.state];refine iD (fun _=>?_) (fun _=>?_)
 ·exact SR.bind (A:=fun _ _ _=>False) (mr trivial) fun _ _ _ _ h=>h.elim
 ·refine SR.bind (tU (l1 _ _ h) (.loop ⟨rfl,Y.pending,Y.fn,Y.params,Y.assign,Y.body,Y.tmps,Y.defers,Y.cp,Y.ca,Y.cb⟩)) ?_;rintro t2 _ _ l2 _;exact .pure ⟨Y.pending.symm,Y.cp⟩
theorem WA{b b':Nat}(h:r b=some b'):SR P DL r (d_ b) (d_ b'):=by
 refine SR.bind (oh h) ?_;intro t1 o o' l1 Y;cases Y with
 |deferred d=>
  cases d with
  |none=>exact gn _
  |some q=>
   refine SR.bind (tU (l1 _ _ h) (.deferred .none)) ?_;rintro t2 _ _ l2 _;exact .pure (q.mono l2)
 |_=>exact gn _
structure Dc(P:Program)(f:ao)(fn:Func):Prop where
 has:P.funcs[f]?=some fn
 name:(fn.name== "runtime.NumGoroutine")=false
 ext:fn.body=none->cZ fn=none/\∃e,Extern.find fn=some e/\∀r a a',VA r a a'->SR P V r (e a) (e a')
theorem Nu(C:∀f,gm.iG f->∃fn,Dc P f fn){f:ao}(h:gm.iG f){a a':Array _}(H:VA r a a'):SR P (NX bb) r (callFunc f a) (callFunc f a'):=by
 have⟨fn,Y⟩:=C f h;refine SR.bind mX ?_;rintro t1 p q l1 ⟨A,U⟩;rw[A,U];simp[Y.has,Y.name];cases R:fn.body with
 |some c=>exact .pure (.enter h (H.mono l1))
 |none=>
  have⟨K,e,D,I⟩:=Y.ext R;simp[K,D];refine SR.bind (.mark _ (.inr ⟨_,rfl⟩) fun _ _=>.pure rfl) ?_;rintro t2 _ _ l2 _;refine SR.bind (I t2 _ _ ((H.mono l1).mono l2)) ?_;intro t3 v v' F B;exact .pure (.value B)
theorem VA.tail{a a':Array _}(h:VA r a a'):VA r (a.extract 1 a.size) (a'.extract 1 a'.size):=by
 rw[<-h.size];exact h.extract 1 _
theorem Xd(R:∀f,gm.iG f->∃fn,Dc P f fn){name:String}(C:zV P name)(F:V r x x'){a a':Array _}(H:VA r a a'):SR P (NX bb) r (callMethod x name a) (callMethod x' name a'):=by
 cases F with
 |iface t A=>
  refine SR.bind mX ?_;rintro t1 p q l1 ⟨K,D⟩;rw[K,D];refine SR.bind (aaO C _ t (A.mono l1)) ?_;rintro t2 ⟨f,u⟩ ⟨f',U⟩ l2 ⟨e,Y,I⟩;subst e;exact Nu R Y ((VA.one I).append ((H.mono l1).mono l2))
 |nilIface=>exact mr (e:=.nilDeref) trivial
 |_=>exact gn _
theorem Zt(H:V r x x'){a a':Array _}(Y:VA r a a'):SR P Df r (bE x a) (bE x' a'):=by
 cases H with
 |func K s1 D R i2=>exact .pure ⟨.fn K.toR ⟨R,i2⟩,VA.append ⟨s1,D⟩ Y⟩
 |nilFunc=>exact .pure ⟨.nil,Y⟩
 |_=>exact gn _
theorem Cd(H:∀f,gm.iG f->∃fn,Dc P f fn)(C:∀n,gm.methods n->zV P n){d:aT}(h:Df r d d')(F:∀b,d.target≠.collected b):SR P (NX bb) r (invoke d.target d.args) (invoke d'.target d'.args):=by
 have⟨I,Y⟩:=h;have⟨t,a⟩:=d;have⟨t',a'⟩:=d';unfold invoke;cases I with
 |fn R D=>
  cases R with
  |func g=>exact Nu H g (Y.append D)
  |method g=>
   cases K:a[0]? with
   |none=>exact gn _
   |some x=>
    have⟨x',e,A⟩:=Y.get K;rw[e];exact Xd H (C _ g) A Y.tail
  |yield e=>exact acD e Y
 |nil=>exact mr trivial
 |collected e=>exact absurd rfl (F _)
end
section
variable[gm]{P:Program}{r:Rn}{α:Type}{A:Rn->α->α->Prop}{bb:Bool}
def js:aL->Prop
 |.tmp _=>True
 |.const v=>∀r,V r v v
 |.global g=>gm.sd g
 |.func f=>gm.iG f
def DC:=∀b,¬gm.ro b
def yr:Option aL->Prop
 |none=>True
 |some x=>js x
def rU:bg->Bool
 |.eql|.neq=>false
 |_=>true
def St(P:Program)(t:ai)(y:aL):=P.eqGuardType P.depth t=false/\((Ar P t/\((∃e,P.underlying t=some (.pointer e))->DC))\/(y=.const .nilIface/\∃m,P.underlying t=some (.interface m)))
def Gx(P:Program)(b:Builtin)(H:Array ai)(n:Nat):Prop:=
 match b with
 |.append=>∀Y d,H[1]?=some Y->P.underlying Y=some d->∀k,d≠.int k
 |.cap=>n=1
 |.copy|.len|.min|.recover=>True
 |.unsafeSliceData=>n=1/\DC
 |.unsafeString=>n=2/\DC
 |_=>False
def CV(P:Program)(c:Call):=
 (∀x∈c.args,js x)/\
 match c.callee with
 |.value f=>js f
 |.invoke x name=>js x/\gm.methods name
 |.builtin b=>Gx P b c.argTypes c.args.size
def Hd(P:Program)(t:ai):=∀k e,P.underlying t=some (.map k e)->∀d,P.underlying k=some d->plainKey d
def DG(P:Program):Op->Prop
 |.move x|.assign x|.box _ x|.load _ x|.nilCheck x|.unOp _ _ x|.makeInterface _ x|.fieldAddr _ x _|.field _ x _|.range _ x|.next x _|.entry x|.extract x _|.panic x=>js x
 |.pick c a b=>js c/\js a/\js b
 |.alloc _=>True
 |.build _ Y|.buildSlice _ _ Y=>∀p∈Y,js p.2
 |.store _ a x|.makeSlice _ a x|.indexAddr _ a x|.index _ a x=>js a/\js x
 |.binOp op t x y _=>js x/\js y/\(rU op=true\/St P t y)
 |.convert s d x=>js x/\uW P s d/\((∃k,P.underlying s=some (.int k))\/(∃e,P.underlying s=some (.slice e))\/DC)
 |.makeFunc fn first cap=>(∃f,fn=.func f/\gm.iG f)/\(∀x∈first,js x)/\∀x∈cap,js x
 |.makeMap _ x=>yr x
 |.slice _ x H K D=>js x/\yr H/\yr K/\yr D
 |.lookup t x i _=>js x/\js i/\Hd P t
 |.mapUpdate t m k x=>js m/\js k/\js x/\Hd P t
 |.typeAssert x _ a ok=>js x/\ok=true/\∀ms,P.underlying a≠some (.interface ms)
 |.call c=>CV P c
 |.defer c=>CV P c/\∃f,c.callee=.value f
 |_=>False
structure Fit(P:Program):Prop where
 s_:qw P
 jD:gm.size=P.globals.size
 r7:Dz P
 iG:∀f,gm.iG f->∃fn,Dc P f fn
 DI:∀n,gm.methods n->zV P n
theorem VA.mapOf{l:Array _}{H Y:aL->ah}(h:∀x∈l,V r (H x) (Y x)):VA r (l.map H) (l.map Y):=by
 refine⟨by simp,fun i x x' e e'=>?_⟩;simp only[bT]at e e';cases K:l[i]? with
 |none=>rw[K]at e;cases e
 |some y=>
  rw[K]at e e';simp at e e';rw[<-e,<-e'];exact h y (bU K)
theorem VO.mapOf{o:Option _}{H Y:aL->ah}(h:∀x,js x->V r (H x) (Y x))(R:yr o):VO r (o.map H) (o.map Y):=by
 cases o with
 |none=>exact .none
 |some x=>exact .some (h x R)
theorem PL.mapOf{R Y:aL->ah}(h:∀x,js x->V r (R x) (Y x)){l:Array (Nat×aL)}(H:∀p∈l,js p.2):
  PL r (l.map fun x=>(x.1,R x.2)).toList (l.map fun x=>(x.1,Y x.2)).toList:=by
 obtain⟨l⟩:=l;simp;have H:=fun p D=>H p (by simpa using D);rename_i K;clear K;induction l with
 |nil=>exact .nil
 |cons p l A=>exact .cons _ (h _ (H p (by simp))) (A fun q I=>H q (by simp[I]))
theorem jO{s s':Sem _}(h:SR P V r s s'):SR P (NX bb) r (do pure (Next.value (<-s))) (do pure (Next.value (<-s'))):=SR.bind h fun _ _ _ _ e=>.pure (.value e)
theorem Jm{s s':Sem _}(h:SR P iy r s s'):SR P (NX bb) r (do s;pure Next.skip) (do s';pure Next.skip):=SR.bind h fun _ _ _ _ _=>.pure .skip
theorem Zu{op:bg}{t:ai}(C:P.eqGuardType P.depth t=false)(x y:aL){a a' b b':ah}(R:V r a a')(H:V r b b'):SR P iy r (cE op t x y a b) (cE op t x y a' b'):=by
 refine iD (fun _=>?_) (fun _=>?_)
 ·exact .pure rfl
 cases R with
 |blank h=>cases a'<;>first|(simp[Hid]at h;done)|exact .pure rfl
 |nilIface=>
  cases H with
  |blank h=>cases b'<;>first|(simp[Hid]at h;done)|exact .pure rfl
  |nilIface=>
   refine iD (fun _=>?_) (fun _=>?_)
   ·exact .pure rfl
   have q:SR P iy r (eo bt t .nilIface .nilIface) (eo bt t .nilIface .nilIface):=by
    refine SR.bind (kv t) ?_;rintro t1 d _ l1 rfl;cases d<;>exact .pure rfl
   refine SR.bind q ?_;rintro t1 b _ l1 rfl;refine iD (fun _=>?_) (fun _=>?_)
   ·exact iw _
   ·exact .pure rfl
  |_=>exact .pure rfl
 |agg I D=>
  cases H with
  |blank h=>cases b'<;>first|(simp[Hid]at h;done)|exact .pure rfl
  |agg ks A=>
   refine SR.bind mX ?_;rintro t1 p q l1 ⟨Y,K⟩;rw[Y,K];refine SR.bind mX ?_;rintro t2 p q l2 ⟨Y,K⟩;rw[Y,K,C];exact .pure rfl
  |_=>exact .pure rfl
 |_=>exact .pure rfl
theorem Zv(F:Fit P){b:Builtin}{Y:Array _}{t:ai}{cs:Array _}{a a':Array _}(h:Gx P b Y a.size)(hr:b=.recover->bb=true)(H:VA r a a'):SR P (NX bb) r (builtin b Y t cs a) (builtin b Y t cs a'):=by
 cases b with
 |append=>exact jO (aaJ F.s_ Y t h H)
 |copy=>exact jO (aef Y t H)
 |len=>exact jO (af9 Y t H)
 |min=>exact jO (aga Y t H)
 |recover=>exact .pure (.recover (hr rfl))
 |cap=>
  have⟨l⟩:=a;have⟨l'⟩:=a';have K:=H.toList;have h:l.length=1:=h;cases K with
  |nil=>simp at h
  |cons D rest=>
   cases rest with
   |nil=>exact jO (agb Y t D)
   |cons _ _=>simp at h
 |unsafeSliceData=>
  have⟨h,z⟩:=h;have⟨l⟩:=a;have⟨l'⟩:=a';have K:=H.toList;cases K with
  |nil=>simp at h
  |cons D rest=>
   cases rest with
   |nil=>exact jO (Xz z Y t D)
   |cons _ _=>simp at h
 |unsafeString=>
  have⟨h,z⟩:=h;have⟨l⟩:=a;have⟨l'⟩:=a';have K:=H.toList;cases K with
  |nil=>simp at h
  |cons D rest=>
   cases rest with
   |nil=>simp at h
   |cons R rest=>
    cases rest with
    |nil=>exact jO (Wz z Y t D R)
    |cons _ _=>simp at h
 |_=>exact h.elim
theorem Nv(H:V r x x'){a a':Array _}(Y:VA r a a'):SR P (fun s d d'=>Df s d d'/\∀b,d.target≠.collected b) r (bE x a) (bE x' a'):=by
 cases H with
 |func K s1 D R i2=>exact .pure ⟨⟨.fn K.toR ⟨R,i2⟩,VA.append ⟨s1,D⟩ Y⟩,fun b e=>by cases e⟩
 |nilFunc=>exact .pure ⟨⟨.nil,Y⟩,fun b e=>by cases e⟩
 |_=>exact gn _
theorem aei(F:Fit P){R Y:aL->ah}(H:∀x,js x->V r (R x) (Y x)){c:Call}(h:CV P c)(hr:c.callee=.builtin .recover->bb=true)(t:ai):SR P (NX bb) r (do let d<-resolve R c t;invoke d.target d.args) (do let d<-resolve Y c t;invoke d.target d.args):=by
 have⟨A,K⟩:=h;have D:=VA.mapOf fun x U=>H x (A x U);unfold resolve;cases I:c.callee with
 |builtin b=>
  rw[I]at K;exact Zv F (by simp_all) (fun e=>hr (by simp_all)) D
 |invoke x name=>
  rw[I]at K;exact Cd F.iG F.DI (d:={target:=.fn _ #[],args:=#[R x]++c.args.map R}) (d':={target:=.fn _ #[],args:=#[Y x]++c.args.map Y}) ⟨.fn (.method K.2) .nil,(VA.one (H x K.1)).append D⟩ (fun b e=>by cases e)
 |value f=>
  rw[I]at K;exact SR.bind (Nv (H f K) D) fun t1 d d' l1 hd=>Cd F.iG F.DI hd.1 hd.2
theorem O6(F:Fit P){L H:aL->ah}(Y:∀x,js x->V r (L x) (H x))(C:∀v,L (.const v)=v/\H (.const v)=v)(o:Oper)(h:DG P o.op)(hr:∀c,o.op=.call c->c.callee=.builtin .recover->bb=true):SR P (NX bb) r (aA L o) (aA H o):=by
 have⟨dst,op,ty,pos,after,guard⟩:=o;unfold aA;simp only at h⊢;cases op with
 |move x=>exact .pure (.value (Y x h))
 |assign x=>exact .pure (.value (Y x h))
 |pick c a b=>
  refine SR.bind (O0 (Y c h.1)) ?_;rintro t1 t _ l1 rfl;cases t
  ·exact .pure (.value ((Y b h.2.2).mono l1))
  ·exact .pure (.value ((Y a h.2.1).mono l1))
 |alloc e=>exact jO (aco F.s_ e)
 |box e x=>exact jO (af8 e (Y x h))
 |build t E=>exact jO (acw F.s_ t (PL.mapOf Y h))
 |buildSlice t n E=>exact jO (W8 F.s_ t n (PL.mapOf Y h))
 |load t a=>exact jO (aaH t (Y a h))
 |store t a x=>exact Jm (Ze t (Y a h.1) (Y x h.2))
 |nilCheck x=>
  have K:=Y x h;simp only;generalize L x=u at K⊢;generalize H x=W at K⊢;cases K with
  |blank h=>
   cases W with
   |pointer a=>cases a<;>first|(simp[Hid]at h;done)|exact SR.pure (A:=NX bb) (NX.value (V.blank (y:=.pointer (some _)) rfl))
   |_=>first|(simp[Hid]at h;done)|exact SR.pure (A:=NX bb) (NX.value (V.blank h))
  |nilPtr=>exact mr (e:=.nilDeref) trivial
  |nilIface=>exact mr (e:=.nilDeref) trivial
  |nilFunc=>exact mr (e:=.nilDeref) trivial
  |func B s1 Z G i2=>
   have N:=V.func B s1 Z G i2;cases B with
   |func _=>exact .pure (.value N)
   |yield _=>exact .pure (.value N)
  |ptr a=>exact .pure (.value (.ptr a))
  |bool=>exact .pure (.value (.bool _))
  |int=>exact .pure (.value (.int _ _))
  |string=>exact .pure (.value (.string _))
  |kQ=>exact .pure (.value (.kQ _ _))
  |slice l c a=>exact .pure (.value (.slice l c a))
  |om=>exact .pure (.value .om)
  |map e=>exact .pure (.value (.map e))
  |pK=>exact .pure (.value .pK)
  |chan e=>exact .pure (.value (.chan e))
  |iface t h=>exact .pure (.value (.iface t h))
  |agg s i=>exact .pure (.value (.agg s i))
  |tuple s i=>exact .pure (.value (.tuple s i))
 |binOp op t x y p=>
  have⟨R,D,I⟩:=h;have K:=Y x R;have J:=Y y D;rcases I with I|⟨X,I⟩
  ·refine jO (SR.bind (A:=iy) ?_ fun t1 _ _ l1 _=>Ns F.jD ⟨fun e=>(by subst e;simp[rU]at I),fun e=>(by subst e;simp[rU]at I)⟩ (K.mono l1) (J.mono l1));unfold cE;cases op<;>first|exact .pure rfl|simp[rU]at I
  ·by_cases U:rU op=true
   ·refine jO (SR.bind (A:=iy) ?_ fun t1 _ _ l1 _=>Ns F.jD ⟨fun e=>(by subst e;simp[rU]at U),fun e=>(by subst e;simp[rU]at U)⟩ (K.mono l1) (J.mono l1));unfold cE;cases op<;>first|exact .pure rfl|simp[rU]at U
   ·have U:op=.eql\/op=.neq:=by cases op<;>first|exact .inl rfl|exact .inr rfl|simp[rU]at U
    refine jO (SR.bind (Zu X x y K J) fun t1 _ _ l1 _=>?_);rcases I with⟨S,z⟩|⟨rfl,m,T⟩
    ·exact acC F.jD U z S (K.mono l1) (J.mono l1)
    ·rw[(C .nilIface).1,(C .nilIface).2];exact aaN U T (K.mono l1)
 |unOp op t x=>exact jO (acA op (Y x h))
 |convert s d x=>exact jO (Zq h.2.2 h.2.1 (Y x h.1))
 |makeInterface t x=>exact jO (Wq t (Y x h))
 |makeFunc fn first cap=>
  obtain⟨⟨f,rfl,B⟩,R,D⟩:=h;exact jO (Yb (.func B) (VA.mapOf fun x K=>Y x (R x K)) (VA.mapOf fun x K=>Y x (D x K)))
 |makeMap t x=>exact jO (Zj t (VO.mapOf Y h))
 |makeSlice t l c=>exact jO (Xw F.s_ t (Y l h.1) (Y c h.2))
 |slice t x j q g=>exact jO (Zi t (Y x h.1) (VO.mapOf Y h.2.1) (VO.mapOf Y h.2.2.1) (VO.mapOf Y h.2.2.2))
 |fieldAddr t x f=>exact jO (Zg t (Y x h) f)
 |field t x f=>exact jO (acp t (Y x h) f)
 |indexAddr t x i=>exact jO (Zh t (Y x h.1) (Y i h.2))
 |index t x i=>exact jO (acr t (Y x h.1) (Y i h.2))
 |lookup t x i ok=>exact jO (aaL F.s_ F.jD h.2.2 (Y x h.1) (Y i h.2.1) ok)
 |mapUpdate t m k x=>exact Jm (Xy F.jD h.2.2.2 (Y m h.1) (Y k h.2.1) (Y x h.2.2.1))
 |range t x=>exact jO (acx t (Y x h))
 |next x b=>exact jO (aeg (Y x h) b ty)
 |entry x=>exact jO (acz (Y x h))
 |typeAssert x t a ok=>
  obtain⟨R,rfl,D⟩:=h;exact jO (W_ F.s_ (Y x R) t a D)
 |extract x i=>exact jO (Zf (Y x h) i)
 |panic x=>exact jO (Zk (Y x h))
 |call c=>exact aei F Y h (hr c rfl) ty
 |defer c=>
  obtain⟨⟨R,D⟩,f,C⟩:=h;have M:=VA.mapOf fun x K=>Y x (R x K);have⟨Q,args,O⟩:=c;simp only at C M D;subst C;refine SR.bind (Zt (Y f D) M) ?_;intro t1 d d' l1 hd;exact .pure (.defer hd)
 |_=>exact h.elim
end
structure AK(A B:gm):Prop where
 size:A.size=B.size
 iG:∀f,A.iG f->B.iG f
 methods:∀n,A.methods n->B.methods n
 code:∀c,A.code c->B.code c
 ro:∀b,A.ro b↔B.ro b
 jJ:∀b i,B.jJ b i->A.jJ b i
def ot{A B:gm}(h:AK A B)(r:@Rn A):@Rn B:=@Rn.mk B (@Rn.f A r) (@Rn.inj A r) (fun b c e=>by rw[<-h.size];exact @Rn.jD A r b c e)
section
variable{A B:gm}(h:AK A B){r:@Rn A}
include h
theorem CW{a:Addr}(k:@Ad A r a a'):@Ad B (ot h r) a a':=by
 obtain⟨Y,K,H⟩:=k;exact @Ad.mk B _ _ _ Y K H
theorem aej{f f':Fn}(k:@p8 A r f f'):@p8 B (ot h r) f f':=by
 cases k with
 |func g=>exact @p8.func B _ _ (h.iG _ g)
 |yield e=>exact @p8.yield B _ _ _ e
theorem aek{f f':Fn}(k:@p0 A r f f'):@p0 B (ot h r) f f':=by
 cases k with
 |func g=>exact @p0.func B _ _ (h.iG _ g)
 |method g=>exact @p0.method B _ _ (h.methods _ g)
 |yield e=>exact @p0.yield B _ _ _ e
theorem I6(k:@V A r x y):@V B (ot h r) x y:=by
 induction k with
 |blank e=>exact .blank e
 |bool b=>exact .bool b
 |int k n=>exact .int k n
 |string s=>exact .string s
 |nilPtr=>exact .nilPtr
 |ptr a=>exact .ptr (CW h a)
 |kQ l c=>exact .kQ l c
 |slice l c a=>exact .slice l c (CW h a)
 |om=>exact .om
 |map e=>exact .map e
 |pK=>exact .pK
 |chan e=>exact .chan e
 |func n s1 _ K _ Y i2=>exact .func (aej h n) s1 Y K i2
 |nilFunc=>exact .nilFunc
 |iface t _ i=>exact .iface t i
 |nilIface=>exact .nilIface
 |agg s _ i=>exact .agg s i
 |tuple s _ i=>exact .tuple s i
theorem uv{c c':Array _}(k:@VA A r c c'):@VA B (ot h r) c c':=by
 obtain⟨Y,K⟩:=k;exact @VA.mk B _ _ _ Y fun i x x' e e'=>I6 h (K i x x' e e')
theorem agc{e e':ay}(k:@En A r e e'):@En B (ot h r) e e':=by
 obtain⟨Y,K,H⟩:=k;exact @En.mk B _ _ _ (I6 h Y) (I6 h K) H
theorem agd{t t':Target}(k:@Tg A r t t'):@Tg B (ot h r) t t':=by
 cases k with
 |fn f c=>exact .fn (aek h f) (uv h c)
 |nil=>exact .nil
 |collected e=>exact .collected e
theorem age{d d':List _}(k:@DL A r d d'):@DL B (ot h r) d d':=by
 induction k with
 |nil=>exact .nil
 |cons x _ H=>
  obtain⟨Y,K⟩:=x;exact .cons ⟨agd h Y,uv h K⟩ H
theorem ahq{o:Obj}(k:@O A r o o'):@O B (ot h r) o o':=by
 cases k with
 |loop l=>
  obtain⟨a1,a2,a3,a4,a5,Y,K,H,a9,D,R⟩:=l;exact .loop ⟨a1,a2,a3,a4,a5,Y,uv h K,H,fun c e=>h.code _ (a9 c e),h.code _ D,h.code _ R⟩
 |view t n a=>exact .view t (fun y=>n ((h.ro _).2 y)) (CW h a)
 |number l a=>exact .number l (CW h a)
 |deferred d=>
  cases d with
  |none=>exact .deferred .none
  |some x=>exact .deferred (.some (age h x))
 |cells e fz a=>exact .cells e fz (uv h a)
 |map I C U=>exact .map I C fun i x x' e e'=>agc h (U i x x' e e')
 |stringIter s p=>exact .stringIter s p
 |qe a s n=>exact .qe a s n
 |mapIter a s n e=>exact .mapIter a s n e
theorem agf{b:Nat}{o:Obj}(k:@OB A r b o o'):@OB B (ot h r) b o o':=by
 cases k with
 |same n o=>exact .same (fun y=>n ((h.ro _).2 y)) (ahq h o)
 |ro e n a Y=>exact .ro e ((h.ro _).1 n) (uv h a) fun i K=>Y i (h.jJ _ _ K)
theorem I7{v:af}(k:@W A r c v w):@W B (ot h r) c v w:=by
 obtain⟨D,R,I,U,C,F⟩:=k;refine @W.mk B _ _ _ _ (fun b b' e=>?_) (by rw[<-h.size];exact R) (by rw[<-h.size];exact I) (fun b J=>U b ((h.ro b).2 J)) C F;obtain⟨o,o',Y,K,H⟩:=D b b' e;exact⟨o,o',Y,K,agf h H⟩
end
end Ren
namespace Ren
open Conc
section
variable[gm]{P:Program}{r:Rn}
def ye(P:Program)(rd:Bool)(o:Oper):=DG P o.op/\(rd=true->(∀c,o.op≠.defer c)/\∀c,o.op=.call c->c.callee≠.builtin .recover)
def lQ(P:Program)(rd:Bool):Code->Prop
 |.skip|.label _|.exit _|.goto _|.ret=>True
 |.refuse y=>y≠ ""
 |.region _ ops _=>gm.wall ops\/∀o∈ops,ye P rd o
 |.seq a b=>lQ P rd a/\lQ P rd b
 |.cond c a b=>js c/\lQ P rd a/\lQ P rd b
 |.block _ c|.loop c|.scope c=>lQ P rd c
 |.rangeFunc f _ aqZ bd=>js f/\gm.code aqZ/\gm.code bd
structure lA(P:Program):Prop extends Fit P where
 code:∀c,gm.code c->lQ P true c
 ret:gm.code .ret
 exit:∀i,gm.code (.exit i)
 goto:∀i,gm.code (.goto i)
 body:∀f fn c,gm.iG f->P.funcs[f]?=some fn->fn.body=some c->lQ P false c
inductive IT(P:Program)(r:Rn)(rd:Bool):Item->Item->Prop
 |code {c:Code}:lQ P rd c->IT P r rd (.code c) (.code c)
 |inBlock (i:Nat):IT P r rd (.inBlock i) (.inBlock i)
 |inLoop {c:Code}:lQ P rd c->IT P r rd (.inLoop c) (.inLoop c)
 |inScope {c:Code}:lQ P rd c->IT P r rd (.inScope c) (.inScope c)
 |inRegion {ops:Array Oper} (l:List Nat):(∀i∈l,∀o,ops[i]?=some o->ye P rd o)->IT P r rd (.inRegion ops l) (.inRegion ops l)
 |inRangeFunc {l l':Nat}:r l=some l'->IT P r rd (.inRangeFunc l) (.inRangeFunc l')
 |endRangeFunc {l l':Nat}:r l=some l'->IT P r rd (.endRangeFunc l) (.endRangeFunc l')
 |beginRound:IT P r rd .beginRound .beginRound
def zX:List Item->Bool
 |[]|.code _::_|.inBlock _::_|.inLoop _::_|.inScope _::_=>true
 |_=>false
inductive IL(P:Program)(r:Rn)(rd bz:Bool):List Item->List Item->Prop
 |nil:IL P r rd bz [] []
 |rest {k':List Item}:rd=false->bz=true->gm.rest k'->zX k'=true->IL P r rd bz [.code (.refuse "")] k'
 |cons {x y:Item} {k k':List Item}:IT P r rd x y->IL P r rd bz k k'->IL P r rd bz (x::k) (y::k')
structure PE(r:Rn)(x y:aX):Prop where
 v:V r x.v y.v
 recovered:y.recovered=x.recovered
 goexit:y.goexit=x.goexit
inductive oa(r:Rn):List aX->List aX->Prop
 |nil:oa r [] []
 |cons {x y:aX} {k k':List aX}:PE r x y->oa r k k'->oa r (x::k) (y::k')
inductive MD(r:Rn):cu->cu->Prop
 |run:MD r .run .run
 |returning:MD r .returning .returning
 |panicking {k k':List aX}:oa r k k'->MD r (.panicking k) (.panicking k')
inductive DB(r:Rn)(bz:Bool):List aT->List aT->Prop
 |nil:DB r bz [] []
 |rest {l':List aT}:bz=true->gm.jm l'->DB r bz [] l'
 |cons {d d':aT} {l l':List aT}:Df r d d'->DB r bz l l'->DB r bz (d::l) (d'::l')
structure FR(P:Program)(r:Rn)(bz:Bool)(f f':ae):Prop where
 fn:f'.fn=f.fn
 tmps:VA r f.tmps f'.tmps
 todo:IL P r f.roundOf.isSome bz f.todo f'.todo
 defers:DB r bz f.defers f'.defers
 mode:MD r f.mode f'.mode
 kind:f'.kind=f.kind
 kinds:f.kind=.normal\/f.kind=.deferred
 round:LO r f.roundOf f'.roundOf
 has:f.roundOf=none->∃fn,P.funcs[f.fn]?=some fn
inductive SL(P:Program)(r:Rn)(cs gS:List ae):Nat->List ae->List ae->Prop
 |base:SL P r cs gS 0 cs gS
 |cons {n:Nat} {f f':ae} {l l':List ae}:FR P r (n==0) f f'->(n=0->f.roundOf=none/\f.kind=.normal)->SL P r cs gS n l l'->SL P r cs gS (n+1) (f::l) (f'::l')
theorem IT.mono{s:Rn}(h:Le r s){x y:Item}(k:IT P r rd x y):IT P s rd x y:=by
 cases k with
 |code c=>exact .code c
 |inBlock i=>exact .inBlock i
 |inLoop c=>exact .inLoop c
 |inScope c=>exact .inScope c
 |inRegion l o=>exact .inRegion l o
 |inRangeFunc e=>exact .inRangeFunc (h _ _ e)
 |endRangeFunc e=>exact .endRangeFunc (h _ _ e)
 |beginRound=>exact .beginRound
theorem IL.mono{s:Rn}(h:Le r s){x y:List Item}(k:IL P r rd bz x y):IL P s rd bz x y:=by
 induction k with
 |nil=>exact .nil
 |rest a b c d=>exact .rest a b c d
 |cons a _ Y=>exact .cons (a.mono h) Y
theorem PE.mono{s:Rn}(h:Le r s){x y:aX}(k:PE r x y):PE s x y:=⟨k.v.mono h,k.recovered,k.goexit⟩
theorem oa.mono{s:Rn}(h:Le r s){x y:List _}(k:oa r x y):oa s x y:=by
 induction k with
 |nil=>exact .nil
 |cons a _ Y=>exact .cons (a.mono h) Y
theorem oa.append{x y x' I:List _}(h:oa r x y)(k:oa r x' I):oa r (x++x') (y++I):=by
 induction h with
 |nil=>exact k
 |cons a _ Y=>exact .cons a Y
theorem MD.mono{s:Rn}(h:Le r s){x y:cu}(k:MD r x y):MD s x y:=by
 cases k with
 |run=>exact .run
 |returning=>exact .returning
 |panicking p=>exact .panicking (p.mono h)
theorem DB.mono{s:Rn}(h:Le r s){x y:List _}(k:DB r bz x y):DB s bz x y:=by
 induction k with
 |nil=>exact .nil
 |rest a b=>exact .rest a b
 |cons a _ Y=>exact .cons (a.mono h) Y
theorem DL.S8{x y x' I:List _}(h:DL r x y)(k:DB r bz x' I):DB r bz (x++x') (y++I):=by
 induction h with
 |nil=>exact k
 |cons a _ Y=>exact .cons a Y
theorem FR.mono{s:Rn}(h:Le r s)(k:FR P r bz f f'):FR P s bz f f':=⟨k.fn,k.tmps.mono h,k.todo.mono h,k.defers.mono h,k.mode.mono h,k.kind,k.kinds,k.round.mono h,k.has⟩
theorem SL.mono{s:Rn}{cs gS:List _}(h:Le r s){n:Nat}{l l':List _}(k:SL P r cs gS n l l'):SL P s cs gS n l l':=by
 induction k with
 |base=>exact .base
 |cons f b _ Y=>exact .cons (f.mono h) b Y
theorem VA.getD{c c':Array _}(h:VA r c c')(i:Nat):V r (c.getD i aJ) (c'.getD i aJ):=by
 have e:∀a:Array _,a.getD i aJ=(a[i]?).getD undef:=fun a=>by simp
 rw[e,e];cases Y:c[i]? with
 |some x=>have⟨x',e',K⟩:=h.get Y;simp_all
 |none=>rw[h.none Y];exact .tuple rfl (fun i x x' e=>by simp)
def GI(r:Rn):=∀g,gm.sd g->r g=some g
theorem GI.mono{s:Rn}(h:Le r s)(k:GI r):GI s:=fun g Y=>h _ _ (k g Y)
theorem FR.eval(h:FR P r bz f f')(g:GI r)(x:aL)(Y:js x):V r (f.eval x) (f'.eval x):=by
 cases x with
 |tmp t=>exact h.tmps.getD t
 |const v=>exact Y r
 |global i=>exact .ptr ⟨g i Y,rfl,rfl⟩
 |func f=>exact .func (.func Y) rfl (fun i x x' e=>by simp) rfl (fun i x x' e=>by simp)
theorem Zw{ops:Array _}{c c':Array _}(h:VA r c c'):bD ops c'=bD ops c:=by
 funext j;unfold bD;cases hd:(ops[j]?).bind _ with
 |none=>rfl
 |some d=>
  simp;cases Y:c[d]? with
  |none=>rw[h.none Y]
  |some x=>
   have⟨x',e,H⟩:=h.get Y;rw[e];cases H with
   |blank K=>cases x'<;>first|rfl|(simp[Hid]at K)
   |_=>rfl
theorem FR.finish(h:FR P r bz f f'){v:ah}(T:V r v v'):FR P r bz (f.finish v) (f'.finish v'):=by
 have⟨fn,tmps,todo,defers,mode,kind,ro⟩:=f;have⟨iV,L,B,C,J,F,S⟩:=f';have⟨K,Y,M,H,D,R,I,A,U⟩:=h;simp only at K Y M H D R I A U;unfold Frame.finish;cases M with
 |nil=>exact⟨K,Y,.nil,H,D,R,I,A,U⟩
 |rest a b c d=>
  cases B with
  |nil=>exact⟨K,Y,.rest a b c d,H,D,R,I,A,U⟩
  |cons x q=>cases x<;>first|exact⟨K,Y,.rest a b c d,H,D,R,I,A,U⟩|(simp[zX]at d)
 |cons O hk=>
  cases O with
  |code c=>exact⟨K,Y,.cons (.code c) hk,H,D,R,I,A,U⟩
  |inBlock i=>exact⟨K,Y,.cons (.inBlock i) hk,H,D,R,I,A,U⟩
  |inLoop c=>exact⟨K,Y,.cons (.inLoop c) hk,H,D,R,I,A,U⟩
  |inScope c=>exact⟨K,Y,.cons (.inScope c) hk,H,D,R,I,A,U⟩
  |inRegion l N=>
   cases l with
   |nil=>exact⟨K,Y,.cons (.inRegion [] N) hk,H,D,R,I,A,U⟩
   |cons i rest=>
    refine⟨K,?_,.cons (.inRegion rest fun j Q=>N j (by simp[Q])) hk,H,D,R,I,A,U⟩;simp only;split
    ·exact Y.set _ T
    ·exact Y
  |inRangeFunc e=>exact⟨K,Y,.cons (.endRangeFunc e) hk,H,D,R,I,A,U⟩
  |endRangeFunc e=>exact⟨K,Y,.cons (.endRangeFunc e) hk,H,D,R,I,A,U⟩
  |beginRound=>exact⟨K,Y,hk,H,D,R,I,A,U⟩
theorem FR.raise(h:FR P r bz f f'){x y:List _}(H:oa r x y):FR P r bz (f.raise x) (f'.raise y):=by
 have D:=h.mode;unfold bq;cases Y:f.mode<;>cases K:f'.mode<;>rw[Y,K]at D<;>cases D
 ·exact⟨h.fn,h.tmps,h.todo,h.defers,.panicking H,h.kind,h.kinds,h.round,h.has⟩
 ·exact⟨h.fn,h.tmps,h.todo,h.defers,.panicking H,h.kind,h.kinds,h.round,h.has⟩
 ·rename_i R;exact⟨h.fn,h.tmps,h.todo,h.defers,.panicking (H.append R),h.kind,h.kinds,h.round,h.has⟩
theorem FR.enter(F:lA P){f:ao}(R:gm.iG f){a a':Array _}(H:VA r a a'){k:cV}(hk:k=.normal\/k=.deferred):FR P r bz (Frame.enter P f a k) (Frame.enter P f a' k):=by
 have⟨fn,Y⟩:=F.iG f R;unfold Frame.enter;refine⟨rfl,?_,.cons (.code ?_) .nil,.nil,.run,rfl,hk,.none,fun _=>⟨fn,Y.has⟩⟩
 ·simp[<-H.size];exact H.append (.rep _ (.tuple rfl (fun i x x' e=>by simp)))
 ·simp[Y.has,Option.bind_some];cases K:fn.body with
  |none=>exact(by simp:("unsupported: a function without a Go body is entered")≠ "")
  |some c=>exact F.body f fn c R Y.has K
theorem FR.roundOf(F:lA P){l l':Nat}(R:r l=some l')(f:ao){t t':Array _}(C:VA r t t'){aqZ bd:Code}(Y:gm.code aqZ)(H:gm.code bd){k:cV}(hk:k=.normal\/k=.deferred):FR P r bz (Frame.round l f t aqZ bd k) (Frame.round l' f t' aqZ bd k):=
 ⟨rfl,C,.cons (.code (F.code aqZ Y)) (.cons .beginRound (.cons (.code (F.code bd H)) .nil)),.nil,.run,rfl,hk,.some R,fun h=>by cases h⟩
theorem IL.exitTo(i:Nat){k k':List Item}(h:IL P r rd bz k k'):(exitTo i k=none/\(rd=false\/exitTo i k'=none))\/∃m m',exitTo i k=some m/\exitTo i k'=some m'/\IL P r rd bz m m':=by
 induction h with
 |nil=>exact .inl ⟨rfl,.inr rfl⟩
 |rest a b c d=>exact .inl ⟨rfl,.inl a⟩
 |cons a b K=>
  cases a with
  |inBlock j=>
   unfold Go.exitTo;by_cases Y:(j==i)=true
   ·rw[if_pos Y,if_pos Y];exact .inr ⟨_,_,rfl,rfl,b⟩
   ·rw[if_neg Y,if_neg Y];exact K
  |_=>exact K
theorem lQ.findLabel:∀{c:Code} {l:Nat} {d:Code},lQ P rd c->findLabel c l=some d->lQ P rd d:=by
 intro c;induction c with
 |seq a b K H=>
  intro l d h e;unfold Go.findLabel at e;cases Y:Go.findLabel a l with
  |some x=>rw[Y]at e;rw[<-Option.some.inj e];exact⟨K h.1 Y,h.2⟩
  |none=>rw[Y]at e;exact H h.2 e
 |label j=>
  intro l d h e;unfold Go.findLabel at e;split at e
  ·rw[<-Option.some.inj e];exact trivial
  ·cases e
 |_=>intro l d h e;simp[Go.findLabel]at e
theorem IL.gotoIn(i:Nat){k k':List Item}(h:IL P r rd bz k k'):(gotoIn i k=none/\(rd=false\/gotoIn i k'=none))\/∃m m',gotoIn i k=some m/\gotoIn i k'=some m'/\IL P r rd bz m m':=by
 induction h with
 |nil=>exact .inl ⟨rfl,.inr rfl⟩
 |rest a b c d=>exact .inl ⟨rfl,.inl a⟩
 |cons a b K=>
  cases a with
  |inScope Y=>
   rename_i c;unfold Go.gotoIn;cases H:Go.findLabel c i with
   |some d=>exact .inr ⟨_,_,rfl,rfl,.cons (.code (Y.findLabel H)) (.cons (.inScope Y) b)⟩
   |none=>exact K
  |_=>exact K
theorem QZ{H:Type}(g Y:H->Sem _):∀(l:List H) r,(∀b s,Le r s->SR P V s (g b) (Y b))->SR P VL r (l.mapM g) (l.mapM Y)
 |[],r,h=>by exact .pure .nil
 |b::l,r,h=>by
  rw[da,da];refine SR.bind (h b r (.refl _)) ?_;intro t x x' l1 D;refine SR.bind (QZ g Y l t fun b s l2=>h b s (l1.trans l2)) ?_;intro u xs R l2 K;exact .pure (.cons (D.mono l2) K)
theorem Of{fn:Func}{c c':Array _}(h:VA r c c'):SR P V r (results fn c) (results fn c'):=by
 unfold results;rw[cO,cO];refine SR.bind (SR.bind (QZ _ _ _ r ?_) fun _ _ _ _ e=>.pure e.toArray) ?_
 ·intro D s l;cases D with
  |tmp t=>exact .pure ((h.getD t).mono l)
  |cell a t=>exact SR.bind (O1 ((h.getD a).mono l)) fun _ _ _ _ e=>Ob t e
 ·intro t x y l Y;by_cases H:x.size=1
  ·have K:y.size=1:=by rw[<-Y.size];exact H
   exact .pure (Y.at_ 0 _ _ (by simp[H]) (by simp_all))
  ·have K:¬y.size=1:=by rw[<-Y.size];exact H
   rw[dif_neg H,dif_neg K];exact .pure (.tuple Y.size Y.at_)
end
section
variable[gm]{P:Program}{r:Rn}{c:Nat}{cs gS:List ae}{v w:af}
def qJ:aV->af
 |.go _ w _|.comm _ _ _ _ w _|.spawn _ _ w _|.count _ w _|.timer _ _ w _|.alone _ _ w _|.newcoro _ _ _ w _|.coroswitch _ _ _ w _|.collect _ w _|.watch _ w _|.ended _ w _=>w
inductive ST(P:Program)(r:Rn)(c:Nat)(cs gS:List ae)(v w:af):aV->aV->Prop
 |go {n:Nat} {f f':ae} {l l':List ae} {v1 w1:af} {es iI:Array aO} (r1:Rn) (c1:Nat):FR P r1 (n==0) f f'->SL P r1 cs gS n l l'->(n=0->f.roundOf=none/\f.kind=.normal)->Out r r1 c c1 v w v1 w1->(∀e∈iI,lX r w w1.heap.size e)->
   ST P r c cs gS v w (.go (G f l) v1 es) (.go (G f' l') w1 iI)
 |ended {o:Outcome} {v1:af} {es:Array aO} {x:aV}:ST P r c cs gS v w (.ended o v1 es) x
 |lF {s x:aV}:v.drawn+c<(qJ s).drawn->w.drawn+c<(qJ x).drawn->ST P r c cs gS v w s x
omit [gm]in
theorem qT(es:Array _)(s:aV):qJ (GStep.after es s)=qJ s:=by cases s<;>rfl
omit [gm]in
theorem Cs{α:Type}{s:Sem α}{a:α}{u:af}(h:s.run P u=.ok a u1):u.drawn<=u1.drawn:=by
 have:=Ca (P:=P) s u;rw[h]at this;exact this
omit [gm]in
theorem F9{α:Type}{s:Sem α}{a:Halt}{u:af}(h:s.run P u=.halt a u1):u.drawn<=u1.drawn:=by
 have:=Ca (P:=P) s u;rw[h]at this;exact this
omit [gm]in
theorem Ym(fr:ae)(l:List ae)(d:Option Dying)(g:Nat)(u:af):u.drawn<=(qJ (early P fr l d g u)).drawn:=by
 unfold early;dsimp only
 repeat' split
 all_goals first|exact ak _|skip
 ·rename_i e _ _ _ _;exact aW (Cs e) (ak _)
 ·rename_i e _ _;exact Cs e
 ·rename_i e;exact Cs e
 ·rename_i e;exact F9 e
omit [gm]in
theorem FL(f:ae)(l:List ae)(d:Option Dying)(m:String)(u:af):u.drawn<=(qJ (endFatal P f l d m u)).drawn:=by
 unfold endFatal dieOf;dsimp only;split
 ·rename_i e;exact Cs e
 ·rename_i e;exact F9 e
 ·first|exact F9 ‹_›
omit [gm]in
theorem Nw{s:Sem Next}{d:Option Dying}(u:af):(s.run P u).world.drawn<=(qJ (stepG.apply P true f l d s u)).drawn:=by
 unfold stepG.apply;simp only[if_true,qT];have Y:(s.runT P u #[]).1=s.run P u:=by simp
 generalize s.runT P u #[]=sv at Y;have⟨D,H⟩:=sv;subst Y;cases s.run P u with
 |ok a v=>
  cases a<;>(try simp only)<;>first
   |exact ak _
   |(repeat' split)<;>exact ak _
 |halt a v=>
  cases a<;>(try simp only)<;>first
   |exact ak _
   |exact FL _ _ _ _ _
   |(rename_i K;cases K<;>first|exact ak _|exact Ym _ _ _ _ _)
theorem lC{u:Nat}:∀e∈(#[]),lX r w u e:=by simp
theorem P8(f:Bool×Array _->aO->Bool×Array _)(Y:∀x a,e∈(f x a).2->e∈x.2\/e=a):∀(l:List _) x,e∈(l.foldl f x).2->e∈x.2\/e∈l
 |[],x,h=>.inl h
 |a::l,x,h=>by
  rcases P8 f Y l _ h with y|y
  ·exact(Y x a y).imp id fun z=>by simp_all
  ·simp_all
theorem mem_seen(fn:ao)(es:Array _):∀e∈seen P fn es,e∈es:=by
 intro e Y;dsimp only[seen]at Y;rw[<-bR]at Y;refine(P8 _ ?_ _ _ Y).elim (fun x=>by simp at x) (fun x=>Array.mem_toList_iff.1 x);rintro⟨q,kept⟩ a h;split at h
 ·simp_all
 ·split at h
  ·simp_all
  ·simp_all
theorem ST.after{r1:Rn}{c1:Nat}{w1:af}{s s':aV}(o:Out r r1 c c1 v w v1 w1)(h:ST P r1 c1 cs gS v1 w1 s s')(es iI:Array _)(Y:∀e∈iI,lX r w w1.heap.size e):ST P r c cs gS v w (GStep.after es s) (GStep.after iI s'):=by
 cases h with
 |go r2 c2 a b d o2 e=>exact .go r2 c2 a b d (o.trans o2) fun x K=>(dB.1 K).elim (fun y=>(Y x y).mono o2.grow) (fun y=>(e x y).back o o2.grow)
 |ended=>exact .ended
 |lF h k=>exact .lF (by rw[qT];have:=o.drew;omega) (by rw[qT];have:=o.yq;omega)
theorem acE(h:FR P r bz f f'):
  FR P r bz (match f.mode with|.panicking ({recovered:=true,..}::Y)=>(match Y.dropWhile (!·.goexit)with|[]=>{f with mode:=.returning}|rest=>{f with mode:=.panicking rest})|_=>f)
   (match f'.mode with|.panicking ({recovered:=true,..}::Y)=>(match Y.dropWhile (!·.goexit)with|[]=>{f' with mode:=.returning}|rest=>{f' with mode:=.panicking rest})|_=>f'):=by
 have K:=h.mode;generalize f.mode=m at K;generalize f'.mode=m' at K;cases K with
 |run=>exact h
 |returning=>exact h
 |panicking H=>
  cases H with
  |nil=>exact h
  |cons a b=>
   rename_i x y k k';obtain⟨A,I,xg⟩:=x;obtain⟨B,D,U⟩:=y;obtain⟨a1,a2,a3⟩:=a;subst a2;cases D with
   |false=>exact h
   |true=>
    have dw:oa r (k.dropWhile (!·.goexit)) (k'.dropWhile (!·.goexit)):=by
     induction b with
     |nil=>exact .nil
     |cons p q R=>
      simp[List.dropWhile_cons,p.goexit];split
      ·omega
      ·exact .cons p q
    simp only;generalize k.dropWhile _=z at dw;generalize k'.dropWhile _=C at dw;cases dw with
    |nil=>exact⟨h.fn,h.tmps,h.todo,h.defers,.returning,h.kind,h.kinds,h.round,h.has⟩
    |cons p q=>exact⟨h.fn,h.tmps,h.todo,h.defers,.panicking (.cons p q),h.kind,h.kinds,h.round,h.has⟩
theorem WR{n:Nat}{l l':List _}(H:FR P r (n==0) f f')(R:n=0->f.roundOf=none/\f.kind=.normal)(C:SL P r cs gS n l l'):
  (bQ f l=none/\bQ f' l'=none)\/∃x x' m m',bQ f l=some (x,m)/\bQ f' l'=some (x',m')/\V r x x'/\SL P r cs gS n m m':=by
 have hk:=H.kind;unfold bQ;rw[hk];rcases H.kinds with h|h
 ·simp_all
 ·rw[h];cases C with
  |base=>exact absurd ((R rfl).2.symm.trans h) (by simp)
  |cons a b d=>
   rename_i k g D l l';simp only;have Y:=a.mode;generalize I:g.mode=m at Y;generalize K:D.mode=m' at Y;cases Y with
   |run=>exact .inl ⟨rfl,rfl⟩
   |returning=>exact .inl ⟨rfl,rfl⟩
   |panicking A=>
    cases A with
    |nil=>exact .inl ⟨rfl,rfl⟩
    |cons p q=>
     rename_i x y k k';have⟨J,F,xg⟩:=x;have⟨L,B,U⟩:=y;have⟨a1,a2,a3⟩:=p;subst a2;subst a3;cases B<;>cases U<;>first
      |exact .inl ⟨rfl,rfl⟩
      |exact .inr ⟨_,_,_,_,rfl,rfl,a1,.cons ⟨a.fn,a.tmps,a.todo,a.defers,.panicking (.cons ⟨a1,rfl,rfl⟩ q),a.kind,a.kinds,a.round,a.has⟩ b d⟩
theorem Gy{n:Nat}{l l':List _}(H:FR P r bz f f')(R:SL P r cs gS (n+1) l l')(hw:W r c v w)(C:V r x x')(main main':Bool):ST P r c cs gS v w (aM P main f l none x v) (aM P main' f' l' none x' w):=by
 cases R with
 |cons a b d=>
  unfold aM;rw[H.kind];rcases H.kinds with h|h
  ·rw[h];refine .go r c (a.finish C) d ?_ (.refl hw) lC;intro Y;have:=b Y;unfold Frame.finish;split<;>exact this
  ·rw[h];have bd:=acE a;refine .go r c bd d ?_ (.refl hw) lC;intro Y;have:=b Y;split
   ·split<;>exact this
   ·omega
theorem acF{n:Nat}(H:n=0->f.roundOf=none/\f.kind=.normal)(Y:List _)(x:ah):n=0->(Frame.finish {f with defers:=Y} x).roundOf=none/\(Frame.finish {f with defers:=Y} x).kind=.normal:=fun K=>by
 have:=H K;unfold Frame.finish;split<;>exact this
theorem ael{a b:Option Nat}(h:LO r a b)(e:a=none):b=none:=by
 cases h with
 |none=>rfl
 |some _=>cases e
theorem He(F:lA P){n:Nat}{s s':Sem Next}(h:SR P (NX (f.roundOf.isNone)) r s s')(J:FR P r (n==0) f f')(C:n=0->f.roundOf=none/\f.kind=.normal)(p:SL P r cs gS n l l')(hw:W r c v w):
  ST P r c cs gS v w (stepG.apply P true f l none s v) (stepG.apply P true f' l' none s' w):=by
 have A:(f.kind==CallKind.early)=false:=by rcases J.kinds with h|h<;>rw[h]<;>rfl
 have U:(f'.kind==CallKind.early)=false:=by rw[J.kind];exact A
 have R:∀(x:ah),n=0->(f.finish x).roundOf=none/\(f.finish x).kind=.normal:=fun x N=>by
  have:=C N;unfold Frame.finish;split<;>exact this
 have T:∀(x:List aX),n=0->(f.raise x).roundOf=none/\(f.raise x).kind=.normal:=fun x N=>by
  have:=C N;unfold bq;split<;>exact this
 have run:=h.run F.r7 #[] hw;by_cases H:v.drawn+c<(s.run P v).world.drawn/\w.drawn+c<(s'.runT P w #[]).1.world.drawn
 ·refine .lF (az H.1 (Nw v)) (az ?_ (Nw w));have:=H.2;rw[dk]at this;exact this
 unfold stepG.apply;simp only[if_true,A,U,bX,if_false];have ev:∀{fs:Array aO} {u:Nat},(∀e∈fs,e∈(#[]:Array aO)\/lX r w u e)->∀e∈seen P f'.fn fs,lX r w u e:=fun V e D=>(V e (mem_seen _ _ e D)).elim (fun x=>by simp at x) id;have M:(s.runT P v #[]).1=s.run P v:=by rw[dk]
 generalize Ee:s.runT P v #[]=sv at M;generalize Z:s'.runT P w #[]=sw at run;have⟨rv,g⟩:=sv;simp only at M;subst M;simp only;generalize X:s.run P v=rv at run;cases run with
 |lF h k=>rw[X,Z]at H;exact absurd ⟨h,k⟩ H
 |lost h=>
  rename_i x v1 y;rcases h with⟨u,rfl,hu⟩|⟨y,rfl⟩
  ·cases u<;>first|exact .ended|(simp[CU]at hu)
  ·exact .ended
 |halt r1 c1 o V D=>
  cases V with
  |panic E=>exact ST.after o (.go r1 c1 ((J.mono o.le).raise (oa.cons (x:=⟨_,false,false⟩) (y:=⟨_,false,false⟩) ⟨E,rfl,rfl⟩ .nil)) (p.mono o.le) (T _) (.refl o.wl) lC) _ _ (ev D)
 |ok r1 c1 o G D=>
  have Y:=J.mono o.le;have K:=p.mono o.le;cases G with
  |value E=>exact ST.after o (.go r1 c1 (Y.finish E) K (R _) (.refl o.wl) lC) _ _ (ev D)
  |skip=>exact ST.after o (.go r1 c1 (Y.finish (.tuple rfl (fun i x x' e=>by simp at e))) K (R _) (.refl o.wl) lC) _ _ (ev D)
  |enter b O=>
   refine ST.after o ?_ _ _ (ev D);dsimp only;have I:=J.todo;split
   ·rename_i e;rw[e]at I;generalize f'.todo=z at I;cases I with
    |cons a _=>cases a
   ·split
    ·rename_i e;rw[e]at I;generalize f.todo=z at I;cases I with
     |rest _ _ _ d=>simp[zX]at d
     |cons a _=>cases a
    ·exact .go r1 c1 (FR.enter F b O (.inl rfl)) (.cons Y C K) (fun h=>by omega) (.refl o.wl) lC
  |defer hd=>exact ST.after o (.go r1 c1 (FR.finish (f:={f with defers:=_::f.defers}) (f':={f' with defers:=_::f'.defers}) ⟨Y.fn,Y.tmps,Y.todo,.cons hd Y.defers,Y.mode,Y.kind,Y.kinds,Y.round,Y.has⟩ (.tuple rfl (fun i x x' e=>by simp at e))) K (acF C _ _) (.refl o.wl) lC) _ _ (ev D)
  |round t I O Q=>exact ST.after o (.go r1 c1 (FR.roundOf F t _ I O Q (.inl rfl)) (.cons Y C K) (fun h=>by omega) (.refl o.wl) lC) _ _ (ev D)
  |recover S=>
   have B:f.roundOf=none:=by simpa using S
   have L:f'.roundOf=none:=ael J.round B;simp only[B,L];refine ST.after o ?_ _ _ (ev D);rcases WR Y C K with⟨q,j⟩|⟨x,x',m,m',q,j,G,hm⟩
   ·rw[q,j];exact .go r1 c1 (Y.finish .nilIface) K (R _) (.refl o.wl) lC
   ·rw[q,j];exact .go r1 c1 (Y.finish G) hm (R _) (.refl o.wl) lC
end
section
variable[gm]{P:Program}{r:Rn}{c:Nat}{cs gS:List ae}{v w:af}
theorem yt{α:Type}{A:Rn->α->α->Prop}(F:lA P){s s':Sem α}(h:SR P A r s s')(hw:W r c v w){H:Result α}{R:Array _}{Y:Result α×Array _}(C:s.runT P v #[]=(H,R))(J:s'.runT P w #[]=Y):RR A r c #[] v w H Y:=by
 have:=h.run F.r7 #[] hw;simp_all
theorem pQ{fs:Array _}{fn:ao}{u:Nat}(H:∀e∈fs,e∈(#[])\/lX r w u e):∀e∈seen P fn fs,lX r w u e:=fun e Y=>(H e (mem_seen _ _ e Y)).elim (fun x=>by simp at x) id
omit [gm]in
theorem BF(main:Bool)(f:ae)(l:List _)(d:Option _)(x:ah)(u:af):u.drawn<=(qJ (aM P main f l d x u)).drawn:=by
 unfold aM
 repeat' split
 all_goals exact ak _
theorem Ct(F:lA P){n:Nat}{l l':List _}(T:FR P r bz f f')(G:SL P r cs gS (n+1) l l')(hw:W r c v w){b b':Nat}(e:r b=some b'){j:Option _}(V:∀c,j=some c->gm.code c)(main main':Bool){R Y:Result _}{N O:Array _}
  (L:(aK b j).runT P v #[]=(R,N))(M:(aK b' j).runT P w #[]=(Y,O)){s s':aV}(hk:∀x u,R=.ok x u->s=GStep.after (seen P f.fn N) (aM P main f l none x u))(H:∀x u,Y=.ok x u->s'=GStep.after (seen P f'.fn O) (aM P main' f' l' none x u))(C:∀h u,R=.halt h u->∃o es,s=.ended o u es)(J:∀h u,Y=.halt h u->∃o es,s'=.ended o u es):
  ST P r c cs gS v w s s':=by
 have run:=yt F (Yl e V) hw L M;cases run with
 |lF h k=>
  refine .lF ?_ ?_
  ·cases R with
   |ok x y=>rw[hk x y rfl,qT];exact az h (BF ..)
   |halt x y=>obtain⟨o,es,e⟩:=C x y rfl;rw[e];exact h
  ·cases Y with
   |ok x y=>rw[H x y rfl,qT];exact az k (BF ..)
   |halt x y=>obtain⟨o,es,e⟩:=J x y rfl;rw[e];exact k
 |@lost x v1 _ _=>
  obtain⟨o,es,h⟩:=C x v1 rfl;rw[h];exact ST.ended
 |@halt x _ v1 _ _ r1 c1 o I K=>
  obtain⟨o,es,h⟩:=C x v1 rfl;rw[h];exact ST.ended
 |ok r1 c1 o D K=>
  rw[hk _ _ rfl,H _ _ rfl];exact ST.after o ((Gy (T.mono o.le) (G.mono o.le) o.wl D _ _)) _ _ (pQ K)
theorem Iw{p:Prop}[Decidable p]{a b a' b':aV}(h:p->ST P r c cs gS v w a a')(k:¬p->ST P r c cs gS v w b b'):ST P r c cs gS v w (if p then a else b) (if p then a' else b'):=by
 by_cases Y:p
 ·simp_all
 ·simp_all
theorem ye.Jn{o:Oper}(h:ye P true o)(b:Bool):ye P b o:=⟨h.1,fun _=>h.2 rfl⟩
theorem lQ.Jn:∀{d:Code},lQ P true d->∀b,lQ P b d:=by
 intro d;induction d with
 |region i ops R=>exact fun h b=>h.imp id fun h o D=>(h o D).Jn b
 |seq a b Y K=>exact fun h b=>⟨Y h.1 b,K h.2 b⟩
 |cond q a b Y K=>exact fun h b=>⟨h.1,Y h.2.1 b,K h.2.2 b⟩
 |block i d H=>exact fun h b=>H h b
 |loop d H=>exact fun h b=>H h b
 |scope d H=>exact fun h b=>H h b
 |_=>exact fun h _=>h
theorem WB{fn:ao}{tmps:Array _}{H:Array Tmp}{aqZ bd:Code}{R:Result _}{C:Array _}(h:(bh fn tmps H aqZ bd o).runT P v #[]=(R,C)):R.world.drawn=v.drawn:=by
 have Y:((bh fn tmps H aqZ bd o).runT P v #[]).1=(bh fn tmps H aqZ bd o).run P v:=by simp
 rw[h]at Y;simp only at Y;rw[Y];unfold bh;cases o with
 |none=>simp[Sem.run,Result.world]
 |some q=>
  unfold c8 getObj;simp[bind,Sem.bind,Sem.run];cases v.heap[q]? with
  |none=>rfl
  |some K=>cases K<;>rfl
theorem aem(F:lA P)(gi:GI r){n:Nat}(hf:FR P r (n==0) f f')(N:n=0->f.roundOf=none/\f.kind=.normal)(M:SL P r cs gS n l l')(hw:W r c v w)(main main':Bool)(hm:f.mode=.run)(z:∀i ops dr k,f.todo=.code (.region i ops dr)::k->¬gm.wall ops):
  ST P r c cs gS v w (aH P main true f l none v) (aH P main' true f' l' none w):=by
 have JY:=fun x (g:js x)=>hf.eval gi x g;have B:=hf;obtain⟨fn,tmps,todo,defers,mode,kind,ro⟩:=f;obtain⟨iV,I,ahr,K,U,Y,O⟩:=f';obtain⟨h1,S,h3,h4,h5,h6,h7,L,h9⟩:=hf;simp only at h1 S h3 h4 h5 h6 h7 L h9 N hm;subst h1 h6;have ai4:∀{r1:Rn} {c1:Nat} {v1 w1:af} {t t':List Item},Out r r1 c c1 v w v1 w1->IL P r1 ro.isSome (n==0) t t'->ST P r1 c1 cs gS v1 w1 (.go (G ⟨iV,tmps,t,defers,mode,Y,ro⟩ l) v1) (.go (G ⟨iV,I,t',K,U,Y,O⟩ l') w1):=
  fun{r1 c1 v1 w1 t t'} o ht=>.go r1 c1 ⟨rfl,S.mono o.le,ht,h4.mono o.le,h5.mono o.le,rfl,h7,L.mono o.le,h9⟩ (M.mono o.le) N (.refl o.wl) lC
 have tog:∀{r1:Rn} {c1:Nat} {v1 w1:af} {t t':List Item},Out r r1 c c1 v w v1 w1->IL P r1 ro.isSome (n==0) t t'->ST P r c cs gS v w (.go (G ⟨iV,tmps,t,defers,mode,Y,ro⟩ l) v1) (.go (G ⟨iV,I,t',K,U,Y,O⟩ l') w1):=
  fun{r1 c1 v1 w1 t t'} o ht=>.go r1 c1 ⟨rfl,S.mono o.le,ht,h4.mono o.le,h5.mono o.le,rfl,h7,L.mono o.le,h9⟩ (M.mono o.le) N o lC
 have to:∀{t t':List Item},IL P r ro.isSome (n==0) t t'->ST P r c cs gS v w (.go (G ⟨iV,tmps,t,defers,mode,Y,ro⟩ l) v) (.go (G ⟨iV,I,t',K,U,Y,O⟩ l') w):=
  fun ht=>.go r c ⟨rfl,S,ht,h4,h5,rfl,h7,L,h9⟩ M N (.refl hw) lC
 have hbr:∀(x:List aX),n=0->(bq ⟨iV,tmps,todo,defers,mode,Y,ro⟩ x).roundOf=none/\(bq ⟨iV,tmps,todo,defers,mode,Y,ro⟩ x).kind=.normal:=fun x h0=>by
  have:=N h0;unfold bq;split<;>exact this
 have J:ro=none->ST P r c cs gS v w (.go (G ⟨iV,tmps,todo,defers,.returning,Y,ro⟩ l) v) (.go (G ⟨iV,I,ahr,K,.returning,Y,O⟩ l') w):=
  fun _=>.go r c ⟨rfl,S,h3,h4,.returning,rfl,h7,L,h9⟩ M N (.refl hw) lC
 have pos:∀q,ro=some q->∃m,n=m+1:=fun q e=>by
  cases n with
  |zero=>have:=(N rfl).1;rw[e]at this;cases this
  |succ m=>exact⟨m,rfl⟩
 cases h3 with
 |rest a b c d=>exact ST.ended
 |nil=>
  unfold aH;dsimp only;cases L with
  |none=>exact J rfl
  |some e=>
   obtain⟨m,rfl⟩:=pos _ rfl;dsimp only;generalize H:au P (aK _ _) v #[]=sv;generalize D:au P (aK _ _) w #[]=Q;obtain⟨V,e0⟩:=sv;obtain⟨C,X⟩:=Q;dsimp only;refine Ct F B M hw e ?_ main main' H D ?_ ?_ ?_ ?_
   ·exact fun _ x=>by cases x
   ·intro x u e;subst e;rfl
   ·intro x u e;subst e;rfl
   ·intro x u e;subst e;exact⟨_,_,rfl⟩
   ·intro x u e;subst e;exact⟨_,_,rfl⟩
 |cons hi hk=>
  cases hi with
  |inBlock i=>exact to hk
  |inScope R=>exact to hk
  |inLoop R=>exact to (.cons (.code R) (.cons (.inLoop R) hk))
  |inRangeFunc e=>exact ST.ended
  |endRangeFunc e=>
   unfold aH;dsimp only;generalize H:au P (cw _) v #[]=sv;generalize D:au P (cw _) w #[]=Q;obtain⟨V,e0⟩:=sv;obtain⟨C,X⟩:=Q;dsimp only;have run:=yt F (Zs (P:=P) e) hw H D;clear H D;cases run with
   |lF h k=>
    refine .lF ?_ ?_
    ·rw[qT];cases V with
     |ok x y=>exact h
     |halt x y=>cases x<;>exact h
    ·rw[qT];cases C with
     |ok x y=>exact k
     |halt x y=>cases x<;>exact k
   |@lost x v1 _ hl=>
    rcases hl with⟨u,rfl,_⟩|⟨y,rfl⟩<;>exact ST.ended
   |halt r1 c1 o hh T=>
    cases hh with
    |panic hv=>exact ST.after o (.go r1 c1 ((B.mono o.le).raise (oa.cons (x:=⟨_,false,false⟩) (y:=⟨_,false,false⟩) ⟨hv,rfl,rfl⟩ .nil)) (M.mono o.le) (hbr _) (.refl o.wl) lC) _ _ (pQ T)
   |@ok jump _ _ _ _ r1 c1 o g T=>
    obtain⟨Z,R⟩:=g;subst Z;refine ST.after o (ai4 o ?_) _ _ (pQ T);cases jump with
    |none=>exact hk.mono o.le
    |some d=>exact .cons (.code ((F.code d (R d rfl)).Jn _)) (hk.mono o.le)
  |beginRound=>
   unfold aH;dsimp only;refine He F ?_ B N M hw;cases L with
   |none=>exact SR.bind (A:=fun _ _ _=>False) (gn _) fun _ _ _ _ h=>h.elim
   |some e=>exact Jm (Xc e)
  |@inRegion ops is ho=>
   cases is with
   |nil=>exact to hk
   |cons i rest=>
    unfold aH;dsimp only;rw[Zw S];refine Iw (fun _=>?_) (fun _=>?_)
    ·unfold stepG.oper;simp only[Frame.oper?];cases hi:ops[i]? with
     |none=>exact ST.ended
     |some o=>
      have E:=ho i (by simp) o hi;have nr:∀c,o.op=.call c->c.callee=.builtin .recover->ro.isNone=true:=fun c X Z=>by
       cases ro with
       |none=>rfl
       |some q=>exact absurd Z ((E.2 rfl).2 c X)
      have key:=He F (O6 F.toFit (bb:=ro.isNone) JY (fun _=>⟨rfl,rfl⟩) o E.1 nr) B N M hw;cases L with
      |none=>exact key
      |some e=>
       have nd:=(E.2 rfl).1;dsimp only;split
       ·rename_i Z;exact absurd Z (nd _)
       ·split
        ·rename_i Z;exact absurd Z (nd _)
        ·exact key
    ·exact .go r c (B.finish (.tuple rfl (fun i x x' e=>by simp at e))) M (fun h0=>by have:=N h0;unfold Frame.finish;split<;>exact this) (.refl hw) lC
  |code R=>
   rename_i cd;cases cd with
   |ret=>
    unfold aH;dsimp only;cases L with
    |none=>exact J rfl
    |some e=>
     obtain⟨m,rfl⟩:=pos _ rfl;dsimp only;generalize H:au P (aK _ _) v #[]=sv;generalize D:au P (aK _ _) w #[]=Q;obtain⟨V,e0⟩:=sv;obtain⟨C,X⟩:=Q;dsimp only;refine Ct F B M hw e ?_ main main' H D ?_ ?_ ?_ ?_
     ·exact fun _ x=>by cases x;exact F.ret
     ·intro x u e;subst e;rfl
     ·intro x u e;subst e;rfl
     ·intro x u e;subst e;exact⟨_,_,rfl⟩
     ·intro x u e;subst e;exact⟨_,_,rfl⟩
   |skip=>exact to hk
   |label i=>exact to hk
   |seq a b=>exact to (.cons (.code R.1) (.cons (.code R.2) hk))
   |cond q a b=>
    unfold aH;dsimp only;have hq:=JY q R.1;generalize Frame.eval _ q=x at hq⊢;generalize Frame.eval _ q=y at hq⊢;cases hq with
    |bool b=>
     cases b with
     |true=>exact to (.cons (.code R.2.1) hk)
     |false=>exact to (.cons (.code R.2.2) hk)
    |_=>exact ST.ended
   |block i d=>exact to (.cons (.code R) (.cons (.inBlock i) hk))
   |loop d=>exact to (.cons (.code R) (.cons (.inLoop R) hk))
   |scope d=>exact to (.cons (.code R) (.cons (.inScope R) hk))
   |exit i=>
    unfold aH;dsimp only;rcases hk.exitTo i with⟨p,q2⟩|⟨m,m',p,q2,hm⟩
    ·rw[p];cases L with
     |none=>exact ST.ended
     |some e=>
      rw[q2.resolve_left (by simp)];simp only[Option.elim];obtain⟨m,rfl⟩:=pos _ rfl;generalize H:au P (aK _ _) v #[]=sv;generalize D:au P (aK _ _) w #[]=Q;obtain⟨V,e0⟩:=sv;obtain⟨C,X⟩:=Q;dsimp only;refine Ct F B M hw e ?_ main main' H D ?_ ?_ ?_ ?_
      ·exact fun _ x=>by cases x;exact F.exit i
      ·intro x u e;subst e;rfl
      ·intro x u e;subst e;rfl
      ·intro x u e;subst e;exact⟨_,_,rfl⟩
      ·intro x u e;subst e;exact⟨_,_,rfl⟩
    ·rw[p,q2];exact to hm
   |goto i=>
    unfold aH;dsimp only;rcases hk.gotoIn i with⟨p,q2⟩|⟨m,m',p,q2,hm⟩
    ·rw[p];cases L with
     |none=>exact ST.ended
     |some e=>
      rw[q2.resolve_left (by simp)];simp only[Option.elim];obtain⟨m,rfl⟩:=pos _ rfl;generalize H:au P (aK _ _) v #[]=sv;generalize D:au P (aK _ _) w #[]=Q;obtain⟨V,e0⟩:=sv;obtain⟨C,X⟩:=Q;dsimp only;refine Ct F B M hw e ?_ main main' H D ?_ ?_ ?_ ?_
      ·exact fun _ x=>by cases x;exact F.goto i
      ·intro x u e;subst e;rfl
      ·intro x u e;subst e;rfl
      ·intro x u e;subst e;exact⟨_,_,rfl⟩
      ·intro x u e;subst e;exact⟨_,_,rfl⟩
    ·rw[p,q2];exact to hm
   |refuse y=>exact ST.ended
   |region id ops draw=>
    have R:=R.resolve_left (z _ _ _ _ rfl);unfold aH;dsimp only;refine Iw (fun _=>?_) (fun _=>?_)
    ·exact to (.cons (.inRegion _ fun j _ o e=>R o (bU e)) hk)
    ·have run:=(qS (P:=P) (r:=r) (.order iV id)).run F.r7 #[] hw;rw[dk]at run;generalize H:Sem.run P (choose _) v=V at run⊢;generalize D:Sem.run P (choose _) w=C at run⊢;cases run with
     |lF h k=>
      refine .lF ?_ ?_
      ·cases V<;>exact h
      ·cases C<;>exact k
     |lost h=>exact ST.ended
     |halt r1 c1 o hh T=>exact ST.ended
     |ok r1 c1 o g T=>
      cases g;exact tog o (.cons (.inRegion _ fun j _ o e=>R o (bU e)) (hk.mono o.le))
   |rangeFunc q ps aqZ bd=>
    unfold aH;dsimp only;generalize H:au P (bh _ _ _ _ _ _) v #[]=sv;generalize D:au P (bh _ _ _ _ _ _) w #[]=Q;obtain⟨V,e0⟩:=sv;obtain⟨C,X⟩:=Q;dsimp only;have run:=yt F (XC (P:=P) iV S ps R.2.1 R.2.2 L) hw H D;have hdr:=WB H;clear H D;cases run with
    |lF h k=>omega
    |lost h=>exact ST.ended
    |halt r1 c1 o hh T=>exact ST.ended
    |@ok a a' _ _ _ r1 c1 o g T=>
     obtain⟨b,mk⟩:=a;obtain⟨b',mk'⟩:=a';obtain⟨hl,hd⟩:=g;simp only at hl hd;have T8:FR P r1 (n==0) ⟨iV,tmps,.inRangeFunc b::_,mk++defers,mode,Y,ro⟩ ⟨iV,I,.inRangeFunc b'::_,mk'++K,U,Y,O⟩:=⟨rfl,S.mono o.le,.cons (.inRangeFunc hl) (hk.mono o.le),hd.S8 (h4.mono o.le),h5.mono o.le,rfl,h7,L.mono o.le,h9⟩;refine ST.after o (He F ?_ T8 N (M.mono o.le) o.wl) _ _ (pQ T);have one:VA r1 #[Value.func (.yield b) #[] #[]] #[Value.func (.yield b') #[] #[]]:=VA.one (.func (.yield hl) rfl (fun i x x' e=>by simp at e) rfl (fun i x x' e=>by simp at e));unfold resolve;exact SR.bind (s:=bE _ _) (s':=bE _ _) (Nv (T8.eval (gi.mono o.le) q R.1) (by simpa[Frame.eval]using one)) fun t1 d d' l1 hd=>Cd F.iG F.DI hd.1 hd.2
end
section
variable[gm]{P:Program}{r:Rn}{c:Nat}{cs gS:List ae}{v w:af}
theorem Og{k:List Item}(h:IL P r rd bz f.todo k\/IL P r rd bz k f.todo):f.catches P=false:=by
 unfold Frame.catches;split
 ·rename_i e;rcases h with h|h
  ·rw[e]at h;cases h with|cons a _=>cases a
  ·rw[e]at h;cases h with|rest _ _ _ d=>(simp[zX]at d)|cons a _=>cases a
 ·rfl
theorem Ms(F:lA P){n:Nat}(M:FR P r (n==0) f f')(R:n=0->f.roundOf=none/\f.kind=.normal)(T:SL P r cs gS n l l')(hw:W r c v w){d:aT}(hd:Df r d d')(G:∀b,d.target≠.collected b):
  ST P r c cs gS v w (dp P f l none d v) (dp P f' l' none d' w):=by
 have L:∀(x:List aX),n=0->(f.raise x).roundOf=none/\(f.raise x).kind=.normal:=fun x V=>by
  have:=R V;unfold bq;split<;>exact this
 have O:=Cd (P:=P) (bb:=false) F.iG F.DI hd G;have cond:∀{p p':Bool} {a b a' b':aV},p=p'->(∃o u es,a=.ended o u es)->ST P r c cs gS v w b b'->ST P r c cs gS v w (if p=true then a else b) (if p'=true then a' else b'):=by
  rintro p _ a b a' b' rfl ⟨o,u,es,rfl⟩ h;exact Iw (fun _=>ST.ended) (fun _=>h)
 refine cond ?_ ⟨_,_,_,rfl⟩ ?_
 ·have A:=hd.target;have U:=M.mode;generalize d.target=t at A⊢;generalize d'.target=t' at A⊢;generalize f.mode=m at U⊢;generalize f'.mode=m' at U⊢;cases A<;>cases U<;>rfl
 generalize D:au P (invoke _ _) v #[]=sv;generalize I:au P (invoke _ _) w #[]=z;obtain⟨j,g⟩:=sv;obtain⟨Q,s⟩:=z;have run:=yt F O hw D I;clear D I;dsimp only;cases run with
 |lF h k=>
  refine .lF ?_ ?_
  ·rw[qT];cases j with
   |ok a u=>
    cases a<;>(try simp only)<;>first
     |exact h
     |(rename_i b;cases b<;>exact h)
     |(rename_i b _;cases b<;>exact h)
     |((repeat' split)<;>exact h)
   |halt a u=>
    cases a<;>(try simp only)<;>first
     |exact h
     |exact az h (FL ..)
  ·rw[qT];cases Q with
   |ok a u=>
    cases a<;>(try simp only)<;>first
     |exact k
     |(rename_i b;cases b<;>exact k)
     |(rename_i b _;cases b<;>exact k)
     |((repeat' split)<;>exact k)
   |halt a u=>
    cases a<;>(try simp only)<;>first
     |exact k
     |exact az k (FL ..)
 |@lost x v1 _ N=>
  rcases N with⟨u,rfl,_⟩|⟨y,rfl⟩<;>exact ST.ended
 |halt r1 c1 o Z H=>
  cases Z with
  |panic S=>exact ST.after o (.go r1 c1 ((M.mono o.le).raise (oa.cons (x:=⟨_,false,false⟩) (y:=⟨_,false,false⟩) ⟨S,rfl,rfl⟩ .nil)) (T.mono o.le) (L _) (.refl o.wl) lC) _ _ (pQ H)
 |ok r1 c1 o q H=>
  have Y:=M.mono o.le;have K:=T.mono o.le;cases q with
  |value S=>exact ST.after o (.go r1 c1 Y K R (.refl o.wl) lC) _ _ (pQ H)
  |skip=>exact ST.after o (.go r1 c1 Y K R (.refl o.wl) lC) _ _ (pQ H)
  |defer hd=>exact ST.after o (.go r1 c1 Y K R (.refl o.wl) lC) _ _ (pQ H)
  |enter X B=>exact ST.after o (.go r1 c1 (FR.enter F X B (.inr rfl)) (.cons Y R K) (fun h=>by omega) (.refl o.wl) lC) _ _ (pQ H)
  |round N E B C=>exact ST.after o (.go r1 c1 (FR.roundOf F N _ E B C (.inr rfl)) (.cons Y R K) (fun h=>by omega) (.refl o.wl) lC) _ _ (pQ H)
  |recover J=>cases J
theorem O7(F:lA P){n:Nat}(s:FR P r (n==0) f f')(G:n=0->f.roundOf=none/\f.kind=.normal)(C:SL P r cs gS n l l')(hw:W r c v w)(main main':Bool)(O:n=0->f.defers≠ []):
  ST P r c cs gS v w (bc P main f l none v) (bc P main' f' l' none w):=by
 have M:=s;obtain⟨fn,tmps,todo,defers,mode,kind,ro⟩:=f;obtain⟨iV,H,D,U,K,Y,Q⟩:=f';obtain⟨h1,S,T,h4,V,h6,z,g,p⟩:=s;subst h1 h6;cases h4 with
 |rest a b=>exact absurd rfl (O (by simpa using a))
 |nil=>
  obtain⟨m,rfl⟩:∃m,n=m+1:=by
   cases n with
   |zero=>exact absurd rfl (O rfl)
   |succ m=>exact⟨m,rfl⟩
  unfold bc;cases V with
  |run=>exact ST.ended
  |panicking hp=>
   simp[Og (f:=⟨iV,tmps,todo,[],.panicking _,Y,ro⟩) (.inl T),Og (.inr T)];cases C with
   |cons a b d=>
    exact .go r c (a.raise hp) d (fun h0=>by have:=b h0;unfold bq;split<;>exact this) (.refl hw) lC
  |returning=>
   cases hfn:P.funcs[iV]? with
   |none=>exact Gy M C hw (S.getD 0) main main'
   |some fu=>
    dsimp only;generalize R:au P _ v #[]=sv;generalize I:au P _ w #[]=q;obtain⟨E,e0⟩:=sv;obtain⟨A,e1⟩:=q;have run:=yt F (Of (P:=P) S) hw R I;cases run with
    |lF h k=>
     refine .lF ?_ ?_
     ·rw[qT];cases E with
      |ok x y=>exact az h (BF ..)
      |halt x y=>cases x<;>exact h
     ·rw[qT];cases A with
      |ok x y=>exact az k (BF ..)
      |halt x y=>cases x<;>exact k
    |@lost x v1 _ hl=>
     rcases hl with⟨u,rfl,_⟩|⟨y,rfl⟩<;>exact ST.ended
    |halt r1 c1 o i L=>
     cases i with
     |panic hv=>exact ST.ended
    |ok r1 c1 o Z L=>exact ST.after o ((Gy (M.mono o.le) (C.mono o.le) o.wl Z main main')) _ _ (pQ L)
 |cons hd J=>
  rename_i d d' j B;have N:FR P r (n==0) ⟨iV,tmps,todo,j,mode,Y,ro⟩ ⟨iV,H,D,B,K,Y,Q⟩:=⟨rfl,S,T,J,V,rfl,z,g,p⟩;have ht:=hd.target;obtain⟨t,aqZ⟩:=d;obtain⟨t',as'⟩:=d';cases ht with
  |fn a b=>exact Ms F N G C hw hd (fun _ e=>by cases e)
  |nil=>exact Ms F N G C hw hd (fun _ e=>by cases e)
  |collected e=>
   unfold bc;dsimp only;generalize R:au P _ v #[]=sv;generalize I:au P _ w #[]=q;obtain⟨E,e0⟩:=sv;obtain⟨A,e1⟩:=q;have run:=yt F (WA (P:=P) e) hw R I;cases run with
   |lF h k=>
    refine .lF ?_ ?_
    ·cases E<;>exact h
    ·cases A<;>exact k
   |lost _=>exact ST.ended
   |halt r1 c1 o i L=>exact ST.ended
   |ok r1 c1 o Z L=>
    have X:FR P r1 (n==0) ⟨iV,tmps,todo,_++j,mode,Y,ro⟩ ⟨iV,H,D,_++B,K,Y,Q⟩:=⟨rfl,S.mono o.le,T.mono o.le,Z.S8 (J.mono o.le),V.mono o.le,rfl,z,g.mono o.le,p⟩;exact ST.after o (.go r1 c1 X (C.mono o.le) G (.refl o.wl) lC) _ _ (pQ L)
theorem H3(F:lA P)(gi:GI r){n:Nat}{l l':List _}(R:FR P r (n==0) f f')(C:n=0->f.roundOf=none/\f.kind=.normal)(J:SL P r cs gS n l l')(hw:W r c v w)(main main':Bool)(H:n=0->f.mode=.run\/f.defers≠ [])(Y:f.mode=.run->∀i ops L k,f.todo=.code (.region i ops L)::k->¬gm.wall ops):
  ST P r c cs gS v w (aj P main (G f l) v) (aj P main' (G f' l') w):=by
 have D:=R.mode;unfold aj;simp[G];cases e:f.mode<;>cases e':f'.mode<;>rw[e,e']at D<;>cases D
 ·exact aem F gi R C J hw _ _ e (Y e)
 ·exact O7 F R C J hw _ _ fun K=>(H K).elim (fun x=>by simp_all) id
 ·exact O7 F R C J hw _ _ fun K=>(H K).elim (fun x=>by simp_all) id
end
def xo(u:Nat->Prop)(o o2:Option Obj):Prop:=o2=o\/∃c c2 e fz,(∃i,u i)/\o=some (.cells c e fz)/\o2=some (.cells c2 e fz)/\c2.size=c.size/\(∀i:Nat,¬u i->c2[i]?=c[i]?)/\∀(i:Nat) x,u i->c2[i]?=some x->Hid x=true
theorem xo.trans{u:Nat->Prop}{o o2 o3:Option Obj}(h:xo u o o2)(k:xo u o2 o3):xo u o o3:=by
 rcases k with rfl|⟨c,c2,e,fz,K,H,D,R,I,A⟩
 ·exact h
 ·rcases h with rfl|⟨d,d2,e',B,g1,C,Y,F,J,L⟩
  ·exact .inr ⟨c,c2,e,fz,K,H,D,R,I,A⟩
  ·rw[H]at Y;cases Y;exact .inr ⟨d,c2,e,fz,K,C,D,R.trans F,fun i U=>(I i U).trans (J i U),A⟩
theorem xo.eq{u:Nat->Prop}{o:Option Obj}(h:xo u o o2)(H:∀i,¬u i):o2=o:=by
 rcases h with h|⟨_,_,_,_,⟨i,Y⟩,_⟩
 ·exact h
 ·simp_all
def nc(o' o:Os):=∃d:Nat,o'={o with wall:=o.wall+d,mono:=o.mono+d}
theorem nc.refl(o:Os):nc o o:=⟨0,rfl⟩
theorem nc.of{o' o:Os}(h:o'=o):nc o' o:=by subst h;exact .refl _
theorem nc.trans{o o1 o2:Os}(h:nc o2 o1)(k:nc o1 o):nc o2 o:=by
 obtain⟨d,rfl⟩:=h;obtain⟨e,rfl⟩:=k;exact⟨e+d,by simp[Nat.add_assoc]⟩
theorem nc.env{o' o:Os}(h:nc o' o):o'.env=o.env:=by obtain⟨d,rfl⟩:=h;rfl
structure gR(U:Nat->Nat->Prop)(S:Nat->Prop)(w w2:af):Prop where
 kept:∀a,S a->xo (U a) (w.heap[a]?) (w2.heap[a]?)
 grow:w.heap.size<=w2.heap.size
 env:nc w2.os w.os
theorem gR.refl(U:Nat->Nat->Prop)(S:Nat->Prop)(w:af):gR U S w w:=⟨fun _ _=>.inl rfl,ak _,.refl _⟩
theorem gR.trans{U:Nat->Nat->Prop}{S:Nat->Prop}{w w2 w3:af}(h:gR U S w w2)(k:gR U S w2 w3):gR U S w w3:=⟨fun a Y=>(h.kept a Y).trans (k.kept a Y),aW h.grow k.grow,k.env.trans h.env⟩
def yN(S X:Nat->Prop)(w:af)(u:Nat)(e:aO):=
 (∃a:Addr,e.loc=.cell a/\e.sync=false/\((S a.block/\(e.write=true->X a.block))\/(w.heap.size<=a.block/\a.block<u)))\/
 (∃a:Nat,e.loc=.obj a/\e.sync=false/\((S a/\(e.write=true->X a))\/(w.heap.size<=a/\a<u)))\/
 (∃m,e.loc=.mark m/\(m=.noRoom\/∃f,m=.extern f))\/e.loc=.output
structure Did(S X:Nat->Prop)(w w1:af)(es:Array aO)(S1 X1:Nat->Prop):Prop where
 kept:∀a,a<w.heap.size->¬X a->w1.heap[a]?=w.heap[a]?
 grow:w.heap.size<=w1.heap.size
 held:∀a,S1 a↔S a\/(w.heap.size<=a/\a<w1.heap.size)
 may:∀a,X1 a↔X a\/(w.heap.size<=a/\a<w1.heap.size)
 ev:∀e∈es,yN S X w w1.heap.size e
 tape:w1.tape=w.tape
 env:nc w1.os w.os
 output:w1.output=w.output
inductive Tr(P:Program)(main:Bool)(U:Nat->Nat->Prop)(Done:(Nat->Prop)->(Nat->Prop)->ae->List ae->af->Prop):(Nat->Prop)->(Nat->Prop)->ae->List ae->af->Prop
 |stop {S X:Nat->Prop} {f:ae} {l:List ae} {w:af}:Done S X f l w->Tr P main U Done S X f l w
 |step {S X:Nat->Prop} {f:ae} {l:List ae} {w:af}:(∀w2,gR U S w w2->∃f1 l1 w1 es S1 X1,aj P main (G f l) w2=.go (G f1 l1) w1 es/\Did S X w2 w1 es S1 X1)->
   (∀w2 f1 l1 w1 es S1 X1,gR U S w w2->aj P main (G f l) w2=.go (G f1 l1) w1 es->Did S X w2 w1 es S1 X1->Tr P main U Done S1 X1 f1 l1 w1)->Tr P main U Done S X f l w
theorem Did.same{w1:af}{es:Array _}{S2 X2:Nat->Prop}(h:Did S X w w1 es S1 X1)(k:Did S X w w1 es S2 X2):S1=S2/\X1=X2:=
 ⟨funext fun a=>propext ((h.held a).trans (k.held a).symm),funext fun a=>propext ((h.may a).trans (k.may a).symm)⟩
inductive VR(P:Program):Nat->ae->List ae->af->ae->List ae->af->Prop
 |zero {f:ae} {l:List ae} {v:af}:VR P 0 f l v f l v
 |succ {k:Nat} {f f1 f2:ae} {l l1 l2:List ae} {v v1 v2:af} {es:Array aO}:VR P k f l v f1 l1 v1->aj P true (G f1 l1) v1=.go (G f2 l2) v2 es->VR P (k+1) f l v f2 l2 v2
theorem VR.runN{k:Nat}{l l1:List _}{v:af}(h:VR P k f l v f1 l1 v1):runN P k (lone f l v)=.next (lone f1 l1 v1):=by
 induction h with
 |zero=>rfl
 |succ _ Y K=>
  rw[bC,K];simp[Go.runN];rw[dt,eD rfl Y];rfl
theorem VR.AL{k:Nat}{f2:ae}{l l1 l2:List _}{v v2:af}(h:VR P k f l v f1 l1 v1)(e:Go.runN P k (lone f l v)=.next (lone f2 l2 v2)):f1=f2/\l1=l2/\v1=v2:=by
 rw[h.runN]at e;simp[lone,eu,eh]at e;simp_all
def tp(v:af)(T:Nat->aY->Nat):={v with tape:=T}
section
variable[gm]{P:Program}{U:Nat->Nat->Prop}
def oC(U:Nat->Nat->Prop)(r:Rn):=∀b b' i,r b=some b'->U b' i->gm.ro b/\gm.jJ b i
def Rd(r:Rn)(a:Nat):=∃b,r b=some a
def Wr(r:Rn)(a:Nat):=∃b,r b=some a/\¬gm.ro b
theorem W.rely{r:Rn}{c:Nat}{v w w2:af}(h:W r c v w)(C:oC U r)(hr:gR U (Rd r) w w2):W r 0 v w2:=by
 refine⟨fun b b' e=>?_,h.gv,aW h.gw hr.grow,h.old,fun i q R=>by omega,hr.env.env.trans h.env⟩;have⟨o,o',B,F,J⟩:=h.obj b b' e;rcases hr.kept b' ⟨b,e⟩with k|⟨d,d2,t,fz,⟨i,R⟩,A,L,M,N,O⟩
 ·simp_all
 ·have H:=(C b b' i e R).1;rw[F]at A;cases A;cases J with
  |same n _=>exact absurd H n
  |ro t n I D=>
   refine⟨_,_,B,L,.ro t n ⟨I.size.trans M.symm,fun j x x' ex Y=>?_⟩ D⟩;by_cases K:U b' j
   ·have:=D j (C b b' j e K).2;rw[this]at ex;cases ex;exact .blank (O j x' K Y)
   ·rw[N j K]at Y;exact I.at_ j x x' ex Y
theorem W.I8{r:Rn}{v:af}(h:W r 0 v w)(Y:∀i q,i<c->v.tape (v.drawn+i) q=w.tape (w.drawn+i) q):W r c v w:=⟨h.obj,h.gv,h.gw,h.old,Y,h.env⟩
theorem W.tp{r:Rn}{v:af}(h:W r c v w)(T:Nat->aY->Nat):W r 0 (tp v T) w:=⟨h.obj,h.gv,h.gw,h.old,fun i q Y=>by omega,h.env⟩
theorem Out.did{r r1:Rn}{c1:Nat}{v w1:af}(o:Out r r1 c c1 v w v1 w1)(h:W r c v w){es:Array _}(C:∀e∈es,lX r w w1.heap.size e):Did (Rd r) (Wr r) w w1 es (Rd r1) (Wr r1):=by
 refine⟨fun a A B=>o.kept a A fun b Y=>cg fun K=>B ⟨b,Y,K⟩,o.grow,fun a=>⟨?_,?_⟩,fun a=>⟨?_,?_⟩,fun e U=>?_,o.tape,.of o.os,o.output⟩
 ·rintro⟨b,Y⟩;rcases o.fresh b a Y with x|x
  ·exact .inl ⟨b,x⟩
  ·exact .inr ⟨x.1,(o.wl.lt Y).2⟩
 ·rintro(⟨b,Y⟩|x)
  ·exact⟨b,o.le _ _ Y⟩
  ·exact o.range a x.1 x.2
 ·rintro⟨b,Y,K⟩;rcases o.fresh b a Y with x|x
  ·exact .inl ⟨b,x,K⟩
  ·exact .inr ⟨x.1,(o.wl.lt Y).2⟩
 ·rintro(⟨b,Y,K⟩|x)
  ·exact⟨b,o.le _ _ Y,K⟩
  ·have⟨b,Y⟩:=o.range a x.1 x.2;refine⟨b,Y,fun I=>?_⟩;rcases o.fresh b a Y with y|y
   ·exact absurd (h.lt y).2 (by omega)
   ·exact absurd (h.old b I) (by omega)
 ·have key:∀{a:Nat} {wr:Bool},((∃b,r b=some a/\(wr=true->¬gm.ro b))\/(w.heap.size<=a/\a<w1.heap.size))->(Rd r a/\(wr=true->Wr r a))\/(w.heap.size<=a/\a<w1.heap.size):=by
   rintro a wr (⟨b,Y,K⟩|x)
   ·exact .inl ⟨⟨b,Y⟩,fun hw=>⟨b,Y,K hw⟩⟩
   ·omega
  rcases C e U with⟨a,H,D,R⟩|⟨a,H,D,R⟩|x
  ·exact .inl ⟨a,H,D,key R⟩
  ·exact .inr (.inl ⟨a,H,D,key R⟩)
  ·exact .inr (.inr x)
theorem SL.len{r:Rn}{cs gS:List _}{n:Nat}{l l':List _}(h:SL P r cs gS n l l'):l.length=n+cs.length:=by
 induction h with
 |base=>simp
 |cons _ _ _ Y=>simp;omega
theorem SL.RV{r:Rn}{cs gS:List _}{n:Nat}{l':List _}(h:SL P r cs gS n cs l'):n=0/\l'=gS:=by
 have:=h.len;obtain rfl:n=0:=by omega
 cases h;simp_all
variable(P)in
def qZ(U:Nat->Nat->Prop)(r0:Rn)(Stop:ae->List _->af->Prop)(cs gS:List _)(S X:Nat->Prop)(f':ae)(l':List _)(w:af):=
 ∃r n f l v,Le r0 r/\FR P r (n==0) f f'/\SL P r cs gS n l l'/\W r 0 v w/\S=Rd r/\X=Wr r/\Stop f l v/\oC U r/\∀a i,U a i->a<w.heap.size
variable(P)in
structure Node(U:Nat->Nat->Prop)(r0:Rn)(Stop:ae->List ae->af->Prop)(f0:ae)(cs gS:List ae)(v0:af)(k:Nat)(T0:Nat->aY->Nat)(d:Nat)(S X:Nat->Prop)(f':ae)(l':List ae)(w:af):Prop where
 alike:∀T,(∀j,j<d->T j=T0 j)->∃r n f l v,VR P k f0 cs (tp v0 T) f l v/\v.tape=T/\v.drawn=d/\Le r0 r/\FR P r (n==0) f f'/\(n=0->f.roundOf=none/\f.kind=.normal)/\SL P r cs gS n l l'/\W r 0 v w/\S=Rd r/\X=Wr r/\oC U r
 low:∀a i,U a i->a<w.heap.size
 early:∀T,(∀j,j<d->T j=T0 j)->∀i f l v,i<=k->VR P i f0 cs (tp v0 T) f l v->¬Stop f l v
theorem VR.pre{k:Nat}{l l1:List _}{v:af}(h:VR P k f l v f1 l1 v1):∀i,i<=k->∃f2 l2 v2,VR P i f l v f2 l2 v2:=by
 induction h with
 |zero=>
  intro i Y;obtain rfl:i=0:=by omega
  exact⟨_,_,_,.zero⟩
 |succ a b K=>
  intro i Y;rcases Nat.eq_or_lt_of_le Y with e|e
  ·rw[e];exact⟨_,_,_,VR.succ a b⟩
  ·exact K i (by omega)
section path
variable{main:Bool}{r0:Rn}{Stop:ae->List ae->af->Prop}{f0:ae}{cs gS:List ae}{v0:af}{k:Nat}{T0:Nat->aY->Nat}{d:Nat}{S X:Nat->Prop}{f':ae}{l':List ae}{w:af}
theorem aaP(C:∀T,∃n f1 l1 v1,runN P n (lone f0 cs (tp v0 T))=.next (lone f1 l1 v1)/\Stop f1 l1 v1){T:Nat->aY->Nat}{l:List _}{v:af}(h:VR P k f0 cs (tp v0 T) f l v)(H:∀i f l v,i<=k->VR P i f0 cs (tp v0 T) f l v->¬Stop f l v){o:Outcome}{es:Array _}:
  aj P true (G f l) v≠.ended o v1 es:=by
 intro D;have⟨n,f1,l1,R,Y,ga⟩:=C T;by_cases hk:n<=k
 ·have⟨f2,l2,v2,K⟩:=h.pre n hk;obtain⟨rfl,rfl,rfl⟩:=K.AL Y;exact H n _ _ _ hk K ga
 ·obtain⟨m,rfl⟩:∃m,n=k+(m+1):=⟨n-k-1,by omega⟩;rw[bC,h.runN]at Y;simp[Go.runN]at Y;rw[dx (by show(aj P _ (G f l) v).bare=_;rw[D];rfl)]at Y;cases Y
theorem P9(F:lA P)(gi:GI r0)(C:∀T,∃n f1 l1 v1,runN P n (lone f0 cs (tp v0 T))=.next (lone f1 l1 v1)/\Stop f1 l1 v1)(L:∀T k f v,(∀i f l v,i<=k->VR P i f0 cs (tp v0 T) f l v->¬Stop f l v)->VR P k f0 cs (tp v0 T) f cs v->f.mode≠.run->f.defers=[]->Stop f cs v)(V:∀T k f l v i ops H q,VR P k f0 cs (tp v0 T) f l v->f.mode=.run->f.todo=.code (.region i ops H)::q->gm.wall ops->Stop f l v)
  {T:Nat->aY->Nat}(N:∀i f l v,i<=k->VR P i f0 cs (tp v0 T) f l v->¬Stop f l v){r:Rn}{n:Nat}{l:List _}{v:af}(J:VR P k f0 cs (tp v0 T) f l v)(z:Le r0 r)(p:FR P r (n==0) f f')(s:n=0->f.roundOf=none/\f.kind=.normal)(O:SL P r cs gS n l l')(h8:W r 0 v w2)(c:Nat)(ht:∀i q,i<c->v.tape (v.drawn+i) q=w2.tape (w2.drawn+i) q):
  (∃(f1 R:ae) (l1 M:List _) (v1 w1:af) (es iI:Array _) (r1:Rn) (c1 n1:Nat),aj P true (G f l) v=.go (G f1 l1) v1 es/\aj P main (G f' l') w2=.go (G R M) w1 iI/\FR P r1 (n1==0) f1 R/\(n1=0->f1.roundOf=none/\f1.kind=.normal)/\SL P r1 cs gS n1 l1 M/\Out r r1 c c1 v w2 v1 w1/\∀e∈iI,lX r w2 w1.heap.size e)\/
  (v.drawn+c<(qJ (aj P true (G f l) v)).drawn/\w2.drawn+c<(qJ (aj P main (G f' l') w2)).drawn):=by
 have D:n=0->f.mode=.run\/f.defers≠ []:=by
  intro A;by_cases K:f.mode=.run
  ·exact .inl K
  ·refine .inr fun hd=>?_;subst A;cases O;exact N k f _ v (ak _) J (L T k f v N J K hd)
 have Y:f.mode=.run->∀i ops H q,f.todo=.code (.region i ops H)::q->¬gm.wall ops:=by
  intro K i ops H q e I;exact N k f l v (ak _) J (V T k f l v i ops H q J K e I)
 have st:=H3 F (gi.mono z) p s O (h8.I8 ht) true main D Y;generalize U:aj P _ _ v=sv at st;generalize hw:aj P _ _ w2=B at st;cases st with
 |ended=>exact absurd U (aaP C J N)
 |lF a b=>exact .inr ⟨a,b⟩
 |go r1 c1 a b d o e=>exact .inl ⟨_,_,_,_,_,_,_,_,r1,c1,_,rfl,rfl,a,d,b,o,e⟩
def glue(T0:Nat->aY->Nat)(d:Nat)(w2:af)(j:Nat)(q:aY):=if j<d then T0 j q else w2.tape (w2.drawn+(j-d)) q
theorem aaQ(F:lA P)(gi:GI r0)(C:∀T,∃n f1 l1 v1,runN P n (lone f0 cs (tp v0 T))=.next (lone f1 l1 v1)/\Stop f1 l1 v1)(L:∀T k f v,(∀i f l v,i<=k->VR P i f0 cs (tp v0 T) f l v->¬Stop f l v)->VR P k f0 cs (tp v0 T) f cs v->f.mode≠.run->f.defers=[]->Stop f cs v)(Wl:∀T k f l v i ops dr q,VR P k f0 cs (tp v0 T) f l v->f.mode=.run->f.todo=.code (.region i ops dr)::q->gm.wall ops->Stop f l v)
  (R:Node P U r0 Stop f0 cs gS v0 k T0 d S X f' l' w)(hT:¬Tr P main U (qZ P U r0 Stop cs gS) S X f' l' w):
  ∃T1 d1 S1 X1 f1 l1 w1,(∀j,j<d->T1 j=T0 j)/\d<=d1/\Node P U r0 Stop f0 cs gS v0 (k+1) T1 d1 S1 X1 f1 l1 w1/\¬Tr P main U (qZ P U r0 Stop cs gS) S1 X1 f1 l1 w1:=by
 have V:∀w2:af,∀j,j<d->glue T0 d w2 j=T0 j:=fun w2 j Z=>by funext q;unfold glue;rw[if_pos Z]
 have ex:∀w2,gR U S w w2->∃f1 l1 w1 es S1 X1,aj P main (G f' l') w2=.go (G f1 l1) w1 es/\Did S X w2 w1 es S1 X1/\w2.drawn<=w1.drawn:=by
  intro w2 hr;obtain⟨r,n,f,l,v,I,J,p,A,M,s,N,O,rfl,rfl,Y⟩:=R.alike (glue T0 d w2) (V w2);have K:=O.rely Y hr;have z:∀i q,i<(qJ (aj P true (G f l) v)).drawn->v.tape (v.drawn+i) q=w2.tape (w2.drawn+i) q:=fun i q _=>by
   rw[J,p];unfold glue;rw[if_neg (by omega),ei]
  rcases P9 (main:=main) F gi C L Wl (R.early _ (V w2)) I A M s N K _ z with⟨f1,h,l1,l1',v1,w1,es,iI,r1,c1,n1,D,c,q1,q2,q3,o,q4⟩|⟨x,_⟩
  ·exact⟨h,l1',w1,iI,_,_,c,o.did (K.I8 z) q4,by have:=o.drew;have:=o.yq;have:=o.later;omega⟩
  ·omega
 have off:∃w2 f1 l1 w1 es S1 X1,gR U S w w2/\aj P main (G f' l') w2=.go (G f1 l1) w1 es/\Did S X w2 w1 es S1 X1/\¬Tr P main U (qZ P U r0 Stop cs gS) S1 X1 f1 l1 w1:=by
  refine cg fun hno=>hT (.step (fun w2 hr=>?_) fun w2 f1 l1 w1 es S1 X1 hr D hd=>?_)
  ·have⟨f1,l1,w1,es,S1,X1,D,hd,_⟩:=ex w2 hr;exact⟨f1,l1,w1,es,S1,X1,D,hd⟩
  ·exact cg fun m=>hno ⟨w2,f1,l1,w1,es,S1,X1,hr,D,hd,m⟩
 have⟨w2,f1,l1,w1,es,S1,X1,hr,D,hd,m⟩:=off;have E:w2.drawn<=w1.drawn:=by
  have⟨g1,m1,u1,t,S2,X2,c,_,E⟩:=ex w2 hr;rw[D]at c;cases c;exact E
 have key:∀T,(∀j,j<d+(w1.drawn-w2.drawn)->T j=glue T0 d w2 j)->∃r n f l v,VR P (k+1) f0 cs (tp v0 T) f l v/\v.tape=T/\v.drawn=d+(w1.drawn-w2.drawn)/\Le r0 r/\FR P r (n==0) f f1/\(n=0->f.roundOf=none/\f.kind=.normal)/\SL P r cs gS n l l1/\W r 0 v w1/\S1=Rd r/\X1=Wr r/\oC U r:=by
  intro T H;have Q:∀j,j<d->T j=T0 j:=fun j Z=>(H j (by omega)).trans (V w2 j Z);obtain⟨r,n,f,l,v,I,J,p,A,M,s,N,O,rfl,rfl,Y⟩:=R.alike T Q;have K:=O.rely Y hr;have z:∀i q,i<w1.drawn-w2.drawn->v.tape (v.drawn+i) q=w2.tape (w2.drawn+i) q:=fun i q hi=>by
   rw[J,p,H (d+i) (by omega)];unfold glue;rw[if_neg (by omega),ei]
  rcases P9 (main:=main) F gi C L Wl (R.early T Q) I A M s N K _ z with⟨g1,g1',m1,m1',v1,u1,t,aoT,r1,c1,n1,x1,x2,q1,q2,q3,o,q4⟩|⟨_,x⟩
  ·rw[D]at x2;cases x2;have hc:c1=0:=by have:=o.yq;omega
   subst hc;obtain⟨rfl,rfl⟩:=hd.same (o.did (K.I8 z) q4);refine⟨r1,n1,g1,m1,v1,.succ I x1,o.I4.trans J,by have:=o.drew;omega,A.trans o.le,q1,q2,q3,o.wl,rfl,rfl,fun b b' i e B=>?_⟩;rcases o.fresh b b' e with y|y
   ·exact Y b b' i y B
   ·have:=R.low b' i B;have:=hr.grow;have:=y.1;omega
  ·rw[D]at x;simp only[qJ]at x;omega
 refine⟨glue T0 d w2,d+(w1.drawn-w2.drawn),S1,X1,f1,l1,w1,V w2,by omega,⟨key,fun a i B=>az (R.low a i B) (aW hr.grow hd.grow),fun T H i f l v hi hv hs=>?_⟩,m⟩;by_cases hik:i<=k
 ·exact R.early T (fun j Z=>(H j (by omega)).trans (V w2 j Z)) i f l v hik hv hs
 ·obtain rfl:i=k+1:=by omega
  obtain⟨r,n,g,l2,u,I,J,p,A,M,s,N,O,rfl,rfl,Y⟩:=key T H;obtain⟨rfl,rfl,rfl⟩:=I.AL hv.runN;exact m (.stop ⟨r,n,_,_,_,A,M,N,O,rfl,rfl,hs,Y,fun a i B=>az (R.low a i B) (aW hr.grow hd.grow)⟩)
open Classical in
theorem tree(F:lA P)(gi:GI r0)(C:∀T,∃n f1 l1 v1,runN P n (lone f0 cs (tp v0 T))=.next (lone f1 l1 v1)/\Stop f1 l1 v1)(L:∀T k f v,(∀i f l v,i<=k->VR P i f0 cs (tp v0 T) f l v->¬Stop f l v)->VR P k f0 cs (tp v0 T) f cs v->f.mode≠.run->f.defers=[]->Stop f cs v)(G:∀T k f l v i ops z q,VR P k f0 cs (tp v0 T) f l v->f.mode=.run->f.todo=.code (.region i ops z)::q->gm.wall ops->Stop f l v)
  (V:FR P r0 true f0 f')(hb:f0.roundOf=none/\f0.kind=.normal)(hw:W r0 0 v0 w)(H:oC U r0)(Y:∀a i,U a i->a<w.heap.size):Tr P main U (qZ P U r0 Stop cs gS) (Rd r0) (Wr r0) f' gS w:=by
 refine cg fun A=>?_;have root:Node P U r0 Stop f0 cs gS v0 0 v0.tape v0.drawn (Rd r0) (Wr r0) f' gS w:=by
  refine⟨fun T _=>⟨r0,0,f0,cs,tp v0 T,.zero,rfl,rfl,.refl _,V,fun _=>hb,.base,hw.tp T,rfl,rfl,H⟩,Y,fun T _ i f l v hi t O=>A (.stop ⟨r0,0,f0,cs,tp v0 T,.refl _,V,.base,hw.tp T,rfl,rfl,?_,H,Y⟩)⟩;obtain rfl:i=0:=by omega
  cases t;exact O
 let M:={x:Nat×(Nat->aY->Nat)×Nat×(Nat->Prop)×(Nat->Prop)×ae×List ae×af//Node P U r0 Stop f0 cs gS v0 x.1 x.2.1 x.2.2.1 x.2.2.2.1 x.2.2.2.2.1 x.2.2.2.2.2.1 x.2.2.2.2.2.2.1 x.2.2.2.2.2.2.2/\¬Tr P main U (qZ P U r0 Stop cs gS) x.2.2.2.1 x.2.2.2.2.1 x.2.2.2.2.2.1 x.2.2.2.2.2.2.1 x.2.2.2.2.2.2.2}
 have Z:∀x:M,∃y:M,y.1.1=x.1.1+1/\(∀j,j<x.1.2.2.1->y.1.2.1 j=x.1.2.1 j)/\x.1.2.2.1<=y.1.2.2.1:=by
  rintro⟨⟨k,T0,d,S,X,f',l',w⟩,N,s⟩;obtain⟨E,d1,S1,X1,f1,l1,w1,D,c,g,o⟩:=aaQ F gi C L G N s;exact⟨⟨(k+1,E,d1,S1,X1,f1,l1,w1),g,o⟩,rfl,D,c⟩
 let pn:M->M:=fun x=>bI (Z x)
 have B:=fun x=>dJ (Z x)
 let p:Nat->M:=fun n=>Nat.rec ⟨(0,v0.tape,v0.drawn,Rd r0,Wr r0,f',gS,w),root,A⟩ (fun _ x=>pn x) n
 have b:∀n,p (n+1)=pn (p n):=fun _=>rfl;have hk:∀n,(p n).1.1=n:=by
  intro n;induction n with
  |zero=>rfl
  |succ n J=>rw[b,(B _).1,J]
 have mono:∀n m,(p n).1.2.2.1<=(p (n+m)).1.2.2.1/\∀j,j<(p n).1.2.2.1->(p (n+m)).1.2.1 j=(p n).1.2.1 j:=by
  intro n m;induction m with
  |zero=>exact⟨ak _,fun _ _=>rfl⟩
  |succ m J=>
   have:=B (p (n+m));exact⟨aW J.1 this.2.2,fun j I=>(this.2.1 j (az I J.1)).trans (J.2 j I)⟩
 let T:=fun j q=>if h:∃n,j<(p n).1.2.2.1 then(p (bI h)).1.2.1 j q else 0
 have R:∀n j,j<(p n).1.2.2.1->T j=(p n).1.2.1 j:=by
  intro n j I;have h:∃n,j<(p n).1.2.2.1:=⟨n,I⟩;have e:T j=(p (bI h)).1.2.1 j:=by
   funext q;show(if h:∃n,j<(p n).1.2.2.1 then(p (bI h)).1.2.1 j q else 0)=_
   rw[dif_pos h]
  have Q:=dJ h;generalize bI h=m at e Q;rw[e];rcases Nat.le_total m n with K|K
  ·obtain⟨a,rfl⟩:=ek K;exact((mono m a).2 j Q).symm
  ·obtain⟨a,rfl⟩:=ek K;exact(mono n a).2 j I
 obtain⟨n,f1,l1,v1,u,O⟩:=C T;obtain⟨N,_⟩:=(p n).2;obtain⟨r,m,f,l,v,D,_⟩:=N.alike T (R n);rw[hk n]at D;obtain⟨rfl,rfl,rfl⟩:=D.AL u;exact N.early T (R n) n _ _ _ (by simp_all) D O
end path
end
def ju:Frame:={fn:=0,tmps:=#[],todo:=[.code (.refuse "")],defers:=[{target:=.nil,args:=#[]}],mode:=.run,kind:=.normal}
def Jo(t:ae):=(t.mode=.run/\t.todo=[.code (.refuse "")])\/∃ch,t.mode=.panicking ch/\t.defers=[{target:=.nil,args:=#[]}]
theorem Zx{t:ae}(h:Jo t)(v:af):∃o v1 es,aj P true (G t []) v=.ended o v1 es:=by
 unfold aj;simp only[G];rcases h with⟨Y,K⟩|⟨ch,Y,hd⟩
 ·simp only[Y];unfold aH;simp_all
 ·unfold bc;simp only[hd];simp only[Y];exact⟨_,_,_,rfl⟩
theorem Ny{v:af}:∃t v1 es,aM P true fr [ju] none x v=.go (G t []) v1 es/\Jo t:=by
 unfold aM;dsimp only;split
 ·exact⟨_,_,_,rfl,.inl ⟨rfl,rfl⟩⟩
 ·exact⟨_,_,_,rfl,.inl ⟨rfl,rfl⟩⟩
 ·exact⟨_,_,_,rfl,.inl ⟨rfl,rfl⟩⟩
 ·exact⟨_,_,_,rfl,.inl ⟨rfl,rfl⟩⟩
theorem Zy{v:af}(R:fr.mode≠.run)(hd:fr.defers=[]):(∃o v1 es,aj P true (G fr [ju]) v=.ended o v1 es)\/∃t v1 es,aj P true (G fr [ju]) v=.go (G t []) v1 es/\Jo t:=by
 have e:aj P true (G fr [ju]) v=bc P true fr [ju] none v:=by
  unfold aj;simp only[G]
 rw[e];unfold bc;simp only[hd];split
 ·simp
 ·split
  ·simp
  ·rename_i ch _ _;exact .inr ⟨_,_,_,rfl,.inr ⟨ch,rfl,rfl⟩⟩
 ·split
  ·exact .inr Ny
  ·generalize au P _ v #[]=sv;have⟨K,H⟩:=sv;cases K with
   |ok x u=>
    have⟨t,v1,es,e,Y⟩:=Ny (P:=P) (fr:=fr) (x:=x) (v:=u);simp only[e];exact .inr ⟨_,_,_,rfl,Y⟩
   |halt x u=>cases x<;>exact .inl ⟨_,_,_,rfl⟩
section
variable[gm]{P:Program}{main:Bool}{U:Nat->Nat->Prop}{r0:Rn}{v0 w:af}{gS:List ae}
theorem Gz{g:ae}{u:af}(m:Nat)(H:g.mode≠.run)(Y:g.defers=[]):runN P (m+1) (lone g [ju] u)≠.next (lone g1 [ju] u1):=by
 intro e;simp[Go.runN]at e;rcases Zy H Y with⟨o,u2,es,x⟩|⟨t,u2,es,x,D⟩
 ·rw[dx (by show(aj P _ (G g _) u).bare=_;rw[x];rfl)]at e;cases e
 ·rw[dt,eD rfl x]at e;cases m with
  |zero=>
   simp only[Go.runN,solo,lone,eu,eh]at e;have:=e.2.1;simp[G]at this
  |succ m=>
   obtain⟨o,u3,K,y⟩:=Zx D u2;simp[Go.runN]at e;rw[<-dt,dx (by show(aj P _ (G t []) u2).bare=_;rw[y];rfl)]at e;cases e
theorem GA{Stop:ae->af->Prop}(Y:∀f v,Stop f v->f.mode≠.run/\f.defers=[])(C:∀T,∃n f1 v1,runN P n (lone f0 [ju] (tp v0 T))=.next (lone f1 [ju] v1)/\Stop f1 v1)(T:Nat->aY->Nat)(k:Nat)(f:ae)(v:af)(h:VR P k f0 [ju] (tp v0 T) f [ju] v)(F:f.mode≠.run)(hd:f.defers=[]):Stop f v:=by
 have⟨n,f1,v1,K,H⟩:=C T;rcases Nat.lt_trichotomy n k with R|heq|D
 ·obtain⟨a,b⟩:=Y _ _ H;obtain⟨m,rfl⟩:∃m,k=n+(m+1):=⟨k-n-1,by omega⟩;have:=h.runN;rw[bC,K]at this;exact absurd this (Gz m a b)
 ·subst heq;obtain⟨rfl,_,rfl⟩:=h.AL K;exact H
 ·obtain⟨m,rfl⟩:∃m,n=k+(m+1):=⟨n-k-1,by omega⟩;rw[bC,h.runN]at K;exact absurd K (Gz m F hd)
theorem Zz(F:lA P)(V:∀ops,¬gm.wall ops)(gi:GI r0){f:ao}{args Y:Array _}{R:aU->af->Prop}(z:∀T,Calls P f args (tp v0 T) R)(L:∀u,¬R .outgrown u)(p:gm.iG f)(G:VA r0 args Y)(hw:W r0 0 v0 w)(M:oC U r0)(J:∀a i,U a i->a<w.heap.size):
  Tr P main U (qZ P U r0 (fun fr l v=>l=[ju]/\∃e,R e v/\fr.fn=f/\fr.leaving P v e) [ju] gS) (Rd r0) (Wr r0) (Frame.enter P f Y .normal) gS w:=by
 have C:∀T,∃n f1 v1,runN P n (lone (Frame.enter P f args .normal) [ju] (tp v0 T))=.next (lone f1 [ju] v1)/\∃e,R e v1/\f1.fn=f/\f1.leaving P v1 e:=by
  intro T;obtain⟨e,w',fr,D,I,A,K⟩:=z T _;cases e with
  |outgrown=>exact absurd D (L _)
  |returned x=>obtain⟨n,O⟩:=I;exact⟨n,fr,w',O,_,D,A,K⟩
  |panicked x=>obtain⟨n,O⟩:=I;exact⟨n,fr,w',O,_,D,A,K⟩
 have H:∀(fr:ae) (v:af),(∃e,R e v/\fr.fn=f/\fr.leaving P v e)->fr.mode≠.run/\fr.defers=[]:=by
  rintro fr v ⟨e,D,_,K⟩;cases e with
  |outgrown=>exact absurd D (L _)
  |returned x=>exact⟨(by rw[K.1];simp),K.2.1⟩
  |panicked x=>exact⟨(by rw[K.1];simp),K.2.1⟩
 refine tree F gi (fun T=>?_) (fun T k fr v _ B N Q=>⟨rfl,GA H C T k fr v B N Q⟩) (fun T k f l v i ops S q _ _ _ h=>absurd h (V ops)) (FR.enter F p G (.inl rfl)) ⟨rfl,rfl⟩ hw M J;obtain⟨n,f1,v1,B,N⟩:=C T;exact⟨n,f1,[ju],v1,B,rfl,N⟩
end
end Ren
namespace Ren
open Conc
open ConcN (sumTo upd sumTo_upd upd_ne upd_same)
theorem ofEvents_g{g:Nat}{fn:ao}{es:Array _}{op:aP}(h:op∈bK g fn pos es):op.g=g:=by
 rw[du]at h;obtain⟨e,Y,rfl⟩:=cP.1 h;rfl
def Ef(a:Nat):Loc->Prop
 |.cell b=>b.block=a
 |.obj b=>b=a
 |_=>False
def iR(Z:Loc->Prop)(a:Nat):=∀l,Ef a l->¬Z l
def pV(Z:Loc->Prop)(B:Nat):=∀l,Z l->l.isMemory=true/\l.low B
theorem pV.mono{B B':Nat}(h:pV Z B)(H:B<=B'):pV Z B':=fun l Y=>⟨(h l Y).1,Loc.low_mono H (h l Y).2⟩
theorem pV.off{B a:Nat}(h:pV Z B)(R:B<=a):iR Z a:=fun l Y D=>by
 have:=(h l D).2;cases l with
 |cell b=>have K:b.block=a:=Y;have H:b.block<B:=this;omega
 |obj b=>have K:b=a:=Y;have H:b<B:=this;omega
 |_=>exact Y
theorem agh{u:Nat}(R:∀a,S a->iR Z a/\a<w.heap.size)(C:pV Z w.heap.size)(F:w.heap.size<=u)(h:yN S X w u e):EvL Z u e:=by
 have⟨loc,wr,A⟩:=e;rcases h with⟨a,rfl,K,I⟩|⟨a,rfl,K,I⟩|⟨m,rfl,K⟩|rfl
 ·subst K;have D:iR Z a.block/\a.block<u:=by
   rcases I with⟨h,_⟩|h
   ·exact⟨(R _ h).1,az (R _ h).2 F⟩
   ·exact⟨C.off h.1,h.2⟩
  refine⟨fun x Y H=>?_,by simp,by simp,?_⟩
  ·simp[br,cy]at Y;subst Y;exact absurd H (D.1 _ rfl)
  ·exact D.2
 ·subst K;have D:iR Z a/\a<u:=by
   rcases I with⟨h,_⟩|h
   ·exact⟨(R _ h).1,az (R _ h).2 F⟩
   ·exact⟨C.off h.1,h.2⟩
  refine⟨fun x Y H=>?_,by simp,by simp,?_⟩
  ·simp[br,cy]at Y;subst Y;exact absurd H (D.1 _ rfl)
  ·simp[br];exact D.2
 ·refine⟨fun x Y H=>?_,?_,?_,?_⟩
  ·rcases K with rfl|⟨f,rfl⟩<;>simp[br,cy]at Y
  ·rcases K with rfl|⟨f,rfl⟩<;>simp
  ·rcases K with rfl|⟨f,rfl⟩<;>simp
  ·rcases K with rfl|⟨f,rfl⟩<;>trivial
 ·refine⟨fun x Y H=>?_,by simp,by simp,trivial⟩;simp[br,cy]at Y;subst Y;have:=(C _ H).1;cases this
section
variable{P:Program}{Z:Loc->Prop}{Done:(Nat->Prop)->(Nat->Prop)->ae->List ae->af->Prop}
theorem CX{t u:aD}(h:∀op∈t,∀a,op.act≠.mark (.release a))(k:∀op∈u,∀a,op.act≠.mark (.release a)):∀op∈t++u,∀a,op.act≠.mark (.release a):=fun op gh=>(dB.1 gh).elim (h op) (k op)
theorem RX{u g:Nat}{fn:ao}{es:Array _}(h:∀e∈es,yN S X w u e):∀op∈bK g fn pos es,∀a,op.act≠.mark (.release a):=by
 intro op gh a0;rw[du]at gh;obtain⟨e,H,rfl⟩:=cP.1 gh;have⟨loc,wr,R⟩:=e;rcases h _ H with⟨a,Y,K,_⟩|⟨a,Y,K,_⟩|⟨m,Y,h⟩|Y
 ·subst Y K;nofun
 ·subst Y K;have D:br ⟨.obj a,wr,false⟩=.access ⟨.obj a,wr,false⟩:=by cases wr<;>rfl
  simp_all
 ·subst Y;rcases h with rfl|⟨f,rfl⟩<;>nofun
 ·subst Y;nofun
theorem Q0{g:Nat}{fn:ao}{es:Array _}(h:∀e∈es,e.mute=true):∀op∈bK g fn pos es,∀a,op.act≠.mark (.release a):=by
 intro op gh a0 y;rw[du]at gh;obtain⟨e,Y,rfl⟩:=cP.1 gh;have:=h e Y;have⟨loc,wr,K⟩:=e;cases loc<;>simp_all[Event.mute,br]
structure Beside(P:Program)(Z:Loc->Prop)(S:Nat->Prop)(f:ae)(l:List ae)(w:af)(gs:Array ar)(t:aD)(q:Nat->Nat):Prop where
 g0:gs[0]?=some (G f l)
 rV:Leavers P t gs q
 past:Past Z w.heap.size t
 held:∀a,S a->iR Z a/\a<w.heap.size
 nE:pV Z w.heap.size
 nr:∀op∈t,∀a,op.act≠.mark (.release a)
structure Kept(X X':Nat->Prop)(w w':af):Prop where
 kept:∀a,a<w.heap.size->¬X a->w'.heap[a]?=w.heap[a]?
 grow:w.heap.size<=w'.heap.size
 may:∀a,X' a->X a\/w.heap.size<=a
 tape:w'.tape=w.tape
 env:nc w'.os w.os
 output:w'.output=w.output
theorem Kept.refl(X:Nat->Prop)(w:af):Kept X X w w:=⟨fun _ _ _=>rfl,ak _,fun _ h=>.inl h,rfl,.refl _,rfl⟩
theorem Kept.trans{X X' T9:Nat->Prop}{w w' vk:af}(h:Kept X X' w w')(k:Kept X' T9 w' vk):Kept X T9 w vk:=by
 refine⟨fun a Y K=>(k.kept a (az Y h.grow) fun x=>?_).trans (h.kept a Y K),aW h.grow k.grow,fun a Y=>?_,k.tape.trans h.tape,k.env.trans h.env,k.output.trans h.output⟩
 ·rcases h.may a x with y|y
  ·exact K y
  ·omega
 ·rcases k.may a Y with x|x
  ·exact h.may a x
  ·exact .inr (aW h.grow x)
theorem Did.toKept{w1:af}{es:Array _}(h:Did S X w w1 es S1 X1):Kept X X1 w w1:=⟨h.kept,h.grow,fun a Y=>((h.may a).1 Y).imp id fun x=>x.1,h.tape,h.env,h.output⟩
theorem Kept.at(w:af)(d:Nat):Kept X X w (w.at d):=⟨fun _ _ _=>rfl,ak _,fun _ h=>.inl h,rfl,.refl _,rfl⟩
theorem zL(U:Nat->Nat->Prop)(S:Nat->Prop)(w:af)(d:Nat):gR U S w (w.at d):=⟨fun _ _=>.inl rfl,ak _,.refl _⟩
theorem Yn{U:Nat->Nat->Prop}(h:Tr P true U Done S X f l w):
  ∀(gs:Array ar) (sl:Option (Nat×Nat)) (t:aD) (q:Nat->Nat),Beside P Z S f l w gs t q->
   ∃(N:Nat) (Y:Array ar) (f':ae) (l':List ae) (w':af) (R:Option (Nat×Nat)) (t':aD) (s:Nat->Nat) (S' X':Nat->Prop),
    aN P N (crowd gs w sl) t=(.next (crowd Y w' R),t')/\Y.size=gs.size/\Done S' X' f' l' w'/\Beside P Z S' f' l' w' Y t' s/\Kept X X' w w':=by
 induction h with
 |stop hd=>exact fun gs sl t q H=>⟨0,gs,_,_,_,sl,t,q,_,_,rfl,rfl,hd,H,Kept.refl _ _⟩
 |@step S X f l w ex _ ih=>
  have inner:∀(M:Nat) (gs:Array ar) (w0:af) (sl:Option (Nat×Nat)) (t:aD) (q:Nat->Nat),sumTo gs.size q=M->gR U S w w0->Beside P Z S f l w0 gs t q->
    ∃(N:Nat) (Y:Array ar) (f':ae) (l':List ae) (w':af) (R:Option (Nat×Nat)) (t':aD) (s:Nat->Nat) (S' X':Nat->Prop),
     aN P N (crowd gs w0 sl) t=(.next (crowd Y w' R),t')/\Y.size=gs.size/\Done S' X' f' l' w'/\Beside P Z S' f' l' w' Y t' s/\Kept X X' w0 w':=by
   intro M;induction M using Nat.strongRecOn with
   |_ M JZ=>
   intro gs w0 sl t q hM hr H;have u:=H.rV;have m:=H.g0;have J0:∀g∈gs,awake g:=by
    intro g v;obtain⟨i,B,rfl⟩:=Array.mem_iff_getElem.1 v;rcases ej i with rfl|I
    ·have:gs[0]=G f l:=by simpa[bS B]using m
     rw[this];exact awake_of (.inl rfl)
    ·exact awake_of ((u.old i _ I (bS B)).status.elim .inl fun x=>.inr (.inr x))
   obtain⟨i,g,d,R,B,v,ga⟩:=crowd_pick (P:=P) (w:=w0) (sl:=sl) J0 ⟨0,_,m,rfl⟩;rcases ej i with rfl|I
   ·
    obtain rfl:g=G f l:=by rw[m]at B;exact(Option.some.inj B).symm
    have p9:=hr.trans (zL U S w0 d);obtain⟨f1,l1,w1,es,S1,X1,n,hd⟩:=ex (w0.at d) p9;have D:=eB (P:=P) (sl:=R) (i:=0) B (n);have L:((gs.map (woken P (G f l) (G f1 l1) w1)).setIfInBounds 0 (G f1 l1)).size=gs.size:=by simp
    have J:0<gs.size:=(cL.1 m).1;have K:=hd.grow;have Q:Beside P Z S1 f1 l1 w1 ((gs.map (woken P (G f l) (G f1 l1) w1)).setIfInBounds 0 (G f1 l1)) (t++bK 0 (G f l).frame.fn (G f l).frame.place es) q:=by
     refine⟨by simp[J],⟨fun j x C p=>?_,fun j C=>?_⟩,?_,fun a ha=>?_,H.nE.mono K,CX H.nr (RX hd.ev)⟩
     ·have E:0≠j:=by omega
      rw[cM E,bT]at p;obtain⟨y,hy,rfl⟩:=bM.1 p;have W:=u.old j y C hy;rw[eE W,bJ t (by omega) _ (fun op gh=>ofEvents_g gh)];exact W
     ·rw[bJ t (g':=0) (by simp at C;omega) _ (fun op gh=>ofEvents_g gh)];exact u.above j (by simpa using C)
     ·exact(H.past.mono K).own fun e he=>agh (w:=w0.at d) H.held H.nE K (hd.ev e he)
     ·rcases(hd.held a).1 ha with x|x
      ·exact⟨(H.held a x).1,az (H.held a x).2 K⟩
      ·exact⟨H.nE.off x.1,x.2⟩
    obtain⟨N,Y,f',l',w',A,t',s,S',X',c,o,T,O,V⟩:=ih (w0.at d) f1 l1 w1 es S1 X1 p9 n hd _ R _ q Q;exact⟨N+1,Y,f',l',w',A,t',s,S',X',by simp only[aN,ga,D];exact c,o.trans L,T,O,((Kept.at w0 d).trans hd.toKept).trans V⟩
   ·
    have W:=u.old i g I B;have AM:(i==0)=false:=by simp;omega
    have J:i<gs.size:=(cL.1 B).1;cases z:q i with
    |zero=>rw[z]at W;rw[W.1]at v;cases v
    |succ k=>
     rw[z]at W;rcases W with⟨hf,_⟩|⟨_,r,es,hm,ai5,yO⟩
     ·rw[hf]at v;cases v
     have D:=eB (P:=P) (sl:=R) (i:=i) B (by rw[AM];exact ai5 (w0.at d));have L:((gs.map (woken P g r (w0.at d))).setIfInBounds i r).size=gs.size:=by simp
     have S9:sumTo gs.size (upd q i k)+(k+1)=sumTo gs.size q+k:=by
      have:=sumTo_upd q k id J;simpa[z]using this
     have Q:Beside P Z S f l (w0.at d) ((gs.map (woken P g r (w0.at d))).setIfInBounds i r) (t++bK i g.frame.fn g.frame.place es) (upd q i k):=by
      refine⟨?_,⟨fun j x C p=>?_,fun j C=>?_⟩,H.past.mute (by omega) hm,H.held,H.nE,CX H.nr (Q0 hm)⟩
      ·have E:i≠0:=by omega
       rw[cM E,bT,m];simp[woken_run (b:=G f l) rfl]
      ·by_cases F:i=j
       ·subst F;rw[Array.getElem?_setIfInBounds_self_of_lt (by simpa using J)]at p;obtain rfl:=Option.some.inj p;rw[upd_same,Deaf_own];exact yO
       ·rw[cM F,bT]at p;obtain⟨y,hy,rfl⟩:=bM.1 p;have T_:=u.old j y C hy;rw[eE T_,upd_ne q k (Ne.symm F),bJ t F _ (fun op gh=>ofEvents_g gh)];exact T_
      ·rw[bJ t (g':=i) (by simp at C;omega) _ (fun op gh=>ofEvents_g gh)];exact u.above j (by simpa using C)
     obtain⟨N,Y,f',l',w',A,t',s,S',X',c,o,T,O,V⟩:=JZ (sumTo gs.size (upd q i k)) (by omega) _ (w0.at d) R _ (upd q i k) (by rw[L]) (hr.trans (zL U S w0 d)) Q;exact⟨N+1,Y,f',l',w',A,t',s,S',X',by simp only[aN,ga,D];exact c,o.trans L,T,O,(Kept.at w0 d).trans V⟩
  exact fun gs sl t q H=>inner _ gs w sl t q rfl (gR.refl U S w) H
end
end Ren
namespace Ren
open Conc
section
variable{P:Program}{main:Bool}{U:Nat->Nat->Prop}{D I:(Nat->Prop)->(Nat->Prop)->ae->List ae->af->Prop}
theorem Tr.bind{l:List _}(h:Tr P main U D S X f l w)(k:∀S X f l w,D S X f l w->Tr P main U I S X f l w):Tr P main U I S X f l w:=by
 induction h with
 |stop hd=>exact k _ _ _ _ _ hd
 |step ex _ Y=>exact .step ex fun w2 f1 l1 w1 es S1 X1 hr e hd=>Y w2 f1 l1 w1 es S1 X1 hr e hd
end
section
variable[gm]{P:Program}{main:Bool}{U:Nat->Nat->Prop}{r0:Rn}{v0 w:af}
def S_(U:Nat->Nat->Prop)(r0:Rn)(R:aU->af->Prop)(c:ae)(cs:List ae)(S X:Nat->Prop)(f':ae)(l':List _)(w:af):=
 l'=cs/\∃r v x x',Le r0 r/\V r x x'/\f'=c.finish x'/\W r 0 v w/\S=Rd r/\X=Wr r/\R (.returned x) v/\oC U r/\∀a i,U a i->a<w.heap.size
theorem Hf(F:lA P)(p:∀l,¬gm.jm l){f:ao}{R:aU->af->Prop}(C:∀e u,R e u->∃x,e=.returned x){c:ae}
  (h:qZ P U r0 (fun fr l v=>l=[ju]/\∃e,R e v/\fr.fn=f/\fr.leaving P v e) [ju] (c::cs) S X f' l' w):Tr P main U (S_ U r0 R c cs) S X f' l' w:=by
 obtain⟨r,n,fr,l,v,Q,A,Z,hw,rfl,rfl,⟨rfl,e,q,k,hl⟩,H,K⟩:=h;obtain⟨rfl,rfl⟩:=Z.RV;obtain⟨x,rfl⟩:=C e v q;obtain⟨hm,hd,hk,fn,j,J⟩:=hl;have T:f'.mode=.returning:=by
  have:=A.mode;rw[hm]at this;generalize f'.mode=m at this;cases this;rfl
 have N:f'.defers=[]:=by
  have:=A.defers;rw[hd]at this;generalize f'.defers=m at this;cases this with
  |nil=>rfl
  |rest _ h=>exact absurd h (p _)
 have O:=A.kind.trans hk;have B:P.funcs[f'.fn]?=some fn:=by rw[A.fn];omega
 have one:∀w2,gR U (Rd r) w w2->∃r1 x' w1 es,Le r r1/\V r1 x x'/\W r1 0 v w1/\aj P main (G f' (c::cs)) w2=.go (G (c.finish x') cs) w1 es/\Did (Rd r) (Wr r) w2 w1 es (Rd r1) (Wr r1)/\oC U r1:=by
  intro w2 hr;have L:=hw.rely H hr;have run:=(Of (fn:=fn) A.tmps).run F.r7 #[] L;rw[J]at run;generalize E:au P _ w2 #[]=sw at run;cases run with
  |lF a b=>simp only[Result.world]at a;omega
  |@ok _ x' _ w1 fs r1 c1 o hx t=>
   have s:c1=0:=by have:=o.drew;omega
   subst s;have I:oC U r1:=by
    intro b b' i e M;rcases o.fresh b b' e with y|y
    ·exact H b b' i y M
    ·have:=K b' i M;have:=hr.grow;omega
   refine⟨r1,x',w1,_,o.le,hx,o.wl,?_,o.did L (pQ (P:=P) (fn:=f'.fn) t),I⟩;unfold aj;simp only[G];unfold bc;simp only[N,T,B,E];unfold aM;simp only[O,GStep.after];simp
 refine .step (fun w2 hr=>?_) fun w2 f1 l1 w1 es S1 X1 hr e Y=>?_
 ·obtain⟨r1,x',w1,es,_,_,_,e,Y,_⟩:=one w2 hr;exact⟨_,_,w1,es,_,_,e,Y⟩
 ·obtain⟨r1,x',w1',iI,z,d,g,e',D,I⟩:=one w2 hr;rw[e]at e';cases e';obtain⟨rfl,rfl⟩:=Y.same D;exact .stop ⟨rfl,r1,v,x,x',Q.trans z,d,rfl,g,rfl,rfl,q,I,fun a i M=>az (K a i M) (aW hr.grow Y.grow)⟩
theorem aaR(F:lA P)(M:∀ops,¬gm.wall ops)(L:∀l,¬gm.jm l)(gi:GI r0){f:ao}{args Y:Array _}{R:aU->af->Prop}(O:∀T,Calls P f args (tp v0 T) R)(H:∀e u,R e u->∃x,e=.returned x)(V:gm.iG f)(N:VA r0 args Y)(hw:W r0 0 v0 w)(J:oC U r0)(C:∀a i,U a i->a<w.heap.size)(c:ae)(cs:List _):
  Tr P main U (S_ U r0 R c cs) (Rd r0) (Wr r0) (Frame.enter P f Y .normal) (c::cs) w:=
 (Zz F M gi O (fun u h=>by obtain⟨x,e⟩:=H _ _ h;cases e) V N hw J C).bind fun S X f' l' w' h=>Hf F L H h
end
section
variable[gm]{P:Program}{main:Bool}{U:Nat->Nat->Prop}{r0:Rn}{v0 w:af}
def ta:List Item:=[.code (.refuse "")]
def P_(b:ae)(R:Act->af->Prop)(f:ae)(l:List _)(v:af):=l=[ju]/\∃a,f=b.at a ta/\R a v
theorem Oh(F:lA P)(M:∀ops,¬gm.wall ops)(gi:GI r0){c:Code}{b:ae}{a:Act}{R:Act->af->Prop}(O:∀T,Code.wp P c (fun e a' v'=>e=.normal/\R a' v') a (tp v0 T))
  (N:b.kind=.normal)(G:lQ P false c){gS:List _}(V:FR P r0 true (b.at a (.code c::ta)) f')(hw:W r0 0 v0 w)(L:oC U r0)(J:∀a i,U a i->a<w.heap.size):
  Tr P main U (qZ P U r0 (P_ b R) [ju] gS) (Rd r0) (Wr r0) f' gS w:=by
 have C:∀T,∃n a' v1,runN P n (lone (b.at a (.code c::ta)) [ju] (tp v0 T))=.next (lone (b.at a' ta) [ju] v1)/\R a' v1:=by
  intro T;obtain⟨e,a',v1,⟨rfl,K⟩,n,Y⟩:=O T b _ _;exact⟨n,a',v1,Y,K⟩
 refine tree F gi (fun T=>?_) (fun T k f v Q D A B=>?_) (fun T k f l v i ops X q _ _ _ h=>absurd h (M ops)) V ⟨rfl,N⟩ hw L J
 ·have⟨n,a',v1,Y,K⟩:=C T;exact⟨n,_,_,v1,Y,rfl,a',rfl,K⟩
 ·exfalso;have⟨n,a',v1,Y,K⟩:=C T;rcases db k n with S|H
  ·obtain⟨m,rfl⟩:∃m,n=k+(m+1):=⟨n-k-1,by omega⟩;rw[bC,D.runN]at Y;exact Gz m A B Y
  ·have⟨g,l2,u,I⟩:=D.pre n H;obtain⟨rfl,rfl,rfl⟩:=I.AL Y;exact Q n _ _ _ H I ⟨rfl,a',rfl,K⟩
theorem O8{b:ae}{R:Act->af->Prop}(H:∀k,gm.rest k->k=kr)(h:qZ P U r0 (P_ b R) [ju] gS S X f' l' w):
  l'=gS/\∃r a v,Le r0 r/\W r 0 v w/\S=Rd r/\X=Wr r/\R a v/\oC U r/\(∀a i,U a i->a<w.heap.size)/\VA r a.tmps f'.tmps/\f'.fn=b.fn/\f'.kind=b.kind/\f'.mode=.run/\f'.roundOf=none/\f'.todo=kr/\DB r true a.defers f'.defers:=by
 obtain⟨r,n,f,l,v,I,Y,C,hw,K,D,⟨rfl,a,rfl,A⟩,F,B⟩:=h;obtain⟨rfl,rfl⟩:=C.RV;refine⟨rfl,r,a,v,I,hw,K,D,A,F,B,Y.tmps,Y.fn,Y.kind,?_,?_,?_,Y.defers⟩
 ·have:=Y.mode;simp only[Frame.at]at this;generalize f'.mode=m at this;cases this;rfl
 ·have:=Y.round;simp only[Frame.at]at this;generalize f'.roundOf=m at this;cases this;rfl
 ·have:=Y.todo;simp only[Frame.at,ta]at this;generalize f'.todo=m at this;cases this with
  |rest _ _ h _=>exact H _ h
  |cons a _=>
   cases a with
   |code h=>exact absurd rfl h
end
def At(P:Program)(Z:Loc->Prop)(f:ae)(l:List _)(w:af)(m:Machine)(t:aD):=
 ∃gs sl q,m=crowd gs w sl/\Beside P Z (fun _=>False) f l w gs t q
abbrev QT:=(Loc->Prop)->ae->List ae->af->Prop
def gd(P:Program)(Q:QT)(Z:Loc->Prop)(f:ae)(l:List ae)(w:af):Prop:=
 ∀m t,At P Z f l w m t->∃N m' t' Z' f' l' w',aN P N m t=(.next m',t')/\At P Z' f' l' w' m' t'/\Q Z' f' l' w'
theorem runNT_add(P:Program):∀a b m Y t t1,aN P a m t=(.next Y,t1)->aN P (a+b) m t=aN P b Y t1
 |0,b,m,Y,t,t1,h=>by
  cases h;simp_all
 |a+1,b,m,Y,t,t1,h=>by
  rw[show a+1+b=(a+b)+1 by omega];simp[aN]at h⊢;cases K:stepT P m with
  |mk s ops=>
   rw[K]at h;cases s with
   |next H=>exact runNT_add P a b H Y _ t1 h
   |ended o w=>cases h
section
variable{P:Program}{Q I:QT}{Z:Loc->Prop}{f:ae}{l:List ae}{w:af}
theorem gd.done(h:Q Z f l w):gd P Q Z f l w:=fun m t Y=>⟨0,m,t,Z,f,l,w,rfl,Y,h⟩
theorem gd.tree{Done:(Nat->Prop)->(Nat->Prop)->ae->List _->af->Prop}{U:Nat->Nat->Prop}(h:Tr P true U Done S X f l w)(J:∀a,S a->iR Z a/\a<w.heap.size)
  (k:∀S' X' f' l' w',Done S' X' f' l' w'->Kept X X' w w'->gd P Q Z f' l' w'):gd P Q Z f l w:=by
 rintro m t ⟨gs,sl,q,rfl,K⟩;have⟨N,H,f',l',w',I,t',O,S',X',hr,T,C,Y,F⟩:=Yn h gs sl t q ⟨K.g0,K.rV,K.past,J,K.nE,K.nr⟩;obtain⟨A,M,t2,B,f2,l2,w2,L,D,R⟩:=k S' X' f' l' w' C F _ t' ⟨H,I,O,rfl,Y.g0,Y.rV,Y.past,(fun a h=>h.elim),Y.nE,Y.nr⟩;exact⟨N+A,M,t2,B,f2,l2,w2,by rw[runNT_add P N A _ _ _ _ hr];omega,D,R⟩
end
section
variable[gm]{P:Program}{Q:QT}{Z:Loc->Prop}{w:af}
theorem gd.call(F:lA P)(L:∀ops,¬gm.wall ops)(J:∀l,¬gm.jm l){r0:Rn}(gi:GI r0){f:ao}{args Y:Array _}{R:aU->af->Prop}(O:∀T,Calls P f args (tp v0 T) R)(H:∀e u,R e u->∃x,e=.returned x)(G:gm.iG f)(C:VA r0 args Y)(hw:W r0 0 v0 w){c:ae}{cs:List _}
  (M:∀a,Rd r0 a->iR Z a)
  (k:∀r v x x' w',Le r0 r->V r x x'->W r 0 v w'->R (.returned x) v->Kept (Wr r0) (Wr r) w w'->gd P Q Z (c.finish x') cs w'):gd P Q Z (Frame.enter P f Y .normal) (c::cs) w:=by
 refine gd.tree (U:=fun _ _=>False) (aaR F L J gi O H G C hw (fun _ _ _ _ h=>h.elim) (fun _ _ h=>h.elim) c cs) (fun a C=>⟨M a C,?_⟩) ?_
 ·have⟨b,N⟩:=C;exact(hw.lt N).2
 ·rintro S' X' f' l' w' ⟨rfl,r,v,x,x',K,D,rfl,I,rfl,rfl,A,_⟩ B;exact k r v x x' w' K D I A B
end
section
variable[gm]
open Classical in
def qC (K:Nat->Prop):Rn where
 f b:=if K b then some b else none
 inj b b' c h h':=by
  split at h
  ·split at h'
   ·cases h;cases h';rfl
   ·cases h'
  ·cases h
 jD b c h:=by
  split at h
  ·cases h;exact Iff.rfl
  ·cases h
open Classical in
theorem uk{K:Nat->Prop}{b:Nat}(h:K b):qC K b=some b:=by
 show(if K b then some b else none)=_
 simp_all
open Classical in
theorem xZ{K:Nat->Prop}{b c:Nat}:qC K b=some c↔K b/\b=c:=by
 show(if K b then some b else none)=some c↔_
 simp_all
theorem CJ{K:Nat->Prop}{a:Nat}:Rd (qC K) a↔K a:=⟨(fun⟨b,Y⟩=>by obtain⟨h,rfl⟩:=xZ.1 Y;exact h),fun h=>⟨a,uk h⟩⟩
theorem aen{K:Nat->Prop}{a:Nat}:Wr (qC K) a↔K a/\¬gm.ro a:=⟨(fun⟨b,Y,H⟩=>by obtain⟨h,rfl⟩:=xZ.1 Y;simp_all),fun h=>⟨a,uk h.1,h.2⟩⟩
theorem RY(Y:∀b,¬gm.ro b)(R:gm.size<=w.heap.size)(h:∀b,K b->∃o,w.heap[b]?=some o/\O (qC K) o o):W (qC K) 0 w w:=by
 refine⟨fun b b' e=>?_,R,R,fun b I=>absurd I (Y b),fun i q A=>by omega,rfl⟩;obtain⟨hk,rfl⟩:=xZ.1 e;have⟨o,H,D⟩:=h b hk;exact⟨o,o,H,H,.same (Y b) D⟩
theorem RZ{r:Rn}{c:Array _}(e:ai)(fz:Nat×Nat)(h:∀x∈c,V r x x):O r (.cells c e fz) (.cells c e fz):=.cells e fz ⟨rfl,fun i x x' e e'=>by
 obtain rfl:=Option.some.inj (e.symm.trans e');exact h x (bU e)⟩
end
theorem Oi(P:Program):∀n m Y t t1,aN P n m t=(.next Y,t1)->runN P n m=.next Y
 |0,m,Y,t,t1,h=>by
  cases h;rfl
 |n+1,m,Y,t,t1,h=>by
  simp[aN]at h;simp[Go.runN,step];cases K:stepT P m with
  |mk s ops=>
   rw[K]at h;cases s with
   |next H=>exact Oi P n H Y _ t1 h
   |ended o w=>cases h
def Ends(P:Program)(Y:ah->af->Prop)(Z:Loc->Prop)(f:ae)(l:List _)(w:af):=∀w1,AtRel w w1->AtEnd P Z w.heap.size Y (G f l) w1
theorem gd.close{Y:ah->af->Prop}{W:af}(h:gd P (Ends P Y) (fun _=>False) f [] W):
  ∃M last o w' t',aN P (M+1) (solo (G f []) W) #[]=(.ended o w',t')/\runN P M (solo (G f []) W)=.next last/\step P last=.ended o w'/\Conc.Good P Y last o w' t':=by
 have B:Past (fun _=>False) W.heap.size #[]:=past_nil.mono (Nat.zero_le _);obtain⟨N,m',t',Z',f',l',w',hr,⟨gs,sl,q,rfl,K⟩,U⟩:=h (solo (G f []) W) #[] ⟨#[G f []],none,fun _=>0,rfl,rfl,leavers_one P _,B,(fun a h=>h.elim),(fun a h=>h.elim),by simp⟩;obtain⟨M,last,o,w2,t2,H,R,I,A⟩:=beside_ends (D:=fun _ _ _=>False) (n:=0) (sl:=sl) (fun _ _ _ h=>h.elim) K.g0 K.rV K.past U;exact⟨N+M,last,o,w2,t2,by rw[show N+M+1=N+(M+1) by omega,runNT_add P N (M+1) _ _ _ _ hr];exact H,by rw[bC,Oi P N _ _ _ _ hr];exact R,I,A⟩
theorem O9{b:ae}{a:Act}{c:Code}{fn:Func}{R:aU->af->Prop}(C:P.funcs[b.fn]?=some fn)(hk:b.kind=.normal)(F:∀u,¬R .outgrown u)(h:c.wp P (cD P fn R) a w)(cs:List _):
  ∃n fr w' e,runN P n (lone (b.at a [.code c]) cs w)=.next (lone fr cs w')/\R e w'/\fr.fn=b.fn/\fr.leaving P w' e:=by
 have⟨e,a',w',K,Y⟩:=h b [] cs;cases e with
 |normal=>
  have⟨hd,v,hr,H⟩:=K;have⟨n,D⟩:=Steps.trans Y (.one step_end);exact⟨n,_,w',.returned v,D,H,rfl,rfl,hd,hk,fn,C,hr⟩
 |ret=>
  have⟨hd,v,hr,H⟩:=K;have⟨todo,n,D⟩:=Y;exact⟨n,_,w',.returned v,D,H,rfl,rfl,hd,hk,fn,C,hr⟩
 |panic chain=>
  have⟨hd,H⟩:=K;have⟨todo,n,D⟩:=Y;exact⟨n,_,w',.panicked _,D,H,rfl,rfl,hd,fn,C⟩
 |exit id=>exact K.elim
 |goto l=>exact K.elim
 |outgrown=>exact absurd K (F _)
section
variable[gm]{P:Program}{main:Bool}{U:Nat->Nat->Prop}{r0:Rn}{v0 w:af}{gS:List ae}
theorem aaS(F:lA P)(O:∀ops,¬gm.wall ops)(gi:GI r0){b:ae}{a:Act}{c:Code}{fn:Func}{R:aU->af->Prop}(N:P.funcs[b.fn]?=some fn)(hk:b.kind=.normal)(V:∀T,c.wp P (cD P fn R) a (tp v0 T))(L:∀u,¬R .outgrown u)(G:FR P r0 true (b.at a [.code c]) f')(hw:W r0 0 v0 w)(M:oC U r0)(J:∀a i,U a i->a<w.heap.size):
  Tr P main U (qZ P U r0 (fun fr l v=>l=[ju]/\∃e,R e v/\fr.fn=b.fn/\fr.leaving P v e) [ju] gS) (Rd r0) (Wr r0) f' gS w:=by
 have C:∀T,∃n f1 v1,runN P n (lone (b.at a [.code c]) [ju] (tp v0 T))=.next (lone f1 [ju] v1)/\∃e,R e v1/\f1.fn=b.fn/\f1.leaving P v1 e:=by
  intro T;obtain⟨n,fr,w',e,B,I,K,H⟩:=O9 N hk L (V T) _;exact⟨n,fr,w',B,e,I,K,H⟩
 have Y:∀(fr:ae) (v:af),(∃e,R e v/\fr.fn=b.fn/\fr.leaving P v e)->fr.mode≠.run/\fr.defers=[]:=by
  rintro fr v ⟨e,I,_,D⟩;cases e with
  |outgrown=>exact absurd I (L _)
  |returned x=>exact⟨(by rw[D.1];simp),D.2.1⟩
  |panicked x=>exact⟨(by rw[D.1];simp),D.2.1⟩
 refine tree F gi (fun T=>?_) (fun T k fr v _ K H A=>⟨rfl,GA Y C T k fr v K H A⟩) (fun T k f l v i ops Q q _ _ _ h=>absurd h (O ops)) G ⟨rfl,hk⟩ hw M J;have⟨n,f1,v1,K,H⟩:=C T;exact⟨n,f1,[ju],v1,K,rfl,H⟩
end
section
variable[gm]{P:Program}{Q:QT}{Z:Loc->Prop}{w:af}
theorem gd.rest(F:lA P)(M:∀ops,¬gm.wall ops)(J:∀l,¬gm.jm l){r0:Rn}(gi:GI r0){b:ae}{a:Act}{c:Code}{fn:Func}{R:aU->af->Prop}(H:P.funcs[b.fn]?=some fn)(hk:b.kind=.normal)(G:∀T,c.wp P (cD P fn R) a (tp v0 T))(Y:∀e u,R e u->∃x,e=.returned x)(q:FR P r0 true (b.at a [.code c]) f')(hw:W r0 0 v0 w){c0:ae}{cs:List _}
  (N:∀a,Rd r0 a->iR Z a)
  (k:∀r v x x' w',Le r0 r->V r x x'->W r 0 v w'->R (.returned x) v->Kept (Wr r0) (Wr r) w w'->gd P Q Z (c0.finish x') cs w'):gd P Q Z f' (c0::cs) w:=by
 have D:=aaS (main:=true) (U:=fun _ _=>False) (gS:=c0::cs) F M gi H hk G (fun u h=>by obtain⟨x,e⟩:=Y _ _ h;cases e) q hw (fun _ _ _ _ h=>h.elim) (fun _ _ h=>h.elim);refine gd.tree (D.bind fun S X f' l' w' h=>Hf F J Y h) (fun a K=>⟨N a K,?_⟩) ?_
 ·have⟨b,O⟩:=K;exact(hw.lt O).2
 ·rintro S' X' f' l' w' ⟨rfl,r,v,x,x',I,A,rfl,B,rfl,rfl,C,_⟩ L;exact k r v x x' w' I A B C L
end
theorem Yo{b:ae}{a:Act}{c:Code}{fn:Func}{ops:Array _}{l:List Nat}{R:aU->af->Prop}(C:P.funcs[b.fn]?=some fn)(hk:b.kind=.normal)(H:∀u,¬R .outgrown u)(h:wpOps P ops (fun e a' w'=>e=.normal/\c.wp P (cD P fn R) a' w') l a w)(cs:List _):
  ∃n fr w' e,runN P n (lone (b.at a [.inRegion ops l,.code c]) cs w)=.next (lone fr cs w')/\R e w'/\fr.fn=b.fn/\fr.leaving P w' e:=by
 obtain⟨e,a',w',⟨rfl,K⟩,n1,Y⟩:=wp_ops l a w h b _ cs;have⟨n,fr,w2,e,D,r⟩:=O9 C hk H K cs;exact⟨n1+n,fr,w2,e,by rw[bC,Y];exact D,r⟩
section
variable[gm]{P:Program}{Q:QT}{Z:Loc->Prop}{w:af}
theorem gd.lone(F:lA P)(G:∀ops,¬gm.wall ops)(M:∀l,¬gm.jm l){r0:Rn}(gi:GI r0){b:ae}{a:Act}{its:List _}{fn:Func}{R:aU->af->Prop}(s:P.funcs[b.fn]?=some fn)(hk:b.kind=.normal)(hc:∀T,∃n fr w' e,runN P n (Go.lone (b.at a its) [ju] (tp v0 T))=.next (Go.lone fr [ju] w')/\R e w'/\fr.fn=b.fn/\fr.leaving P w' e)(Y:∀e u,R e u->∃x,e=.returned x)(p:FR P r0 true (b.at a its) f')(hw:W r0 0 v0 w){c0:ae}{cs:List _}
  (z:∀a,Rd r0 a->iR Z a)
  (k:∀r v x x' w',Le r0 r->V r x x'->W r 0 v w'->R (.returned x) v->Kept (Wr r0) (Wr r) w w'->gd P Q Z (c0.finish x') cs w'):gd P Q Z f' (c0::cs) w:=by
 have U:∀u,¬R .outgrown u:=fun u h=>by obtain⟨x,e⟩:=Y _ _ h;cases e
 have C:∀T,∃n f1 v1,runN P n (Go.lone (b.at a its) [ju] (tp v0 T))=.next (Go.lone f1 [ju] v1)/\∃e,R e v1/\f1.fn=b.fn/\f1.leaving P v1 e:=by simp_all
 have K:∀(fr:ae) (v:af),(∃e,R e v/\fr.fn=b.fn/\fr.leaving P v e)->fr.mode≠.run/\fr.defers=[]:=by
  rintro fr v ⟨e,O,_,I⟩;cases e with
  |outgrown=>exact absurd O (U _)
  |returned x=>exact⟨(by rw[I.1];simp),I.2.1⟩
  |panicked x=>exact⟨(by rw[I.1];simp),I.2.1⟩
 have J:Tr P true (fun _ _=>False) (qZ P (fun _ _=>False) r0 (fun fr l v=>l=[ju]/\∃e,R e v/\fr.fn=b.fn/\fr.leaving P v e) [ju] (c0::cs)) (Rd r0) (Wr r0) f' (c0::cs) w:=by
  refine Ren.tree F gi (fun T=>?_) (fun T k fr v _ H D A=>⟨rfl,GA K C T k fr v H D A⟩) (fun T k f l v i ops j q _ _ _ h=>absurd h (G ops)) p ⟨rfl,hk⟩ hw (fun _ _ _ _ h=>h.elim) (fun _ _ h=>h.elim);have⟨n,f1,v1,H,D⟩:=C T;exact⟨n,f1,[ju],v1,H,rfl,D⟩
 refine gd.tree (J.bind fun S X f' l' w' h=>Hf F M Y h) (fun a B=>⟨z a B,?_⟩) ?_
 ·have⟨b,E⟩:=B;exact(hw.lt E).2
 ·rintro S' X' f' l' w' ⟨rfl,r,v,x,x',H,D,rfl,A,rfl,rfl,L,_⟩ N;exact k r v x x' w' H D A L N
end
end Ren
namespace Ph
open Conc Ren
structure j9(U:Nat->Nat->Prop)(S X:Nat->Prop)(w w1:af)(es:Array aO)(S1 X1:Nat->Prop):Prop extends Did S X w w1 es S1 X1 where
 J_:∀e∈es,∀a:Addr,e.loc=.cell a->¬U a.block a.off
inductive Tz(P:Program)(main:Bool)(U:Nat->Nat->Prop)(Done:(Nat->Prop)->(Nat->Prop)->ar->af->Prop):(Nat->Prop)->(Nat->Prop)->ar->af->Prop
 |stop {S X:Nat->Prop} {g:ar} {w:af}:Done S X g w->Tz P main U Done S X g w
 |step {S X:Nat->Prop} {g:ar} {w:af}:g.status=.running->(∀w2,gR U S w w2->∃g1 w1 es S1 X1,aj P main g w2=.go g1 w1 es/\j9 U S X w2 w1 es S1 X1)->
   (∀w2 g1 w1 es S1 X1,gR U S w w2->aj P main g w2=.go g1 w1 es->j9 U S X w2 w1 es S1 X1->Tz P main U Done S1 X1 g1 w1)->Tz P main U Done S X g w
section
variable{P:Program}{main:Bool}{U:Nat->Nat->Prop}{D I:(Nat->Prop)->(Nat->Prop)->ar->af->Prop}{S X S1 X1 S2 X2:Nat->Prop}{g:ar}{f:ae}{l:List ae}{w w1 w2 w3:af}{es:Array aO}
theorem Tz.bind(h:Tz P main U D S X g w)(k:∀S X g w,D S X g w->Tz P main U I S X g w):Tz P main U I S X g w:=by
 induction h with
 |stop hd=>exact k _ _ _ _ hd
 |step Y ex _ K=>exact .step Y ex fun w2 g1 w1 es S1 X1 hr e hd=>K w2 g1 w1 es S1 X1 hr e hd
theorem Tz.one(C:g.status=.running)(h:∀w2,gR U S w w2->∃g1 w1 es S1 X1,aj P main g w2=.go g1 w1 es/\j9 U S X w2 w1 es S1 X1/\Tz P main U D S1 X1 g1 w1):Tz P main U D S X g w:=by
 refine .step C (fun w2 hr=>?_) fun w2 g1 w1 es S1 X1 hr e hd=>?_
 ·have⟨g1,w1,es,S1,X1,e,hd,_⟩:=h w2 hr;exact⟨g1,w1,es,S1,X1,e,hd⟩
 ·have⟨R,A,iI,K,H,e',Y,I⟩:=h w2 hr;rw[e]at e';cases e';obtain⟨rfl,rfl⟩:=hd.toDid.same Y.toDid;exact I
theorem Qa{u:Nat}(h:yN S X w u e):yN (fun a=>S a\/SF a) (fun a=>X a\/XF a) w u e:=by
 rcases h with⟨a,Y,K,H⟩|⟨a,Y,K,H⟩|h
 ·exact .inl ⟨a,Y,K,H.imp (fun y=>⟨.inl y.1,fun z=>.inl (y.2 z)⟩) id⟩
 ·exact .inr (.inl ⟨a,Y,K,H.imp (fun y=>⟨.inl y.1,fun z=>.inl (y.2 z)⟩) id⟩)
 ·exact .inr (.inr h)
theorem Tz.of{C:(Nat->Prop)->(Nat->Prop)->ae->List ae->af->Prop}(h:Tr P main U C S X f l w)(F:∀a i,U a i->a<w.heap.size/\¬S a)(k:∀S X f l w,C S X f l w->Tz P main U I (fun a=>S a\/SF a) (fun a=>X a\/XF a) (G f l) w):
  Tz P main U I (fun a=>S a\/SF a) (fun a=>X a\/XF a) (G f l) w:=by
 induction h with
 |stop hd=>exact k _ _ _ _ _ hd
 |@step S X f l w ex _ O=>
  have J:∀{w2:af},gR U (fun a=>S a\/SF a) w w2->gR U S w w2:=fun hr=>⟨fun a H=>hr.kept a (.inl H),hr.grow,hr.env⟩;refine Tz.one rfl fun w2 hr=>?_;obtain⟨f1,l1,w1,es,S1,X1,e,hd⟩:=ex w2 (J hr);refine⟨_,w1,es,_,_,e,⟨⟨fun a H N=>hd.kept a H fun y=>N (.inl y),hd.grow,fun a=>?_,fun a=>?_,fun e D=>Qa (hd.ev e D),hd.tape,hd.env,hd.output⟩,fun e D a R A=>?_⟩,O w2 f1 l1 w1 es S1 X1 (J hr) e hd fun a i A=>?_⟩
  ·rw[hd.held];constructor
   ·rintro((y|y)|y)
    ·exact .inl (.inl y)
    ·exact .inr y
    ·exact .inl (.inr y)
   ·rintro((y|y)|y)
    ·exact .inl (.inl y)
    ·exact .inr y
    ·omega
  ·rw[hd.may];constructor
   ·rintro((y|y)|y)
    ·exact .inl (.inl y)
    ·omega
    ·exact .inl (.inr y)
   ·rintro((y|y)|y)
    ·exact .inl (.inl y)
    ·exact .inr y
    ·omega
  ·have K:=F _ _ A;have L:=hr.grow;rcases hd.ev e D with⟨a',Y,_,B⟩|⟨a',Y,_⟩|⟨m,Y,_⟩|Y
   ·rw[R]at Y;cases Y;rcases B with y|y
    ·exact K.2 y.1
    ·omega
   ·simp_all
   ·rw[R]at Y;cases Y
   ·rw[R]at Y;cases Y
  ·have K:=F a i A;have L:=hr.grow;have B:=hd.grow;refine⟨by omega,fun M=>?_⟩;rcases(hd.held a).1 M with y|y
   ·exact K.2 y
   ·omega
theorem jd{U:Nat->Nat->Prop}(S X:Nat->Prop)(w:af):j9 U S X w w #[] S X:=
 ⟨⟨fun _ _ _=>rfl,ak _,fun a=>⟨.inl,fun h=>h.resolve_right fun y=>by omega⟩,fun a=>⟨.inl,fun h=>h.resolve_right fun y=>by omega⟩,fun e Y=>by simp_all,rfl,.refl _,rfl⟩,fun e Y=>by simp_all⟩
end
def ko{α:Type}(P:Program):Sem α->Option α
 |.pure a=>some a
 |.program k=>ko P (k P)
 |_=>none
theorem H4{α:Type}:∀{s:Sem α} {a:α},ko P s=some a->∀w es,s.runT P w es=(.ok a w,es)
 |.pure b,a,h,w,es=>by
  simp[ko,Option.some.injEq]at h;simp_all
 |.program k,a,h,w,es=>by
  simp[ko]at h;exact H4 h w es
 |.load _ _ _,a,h,w,es|.store _ _ _ _,a,h,w,es|.new _ _,a,h,w,es|.shape _ _,a,h,w,es|.freeze _ _ _,a,h,w,es|.frozen _ _,a,h,w,es|.getObj _ _,a,h,w,es|.setObj _ _ _,a,h,w,es|.choose _ _,a,h,w,es|.sys _ _,a,h,w,es|.mark _ _,a,h,w,es|.halt _,a,h,w,es=>by simp[ko]at h
theorem oo{α:Type}{s:Sem α}{a:α}(h:ko P s=some a)(w:af):s.run P w=.ok a w:=by
 have:=H4 h w #[];simp_all
theorem rY{α:Type}{s:Sem α}{a:α}(h:ko P s=some a)(w:af)(es:Array _):s.events P w es=es:=by
 have:=H4 h w es;simp_all
def pop(P:Program)(f:ae)(l:List ae)(s:Sem Next):Option (ae×List ae):=
 match ko P s with
 |some (.value v)=>some (f.finish v,l)
 |some .skip=>some (f.finish aJ,l)
 |some (.enter g args)=>some (Frame.enter P g args .normal,f::l)
 |some (.defer d)=>some (({f with defers:=d::f.defers}:ae).finish aJ,l)
 |_=>none
def prun(P:Program)(f:ae)(l:List _):=
 match f.todo with
 |.code .skip::k|.code (.label _)::k|.inBlock _::k|.inScope _::k=>some ({f with todo:=k},l)
 |.code (.seq a b)::k=>some ({f with todo:=.code a:: .code b::k},l)
 |.code (.cond c a b)::k=>match f.eval c with
  |.bool t=>some ({f with todo:=.code (if t then a else b)::k},l)
  |_=>none
 |.code (.block id c)::k=>some ({f with todo:=.code c:: .inBlock id::k},l)
 |.code (.loop c)::k|.inLoop c::k=>some ({f with todo:=.code c:: .inLoop c::k},l)
 |.code (.exit id)::k=>match exitTo id k with
  |some k'=>some ({f with todo:=k'},l)
  |none=>none
 |.code .ret::_|[]=>some ({f with mode:=.returning},l)
 |.code (.region _ ops false)::k=>some ({f with todo:=.inRegion ops (List.range ops.size)::k},l)
 |.inRegion _ []::k=>some ({f with todo:=k},l)
 |.inRegion ops (i::_)::_=>match ops[i]? with
  |some o=>if cB o (bD ops f.tmps)then pop P f l (aA f.eval o)else some (f.finish aJ,l)
  |none=>none
 |_=>none
def Jp(P:Program)(f:ae)(l:List ae):=
 match f.defers with
 |[]=>match l with
  |c::l'=>match f.kind with
   |.normal=>match P.funcs[f.fn]? with
    |some fn=>match ko P (results fn f.tmps)with
     |some v=>some (c.finish v,l')
     |none=>none
    |none=>none
   |.deferred=>match P.funcs[f.fn]?,c.mode with
    |some fn,.returning=>match ko P (results fn f.tmps)with
     |some v=>some (c,l')
     |none=>none
    |_,_=>none
   |_=>none
  |[]=>none
 |d::Y=>match d.target with
  |.fn fn c=>match ko P (invoke (.fn fn c) d.args)with
   |some (.enter g args)=>some (Frame.enter P g args .deferred,{f with defers:=Y}::l)
   |_=>none
  |_=>none
def oc(P:Program)(f:ae)(l:List _):=
 match f.roundOf,f.kind with
 |some _,_|_,.early=>none
 |none,_=>match f.mode with
  |.run=>prun P f l
  |.returning=>Jp P f l
  |_=>none
def gu(P:Program):Nat->ae->List ae->ae×List ae
 |0,f,l=>(f,l)
 |n+1,f,l=>match oc P f l with
  |some (f1,l1)=>gu P n f1 l1
  |none=>(f,l)
section
variable{P:Program}{main:Bool}{f f1:ae}{l l1:List ae}{w:af}
theorem aaT{s:Sem _}(hk:f.kind≠.early)(h:pop P f l s=some (f1,l1))(H:∃ops is k,f.todo=.inRegion ops is::k):
  stepG.apply P true f l none s w=.go (G f1 l1) w #[]:=by
 have⟨ops,is,k,K⟩:=H;unfold pop at h;have Y:=by omega
 split at h
 ·rename_i v e;cases h;simp[stepG.apply,oo e,rY e,G,GStep.after,aZ]
 ·rename_i e;cases h;simp[stepG.apply,oo e,rY e,G,GStep.after,aZ]
 ·rename_i g args e;cases h;simp[stepG.apply,oo e,rY e,K,G,GStep.after,aZ]
 ·rename_i d e;cases h;simp[stepG.apply,oo e,rY e,G,GStep.after,aZ]
 ·cases h
theorem Oj(hr:f.roundOf=none)(hk:f.kind≠.early)(Y:f.mode=.run)(h:prun P f l=some (f1,l1)):aj P main (G f l) w=.go (G f1 l1) w #[]:=by
 have K:aj P main (G f l) w=aH P main true f l none w:=by
  unfold aj;simp only[G,Y]
 rw[K];clear K;have⟨fn,tmps,todo,defers,mode,kind,ro⟩:=f;simp only at hr hk Y;subst hr Y;unfold prun at h;unfold aH;split at h<;>rename_i H<;>first|(cases h;done)|(simp only at H;subst H;dsimp only)
 ·cases h;rfl
 ·cases h;rfl
 ·cases h;rfl
 ·cases h;rfl
 ·cases h;rfl
 ·split at h
  ·rename_i t e;cases h;simp only[e];rfl
  ·cases h
 ·cases h;rfl
 ·cases h;rfl
 ·cases h;rfl
 ·split at h
  ·rename_i k' e;cases h;simp only[e];rfl
  ·cases h
 ·cases h;rfl
 ·cases h;rfl
 ·cases h;rfl
 ·cases h;rfl
 ·split at h
  ·rename_i o e;split at h
   ·rename_i hw;simp only[e,dj,hw,et,if_true];unfold stepG.oper;simp only[Frame.oper?,e];exact aaT (f:=⟨fn,tmps,_,defers,.run,kind,none⟩) hk h ⟨_,_,_,rfl⟩
   ·rename_i hw;cases h;simp only[e,dj,hw,et];rfl
  ·cases h
theorem ZA(R:f.mode=.returning)(h:Jp P f l=some (f1,l1)):aj P main (G f l) w=.go (G f1 l1) w #[]:=by
 have D:aj P main (G f l) w=bc P main f l none w:=by
  unfold aj;simp only[G,R]
 rw[D];unfold Jp at h;unfold bc;split at h
 ·rename_i hd;simp only[hd,R];split at h
  ·rename_i c l';split at h
   ·rename_i Y;split at h
    ·rename_i fn H;split at h
     ·rename_i v e;cases h;simp[H,oo e,rY e,aM,Y,G,GStep.after,aZ]
     ·cases h
    ·cases h
   ·rename_i Y;split at h
    ·rename_i fn H K;split at h
     ·rename_i v e;cases h;simp[H,oo e,rY e,aM,Y,K,G,GStep.after,aZ]
     ·cases h
    ·cases h
   ·cases h
  ·cases h
 ·rename_i d U hd;split at h
  ·rename_i fn c I;split at h
   ·rename_i g args e;cases h;have⟨B,A⟩:=d;subst I;simp[hd,dp,oo e,rY e,G,GStep.after,aZ]
   ·cases h
  ·cases h
theorem sD(h:oc P f l=some (f1,l1)):aj P main (G f l) w=.go (G f1 l1) w #[]:=by
 unfold oc at h;split at h
 ·cases h
 ·cases h
 ·rename_i hr hk;split at h
  ·rename_i Y;exact Oj hr hk Y h
  ·rename_i Y;exact ZA Y h
  ·cases h
theorem Tz.pure{U:Nat->Nat->Prop}{D:(Nat->Prop)->(Nat->Prop)->ar->af->Prop}:∀n {f:ae} {l:List _} {w:af},(∀w2,gR U S w w2->Tz P main U D S X (G (gu P n f l).1 (gu P n f l).2) w2)->Tz P main U D S X (G f l) w
 |0,f,l,w,h=>h w (.refl _ _ _)
 |n+1,f,l,w,h=>by
  unfold gu at h;split at h
  ·rename_i f1 l1 e;refine Tz.one rfl fun w2 hr=>⟨_,w2,#[],S,X,sD e,jd S X w2,Tz.pure n fun w3 Y=>h w3 (hr.trans Y)⟩
  ·exact h w (.refl _ _ _)
end
def opAt(f:ae):=match f.roundOf,f.mode,f.kind with
 |some _,_,_|_,.returning,_|_,.panicking _,_|_,_,.early=>none
 |none,.run,_=>match f.todo with
  |.inRegion ops (i::_)::_=>match ops[i]? with
   |some o=>if cB o (bD ops f.tmps)then some o else none
   |none=>none
  |_=>none
def ahead(f:ae):Option (ao×Array ah):=match opAt f with
 |some o=>match o.op with
  |.call c=>match c.callee with
   |.value (.func g)=>some (g,c.args.map f.eval)
   |_=>none
  |_=>none
 |none=>none
def pN(f:ae):Option (ai×ah):=match opAt f with
 |some o=>match o.op with
  |.load t x=>some (t,f.eval x)
  |_=>none
 |none=>none
def R0(f:ae):Option (ai×ah×Bool):=match opAt f with
 |some o=>match o.op with
  |.recv t x b=>some (t,f.eval x,b)
  |_=>none
 |none=>none
section
variable{P:Program}{main:Bool}{f:ae}{cs:List ae}{w w':af}{g:ao}{fn:Func}{vs:Array ah}
theorem sE{o:Oper}(h:opAt f=some o):∃ops i rest k,f=f.at ⟨f.tmps,f.defers⟩ (.inRegion ops (i::rest)::k)/\ops[i]?=some o/\cB o (bD ops f.tmps)=true/\f.kind≠.early:=by
 have⟨fn,tmps,todo,defers,mode,kind,ro⟩:=f;unfold opAt at h;split at h<;>first|(cases h)|skip
 rename_i hr Y hk;simp only at hr Y hk h;subst hr Y;split at h<;>first|(cases h)|skip
 rename_i ops i rest k;split at h
 ·rename_i o' K;split at h
  ·rename_i hw;cases h;exact⟨ops,i,rest,k,rfl,K,hw,fun e=>hk e⟩
  ·cases h
 ·cases h
theorem oM{o:Oper}(h:opAt f=some o){v:ah}(hr:(aA f.eval o).run P w=.ok (.value v) w'):aj P main (G f cs) w=.go (G (f.finish v) cs) w' (seen P f.fn ((aA f.eval o).events P w #[])):=by
 have⟨ops,i,rest,k,e,H,hw,hk⟩:=sE h;have K:f.eval=Act.eval ⟨f.tmps,f.defers⟩:=by rw[e];exact Frame.eval_at' _ _ _
 have:=stepG_value (main:=main) (a:=⟨f.tmps,f.defers⟩) (k:=k) (cs:=cs) (rest:=rest) H hw hk (by exact hr);rw[<-e]at this;rw[this];have Y:f.finish v=f.at (bH ⟨f.tmps,f.defers⟩ o.dst v) (.inRegion ops rest::k):=by
  conv=>lhs;rw[e]
  rw[cn,H];rfl
 rw[<-Y];unfold listed;rw[<-K]
theorem tS(h:ahead f=some (g,vs)):∃o aqZ Y,opAt f=some o/\o.op=.call {callee:=.value (.func g),args:=aqZ,argTypes:=Y}/\aqZ.map f.eval=vs:=by
 unfold ahead at h;split at h
 ·rename_i o R;split at h
  ·rename_i c H;split at h
   ·rename_i K D;cases h;have⟨callee,args,Y⟩:=c;simp_all
   ·cases h
  ·cases h
 ·cases h
theorem acG(h:ahead f=some (g,vs))(L:P.funcs[g]?=some fn)(H:(fn.name== "runtime.NumGoroutine")=false)(F:fn.body.isNone=true)(M:cZ fn=none){e:Array _->Sem _}(J:Extern.find fn=some e)
  {v:ah}{Y:Array _}(R:(e vs).run P w=.ok v w')(C:(e vs).events P w #[⟨.mark (.extern g),false,true⟩]=#[⟨.mark (.extern g),false,true⟩]++Y)(N:∀x∈Y,x.sync=true/\∀g,x.loc≠.mark (.extern g)):
  aj P main (G f cs) w=.go (G (f.finish v) cs) w' Y:=by
 obtain⟨o,aqZ,A,U,gh,rfl⟩:=tS h;have⟨ops,i,rest,k,D,I,hw,hk⟩:=sE U;have:=stepG_entry (main:=main) (a:=⟨f.tmps,f.defers⟩) (kk:=k) (cs:=cs) (rest:=rest) I hw hk gh L H F M J R C N;rw[<-D]at this;rw[this];have K:f.finish v=f.at (bH ⟨f.tmps,f.defers⟩ o.dst v) (.inRegion ops rest::k):=by
  conv=>lhs;rw[D]
  rw[cn,I];rfl
 rw[<-K]
structure jk(P:Program)(g:ao)(e:Array ah->Sem ah):Prop where
 ex:∃fn,P.funcs[g]?=some fn/\(fn.name== "runtime.NumGoroutine")=false/\fn.body.isNone=true/\cZ fn=none/\Extern.find fn=some e
theorem sx{e:Array _->Sem _}(X:jk P g e)(h:ahead f=some (g,vs)){v:ah}{Y:Array _}(H:(e vs).run P w=.ok v w')(R:(e vs).events P w #[⟨.mark (.extern g),false,true⟩]=#[⟨.mark (.extern g),false,true⟩]++Y)(C:∀x∈Y,x.sync=true/\∀g,x.loc≠.mark (.extern g)):
  aj P main (G f cs) w=.go (G (f.finish v) cs) w' Y:=by
 have⟨fn,K,D,I,A,U⟩:=X.ex;exact acG h K D I A U H R C
theorem rN{m:Mark}(Y:∀g,m≠.extern g)(X:jk P g (fun _=>do mark m;pure cX))(h:ahead f=some (g,vs)):aj P main (G f cs) w=.go (G (f.finish (.tuple #[])) cs) w #[⟨.mark m,false,true⟩]:=
 sx X h (by simp[cX]) (by simp) (by simp_all)
theorem xI{mk:Addr->Mark}(Y:∀ad g,mk ad≠.extern g)(X:jk P g (Extern.Race.marked mk))(h:ahead f=some (g,#[.pointer (some ad)])):aj P main (G f cs) w=.go (G (f.finish (.tuple #[])) cs) w #[⟨.mark (mk ad),false,true⟩]:=
 sx X h (by simp[Extern.Race.marked,dR,cX]) (by simp[Extern.Race.marked,dR]) (by simp_all)
theorem zo{k:aI}(X:jk P g (dL (.int k))){v n:Int}(h:ahead f=some (g,#[.pointer (some ad),.int k v,.int k n]))(Y:w.cell? ad=some (.int k v))(H:w.frozen? ad=false):
  aj P main (G f cs) w=.go (G (f.finish (.bool true)) cs) (w.setCell ad (.int k n)) #[⟨.cell ad,false,true⟩,⟨.cell ad,true,true⟩]:=
 sx X h (by exact run_cas_hit_entry Y H) (by rw[casT_eq,events_cas_hit_entry Y H];rfl) (sync_rw ad)
theorem zl{k:aI}(X:jk P g (dL (.int k))){v old n:Int}(h:ahead f=some (g,#[.pointer (some ad),.int k old,.int k n]))(H:w.cell? ad=some (.int k v))(R:w.frozen? ad=false)(Y:¬v=old):
  aj P main (G f cs) w=.go (G (f.finish (.bool false)) cs) w #[⟨.cell ad,false,true⟩]:=
 sx X h (by exact run_cas_miss_entry H R Y) (by rw[casT_eq,events_cas_miss_entry H R Y];rfl) (sync_r ad)
theorem Cu{k:aI}(X:jk P g (Extern.Atomic.update (de .add) k true)){v d:Int}(h:ahead f=some (g,#[.pointer (some ad),.int k d]))(Y:w.cell? ad=some (.int k v))(H:w.frozen? ad=false):
  aj P main (G f cs) w=.go (G (f.finish (.int k (k.wrap (v+d)))) cs) (w.setCell ad (.int k (k.wrap (v+d)))) #[⟨.cell ad,false,true⟩,⟨.cell ad,true,true⟩]:=
 sx X h (run_add_entry Y H) (by rw[events_add_entry Y H];rfl) (sync_rw ad)
theorem Mt(X:jk P g cm){n:Int}(h:ahead f=some (g,vs))(R:vs[0]?=some (.pointer (some ad)))(H:w.cell? ad=some (.int .u32 n))(Y:n≠0)(C:w.frozen? ad=false):
  aj P main (G f cs) w=.go (G (f.finish (.tuple #[])) cs) (w.setCell ad (.int .u32 (n-1))) (bG ad):=
 sx X h (by simp[cm,ck,R,H,Y,C,dU,cJ P w ad (.int .u32 (n-1)) _ rfl])
  (by simp[cm,ck,R,H,Y,C,bG,ez P w _ ad (.int .u32 (n-1)) .atomic rfl,cJ P w ad (.int .u32 _) .atomic rfl]) (eC ad)
theorem Fw(X:jk P g cY){n:Int}(h:ahead f=some (g,vs))(H:vs[0]?=some (.pointer (some ad)))(Y:w.cell? ad=some (.int .u32 n))(R:w.frozen? ad=false):
  aj P main (G f cs) w=.go (G (f.finish (.tuple #[])) cs) (w.setCell ad (.int .u32 (IntKind.u32.wrap (n+1)))) (bG ad):=
 sx X h (by simp[cY,ck,H,Y,R,dU,de,cJ P w ad (.int .u32 _) _ rfl])
  (by simp[cY,ck,H,Y,R,bG,de,ez P w _ ad (.int .u32 _) .atomic rfl,cJ P w ad (.int .u32 _) .atomic rfl]) (eC ad)
theorem BQ{t:ai}(h:pN f=some (t,x)):∃o y,opAt f=some o/\o.op=.load t y/\f.eval y=x:=by
 unfold pN at h;split at h
 ·split at h
  ·simp_all
  ·cases h
 ·cases h
theorem Qb{t:ai}{v:ah}{o:Oper}{y:aL}(gh:o.op=.load t y)(R:f.eval y=.pointer (some ad))(H:ko P (isAgg t)=some false)(Y:w.cell? ad=some v):
  (aA f.eval o).run P w=.ok (.value v) w/\(aA f.eval o).events P w #[]=#[⟨.cell ad,false,false⟩]:=by
 constructor
 ·unfold aA;simp[gh,R];simp[go_sem,oo H,Y]
 ·unfold aA;simp[gh,R];simp[go_sem,oo H,Y]
theorem BX{t:ai}{v:ah}(h:pN f=some (t,.pointer (some ad)))(C:ko P (isAgg t)=some false)(Y:w.cell? ad=some v)(R:(P.funcs[f.fn]?).any (·.norace)=true):
  aj P main (G f cs) w=.go (G (f.finish v) cs) w #[]:=by
 have⟨o,y,H,gh,D⟩:=BQ h;have⟨hr,K⟩:=Qb gh D C Y;rw[oM H hr,K,seen_def,R];simp[seenStep]
theorem qU{t:ai}{v:ah}(h:pN f=some (t,.pointer (some ad)))(C:ko P (isAgg t)=some false)(Y:w.cell? ad=some v)(R:(P.funcs[f.fn]?).any (·.norace)=false):
  aj P main (G f cs) w=.go (G (f.finish v) cs) w #[⟨.cell ad,false,false⟩]:=by
 have⟨o,y,H,gh,D⟩:=BQ h;have⟨hr,K⟩:=Qb gh D C Y;rw[oM H hr,K,seen_def,R];simp[seenStep]
theorem conv{o:Oper}(R:opAt f=some o){v:ah}{es:Array _}(h:∀ops i rest k,ops[i]?=some o->cB o (bD ops (Act.tmps ⟨f.tmps,f.defers⟩))=true->f.kind≠.early->
  aj P main (G (f.at ⟨f.tmps,f.defers⟩ (.inRegion ops (i::rest)::k)) cs) w=.go (G (f.at (bH ⟨f.tmps,f.defers⟩ o.dst v) (.inRegion ops rest::k)) cs) w' es):aj P main (G f cs) w=.go (G (f.finish v) cs) w' es:=by
 have⟨ops,i,rest,k,K,H,hw,hk⟩:=sE R;have:=h ops i rest k H hw hk;rw[<-K]at this;rw[this];have Y:f.finish v=f.at (bH ⟨f.tmps,f.defers⟩ o.dst v) (.inRegion ops rest::k):=by
  conv=>lhs;rw[K]
  rw[cn,H];rfl
 rw[<-Y]
theorem evalEq(f:ae)(Y:f.mode=f.mode):f.eval=Act.eval ⟨f.tmps,f.defers⟩:=by
 funext x;cases x<;>rfl
theorem O_(h:ahead f=some (g,vs))(X:jk P g Extern.OsHooks.nano)(C:(P.funcs[g]?).any (·.norace)=true):aj P main (G f cs) w=.go (G (f.finish (.int .i64 ((w.os.mono+w.tick:Nat)))) cs) w.later #[]:=by
 obtain⟨o,aqZ,H,B,gh,rfl⟩:=tS h;have⟨fn,K,D,R,I,A⟩:=X.ex;have Y:=by simpa[K]using C
 exact conv B fun ops i rest k U hw hk=>stepG_nanotime U hw hk gh K D R I A Y
theorem XD{k:aI}{n:Int}(h:ahead f=some (g,#[.int k n]))(X:jk P g dS)(C:4<=n):aj P main (G f cs) w=.go (G (f.finish (.bool false)) cs) w #[]:=by
 have⟨o,aqZ,H,B,gh,K⟩:=tS h;have⟨fn,D,R,I,Y,A⟩:=X.ex;exact conv B fun ops i rest k U hw hk=>stepG_canSpin_no U hw hk gh D R I Y A K C
theorem Xe{k:aI}{n:Int}(h:ahead f=some (g,#[.int k n]))(X:jk P g dS)(C:n<4):aj P main (G f cs) w=.go (G (f.finish (.bool w.spins)) cs) w.asked #[]:=by
 have⟨o,aqZ,H,B,gh,K⟩:=tS h;have⟨fn,D,R,I,Y,A⟩:=X.ex;exact conv B fun ops i rest k U hw hk=>stepG_canSpin_ask U hw hk gh D R I Y A K C
theorem ML(X:jk P g cm)(h:ahead f=some (g,vs))(F:vs[0]?=some (.pointer (some ad)))(C:w.cell? ad=some (.int .u32 0)):aj P main (G f cs) w=.go {G f cs with status:=.blocked} w #[]:=by
 obtain⟨o,aqZ,Y,B,gh,rfl⟩:=tS h;have⟨fn,H,D,R,I,A⟩:=X.ex;have⟨ops,i,rest,k,K,U,hw,hk⟩:=sE B;have:=stepG_semacquire_wait (main:=main) (b:=f) (a:=⟨f.tmps,f.defers⟩) (kk:=k) (cs:=cs) (rest:=rest) U hw gh H D R I A (by exact F) C;rw[<-K]at this;omega
theorem GB{e:Array _->Sem _}(X:jk P g e)(h:ahead f=some (g,vs)):cH P (G f cs)=true:=by
 obtain⟨o,aqZ,H,U,gh,rfl⟩:=tS h;have⟨fn,D,C,K,F,J⟩:=X.ex;have⟨ops,i,rest,k,Y,I,hw,hk⟩:=sE U;have A:f.mode=.run:=by rw[Y];rfl
 have B:f.todo=.inRegion ops (i::rest)::k:=by rw[Y];rfl
 unfold cH;simp[G,A,B,I,dj,gh];simp[Frame.eval,D];cases R:fn.body with
 |none=>rfl
 |some c=>rw[R]at K;cases K
theorem Pa{v:ah}(X:jk P g (fun _=>pure v))(h:ahead f=some (g,vs)):aj P main (G f cs) w=.go (G (f.finish v) cs) w #[]:=sx X h (by simp) (by simp) (by simp)
end
def ql(f:ae):Option (ai×ai×ah):=match opAt f with
 |some o=>match o.op with
  |.convert s d x=>some (s,d,f.eval x)
  |_=>none
 |none=>none
section
variable{P:Program}{main:Bool}{f:ae}{cs:List ae}{w:af}
theorem Yp{s d:ai}(h:ql f=some (s,d,x)):∃o y,opAt f=some o/\o.op=.convert s d y/\f.eval y=x:=by
 unfold ql at h;split at h
 ·split at h
  ·simp_all
  ·cases h
 ·cases h
theorem tV{s d t:ai}{a:Addr}{v:ah}(h:ql f=some (s,d,.pointer (some a)))(C:P.underlying s=some (.pointer t))(hd:P.underlying d=some .unsafePointer)(Y:(P.info? t).map (fun i=>decide (i.size=0))=some false)(R:w.cell? a=some v):
  aj P main (G f cs) w=.go (G (f.finish (.pointer (some a))) cs) w #[]:=by
 have⟨o,y,D,gh,A⟩:=Yp h;have hr:=run_convert_to_unsafe C hd Y R;have I:=fun es=>events_convert_to_unsafe C hd Y R es;have H:(aA f.eval o).run P w=.ok (.value (.pointer (some a))) w:=by
  unfold aA;simp_all
 have K:(aA f.eval o).events P w #[]=#[]:=by
  unfold aA;simp_all
 rw[oM D H,K,aZ]
end
def pn(P:Program)(f:ae):Option Next:=match opAt f with
 |some o=>ko P (aA f.eval o)
 |none=>none
section
variable{P:Program}{main:Bool}{f:ae}{l:List ae}{w:af}
theorem Qc{x:Next}(h:pn P f=some x):∃o,opAt f=some o/\ko P (aA f.eval o)=some x:=by
 unfold pn at h;split at h
 ·simp_all
 ·cases h
theorem Pb{cases:Array _}{b:Bool}{sh:CommShape}(h:pn P f=some (.comm cases b sh)):aj P main (G f l) w=.comm (G f l) cases b sh w #[]:=by
 have⟨o,H,Y⟩:=Qc h;have⟨ops,i,rest,k,e,K,hw,hk⟩:=sE H;rw[evalEq f rfl]at Y;have:=stepG_comm (main:=main) (a:=⟨f.tmps,f.defers⟩) (k:=k) (cs:=l) (rest:=rest) K hw hk (oo Y w);rw[<-e]at this;rw[this];unfold listed;rw[rY Y,aZ]
theorem ZC{g:ao}{c H:Array _}(h:pn P f=some (.spawn {target:=.fn (.func g) c,args:=H})):aj P main (G f l) w=.spawn (G (f.finish aJ) l) (G {(default:ae)with fn:=P.funcs.size,defers:=[{target:=.fn (.func g) c,args:=H}],mode:=.panicking [goexitEntry]} []) w #[]:=by
 have⟨o,R,K⟩:=Qc h;have⟨ops,i,rest,k,e,D,hw,hk⟩:=sE R;rw[evalEq f rfl]at K;have Y:f.finish aJ=f.at (bH ⟨f.tmps,f.defers⟩ o.dst aJ) (.inRegion ops rest::k):=by
  conv=>lhs;rw[e]
  rw[cn,D];rfl
 have:=stepG_spawn (main:=main) (a:=⟨f.tmps,f.defers⟩) (k:=k) (cs:=l) (rest:=rest) D hw hk (oo K w) rfl;rw[<-e]at this;rw[this,Y];unfold listed;rw[rY K,aZ];rfl
end
end Ph
namespace Ph
open Conc
inductive tv where
 |at
 |ro
 |pr
 |own (g:Nat)
 |no
def Started(b j g:Nat):=g=0\/(b<=g/\g<b+j)
def DJ(b j:Nat)(mu:Addr)(t:aD)(i:Nat):Option Nat->Prop
 |some g=>ax t g i
 |none=>(∀g,Started b j g->ax t g i)\/∃p,t.act? p=some (.mark (.releaseMerge mu))/\t.heard p/\bW t i p
structure PT(b j:Nat)(mu wg:Addr)(jb:Loc->Prop)(cls:Loc->tv)(t:aD)(tok:Option Nat)(rel:Nat->Option Nat):Prop where
 clean:∀said,¬Race said t
 tw:∀i x,aB t i=some x->cls x.loc=.at->x.kind=.atomic\/(x.kind=.said/\ax t 0 i)\/∀g,Started b j g->ax t g i
 ro:∀i x,aB t i=some x->cls x.loc=.ro->x.write=true->∀g,Started b j g->ax t g i
 own:∀i x g,aB t i=some x->cls x.loc=.own g->ax t g i
 pr:∀i x,aB t i=some x->cls x.loc=.pr->DJ b j mu t i tok
 jn:∀i x,aB t i=some x->x.loc.isMemory=true->ax t 0 i\/(jb x.loc/\x.kind=.atomic/\¬t.counts i)\/∃k z,t[i]?=some z/\z.g=k/\b<=k/\k<b+j/\∀p,rel k=some p->bW t i p
 th:∀k p,rel k=some p->t.act? p=some (.mark (.releaseMerge wg))/\t.heard p
 norel:cz mu t/\cz wg t
 gs:True
 mem:∀l,l.isMemory=false->cls l=.no
 sh:∀l,cls l=.at->jb l
 qD:0<b
def OkOp(mu wg:Addr)(cls:Loc->tv)(tok:Option Nat)(g:Nat)(op:aP):=
 op.g=g/\op.act≠.mark (.release mu)/\op.act≠.mark (.release wg)/\∀x,op.act.touch?=some x->
  x.loc.isMemory=false\/(cls x.loc=.at/\x.kind=.atomic)\/(cls x.loc=.at/\x.kind=.said/\g=0)\/(cls x.loc=.ro/\x.write=false)\/(cls x.loc=.pr/\tok=some g)\/cls x.loc=.own g
section
variable{b j:Nat}{mu wg:Addr}{jb:Loc->Prop}{cls:Loc->tv}{t u:aD}{tok:Option Nat}{rel:Nat->Option Nat}{g:Nat}
theorem DJ.app(h:DJ b j mu t i tok)(u:aD):DJ b j mu (t++u) i tok:=by
 cases tok with
 |some g=>exact Knows.app u h
 |none=>
  rcases h with h|⟨p,Y,H,D⟩
  ·exact .inl fun g R=>(h g R).app u
  ·have K:=bP Y;exact .inr ⟨p,by rw[bO K];exact Y,(cG K).2 H,D.app u⟩
theorem qV{x:bu}(h:aB (t++u) i=some x):(i<t.size/\aB t i=some x)\/(t.size<=i/\∃op,(t++u)[i]?=some op/\op∈u/\op.act.touch?=some x):=by
 have⟨op,H,R⟩:=touch_of h;rcases getElem?_append_cases H with⟨K,Y⟩|⟨K,D⟩
 ·exact .inl ⟨K,by rw[touchAt_of Y];exact R⟩
 ·simp_all
theorem Started.lt(h:Started b j g)(Y:0<b):g<b+j:=by
 rcases h with rfl|h
 ·omega
 ·omega
theorem Hg(h:∀k p,rel k=some p->t.act? p=some (.mark (.releaseMerge wg))/\t.heard p)(u:aD):∀k p,rel k=some p->(t++u).act? p=some (.mark (.releaseMerge wg))/\(t++u).heard p:=by
 intro k p hk;have⟨Y,H⟩:=h k p hk;have K:=bP Y;exact⟨by rw[bO K];exact Y,(cG K).2 H⟩
theorem Ix{x:bu}(R:i<t.size)(h:ax t 0 i\/(jb x.loc/\x.kind=.atomic/\¬t.counts i)\/∃k z,t[i]?=some z/\z.g=k/\b<=k/\k<b+j/\∀p,rel k=some p->bW t i p)(u:aD):
  ax (t++u) 0 i\/(jb x.loc/\x.kind=.atomic/\¬(t++u).counts i)\/∃k z,(t++u)[i]?=some z/\z.g=k/\b<=k/\k<b+j/\∀p,rel k=some p->bW (t++u) i p:=by
 rcases h with h|⟨Y,K,H⟩|⟨k,z,Y,K,H,D,I⟩
 ·exact .inl (h.app u)
 ·exact .inr (.inl ⟨Y,K,fun A=>H ((counts_old R).1 A)⟩)
 ·exact .inr (.inr ⟨k,z,by rw[dq R];exact Y,K,H,D,fun p U=>(I p U).app u⟩)
theorem PT.app(h:PT b j mu wg jb cls t tok rel)(N:Started b j g)(C:∀op∈u,OkOp mu wg cls tok g op)
  (hr:g≠0->∀p,rel g=some p->∀i x,t.size<=i->aB (t++u) i=some x->x.loc.isMemory=true->jb x.loc/\x.kind=.atomic/\¬(t++u).counts i):PT b j mu wg jb cls (t++u) tok rel:=by
 have new:∀{i:Nat} {x:bu} {op:aP},(t++u)[i]?=some op->op∈u->op.act.touch?=some x->ax (t++u) g i:=by
  intro i x op B R I;have:=knows_own B
  rwa [(C op R).1]at this
 refine⟨fun said=>noRace_append (h.clean said) (fun op gh=>(C op gh).1) fun i a M op gh c K O=>?_,fun i x F K=>?_,fun i x F K hw=>?_,fun i x k F K=>?_,fun i x F K=>?_,fun i x F A=>?_,Hg h.th u,⟨h.norel.1.app fun op gh=>(C op gh).2.1,h.norel.2.app fun op gh=>(C op gh).2.2.1⟩,
  trivial,h.mem,h.sh,h.qD⟩
 ·have⟨L,Q,Z,S⟩:=O;rcases(C op gh).2.2.2 c K with A|⟨Y,hk⟩|⟨Y,hk,J⟩|⟨Y,hk⟩|⟨Y,hk⟩|Y
  ·rw[L,A]at Q;cases Q
  ·rcases h.tw i a M (by rw[L];exact Y)with H|⟨H,_⟩|H
   ·simp_all
   ·simp_all
   ·exact H g N
  ·rcases h.tw i a M (by rw[L];exact Y)with H|⟨_,H⟩|H
   ·rw[H,hk]at S;rcases S with x|x|⟨_,x,_⟩<;>cases x
   ·rw[J];exact H
   ·exact H g N
  ·have hw:a.write=true:=by simp_all
   exact h.ro i a M (by rw[L];exact Y) hw g N
  ·have:=h.pr i a M (by rw[L];exact Y);rw[hk]at this;exact this
  ·exact h.own i a g M (by rw[L];exact Y)
 ·rcases qV F with⟨U,D⟩|⟨U,op,B,R,I⟩
  ·exact(h.tw i x D K).imp id (cA (fun y=>⟨y.1,y.2.app u⟩) fun y g P=>(y g P).app u)
  ·rcases(C op R).2.2.2 x I with A|⟨Y,hk⟩|⟨Y,hk,J⟩|⟨Y,hk⟩|⟨Y,hk⟩|Y
   ·rw[h.mem _ A]at K;cases K
   ·exact .inl hk
   ·simp_all
   ·rw[K]at Y;cases Y
   ·rw[K]at Y;cases Y
   ·rw[K]at Y;cases Y
 ·rcases qV F with⟨U,D⟩|⟨U,op,B,R,I⟩
  ·exact fun g P=>(h.ro i x D K hw g P).app u
  ·rcases(C op R).2.2.2 x I with A|⟨Y,hk⟩|⟨Y,hk,J⟩|⟨Y,hk⟩|⟨Y,hk⟩|Y
   ·rw[h.mem _ A]at K;cases K
   ·rw[K]at Y;cases Y
   ·rw[K]at Y;cases Y
   ·rw[hk]at hw;cases hw
   ·rw[K]at Y;cases Y
   ·rw[K]at Y;cases Y
 ·rcases qV F with⟨U,D⟩|⟨U,op,B,R,I⟩
  ·exact(h.own i x k D K).app u
  ·rcases(C op R).2.2.2 x I with A|⟨Y,hk⟩|⟨Y,hk,J⟩|⟨Y,hk⟩|⟨Y,hk⟩|Y
   ·rw[h.mem _ A]at K;cases K
   ·rw[K]at Y;cases Y
   ·rw[K]at Y;cases Y
   ·rw[K]at Y;cases Y
   ·rw[K]at Y;cases Y
   ·rw[K]at Y;cases Y;exact new B R I
 ·rcases qV F with⟨U,D⟩|⟨U,op,B,R,I⟩
  ·exact(h.pr i x D K).app u
  ·rcases(C op R).2.2.2 x I with A|⟨Y,hk⟩|⟨Y,hk,J⟩|⟨Y,hk⟩|⟨Y,hk⟩|Y
   ·rw[h.mem _ A]at K;cases K
   ·rw[K]at Y;cases Y
   ·rw[K]at Y;cases Y
   ·rw[K]at Y;cases Y
   ·rw[hk];exact new B R I
   ·rw[K]at Y;cases Y
 ·rcases qV F with⟨U,D⟩|⟨U,op,B,R,I⟩
  ·exact Ix U (h.jn i x D A) u
  ·rcases N with J|⟨V,X⟩
   ·have:=new B R I;rw[J]at this;exact .inl this
   ·cases hrel:rel g with
    |some p=>exact .inr (.inl (hr (by have:=h.qD;omega) p hrel i x U F A))
    |none=>exact .inr (.inr ⟨g,op,B,(C op R).1,V,X,fun p T=>by rw[hrel]at T;cases T⟩)
theorem M7(h:¬Race said t)(C:∀op∈u,op.act.touch?=none):¬Race said (t++u):=by
 rintro⟨i,k,K,⟨x,y,Y,H,R⟩,n1,n2⟩;have old:∀{i:Nat} {x:bu},((t++u).act? i).bind (·.touch?)=some x->i<t.size:=by
  intro i x Y;rcases qV (Y)with⟨D,_⟩|⟨_,op,_,I,A⟩
  ·omega
  ·simp_all
 have D:=old Y;have hk:=old H;rw[bO D]at Y;rw[bO hk]at H;exact h ⟨i,k,K,⟨x,y,Y,H,R⟩,fun e=>n1 (hb_app u e),fun e=>n2 (hb_app u e)⟩
theorem PT.still(h:PT b j mu wg jb cls t tok rel)(R:∀op∈u,op.act.touch?=none/\op.act≠.mark (.release mu)/\op.act≠.mark (.release wg)/\op.g<b+j):PT b j mu wg jb cls (t++u) tok rel:=by
 have old:∀{i:Nat} {x:bu},aB (t++u) i=some x->i<t.size/\aB t i=some x:=by
  intro i x Y;rcases qV Y with U|⟨_,op,_,I,A⟩
  ·omega
  ·simp_all
 refine⟨fun said=>M7 (h.clean _) fun op gh=>(R op gh).1,fun i x Y K=>?_,fun i x Y K hw g H=>(h.ro i x (old Y).2 K hw g H).app u,fun i x k Y K=>(h.own i x k (old Y).2 K).app u,fun i x Y K=>(h.pr i x (old Y).2 K).app u,fun i x Y D=>Ix (old Y).1 (h.jn i x (old Y).2 D) u,Hg h.th u,⟨h.norel.1.app fun op gh=>(R op gh).2.1,h.norel.2.app fun op gh=>(R op gh).2.2.1⟩,
  trivial,h.mem,h.sh,h.qD⟩
 exact(h.tw i x (old Y).2 K).imp id (cA (fun y=>⟨y.1,y.2.app u⟩) fun y g H=>(y g H).app u)
theorem PT.fresh(h:PT b j mu wg jb cls t tok rel){Y:Loc->tv}(H:∀i x,aB t i=some x->Y x.loc=cls x.loc)(C:∀l,l.isMemory=false->Y l=.no)(R:∀l,Y l=.at->jb l):PT b j mu wg jb Y t tok rel:=
 ⟨h.clean,fun i x K e=>h.tw i x K (by rw[<-H i x K];exact e),fun i x K e=>h.ro i x K (by rw[<-H i x K];exact e),fun i x g K e=>h.own i x g K (by rw[<-H i x K];exact e),fun i x K e=>h.pr i x K (by rw[<-H i x K];exact e),h.jn,h.th,h.norel,h.gs,C,R,h.qD⟩
theorem g?_of{t:aD}{op:aP}(h:t[i]?=some op):t.g? i=some op.g:=by simp[Trace.g?,h]
theorem last_at(t:aD)(y:aP):(t++#[y])[t.size]?=some y:=by simp
theorem xK{y:aP}(hd:Deaf t y.g=0):(t++#[y]).heard t.size:=by
 refine⟨y.g,g?_of (last_at t y),?_⟩;rw[deaf_old (ak _)];exact hd
theorem mn{y:aP}{Q:aP->Prop}(h:Q y):∀op∈(#[y]),Q op:=by simp_all
theorem PT.lock(h:PT b j mu wg jb cls t none rel)(H:Started b j g){fn:ao}(hd:Deaf t g=0):PT b j mu wg jb cls (t++#[{g,fn,pos,act:=.mark (.acquire mu)}]) (some g) rel:=by
 have h':=h.still (u:=#[{g,fn,pos,act:=.mark (.acquire mu)}]) (mn ⟨rfl,by simp,by simp,H.lt h.qD⟩);refine⟨h'.clean,h'.tw,h'.ro,h'.own,fun i x C I=>?_,h'.jn,h'.th,h'.norel,h'.gs,h'.mem,h'.sh,h'.qD⟩;rcases h'.pr i x C I with hk|⟨p,Y,D,R⟩
 ·exact hk g H
 ·have B:p<t.size:=by
   rcases db p _ with U|A
   ·omega
   ·have e:p=t.size:=by have:=bP Y;simp at this;omega
    rw[e,bB (last_at t _)]at Y;cases Y
  have K:=last_at t {g,fn,pos,act:=.mark (.acquire mu)};refine⟨t.size,_,K,rfl,.inr (R.hb (.single (.inr ⟨.marked B (.inr Y) (by rw[bB K]) (fun k _ _=>h'.norel.1 k),D,xK hd⟩)))⟩
theorem PT.unlock(h:PT b j mu wg jb cls t (some g) rel)(C:Started b j g){fn:ao}(hd:Deaf t g=0):PT b j mu wg jb cls (t++#[{g,fn,pos,act:=.mark (.releaseMerge mu)}]) none rel:=by
 have h':=h.still (u:=#[{g,fn,pos,act:=.mark (.releaseMerge mu)}]) (mn ⟨rfl,by simp,by simp,C.lt h.qD⟩);refine⟨h'.clean,h'.tw,h'.ro,h'.own,fun i x I R=>?_,h'.jn,h'.th,h'.norel,h'.gs,h'.mem,h'.sh,h'.qD⟩;have H:=last_at t {g,fn,pos,act:=.mark (.releaseMerge mu)};refine .inr ⟨t.size,by rw[bB H],xK hd,?_⟩;rcases qV I with⟨A,Y⟩|⟨_,op,_,K,D⟩
 ·exact .inr ((h.pr i x Y R).hb_new (ak _) H rfl)
 ·simp at K;subst K;cases D
theorem PT.release(h:PT b j mu wg jb cls t tok rel){k:Nat}(hk:b<=k/\k<b+j){fn:ao}(hd:Deaf t k=0){Y:Nat->Option Nat}(C:Y k=some t.size)(J:∀i,i≠k->Y i=rel i):
  PT b j mu wg jb cls (t++#[{g:=k,fn,pos,act:=.mark (.releaseMerge wg)}]) tok Y:=by
 have h':=h.still (u:=#[{g:=k,fn,pos,act:=.mark (.releaseMerge wg)}]) (mn ⟨rfl,by simp,by simp,hk.2⟩);have I:=last_at t {g:=k,fn,pos,act:=.mark (.releaseMerge wg)};refine⟨h'.clean,h'.tw,h'.ro,h'.own,h'.pr,fun i x A M=>?_,fun i p H=>?_,h'.norel,h'.gs,h'.mem,h'.sh,h'.qD⟩
 ·rcases h'.jn i x A M with y|y|⟨k',z,D,R,B,F,O⟩
  ·exact .inl y
  ·simp_all
  ·refine .inr (.inr ⟨k',z,D,R,B,F,fun p H=>?_⟩);by_cases K:k'=k
   ·subst K;rw[C]at H;cases H;rcases qV A with⟨L,_⟩|⟨_,op,_,U,N⟩
    ·exact .inr (hb_po L D I R)
    ·simp at U;subst U;cases N
   ·simp_all
 ·by_cases K:i=k
  ·subst K;rw[C]at H;cases H;exact⟨by rw[bB I],xK hd⟩
  ·rw[J i K]at H;exact h'.th i p H
theorem PT.fork(h:PT b j mu wg jb cls t tok rel){fn iV:ao}{pos':String}(hd:Deaf t 0=0)(O:Deaf t (b+j)=0):
  PT b (j+1) mu wg jb cls (t++#[{g:=0,fn,pos,act:=.go (b+j)}]++#[{g:=b+j,fn:=iV,pos:=pos',act:=.start}]) tok rel:=by
 have W:=h.qD;have D:=h.still (u:=#[{g:=0,fn,pos,act:=.go (b+j)}]) (mn ⟨rfl,by simp,by simp,by show 0<b+j;omega⟩);have T:=last_at t {g:=0,fn,pos,act:=.go (b+j)};have s1:(t++#[({g:=0,fn,pos,act:=.go (b+j)}:aP)]).size=t.size+1:=by simp
 generalize N:t++#[({g:=0,fn,pos,act:=.go (b+j)}:aP)]=U at *;have L:=last_at U {g:=b+j,fn:=iV,pos:=pos',act:=.start};have dd:Deaf U (b+j)=0:=by
  rw[<-N,bJ t (g':=0) (by omega) _ (mn rfl)];exact O
 have J:(U++#[{g:=b+j,fn:=iV,pos:=pos',act:=.start}])[t.size]?=some {g:=0,fn,pos,act:=.go (b+j)}:=by rw[dq (by omega)];exact T
 have B:HappensBefore (U++#[{g:=b+j,fn:=iV,pos:=pos',act:=.start}]) t.size U.size:=by
  refine .single (.inr ⟨.spawn (child:=b+j) (by rw[bB J]) (by rw[bB L]) (g?_of L),?_,xK dd⟩);rw[cG (by omega),<-N];exact xK hd
 have Eg:∀i,i<t.size->ax U 0 i->ax (U++#[{g:=b+j,fn:=iV,pos:=pos',act:=.start}]) (b+j) i:=by
  intro i R hk;have⟨q,z,S,E,I⟩:=hk;rcases db q t.size with P|X
  ·refine⟨U.size,_,L,rfl,.inr (.trans ((I.app _).hb (hb_po P (by rw[dq (by omega)];exact S) J E)) B)⟩
  ·have:q=t.size:=by have:=lt_size_of_getElem? S;omega
   subst this;rcases I with e|I
   ·omega
   ·exact⟨U.size,_,L,rfl,.inr (.trans (hb_app _ I) B)⟩
 have old:∀{i:Nat} {x:bu},aB U i=some x->i<t.size:=by
  intro i x H;rw[<-N]at H;rcases qV H with⟨R,_⟩|⟨_,op,_,A,F⟩
  ·exact R
  ·simp at A;subst A;cases F
 have K:∀{i:Nat} {x:bu},aB (U++#[{g:=b+j,fn:=iV,pos:=pos',act:=.start}]) i=some x->i<U.size/\aB U i=some x:=by
  intro i x H;rcases qV H with R|⟨_,op,_,A,F⟩
  ·exact R
  ·simp at A;subst A;cases F
 have all:∀{i:Nat},i<t.size->(∀g,Started b j g->ax U g i)->∀g,Started b (j+1) g->ax (U++#[{g:=b+j,fn:=iV,pos:=pos',act:=.start}]) g i:=by
  intro i R hk g V;by_cases e:g=b+j
  ·subst e;exact Eg i R (hk 0 (.inl rfl))
  ·exact(hk g (V.imp id fun y=>⟨y.1,by omega⟩)).app _
 refine⟨fun said=>M7 (D.clean said) (mn rfl),fun i x H C=>?_,fun i x H C hw=>?_,fun i x k H C=>(D.own i x k (K H).2 C).app _,fun i x H C=>?_,fun i x H Z=>?_,Hg D.th _,⟨D.norel.1.app (mn (by simp)),D.norel.2.app (mn (by simp))⟩,trivial,D.mem,D.sh,D.qD⟩
 ·have⟨R,Y⟩:=K H;exact(D.tw i x Y C).imp id (cA (fun y=>⟨y.1,y.2.app _⟩) (all (old Y)))
 ·have⟨R,Y⟩:=K H;exact all (old Y) (D.ro i x Y C hw)
 ·have⟨R,Y⟩:=K H;have:=D.pr i x Y C;cases tok with
  |some g=>exact Knows.app _ this
  |none=>
   rcases this with y|⟨p,M,A,F⟩
   ·exact .inl (all (old Y) y)
   ·have Q:=bP M;exact .inr ⟨p,by rw[bO Q];exact M,(cG Q).2 A,F.app _⟩
 ·have⟨R,Y⟩:=K H;rcases Ix R (D.jn i x Y Z) _ with y|y|⟨k,z,M,A,F,c,G⟩
  ·exact .inl y
  ·exact .inr (.inl y)
  ·exact .inr (.inr ⟨k,z,M,A,F,by omega,G⟩)
theorem PT.join(h:PT b j mu wg jb cls t tok rel)(H:∀k,b<=k->k<b+j->∃p,rel k=some p){fn:ao}(hd:Deaf t 0=0){B:Nat}(Y:∀op∈t++#[{g:=0,fn,pos,act:=.mark (.acquire wg)}],op.act.low B):
  Past jb B (t++#[{g:=0,fn,pos,act:=.mark (.acquire wg)}]):=by
 have V:=h.qD;have h':=h.still (u:=#[{g:=0,fn,pos,act:=.mark (.acquire wg)}]) (mn ⟨rfl,by simp,by simp,by show 0<b+j;omega⟩);have C:=last_at t {g:=0,fn,pos,act:=.mark (.acquire wg)};have known:∀i x,aB (t++#[{g:=0,fn,pos,act:=.mark (.acquire wg)}]) i=some x->x.loc.isMemory=true->ax (t++#[{g:=0,fn,pos,act:=.mark (.acquire wg)}]) 0 i\/(jb x.loc/\x.kind=.atomic/\¬(t++#[({g:=0,fn,pos,act:=.mark (.acquire wg)}:aP)]).counts i):=by
  intro i x D K;rcases h'.jn i x D K with y|y|⟨k,z,S,T,J,L,M⟩
  ·simp_all
  ·simp_all
  ·have⟨p,A⟩:=H k J L;have⟨I,F⟩:=h.th k p A;have U:=bP I;have⟨R,Q⟩:=h'.th k p A;exact .inl ⟨t.size,_,C,rfl,.inr ((M p A).hb (.single (.inr ⟨.marked U (.inr R) (by rw[bB C]) (fun k _ _=>h'.norel.2 k),Q,xK hd⟩)))⟩
 refine⟨h'.clean,fun i x D K=>(known i x D K).imp id fun y=>⟨y.1,y.2.1⟩,fun i g O P N=>?_,?_,Y⟩
 ·have⟨x,D,K,_⟩:=id N;rcases known i x D K with⟨q,z,I,F,R⟩|⟨_,_,y⟩
  ·rcases R with rfl|R
   ·rw[g?_of I]at O;simp_all
   ·exact⟨q,by rw[g?_of I,F],R⟩
  ·simp_all
 ·rw[Deaf_push];simpa[deafStep]using hd
theorem PT.init{B:Nat}(h:Past I5 B t)(N:0<b)(T:∀l,cls l≠.no->¬I5 l)(C:∀l g,cls l=.own g->g=0)(R:∀l,l.isMemory=false->cls l=.no)(F:∀l,cls l=.at->jb l)(M:∀l,I5 l->jb l)
  (hrel:cz mu t/\cz wg t):PT b 0 mu wg jb cls t none (fun _=>none):=by
 have J:∀i x,aB t i=some x->cls x.loc≠.no->ax t 0 i:=by
  intro i x K Y;have A:x.loc.isMemory=true:=by
   cases e:x.loc.isMemory with
   |true=>rfl
   |false=>exact absurd (R _ e) Y
  rcases h.known i x K A with y|y
  ·exact y
  ·simp_all
 have only:∀{g:Nat} {i:Nat},ax t 0 i->Started b 0 g->ax t g i:=by
  intro g i hk H;rcases H with rfl|H
  ·omega
  ·omega
 refine⟨h.clean,fun i x K Y=>.inr (.inr fun g H=>only (J i x K (by rw[Y];simp)) H),fun i x K Y hw g H=>only (J i x K (by rw[Y];simp)) H,fun i x g K Y=>?_,fun i x K Y=>.inl fun g H=>only (J i x K (by rw[Y];simp)) H,fun i x K A=>?_,fun k p O=>by simp at O,hrel,trivial,R,F,N⟩
 ·rw[C _ _ Y];simp_all
 ·rcases h.known i x K A with y|⟨y1,y2⟩
  ·exact .inl y
  ·by_cases Y:t.counts i
   ·have⟨z,L,S⟩:=touch_of K;by_cases D:z.g=0
    ·have:=knows_own L;rw[D]at this;exact .inl this
    ·obtain⟨q,P,I⟩:=h.over i z.g (by simp[Trace.g?,L]) D Y;have⟨y,Q,U⟩:=bM.1 P;exact .inl ⟨q,y,Q,U,.inr I⟩
   ·exact .inr (.inl ⟨M _ y1,y2,Y⟩)
end
end Ph
namespace Lock
structure Word where
 L:Bool
 K:Bool
 S:Bool
 W:Nat
 deriving DecidableEq
def Word.zero:Word:=⟨false,false,false,0⟩
def bn(b:Bool):=if b then 1 else 0
inductive PC where
 |out
 |l0
 |rd (aw sv:Bool) (it:Nat)
 |hw (old:Word) (aw sv:Bool) (it:Nat)
 |c1 (old:Word) (it:Nat)
 |c2 (old:Word) (aw sv:Bool) (it:Nat)
 |s1 (sv:Bool)
 |t2
 |r2 (sv:Bool)
 |a1 (old:Word) (sv:Bool)
 |cr
 |uc (old:Word)
 |ur
 |us
 |uh
def hd(old:Word)(aw sv:Bool)(it:Nat)(lp:Bool):PC:=
 if old.L=true/\old.S=false/\it<4/\lp=true then(if aw=false/\old.K=false/\old.W≠0 then .c1 old it else .rd aw sv (it+1))else .c2 old aw sv it
def hr(m:Word)(aw sv:Bool)(it:Nat):PC:=if m.L=true/\m.S=false then .hw m aw sv it else .c2 m aw sv it
def nw(old:Word)(aw sv:Bool):Word:=
 ⟨if old.S then old.L else true,if aw then false else old.K,old.S||(sv&&old.L),if old.L||old.S then old.W+1 else old.W⟩
def dec(m:Word):PC:=if m.W=0\/m.L=true\/m.K=true\/m.S=true then .out else .uc m
def low(m:Word):={m with L:=false}
inductive Mv:PC->Word->Nat->PC->Word->Nat->Prop where
 |Eh (c:Nat):Mv .l0 .zero c .cr ⟨true,false,false,0⟩ c
 |Ka (m:Word) (c:Nat) (h:m≠.zero):Mv .l0 m c (.rd false false 0) m c
 |rd (m:Word) (c:Nat) (aw sv:Bool) (it:Nat):Mv (.rd aw sv it) m c (hr m aw sv it) m c
 |hw (m old:Word) (c:Nat) (aw sv:Bool) (it:Nat) (lp:Bool):Mv (.hw old aw sv it) m c (hd old aw sv it lp) m c
 |Kb (m:Word) (c:Nat) (it:Nat):Mv (.c1 m it) m c (.rd true false (it+1)) {m with K:=true} c
 |Kc (m old:Word) (c:Nat) (it:Nat) (h:m≠old):Mv (.c1 old it) m c (.rd false false (it+1)) m c
 |Ei (m:Word) (c:Nat) (aw sv:Bool) (it:Nat):Mv (.c2 m aw sv it) m c (if m.L=false/\m.S=false then .cr else .s1 sv) (nw m aw sv) c
 |Kd (m old:Word) (c:Nat) (aw sv:Bool) (it:Nat) (h:m≠old):Mv (.c2 old aw sv it) m c (.rd aw sv it) m c
 |Kf (m:Word) (c:Nat):Mv (.s1 false) m (c+1) .t2 m c
 |Kg (m:Word) (c:Nat):Mv (.s1 true) m (c+1) (.r2 true) m c
 |t2 (m:Word) (c:Nat) (sv:Bool):Mv .t2 m c (.r2 sv) m c
 |Ej (m:Word) (c:Nat) (sv:Bool) (h:m.S=false):Mv (.r2 sv) m c (hr m true sv 0) m c
 |Kh (m:Word) (c:Nat) (sv:Bool) (h:m.S=true):Mv (.r2 sv) m c (.a1 m sv) m c
 |a1 (m old:Word) (c:Nat) (sv:Bool):Mv (.a1 old sv) m c .cr ⟨true,m.K,if sv=false\/old.W=1 then false else m.S,m.W-1⟩ c
 |u0 (m:Word) (c:Nat):Mv .cr m c (if m.S=true then .uh else dec (low m)) (low m) c
 |AN (m:Word) (c:Nat):Mv (.uc m) m c .us {m with W:=m.W-1,K:=true} c
 |AP (m old:Word) (c:Nat) (h:m≠old):Mv (.uc old) m c .ur m c
 |ur (m:Word) (c:Nat):Mv .ur m c (dec m) m c
 |us (m:Word) (c:Nat):Mv .us m c .out m (c+1)
 |uh (m:Word) (c:Nat):Mv .uh m c .out m (c+1)
def ia(f:PC->Nat)(gJ:Nat->PC)
 |0=>0
 |k+1=>ia f gJ k+f (gJ k)
def put(gJ:Nat->PC)(i:Nat)(p:PC):=fun j=>if j=i then p else gJ j
theorem Q1(f:PC->Nat)(gJ:Nat->PC)(i:Nat)(p:PC):∀n,n<=i->ia f (put gJ i p) n=ia f gJ n
 |0,_=>rfl
 |n+1,h=>by
  have e:put gJ i p n=gJ n:=by unfold put;rw[if_neg (by omega)]
  rw[ia,ia,Q1 f gJ i p n (by omega),e]
theorem sP(f:PC->Nat)(gJ:Nat->PC)(i:Nat)(p:PC):∀n,i<n->ia f (put gJ i p) n+f (gJ i)=ia f gJ n+f p
 |0,h=>by omega
 |n+1,h=>by
  rw[ia,ia];by_cases Y:i=n
  ·subst Y;have e:put gJ i p i=p:=by unfold put;simp_all
   rw[Q1 f gJ i p i (ak _),e];omega
  ·have:=sP f gJ i p n (by omega);have e:put gJ i p n=gJ n:=by unfold put;rw[if_neg (by omega)]
   rw[e];omega
theorem mJ(f:PC->Nat)(gJ:Nat->PC):∀n i,i<n->f (gJ i)<=ia f gJ n
 |0,i,h=>by omega
 |n+1,i,h=>by
  rw[ia];by_cases Y:i=n
  ·simp_all
  ·have:=mJ f gJ n i (by omega);omega
theorem H7(f:PC->Nat)(gJ:Nat->PC):∀n i j,i<n->j<n->i≠j->f (gJ i)+f (gJ j)<=ia f gJ n
 |0,i,j,h,_,_=>by omega
 |n+1,i,j,h,k,Y=>by
  rw[ia];by_cases K:i=n
  ·subst K;have:=mJ f gJ i j (by omega);omega
  ·by_cases H:j=n
   ·subst H;have:=mJ f gJ j i (by omega);omega
   ·have:=H7 f gJ n i j (by omega) (by omega) Y;omega
theorem Q2(f:PC->Nat)(gJ:Nat->PC):∀n,0<ia f gJ n->∃i,i<n/\0<f (gJ i)
 |0,h=>by simp[ia]at h
 |n+1,h=>by
  rw[ia]at h;by_cases Y:0<f (gJ n)
  ·exact⟨n,by omega,Y⟩
  ·obtain⟨i,H,K⟩:=Q2 f gJ n (by omega);exact⟨i,by omega,K⟩
def jE:PC->Nat|.cr=>1|_=>0
def jw:PC->Nat|.rd aw _ _=>bn aw|.hw _ aw _ _=>bn aw|.c2 _ aw _ _=>bn aw|_=>0
def iW:PC->Nat|.r2 _=>1|.t2=>1|_=>0
def iO:PC->Nat|.a1 .. =>1|_=>0
def jo:PC->Nat|.s1 _=>1|_=>0
def kC:PC->Nat|.uc _=>1|.ur=>1|_=>0
def jP:PC->Nat|.us=>1|_=>0
def j_:PC->Nat|.uh=>1|_=>0
def Ok(m:Word):PC->Prop
 |.rd aw sv it=>(sv=true->aw=true)/\it<=4
 |.hw old aw sv it=>(sv=true->aw=true)/\(aw=true->old.K=true)/\it<=4/\old.L=true/\old.S=false
 |.c1 old it=>old.L=true/\old.S=false/\old.K=false/\0<old.W/\it<4
 |.c2 old aw sv it=>(sv=true->aw=true)/\(aw=true->old.K=true)/\it<=4
 |.a1 old sv=>0<old.W/\old.W<=m.W
 |.uc old=>old.L=false/\old.S=false/\old.K=false/\0<old.W
 |_=>True
structure Inv(gJ:Nat->PC)(n:Nat)(m:Word)(c:Nat):Prop where
 ok:∀i,i<n->Ok m (gJ i)
 held:ia jE gJ n=bn m.L
 calm:m.S=false->bn m.K=ia jw gJ n+ia iW gJ n+c+ia jP gJ n/\ia jo gJ n=m.W+c+ia jP gJ n/\ia j_ gJ n=0/\ia iO gJ n=0/\(m.L=false->m.K=false->0<m.W->0<ia kC gJ n)
 hard:m.S=true->m.K=false/\ia jw gJ n=0/\ia jP gJ n=0/\bn m.L+ia j_ gJ n+c+ia iW gJ n+ia iO gJ n=1/\ia jo gJ n+ia iW gJ n+ia iO gJ n=m.W/\0<m.W
theorem Inv.one{gJ:Nat->PC}{n:Nat}{m:Word}(h:Inv gJ n m c){j:Nat}(C:i<n)(F:j<n)(H:gJ i=.cr)(R:gJ j=.cr):i=j:=by
 by_cases Y:i=j
 ·omega
 ·have:=H7 jE gJ n i j C F Y;rw[H,R,h.held]at this;have K:jE .cr=1:=rfl;have:bn m.L<=1:=by unfold bn;split<;>omega
  omega
theorem rh(b:Bool):bn b<=1:=by unfold bn;split<;>omega
theorem Inv.live{gJ:Nat->PC}{n:Nat}{m:Word}(h:Inv gJ n m c)(T:i<n){sv:Bool}(C:gJ i=.s1 sv)(G:c=0):
  ∃j,j<n/\(∀sv,gJ j≠.s1 sv)/\gJ j≠.out:=by
 have V:=mJ jo gJ n i T;rw[C]at V;have X:jo (.s1 sv)=1:=rfl;have fin:∀f,(∀sv,f (.s1 sv)=0)->f .out=0->0<ia f gJ n->∃j,j<n/\(∀sv,gJ j≠.s1 sv)/\gJ j≠.out:=by
  intro f f1 f2 Q;have⟨j,P,O⟩:=Q2 f gJ n Q;refine⟨j,P,fun sv e=>?_,fun e=>?_⟩
  ·rw[e,f1]at O;omega
  ·simp_all
 have M:=h.held;by_cases Y:m.L=true
 ·exact fin jE (fun _=>rfl) rfl (by rw[M,Y];decide)
 ·rw[cR]at Y;by_cases D:m.S=true
  ·have⟨A,F,J,U,B,Z⟩:=h.hard D;rw[Y]at U;have N:bn false=0:=rfl;by_cases I:0<ia j_ gJ n
   ·exact fin _ (fun _=>rfl) rfl I
   ·by_cases R:0<ia iW gJ n
    ·exact fin iW (fun _=>rfl) rfl R
    ·exact fin iO (fun _=>rfl) rfl (by omega)
  ·rw[cR]at D;have⟨A,F,J,U,B⟩:=h.calm D;by_cases I:0<ia jP gJ n
   ·exact fin _ (fun _=>rfl) rfl I
   ·by_cases H:m.K=true
    ·rw[H]at A;have N:bn true=1:=rfl;by_cases R:0<ia iW gJ n
     ·exact fin iW (fun _=>rfl) rfl R
     ·exact fin jw (fun _=>rfl) rfl (by omega)
    ·rw[cR]at H;exact fin _ (fun _=>rfl) rfl (B Y H (by omega))
theorem aeo{m m':Word}(h:m.W<=m'.W){p:PC}(k:Ok m p):Ok m' p:=by
 cases p with
 |a1 old sv=>exact⟨k.1,aW k.2 h⟩
 |_=>exact k
theorem mo{gJ:Nat->PC}{n:Nat}{m m':Word}{p':PC}(h:Inv gJ n m c)(R:Ok m' p')(Y:m.W<=m'.W\/∀j,j<n->j≠i->iO (gJ j)=0):
  ∀j,j<n->Ok m' (put gJ i p' j):=by
 intro j H;unfold put;split
 ·omega
 ·rename_i K;have k:=h.ok j H;rcases Y with Y|Y
  ·exact aeo Y k
  ·have:=Y j H K;generalize gJ j=p at *;cases p with
   |a1 old sv=>simp[iO]at this
   |_=>exact k
theorem aep{gJ:Nat->PC}{n:Nat}(h:ia iO gJ n=0):∀j,j<n->j≠i->iO (gJ j)=0:=fun j Y _=>by
 have:=mJ iO gJ n j Y;omega
theorem agi{gJ:Nat->PC}{n:Nat}(H:i<n)(h:ia iO gJ n<=1)(R:iO (gJ i)=1):∀j,j<n->j≠i->iO (gJ j)=0:=fun j K Y=>by
 have:=H7 iO gJ n i j H K (fun e=>Y e.symm);omega
structure ai6(gJ:Nat->PC)(n i:Nat)(p p':PC):Prop where
 H:ia jE (put gJ i p') n+jE p=ia jE gJ n+jE p'
 A:ia jw (put gJ i p') n+jw p=ia jw gJ n+jw p'
 G:ia iW (put gJ i p') n+iW p=ia iW gJ n+iW p'
 Ga:ia iO (put gJ i p') n+iO p=ia iO gJ n+iO p'
 Q:ia jo (put gJ i p') n+jo p=ia jo gJ n+jo p'
 U1:ia kC (put gJ i p') n+kC p=ia kC gJ n+kC p'
 U2:ia jP (put gJ i p') n+jP p=ia jP gJ n+jP p'
 U3:ia j_ (put gJ i p') n+j_ p=ia j_ gJ n+j_ p'
 gH:jE p<=ia jE gJ n
 gA:jw p<=ia jw gJ n
 gG:iW p<=ia iW gJ n
 mF:iO p<=ia iO gJ n
 gQ:jo p<=ia jo gJ n
 gU1:kC p<=ia kC gJ n
 gU2:jP p<=ia jP gJ n
 gU3:j_ p<=ia j_ gJ n
theorem nf{gJ:Nat->PC}{n:Nat}{p:PC}(Y:i<n)(e:gJ i=p)(p':PC):ai6 gJ n i p p':=by
 subst e;exact⟨sP _ _ _ _ _ Y,sP _ _ _ _ _ Y,sP _ _ _ _ _ Y,sP _ _ _ _ _ Y,sP _ _ _ _ _ Y,sP _ _ _ _ _ Y,sP _ _ _ _ _ Y,sP _ _ _ _ _ Y,
  mJ _ _ _ _ Y,mJ _ _ _ _ Y,mJ _ _ _ _ Y,mJ _ _ _ _ Y,mJ _ _ _ _ Y,mJ _ _ _ _ Y,mJ _ _ _ _ Y,mJ _ _ _ _ Y⟩
theorem sy{gJ:Nat->PC}{n:Nat}{m:Word}{p p':PC}(h:Inv gJ n m c)(C:i<n)(e:gJ i=p)(R:Ok m p')
  (T:jE p'=jE p)(V:jw p'=jw p)(W:iW p'=iW p)(q:iO p'=iO p)(z:jo p'=jo p)(a:kC p'=kC p)(h7:jP p'=jP p)(h8:j_ p'=j_ p):Inv (put gJ i p') n m c:=by
 have s:=nf C e p';have P:=s.H;have N:=s.A;have O:=s.G;have K:=s.Ga;have S:=s.Q;have J:=s.U1;have L:=s.U2;have M:=s.U3;refine⟨mo h R (.inl (ak _)),?_,fun Y=>?_,fun Y=>?_⟩
 ·have:=h.held;omega
 ·have⟨D,I,U,B,F⟩:=h.calm Y;simp_all
 ·have⟨D,I,U,B,F,X⟩:=h.hard Y;simp_all
theorem acH(m:Word)(aw sv:Bool)(it:Nat)(lp:Bool):jE (hd m aw sv it lp)=0/\jw (hd m aw sv it lp)=bn aw/\iW (hd m aw sv it lp)=0/\iO (hd m aw sv it lp)=0/\jo (hd m aw sv it lp)=0/\kC (hd m aw sv it lp)=0/\jP (hd m aw sv it lp)=0/\j_ (hd m aw sv it lp)=0:=by
 unfold hd;split
 ·split
  ·rename_i h;rw[h.1];exact⟨rfl,rfl,rfl,rfl,rfl,rfl,rfl,rfl⟩
  ·exact⟨rfl,rfl,rfl,rfl,rfl,rfl,rfl,rfl⟩
 ·exact⟨rfl,rfl,rfl,rfl,rfl,rfl,rfl,rfl⟩
theorem ahs(m:Word)(aw sv:Bool)(it:Nat)(lp:Bool)(Y:sv=true->aw=true)(H:aw=true->m.K=true)(R:it<=4):Ok m (hd m aw sv it lp):=by
 unfold hd;split
 ·rename_i h;split
  ·rename_i k;exact⟨h.1,h.2.1,k.2.1,dc k.2.2,h.2.2.1⟩
  ·exact⟨Y,by omega⟩
 ·exact⟨Y,H,R⟩
theorem Qd(m:Word)(aw sv:Bool)(it:Nat):jE (hr m aw sv it)=0/\jw (hr m aw sv it)=bn aw/\iW (hr m aw sv it)=0/\iO (hr m aw sv it)=0/\jo (hr m aw sv it)=0/\kC (hr m aw sv it)=0/\jP (hr m aw sv it)=0/\j_ (hr m aw sv it)=0:=by
 unfold hr;split<;>exact⟨rfl,rfl,rfl,rfl,rfl,rfl,rfl,rfl⟩
theorem Su(m:Word)(aw sv:Bool)(it:Nat)(Y:sv=true->aw=true)(H:aw=true->m.K=true)(R:it<=4):Ok m (hr m aw sv it):=by
 unfold hr;split
 ·rename_i h;exact⟨Y,H,R,h.1,h.2⟩
 ·exact⟨Y,H,R⟩
theorem awake{gJ:Nat->PC}{n:Nat}{m:Word}{p:PC}(h:Inv gJ n m c)(R:i<n)(e:gJ i=p)(Y:0<jw p\/(0<iW p/\m.S=false)):m.K=true/\m.S=false:=by
 have g1:=mJ jw gJ n i R;have D:=mJ iW gJ n i R;rw[e]at g1 D;have H:m.S=false:=by
  rcases Y with Y|Y
  ·cases A:m.S with
   |false=>rfl
   |true=>have:=(h.hard A).2.1;omega
  simp_all
 refine⟨?_,H⟩;cases I:m.K with
 |true=>rfl
 |false=>
  have k:=(h.calm H).1;rw[I]at k;have:bn false=0:=rfl;omega
def Ki(m:Word):PC->Prop
 |.rd aw _ _=>aw=true->m.K=true
 |.r2 _=>(m.S=true->m.L=false/\m.K=false/\0<m.W)/\(m.S=false->m.K=true)
 |.a1 _ _=>m.L=false/\m.S=true/\0<m.W
 |.cr=>m.L=true
 |_=>True
theorem Inv.pre{gJ:Nat->PC}{n:Nat}{m:Word}(h:Inv gJ n m c)(H:i<n):Ki m (gJ i):=by
 have gH:=mJ jE gJ n i H;have gG:=mJ iW gJ n i H;have mF:=mJ iO gJ n i H;have b0:bn false=0:=rfl;have A:bn true=1:=rfl;cases e:gJ i with
 |rd aw sv it=>exact fun U=>(awake h H e (.inl (by simp[jw,U,A]))).1
 |r2 sv=>
  rw[e]at gG;simp[iW]at gG;refine⟨fun Y=>?_,fun Y=>(awake h H e (.inr ⟨by simp[iW],Y⟩)).1⟩;have⟨I,B,C,D,F,R⟩:=h.hard Y;refine⟨?_,I,R⟩;cases K:m.L with
  |false=>rfl
  |true=>rw[K]at D;omega
 |a1 old sv=>
  rw[e]at mF;simp[iO]at mF;have Y:m.S=true:=by
   cases Y:m.S with
   |true=>rfl
   |false=>have:=(h.calm Y).2.2.2.1;omega
  have⟨I,B,C,D,F,R⟩:=h.hard Y;refine⟨?_,Y,R⟩;cases K:m.L with
  |false=>rfl
  |true=>rw[K]at D;omega
 |cr=>
  rw[e]at gH;simp[jE]at gH;have:=h.held;show m.L=true
  cases K:m.L with
  |true=>rfl
  |false=>rw[K]at this;omega
 |_=>trivial
theorem Inv.step{gJ:Nat->PC}{n i:Nat}{m m':Word}{c c':Nat}{p p':PC}(h:Inv gJ n m c)(R:i<n)(e:gJ i=p)(hm:Mv p m c p' m' c'):Inv (put gJ i p') n m' c':=by
 have I:=h.ok i R;rw[e]at I;have b0:bn false=0:=rfl;have r:bn true=1:=rfl;cases hm with
 |Eh=>
  have s:=nf R e .cr;have⟨O,sA,sG,D,P,s1,M,N,gH,gA,gG,mF,gQ,g1,Q,T⟩:=s;simp only[jE,jw,iW,iO,jo,kC,jP,j_]at *;have⟨H,C,F,A,U⟩:=h.calm rfl;have B:=h.held;simp only[Word.zero]at *;exact⟨mo h trivial (.inl (ak _)),by simp only;omega,fun _=>⟨by simp only;omega,by simp only;omega,by omega,by omega,fun a=>by simp at a⟩,fun a=>by simp at a⟩
 |Ka _ _ E=>exact sy h R e ⟨fun a=>by simp at a,by omega⟩ rfl rfl rfl rfl rfl rfl rfl rfl
 |rd _ _ aw sv it=>
  have X:aw=true->m.K=true:=fun g=>(awake h R e (.inl (by simp[jw,g,r]))).1;have⟨a1,a2,a3,a4,a5,q,j,z⟩:=Qd m aw sv it;exact sy h R e (Su m aw sv it I.1 X I.2) a1 a2 a3 a4 a5 q j z
 |hw _ old _ aw sv it lp=>
  have⟨a1,a2,a3,a4,a5,q,j,z⟩:=acH old aw sv it lp;have hk:Ok old (hd old aw sv it lp):=ahs old aw sv it lp I.1 I.2.1 I.2.2.1;refine sy h R e ?_ a1 a2 a3 a4 a5 q j z;generalize hd old aw sv it lp=p at *;cases p with
  |a1 o s=>simp[iO]at a4
  |_=>exact hk
 |Kb _ _ it=>
  have⟨l,G,f,y,q5⟩:=I;have s:=nf R e (.rd true false (it+1));have⟨O,sA,sG,D,P,s1,M,N,gH,gA,gG,mF,gQ,g1,Q,T⟩:=s;simp only[jE,jw,iW,iO,jo,kC,jP,j_]at *;have⟨H,C,F,A,U⟩:=h.calm G;have B:=h.held;rw[f]at H;exact⟨mo h ⟨fun _=>rfl,by omega⟩ (.inl (ak _)),by simp only;omega,fun _=>⟨by simp only;omega,by simp only;omega,by omega,by omega,fun a b=>by simp at b⟩,fun a=>by simp only at a;rw[G]at a;cases a⟩
 |Kc _ _ _ it E=>exact sy h R e ⟨fun a=>by simp at a,by have:=I.2.2.2.2;omega⟩ rfl rfl rfl rfl rfl rfl rfl rfl
 |Ei _ _ aw sv it=>
  have⟨l,G,f⟩:=I;have k:jw (.c2 m aw sv it)=bn aw:=rfl;cases J:m.L with
  |false=>
   cases Y:m.S with
   |false=>
    rw[if_pos ⟨rfl,rfl⟩];have s:=nf R e .cr;have⟨O,sA,sG,D,P,s1,M,N,gH,gA,gG,mF,gQ,g1,Q,T⟩:=s;simp only[jE,jw,iW,iO,jo,kC,jP,j_]at *;have⟨H,C,F,A,U⟩:=h.calm Y;have B:=h.held;rw[J]at B;have en:nw m aw sv=⟨true,if aw then false else m.K,false,m.W⟩:=by unfold nw;rw[J,Y];simp
    rw[en];refine⟨mo h trivial (.inl (ak _)),by simp only;omega,fun _=>⟨?_,by simp only;omega,by omega,by omega,fun a=>by simp at a⟩,fun a=>by simp at a⟩;cases aw with
    |false=>simp only[bX,if_false];omega
    |true=>
     rw[G rfl]at H;simp only[if_true];omega
   |true=>
    rw[if_neg (by simp)];have s:=nf R e (.s1 sv);have⟨O,sA,sG,D,P,s1,M,N,gH,gA,gG,mF,gQ,g1,Q,T⟩:=s;simp only[jE,jw,iW,iO,jo,kC,jP,j_]at *;have⟨H,C,F,A,U,V⟩:=h.hard Y;have B:=h.held;have X:aw=false:=by
     cases aw with
     |false=>rfl
     |true=>omega
    subst X;rw[J]at B A;have en:nw m false sv=⟨false,m.K,true,m.W+1⟩:=by unfold nw;rw[J,Y];simp
    rw[en];exact⟨mo h trivial (.inl (by simp)),by simp only;omega,fun a=>by simp at a,fun _=>⟨H,by omega,by omega,by simp only;omega,by simp only;omega,by simp⟩⟩
  |true=>
   rw[if_neg (by simp)];have s:=nf R e (.s1 sv);have⟨O,sA,sG,D,P,s1,M,N,gH,gA,gG,mF,gQ,g1,Q,T⟩:=s;simp only[jE,jw,iW,iO,jo,kC,jP,j_]at *;have B:=h.held;rw[J]at B;cases Y:m.S with
   |false=>
    have⟨H,C,F,A,U⟩:=h.calm Y;cases sv with
    |false=>
     have en:nw m aw false=⟨true,if aw then false else m.K,false,m.W+1⟩:=by unfold nw;rw[J,Y];simp
     rw[en];refine⟨mo h trivial (.inl (by simp)),by simp only;omega,fun _=>⟨?_,by simp only;omega,by omega,by omega,fun a=>by simp at a⟩,fun a=>by simp at a⟩;cases aw with
     |false=>simp only[bX,if_false];omega
     |true=>
      rw[G rfl]at H;simp only[if_true];omega
    |true=>
     have X:=l rfl;subst X;rw[G rfl]at H;have en:nw m true true=⟨true,false,true,m.W+1⟩:=by unfold nw;rw[J,Y];simp
     rw[en];exact⟨mo h trivial (.inl (by simp)),by simp only;omega,fun a=>by simp at a,fun _=>⟨rfl,by omega,by omega,by simp only;omega,by simp only;omega,by simp⟩⟩
   |true=>
    have⟨H,C,F,A,U,V⟩:=h.hard Y;have X:aw=false:=by
     cases aw with
     |false=>rfl
     |true=>omega
    subst X;rw[J]at A;have en:nw m false sv=⟨true,m.K,true,m.W+1⟩:=by unfold nw;rw[J,Y];simp
    rw[en];exact⟨mo h trivial (.inl (by simp)),by simp only;omega,fun a=>by simp at a,fun _=>⟨H,by omega,by omega,by simp only;omega,by simp only;omega,by simp⟩⟩
 |Kd _ _ _ aw sv it E=>exact sy h R e ⟨I.1,I.2.2⟩ rfl rfl rfl rfl rfl rfl rfl rfl
 |Kf=>
  have s:=nf R e .t2;have⟨O,sA,sG,D,P,s1,M,N,gH,gA,gG,mF,gQ,g1,Q,T⟩:=s;simp only[jE,jw,iW,iO,jo,kC,jP,j_]at *;have B:=h.held;refine⟨mo h trivial (.inl (ak _)),by omega,fun Y=>?_,fun Y=>?_⟩
  ·have⟨H,C,F,A,U⟩:=h.calm Y;exact⟨by omega,by omega,by omega,by omega,fun a b d=>by have:=U a b d;omega⟩
  ·have⟨H,C,F,A,U,V⟩:=h.hard Y;exact⟨H,by omega,by omega,by omega,by omega,V⟩
 |Kg=>
  have s:=nf R e (.r2 true);have⟨O,sA,sG,D,P,s1,M,N,gH,gA,gG,mF,gQ,g1,Q,T⟩:=s;simp only[jE,jw,iW,iO,jo,kC,jP,j_]at *;have B:=h.held;refine⟨mo h trivial (.inl (ak _)),by omega,fun Y=>?_,fun Y=>?_⟩
  ·have⟨H,C,F,A,U⟩:=h.calm Y;exact⟨by omega,by omega,by omega,by omega,fun a b d=>by have:=U a b d;omega⟩
  ·have⟨H,C,F,A,U,V⟩:=h.hard Y;exact⟨H,by omega,by omega,by omega,by omega,V⟩
 |t2 _ _ sv=>exact sy h R e trivial rfl rfl rfl rfl rfl rfl rfl rfl
 |Ej _ _ sv Y=>
  have g:=awake h R e (.inr ⟨by simp[iW],Y⟩);have⟨a1,a2,a3,a4,a5,q,j,z⟩:=Qd m true sv 0;have s:=nf R e (hr m true sv 0);have⟨O,sA,sG,D,P,s1,M,N,gH,gA,gG,mF,gQ,g1,Q,T⟩:=s;rw[a1]at O;rw[a2]at sA;rw[a3]at sG;rw[a4]at D;rw[a5]at P;rw[q]at s1;rw[j]at M;rw[z]at N;simp only[jE,jw,iW,iO,jo,kC,jP,j_]at *;have B:=h.held;have⟨H,C,F,A,U⟩:=h.calm Y;exact⟨mo h (Su m true sv 0 (fun _=>rfl) (fun _=>g.1) (by omega)) (.inl (ak _)),by omega,fun _=>⟨by omega,by omega,by omega,by omega,fun a b d=>by have:=U a b d;omega⟩,fun a=>by rw[Y]at a;cases a⟩
 |Kh _ _ sv Y=>
  have s:=nf R e (.a1 m sv);have⟨O,sA,sG,D,P,s1,M,N,gH,gA,gG,mF,gQ,g1,Q,T⟩:=s;simp only[jE,jw,iW,iO,jo,kC,jP,j_]at *;have B:=h.held;have⟨H,C,F,A,U,V⟩:=h.hard Y;exact⟨mo h ⟨V,ak _⟩ (.inl (ak _)),by omega,(fun a=>by rw[Y]at a;cases a),fun _=>⟨H,by omega,by omega,by omega,by omega,V⟩⟩
 |a1 _ old _ sv=>
  have s:=nf R e .cr;have⟨O,sA,sG,D,P,s1,M,N,gH,gA,gG,mF,gQ,g1,Q,T⟩:=s;simp only[jE,jw,iW,iO,jo,kC,jP,j_]at *;have B:=h.held;have Y:m.S=true:=by
   cases Y:m.S with
   |true=>rfl
   |false=>have:=(h.calm Y).2.2.2.1;omega
  have⟨H,C,F,A,U,V⟩:=h.hard Y;have J:m.L=false:=by
   cases J:m.L with
   |false=>rfl
   |true=>rw[J]at A;omega
  rw[J]at A B;have v:0<old.W/\old.W<=m.W:=I;refine⟨mo h trivial (.inr (agi R (by omega) (by rw[e];rfl))),by simp only;omega,?_,?_⟩
  ·intro Z;simp only at Z⊢;rw[H];exact⟨by omega,by omega,by omega,by omega,fun a=>by simp at a⟩
  ·intro Z;simp only at Z⊢;split at Z
   ·simp at Z
   ·rename_i E;have t:¬old.W=1:=fun x=>E (.inr x);exact⟨H,by omega,by omega,by omega,by omega,by omega⟩
 |u0=>
  have B:=h.held;have l1:bn (low m).L=0:=rfl;have l2:(low m).W=m.W:=rfl;have w:bn (low m).K=bn m.K:=rfl;have l4:(low m).S=m.S:=rfl;have gH:=mJ jE gJ n i R;rw[e]at gH;have J:m.L=true:=by
   cases J:m.L with
   |true=>rfl
   |false=>rw[J]at B;simp only[jE]at gH;omega
  rw[J]at B;cases Y:m.S with
  |true=>
   rw[if_pos rfl];have s:=nf R e .uh;have⟨O,sA,sG,D,P,s1,M,N,gH,gA,gG,mF,gQ,g1,Q,T⟩:=s;simp only[jE,jw,iW,iO,jo,kC,jP,j_]at *;have⟨H,C,F,A,U,V⟩:=h.hard Y;rw[J]at A;exact⟨mo h trivial (.inl (ak _)),by omega,(fun a=>by rw[l4,Y]at a;cases a),fun _=>⟨H,by omega,by omega,by omega,by omega,V⟩⟩
  |false=>
   rw[if_neg (by simp)];have⟨H,C,F,A,U⟩:=h.calm Y;by_cases hd:m.W=0\/m.K=true
   ·have ed:dec (low m)=.out:=by
     unfold dec;rw[if_pos];rcases hd with hd|hd
     ·exact .inl hd
     ·exact .inr (.inr (.inl hd))
    rw[ed];have s:=nf R e .out;have⟨O,sA,sG,D,P,s1,M,N,gH,gA,gG,mF,gQ,g1,Q,T⟩:=s;simp only[jE,jw,iW,iO,jo,kC,jP,j_]at *;refine⟨mo h trivial (.inl (ak _)),by omega,fun _=>⟨by omega,by omega,by omega,by omega,fun _ a b=>?_⟩,fun a=>by rw[l4,Y]at a;cases a⟩;rcases hd with hd|hd
    ·omega
    ·have a':m.K=false:=a;rw[hd]at a';cases a'
   ·have ed:dec (low m)=.uc (low m):=by
     unfold dec;rw[if_neg];rintro(x|x|x|x)
     ·exact hd (.inl x)
     ·simp[low]at x
     ·exact hd (.inr x)
     ·rw[l4,Y]at x;cases x
    rw[ed];have s:=nf R e (.uc (low m));have⟨O,sA,sG,D,P,s1,M,N,gH,gA,gG,mF,gQ,g1,Q,T⟩:=s;simp only[jE,jw,iW,iO,jo,kC,jP,j_]at *;have u:m.K=false:=by simpa using fun x=>hd (.inr x)
    refine⟨mo h ⟨rfl,Y,u,dc fun x=>hd (.inl x)⟩ (.inl (ak _)),by omega,fun _=>⟨by omega,by omega,by omega,by omega,fun _ _ _=>by omega⟩,fun a=>by rw[l4,Y]at a;cases a⟩
 |AN=>
  have⟨l,G,f,y⟩:=I;have s:=nf R e .us;have⟨O,sA,sG,D,P,s1,M,N,gH,gA,gG,mF,gQ,g1,Q,T⟩:=s;simp only[jE,jw,iW,iO,jo,kC,jP,j_]at *;have B:=h.held;have⟨H,C,F,A,U⟩:=h.calm G;rw[f]at H;exact⟨mo h trivial (.inr (aep A)),by simp only;omega,fun _=>⟨by simp only;omega,by simp only;omega,by omega,by omega,fun a b=>by simp at b⟩,fun a=>by simp only at a;rw[G]at a;cases a⟩
 |AP _ old _ E=>exact sy h R e trivial rfl rfl rfl rfl rfl rfl rfl rfl
 |ur=>
  by_cases hd:m.W=0\/m.L=true\/m.K=true\/m.S=true
  ·have ed:dec m=.out:=if_pos hd;rw[ed];have s:=nf R e .out;have⟨O,sA,sG,D,P,s1,M,N,gH,gA,gG,mF,gQ,g1,Q,T⟩:=s;simp only[jE,jw,iW,iO,jo,kC,jP,j_]at *;have B:=h.held;refine⟨mo h trivial (.inl (ak _)),by omega,fun Y=>?_,fun Y=>?_⟩
   ·have⟨H,C,F,A,U⟩:=h.calm Y;refine⟨by omega,by omega,by omega,by omega,fun a b d=>?_⟩;rcases hd with x|x|x|x
    ·omega
    ·rw[a]at x;cases x
    ·rw[b]at x;cases x
    ·rw[Y]at x;cases x
   ·have⟨H,C,F,A,U,V⟩:=h.hard Y;exact⟨H,by omega,by omega,by omega,by omega,V⟩
  ·have ed:dec m=.uc m:=if_neg hd;rw[ed];refine sy h R e ⟨?_,?_,?_,dc fun x=>hd (.inl x)⟩ rfl rfl rfl rfl rfl rfl rfl rfl
   ·simpa using fun x=>hd (.inr (.inl x))
   ·simpa using fun x=>hd (.inr (.inr (.inr x)))
   ·simpa using fun x=>hd (.inr (.inr (.inl x)))
 |us=>
  have s:=nf R e .out;have⟨O,sA,sG,D,P,s1,M,N,gH,gA,gG,mF,gQ,g1,Q,T⟩:=s;simp only[jE,jw,iW,iO,jo,kC,jP,j_]at *;have B:=h.held;refine⟨mo h trivial (.inl (ak _)),by omega,fun Y=>?_,fun Y=>?_⟩
  ·have⟨H,C,F,A,U⟩:=h.calm Y;exact⟨by omega,by omega,by omega,by omega,fun a b d=>by have:=U a b d;omega⟩
  ·have⟨H,C,F,A,U,V⟩:=h.hard Y;omega
 |uh=>
  have s:=nf R e .out;have⟨O,sA,sG,D,P,s1,M,N,gH,gA,gG,mF,gQ,g1,Q,T⟩:=s;simp only[jE,jw,iW,iO,jo,kC,jP,j_]at *;have B:=h.held;refine⟨mo h trivial (.inl (ak _)),by omega,fun Y=>?_,fun Y=>?_⟩
  ·have:=(h.calm Y).2.2.1;omega
  ·have⟨H,C,F,A,U,V⟩:=h.hard Y;exact⟨H,by omega,by omega,by omega,by omega,V⟩
def iP:PC->Nat
 |.out=>0|.cr=>1|.uc _=>0|.ur=>0|.us=>0|.uh=>0
 |_=>2
def bw:PC->Nat
 |.out=>0|.l0=>6|.rd aw _ _=>5-bn aw|.hw _ aw _ _=>5-bn aw|.c1 .. =>5|.c2 _ aw _ _=>5-bn aw|.s1 _=>0|.t2=>6|.r2 _=>5|.a1 .. =>4|.cr=>0|.uc _=>9|.ur=>9|.us=>8|.uh=>8
def dw(m:Word):PC->Nat
 |.rd _ _ it=>2 *(5-it)
 |.hw old _ _ it=>if old=m then 2 *(5-it)-1 else 2 *(5-it)+2
 |.c1 old it=>if old=m then 0 else 2 *(5-it)-1
 |.c2 old _ _ it=>if old=m then 0 else 2 *(5-it)+1
 |.uc old=>if old=m then 1 else 3
 |.ur=>2
 |_=>0
theorem aeq(m old:Word)(aw sv:Bool)(it:Nat)(lp:Bool)(h:it<=4):iP (hd old aw sv it lp)=2/\bw (hd old aw sv it lp)=5-bn aw/\dw m (hd old aw sv it lp)<dw m (.hw old aw sv it):=by
 unfold hd;split
 ·split
  ·rename_i Y;refine⟨rfl,by rw[Y.1];rfl,?_⟩;simp only[dw];split<;>omega
  ·refine⟨rfl,rfl,?_⟩;simp only[dw];split<;>omega
 ·refine⟨rfl,rfl,?_⟩;simp only[dw];split<;>omega
theorem Q3(m:Word)(aw sv:Bool)(it:Nat)(h:it<=4):iP (hr m aw sv it)=2/\bw (hr m aw sv it)=5-bn aw/\dw m (hr m aw sv it)<2 *(5-it):=by
 unfold hr;split
 ·refine⟨rfl,rfl,?_⟩;simp[dw,if_true];omega
 ·refine⟨rfl,rfl,?_⟩;simp[dw,if_true];omega
theorem Mv.down{p p':PC}{m m':Word}{c':Nat}(h:Mv p m c p' m' c')(H:Ok m p):
  iP p'<iP p\/(iP p'=iP p/\bw p'+7 *c'<bw p+7 *c)\/(iP p'=iP p/\bw p'+7 *c'=bw p+7 *c/\m'=m/\c'=c/\dw m p'<dw m p):=by
 have b0:bn false=0:=rfl;have A:bn true=1:=rfl;cases h with
 |Eh=>exact .inl (by decide)
 |Ka=>exact .inr (.inl ⟨rfl,by simp only[bw];omega⟩)
 |rd _ _ aw sv it=>
  have⟨K,D,R⟩:=Q3 m aw sv it H.2;exact .inr (.inr ⟨K,by rw[D];rfl,rfl,rfl,R⟩)
 |hw _ old _ aw sv it lp=>
  have⟨K,D,R⟩:=aeq m old aw sv it lp H.2.2.1;exact .inr (.inr ⟨K,by rw[D];rfl,rfl,rfl,R⟩)
 |Kb _ _ it=>exact .inr (.inl ⟨rfl,by simp only[bw];omega⟩)
 |Kc _ old _ it Y=>
  have:=H.2.2.2.2;refine .inr (.inr ⟨rfl,by simp only[bw];omega,rfl,rfl,?_⟩);simp only[dw];rw[if_neg (fun e=>Y e.symm)];omega
 |Ei _ _ aw sv it=>
  by_cases I:m.L=false/\m.S=false
  ·rw[if_pos I];exact .inl (by simp only[iP];omega)
  ·rw[if_neg I];refine .inr (.inl ⟨rfl,?_⟩);simp only[bw];have:=rh aw;omega
 |Kd _ old _ aw sv it Y=>
  refine .inr (.inr ⟨rfl,rfl,rfl,rfl,?_⟩);simp only[dw];rw[if_neg (fun e=>Y e.symm)];omega
 |Kf=>exact .inr (.inl ⟨rfl,by simp only[bw];omega⟩)
 |Kg=>exact .inr (.inl ⟨rfl,by simp only[bw];omega⟩)
 |t2=>exact .inr (.inl ⟨rfl,by simp only[bw];omega⟩)
 |Ej _ _ sv U=>
  obtain⟨K,D,R⟩:=Q3 m true sv 0 (by omega);exact .inr (.inl ⟨K,by rw[D];simp only[bw];omega⟩)
 |Kh=>exact .inr (.inl ⟨rfl,by simp only[bw];omega⟩)
 |a1=>exact .inl (by simp only[iP];omega)
 |u0=>
  refine .inl ?_;split
  ·decide
  ·unfold dec;split<;>(simp only[iP];omega)
 |AN=>exact .inr (.inl ⟨rfl,by simp only[bw];omega⟩)
 |AP _ old _ Y=>
  refine .inr (.inr ⟨rfl,rfl,rfl,rfl,?_⟩);simp only[dw];rw[if_neg (fun e=>Y e.symm)];omega
 |ur=>
  unfold dec;split
  ·exact .inr (.inl ⟨rfl,by simp only[bw];omega⟩)
  ·refine .inr (.inr ⟨rfl,rfl,rfl,rfl,?_⟩);simp only[dw,if_true];omega
 |us=>exact .inr (.inl ⟨rfl,by simp only[bw];omega⟩)
 |uh=>exact .inr (.inl ⟨rfl,by simp only[bw];omega⟩)
end Lock
namespace Ph
open Lock (Word bn)
def val(m:Word):Int:=(bn m.L+2 *bn m.K+4 *bn m.S+8 *m.W:Nat)
end Ph
namespace Ph
open Conc Ren
open Lock (Word PC Mv bn)
structure Env where
 Fd:Nat
 Mp:Nat
 Wg:Nat
 tF:ai
 tW:ai
 zc:ah
 Γ:Type
 upd:Γ->Nat->Γ
 mz:Γ->Option Obj->Prop
namespace Env
variable(E:Env)
abbrev mu:Addr:=⟨E.Fd,0,none⟩
abbrev ms:Addr:=⟨E.Fd,1,none⟩
abbrev st:Addr:=⟨E.Wg,0,none⟩
abbrev sm:Addr:=⟨E.Wg,1,none⟩
def U(a i:Nat):=(a=E.Fd\/a=E.Wg)/\i<2
def MuAt(w:af)(m:Word)(c:Nat):=w.heap[E.Fd]?=some (.cells #[.int .i32 (val m),.int .u32 c,.map (some E.Mp)] E.tF)
def WgAt(w:af)(v wt ws:Nat):Prop:=w.heap[E.Wg]?=some (.cells #[.int .u64 ((v *4294967296+wt:Nat):Int),.int .u32 ws] E.tW)
structure Eff(b:Nat)(w w1:af):Prop where
 heap:∀a,a≠b->w1.heap[a]?=w.heap[a]?
 size:w1.heap.size=w.heap.size
 tape:w1.tape=w.tape
 env:nc w1.os w.os
 output:w1.output=w.output
def EvA(b:Nat)(es:Array _):=(∀e∈es,∃a wr,e=⟨.cell a,wr,true⟩/\a.block=b/\a.off<2/\a.spot=none)\/∃o,o<2/\es=bG ⟨b,o,none⟩
inductive kF where
 |recv
 |ld (x:Nat)
 |lk (p:PC) (x:Nat)
 |le (x:Nat)
 |la (x:Nat)
 |ur (x:E.Γ)
 |ud
 |u0
 |un (p:PC)
 |ue
 |wr
variable(P:Program)(main:Bool)
abbrev Tree(D:(Nat->Prop)->(Nat->Prop)->ar->af->Prop):=Tz P main E.U D
def rW(m:Mark)(Nx:(Nat->Prop)->(Nat->Prop)->ar->af->Prop)(S X:Nat->Prop)(g:ar)(w:af):=
 ∀w2,gR E.U S w w2->∃g1,aj P main g w2=.go g1 w2 #[⟨.mark m,false,true⟩]/\Nx S X g1 w2
def I9(p:PC)(Nx:PC->(Nat->Prop)->(Nat->Prop)->ar->af->Prop)(S X:Nat->Prop)(g:ar)(w:af):=
 ∀w2 m c,gR E.U S w w2->E.MuAt w2 m c->Lock.Ok m p->Lock.Ki m p->m.W<=8->c<=1->
  (∃sv,p=.s1 sv/\c=0/\aj P main g w2=.go {g with status:=.blocked} w2 #[])\/
  ∃p' m' c' g1 w1 es,Mv p m c p' m' c'/\aj P main g w2=.go g1 w1 es/\E.MuAt w1 m' c'/\Eff E.Fd w2 w1/\EvA E.Fd es/\(c<c'->cH P g=true)/\Nx p' S X g1 w1
def Sv(g:ar):=∃q,QuitsD P q 1 g
def nZ(P:Program)(Q:ar->Prop):Nat->ar->Prop
 |0,g=>Q g
 |n+1,g=>g.status=.running/\∃Y,(∀w,aj P false g w=.go Y w #[])/\nZ P Q n Y
def Kj(P:Program)(g:ar):=g.status=.running/\cH P g=true/\∀w2,E.WgAt w2 0 0 0->∃g1 w1 es,aj P false g w2=.go g1 w1 es/\E.WgAt w1 0 0 1/\Eff E.Wg w2 w1/\EvA E.Wg es/\Sv P g1
def Kk(P:Program)(g:ar):=g.status=.running/\∀w2,E.WgAt w2 0 1 0->∃g1 w1 es,aj P false g w2=.go g1 w1 es/\E.WgAt w1 0 0 0/\Eff E.Wg w2 w1/\EvA E.Wg es/\∃n,nZ P (E.Kj P) n g1
def Kl(P:Program)(g:ar):=g.status=.running/\∀w2,E.WgAt w2 0 1 0->∃g1 es,aj P false g w2=.go g1 w2 es/\EvA E.Wg es/\∃n,nZ P (E.Kk P) n g1
def Km(P:Program)(g:ar):=g.status=.running/\∀w2 v wt,v<=8->wt<=1->E.WgAt w2 (v+1) wt 0->∃g1 w1 es,aj P false g w2=.go g1 w1 es/\E.WgAt w1 v wt 0/\Eff E.Wg w2 w1/\EvA E.Wg es/\
    ((v=0/\wt=1->∃n,nZ P (E.Kl P) n g1)/\(¬(v=0/\wt=1)->Sv P g1))
def Ua(P:Program)(g:ar):=g.status=.running/\∃g1,(∀w2,aj P false g w2=.go g1 w2 #[⟨.mark .disable,false,true⟩])/\∃n,nZ P (E.Km P) n g1
def ti(P:Program)
 |0=>E.Kj P
 |1=>E.Kk P
 |2=>E.Kl P
 |3=>E.Km P
 |_+4=>E.Ua P
variable{E}in
def behind(p:PC)(x:Nat):E.kF:=match p with
 |.cr=>.le x
 |p=>.lk p x
variable{E}in
def vU(p:PC):E.kF:=match p with
 |.out=>.ue
 |p=>.un p
def jf(P:Program)(A:(Nat->Prop)->(Nat->Prop)->ar->af->Prop):Nat->E.kF->(Nat->Prop)->(Nat->Prop)->ar->af->Prop
 |_,.recv,S,X,g,w=>A S X g w
 |0,_,_,_,_,_=>True
 |k+1,pc,S,X,g,w=>g.status=.running/\g.offers=none/\match pc with
  |.recv=>True
  |.ld x=>E.rW P false .disable (E.Tree P false (jf P A k (.lk .l0 x))) S X g w
  |.lk p x=>E.I9 P false p (fun p'=>E.Tree P false (jf P A k (behind p' x))) S X g w
  |.le x=>E.rW P false .enable (E.Tree P false (jf P A k (.la x))) S X g w
  |.la x=>∀w2 γ,gR E.U S w w2->E.mz γ (w2.heap[E.Mp]?)->∃g1,aj P false g w2=.go g1 w2 #[⟨.mark (.acquire E.mu),false,true⟩]/\E.Tree P false (jf P A k (.ur (E.upd γ x))) (fun a=>S a\/a=E.Mp) (fun a=>X a\/a=E.Mp) g1 w2
  |.ur γ=>∀w2,gR E.U S w w2->E.mz γ (w2.heap[E.Mp]?)/\∃g1,aj P false g w2=.go g1 w2 #[⟨.mark (.releaseMerge E.mu),false,true⟩]/\E.Tree P false (jf P A k .ud) (fun a=>S a/\a≠E.Mp) (fun a=>X a/\a≠E.Mp) g1 w2
  |.ud=>E.rW P false .disable (E.Tree P false (jf P A k .u0)) S X g w
  |.u0=>E.I9 P false .cr (fun p'=>E.Tree P false (jf P A k (vU p'))) S X g w
  |.un p=>E.I9 P false p (fun p'=>E.Tree P false (jf P A k (vU p'))) S X g w
  |.ue=>E.rW P false .enable (E.Tree P false (jf P A k .recv)) S X g w
  |.wr=>∀w2,gR E.U S w w2->∃g1,aj P false g w2=.go g1 w2 #[⟨.mark (.releaseMerge E.st),false,true⟩]/\∃n,nZ P (E.ti P 4) n g1
end Env
namespace Env
variable{E:Env}{w w1 w2:af}{m m':Word}{c c' v wt ws:Nat}{b:Nat}
theorem zp{b:Nat}{cs:Array _}{t:ai}{fz:Nat×Nat}(h:w.heap[b]?=some (.cells cs t fz)):(w.setCell ⟨b,i,none⟩ x).heap[b]?=some (.cells (cs.setIfInBounds i x) t fz):=by
 rw[setCell_eq_setRow w b i cs t fz x h];exact setRow_heap w b cs _ t fz h
theorem Eff.refl(b:Nat)(w:af):Eff b w w:=⟨fun _ _=>rfl,rfl,rfl,.refl _,rfl⟩
theorem Eff.set(b i:Nat)(x:ah)(w:af):Eff b w (w.setCell ⟨b,i,none⟩ x):=by
 refine⟨fun a Y=>?_,by simp,rfl,.refl _,rfl⟩;simp[World.setCell];rw[dA];rw[if_neg (fun e=>Y e.symm)]
theorem Eff.later(b:Nat)(w:af):Eff b w w.later:=⟨fun _ _=>rfl,rfl,rfl,⟨w.tick,rfl⟩,rfl⟩
theorem Eff.asked(b:Nat)(w:af):Eff b w w.asked:=⟨fun _ _=>rfl,rfl,rfl,.refl _,rfl⟩
theorem MuAt.cell0(h:E.MuAt w m c):w.cell? E.mu=some (.int .i32 (val m)):=by unfold MuAt at h;simp[bA,h]
theorem MuAt.ri(h:E.MuAt w m c):w.cell? E.ms=some (.int .u32 c):=by unfold MuAt at h;simp[bA,h]
theorem MuAt.thaw(h:E.MuAt w m c)(i:Nat):w.frozen? ⟨E.Fd,i,none⟩=false:=by unfold MuAt at h;simp[ew,h]
theorem MuAt.mP(h:E.MuAt w m c)(m':Word):E.MuAt (w.setCell E.mu (.int .i32 (val m'))) m' c:=by
 unfold MuAt at h⊢;rw[zp h];simp
theorem MuAt.qE(h:E.MuAt w m c)(c':Nat):E.MuAt (w.setCell E.ms (.int .u32 c')) m c':=by
 unfold MuAt at h⊢;rw[zp h];simp
theorem MuAt.later(h:E.MuAt w m c):E.MuAt w.later m c:=h
theorem MuAt.asked(h:E.MuAt w m c):E.MuAt w.asked m c:=h
theorem WgAt.cell0(h:E.WgAt w v wt ws):w.cell? E.st=some (.int .u64 ((v *4294967296+wt:Nat))):=by unfold WgAt at h;simp[bA,h]
theorem WgAt.ri(h:E.WgAt w v wt ws):w.cell? E.sm=some (.int .u32 ws):=by unfold WgAt at h;simp[bA,h]
theorem WgAt.thaw(h:E.WgAt w v wt ws)(i:Nat):w.frozen? ⟨E.Wg,i,none⟩=false:=by unfold WgAt at h;simp[ew,h]
theorem WgAt.mP(h:E.WgAt w v wt ws)(v' ij:Nat):E.WgAt (w.setCell E.st (.int .u64 ((v' *4294967296+ij:Nat)))) v' ij ws:=by
 unfold WgAt at h⊢;rw[zp h];simp
theorem WgAt.qE(h:E.WgAt w v wt ws)(ig:Nat):E.WgAt (w.setCell E.sm (.int .u32 ig)) v wt ig:=by
 unfold WgAt at h⊢;rw[zp h];simp
def uX(E:Env)(w:af):=∃cs t fz,w.heap[E.Fd]?=some (.cells cs t fz)/\cs.size=3
theorem uX.rely{S:Nat->Prop}(h:E.uX w)(C:S E.Fd)(hr:gR E.U S w w2):E.uX w2:=by
 have⟨cs,t,fz,K,H⟩:=h;rcases hr.kept _ C with e|⟨d,d2,t',I,_,Y,D,R,_⟩
 ·exact⟨cs,t,fz,e.trans K,H⟩
 ·rw[K]at Y;cases Y;exact⟨d2,_,_,D,R.trans H⟩
theorem uX.cell0(h:E.uX w):∃v,w.cell? E.mu=some v:=by
 have⟨cs,t,fz,Y,K⟩:=h;exact⟨cs[0],by simp[bA,Y]⟩
def oX(E:Env)(w:af):=∃cs t fz,w.heap[E.Wg]?=some (.cells cs t fz)/\cs.size=2
theorem oX.rely{S:Nat->Prop}(h:E.oX w)(C:S E.Wg)(hr:gR E.U S w w2):E.oX w2:=by
 have⟨cs,t,fz,K,H⟩:=h;rcases hr.kept _ C with e|⟨d,d2,t',I,_,Y,D,R,_⟩
 ·exact⟨cs,t,fz,e.trans K,H⟩
 ·rw[K]at Y;cases Y;exact⟨d2,_,_,D,R.trans H⟩
theorem oX.cell0(h:E.oX w):∃v,w.cell? E.st=some v:=by
 have⟨cs,t,fz,Y,K⟩:=h;exact⟨cs[0],by simp[bA,Y]⟩
theorem oX.ri(h:E.oX w):∃v,w.cell? E.sm=some v:=by
 have⟨cs,t,fz,Y,K⟩:=h;exact⟨cs[1],by simp[bA,Y]⟩
structure Kn(E:Env)(S:Nat->Prop)(Fx:af->Prop):Prop where
 rely:∀{w w2:af},Fx w->gR E.U S w w2->Fx w2
 fd:∀{w:af},Fx w->E.uX w
 lM:∀{w w1:af} {m m':Word} {c c':Nat},Fx w->E.MuAt w m c->Eff E.Fd w w1->E.MuAt w1 m' c'->Fx w1
 later:∀{w:af},Fx w->Fx w.later
theorem Pd{U:Nat->Nat->Prop}(h:∀a,S' a->S a)(hr:gR U S w w2):gR U S' w w2:=⟨fun a Y=>hr.kept a (h a Y),hr.grow,hr.env⟩
theorem EvA.nil(b:Nat):EvA b #[]:=.inl fun e Y=>by simp_all
theorem EvA.one(b i:Nat)(wr:Bool)(H:i<2):EvA b #[⟨.cell ⟨b,i,none⟩,wr,true⟩]:=.inl fun e Y=>by simp_all
theorem EvA.two(b i:Nat)(H:i<2):EvA b #[⟨.cell ⟨b,i,none⟩,false,true⟩,⟨.cell ⟨b,i,none⟩,true,true⟩]:=.inl fun e Y=>by
 simp at Y;rcases Y with rfl|rfl
 ·simp_all
 ·simp_all
theorem EvA.yP(b i:Nat)(Y:i<2):EvA b (bG ⟨b,i,none⟩):=.inr ⟨i,Y,rfl⟩
end Env
def rp(P:Program):Nat->ae->List ae->ae×List ae
 |0,f,l=>(f,l)
 |n+1,f,l=>match f.todo with
  |.inLoop _::_|.code (.loop _)::_=>(oc P f l).getD (f,l)
  |_=>match oc P f l with
   |some (f1,l1)=>rp P n f1 l1
   |none=>(f,l)
theorem Tz.Ag{U:Nat->Nat->Prop}{D:(Nat->Prop)->(Nat->Prop)->ar->af->Prop}:∀n {f:ae} {l:List _} {w:af},(∀w2,gR U S w w2->Tz P main U D S X (G (rp P n f l).1 (rp P n f l).2) w2)->Tz P main U D S X (G f l) w
 |0,f,l,w,h=>h w (.refl _ _ _)
 |n+1,f,l,w,h=>by
  unfold rp at h;have one:(∀w2,gR U S w w2->Tz P main U D S X (G ((oc P f l).getD (f,l)).1 ((oc P f l).getD (f,l)).2) w2)->Tz P main U D S X (G f l) w:=by
   intro h;cases e:oc P f l with
   |none=>rw[e]at h;exact h w (.refl _ _ _)
   |some x=>
    rw[e]at h;exact Tz.one rfl fun w2 hr=>⟨_,w2,#[],S,X,sD e,jd S X w2,h w2 hr⟩
  split at h
  ·simp_all
  ·simp_all
  ·split at h
   ·rename_i f1 l1 e;refine Tz.one rfl fun w2 hr=>⟨_,w2,#[],S,X,sD e,jd S X w2,Tz.Ag n fun w3 Y=>h w3 (hr.trans Y)⟩
   ·simp_all
def Jq(s:Nat->Option _)(j:Nat->ah):=((List.range 139).map fun i=>(s i).getD (j i)).toArray
def lf(site:List Item)(s:Nat->Option ah)(j:Nat->ah):Frame:={fn:=205,tmps:=Jq s j,todo:=site,defers:=[],mode:=.run,kind:=.normal}
structure Fr(site:List Item)(s:Nat->Option ah)(f:ae):Prop where
 fn:f.fn=205
 todo:f.todo=site
 defers:f.defers=[]
 mode:f.mode=.run
 kind:f.kind=.normal
 round:f.roundOf=none
 size:f.tmps.size=139
 slot:∀i v,s i=some v->f.tmps.getD i aJ=v
theorem Fr.eq{site:List _}{s:Nat->Option _}(h:Fr site s f):f=lf site s (fun i=>f.tmps.getD i aJ):=by
 have⟨fn,tmps,todo,defers,mode,kind,ro⟩:=f;have⟨D,R,I,A,U,B,K,H⟩:=h;congr 1;apply Array.ext
 ·simp[Jq,K]
 ·intro i Y _;simp[Jq,List.getElem_toArray,List.getElem_map,List.getElem_range];cases e:s i with
  |none=>simp[bS Y]
  |some v=>
   rw[<-H i v e];simp[bS Y]
def sA(al:List (Nat×ah))(i:Nat):=al.lookup i
structure rq where
 callers:List ae
 fn:ao
 todo:List Item
 defers:List aT
 mode:cu
 kind:cV
 round:Option Nat
 size:Nat
 aoO:List ah
 call:Option (ao×Array ah)
 load:Option (ai×ah)
def look(ks:List Nat)(r:ae×List ae):rq:=⟨r.2,r.1.fn,r.1.todo,r.1.defers,r.1.mode,r.1.kind,r.1.roundOf,r.1.tmps.size,ks.map (r.1.tmps.getD · aJ),ahead r.1,pN r.1⟩
def kj(l:List ae)(site:List Item)(al:List (Nat×ah))(call:Option (ao×Array ah))(load:Option (ai×ah)):rq:=⟨l,205,site,[],.run,.normal,none,139,al.map (·.2),call,load⟩
theorem GC{al:List _}{g:Nat->ah}(h:al.map (fun x=>g x.1)=al.map (·.2)):∀i v,al.lookup i=some v->g i=v:=by
 induction al with
 |nil=>intro i v e;cases e
 |cons x al Y=>
  obtain⟨k,y⟩:=x;simp only[List.map_cons,List.cons.injEq]at h;intro i v e;rw[List.lookup_cons]at e;by_cases hk:i=k
  ·simp_all
  ·have:(i==k)=false:=by simp_all
   simp_all
structure nQ(l:List ae)(site:List Item)(al:List (Nat×ah))(call:Option (ao×Array ah))(load:Option (ai×ah))(r:ae×List ae):Prop where
 callers:r.2=l
 fr:Fr site (sA al) r.1
 call:ahead r.1=call
 load:pN r.1=load
theorem stands{r:ae×List _}{l:List _}{site:List _}{al:List _}{call:Option _}{load:Option _}(h:look (al.map (·.1)) r=kj l site al call load):nQ l site al call load r:=by
 simp only[look,kj,rq.mk.injEq,List.map_map]at h;have⟨H,D,R,I,A,U,B,C,F,Y,K⟩:=h;exact⟨H,⟨D,R,I,A,U,B,C,GC F⟩,Y,K⟩
theorem jx{α Y:Type}{xs:List α}{F G:α->Y}(h:xs.map F=xs.map G){x:α}(H:x∈xs):F x=G x:=by simp_all
noncomputable abbrev PR:=Tryz.prog
def iY(Fd:Nat)(gf:Int)(sv aw:Bool)(it:Int):List (Nat×ah):=[(0,.pointer (some ⟨Fd,0,none⟩)),(2,.int .i64 gf),(3,.bool sv),(4,.bool aw),(5,.int .i64 it)]
def rE(Fd:Nat)(gf:Int)(sv aw:Bool)(it old:Int):=(6,.int .i32 old)::iY Fd gf sv aw it
def ptr(Fd:Nat):Value:=.pointer (some ⟨Fd,0,none⟩)
def jz(i:Nat):=aJ
def Qe (Fd:Nat) (l:List _):=gu PR 60 (Frame.enter PR 205 #[ptr Fd] .normal) l
def I_:=(Qe 0 []).1.todo
def yu:=(rp PR 60 ((Qe 0 []).1.finish (.int .i32 0)) []).1.todo
def yv (Fd:Nat) (gf:Int) (sv aw:Bool) (it old:Int) (j:Nat->ah) (l:List _):=gu PR 300 (lf yu (sA (rE Fd gf sv aw it old)) j) l
def Hh:=(yv 0 0 false false 0 1 jz []).1.todo
def Iy:=(yv 0 0 false false 0 0 jz []).1.todo
def Ko(Fd:Nat)(gf:Int)(sv aw:Bool)(it old:Int):=(17,.bool true)::rE Fd gf sv aw it old
def sJ (Fd:Nat) (gf:Int) (sv aw:Bool) (it old:Int) (b:Bool) (j:Nat->ah) (l:List _):=gu PR 300 ((lf Hh (sA (Ko Fd gf sv aw it old)) j).finish (.bool b)) l
def Iz:=(sJ 0 0 false false 0 9 true jz []).1.todo
def yf:=(sJ 0 0 false false 0 1 true jz []).1.todo
def Kq(Fd:Nat)(gf:Int)(sv aw:Bool)(it old:Int):=(33,.bool true)::rE Fd gf sv aw it old
def R2 (Fd:Nat) (gf:Int) (sv aw:Bool) (it old:Int) (b:Bool) (j:Nat->ah) (l:List _):=gu PR 300 ((lf Iz (sA (Kq Fd gf sv aw it old)) j).finish (.bool b)) l
def R3 (Fd:Nat) (gf:Int) (sv aw:Bool) (it:Int) (j:Nat->ah) (l:List _):=gu PR 300 ((lf yf (sA (iY Fd gf sv aw it)) j).finish (.tuple #[])) l
def IA:=(R3 0 0 false false 0 jz []).1.todo
def yg (Fd:Nat) (gf:Int) (sv aw:Bool) (it old:Int) (b:Bool) (j:Nat->ah) (l:List _):=gu PR 300 ((lf Iy (sA (rE Fd gf sv aw it old)) j).finish (.bool b)) l
def CY:=(yg 0 0 false false 0 0 false jz []).1.todo
def CZ:=(yg 0 0 false false 0 0 true jz []).1.todo
def R4:=(yg 0 0 false false 0 1 true jz []).1.todo
def C0:=(yg 0 1 false false 0 1 true jz []).1.todo
section
variable{Fd:Nat}{gf it old:Int}{sv aw:Bool}{j:Nat->ah}{l:List ae}
theorem ZD:look [6,0,2,3,4,5] (rp PR 60 ((lf I_ (sA (iY Fd gf sv aw it)) j).finish (.int .i32 old)) l)=kj l yu (rE Fd gf sv aw it old) none none:=by kernel_rfl
theorem Yq:look [6,0,2,3,4,5] (rp PR 60 ((lf IA (sA (iY Fd gf sv aw it)) j).finish (.int .i32 old)) l)=kj l yu (rE Fd gf sv aw it old) none none:=by kernel_rfl
theorem Yr:look [6,0,2,3,4,5] (rp PR 60 ((lf CY (sA (iY Fd gf sv aw it)) j).finish (.int .i32 old)) l)=kj l yu (rE Fd gf sv aw it old) none none:=by kernel_rfl
def spins:=(List.range 72).filter fun i=>i%2==1&&i/4%2==0
theorem acI:(spins.map fun i:Nat=>look [17,6,0,2,3,4,5] (yv Fd gf sv aw it i j l))=spins.map fun i:Nat=>kj l Hh (Ko Fd gf sv aw it (i:Int)) (some (214,#[.int .i64 it])) none:=by kernel_rfl
theorem aer:look [0,2,3,4,5] (R3 Fd gf sv aw it j l)=kj l IA (iY Fd gf sv aw (IntKind.i64.wrap (it+1))) none (some (21,ptr Fd)):=by kernel_rfl
theorem acJ:look [0,2,3,4,5] (R2 Fd gf sv aw it old true j l)=kj l yf (iY Fd gf sv true it) (some (215,#[])) none:=by kernel_rfl
theorem acK:look [0,2,3,4,5] (R2 Fd gf sv aw it old false j l)=kj l yf (iY Fd gf sv aw it) (some (215,#[])) none:=by kernel_rfl
theorem acL:look [0,2,3,4,5] (yg Fd gf sv aw it old false j l)=kj l CY (iY Fd gf sv aw it) none (some (21,ptr Fd)):=by kernel_rfl
end
def wd(i:Nat):Word:=⟨i%2==1,i/2%2==1,i/4%2==1,i/8⟩
def tj(P:Program)(t:Nat):Nat->ae->List ae->ae×List ae
 |0,f,l=>(f,l)
 |n+1,f,l=>match f.todo with
  |.code (.cond (.tmp u) _ _)::_=>if u==t then(f,l)else match oc P f l with
   |some (f1,l1)=>tj P t n f1 l1
   |none=>(f,l)
  |_=>match oc P f l with
   |some (f1,l1)=>tj P t n f1 l1
   |none=>(f,l)
theorem Tz.Sw{U:Nat->Nat->Prop}{D:(Nat->Prop)->(Nat->Prop)->ar->af->Prop}(t:Nat):∀(n:Nat) {f:ae} {l:List ae} {w:af},(∀w2,gR U S w w2->Tz P main U D S X (G (tj P t n f l).1 (tj P t n f l).2) w2)->Tz P main U D S X (G f l) w
 |0,f,l,w,h=>h w (.refl _ _ _)
 |n+1,f,l,w,h=>by
  unfold tj at h;have go:(∀w2,gR U S w w2->Tz P main U D S X (G (match oc P f l with|some (f1,l1)=>tj P t n f1 l1|none=>(f,l)).1 (match oc P f l with|some (f1,l1)=>tj P t n f1 l1|none=>(f,l)).2) w2)->Tz P main U D S X (G f l) w:=by
   intro h;split at h
   ·rename_i f1 l1 e;exact Tz.one rfl fun w2 hr=>⟨_,w2,#[],S,X,sD e,jd S X w2,Tz.Sw t n fun w3 Y=>h w3 (hr.trans Y)⟩
   ·exact h w (.refl _ _ _)
  split at h
  ·split at h
   ·exact h w (.refl _ _ _)
   ·exact go h
  ·exact go h
def wj(aw:Bool):List Nat:=(List.range 72).filter fun i=>!(i%2==1&&i/4%2==0)&&(!aw||i/2%2==1)
def vX(aw:Bool):List Nat:=(List.range 72).filter fun i=>(i%2==1&&i/4%2==0)&&(!aw||i/2%2==1)
def toC2 (l:List ae) (Fd:Nat) (gf:Int) (sv aw:Bool) (it:Int) (i:Nat):rq:=kj l Iy (rE Fd gf sv aw it (i:Int)) (some (204,#[ptr Fd,.int .i32 (i:Int),.int .i32 (val (Lock.nw (wd i) aw sv))])) none
section
variable{Fd:Nat}{gf it:Int}{j:Nat->ah}{l:List ae}
theorem aaU:((wj false).map fun i:Nat=>look [6,0,2,3,4,5] (yv Fd gf false false it (i:Int) j l))=(wj false).map (toC2 l Fd gf false false it):=by kernel_rfl
theorem aaV:((wj true).map fun i:Nat=>look [6,0,2,3,4,5] (yv Fd gf false true it (i:Int) j l))=(wj true).map (toC2 l Fd gf false true it):=by kernel_rfl
theorem aaW:((wj true).map fun i:Nat=>look [6,0,2,3,4,5] (yv Fd gf true true it (i:Int) j l))=(wj true).map (toC2 l Fd gf true true it):=by kernel_rfl
theorem aaX:((vX false).map fun i:Nat=>look [6,0,2,3,4,5] (sJ Fd gf false false it (i:Int) false j l))=(vX false).map (toC2 l Fd gf false false it):=by kernel_rfl
theorem aaY:((vX true).map fun i:Nat=>look [6,0,2,3,4,5] (sJ Fd gf false true it (i:Int) false j l))=(vX true).map (toC2 l Fd gf false true it):=by kernel_rfl
theorem aaZ:((vX true).map fun i:Nat=>look [6,0,2,3,4,5] (sJ Fd gf true true it (i:Int) false j l))=(vX true).map (toC2 l Fd gf true true it):=by kernel_rfl
end
end Ph
end
end Go.Proofs.YtdcjnhipenbcfaaGreatDoor
