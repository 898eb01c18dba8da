/-
  Own text. Part 3 of what the claim rests on.
-/
import Derived.Test.YtdcjnhipenbcfaaGreatDoorPk2
import Derived.Conc.QuitsD
import Derived.Laws.Bits64
import Derived.Test.YtdcjnhipenbcfaaGreatDoorProg
import Derived.Conc.CompanyMem
set_option linter.unusedVariables false
set_option linter.unusedSectionVars false
set_option linter.unusedSimpArgs false
set_option maxRecDepth 100000
set_option maxHeartbeats 16000000
open Array renaming getElem?_setIfInBounds_self_of_lt->aL,mem_of_getElem?->bq,all_eq_true_iff_forall_mem->bF,getElem?_eq_getElem->bR,getElem?_eq_some_iff->bT,getElem?_map->bU,getElem?_push->cx,append_empty->cJ,empty_append->cK,getD_eq_getD_getElem?->cL,getElem?_eq_none->cM,getElem?_setIfInBounds_ne->cO,mem_append->cP,mem_iff_getElem->cQ
open Bool renaming and_eq_true->aM,not_eq_true'->bZ,or_eq_true->cy
open Classical renaming byContradiction->cR
open Go renaming Frame->ae,Value->af,World->ah,Goroutine->ai,FuncId->au,undef->ax,stepG->aH,TypeId->aI,Program->aK,execOp->aN,TypeInfo->aO,Trace->aV,Operand->aW,deafBehind->bk,mayWake->bp,Deferred->br,Event->bt,TypeDesc->bE,MemOp->bH,CallKind->bV,cell_of_row->bY,Tables->cm,partners->cu,sizeOf->cv,typeInfo->cw,run_underlying->du
open Go.Code renaming wp_mono->cS
open Go.Conc renaming crowd->ao,woken->aJ,Deaf_own->aP,awake_of->aX,Deaf_other->aY,QuitsD->bj,closeEvents->bN,offersAt_of_not_blocked->bO,rcase->bP,runT_crowd_go->bQ,getElem?_stand->cn,deafStep->cE,offersAt->cG,offersAt_parked_recv->cH,seen_none->cI,finishComm_recv->di,finishComm_send->dj,offersAt_parked_recv'->dk,offersAt_parked_send->dp,partners_nil->dq,partners_one->dt,woken_quitsD->dx
open Go.Extern.Atomic renaming casT->cT,loadT->cU,storeT->cV,update->cW
open Go.Extern.Race renaming marked->b_,none_->cf
open Go.Extern.Sync renaming semacquire->cX,semrelease->cY
open Go.Instr renaming indexAt->cZ
open Go.IntKind renaming i64->a_,i32->bW,wrap_u64->c7
open Go.Made renaming reckon->bG,reckonStruct->bX,infoAt->cj
open Go.MemAct renaming ofEvent->aZ,touch?->cC
open Go.MemOp renaming ofEvents->ak
open Go.Proofs.Tryz renaming prog->aT
open Go.Proofs.YtdcjnhipenbcfaaGreatDoor.Ph.Tz renaming pure->aj
open Go.Proofs.YtdcjnhipenbcfaaGreatDoor.Ph.iE renaming closes->bm
open Go.Tables renaming info?->dh
open Go.World renaming setChan->bM
open List renaming getD_eq_getElem?_getD->bc,range->bg,mem_cons->bu,mem_toArray->bA,not_mem_nil->bB,all_eq_true->cg,getElem?_eq_getElem->cz,lookup_cons->cA,mem_range->cB,getElem?_eq_none->c9,getElem?_eq_some_iff->c_,getElem?_take->da,mem_of_getElem?->db
open Nat renaming le_refl->ar,zero_le->ay,lt_of_lt_of_le->aQ,le_of_lt->aU,not_lt_zero->bh,le_of_eq->bC,le_trans->bD,le_add_right->bI,lt_of_not_le->bK,strongRecOn->bL,eq_zero_or_pos->cD
open Option renaming bind_eq_some_iff->az,map_eq_some_iff->ck
open Option.some renaming injEq->dc
open Prod.mk renaming injEq->de
namespace Go.Proofs.YtdcjnhipenbcfaaGreatDoor
noncomputable section
variable {ad:Addr}{es:Array bt}{tmps:Array af}{aw main rd:Bool}{e:bt}{f:ae}{fn:au}{g0 g1 gk gx:ai}{ds:List br}{cs l:List ae}{site todo:List Item}{kh ks:List Nat}{Wg c' cc f' i i0 it k m n s v' ig wt il:Nat}{XX vQ jC:Nat->Nat->Prop}{RO S S1 X1:Nat->Prop}{o:Obj}{y:aW}{ow tok jQ:Option Nat}{d:aI}{u v v8 work:af}{w:ah}
namespace Ph
open Conc Ren
open Lock (Word PC Mv bn iT bw dw)
open ConcN (sumTo upd sumTo_upd upd_ne upd_same)
def nM{E:Env}:gZ E->Nat
 |.h_ _ n=>n
 |.qt q=>q
 |_=>0
def pG:Md->Nat
 |.run=>1
 |.j_=>1
 |_=>0
def pH{E:Env}:gZ E->Nat
 |.at _ md=>pG md
 |_=>0
namespace gR
variable(Q:gR)
def nu(C:iI Q.E)(q:Nat->Nat):=10 *(sumTo Q.b q+sumTo Q.J.n (fun k=>nM (C.ks k)))+(pG C.dm+sumTo Q.J.n (fun k=>pH (C.ks k)))
def Df(C:iI Q.E)(fu:Nat->Nat)
 |0=>Q.DS (fu 0) C.d
 |k+1=>match C.ks k with
  |.at pc _=>Q.WS (Q.ch C k) (fu (k+1)) pc
  |_=>fun _ _ _ _=>True
def jO(C:iI Q.E)(nd:Nat->Nd)(fu:Nat->Nat)(q:Nat->Nat)(m:Machine)(t:aV):=∃C' Y K n_ w' H D jX,m=ao n_ w' H/\CI Q.J Q.gX C'/\Calm Q.J C'/\Q.MI C' Y K n_ w' t D jX/\
 (mu Q.J C'<mu Q.J C\/(mu Q.J C'=mu Q.J C/\Q.Df C' K=Q.Df C fu/\(Down (fun i=>Nx Q.P (i==0) Q.E.U (Q.Df C fu i)) (Q.J.n+1) Y nd\/(Y=nd/\Q.nu C' D<Q.nu C q))))
end gR
section
variable{Q:gR}{nd:Nat->Nd}{fu:Nat->Nat}{C C':iI Q.E}{w w':ah}{gs n_:Array ai}{t t':aV}{q:Nat->Nat}{rel jX:Nat->Option Nat}{sl:Option (Nat×Nat)}
theorem tC{α:Type}(f:Nat->α)(i:Nat):upd f i (f i)=f:=by
 funext k;unfold upd;simp_all
theorem aeM:Q.Df (C.oM Q.J) fu=Q.Df C fu:=by
 funext i;cases i with
 |zero=>rfl
 |succ k=>
  exact wX (fun s=>match s with|.at pc _=>Q.WS (Q.ch C k) (fu (k+1)) pc|_=>fun _ _ _ _=>True) (fun _ _ _=>rfl) _ _
theorem qy{Y H:iI Q.E}(h:H=Y\/H=Y.oM Q.J):mu Q.J H=mu Q.J Y/\Q.Df H fu=Q.Df Y fu:=by
 rcases h with rfl|rfl
 ·simp
 ·exact⟨Q7,aeM⟩
theorem pO{w1:ah}{ops:Array _}(h:∀op∈t,Seen w.heap.size op)(Y:w.heap.size<=w1.heap.size)(H:∀op∈ops,Seen w1.heap.size op):∀op∈t++ops,Seen w1.heap.size op:=by
 intro op gN;rcases cP.1 gN with y|y
 ·exact⟨MemAct.low_mono Y (h op y).1,(h op y).2⟩
 ·simp_all
theorem acP(Y:Q.Laws)(nd:Nat->Nd)(j:Nat)(L:List Nat):∀l,Q.cls nd j L l=.at->Q.jl l:=fun l h=>Y.KX l (Qb h)
theorem gR.MI.SS(M:Q.MI C nd fu gs w t q rel)(N:Q.Laws)(H:i<=C.j){es:Array _}{F:Nd}{w1:ah}(hd:kz Q.E.U (nd i).S (nd i).X w w1 es F.S F.X)(fn:au)(pos:String)(hr:gi Q.b i≠0->rel (gi Q.b i)=none):
  PT Q.b C.j Q.E.mu Q.E.st Q.jl (Q.cls (upd nd i F) C.j C.L) (t++ak (gi Q.b i) fn pos es) (C.tok.map (Q.b+ ·)) rel:=by
 have Y:=M.iq;have R:=Y.did H hd;have J:=gR.agS Y H hd;have low:∀k x,touchAt t k=some x->x.loc.low w.heap.size:=by
  intro k x A;obtain⟨op,P,B⟩:=touch_of A;exact Xw (M.seen op (bq P)).1 B
 have D:=M.tr.fresh (fun k x A=>Om J (low k x A)) O7 (acP N _ _ _);refine D.app (g:=gi Q.b i) ?_ ?_ ?_
 ·cases i with
  |zero=>exact .inl rfl
  |succ k=>exact .inr ⟨bI _ _,by show Q.b+k<Q.b+C.j;omega⟩
 ·refine acM hd _ _ (fun a K=>?_) (fun a K=>acO K) (fun a D O=>?_)
  ·have I:=Y.low i H a K;have e:Q.cls _ C.j C.L _=Q.cls nd C.j C.L (.obj a):=Om J I;rw[e];exact Y.held N.rm H K
  ·have:=R.own H (by rw[upd_same];exact(hd.may a).2 (.inr ⟨D,O⟩)) (fun e=>by have:=Y.uo;omega);exact this
 ·simp_all
theorem gR.MI.xK(M:Q.MI C nd fu gs w t q rel)(hk:k<C.j){pc:Q.E.kU}{md:Md}(e:C.ks k=.at pc md):rel (Q.b+k)=none:=by
 cases hr:rel _ with
 |none=>rfl
 |some p=>
  have:=(M.pw k hk).1 ⟨p,hr⟩;rw[e]at this;exact this.elim
theorem p8{g:Nat}{pos:String}{es:Array _}:∀op∈ak g fn pos es,op.g=g:=fun op gN=>by
 obtain⟨e,_,rfl⟩:=pS gN;rfl
theorem gR.MI.ait(M:Q.MI C nd fu gs w t q rel)(R:Q.Laws)(h:CI Q.J Q.gX C)(H:Calm Q.J C)(hk:k<C.j){pc:Q.E.kU}(e:C.ks k=.at pc .run){w1:ah}{es:Array _}(hn:¬Q.WS (Q.ch C k) (fu (k+1)) pc (nd (k+1)).S (nd (k+1)).X (nd (k+1)).g (nd (k+1)).w)
  (gF:aH Q.P false (nd (k+1)).g w=.go g1 w1 es)(hd:kz Q.E.U (nd (k+1)).S (nd (k+1)).X w w1 es S1 X1)(ht:Tz Q.P false Q.E.U (Q.WS (Q.ch C k) (fu (k+1)) pc) S1 X1 g1 w1)(fn:au)(pos:String):
  Q.jO C nd fu q (ao ((gs.map (aJ Q.P (nd (k+1)).g g1 w1)).setIfInBounds (Q.b+k) g1) w1 sl) (t++ak (Q.b+k) fn pos es):=by
 have Z:=R.b0;have B:Q.b+k<gs.size:=by rw[M.size];omega
 have Y:=hk;have F:Q.MI C (upd nd (k+1) ⟨S1,X1,g1,w1⟩) (upd fu (k+1) (fu (k+1))) (gs.setIfInBounds (Q.b+k) g1) w1 (t++ak (Q.b+k) fn pos es) q rel:=by
  refine M.BF Z hk rfl rfl rfl rfl (fun _ _=>rfl) rfl ?_ (fun i A I=>Qe M.iq Y A (fun y=>I y.symm) hd) (.refl _ _ _) (M.fuel _ Y) (ar _) (M.iq.did Y hd) (M.wd.did M.iq R h.len Y hd) ?_ (fun W=>?_) (fun g G=>aY t (fun y=>G y.symm) _ p8) (M.pw k hk) (fun _ _=>rfl) (pO M.seen hd.grow (Qd hd (M.iq.low _ Y) _))
  ·rw[e];exact⟨aL B,ht,fun y=>absurd rfl y⟩
  ·exact M.SS R Y hd fn pos (fun _=>M.xK hk e)
  ·rw[aP,Qc hd];exact M.nf k hk W
 rw[tC]at F;obtain⟨L,V,D,K,N⟩:=gR.MI.finish R h F (.inl H) H.pq;obtain⟨O,T⟩:=qy V;refine⟨L,_,_,_,_,sl,_,_,rfl,D,K,N,.inr ⟨O,T,.inl ⟨k+1,by have:=h.jn;omega,?_,fun i _ A=>upd_ne _ _ A⟩⟩⟩;rw[upd_same];refine⟨?_,w,es,M.nZ _ Y,gF,hd⟩;unfold gR.Df;simp_all
theorem gR.MI.gI(M:Q.MI C nd fu gs w t q rel)(W:Q.Laws)(hk:k<C.j)(h:C'.j=C.j)(G:C'.L=C.L)(hd:C'.d=C.d)(F:C'.dm=C.dm)(N:∀i,i≠k->C'.ks i=C.ks i){w1:ah}{ops:Array _}
  (V:Q.uk (Q.ch C k) (gs.setIfInBounds (Q.b+k) g1) (t++ops) k ⟨(nd (k+1)).S,(nd (k+1)).X,g1,w1⟩ f' (C'.ks k))(rl:∀S,gU Q.E.U S w w1)(Z:w1.heap.size=w.heap.size)(mf:mu Q.J C'<=f')(O:mu Q.J C'<=mu Q.J C)(tok:C'.tok=C.tok)(wd:Q.Wd C' w1)
  (tr:PT Q.b C.j Q.E.mu Q.E.st Q.jl (Q.cls nd C.j C.L) (t++ops) (C.tok.map (Q.b+ ·)) jX)(own:∀op∈ops,op.g=Q.b+k)(R:(∀q,C'.ks k≠.qt q)->Deaf (t++ops) (Q.b+k)=Be (C'.ks k))(Y:(∃p,jX (Q.b+k)=some p)↔gR.xJ (C'.ks k))(H:∀i,i≠k->jX (Q.b+i)=rel (Q.b+i))(low:∀op∈ops,Seen w.heap.size op):
  Q.MI C' (upd nd (k+1) ⟨(nd (k+1)).S,(nd (k+1)).X,g1,w1⟩) (upd fu (k+1) f') (gs.setIfInBounds (Q.b+k) g1) w1 (t++ops) q jX:=by
 refine M.BF W.b0 hk h G hd F N rfl V (fun i D _=>rl _) (.refl _ _ _) mf O ?_ wd ?_ R (fun g K=>aY t (fun y=>K y.symm) _ own) Y H (pO M.seen (bC Z.symm) (by simp_all))
 ·rw[Z,tok];exact M.iq.same rfl rfl
 ·unfold gR.cls;rw[gR.Ds (n':=⟨(nd _).S,(nd _).X,g1,w1⟩) rfl,tok];exact tr
theorem uC(g:Nat)(fn:au)(pos:String)(m:Mark):ak g fn pos #[⟨.mark m,false,true⟩]=#[{g,fn,pos,act:=.mark m}]:=by simp[ak,aZ]
theorem gR.MI.I7(M:Q.MI C nd fu gs w t q rel){g:Nat}(Y:g<Q.b+C.j)(fn:au)(pos:String){m:Mark}(H:m=.disable\/m=.enable):PT Q.b C.j Q.E.mu Q.E.st Q.jl (Q.cls nd C.j C.L) (t++ak g fn pos #[⟨.mark m,false,true⟩]) (C.tok.map (Q.b+ ·)) rel:=by
 rw[uC];refine M.tr.still (mE ?_);rcases H with rfl|rfl<;>exact⟨rfl,nofun,nofun,Y⟩
theorem tD{g B:Nat}{pos:String}{m:Mark}(Y:(MemAct.mark m).low B/\∀a,m≠.release a):∀op∈ak g fn pos #[⟨.mark m,false,true⟩],Seen B op:=by
 rw[uC];exact mE ⟨Y.1,fun a e=>Y.2 a (MemAct.mark.inj e)⟩
theorem On(h:e.mute=true)(a:Addr):aZ e≠.mark (.release a):=by
 intro y;obtain⟨loc,wr,Y⟩:=e;cases loc<;>simp_all[Event.mute,aZ]
theorem tM(H:Calm Q.J C){s':gZ Q.E}(F:∀pc,s'≠.at pc .blk)(L:∀pc,s'≠.at pc .ic){m':Word}{lq:Q.E.Γ}(R:C.c=0->c'=0)(hw:C.dm=.blk->C.ws=0->ig=0):Calm Q.J (C.wk k s' C.d C.dm m' c' v' il ig lq kh jQ):=by
 refine⟨fun i pc Y=>?_,fun i pc Y=>?_,fun hd=>hw hd (H.J_ hd),fun i hd K pc Y=>?_⟩
 ·change upd _ k s' i=_ at Y;by_cases e:i=k
  ·subst e;rw[upd_same]at Y;simp_all
  ·rw[upd_ne _ _ e]at Y;exact R (H.blk i pc Y)
 ·change upd _ k s' i=_ at Y;by_cases e:i=k
  ·subst e;rw[upd_same]at Y;simp_all
  ·rw[upd_ne _ _ e]at Y;exact H.ic i pc Y
 ·change upd _ k s' _=_ at Y;by_cases e:i%Q.J.n=k
  ·rw[e,upd_same]at Y;simp_all
  ·rw[upd_ne _ _ e]at Y;exact H.pq i hd K pc Y
theorem gR.MI.Eb(M:Q.MI C nd fu gs w t q rel)(F:Q.Laws)(h:CI Q.J Q.gX C)(L:Calm Q.J C){f:Nat}(hk:k<C.j){pc Y:Q.E.kU}(e:C.ks k=.at pc .run)(hf:fu (k+1)=f+1){m:Mark}(O:m=.disable\/m=.enable)(ht:Q.E.Tree Q.P false (Q.WS (Q.ch C k) f Y) (nd (k+1)).S (nd (k+1)).X g1 w)(fn:au)(pos:String)
  (hl:oS Y=oS pc)(W:∀y,qI y Y=qI y pc)(n1:∀γ,pc≠.ur γ)(n2:∀γ,Y≠.ur γ)(n3:Y≠.wr)(qU:∀p x,Y=.lk p x->iT p=2)(oT:∀p,Y=.un p->iT p=0/\p≠.out)(hr:qv Y<qv pc)(N:vg Y=bk (vg pc) #[⟨.mark m,false,true⟩]):
  Q.jO C nd fu q (ao ((gs.map (aJ Q.P (nd (k+1)).g g1 w)).setIfInBounds (Q.b+k) g1) w sl) (t++ak (Q.b+k) fn pos #[⟨.mark m,false,true⟩]):=by
 have A:Q.b+k<gs.size:=by rw[M.size];omega
 have I:k<Q.J.n:=aQ hk h.jn;have U:¬Gone (.at Y .run:gZ Q.E):=fun y=>by
  cases Y with
  |wr=>exact n3 rfl
  |_=>exact y.elim
 have Z:CI Q.J Q.gX (C.w1 k (.at Y .run)):=h.quiet hk e hl W n1 n2 ⟨nofun,fun y=>by rcases y with y|y<;>cases y⟩ (fun y=>absurd y U) qU oT;have D:mu Q.J (C.w1 k (.at Y .run))<mu Q.J C:=Ea F.n8 h.c1 I e hr;have us:(C.w1 k (.at Y .run)).ks k=.at Y .run:=upd_same _ _ _;have T:=M.gI (C':=C.w1 k (.at Y .run)) (f':=f) (g1:=g1) (w1:=w) (jX:=rel) F hk rfl rfl rfl rfl (fun i z=>upd_ne _ _ z) (by
   rw[us];exact⟨aL A,ht,fun y=>absurd rfl y⟩) (fun S=>.refl _ _ _) rfl (by have:=M.fuel (k+1) hk;omega) (aU D) rfl (M.wd.cfg rfl rfl rfl rfl rfl (fun e=>⟨e,rfl⟩) rfl rfl rfl)
   (M.I7 (by omega) fn pos O) p8 (fun _=>by
   rw[us,aP,M.nf k hk (fun q y=>by rw[e]at y;cases y),e];exact N.symm) (by
   rw[us,M.xK hk e];exact⟨(fun⟨p,d⟩=>by cases d),fun y=>y.elim⟩) (fun _ _=>rfl) (tD (by rcases O with rfl|rfl<;>exact⟨trivial,nofun⟩))
 have K:Calm Q.J (C.w1 k (.at Y .run)):=tM (s':=.at Y .run) (k:=k) (m':=C.m) (c':=C.c) (v':=C.v) (il:=C.wt) (ig:=C.ws) (lq:=C.γ) (kh:=C.dn) (jQ:=C.tok) L nofun nofun id fun _ y=>y;obtain⟨B,G,R,H,V⟩:=gR.MI.finish (g:=(nd (k+1)).g) F Z T (.inl K) K.pq;exact⟨B,_,_,_,_,sl,_,_,rfl,R,H,V,.inl (by rw[(qy (fu:=fu) G).1];exact D)⟩
theorem gR.MI.KY(M:Q.MI C nd fu gs w t q rel)(R:Q.Laws)(h:CI Q.J Q.gX C)(F:Calm Q.J C){f:Nat}(hk:k<C.j){pc Y:Q.E.kU}(e:C.ks k=.at pc .run)(hf:fu (k+1)=f+1){w1:ah}{m':Word}(ht:Q.E.Tree Q.P false (Q.WS (Q.ch C k) f Y) (nd (k+1)).S (nd (k+1)).X g1 w1)(fn:au)(pos:String)
  (hm:Q.E.MuAt w1 m' c')(Z:Env.Eff Q.E.Fd w w1)(H:Env.EvA Q.E.Fd es)(hw:C.c<c'->bp Q.P (nd (k+1)).g=true)(O:CI Q.J Q.gX (C.mv k Y m' c'))(N:mu Q.J (C.mv k Y m' c')<mu Q.J C)(V:vg Y=vg pc):
  Q.jO C nd fu q (ao ((gs.map (aJ Q.P (nd (k+1)).g g1 w1)).setIfInBounds (Q.b+k) g1) w1 sl) (t++ak (Q.b+k) fn pos es):=by
 have W:Q.b+k<gs.size:=by rw[M.size];omega
 have us:(C.mv k Y m' c').ks k=.at Y .run:=upd_same _ _ _;have G:g1.status=.running:=by
  have T:mu Q.J (C.mv k Y m' c')<=f:=by have:=M.fuel (k+1) hk;omega
  exact tx ht fun y=>(vZ R (aQ (Sd _ _) T) y).1
 have o:=M.gI (C':=C.mv k Y m' c') (f':=f) (g1:=g1) (w1:=w1) (ops:=ak (Q.b+k) fn pos es) (jX:=rel) R hk rfl rfl rfl rfl (fun i K=>upd_ne _ _ K) (by
   rw[us];exact⟨aL W,ht,fun y=>absurd rfl y⟩) (fun S=>Q_ S M.wd.mu hm Z) Z.size (by have:=M.fuel (k+1) hk;omega) (aU N) rfl ((M.wd.mv R M.iq h.len Z hm).cfg rfl rfl rfl rfl rfl (fun e=>⟨e,rfl⟩) rfl rfl rfl)
   (M.tr.app (.inr ⟨bI _ _,by omega⟩) (H7 H (.inl rfl) _) (fun _ p D=>by rw[M.xK hk e]at D;cases D)) p8 (fun _=>by
   rw[us,aP,C7 H,M.nf k hk (fun q y=>by rw[e]at y;cases y),e];exact V.symm) (by
   rw[us,M.xK hk e];exact⟨(fun⟨p,D⟩=>by cases D),fun y=>y.elim⟩) (fun _ _=>rfl) (H8 H (M.iq.nR _ R.rf) _)
 have I:Calm Q.J (C.mv k Y m' c')\/(bp Q.P (nd (k+1)).g=true/\(g1.status=.running\/g1.status=.finished)):=by
  by_cases s:C.c<c'
  ·exact .inr ⟨hw s,.inl G⟩
  ·exact .inl (tM (s':=.at Y .run) (k:=k) (m':=m') (c':=c') (v':=C.v) (il:=C.wt) (ig:=C.ws) (lq:=C.γ) (kh:=C.dn) (jQ:=C.tok) F nofun nofun (fun y=>by omega) fun _ y=>y)
 have D:∀i,(C.mv k Y m' c').dm=.ic->(C.mv k Y m' c').d=.send (C.mv k Y m' c').L i->∀pc,(C.mv k Y m' c').ks (i%Q.J.n)≠.at pc .ic:=by
  intro i O U z K;change upd C.ks k _ _=_ at K;by_cases e:i%Q.J.n=k
  ·rw[e,upd_same]at K;cases K
  ·rw[upd_ne _ _ e]at K;exact F.pq i O U z K
 obtain⟨l,U,B,A,r⟩:=gR.MI.finish (g:=(nd (k+1)).g) R O o I D;exact⟨l,_,_,_,_,sl,_,_,rfl,B,A,r,.inl (by rw[(qy (fu:=fu) U).1];exact N)⟩
end
end Ph
namespace Ph
open Conc Ren
open Lock (Word PC Mv bn iT bw dw)
open ConcN (sumTo upd sumTo_upd upd_ne upd_same sumTo_congr sumTo_le le_sumTo)
section
variable{Q:gR}{nd:Nat->Nd}{fu:Nat->Nat}{C C':iI Q.E}{w w':ah}{gs n_:Array ai}{t t':aV}{q:Nat->Nat}{rel jX:Nat->Option Nat}{sl:Option (Nat×Nat)}
theorem acQ{E:Env}{b:Nat}(H:¬RO E.Mp)(h:∀i a,a≠E.Mp->(vQ i a↔XX i a)):nc E RO b vQ=nc E RO b XX:=by
 have Y:∀a,mK E RO b vQ a=mK E RO b XX a:=fun a=>by
  by_cases e:a=E.Mp
  ·subst e;rw[Iy H,Iy H]
  ·exact Ho fun i=>h i a e
 funext l;cases l with
 |cell a=>simp[nc,Y]
 |obj a=>exact Y a
 |_=>rfl
theorem gR.Sets.turn{j:Nat}{L:List Nat}{B:Nat}(h:Q.Sets nd j L tok B)(hk:k<j){H:Nd}(Z:∀a,a≠Q.E.Mp->(H.S a↔(nd (k+1)).S a))(hX:∀a,a≠Q.E.Mp->(H.X a↔(nd (k+1)).X a))(F:H.S Q.E.Mp↔H.X Q.E.Mp)(W:H.S Q.E.Mp->jQ=some k)(ho:∀i,i<=j->i≠k+1->¬(nd i).S Q.E.Mp)(M:¬Q.RO Q.E.Mp):Q.Sets (upd nd (k+1) H) j L jQ B:=by
 have us:upd nd (k+1) H (k+1)=H:=upd_same _ _ _;have un:∀i,i≠k+1->upd nd (k+1) H i=nd i:=fun i Y=>upd_ne _ _ Y;have R:∀i a,a≠Q.E.Mp->((upd nd (k+1) H i).S a↔(nd i).S a):=fun i a J=>by
  by_cases e:i=k+1
  ·subst e;rw[us];exact Z a J
  ·rw[un i e]
 have U:∀i a,a≠Q.E.Mp->((upd nd (k+1) H i).X a↔(nd i).X a):=fun i a J=>by
  by_cases e:i=k+1
  ·subst e;rw[us];exact hX a J
  ·rw[un i e]
 have C:∀i,i<=j->(upd nd (k+1) H i).S Q.E.Mp->i=k+1/\jQ=some k:=fun i Y K=>by
  by_cases e:i=k+1
  ·simp_all
  ·simp_all
 have T:∀i,i<=j->((upd nd (k+1) H i).X Q.E.Mp->(upd nd (k+1) H i).S Q.E.Mp):=fun i Y K=>by
  by_cases e:i=k+1
  ·subst e;rw[us]at K⊢;exact F.2 K
  ·rw[un i e]at K⊢;exact h.xs i Y _ K
 refine⟨fun i i' Y A I a D K=>?_,fun i Y a K=>?_,fun i Y a K=>?_,fun i Y a hr D=>?_,fun i Y a D=>?_,fun i Y K=>⟨k,C i Y K⟩,h.nR,h.uo,fun c G=>?_⟩
 ·by_cases e:a=Q.E.Mp
  ·subst e;have N:=(C i Y (T i Y D)).1;have O:=(C i' A K).1;omega
  ·exact h.xI i i' Y A I a ((U i a e).1 D) ((R i' a e).1 K)
 ·by_cases e:a=Q.E.Mp
  ·subst e;exact h.uo
  ·exact h.low i Y a ((R i a e).1 K)
 ·by_cases e:a=Q.E.Mp
  ·subst e;obtain⟨rfl,_⟩:=C i Y K;rw[us]at K⊢;exact .inr (F.1 K)
  ·exact(h.sub i Y a ((R i a e).1 K)).imp id (U i a e).2
 ·have e:a≠Q.E.Mp:=fun e=>M (e▸hr);exact h.mR i Y a hr ((U i a e).1 D)
 ·by_cases e:a=Q.E.Mp
  ·subst e;exact T i Y D
  ·exact(R i a e).2 (h.xs i Y a ((U i a e).1 D))
 ·obtain⟨N,O,P,V⟩:=h.nY c G;exact⟨N,O,P,fun i Y K=>V i Y ((R i c P).1 K)⟩
theorem gR.Qf{j:Nat}{L:List Nat}{H:Nd}(Y:¬Q.RO Q.E.Mp)(hX:∀a,a≠Q.E.Mp->(H.X a↔(nd (k+1)).X a)):Q.cls (upd nd (k+1) H) j L=Q.cls nd j L:=by
 refine acQ Y fun i a K=>?_;unfold gR.ov;by_cases e:i=k+1
 ·subst e;rw[upd_same,hX a K]
 ·rw[upd_ne _ _ e]
theorem gR.MI.wla(M:Q.MI C nd fu gs w t q rel)(H:Q.Laws)(h:CI Q.J Q.gX C)(F:Calm Q.J C){f x:Nat}(hk:k<C.j)(e:C.ks k=.at (.la x) .run)(hf:fu (k+1)=f+1)
  (ht:Q.E.Tree Q.P false (Q.WS (Q.ch C k) f (.ur (Q.E.upd C.γ x))) (fun a=>(nd (k+1)).S a\/a=Q.E.Mp) (fun a=>(nd (k+1)).X a\/a=Q.E.Mp) g1 w)(fn:au)(pos:String):
  Q.jO C nd fu q (ao ((gs.map (aJ Q.P (nd (k+1)).g g1 w)).setIfInBounds (Q.b+k) g1) w sl) (t++ak (Q.b+k) fn pos #[⟨.mark (.acquire Q.E.mu),false,true⟩]):=by
 have L:Q.b+k<gs.size:=by rw[M.size];omega
 have K:=h.free hk e;obtain⟨G,I⟩:=h.take H.n8 hk e;have us:(C.take k x).ks k=.at (.ur (Q.E.upd C.γ x)) .run:=upd_same _ _ _;have R:Deaf t (Q.b+k)=0:=by rw[M.nf k hk (fun q y=>by rw[e]at y;cases y),e];rfl
 have hX:∀a,a≠Q.E.Mp->(((nd (k+1)).X a\/a=Q.E.Mp)↔(nd (k+1)).X a):=fun a B=>⟨fun y=>y.resolve_right B,.inl⟩;have z:∀a,a≠Q.E.Mp->(((nd (k+1)).S a\/a=Q.E.Mp)↔(nd (k+1)).S a):=fun a B=>⟨fun y=>y.resolve_right B,.inl⟩;have V:Q.MI (C.take k x) (upd nd (k+1) ⟨fun a=>(nd (k+1)).S a\/a=Q.E.Mp,fun a=>(nd (k+1)).X a\/a=Q.E.Mp,g1,w⟩) (upd fu (k+1) f) (gs.setIfInBounds (Q.b+k) g1) w (t++ak (Q.b+k) fn pos #[⟨.mark (.acquire Q.E.mu),false,true⟩]) q rel:=by
  refine M.BF (C':=C.take k x) H.b0 hk rfl rfl rfl rfl (fun i A=>upd_ne _ _ A) rfl ?_ (fun i A _=>.refl _ _ _) (.refl _ _ _) (by have:=M.fuel (k+1) hk;omega) (aU I) (M.iq.turn hk z hX ⟨fun _=>.inr rfl,fun _=>.inr rfl⟩ (fun _=>rfl) (fun i A _ o=>?_) H.rm) ?_ ?_ (fun _=>?_) (fun g d=>aY t (fun y=>d y.symm) _ p8) ?_ (fun _ _=>rfl) (pO M.seen (ar _) (tD (m:=.acquire Q.E.mu) ⟨M.iq.nR _ H.rf,nofun⟩))
  ·rw[us];exact⟨aL L,ht,fun y=>absurd rfl y⟩
  ·obtain⟨_,_,O⟩:=M.iq.mp i A o;rw[K]at O;cases O
  ·exact⟨M.wd.mu,M.wd.wg,nofun,M.wd.shut,M.wd.opn,M.wd.tape,M.wd.out⟩
  ·rw[gR.Qf H.rm hX,uC];have N:=M.tr;rw[K]at N;exact N.lock (.inr ⟨bI _ _,by omega⟩) R
  ·rw[us,aP,R];rfl
  ·rw[us,M.xK hk e];exact⟨(fun⟨p,l⟩=>by cases l),fun y=>y.elim⟩
 have Y:Calm Q.J (C.take k x):=tM (s':=.at (.ur (Q.E.upd C.γ x)) .run) (k:=k) (m':=C.m) (c':=C.c) (v':=C.v) (il:=C.wt) (ig:=C.ws) (lq:=Q.E.upd C.γ x) (kh:=C.dn++[x]) (jQ:=some k) F nofun nofun id fun _ y=>y;obtain⟨T,W,U,D,Z⟩:=gR.MI.finish (g:=(nd (k+1)).g) H G V (.inl Y) Y.pq;exact⟨T,_,_,_,_,sl,_,_,rfl,U,D,Z,.inl (by rw[(qy (fu:=fu) W).1];exact I)⟩
theorem gR.MI.wur(M:Q.MI C nd fu gs w t q rel)(H:Q.Laws)(h:CI Q.J Q.gX C)(O:Calm Q.J C){f:Nat}{γ:Q.E.Γ}(hk:k<C.j)(e:C.ks k=.at (.ur γ) .run)(hf:fu (k+1)=f+1)(F:Q.E.mJ γ (w.heap[Q.E.Mp]?))
  (ht:Q.E.Tree Q.P false (Q.WS (Q.ch C k) f .ud) (fun a=>(nd (k+1)).S a/\a≠Q.E.Mp) (fun a=>(nd (k+1)).X a/\a≠Q.E.Mp) g1 w)(fn:au)(pos:String):
  Q.jO C nd fu q (ao ((gs.map (aJ Q.P (nd (k+1)).g g1 w)).setIfInBounds (Q.b+k) g1) w sl) (t++ak (Q.b+k) fn pos #[⟨.mark (.releaseMerge Q.E.mu),false,true⟩]):=by
 have T:Q.b+k<gs.size:=by rw[M.size];omega
 obtain⟨l,A,K,V⟩:=h.give H.n8 hk e;have us:(C.give k).ks k=.at .ud .run:=upd_same _ _ _;have R:Deaf t (Q.b+k)=0:=by rw[M.nf k hk (fun q y=>by rw[e]at y;cases y),e];rfl
 have hX:∀a,a≠Q.E.Mp->(((nd (k+1)).X a/\a≠Q.E.Mp)↔(nd (k+1)).X a):=fun a N=>⟨fun y=>y.1,fun y=>⟨y,N⟩⟩;have o:∀a,a≠Q.E.Mp->(((nd (k+1)).S a/\a≠Q.E.Mp)↔(nd (k+1)).S a):=fun a N=>⟨fun y=>y.1,fun y=>⟨y,N⟩⟩;have z:Q.MI (C.give k) (upd nd (k+1) ⟨fun a=>(nd (k+1)).S a/\a≠Q.E.Mp,fun a=>(nd (k+1)).X a/\a≠Q.E.Mp,g1,w⟩) (upd fu (k+1) f) (gs.setIfInBounds (Q.b+k) g1) w (t++ak (Q.b+k) fn pos #[⟨.mark (.releaseMerge Q.E.mu),false,true⟩]) q rel:=by
  refine M.BF (C':=C.give k) H.b0 hk rfl rfl rfl rfl (fun i U=>upd_ne _ _ U) rfl ?_ (fun i U _=>.refl _ _ _) (.refl _ _ _) (by have:=M.fuel (k+1) hk;omega) (aU A) (M.iq.turn hk o hX ⟨fun y=>absurd rfl y.2,fun y=>absurd rfl y.2⟩ (fun y=>absurd rfl y.2) (fun i U I u=>?_) H.rm) ?_ ?_ (fun _=>?_) (fun g r=>aY t (fun y=>r y.symm) _ p8) ?_ (fun _ _=>rfl) (pO M.seen (ar _) (tD (m:=.releaseMerge Q.E.mu) ⟨M.iq.nR _ H.rf,nofun⟩))
  ·rw[us];exact⟨aL T,ht,fun y=>absurd rfl y⟩
  ·obtain⟨k',B,G⟩:=M.iq.mp i U u;rw[K]at G;cases G;exact I B
  ·exact⟨M.wd.mu,M.wd.wg,fun _=>by show Q.E.mJ C.γ _;rw[V];exact F,M.wd.shut,M.wd.opn,M.wd.tape,M.wd.out⟩
  ·rw[gR.Qf H.rm hX,uC];have Z:=M.tr;rw[K]at Z;exact Z.unlock (g:=Q.b+k) (.inr ⟨bI _ _,by omega⟩) R
  ·rw[us,aP,R];rfl
  ·rw[us,M.xK hk e];exact⟨(fun⟨p,s⟩=>by cases s),fun y=>y.elim⟩
 have Y:Calm Q.J (C.give k):=tM (s':=.at .ud .run) (k:=k) (m':=C.m) (c':=C.c) (v':=C.v) (il:=C.wt) (ig:=C.ws) (lq:=C.γ) (kh:=C.dn) (jQ:=none) O nofun nofun id fun _ y=>y;obtain⟨W,B,L,D,d⟩:=gR.MI.finish (g:=(nd (k+1)).g) H l z (.inl Y) Y.pq;exact⟨W,_,_,_,_,sl,_,_,rfl,L,D,d,.inl (by rw[(qy (fu:=fu) B).1];exact A)⟩
theorem gR.MI.BG(M:Q.MI C nd fu gs w t q rel)(h:Q.Laws)(hk:k<C.j)(hj:C'.j=C.j)(W:C'.L=C.L)(hd:C'.d=C.d)(N:C'.dm=C.dm)(O:∀i,i≠k->C'.ks i=C.ks i){w1:ah}{ops:Array _}
  (V:Q.uk (Q.ch C k) (gs.setIfInBounds (Q.b+k) g1) (t++ops) k (nd (k+1)) (fu (k+1)) (C'.ks k))(Z:∀S,gU Q.E.U S w w1)(G:w1.heap.size=w.heap.size)(Y:mu Q.J C'<=mu Q.J C)(tok:C'.tok=C.tok)(wd:Q.Wd C' w1)
  (tr:PT Q.b C.j Q.E.mu Q.E.st Q.jl (Q.cls nd C.j C.L) (t++ops) (C.tok.map (Q.b+ ·)) jX)(own:∀op∈ops,op.g=Q.b+k)(F:(∀q,C'.ks k≠.qt q)->Deaf (t++ops) (Q.b+k)=Be (C'.ks k))(H:(∃p,jX (Q.b+k)=some p)↔gR.xJ (C'.ks k))(R:∀i,i≠k->jX (Q.b+i)=rel (Q.b+i))(low:∀op∈ops,Seen w.heap.size op):
  Q.MI C' nd fu (gs.setIfInBounds (Q.b+k) g1) w1 (t++ops) q jX:=by
 have:=M.BF h.b0 hk hj W hd N O rfl V (fun i D _=>Z _) ((M.nZ _ hk).trans (Z _)) (bD Y (M.fuel _ hk)) Y (by rw[tC,G,tok];exact M.iq) wd (by rw[tC,tok];exact tr) F (fun g K=>aY t (fun y=>K y.symm) _ own) H R (pO M.seen (bC G.symm) (by simp_all));rw[tC,tC]at this;omega
theorem gR.MI.aj_(M:Q.MI C nd fu gs w t q rel)(R:Q.Laws)(h:CI Q.J Q.gX C)(F:Calm Q.J C)(hk:k<C.j)(e:C.ks k=.at .wr .run)(L:Env.ou Q.P (Q.E.t_ Q.P 4) n g1)(fn:au)(pos:String):
  Q.jO C nd fu q (ao ((gs.map (aJ Q.P (nd (k+1)).g g1 w)).setIfInBounds (Q.b+k) g1) w sl) (t++ak (Q.b+k) fn pos #[⟨.mark (.releaseMerge Q.E.st),false,true⟩]):=by
 have U:Q.b+k<gs.size:=by rw[M.size];omega
 have T:CI Q.J Q.gX (C.w1 k (.h_ 4 n)):=h.slip hk e rfl rfl nofun nofun (fun y=>rfl) nofun rfl (fun _ _ y=>y) trivial (fun i n e=>by cases e;exact ar _) (ar _);have D:mu Q.J (C.w1 k (.h_ 4 n))<mu Q.J C:=Ea R.n8 h.c1 (aQ hk h.jn) e (by show 5<6;omega);have us:(C.w1 k (.h_ 4 n)).ks k=.h_ 4 n:=upd_same _ _ _;have H:Deaf t (Q.b+k)=0:=by rw[M.nf k hk (fun q y=>by rw[e]at y;cases y),e];rfl
 have N:=M.BG (C':=C.w1 k (.h_ 4 n)) (g1:=g1) (w1:=w) (ops:=ak (Q.b+k) fn pos #[⟨.mark (.releaseMerge Q.E.st),false,true⟩]) (jX:=upd rel (Q.b+k) (some t.size)) R hk rfl rfl rfl rfl (fun i I=>upd_ne _ _ I) (by
   rw[us];exact⟨g1,aL U,L⟩) (fun S=>.refl _ _ _) rfl (aU D) rfl (M.wd.cfg rfl rfl rfl rfl rfl (fun e=>⟨e,rfl⟩) rfl rfl rfl)
   (by
    rw[uC];exact M.tr.release ⟨bI _ _,by omega⟩ H (upd_same _ _ _) fun i I=>upd_ne _ _ I) p8 (fun _=>by
   rw[us,aP,H];rfl) (by
   rw[us,upd_same];exact⟨fun _=>trivial,fun _=>⟨_,rfl⟩⟩) (fun i I=>upd_ne _ _ (by omega)) (tD (m:=.releaseMerge Q.E.st) ⟨M.iq.nR _ R.rw,nofun⟩)
 have Y:Calm Q.J (C.w1 k (.h_ 4 n)):=tM (s':=.h_ 4 n) (k:=k) (m':=C.m) (c':=C.c) (v':=C.v) (il:=C.wt) (ig:=C.ws) (lq:=C.γ) (kh:=C.dn) (jQ:=C.tok) F nofun nofun id fun _ y=>y;obtain⟨B,V,A,K,O⟩:=gR.MI.finish (g:=(nd (k+1)).g) R T N (.inl Y) Y.pq;exact⟨B,_,_,_,_,sl,_,_,rfl,A,K,O,.inl (by rw[(qy (fu:=fu) V).1];exact D)⟩
theorem aiu{s s':gZ Q.E}(hk:k<Q.J.n)(e:C.ks k=s)(L:nM s'<nM s)(F:Q.J.n<=8){Y:iI Q.E}(H:Y=C.w1 k s'\/Y=(C.w1 k s').oM Q.J):Q.nu Y q<Q.nu C q:=by
 have D:=rz (s':=s') nM _ hk e;have K:sumTo Q.J.n (fun i=>nM (Y.ks i))=sumTo Q.J.n (fun i=>nM (upd C.ks k s' i)):=by
  rcases H with rfl|rfl
  ·rfl
  ·exact sumTo_congr fun i _=>wX nM (fun _ _ _=>rfl) _ _
 have R:pG Y.dm+sumTo Q.J.n (fun i=>pH (Y.ks i))<=9:=by
  have r1:∀m,pG m<=1:=fun m=>by cases m<;>simp[pG]
  have r2:∀s:gZ Q.E,pH s<=1:=fun s=>by cases s<;>simp[pH,r1]
  have:=sumTo_le (f:=fun i=>pH (Y.ks i)) (j:=Q.J.n) fun i _=>r2 _;have:=r1 Y.dm;omega
 unfold gR.nu;omega
theorem agT{s s':gZ Q.E}(e:C.ks k=s)(H:∀pc md,s≠.at pc md)(R:∀pc md,s'≠.at pc md):Q.Df (C.w1 k s') fu=Q.Df C fu:=by
 funext i;cases i with
 |zero=>rfl
 |succ i=>
  show(match upd _ k s' i with|.at pc _=>Q.WS (Q.ch C i) _ pc|_=>fun _ _ _ _=>True)=(match C.ks i with|.at pc _=>Q.WS _ _ pc|_=>fun _ _ _ _=>True)
  by_cases Y:i=k
  ·subst Y;rw[upd_same,e];simp_all
  ·rw[upd_ne _ _ Y]
theorem gR.MI.Ty(M:Q.MI C nd fu gs w t q rel)(O:Q.Laws)(h:CI Q.J Q.gX C)(V:Calm Q.J C){s s':gZ Q.E}(hk:k<C.j)(e:C.ks k=s){g:ai}(Y:∀e∈es,e.mute=true)
  (R:(∃i n,s=.h_ i (n+1)/\s'=.h_ i n/\es=#[]/\Env.ou Q.P (Q.E.t_ Q.P i) n g1)\/(∃n,s=.qt (n+1)/\s'=.qt n/\bj Q.P n (bk (Deaf t (Q.b+k)) es) g1))(fn:au)(pos:String):
  Q.jO C nd fu q (ao ((gs.map (aJ Q.P g g1 w)).setIfInBounds (Q.b+k) g1) w sl) (t++ak (Q.b+k) fn pos es):=by
 have B:Q.b+k<gs.size:=by rw[M.size];omega
 have U:k<Q.J.n:=aQ hk h.jn;have X:∀pc md,s≠.at pc md:=by rcases R with⟨i,n,rfl,_⟩|⟨n,rfl,_⟩<;>nofun
 have K:∀pc md,s'≠.at pc md:=by rcases R with⟨i,n,_,rfl,_⟩|⟨n,_,rfl,_⟩<;>nofun
 have L:iV s=.out/\iV s'=.out:=by rcases R with⟨i,n,rfl,rfl,_⟩|⟨n,rfl,rfl,_⟩<;>exact⟨rfl,rfl⟩
 have hr:mB s'=mB s/\ll s'=ll s/\jy s'=jy s/\jD s'=jD s/\Gone s/\s'≠.no/\(∀y,qJ y s=0)/\nM s'<nM s:=by
  rcases R with⟨i,n,rfl,rfl,_⟩|⟨n,rfl,rfl,_⟩
  ·exact⟨rfl,rfl,rfl,rfl,trivial,nofun,fun _=>rfl,by show n<n+1;omega⟩
  ·exact⟨rfl,rfl,rfl,rfl,trivial,nofun,fun _=>rfl,by show n<n+1;omega⟩
 have f:CI Q.J Q.gX (C.w1 k s'):=h.slip hk e L.1 L.2 hr.2.2.2.2.2.1 K hr.2.2.2.2.2.2.1 (fun γ md=>X _ _) (by rw[hr.2.1]) (fun _ _ y=>by rw[hr.2.2.1,hr.2.2.2.1];exact y) hr.2.2.2.2.1 (fun i n e'=>by
  rcases R with⟨i',o,rfl,rfl,_⟩|⟨o,rfl,rfl,_⟩
  ·cases e';exact h.h_ k _ _ e
  ·cases e') (ar _)
 have F:mu Q.J (C.w1 k s')=mu Q.J C:=Q8 U e hr.1 (L.2.trans L.1.symm);have us:(C.w1 k s').ks k=s':=upd_same _ _ _;have G:=M.BG (C':=C.w1 k s') (g1:=g1) (w1:=w) (ops:=ak (Q.b+k) fn pos es) (jX:=rel) O hk rfl rfl rfl rfl (fun i l=>upd_ne _ _ l) (by
   rw[us];rcases R with⟨i,n,rfl,rfl,_,I⟩|⟨n,rfl,rfl,I⟩
   ·exact⟨g1,aL B,I⟩
   ·exact⟨g1,aL B,by rw[aP];exact I⟩) (fun S=>.refl _ _ _) rfl (bC F) rfl (M.wd.cfg rfl rfl rfl rfl rfl (fun e=>⟨e,rfl⟩) rfl rfl rfl)
   (M.tr.still fun op gN=>by
    obtain⟨ev,D,rfl⟩:=pS gN;refine⟨touch_mute (Y ev D),?_,?_,by show Q.b+k<Q.b+C.j;omega⟩
    ·intro y;have:=Y ev D;obtain⟨loc,wr,p⟩:=ev;cases loc<;>simp_all[Event.mute,aZ]
    ·intro y;have:=Y ev D;obtain⟨loc,wr,p⟩:=ev;cases loc<;>simp_all[Event.mute,aZ]) p8 (fun I=>by
   rw[us];rcases R with⟨i,n,rfl,rfl,rfl,_⟩|⟨n,rfl,rfl,_⟩
   ·rw[aP];have:=M.nf k hk (fun q y=>by rw[e]at y;cases y);rw[e]at this;exact this
   ·rw[us]at I;exact absurd rfl (I n)) (by
   rw[us,M.pw k hk,e];rcases R with⟨i,n,rfl,rfl,_⟩|⟨n,rfl,rfl,_⟩<;>exact Iff.rfl) (fun _ _=>rfl) (fun op gN=>by
   obtain⟨ev,D,rfl⟩:=pS gN;exact⟨low_mute (Y ev D) _,fun a=>On (Y ev D) a⟩)
 have H:Calm Q.J (C.w1 k s'):=tM (s':=s') (k:=k) (m':=C.m) (c':=C.c) (v':=C.v) (il:=C.wt) (ig:=C.ws) (lq:=C.γ) (kh:=C.dn) (jQ:=C.tok) V (fun _=>K _ _) (fun _=>K _ _) id fun _ y=>y;obtain⟨Z,T,N,A,W⟩:=gR.MI.finish (g:=g) O f G (.inl H) H.pq;obtain⟨z,d⟩:=qy (fu:=fu) T;exact⟨Z,_,_,_,_,sl,_,_,rfl,N,A,W,.inr ⟨z.trans F,d.trans (agT e X K),.inr ⟨rfl,aiu U e hr.2.2.2.2.2.2.2 O.n8 T⟩⟩⟩
end
section
variable{Q:gR}{nd:Nat->Nd}{fu:Nat->Nat}{C C':iI Q.E}{w w':ah}{gs n_:Array ai}{t t':aV}{q:Nat->Nat}{rel jX:Nat->Option Nat}{sl:Option (Nat×Nat)}
theorem gR.MI.wd4(M:Q.MI C nd fu gs w t q rel)(R:Q.Laws)(h:CI Q.J Q.gX C)(F:Calm Q.J C)(hk:k<C.j)(e:C.ks k=.h_ 4 0){g:ai}(L:Env.ou Q.P (Q.E.t_ Q.P 3) n g1)(fn:au)(pos:String):
  Q.jO C nd fu q (ao ((gs.map (aJ Q.P g g1 w)).setIfInBounds (Q.b+k) g1) w sl) (t++ak (Q.b+k) fn pos #[⟨.mark .disable,false,true⟩]):=by
 have I:Q.b+k<gs.size:=by rw[M.size];omega
 have N:CI Q.J Q.gX (C.w1 k (.h_ 3 n)):=h.slip hk e rfl rfl nofun nofun (fun y=>rfl) nofun rfl (fun _ _ y=>y) trivial (fun i n e=>by cases e;omega) (ar _);have H:mu Q.J (C.w1 k (.h_ 3 n))<mu Q.J C:=Ea R.n8 h.c1 (aQ hk h.jn) e (by show 4<5;omega);have us:(C.w1 k (.h_ 3 n)).ks k=.h_ 3 n:=upd_same _ _ _;have U:=M.BG (C':=C.w1 k (.h_ 3 n)) (g1:=g1) (w1:=w) (ops:=ak (Q.b+k) fn pos #[⟨.mark .disable,false,true⟩]) (jX:=rel) R hk rfl rfl rfl rfl (fun i T=>upd_ne _ _ T) (by
   rw[us];exact⟨g1,aL I,L⟩) (fun S=>.refl _ _ _) rfl (aU H) rfl (M.wd.cfg rfl rfl rfl rfl rfl (fun e=>⟨e,rfl⟩) rfl rfl rfl)
   (M.I7 (by omega) fn pos (.inl rfl)) p8 (fun _=>by
   rw[us,aP,M.nf k hk (fun q y=>by rw[e]at y;cases y),e];rfl) (by
   rw[us,M.pw k hk,e];exact Iff.rfl) (fun _ _=>rfl) (tD ⟨trivial,nofun⟩)
 have Y:Calm Q.J (C.w1 k (.h_ 3 n)):=tM (s':=.h_ 3 n) (k:=k) (m':=C.m) (c':=C.c) (v':=C.v) (il:=C.wt) (ig:=C.ws) (lq:=C.γ) (kh:=C.dn) (jQ:=C.tok) F nofun nofun id fun _ y=>y;obtain⟨A,O,D,K,B⟩:=gR.MI.finish (g:=g) R N U (.inl Y) Y.pq;exact⟨A,_,_,_,_,sl,_,_,rfl,D,K,B,.inl (by rw[(qy (fu:=fu) O).1];exact H)⟩
theorem gR.MI.Bp(M:Q.MI C nd fu gs w t q rel)(F:Q.Laws)(h:CI Q.J Q.gX C)(N:Calm Q.J C){s':gZ Q.E}(hk:k<C.j)(e:C.ks k=.h_ i 0)(H:i<=3){g:ai}{w1:ah}(W:Env.Eff Q.E.Wg w w1)(Z:Q.E.WgAt w1 v' il ig)(Y:Env.EvA Q.E.Wg es)
  (R:(∃i' n,s'=.h_ i' n/\i'<i/\Env.ou Q.P (Q.E.t_ Q.P i') n g1)\/(∃n,s'=.qt n/\bj Q.P n 1 g1))(pF:v'+ll s'=C.v+ll (.h_ i 0:gZ Q.E))(ph:∀e2 e0,nA C.d C.v C.wt C.ws (e2+jy (.h_ i 0:gZ Q.E)) (e0+jD (.h_ i 0:gZ Q.E))->nA C.d v' il ig (e2+jy s') (e0+jD s'))(hvd:iF Q.J v' C.d<=iF Q.J C.v C.d)(hvv:v'<=C.v)
  (hwk:(C.dm=.blk->C.ws=0->ig=0)\/(bp Q.P g=true/\(g1.status=.running\/g1.status=.finished)))(fn:au)(pos:String):
  Q.jO C nd fu q (ao ((gs.map (aJ Q.P g g1 w1)).setIfInBounds (Q.b+k) g1) w1 sl) (t++ak (Q.b+k) fn pos es):=by
 have T:Q.b+k<gs.size:=by rw[M.size];omega
 have z:k<Q.J.n:=aQ hk h.jn;have K:∀pc md,s'≠.at pc md:=by rcases R with⟨i,n,rfl,_⟩|⟨n,rfl,_⟩<;>nofun
 have I:CI Q.J Q.gX (C.wk k s' C.d C.dm C.m C.c v' il ig C.γ C.dn C.tok):=h.slip hk e rfl (by rcases R with⟨i,n,rfl,_⟩|⟨n,rfl,_⟩<;>rfl) (by rcases R with⟨i,n,rfl,_⟩|⟨n,rfl,_⟩<;>nofun) K (fun y=>rfl) nofun pF ph trivial (fun i' n e'=>by
  rcases R with⟨i,n,rfl,X,_⟩|⟨n,rfl,_⟩
  ·cases e';omega
  ·cases e') hvv
 have V:mu Q.J (C.wk k s' C.d C.dm C.m C.c v' il ig C.γ C.dn C.tok)<mu Q.J C:=by
  refine xG F.n8 h.c1 ?_;have:=xp (C:=C) (J:=Q.J) (s':=s') (d':=C.d) (oC:=C.dm) (m':=C.m) (c':=C.c) (v':=v') (il:=il) (ig:=ig) (lq:=C.γ) (kh:=C.dn) (jQ:=C.tok) z e;have hr:mB s'<i+1:=by
   rcases R with⟨i',n,rfl,X,_⟩|⟨n,rfl,_⟩
   ·show i'+1<i+1;omega
   ·show 0<i+1;omega
  have hr0:mB (gZ.h_ i 0:gZ Q.E)=i+1:=rfl;omega
 have O:Deaf t (Q.b+k)=1:=by
  rw[M.nf k hk (fun q y=>by rw[e]at y;cases y),e];show(if i<=3 then 1 else 0)=1
  rw[if_pos H]
 have us:(C.wk k s' C.d C.dm C.m C.c v' il ig C.γ C.dn C.tok).ks k=s':=upd_same _ _ _;have r:=M.BG (C':=C.wk k s' C.d C.dm C.m C.c v' il ig C.γ C.dn C.tok) (g1:=g1) (w1:=w1) (ops:=ak (Q.b+k) fn pos es) (jX:=rel) F hk rfl rfl rfl rfl (fun i H=>upd_ne _ _ H) (by
   rw[us];rcases R with⟨i',n,rfl,_,D⟩|⟨n,rfl,D⟩
   ·exact⟨g1,aL T,D⟩
   ·exact⟨g1,aL T,by rw[aP,C7 Y,O];exact D⟩) (fun S=>Iz S M.wd.wg Z W) W.size (aU V) rfl ((M.wd.gp F M.iq h.len W Z).cfg rfl rfl rfl rfl rfl (fun e=>⟨e,rfl⟩) rfl rfl rfl)
   (M.tr.app (.inr ⟨bI _ _,by omega⟩) (H7 Y (.inr rfl) _) (fun _ p l i x H hx hm=>by
    obtain⟨I,A,a,u,h4,X⟩:=Xb Y (by omega) i x H hx hm;exact⟨F.KX _ (by rw[u];exact⟨.inr h4,X⟩),I,A⟩)) p8 (fun D=>by
   rw[us,aP,C7 Y,O];rcases R with⟨i',n,rfl,X,_⟩|⟨n,rfl,_⟩
   ·show 1=(if i'<=3 then 1 else 0)
    rw[if_pos (by omega)]
   ·rw[us]at D;exact absurd rfl (D n)) (by
   rw[us,M.pw k hk,e];rcases R with⟨i',n,rfl,_⟩|⟨n,rfl,_⟩<;>exact Iff.rfl) (fun _ _=>rfl) (H8 Y (M.iq.nR _ F.rw) _)
 have l:∀i,C.dm=.ic->C.d=.send C.L i->∀pc,(C.wk k s' C.d C.dm C.m C.c v' il ig C.γ C.dn C.tok).ks (i%Q.J.n)≠.at pc .ic:=by
  intro i I A f H;change upd C.ks k _ _=_ at H;by_cases e:i%Q.J.n=k
  ·rw[e,upd_same]at H;exact absurd H (K _ _)
  ·rw[upd_ne _ _ e]at H;exact N.pq i I A f H
 have U:Calm Q.J (C.wk k s' C.d C.dm C.m C.c v' il ig C.γ C.dn C.tok)\/(bp Q.P g=true/\(g1.status=.running\/g1.status=.finished)):=
  hwk.imp (fun y=>tM (s':=s') (k:=k) (m':=C.m) (c':=C.c) (v':=v') (il:=il) (ig:=ig) (lq:=C.γ) (kh:=C.dn) (jQ:=C.tok) N (fun _=>K _ _) (fun _=>K _ _) id y) id
 obtain⟨o,A,G,B,s⟩:=gR.MI.finish (g:=g) F I r U l;exact⟨o,_,_,_,_,sl,_,_,rfl,G,B,s,.inl (by rw[(qy (fu:=fu) A).1];exact V)⟩
theorem gR.MI.offers(M:Q.MI C nd fu gs w t q rel)(L:Q.Laws){g:ai}(H:gs[i]?=some g)(c:Nat)(send:Bool):cG g c send=[]\/(i=0/\C.dm=.ic)\/∃k pc,i=Q.b+k/\k<C.j/\C.ks k=.at pc .ic:=by
 have P:=M.size;have O:=(bT.1 H).1;rcases cD i with rfl|A
 ·have Y:=M.g0;have f0:=M.sD (ay _);cases B:C.dm with
  |run=>
   rw[B]at Y;obtain rfl:=Option.some.inj (H.symm.trans Y.1);exact .inl (bO (by rw[tx Y.2 fun y=>(Cv f0 y).1];nofun) _ _)
  |blk=>
   rw[B]at Y;obtain rfl:=Option.some.inj (H.symm.trans Y.1);unfold cG;simp[Y.2.1]
  |ic=>exact .inr (.inl ⟨rfl,rfl⟩)
  |j_=>rw[B]at Y;exact Y.elim
 ·by_cases U:i<Q.b
  ·have:=(M.old i g A U H).status;exact .inl (bO (by rcases this with y|y<;>rw[y]<;>nofun) _ _)
  ·obtain⟨k,rfl⟩:∃k,i=Q.b+k:=⟨i-Q.b,by omega⟩;have hk:k<C.j:=by omega
   have K:=M.wk k hk;have F:=M.sD hk;cases I:C.ks k with
   |no=>rw[I]at K;exact K.elim
   |«at» pc md=>
    rw[I]at K;obtain⟨D,R,N⟩:=K;obtain rfl:=Option.some.inj (H.symm.trans D);cases md with
    |run=>exact .inl (bO (by show(nd _).g.status≠_;rw[tx R fun y=>(vZ L F y).1];nofun) _ _)
    |blk=>
     have:=(vZ L F (N nofun)).2;unfold cG;simp[JI,this]
    |ic=>exact .inr (.inr ⟨k,pc,rfl,hk,I⟩)
    |j_=>exact .inl (bO (by nofun) _ _)
   |h_ i n=>
    rw[I]at K;obtain⟨J,D,R⟩:=K;obtain rfl:=Option.some.inj (H.symm.trans D);exact .inl (bO (by rw[Cw R];nofun) _ _)
   |qt S=>
    rw[I]at K;obtain⟨J,D,R⟩:=K;obtain rfl:=Option.some.inj (H.symm.trans D);exact .inl (bO (by rcases R.status with y|y<;>rw[y]<;>nofun) _ _)
theorem gR.MI.zo(M:Q.MI C nd fu gs w t q rel){pc:Q.E.kU}(hk:k<C.j)(e:C.ks k=.at pc .ic):gs[Q.b+k]?=some (parked (nd (k+1)).g #[bP (Q.ch C k) Q.E.zc] (.recv true)):=by
 have:=M.wk k hk;rw[e]at this;exact this.1
theorem yZ(h:CI Q.J Q.gX C){k':Nat}(hk:k<C.j)(Y:k'<C.j)(e:Q.ch C k=Q.ch C k'):k=k':=by
 unfold gR.ch at e;rw[bc,bc,cz (by rw[h.len];exact hk),cz (by rw[h.len];omega)]at e;have K:=List.pairwise_iff_getElem.1 h.BE;have e':=e;rcases Nat.lt_trichotomy k k' with y|y|y
 ·simp_all
 ·exact y
 ·exact absurd e'.symm (K k' k _ _ y)
theorem gR.MI.agU(M:Q.MI C nd fu gs w t q rel)(H:Q.Laws)(h:CI Q.J Q.gX C)(hk:k<C.j)(F:∀pc,C.ks k≠.at pc .ic)(R:i0=0):cu (gs.setIfInBounds i0 ph) (Q.ch C k) false=[]:=by
 refine dq fun i g D=>?_;rcases cn gs i0 i g D with⟨_,rfl⟩|⟨I,Y⟩
 ·rfl
 ·rcases M.offers H Y _ _ with y|⟨rfl,_⟩|⟨k',pc,rfl,K,e⟩
  ·exact y
  ·omega
  ·obtain rfl:=Option.some.inj (Y.symm.trans (M.zo K e));rw[cH,if_neg];intro e';have:=yZ h K hk e';simp_all
theorem gR.MI.noSend(M:Q.MI C nd fu gs w t q rel)(N:Q.Laws)(h:CI Q.J Q.gX C)(hk:k<C.j)(V:∀i,C.dm=.ic->C.d=.send C.L i->i%Q.J.n≠k):cu (gs.setIfInBounds i0 ph) (Q.ch C k) true=[]:=by
 refine dq fun i g O=>?_;rcases cn gs i0 i g O with⟨_,rfl⟩|⟨I,Y⟩
 ·rfl
 ·rcases M.offers N Y _ _ with y|⟨rfl,A⟩|⟨k',pc,rfl,K,e⟩
  ·exact y
  ·have R:=M.g0;rw[A]at R;obtain⟨_,i,c,x,z,F,U,P,D,S,B,T⟩:=R;obtain rfl:=Option.some.inj (Y.symm.trans B);rw[dp,if_neg];intro e';subst e';have H:=by
    have:=(c_.1 D).1;rw[h.len]at this;omega
   have:Q.ch C (i%Q.J.n)=Q.ch C k:=by
    unfold gR.ch at D⊢;simp_all
   exact V i A U (yZ h H hk this)
  ·obtain rfl:=Option.some.inj (Y.symm.trans (M.zo K e));rw[dk]
theorem gR.MI.aeN(M:Q.MI C nd fu gs w t q rel)(H:Q.Laws)(h:CI Q.J Q.gX C){pc:Q.E.kU}(hk:k<C.j)(e:C.ks k=.at pc .ic):cu (gs.setIfInBounds 0 ph) (Q.ch C k) false=[(Q.b+k,0)]:=by
 have F:=H.b0;have U:=M.zo hk e;rw[dt (j:=Q.b+k) (by rw[nC (by omega)];exact U) (fun i g I A=>?_),cH,if_pos rfl]
 ·rfl
 ·rcases cn gs 0 i g A with⟨_,rfl⟩|⟨D,Y⟩
  ·rfl
  ·rcases M.offers H Y _ _ with y|⟨rfl,_⟩|⟨k',B,rfl,K,e'⟩
   ·exact y
   ·omega
   ·obtain rfl:=Option.some.inj (Y.symm.trans (M.zo K e'));rw[cH,if_neg];intro R;have:=yZ h K hk R;omega
theorem gR.MI.aeO(M:Q.MI C nd fu gs w t q rel)(H:Q.Laws){z:af}(R:gs[0]?=some (parked g0 #[scase (Q.ch C k) v z] .send)):cu (gs.setIfInBounds (Q.b+k) ph) (Q.ch C k) true=[(0,0)]:=by
 have B:=H.b0;rw[dt (j:=0) (by rw[nC (by omega)];exact R) (fun i g I A=>?_),dp,if_pos rfl]
 ·rfl
 ·rcases cn gs _ i g A with⟨_,rfl⟩|⟨D,Y⟩
  ·rfl
  ·rcases M.offers H Y _ _ with y|⟨rfl,_⟩|⟨k',U,rfl,K,e'⟩
   ·exact y
   ·omega
   ·obtain rfl:=Option.some.inj (Y.symm.trans (M.zo K e'));rw[dk]
theorem gR.MI.hand(M:Q.MI C nd fu gs w t q rel)(Z:Q.Laws)(h:CI Q.J Q.gX C)(BH:Calm Q.J C){x f0:Nat}{md:Md}(hk:k<C.j)(e:C.ks k=.at .recv md)(hd:C.d=.send C.L i)(hki:i%Q.J.n=k)(hx:Q.J.gP[i]?=some x)(hf:fu 0=f0+1){ops:Array bH}(hs:oi w (Q.ch C k) s)
  (h0:n_[0]?=some g0)(V:n_[Q.b+k]?=some gk)(ho:∀i,i≠0->i≠Q.b+k->n_[i]?=gs[i]?)(zP:n_.size=gs.size)
  (t0:Q.E.Tree Q.P true (Q.DS f0 (Q.J.sends C.L (i+1))) (nd 0).S (nd 0).X g0 (w.setChan (Q.ch C k) 0 #[] false (s+1) (s+1) false))(tk:Q.E.Tree Q.P false (Q.WS (Q.ch C k) (fu (k+1)) (.ld x)) (nd (k+1)).S (nd (k+1)).X gk (w.setChan (Q.ch C k) 0 #[] false (s+1) (s+1) false))
  (aka:∀op∈ops,op.act.touch?=none/\op.act≠.mark (.release Q.E.mu)/\op.act≠.mark (.release Q.E.st)/\op.g<Q.b+C.j)(R:∀g,Deaf (t++ops) g=Deaf t g)(TA:∀op∈ops,Seen w.heap.size op):
  Q.jO C nd fu q (ao n_ (w.setChan (Q.ch C k) 0 #[] false (s+1) (s+1) false) sl) (t++ops):=by
 have hb:=Z.b0;obtain⟨hC,z⟩:=h.hand Z.n0 Z.n8 hk e hd hx;have us:(C.hand Q.J k x i).ks k=.at (.ld x) .run:=upd_same _ _ _;have un:∀i',i'≠k->(C.hand Q.J k x i).ks i'=C.ks i':=fun i' Y=>upd_ne _ _ Y;have c:∀i',i'<=C.j->¬(nd i').S (Q.ch C k):=(M.iq.nY _ (qD h.len hk)).2.2.2;have I:(w.setChan (Q.ch C k) 0 #[] false (s+1) (s+1) false).heap.size=w.heap.size:=by simp[bM]
 have W:=(M.iq.nY _ (qD h.len hk)).1;have G:jc Q.J (Q.J.sends C.L (i+1))=jc Q.J C.d:=by
  rw[hd];rcases uN (J:=Q.J) (L:=C.L) (i:=i+1)with⟨_,U⟩|⟨_,U⟩<;>rw[U]<;>rfl
 have f:pe (Q.J.sends C.L (i+1))=pe C.d:=by
  rw[hd];rcases uN (J:=Q.J) (L:=C.L) (i:=i+1)with⟨_,U⟩|⟨_,U⟩<;>rw[U]<;>rfl
 have H:∀a,a≠Q.ch C k->(w.setChan (Q.ch C k) 0 #[] false (s+1) (s+1) false).heap[a]?=w.heap[a]?:=fun a ha=>by
  simp only[bM];rw[cO (fun y=>ha y.symm)]
 have D:=M.iq.nY _ (qD h.len hk)
 let n0:Nd:=⟨(nd 0).S,(nd 0).X,g0,w.setChan (Q.ch C k) 0 #[] false (s+1) (s+1) false⟩
 let A:Nd:=⟨(nd (k+1)).S,(nd (k+1)).X,gk,w.setChan (Q.ch C k) 0 #[] false (s+1) (s+1) false⟩
 have B:upd (upd nd 0 n0) (k+1) A 0=n0:=by rw[upd_ne _ _ (by omega),upd_same]
 have F:upd (upd nd 0 n0) (k+1) A (k+1)=A:=upd_same _ _ _;have N:∀i',i'≠0->i'≠k+1->upd (upd nd 0 n0) (k+1) A i'=nd i':=fun i' V U=>by rw[upd_ne _ _ U,upd_ne _ _ V]
 have O:upd fu 0 f0 0=f0:=upd_same _ _ _;have T:∀i',i'≠0->upd fu 0 f0 i'=fu i':=fun i' V=>upd_ne _ _ V;have m:Q.MI (C.hand Q.J k x i) (upd (upd nd 0 n0) (k+1) A) (upd fu 0 f0) n_ (w.setChan (Q.ch C k) 0 #[] false (s+1) (s+1) false) (t++ops) q rel:=by
  refine⟨zP.trans M.size,?_,fun i' Y=>?_,fun i' g Y l u=>?_,fun i' Y=>?_,fun i' Y=>?_,?_,?_,?_,?_,fun i' Y v=>?_,fun i' Y=>?_,fun i' Y=>?_,M.vq,pO M.seen (bC I.symm) (by rw[I];exact TA)⟩
  ·rw[B,O];exact⟨h0,t0⟩
  ·rw[T _ (by omega)];by_cases K:i'=k
   ·subst K;rw[F,us];exact⟨V,tk,fun y=>absurd rfl y⟩
   ·rw[N _ (by omega) (by omega),un i' K];exact(M.wk i' Y).keep (ho _ (by omega) (by omega)) (R _)
  ·rw[ho i' (by omega) (by omega)]at u;rw[R];exact M.old i' g Y l u
  ·by_cases K:i'=0
   ·subst K;rw[O];have:=M.fuel 0 (ay _);omega
   ·rw[T _ K];exact bD (aU z) (M.fuel i' Y)
  ·by_cases K:i'=0
   ·subst K;rw[B];exact .refl _ _ _
   ·by_cases p:i'=k+1
    ·subst p;rw[F];exact .refl _ _ _
    ·rw[N _ K p];exact(M.nZ i' Y).trans (wo (c i' Y))
  ·rw[I];exact(M.iq.same (i:=0) (n':=n0) rfl rfl).same (i:=k+1) (n':=A) (by rw[upd_ne _ _ (by omega)]) (by rw[upd_ne _ _ (by omega)])
  ·have hF:Q.E.Fd≠Q.ch C k:=fun y=>D.2.1 (y▸Z.rf);have hW:Q.E.Wg≠Q.ch C k:=fun y=>D.2.1 (y▸Z.rw);refine⟨?_,?_,fun y=>?_,fun i' Y r=>?_,fun i' Y r=>?_,M.wd.tape,M.wd.out⟩
   ·have:=M.wd.mu;unfold Env.MuAt at this⊢;rw[H _ hF];exact this
   ·have:=M.wd.wg;unfold Env.WgAt at this⊢;rw[H _ hW];exact this
   ·rw[H _ fun y=>D.2.2.1 y.symm];exact M.wd.map y
   ·have:¬i'<jc Q.J C.d:=by rw[hd];exact bh _
    exact absurd (G▸r) this
   ·by_cases K:i'=k
    ·subst K;exact⟨s+1,by show(w.setChan _ 0 #[] false (s+1) (s+1) false).heap[Q.ch C i']?=_;simp only[bM];rw[aL W]⟩
    ·obtain⟨s',o⟩:=M.wd.opn i' Y (by rw[hd];exact bh _);refine⟨s',?_⟩;show(w.setChan _ 0 #[] false (s+1) (s+1) false).heap[Q.ch C i']?=_
     rw[H _ fun y=>K (yZ h Y hk y)];exact o
  ·have:Q.cls (upd (upd nd 0 n0) (k+1) A) C.j C.L=Q.cls nd C.j C.L:=by
    unfold gR.cls;rw[gR.Ds (i:=k+1) (n':=A) (by rw[upd_ne _ _ (by omega)]),gR.Ds (i:=0) (n':=n0) rfl]
   show PT Q.b C.j _ _ _ (Q.cls (upd (upd nd 0 n0) (k+1) A) C.j C.L) _ (C.tok.map (Q.b+ ·)) rel
   rw[this];exact M.tr.still aka
  ·rw[R,M.deaf0];exact f.symm
  ·rw[R];by_cases K:i'=k
   ·subst K;rw[us,M.nf i' hk (fun q y=>by rw[e]at y;cases y),e];rfl
   ·rw[un i' K]at v⊢;exact M.nf i' Y v
  ·rw[R];exact M.above i' Y
  ·rw[M.pw i' Y];by_cases K:i'=k
   ·subst K;rw[us,e];exact Iff.rfl
   ·rw[un i' K]
 refine⟨_,_,_,_,_,sl,_,_,rfl,hC,⟨fun i' pc Y=>?_,fun i' pc Y=>?_,nofun,nofun⟩,m,.inl z⟩
 ·by_cases K:i'=k
  ·subst K;rw[us]at Y;cases Y
  ·rw[un i' K]at Y;exact BH.blk i' pc Y
 ·by_cases K:i'=k
  ·subst K;rw[us]at Y;cases Y
  ·rw[un i' K]at Y;show¬i'<jc Q.J (Q.J.sends C.L (i+1))
   rw[G];exact BH.ic i' pc Y
theorem AH{ops:Array bH}(h:∀op∈ops,op.act≠.mark .disable/\op.act≠.mark .enable)(g:Nat):Deaf (t++ops) g=Deaf t g:=by
 obtain⟨l⟩:=ops;rw[Deaf_append];have:∀(l:List _) (d:Nat),(∀op∈l,op.act≠.mark .disable/\op.act≠.mark .enable)->l.foldl (cE g) d=d:=by
  intro l;induction l with
  |nil=>intro d _;rfl
  |cons a l H=>
   intro d Y;rw[List.foldl_cons];have K:=Y a (by simp);have:cE g d a=d:=by
    unfold cE;simp_all
   simp_all
 simp_all
theorem gR.MI.aiv(M:Q.MI C nd fu gs w t q rel)(F:Q.Laws)(h:CI Q.J Q.gX C)(H:Calm Q.J C){md:Md}(hk:k<C.j)(e:C.ks k=.at .recv md)(L:k<jc Q.J C.d)(N:∀f,Q.E.Tree Q.P false (Q.WS (Q.ch C k) f .wr) (nd (k+1)).S (nd (k+1)).X gk w)(fn:au)(pos:String):
  Q.jO C nd fu q (ao (gs.setIfInBounds (Q.b+k) gk) w sl) (t++#[{g:=Q.b+k,fn,pos,act:=.recvClosed (Q.ch C k)}]):=by
 have R:Q.b+k<gs.size:=by rw[M.size];omega
 obtain⟨A,Y⟩:=h.shut F.n8 hk e L;have us:(C.w1 k (.at .wr .run)).ks k=.at .wr .run:=upd_same _ _ _;have D:=AH (t:=t) (ops:=#[({g:=Q.b+k,fn,pos,act:=.recvClosed (Q.ch C k)}:bH)]) (mE ⟨nofun,nofun⟩);have I:=M.gI (C':=C.w1 k (.at .wr .run)) (f':=fu (k+1)) (g1:=gk) (w1:=w) (ops:=#[{g:=Q.b+k,fn,pos,act:=.recvClosed (Q.ch C k)}]) (jX:=rel) F hk rfl rfl rfl rfl (fun i U=>upd_ne _ _ U) (by
   rw[us];exact⟨aL R,N _,fun y=>absurd rfl y⟩) (fun S=>.refl _ _ _) rfl (bD (aU Y) (M.fuel (k+1) hk)) (aU Y) rfl (M.wd.cfg rfl rfl rfl rfl rfl (fun e=>⟨e,rfl⟩) rfl rfl rfl)
   (M.tr.still (mE ⟨rfl,nofun,nofun,by show Q.b+k<Q.b+C.j;omega⟩)) (mE rfl) (fun _=>by
   rw[us,D,M.nf k hk (fun q y=>by rw[e]at y;cases y),e];rfl) (by
   rw[us,M.xK hk e];exact⟨(fun⟨p,B⟩=>by cases B),fun y=>y.elim⟩) (fun _ _=>rfl) (mE ⟨(M.iq.nY _ (qD h.len hk)).1,nofun⟩)
 have K:Calm Q.J (C.w1 k (.at .wr .run)):=tM (s':=.at .wr .run) (k:=k) (m':=C.m) (c':=C.c) (v':=C.v) (il:=C.wt) (ig:=C.ws) (lq:=C.γ) (kh:=C.dn) (jQ:=C.tok) H nofun nofun id fun _ y=>y;exact⟨_,_,_,_,_,sl,_,_,rfl,A,K,I,.inl Y⟩
end
section
variable{Q:gR}{nd:Nat->Nd}{fu:Nat->Nat}{C C':iI Q.E}{w w':ah}{gs n_:Array ai}{t t':aV}{q:Nat->Nat}{rel jX:Nat->Option Nat}{sl:Option (Nat×Nat)}
theorem gR.MI.sX(M:Q.MI C nd fu gs w t q rel)(Y:Q.Laws):0<gs.size:=by rw[M.size];have:=Y.b0;omega
theorem gR.MI.aiw(M:Q.MI C nd fu gs w t q rel)(Y:Q.Laws)(h:CI Q.J Q.gX C)(H:Calm Q.J C)(R:C.dm=.run){w1:ah}{es:Array _}(G:¬Q.DS (fu 0) C.d (nd 0).S (nd 0).X (nd 0).g (nd 0).w)
  (gF:aH Q.P true (nd 0).g w=.go g1 w1 es)(hd:kz Q.E.U (nd 0).S (nd 0).X w w1 es S1 X1)(W:Tz Q.P true Q.E.U (Q.DS (fu 0) C.d) S1 X1 g1 w1)(fn:au)(pos:String):
  Q.jO C nd fu q (ao ((gs.map (aJ Q.P (nd 0).g g1 w1)).setIfInBounds 0 g1) w1 sl) (t++ak 0 fn pos es):=by
 have B:=M.sX Y;have L:Q.MI C (upd nd 0 ⟨S1,X1,g1,w1⟩) (upd fu 0 (fu 0)) (gs.setIfInBounds 0 g1) w1 (t++ak 0 fn pos es) q rel:=by
  refine M.m0 Y.b0 rfl rfl rfl rfl ?_ (fun i A I=>Qe M.iq (ay _) A (fun y=>I y.symm) hd) (.refl _ _ _) (M.fuel _ (ay _)) (ar _) (M.iq.did (ay _) hd) (M.wd.did M.iq Y h.len (ay _) hd) ?_ ?_ (fun g Z=>aY t (fun y=>Z y.symm) _ p8) (pO M.seen hd.grow (Qd hd (M.iq.low _ (ay _)) _))
  ·rw[R];exact⟨aL B,W⟩
  ·exact M.SS Y (ay _) hd fn pos (fun y=>absurd rfl y)
  ·rw[aP,Qc hd];exact M.deaf0
 obtain⟨F,V,D,K,N⟩:=gR.MI.finish Y h L (.inl H) H.pq;obtain⟨O,T⟩:=qy V;refine⟨F,_,_,_,_,sl,_,_,rfl,D,K,N,.inr ⟨O,T,.inl ⟨0,by omega,?_,fun i _ A=>upd_ne _ _ A⟩⟩⟩;exact⟨G,w,es,M.nZ _ (ay _),gF,hd⟩
theorem aeP(Y:Calm Q.J C){d':jK}(H:jc Q.J d'=jc Q.J C.d):Calm Q.J (C.dd d' .run v' il ig):=
 ⟨Y.blk,fun k pc hk=>by show¬k<jc Q.J d';rw[H];exact Y.ic k pc hk,nofun,nofun⟩
theorem gR.MI.Ec(M:Q.MI C nd fu gs w t q rel)(H:Q.Laws)(h:CI Q.J Q.gX C)(F:Calm Q.J C){d':jK}{f:Nat}{w1:ah}{es:Array _}(hf:fu 0=f+1)(G:Q.E.Tree Q.P true (Q.DS f d') (nd 0).S (nd 0).X g1 w1)
  (W:∀i,i<=C.j->i≠0->gU Q.E.U (nd i).S w w1)(O:w1.heap.size=w.heap.size)(V:CI Q.J Q.gX (C.dd d' .run v' il ig))(N:mu Q.J (C.dd d' .run v' il ig)<mu Q.J C)(wd:Q.Wd (C.dd d' .run v' il ig) w1)(fn:au)(pos:String)
  (tr:PT Q.b C.j Q.E.mu Q.E.st Q.jl (Q.cls nd C.j C.L) (t++ak 0 fn pos es) (C.tok.map (Q.b+ ·)) rel)(df:pe d'=bk (pe C.d) es)(low:∀op∈ak 0 fn pos es,Seen w.heap.size op)(R:jc Q.J d'=jc Q.J C.d\/(bp Q.P (nd 0).g=true/\(g1.status=.running\/g1.status=.finished))):
  Q.jO C nd fu q (ao ((gs.map (aJ Q.P (nd 0).g g1 w1)).setIfInBounds 0 g1) w1 sl) (t++ak 0 fn pos es):=by
 have D:=M.sX H;have A:Q.MI (C.dd d' .run v' il ig) (upd nd 0 ⟨(nd 0).S,(nd 0).X,g1,w1⟩) (upd fu 0 f) (gs.setIfInBounds 0 g1) w1 (t++ak 0 fn pos es) q rel:=by
  refine M.m0 (C':=C.dd d' .run v' il ig) H.b0 rfl rfl rfl rfl ?_ W (.refl _ _ _) (by have:=M.fuel 0 (ay _);omega) (aU N) (by rw[O];exact M.iq.same rfl rfl) wd ?_ ?_ (fun g Z=>aY t (fun y=>Z y.symm) _ p8) (pO M.seen (bC O.symm) (by simp_all))
  ·exact⟨aL D,G⟩
  ·unfold gR.cls;rw[gR.Ds (n':=⟨(nd 0).S,(nd 0).X,g1,w1⟩) rfl];exact tr
  ·rw[aP,M.deaf0];exact df.symm
 obtain⟨I,T,K,Y,B⟩:=gR.MI.finish H V A (R.imp (aeP F) id) nofun;exact⟨I,_,_,_,_,sl,_,_,rfl,K,Y,B,.inl (by rw[(qy (fu:=fu) T).1];omega)⟩
theorem gR.MI.Ee(M:Q.MI C nd fu gs w t q rel)(R:Q.Laws)(h:CI Q.J Q.gX C)(H:Calm Q.J C){d':jK}{f:Nat}{m:Mark}(F:m=.disable\/m=.enable)(N:fu 0=f+1)(O:Q.E.Tree Q.P true (Q.DS f d') (nd 0).S (nd 0).X g1 w)
  (L:CI Q.J Q.gX (C.dd d' .run C.v C.wt C.ws))(hr:iF Q.J C.v d'<iF Q.J C.v C.d)(fn:au)(pos:String)(df:pe d'=bk (pe C.d) #[⟨.mark m,false,true⟩])(Y:jc Q.J d'=jc Q.J C.d):
  Q.jO C nd fu q (ao ((gs.map (aJ Q.P (nd 0).g g1 w)).setIfInBounds 0 g1) w sl) (t++ak 0 fn pos #[⟨.mark m,false,true⟩]):=
 M.Ec R h H N O (fun _ _ _=>.refl _ _ _) rfl L (D_ hr) (M.wd.cfg rfl rfl rfl rfl rfl (fun e=>⟨e,rfl⟩) rfl rfl Y) fn pos (M.I7 (by have:=R.b0;omega) fn pos F) df (tD (by rcases F with rfl|rfl<;>exact⟨trivial,nofun⟩)) (.inl Y)
theorem gR.MI.SU(M:Q.MI C nd fu gs w t q rel)(F:Q.Laws)(h:CI Q.J Q.gX C)(R:Calm Q.J C){d':jK}{f:Nat}{m:Mark}(H:m=.read Q.E.sm\/m=.write Q.E.sm)(O:fu 0=f+1)(V:Q.E.Tree Q.P true (Q.DS f d') (nd 0).S (nd 0).X g1 w)
  (N:CI Q.J Q.gX (C.dd d' .run C.v C.wt C.ws))(hr:iF Q.J C.v d'<iF Q.J C.v C.d)(fn:au)(pos:String)(df:pe d'=pe C.d)(Y:jc Q.J d'=jc Q.J C.d):
  Q.jO C nd fu q (ao ((gs.map (aJ Q.P (nd 0).g g1 w)).setIfInBounds 0 g1) w sl) (t++ak 0 fn pos #[⟨.mark m,false,true⟩]):=by
 have D:Q.cls nd C.j C.L (.cell Q.E.sm)=.at:=by
  simp only[nc];rw[if_pos (⟨.inr rfl,by omega⟩)]
 refine M.Ec F h R O V (fun _ _ _=>.refl _ _ _) rfl N (D_ hr) (M.wd.cfg rfl rfl rfl rfl rfl (fun e=>⟨e,rfl⟩) rfl rfl Y) fn pos ?_ ?_ (tD ?_) (.inl Y)
 ·rw[uC];refine M.tr.app (.inl rfl) (mE ?_) fun y=>absurd rfl y;refine⟨rfl,?_,?_,fun x K=>?_⟩
  ·rcases H with rfl|rfl<;>nofun
  ·rcases H with rfl|rfl<;>nofun
  ·rcases H with rfl|rfl<;>simp[cC,dc]at K<;>subst K<;>exact .inr (.inr (.inl ⟨D,rfl,rfl⟩))
 ·rcases H with rfl|rfl<;>exact df
 ·have:=M.iq.nR _ F.rw;rcases H with rfl|rfl<;>exact⟨this,nofun⟩
theorem gR.MI.vr(M:Q.MI C nd fu gs w t q rel)(F:Q.Laws)(h:CI Q.J Q.gX C)(L:Calm Q.J C){d':jK}{f:Nat}{w1:ah}{es:Array _}(V:fu 0=f+1)(Z:Q.E.Tree Q.P true (Q.DS f d') (nd 0).S (nd 0).X g1 w1)(N:Env.Eff Q.E.Wg w w1)(R:Q.E.WgAt w1 v' il ig)(Y:Env.EvA Q.E.Wg es)
  (O:CI Q.J Q.gX (C.dd d' .run v' il ig))(hr:iF Q.J v' d'<iF Q.J C.v C.d)(fn:au)(pos:String)(df:pe d'=pe C.d)(H:jc Q.J d'=jc Q.J C.d):
  Q.jO C nd fu q (ao ((gs.map (aJ Q.P (nd 0).g g1 w1)).setIfInBounds 0 g1) w1 sl) (t++ak 0 fn pos es):=
 M.Ec F h L V Z (fun _ _ _=>Iz _ M.wd.wg R N) N.size O (D_ hr) ((M.wd.gp F M.iq h.len N R).cfg rfl rfl rfl rfl rfl (fun e=>⟨e,rfl⟩) rfl rfl H) fn pos
  (M.tr.app (.inl rfl) (H7 Y (.inr rfl) _) fun y=>absurd rfl y) (by rw[C7 Y];exact df) (H8 Y (M.iq.nR _ F.rw) _) (.inl H)
theorem gR.MI.agV(M:Q.MI C nd fu gs w t q rel)(V:Q.Laws)(h:CI Q.J Q.gX C)(Z:Calm Q.J C){f:Nat}(hk:k<C.j)(hd:C.d=.close C.L k)(hs:oi w (Q.ch C k) s)(hw:bp Q.P (nd 0).g=true)(G:g1.status=.running)(hf:fu 0=f+1)
  (ht:Q.E.Tree Q.P true (Q.DS f (Q.J.closes C.L (k+1))) (nd 0).S (nd 0).X g1 (w.setChan (Q.ch C k) 0 #[] true s s false))(fn:au)(pos:String):
  Q.jO C nd fu q (ao ((gs.map (aJ Q.P (nd 0).g g1 (w.setChan (Q.ch C k) 0 #[] true s s false))).setIfInBounds 0 g1) (w.setChan (Q.ch C k) 0 #[] true s s false) sl) (t++ak 0 fn pos (bN (Q.ch C k))):=by
 have Y:=M.iq.nY _ (qD h.len hk);have D:=h.nW;rw[hd]at D;have u:C.j=Q.J.n:=D.2.1;have m:k<Q.J.n:=D.2.2;have N:jc Q.J (Q.J.closes C.L (k+1))=k+1:=by
  unfold bm;by_cases y:k+1<C.L.length
  ·rw[if_pos y];rfl
  ·rw[if_neg y];show Q.J.n=k+1
   rw[h.len]at y;omega
 have BI:jc Q.J C.d=k:=by rw[hd];rfl
 have W:(w.setChan (Q.ch C k) 0 #[] true s s false).heap.size=w.heap.size:=by simp[bM]
 have K:∀a,a≠Q.ch C k->(w.setChan (Q.ch C k) 0 #[] true s s false).heap[a]?=w.heap[a]?:=fun a p=>by
  simp only[bM];rw[cO (fun y=>p y.symm)]
 have T:∀O R,nA C.d C.v C.wt C.ws O R->nA (Q.J.closes C.L (k+1)) C.v C.wt C.ws O R:=by
  intro O R c;rw[hd]at c;obtain⟨a1,a2,a3,a4⟩:=c.early id;unfold bm;split<;>exact .inl ⟨a1,a2,a3,a4,id,fun y=>y.elim⟩
 have l:CI Q.J Q.gX (C.dd (Q.J.closes C.L (k+1)) .run C.v C.wt C.ws):=by
  refine h.dd ⟨nofun,nofun,nofun⟩ ?_ ?_ T (by rw[N,BI];omega) ?_ (fun v0 R=>by unfold bm at R;split at R<;>cases R)
  ·rw[hd];unfold bm;split<;>rfl
  ·rw[hd];unfold bm;split<;>rfl
  ·unfold bm;split
   ·rename_i y;rw[h.len]at y;exact⟨rfl,D.2.1,by omega⟩
   ·exact D.2.1
 have hr:iF Q.J C.v (Q.J.closes C.L (k+1))<iF Q.J C.v C.d:=by
  rw[hd];unfold bm;split
  ·simp only[iF];omega
  ·simp only[iF];omega
 have hF:Q.E.Fd≠Q.ch C k:=fun y=>Y.2.1 (y▸V.rf);have o:Q.E.Wg≠Q.ch C k:=fun y=>Y.2.1 (y▸V.rw);have B:Q.cls nd C.j C.L (.obj (Q.ch C k))=.own 0:=Qa Y.2.1 Y.2.2.1 (.inr ⟨rfl,qD h.len hk⟩) fun i' H=>M.iq.uniq H (.inr ⟨rfl,qD h.len hk⟩);refine M.Ec V h Z hf ht (fun i r _=>wo (Y.2.2.2 i r)) W l (D_ hr) ⟨?_,?_,fun y=>?_,fun i' H A=>?_,fun i' H A=>?_,M.wd.tape,M.wd.out⟩ fn pos ?_ ?_ ?_ (.inr ⟨hw,.inl G⟩)
 ·have:=M.wd.mu;unfold Env.MuAt at this⊢;rw[K _ hF];exact this
 ·have:=M.wd.wg;unfold Env.WgAt at this⊢;rw[K _ o];exact this
 ·rw[K _ fun y=>Y.2.2.1 y.symm];exact M.wd.map y
 ·change i'<jc Q.J (Q.J.closes C.L (k+1))at A;rw[N]at A;by_cases z:i'=k
  ·subst z;refine⟨s,?_⟩;show(w.setChan _ 0 #[] true s s false).heap[Q.ch C i']?=_
   simp only[bM];rw[aL Y.1]
  ·obtain⟨s',I⟩:=M.wd.shut i' H (by rw[BI];omega);refine⟨s',?_⟩;show(w.setChan _ 0 #[] true s s false).heap[Q.ch C i']?=_
   rw[K _ fun y=>z (yZ h H hk y)];exact I
 ·change¬i'<jc Q.J (Q.J.closes C.L (k+1))at A;rw[N]at A;obtain⟨s',I⟩:=M.wd.opn i' H (by rw[BI];omega);refine⟨s',?_⟩;show(w.setChan _ 0 #[] true s s false).heap[Q.ch C i']?=_
  rw[K _ fun y=>by have:=yZ h H hk y;omega];exact I
 ·refine M.tr.app (g:=0) (.inl rfl) (fun op gN=>?_) fun y=>absurd rfl y;obtain⟨ev,U,rfl⟩:=pS gN;simp only[bN,bA,bu,bB,or_false]at U;rcases U with rfl|rfl
  ·refine⟨rfl,nofun,nofun,fun x F=>?_⟩;simp only[aZ,cC,dc]at F;subst F;exact .inr (.inr (.inr (.inr (.inr B))))
  ·exact⟨rfl,nofun,nofun,fun x F=>by simp[aZ,cC]at F⟩
 ·rw[hd];have:bk 0 (bN (Q.ch C k))=0:=by simp[bN,bk]
  show pe (Q.J.closes C.L (k+1))=bk 0 _
  rw[this];unfold bm;split<;>rfl
 ·intro op gN;obtain⟨ev,U,rfl⟩:=pS gN;simp only[bN,bA,bu,bB,or_false]at U;rcases U with rfl|rfl
  ·exact⟨Y.1,nofun⟩
  ·exact⟨Y.1,nofun⟩
theorem aix{s s':gZ Q.E}(hk:k<Q.J.n)(e:C.ks k=s)(H:nM s'=nM s)(hr:pH s'<pH s):Q.nu (C.w1 k s') q<Q.nu C q:=by
 have Y:=rz (s':=s') nM _ hk e;have K:=rz (s':=s') pH _ hk e;show 10 *(sumTo Q.b q+sumTo _ (fun i=>nM (upd _ k s' i)))+(pG C.dm+sumTo _ (fun i=>pH (upd _ k s' i)))<10 *(sumTo Q.b q+sumTo _ _)+(pG _+sumTo _ _)
 omega
theorem aiy{pc:Q.E.kU}{md Y:Md}(e:C.ks k=.at pc md):Q.Df (C.w1 k (.at pc Y)) fu=Q.Df C fu:=by
 funext i;cases i with
 |zero=>rfl
 |succ i=>
  show(match upd C.ks k _ i with|.at pc _=>Q.WS (Q.ch C i) _ pc|_=>fun _ _ _ _=>True)=(match C.ks i with|.at pc _=>Q.WS (Q.ch C i) _ pc|_=>fun _ _ _ _=>True)
  by_cases K:i=k
  ·subst K;rw[upd_same,e]
  ·rw[upd_ne _ _ K]
theorem gR.MI.SV(M:Q.MI C nd fu gs w t q rel)(V:Q.Laws)(h:CI Q.J Q.gX C)(R:Calm Q.J C){pc:Q.E.kU}{lY:Md}(hk:k<C.j)(e:C.ks k=.at pc .run)(gF:Q.WS (Q.ch C k) (fu (k+1)) pc (nd (k+1)).S (nd (k+1)).X (nd (k+1)).g (nd (k+1)).w)
  (H:(lY=.blk/\(∃sv x,pc=.lk (.s1 sv) x)/\C.c=0)\/(lY=.ic/\pc=.recv/\¬k<jc Q.J C.d/\∀i,C.dm=.ic->C.d=.send C.L i->i%Q.J.n≠k)):
  Q.jO C nd fu q (ao (gs.setIfInBounds (Q.b+k) (JI (Q.ch C k) Q.E.zc lY (nd (k+1)).g)) w sl) (t++#[]):=by
 have N:Q.b+k<gs.size:=by rw[M.size];omega
 have B:k<Q.J.n:=aQ hk h.jn;have P:CI Q.J Q.gX (C.w1 k (.at pc lY)):=by
  refine h.quiet hk e rfl (fun y=>rfl) (fun γ y=>?_) (fun γ y=>?_) ?_ (fun y=>?_) (fun p x y=>h.qU k p x .run (by rw[e,y])) (fun p y=>h.oT k p .run (by rw[e,y]))
  ·simp_all
  ·simp_all
  ·rcases H with⟨rfl,I,_⟩|⟨rfl,rfl,_⟩
   ·simp_all
   ·simp
  ·rcases H with⟨rfl,⟨sv,x,rfl⟩,_⟩|⟨rfl,rfl,_⟩<;>exact y.elim
 have F:mu Q.J (C.w1 k (.at pc lY))=mu Q.J C:=Q8 B e rfl rfl;have us:(C.w1 k (.at pc lY)).ks k=.at pc lY:=upd_same _ _ _;have un:∀i,i≠k->(C.w1 k (.at pc lY)).ks i=C.ks i:=fun i Y=>upd_ne _ _ Y;have O:=M.BG (C':=C.w1 k (.at pc lY)) (w1:=w) (ops:=#[]) (jX:=rel) V hk rfl rfl rfl rfl un (by
   rw[us];exact⟨aL N,.stop gF,fun _=>gF⟩) (fun S=>.refl _ _ _) rfl (bC F) rfl (M.wd.cfg rfl rfl rfl rfl rfl (fun e=>⟨e,rfl⟩) rfl rfl rfl)
   (by exact M.tr) (by simp) (fun _=>by
   rw[us,cJ,M.nf k hk (fun q y=>by rw[e]at y;cases y),e];rfl) (by
   rw[us,M.pw k hk,e];exact Iff.rfl) (fun _ _=>rfl) (by simp)
 have A:Calm Q.J (C.w1 k (.at pc lY)):=by
  refine⟨fun i K Y=>?_,fun i K Y=>?_,R.J_,fun i hd U K Y=>?_⟩
  ·by_cases D:i=k
   ·subst D;rcases H with⟨_,_,I⟩|⟨rfl,_⟩
    ·exact I
    ·rw[us]at Y;cases Y
   ·rw[un i D]at Y;exact R.blk i K Y
  ·by_cases D:i=k
   ·subst D;rcases H with⟨rfl,_⟩|⟨_,_,I,_⟩
    ·rw[us]at Y;cases Y
    ·exact I
   ·rw[un i D]at Y;exact R.ic i K Y
  ·by_cases D:i%Q.J.n=k
   ·rcases H with⟨rfl,_⟩|⟨_,_,_,I⟩
    ·simp_all
    ·exact I i hd U D
   ·rw[un _ D]at Y;exact R.pq i hd U K Y
 refine⟨_,_,_,_,_,sl,_,_,rfl,P,A,O,.inr ⟨F,aiy e,.inr ⟨rfl,aix B e rfl ?_⟩⟩⟩;rcases H with⟨rfl,_⟩|⟨rfl,_⟩<;>exact Nat.zero_lt_one
theorem gR.MI.SW(M:Q.MI C nd fu gs w t q rel)(O:Q.Laws)(h:CI Q.J Q.gX C)(H:Calm Q.J C){lY:Md}(F:C.dm=.run)(N:Q.xH (gs.setIfInBounds 0 g1) (nd 0) (fu 0) C.L C.d lY)
  (Y:(lY=.blk/\C.d=.w3/\C.ws=0)\/(lY=.ic/\∃i,C.d=.send C.L i/\∀pc,C.ks (i%Q.J.n)≠.at pc .ic)):
  Q.jO C nd fu q (ao (gs.setIfInBounds 0 g1) w sl) (t++#[]):=by
 have A:CI Q.J Q.gX (C.dd C.d lY C.v C.wt C.ws):=by
  refine h.dd ?_ rfl rfl (fun _ _ y=>y) (ar _) h.nW h.w2;rcases Y with⟨rfl,K,_⟩|⟨rfl,i,K,_⟩
  ·simp_all
  ·simp_all
 have R:mu Q.J _=mu Q.J C:=rfl;have I:=M.m0 (C':=C.dd C.d lY C.v _ _) (t':=t++#[]) O.b0 rfl rfl rfl rfl N (fun _ _ _=>.refl _ _ _) (M.nZ 0 (ay _)) (M.fuel 0 (ay _)) (bC R) (by rw[tC];exact M.iq) (M.wd.cfg rfl rfl rfl rfl rfl (fun e=>⟨e,rfl⟩) rfl rfl rfl)
  (by rw[tC,cJ];exact M.tr) (by exact M.deaf0) (fun g _=>by simp) (by exact M.seen)
 rw[tC,tC]at I;have D:Calm Q.J (C.dd C.d lY C.v C.wt C.ws):=by
  refine⟨H.blk,H.ic,fun y=>?_,fun i y hd=>?_⟩
  ·rcases Y with⟨_,_,K⟩|⟨rfl,_⟩
   ·exact K
   ·cases y
  ·rcases Y with⟨rfl,_⟩|⟨_,i',K,U⟩
   ·cases y
   ·rw[K]at hd;cases hd;exact U
 refine⟨_,_,_,_,_,sl,_,_,rfl,A,D,I,.inr ⟨R,rfl,.inr ⟨rfl,?_⟩⟩⟩;show 10 *(sumTo Q.b q+sumTo _ (fun k=>nM (C.ks k)))+(pG lY+sumTo _ (fun k=>pH (C.ks k)))<10 *(sumTo Q.b q+sumTo _ _)+(pG _+sumTo _ _)
 rw[F];have P:pG .run=1:=rfl;have B:pG lY=0:=by rcases Y with⟨rfl,_⟩|⟨rfl,_⟩<;>rfl
 omega
theorem gR.MI.aeQ(M:Q.MI C nd fu gs w t q rel)(N:Q.Laws)(h:CI Q.J Q.gX C)(F:Calm Q.J C)(hi:0<i)(O:i<Q.b)(V:q i=n+1){g:ai}(H:∀e∈es,e.mute=true)(Z:bj Q.P n (bk (Deaf t i) es) g1)(fn:au)(pos:String):
  Q.jO C nd fu q (ao ((gs.map (aJ Q.P g g1 w)).setIfInBounds i g1) w sl) (t++ak i fn pos es):=by
 have u:=N.b0;have S:i<gs.size:=by rw[M.size];omega
 have Y:∀g,g≠i->Deaf (t++ak i fn pos es) g=Deaf t g:=fun g I=>aY t (fun y=>I y.symm) _ p8;have G:Q.MI C nd fu (gs.setIfInBounds i g1) w (t++ak i fn pos es) (upd q i n) rel:=by
  refine⟨by simp[M.size],M.g0.keep (nC (by omega)),fun k hk=>(M.wk k hk).keep (nC (by omega)) (Y _ (by omega)),fun i' o K U I=>?_,M.fuel,M.nZ,M.iq,M.wd,?_,?_,fun k hk V=>by rw[Y _ (by omega)];exact M.nf k hk V,fun i' K=>by rw[Y _ (by omega)];exact M.above i' K,M.pw,M.vq,pO M.seen (ar _) fun op gN=>by
   obtain⟨ev,R,rfl⟩:=pS gN;exact⟨low_mute (H ev R) _,fun a=>On (H ev R) a⟩⟩
  ·by_cases B:i'=i
   ·subst B;rw[aL S]at I;obtain rfl:=Option.some.inj I;rw[upd_same,aP];exact Z
   ·rw[nC (fun y=>B y.symm)]at I;rw[upd_ne _ _ B,Y _ B];exact M.old i' o K U I
  ·refine M.tr.still fun op gN=>?_;obtain⟨ev,R,rfl⟩:=pS gN;refine⟨touch_mute (H ev R),?_,?_,by show i<Q.b+C.j;omega⟩
   ·intro y;have:=H ev R;obtain⟨loc,wr,p⟩:=ev;cases loc<;>simp_all[Event.mute,aZ]
   ·intro y;have:=H ev R;obtain⟨loc,wr,p⟩:=ev;cases loc<;>simp_all[Event.mute,aZ]
  ·rw[Y 0 (by omega)];exact M.deaf0
 obtain⟨D,T,L,A,W⟩:=gR.MI.finish (g:=g) N h G (.inl F) F.pq;obtain⟨z,d⟩:=qy (fu:=fu) T;refine⟨D,_,_,_,_,sl,_,_,rfl,L,A,W,.inr ⟨z,d,.inr ⟨rfl,?_⟩⟩⟩;have X:sumTo Q.b (upd q i n)+(n+1)=sumTo Q.b q+n:=by
  have:=sumTo_upd q n id O;simpa[V]using this
 have l:sumTo Q.J.n (fun i=>nM (D.ks i))=sumTo Q.J.n (fun i=>nM (C.ks i)):=by
  rcases T with rfl|rfl
  ·rfl
  ·exact sumTo_congr fun i _=>wX nM (fun _ _ _=>rfl) _ _
 have r:pG D.dm+sumTo Q.J.n (fun i=>pH (D.ks i))<=9:=by
  have r1:∀m:Md,pG m<=1:=fun m=>by cases m<;>simp[pG]
  have r2:∀s:gZ Q.E,pH s<=1:=fun s=>by cases s<;>simp[pH,r1]
  have:=sumTo_le (f:=fun i=>pH (D.ks i)) (c:=1) (j:=Q.J.n) fun i _=>r2 _;have:=r1 D.dm;have:=N.n8;omega
 unfold gR.nu;rw[l];omega
end
section
variable{Q:gR}{nd:Nat->Nd}{fu:Nat->Nat}{C C':iI Q.E}{w w':ah}{gs n_:Array ai}{t t':aV}{q:Nat->Nat}{rel jX:Nat->Option Nat}{sl:Option (Nat×Nat)}
theorem AX(c f:Nat):Q.WS c f .recv=Q.A c:=by
 cases f<;>rfl
theorem Se(h:CI Q.J Q.gX C){c:Nat}(hk:k<C.j):(C.L++[c]).getD k 0=Q.ch C k:=by
 unfold gR.ch;rw[bc,bc,List.getElem?_append_left (by rw[h.len];exact hk)]
theorem Sf(h:CI Q.J Q.gX C){c:Nat}:(C.L++[c]).getD C.j 0=c:=by
 rw[bc,List.getElem?_append_right (by rw[h.len];omega),h.len];simp
theorem gR.MI.agW(M:Q.MI C nd fu gs w t q rel)(hQ:Q.Laws)(h:CI Q.J Q.gX C)(BH:Calm Q.J C){c f:Nat}{child:ai}(hd:C.d=.go C.L c)(hf:fu 0=f+1)(Z:(nd 0).S c)(BJ:(nd 0).X c)(KZ:oi w c 0)(Kb:Q.kG c child w)
  (ht:Q.E.Tree Q.P true (Q.DS f (Q.J.kM (C.L++[c]))) (fun a=>(nd 0).S a/\a≠c) (fun a=>(nd 0).X a/\a≠c) g1 w)(fn:au)(pos:String)(je:au)(R:String):
  Q.jO C nd fu q (ao ((gs.setIfInBounds 0 g1).push child) w sl) (t++#[{g:=0,fn,pos,act:=.go (Q.b+C.j)}]++#[{g:=Q.b+C.j,fn:=je,pos:=R,act:=.start}]):=by
 have hb:=hQ.b0;have xZ:=M.sX hQ;have hcL:c∉C.L:=fun y=>(M.iq.nY c y).2.2.2 0 (ay _) Z;have l:¬Q.RO c:=fun y=>M.iq.mR 0 (ay _) c y BJ;have hcM:c≠Q.E.Mp:=fun y=>by
  rw[y]at Z;obtain⟨k,e,_⟩:=M.iq.mp 0 (ay _) Z;cases e
 have m:=M.iq.low 0 (ay _) c Z;obtain⟨hC,hrk⟩:=h.spawn hQ.n0 hQ.n8 hd hcL;have K1:mu Q.J (C.spawn Q.J c)<mu Q.J C:=xG hQ.n8 (show(C.spawn Q.J c).c<=1 from h.c1) hrk;have us:(C.spawn Q.J c).ks C.j=.at .recv .run:=upd_same _ _ _;have un:∀i,i≠C.j->(C.spawn Q.J c).ks i=C.ks i:=fun i D=>upd_ne _ _ D
 let n0:Nd:=⟨fun a=>(nd 0).S a/\a≠c,fun a=>(nd 0).X a/\a≠c,g1,w⟩
 let T:Nd:=⟨Q.RO,fun _=>False,child,w⟩
 have o:upd (upd nd 0 n0) (C.j+1) T 0=n0:=by rw[upd_ne _ _ (by omega),upd_same]
 have r:upd (upd nd 0 n0) (C.j+1) T (C.j+1)=T:=upd_same _ _ _;have u:∀i,i≠0->i≠C.j+1->upd (upd nd 0 n0) (C.j+1) T i=nd i:=fun i Y H=>by rw[upd_ne _ _ H,upd_ne _ _ Y]
 have f0:upd (upd fu 0 f) (C.j+1) (mu Q.J C) 0=f:=by rw[upd_ne _ _ (by omega),upd_same]
 have fk:upd (upd fu 0 f) (C.j+1) (mu Q.J C) (C.j+1)=mu Q.J C:=upd_same _ _ _;have fo:∀i,i≠0->i≠C.j+1->upd (upd fu 0 f) (C.j+1) (mu Q.J C) i=fu i:=fun i Y H=>by rw[upd_ne _ _ H,upd_ne _ _ Y]
 have cN:jc Q.J (Q.J.kM (C.L++[c]))=0:=by
  rcases uH (J:=Q.J) (L:=C.L++[c])with⟨_,e⟩|⟨_,_,e⟩|⟨_,_,e⟩<;>rw[e]<;>rfl
 have dN:pe (Q.J.kM (C.L++[c]))=0:=by
  rcases uH (J:=Q.J) (L:=C.L++[c])with⟨_,e⟩|⟨_,_,e⟩|⟨_,_,e⟩<;>rw[e]<;>rfl
 have N:∀g,Deaf (t++#[({g:=0,fn,pos,act:=.go (Q.b+C.j)}:bH)]++#[{g:=Q.b+C.j,fn:=je,pos:=R,act:=.start}]) g=Deaf t g:=fun g=>by
  rw[AH (ops:=#[({g:=Q.b+C.j,fn:=je,pos:=R,act:=.start}:bH)]) (mE ⟨nofun,nofun⟩),AH (ops:=#[({g:=0,fn,pos,act:=.go (Q.b+C.j)}:bH)]) (mE ⟨nofun,nofun⟩)]
 have V:(gs.setIfInBounds 0 g1).size=Q.b+C.j:=by simp[M.size]
 have gp:∀i,i≠0->i≠Q.b+C.j->((gs.setIfInBounds 0 g1).push child)[i]?=gs[i]?:=fun i Y H=>by
  rw[cx,if_neg (by rw[V];exact H),nC (fun y=>Y y.symm)]
 have M1:Q.MI (C.spawn Q.J c) (upd (upd nd 0 n0) (C.j+1) T) (upd (upd fu 0 f) (C.j+1) (mu Q.J C)) ((gs.setIfInBounds 0 g1).push child) w (t++#[{g:=0,fn,pos,act:=.go (Q.b+C.j)}]++#[{g:=Q.b+C.j,fn:=je,pos:=R,act:=.start}]) q rel:=by
  refine⟨?_,?_,fun k hk=>?_,fun i g D hib hg=>?_,fun i D=>?_,fun i D=>?_,?_,?_,?_,?_,fun k hk hq=>?_,fun i D=>?_,fun k hk=>?_,fun k hk=>?_,?_⟩
  ·rw[Array.size_push,V];rfl
  ·rw[o,f0];refine⟨?_,ht⟩;rw[cx,if_neg (by rw[V];omega),aL xZ]
  ·have G:k<C.j+1:=hk;by_cases B:k=C.j
   ·subst B;rw[r,fk,us];refine⟨?_,?_,fun y=>absurd rfl y⟩
    ·rw[cx,if_pos (by rw[V])];rfl
    ·rw[AX];show Tz Q.P false Q.E.U (Q.A ((C.L++[c]).getD C.j 0)) _ _ _ _
     rw[Sf h];exact hQ.E2 Kb
   ·rw[u _ (by omega) (by omega),fo _ (by omega) (by omega),un k B];show Q.uk ((C.L++[c]).getD k 0) _ _ _ _ _ _
    rw[Se h (by omega)];exact(M.wk k (by omega)).keep (gp _ (by omega) (by omega)) (N _)
  ·rw[gp i (by omega) (by omega)]at hg;rw[N];exact M.old i g D hib hg
  ·have F:i<=C.j+1:=D;by_cases Y:i=0
   ·subst Y;rw[f0];have:=M.fuel 0 (ay _);omega
   ·by_cases H:i=C.j+1
    ·subst H;rw[fk];omega
    ·rw[fo i Y H];have:=M.fuel i (by omega);omega
  ·have F:i<=C.j+1:=D;by_cases Y:i=0
   ·subst Y;rw[o];exact .refl _ _ _
   ·by_cases H:i=C.j+1
    ·subst H;rw[r];exact .refl _ _ _
    ·rw[u i Y H];exact M.nZ i (by omega)
  ·
   have S':∀i a,i<=C.j+1->(upd (upd nd 0 n0) (C.j+1) T i).S a->(i<=C.j/\(nd i).S a/\(i=0->a≠c))\/(i=C.j+1/\Q.RO a):=by
    intro i a D K;by_cases Y:i=0
    ·subst Y;rw[o]at K;exact .inl ⟨ay _,K.1,fun _=>K.2⟩
    ·by_cases H:i=C.j+1
     ·subst H;rw[r]at K;exact .inr ⟨rfl,K⟩
     ·rw[u i Y H]at K;exact .inl ⟨by omega,K,fun y=>absurd y Y⟩
   have X':∀i a,i<=C.j+1->(upd (upd nd 0 n0) (C.j+1) T i).X a->i<=C.j/\(nd i).X a/\(i=0->a≠c):=by
    intro i a D K;by_cases Y:i=0
    ·subst Y;rw[o]at K;exact⟨ay _,K.1,fun _=>K.2⟩
    ·by_cases H:i=C.j+1
     ·subst H;rw[r]at K;exact K.elim
     ·rw[u i Y H]at K;exact⟨by omega,K,fun y=>absurd y Y⟩
   refine⟨fun i i' D F I a O K=>?_,fun i D a K=>?_,fun i D a K=>?_,fun i D a hr O=>?_,fun i D a O=>?_,fun i D K=>?_,M.iq.nR,M.iq.uo,fun c' n=>?_⟩
   ·obtain⟨a1,a2,_⟩:=X' i a D O;rcases S' i' a F K with⟨b1,b2,_⟩|⟨_,b2⟩
    ·exact M.iq.xI i i' a1 b1 I a a2 b2
    ·exact M.iq.mR i a1 a b2 a2
   ·rcases S' i a D K with⟨b1,b2,_⟩|⟨_,b2⟩
    ·exact M.iq.low i b1 a b2
    ·exact M.iq.nR a b2
   ·by_cases Y:i=0
    ·subst Y;rw[o]at K⊢;exact(M.iq.sub 0 (ay _) a K.1).imp id fun y=>⟨y,K.2⟩
    ·by_cases H:i=C.j+1
     ·subst H;rw[r]at K;exact .inl K
     ·have F:i<=C.j+1:=D;rw[u i Y H]at K⊢;exact M.iq.sub i (by omega) a K
   ·obtain⟨a1,a2,_⟩:=X' i a D O;exact M.iq.mR i a1 a hr a2
   ·by_cases Y:i=0
    ·subst Y;rw[o]at O⊢;exact⟨M.iq.xs 0 (ay _) a O.1,O.2⟩
    ·by_cases H:i=C.j+1
     ·subst H;rw[r]at O;exact O.elim
     ·have F:i<=C.j+1:=D;rw[u i Y H]at O⊢;exact M.iq.xs i (by omega) a O
   ·rcases S' i _ D K with⟨b1,b2,_⟩|⟨_,b2⟩
    ·exact M.iq.mp i b1 b2
    ·exact absurd b2 hQ.rm
   ·have hm:c'∈C.L\/c'=c:=by simpa using(show c'∈C.L++[c]from n)
    rcases hm with y|rfl
    ·obtain⟨Y,H,h3,h4⟩:=M.iq.nY c' y;refine⟨Y,H,h3,fun i D K=>?_⟩;rcases S' i c' D K with⟨b1,b2,_⟩|⟨_,b2⟩
     ·exact h4 i b1 b2
     ·exact H b2
    ·refine⟨m,l,hcM,fun i D K=>?_⟩;rcases S' i c' D K with⟨b1,b2,b3⟩|⟨_,b2⟩
     ·by_cases Y:i=0
      ·exact b3 Y rfl
      ·exact M.iq.xI 0 i (ay _) b1 (fun y=>Y y.symm) c' BJ b2
     ·exact l b2
  ·refine⟨M.wd.mu,M.wd.wg,M.wd.map,fun k hk W=>?_,fun k hk W=>?_,M.wd.tape,M.wd.out⟩
   ·change k<jc Q.J (Q.J.kM (C.L++[c]))at W;rw[cN]at W;exact absurd W (bh _)
   ·have G:k<C.j+1:=hk;by_cases B:k=C.j
    ·subst B;exact⟨0,by show oi w ((C.L++[c]).getD C.j 0) 0;rw[Sf h];exact KZ⟩
    ·obtain⟨s,K⟩:=M.wd.opn k (by omega) (by rw[hd];exact bh _);exact⟨s,by show oi w ((C.L++[c]).getD k 0) s;rw[Se h (by omega)];exact K⟩
  ·have x:Q.cls (upd (upd nd 0 n0) (C.j+1) T) (C.j+1) (C.L++[c])=Q.cls nd C.j C.L:=by
    have:gR.ov (upd (upd nd 0 n0) (C.j+1) T) (C.j+1) (C.L++[c])=gR.ov nd C.j C.L:=by
     funext i a;apply propext;unfold gR.ov;by_cases Y:i=0
     ·subst Y;rw[o];constructor
      ·rintro(⟨_,y⟩|⟨_,y⟩)
       ·exact .inl ⟨ay _,y.1⟩
       ·have hm:a∈C.L\/a=c:=by simpa using y
        rcases hm with y|rfl
        ·exact .inr ⟨rfl,y⟩
        ·exact .inl ⟨ay _,BJ⟩
      ·rintro(⟨_,y⟩|⟨_,y⟩)
       ·by_cases v:a=c
        ·exact .inr ⟨rfl,by simp[v]⟩
        ·exact .inl ⟨ay _,y,v⟩
       ·exact .inr ⟨rfl,by simp[y]⟩
     ·by_cases H:i=C.j+1
      ·subst H;rw[r];exact⟨fun y=>y.elim (fun z=>z.2.elim) fun z=>absurd z.1 Y,fun y=>y.elim (fun z=>by omega) fun z=>absurd z.1 Y⟩
      ·rw[u i Y H];exact⟨fun y=>y.imp (fun z=>⟨by omega,z.2⟩) fun z=>absurd z.1 Y,fun y=>y.imp (fun z=>⟨by omega,z.2⟩) fun z=>absurd z.1 Y⟩
    unfold gR.cls;rw[this]
   show PT Q.b (C.j+1) Q.E.mu Q.E.st Q.jl (Q.cls (upd (upd nd 0 n0) (C.j+1) T) (C.j+1) (C.L++[c])) _ (C.tok.map (Q.b+ ·)) rel
   rw[x];exact M.tr.fork (by rw[M.deaf0,hd];rfl) (M.above _ (ar _))
  ·rw[N,M.deaf0,hd];exact dN.symm
  ·have G:k<C.j+1:=hk;rw[N];by_cases B:k=C.j
   ·subst B;rw[us,M.above _ (ar _)];rfl
   ·rw[un k B]at hq⊢;exact M.nf k (by omega) hq
  ·have F:Q.b+(C.j+1)<=i:=D;rw[N];exact M.above i (by omega)
  ·have G:k<C.j+1:=hk;by_cases B:k=C.j
   ·subst B;rw[us,M.vq _ (ar _)];exact⟨(fun⟨p,hp⟩=>by cases hp),fun y=>y.elim⟩
   ·rw[un k B];exact M.pw k (by omega)
  ·have G:C.j+1<=k:=hk;exact M.vq k (by omega)
  ·exact pO (w:=w) (pO M.seen (ar _) (mE ⟨trivial,nofun⟩)) (ar _) (mE ⟨trivial,nofun⟩)
 refine⟨_,_,_,_,_,sl,_,_,rfl,hC,⟨fun k pc hk=>?_,fun k pc hk W=>?_,nofun,nofun⟩,M1,.inl K1⟩
 ·by_cases B:k=C.j
  ·subst B;rw[us]at hk;cases hk
  ·rw[un k B]at hk;exact BH.blk k pc hk
 ·change k<jc Q.J (Q.J.kM (C.L++[c]))at W;rw[cN]at W;exact absurd W (bh _)
def gR.xx(Q:gR)(m:Machine)(t:aV):=∃gs w sl q S X g,∃dn:List Nat,m=ao gs w sl/\gs[0]?=some g/\Q.Fin S X g w/\Leavers Q.P t gs q/\Past Q.jl w.heap.size t/\Q.E.mJ (dn.foldl Q.E.upd Q.gX) (w.heap[Q.E.Mp]?)/\dn.Perm Q.J.gP/\Q.E.MuAt w Word.zero 0/\Q.E.WgAt w 0 0 0/\w.tape=Q.w0.tape/\w.output=Q.w0.output/\(∀a,S a->a<w.heap.size)/\¬S Q.E.Mp/\Q.E.Mp<w.heap.size/\(∀op∈t,Seen w.heap.size op)
theorem nE(f:PC->Nat)(Y:f .out=0):∀n,Lock.ib f (fun _=>.out) n=0
 |0=>rfl
 |n+1=>by rw[Lock.ib,nE f Y n,Y]
theorem aaR{m:Word}{c:Nat}(h:Lock.Inv (fun _=>.out) n m c):m=Word.zero/\c=0:=by
 have H:=h.held;rw[nE _ rfl]at H;have B:m.L=false:=by
  cases e:m.L with
  |false=>rfl
  |true=>rw[e]at H;cases H
 cases D:m.S with
 |true=>
  obtain⟨_,_,_,_,A,F⟩:=h.lW D;rw[nE _ rfl,nE _ rfl,nE _ rfl]at A;omega
 |false=>
  obtain⟨Y,I,_⟩:=h.calm D;rw[nE _ rfl,nE _ rfl,nE _ rfl]at Y;rw[nE _ rfl,nE _ rfl]at I;have R:c=0:=by omega
  have C:m.W=0:=by omega
  have U:m.K=false:=by
   cases e:m.K with
   |false=>rfl
   |true=>
    rw[e,R]at Y;cases Y
  obtain⟨l,k,s,J⟩:=m;subst B D C U;exact⟨rfl,R⟩
theorem Ra{j:Nat}{f:Nat->Nat}(H:∀i,f i<=1)(Y:∀i,j<=i->f i=0)(L:j<=n)(hk:k<j)(F:f k=0):sumTo n f+1<=j:=by
 have D:∀n,j<=n->sumTo n f=sumTo j f:=by
  intro n;induction n with
  |zero=>intro h;omega
  |succ n K=>
   intro h;by_cases e:j=n+1
   ·rw[e]
   ·rw[sumTo,K (by omega),Y n (by omega)];rfl
 have R:=sumTo_upd f 1 id hk;have I:=sumTo_le (f:=fun a=>id (upd f k 1 a)) (c:=1) (j:=j) fun i _=>by
  by_cases e:i=k
  ·subst e;rw[upd_same];simp_all
  ·rw[upd_ne _ _ e];exact H i
 simp_all
theorem CI.over(h:CI Q.J Q.gX C)(R:zk C.d)(hk:k<C.j):∃n,C.ks k=.qt n:=by
 have U:C.v=0/\sumTo Q.J.n (fun k=>jy (C.ks k))=0/\sumTo Q.J.n (fun k=>jD (C.ks k))=0:=by
  rcases h.ph with⟨_,_,a,b,_,c⟩|⟨y,_⟩
  ·simp_all
  ·revert y R;cases C.d<;>intro a b<;>first|exact a.elim|exact b.elim
 have A:=h.pF;have Y:=aQ hk h.jn;have D:=le_sumTo (f:=fun k=>jy (C.ks k)) Y;have H:=le_sumTo (f:=fun k=>jD (C.ks k)) Y;have hd:ll (C.ks k)≠0:=by
  intro y;have:=Ra (f:=fun k=>ll (C.ks k)) (fun i=>by
   cases C.ks i<;>simp only[ll]<;>(try split)<;>omega) (fun i K=>by rw[h.no i K];rfl) h.jn hk y
  omega
 cases e:C.ks k with
 |no=>exact absurd e (h.yes k hk)
 |«at» pc md=>rw[e]at hd;exact absurd rfl hd
 |h_ i n=>
  rw[e]at hd;simp[e]at D H;by_cases K:i<=2
  ·by_cases I:i=0
   ·subst I;have:jD (gZ.h_ 0 n:gZ Q.E)=1:=rfl;omega
   ·have:jy (gZ.h_ i n:gZ Q.E)=1:=by
     show(if i=1\/i=2 then 1 else 0)=1
     rw[if_pos (by omega)]
    omega
  ·exact absurd (by show(if i<=2 then 1 else 0)=0;simp_all) hd
 |qt n=>exact⟨n,rfl⟩
theorem gR.MI.final(M:Q.MI C nd fu gs w t q rel)(F:Q.Laws)(h:CI Q.J Q.gX C)(hd:C.d=.aq){g:ai}(hF:Q.Fin (nd 0).S (nd 0).X g1 w)(fn:au)(pos:String):
  Q.xx (ao ((gs.map (aJ Q.P g g1 w)).setIfInBounds 0 g1) w sl) (t++ak 0 fn pos #[⟨.mark (.acquire Q.E.st),false,true⟩]):=by
 have hb:=F.b0;have N:=M.sX F;have Y:zk C.d:=by rw[hd];trivial
 have A:∀k,k<C.j->∃n,C.ks k=.qt n:=fun k hk=>h.over Y hk;have V:∀k,iV (C.ks k)=.out:=fun k=>by
  by_cases hk:k<C.j
  ·obtain⟨n,e⟩:=A k hk;rw[e];rfl
  ·rw[h.no k (by omega)];rfl
 have z:C.m=Word.zero/\C.c=0:=by
  have:=h.lock;rw[funext V]at this;exact aaR this
 have O:C.v=0/\C.wt=0/\C.ws=0:=by
  rcases h.ph with⟨a,b,_,_,_,c⟩|⟨y,_⟩
  ·exact⟨c Y,a,b⟩
  ·rw[hd]at y;exact y.elim
 have I:C.tok=none:=by
  cases e:C.tok with
  |none=>rfl
  |some k=>
   obtain⟨md,e'⟩:=h.rM k e;have hk:k<C.j:=bK fun y=>by rw[h.no k y]at e';cases e'
   obtain⟨n,o⟩:=A k hk;rw[o]at e';cases e'
 have D:∀k,Q.b<=k->k<Q.b+C.j->∃p,rel k=some p:=by
  intro k Z U;obtain⟨k',rfl⟩:∃k',k=Q.b+k':=⟨k-Q.b,by omega⟩;refine(M.pw k' (by omega)).2 ?_;obtain⟨n,e⟩:=A k' (by omega);rw[e];trivial
 have B:Deaf t 0=0:=by rw[M.deaf0,hd];rfl
 have H:∀g,g≠0->Deaf (t++ak 0 fn pos #[⟨.mark (.acquire Q.E.st),false,true⟩]) g=Deaf t g:=fun g r=>aY t (fun y=>r y.symm) _ p8;refine⟨_,w,sl,fun i=>if i<Q.b then q i else nM (C.ks (i-Q.b)),(nd 0).S,(nd 0).X,g1,C.dn,rfl,aL (by simpa using N),hF,⟨fun i u L R=>?_,fun i L=>?_⟩,?_,?_,?_,?_,?_,M.wd.tape,M.wd.out,M.iq.low 0 (ay _),fun y=>?_,M.iq.uo,pO M.seen (ar _) (tD ⟨M.iq.nR _ F.rw,nofun⟩)⟩
 ·rw[H i (by omega)];rw[nC (by omega),bU]at R;obtain⟨y,T,rfl⟩:=ck.1 R;by_cases K:i<Q.b
  ·simp only[if_pos K];have:=M.old i y L K T;rw[dx this];exact this
  ·simp only[if_neg K];have s:i<Q.b+C.j:=by rw[<-M.size];exact(bT.1 T).1
   obtain⟨k,rfl⟩:∃k,i=Q.b+k:=⟨i-Q.b,by omega⟩;have W:=M.wk k (by omega);obtain⟨n,e⟩:=A k (by omega);rw[e]at W;obtain⟨x,Z,U⟩:=W;obtain rfl:=Option.some.inj (T.symm.trans Z);rw[dx U,show Q.b+k-Q.b=k by omega,e];exact U
 ·have:Q.b+C.j<=i:=by simpa[M.size]using L
  rw[H i (by omega)];exact M.above i this
 ·rw[uC];refine M.tr.join D B fun op gN=>?_;have G:=pO M.seen (ar _) (tD (g:=0) (fn:=fn) (pos:=pos) (m:=.acquire Q.E.st) ⟨M.iq.nR _ F.rw,nofun⟩);rw[uC]at G;exact(G op gN).1
 ·rw[<-h.fold];exact M.wd.map I
 ·rw[List.perm_iff_count];intro y;have:=h.num y;rw[hd]at this;have l:sumTo Q.J.n (fun k=>qJ y (C.ks k))=0:=by
   have:=sumTo_le (f:=fun k=>qJ y (C.ks k)) (c:=0) (j:=Q.J.n) fun i _=>by
    by_cases hk:i<C.j
    ·obtain⟨n,e⟩:=A i hk;rw[e];exact ar _
    ·rw[h.no i (by omega)];exact ar _
   omega
  rw[l]at this;rw[show si Q.J jK.aq=Q.J.gP.length from rfl,List.take_length]at this;omega
 ·have:=M.wd.mu;rw[z.1,z.2]at this;exact this
 ·have:=M.wd.wg;rw[O.1,O.2.1,O.2.2]at this;exact this
 ·obtain⟨k,e,_⟩:=M.iq.mp 0 (ay _) y;cases e
end
section
variable{Q:gR}{nd:Nat->Nd}{fu:Nat->Nat}{C C':iI Q.E}{w w':ah}{gs n_:Array ai}{t t':aV}{q:Nat->Nat}{rel jX:Nat->Option Nat}{sl:Option (Nat×Nat)}
theorem gR.MI.at(M:Q.MI C nd fu gs w t q rel)(d:Nat):Q.MI C nd fu gs (w.at d) t q rel:=
 ⟨M.size,M.g0,M.wk,M.old,M.fuel,fun i Y=>(M.nZ i Y).trans (AU _ _ _ _),M.iq,M.wd.at d,M.tr,M.deaf0,M.nf,M.above,M.pw,M.vq,M.seen⟩
theorem M0{P:aK}{g:ai}{w1:ah}(h:g1.status=.blocked)(gs:Array _):gs.map (aJ P g g1 w1)=gs:=by
 have:aJ P g g1 w1=id:=by funext o;simp[aJ,h]
 simp_all
theorem yj(g:Nat)(fn:au)(pos:String):ak g fn pos #[]=#[]:=rfl
theorem gR.MI.SX(M:Q.MI C nd fu gs w t q rel)(H:Q.Laws)(h:CI Q.J Q.gX C)(F:Calm Q.J C){md:Md}(hk:k<C.j)(O:C.ks k=.at .recv md)(N:Q.A (Q.ch C k) (nd (k+1)).S (nd (k+1)).X (nd (k+1)).g (nd (k+1)).w)(V:gs[Q.b+k]?=some gx)
  (gF:aH Q.P false gx w=.comm (nd (k+1)).g #[bP (Q.ch C k) Q.E.zc] true (.recv true) w #[])(Z:md=.run\/k<jc Q.J C.d):
  ∃m' ops,runT Q.P (ao gs w sl) (Q.b+k)=(.next m',ops)/\Q.jO C nd fu q m' (t++ops):=by
 have hb:=H.b0;have B:(Q.b+k==0)=false:=by simp;omega
 have D:aH Q.P (Q.b+k==0) gx w=.comm (nd (k+1)).g #[bP (Q.ch C k) Q.E.zc] true (.recv true) w #[]:=by rw[B];exact gF
 have hr:=M.nZ (k+1) hk;by_cases Y:k<jc Q.J C.d
 ·obtain⟨s,U⟩:=M.wd.shut k hk Y;have G:=M.noSend (i0:=Q.b+k) H h hk (fun i _ hd=>by rw[hd]at Y;exact absurd Y (bh _));refine⟨_,_,crowd_recv_closed (sl:=sl) V D U G,?_⟩;exact M.aiv H h F hk O Y (fun f=>H.SQ N hr f) _ _
 ·obtain⟨s,U⟩:=M.wd.opn k hk Y;have T:md=.run:=Z.resolve_right Y;subst T;have waits:(∀i,C.dm=.ic->C.d=.send C.L i->i%Q.J.n≠k)->∃m' ops,runT Q.P (ao gs w sl) (Q.b+k)=(.next m',ops)/\Q.jO C nd fu q m' (t++ops):=by
   intro r;refine⟨_,_,crowd_waits (sl:=sl) V D (fun cc R=>?_),?_⟩
   ·simp only[bA,bu,bB,or_false]at R;subst R;exact ways_recv_none U (M.noSend H h hk r)
   ·rw[yj];exact M.SV H h F (lY:=.ic) hk O (by rw[AX];exact N) (.inr ⟨rfl,rfl,Y,r⟩)
  by_cases p:C.dm=.ic
  ·have o:=M.g0;rw[p]at o;obtain⟨_,i,c,x,z,f0,u,v,m,W,l,a⟩:=o;by_cases I:i%Q.J.n=k
   ·have R:c=Q.ch C k:=by
     unfold gR.ch;rw[<-I,bc,m];rfl
    subst R;have G:=M.aeO (k:=k) H l;refine⟨_,_,crowd_recv_meets (sl:=sl) V D U (by omega) l G,?_⟩;rw[yj,cK,di,dj];have hx:Q.ok x:=H.KW x (db W);have K:=M.iq.nY _ (qD h.len hk);have xZ:Q.b+k<gs.size:=by rw[M.size];omega
    refine M.hand H h F hk O u I W v U ?_ ?_ (fun i' e h2=>?_) (by simp) (a _ ((M.nZ 0 (ay _)).trans (wo (K.2.2.2 0 (ay _))))) (H.Ka N (hr.trans (wo (K.2.2.2 (k+1) hk))) hx _) ?_ (fun g=>AH ?_ g) ?_
    ·rw[nC (by omega),aL (M.sX H)]
    ·simp_all
    ·rw[nC (fun y=>h2 y.symm),nC (fun y=>e y.symm)]
    ·intro op gN;simp only[bA,bu,bB,or_false]at gN;rcases gN with rfl|rfl|rfl|rfl
     ·exact⟨rfl,nofun,nofun,by show 0<Q.b+C.j;omega⟩
     ·exact⟨rfl,nofun,nofun,by show Q.b+k<Q.b+C.j;omega⟩
     ·exact⟨rfl,nofun,nofun,by show 0<Q.b+C.j;omega⟩
     ·exact⟨rfl,nofun,nofun,by show Q.b+k<Q.b+C.j;omega⟩
    ·simp
    ·intro op gN;simp only[bA,bu,bB,or_false]at gN;rcases gN with rfl|rfl|rfl|rfl<;>exact⟨K.1,nofun⟩
   ·simp_all
  ·exact waits fun i y _=>absurd y p
theorem gR.MI.wz4(M:Q.MI C nd fu gs w t q rel)(L:Q.Laws)(h:CI Q.J Q.gX C)(Y:Calm Q.J C)(hk:k<C.j){g:ai}{R:Prop}(N:C.ks k=.h_ 4 0)(F:Q.E.Uq Q.P g)
  (H:∀{g1:ai} {w1:ah} {es:Array _},aH Q.P false g w=.go g1 w1 es->Q.jO C nd fu q (ao ((gs.map (aJ Q.P g g1 w1)).setIfInBounds (Q.b+k) g1) w1 sl) (t++ak (Q.b+k) g.frame.fn g.frame.place es)->R):R:=by
 obtain⟨_,g1,K,n,D⟩:=F;exact H (K w) (M.wd4 L h Y hk N D _ _)
theorem gR.MI.wz3(M:Q.MI C nd fu gs w t q rel)(V:Q.Laws)(h:CI Q.J Q.gX C)(H:Calm Q.J C)(hk:k<C.j){g:ai}{R:Prop}(N:C.ks k=.h_ 3 0)(h2:Q.E.KP Q.P g)
  (F:∀{g1:ai} {w1:ah} {es:Array bt},aH Q.P false g w=.go g1 w1 es->Q.jO C nd fu q (ao ((gs.map (aJ Q.P g g1 w1)).setIfInBounds (Q.b+k) g1) w1 sl) (t++ak (Q.b+k) g.frame.fn g.frame.place es)->R):R:=by
 have A:k<Q.J.n:=aQ hk h.jn;have u:=V.n8;have ph:=h.ph;have l2:=le_sumTo (f:=fun k=>jy (C.ks k)) A;have l0:=le_sumTo (f:=fun k=>jD (C.ks k)) A;simp only[N]at l2 l0;have I:=M.wd.wg;have W:=Ra (f:=fun k=>ll (C.ks k)) (j:=C.j) (n:=Q.J.n) (fun i=>by
  show ll (C.ks i)<=1
  cases C.ks i<;>simp only[ll]<;>(try split)<;>omega) (fun i p=>by show ll (C.ks i)=0;rw[h.no i p];rfl) h.jn hk (by show ll (C.ks k)=0;rw[N];rfl)
 have G:=h.pF;have r:=h.jn;have m:pd C.d<=1:=by cases C.d<;>simp[pd]
 obtain⟨v,O⟩:∃v,C.v=v+1:=⟨C.v-1,by omega⟩;have K:C.ws=0/\C.wt<=1/\¬zk C.d:=by
  rcases ph with⟨a,b,_,_,_,c⟩|⟨y,⟨a,b,_⟩|⟨_,_,a,_⟩|⟨_,_,a,_⟩|⟨_,_,a,_⟩⟩
  ·exact⟨b,by omega,fun y=>by have:=c y;omega⟩
  ·exact⟨b,by omega,fun z=>by revert y z;cases C.d<;>intro y z<;>first|exact y|exact z⟩
  ·omega
  ·omega
  ·omega
 rw[O,K.1]at I;obtain⟨g1,w1,es,X,L,Z,D,x,s⟩:=h2.2 w v C.wt (by omega) K.2.1 I;have B:iF Q.J v C.d<=iF Q.J C.v C.d:=by rw[O];cases C.d<;>simp only[iF]<;>omega
 by_cases S:v=0/\C.wt=1
 ·obtain⟨n,Y⟩:=x S;refine F X (M.Bp (s':=.h_ 2 n) (i:=3) V h H hk N (by omega) Z L D (.inl ⟨2,n,rfl,by omega,Y⟩) (by rw[O];rfl) (fun o l U=>?_) B (by omega) (.inl fun _ _=>rfl) _ _);have z2:jy (gZ.h_ 3 0:gZ Q.E)=0:=rfl;have z0:jD (gZ.h_ 3 0:gZ Q.E)=0:=rfl;have y2:jy (gZ.h_ 2 n:gZ Q.E)=1:=rfl;have T:jD (gZ.h_ 2 n:gZ Q.E)=0:=rfl;rw[z2,z0]at U;rw[y2,T];rcases U with⟨a,_⟩|⟨y,⟨a,b,c,d,e⟩|⟨_,_,a,_⟩|⟨_,_,a,_⟩|⟨_,_,a,_⟩⟩
  ·omega
  ·exact .inr ⟨y,.inr (.inl ⟨a,rfl,S.1,by omega,by omega⟩)⟩
  ·omega
  ·omega
  ·omega
 ·obtain⟨n,Y⟩:=s S;refine F X (M.Bp (s':=.qt n) (i:=3) V h H hk N (by omega) Z L D (.inr ⟨n,rfl,Y⟩) (by rw[O];rfl) (fun o l U=>?_) B (by omega) (.inl fun _ _=>rfl) _ _);have z2:jy (gZ.h_ 3 0:gZ Q.E)=0:=rfl;have z0:jD (gZ.h_ 3 0:gZ Q.E)=0:=rfl;have y2:jy (gZ.qt n:gZ Q.E)=0:=rfl;have T:jD (gZ.qt n:gZ Q.E)=0:=rfl;rw[z2,z0]at U;rw[y2,T];rcases U with⟨a,b,c,d,e,_⟩|⟨y,⟨a,b,c,d,e⟩|⟨_,_,a,_⟩|⟨_,_,a,_⟩|⟨_,_,a,_⟩⟩
  ·exact .inl ⟨a,rfl,c,d,e,fun y=>absurd y K.2.2⟩
  ·exact .inr ⟨y,.inl ⟨a,rfl,by omega,d,e⟩⟩
  ·omega
  ·omega
  ·omega
theorem gR.MI.wz2(M:Q.MI C nd fu gs w t q rel)(V:Q.Laws)(h:CI Q.J Q.gX C)(F:Calm Q.J C)(hk:k<C.j){g:ai}{R:Prop}(N:C.ks k=.h_ 2 0)(O:Q.E.KO Q.P g)
  (L:∀{g1:ai} {w1:ah} {es:Array _},aH Q.P false g w=.go g1 w1 es->Q.jO C nd fu q (ao ((gs.map (aJ Q.P g g1 w1)).setIfInBounds (Q.b+k) g1) w1 sl) (t++ak (Q.b+k) g.frame.fn g.frame.place es)->R):R:=by
 have H:=aQ hk h.jn;have ph:=h.ph;have l2:=le_sumTo (f:=fun k=>jy (C.ks k)) H;have l0:=le_sumTo (f:=fun k=>jD (C.ks k)) H;simp[N]at l2 l0;have Y:=M.wd.wg;have K:C.wt=1/\C.ws=0/\C.v=0:=by
  have z2:jy (gZ.h_ 2 0:gZ Q.E)=1:=rfl;rcases ph with⟨_,_,a,_⟩|⟨y,⟨_,_,_,a,_⟩|⟨a,b,c,_⟩|⟨_,_,_,a,_⟩|⟨_,_,_,a,_⟩⟩
  ·omega
  ·omega
  ·omega
  ·omega
  ·omega
 rw[K.1,K.2.1,K.2.2]at Y;obtain⟨g1,es,A,D,n,I⟩:=O.2 w Y;refine L A (M.Bp V h F hk N (by omega) (Env.Eff.refl _ _) Y D (.inl ⟨1,n,rfl,by omega,I⟩) (by rw[K.2.2];rfl) (fun B U y=>?_) (by simp_all) (by omega) (.inl fun _ _=>rfl) _ _);rw[K.1,K.2.1,K.2.2]at y;exact y
theorem gR.MI.wz1(M:Q.MI C nd fu gs w t q rel)(V:Q.Laws)(h:CI Q.J Q.gX C)(F:Calm Q.J C)(hk:k<C.j){g:ai}{R:Prop}(N:C.ks k=.h_ 1 0)(O:Q.E.KN Q.P g)
  (L:∀{g1:ai} {w1:ah} {es:Array _},aH Q.P false g w=.go g1 w1 es->Q.jO C nd fu q (ao ((gs.map (aJ Q.P g g1 w1)).setIfInBounds (Q.b+k) g1) w1 sl) (t++ak (Q.b+k) g.frame.fn g.frame.place es)->R):R:=by
 have K:=aQ hk h.jn;have ph:=h.ph;have l2:=le_sumTo (f:=fun k=>jy (C.ks k)) K;have l0:=le_sumTo (f:=fun k=>jD (C.ks k)) K;simp[N]at l2 l0;have Y:=M.wd.wg;have z2:jy (gZ.h_ 1 0:gZ Q.E)=1:=rfl;have z0:jD (gZ.h_ 1 0:gZ Q.E)=0:=rfl;have H:C.wt=1/\C.ws=0/\C.v=0:=by
  rcases ph with⟨_,_,a,_⟩|⟨y,⟨_,_,_,a,_⟩|⟨a,b,c,_⟩|⟨_,_,_,a,_⟩|⟨_,_,_,a,_⟩⟩
  ·omega
  ·omega
  ·omega
  ·omega
  ·omega
 rw[H.1,H.2.1,H.2.2]at Y;obtain⟨g1,w1,es,U,A,B,D,n,I⟩:=O.2 w Y;refine L U (M.Bp V h F hk N (by omega) B A D (.inl ⟨0,n,rfl,by omega,I⟩) (by rw[H.2.2];rfl) (fun T S y=>?_) (by simp_all) (by omega) (.inl fun _ _=>rfl) _ _);have y2:jy (gZ.h_ 0 n:gZ Q.E)=0:=rfl;have X:jD (gZ.h_ 0 n:gZ Q.E)=1:=rfl;rcases y with⟨_,_,a,_⟩|⟨y,⟨_,_,_,a,_⟩|⟨_,_,_,a,b⟩|⟨_,_,_,a,_⟩|⟨_,_,_,a,_⟩⟩
 ·omega
 ·omega
 ·exact .inr ⟨y,.inr (.inr (.inl ⟨rfl,rfl,rfl,by omega,by omega⟩))⟩
 ·omega
 ·omega
theorem gR.MI.wz0(M:Q.MI C nd fu gs w t q rel)(V:Q.Laws)(h:CI Q.J Q.gX C)(F:Calm Q.J C)(hk:k<C.j){g:ai}{R:Prop}(O:C.ks k=.h_ 0 0)(N:Q.E.KM Q.P g)
  (L:∀{g1:ai} {w1:ah} {es:Array bt},aH Q.P false g w=.go g1 w1 es->Q.jO C nd fu q (ao ((gs.map (aJ Q.P g g1 w1)).setIfInBounds (Q.b+k) g1) w1 sl) (t++ak (Q.b+k) g.frame.fn g.frame.place es)->R):R:=by
 have K:=aQ hk h.jn;have ph:=h.ph;have l2:=le_sumTo (f:=fun k=>jy (C.ks k)) K;have l0:=le_sumTo (f:=fun k=>jD (C.ks k)) K;simp[O]at l2 l0;have Y:=M.wd.wg;have z2:jy (gZ.h_ 0 0:gZ Q.E)=0:=rfl;have z0:jD (gZ.h_ 0 0:gZ Q.E)=1:=rfl;have D:C.wt=0/\C.ws=0/\C.v=0:=by
  rcases ph with⟨_,_,_,a,_⟩|⟨y,⟨_,_,_,_,a⟩|⟨_,_,_,_,a⟩|⟨a,b,c,_⟩|⟨_,_,_,_,a⟩⟩
  ·omega
  ·omega
  ·omega
  ·omega
  ·omega
 rw[D.1,D.2.1,D.2.2]at Y;obtain⟨g1,w1,es,U,A,B,I,n,H⟩:=N.2.2 w Y;refine L U (M.Bp V h F hk O (by omega) B A I (.inr ⟨n,rfl,H⟩) (by rw[D.2.2];rfl) (fun T S y=>?_) (by simp_all) (by omega) (.inr ⟨N.2.1,H.status⟩) _ _);have y2:jy (gZ.qt n:gZ Q.E)=0:=rfl;have X:jD (gZ.qt n:gZ Q.E)=0:=rfl;rcases y with⟨_,_,_,a,_⟩|⟨y,⟨_,_,_,_,a⟩|⟨_,_,_,_,a⟩|⟨_,_,_,a,b⟩|⟨_,_,_,_,a⟩⟩
 ·omega
 ·omega
 ·omega
 ·exact .inr ⟨y,.inr (.inr (.inr ⟨rfl,rfl,rfl,by omega,by omega⟩))⟩
 ·omega
theorem gR.MI.aiz(M:Q.MI C nd fu gs w t q rel)(R:Q.Laws)(h:CI Q.J Q.gX C)(Y:Calm Q.J C)(hk:k<C.j){g:ai}(V:gs[Q.b+k]?=some g)(F:g.status=.running):
  ∃m' ops,runT Q.P (ao gs w sl) (Q.b+k)=(.next m',ops)/\Q.jO C nd fu q m' (t++ops):=by
 have hb:=R.b0;have s:k<Q.J.n:=aQ hk h.jn;have r:(Q.b+k==0)=false:=by simp;omega
 have hr:=M.nZ (k+1) hk;have T:=M.wk k hk;have K:∀{g1:ai} {w1:ah} {es:Array bt},aH Q.P false g w=.go g1 w1 es->Q.jO C nd fu q (ao ((gs.map (aJ Q.P g g1 w1)).setIfInBounds (Q.b+k) g1) w1 sl) (t++ak (Q.b+k) g.frame.fn g.frame.place es)->
   ∃m' ops,runT Q.P (ao gs w sl) (Q.b+k)=(.next m',ops)/\Q.jO C nd fu q m' (t++ops):=fun gF l=>⟨_,_,bQ (sl:=sl) V (by rw[r];exact gF),l⟩
 have G:=G1 h.lock;have K6:=R.n8;cases H:C.ks k with
 |no=>rw[H]at T;exact T.elim
 |«at» pc md=>
  rw[H]at T;obtain⟨z,B,h3⟩:=T;obtain rfl:=Option.some.inj (V.symm.trans z);cases md with
  |blk=>cases F
  |ic=>cases F
  |j_=>
   have hpc:=(h.md k _ _ H).2 (.inr rfl);subst hpc;have l:Q.A (Q.ch C k) (nd (k+1)).S (nd (k+1)).X (nd (k+1)).g (nd (k+1)).w:=by
    have:=h3 nofun;rw[AX]at this;exact this
   refine M.SX R h Y hk H l V ?_ (.inr (h.gone k (by rw[H];trivial)));have e:{(nd (k+1)).g with status:=.running}=(nd (k+1)).g:=by
    have:=(R.JG l).1;generalize(nd (k+1)).g=g0 at this;obtain⟨a,b,c,d,e⟩:=g0;simp only at this;subst this;rfl
   have:=stepG_tries (P:=Q.P) (g:=(nd (k+1)).g) (sh:=.recv true) false #[bP (Q.ch C k) Q.E.zc] w;rw[e]at this;exact this.trans (R.JH l w)
  |run=>
   have mul:∀p,oS pc=p->(∀x,pc=.lk p x->True)->Lock.Ok C.m p/\Lock.KJ C.m p:=by
    intro p hp _;have a:=h.lock.ok k s;have b:=h.lock.pre s;rw[H]at a;simp only[H]at b;rw[<-hp];exact⟨a,b⟩
   rcases B.look with gF|⟨hn,_,W⟩
   ·obtain⟨f,O⟩:∃f,fu (k+1)=f+1:=⟨fu (k+1)-1,by have:=M.sD (i:=k+1) hk;omega⟩;have U:=gF;rw[O]at gF;cases pc with
    |recv=>
     rw[AX]at U;exact M.SX R h Y hk H U V (R.JH U w) (.inl rfl)
    |ld x=>
     obtain⟨g1,D,I⟩:=gF.2.2 w hr;exact K D (M.Eb R h Y hk H O (.inl rfl) I _ _ rfl (fun _=>rfl) nofun nofun nofun (fun p x e=>by cases e;rfl) nofun (by show 14+2<17;omega) rfl)
    |lk p x=>
     obtain⟨o1,o2⟩:=mul p rfl (fun _ _=>trivial);rcases gF.2.2 w C.m C.c hr M.wd.mu o1 o2 (by omega) G.1 with⟨sv,rfl,v,D⟩|⟨p',m',c',g1,w1,es,N,D,Z,o,L,hw,I⟩
     ·refine⟨_,_,bQ (sl:=sl) V (by rw[r];exact D),?_⟩;rw[M0 rfl,yj];exact M.SV R h Y (lY:=.blk) hk H U (.inl ⟨rfl,⟨sv,x,rfl⟩,v⟩)
     ·obtain⟨c1,c2⟩:=h.mvL R.n8 hk H N;refine K D (M.KY R h Y hk H O I _ _ Z o L hw c1 c2 ?_);show vg (Env.behind p' x)=1
      cases p'<;>rfl
    |le x=>
     obtain⟨g1,D,I⟩:=gF.2.2 w hr;exact K D (M.Eb R h Y hk H O (.inr rfl) I _ _ rfl (fun _=>rfl) nofun nofun nofun nofun nofun (by show 13<14;omega) rfl)
    |la x=>
     obtain⟨g1,D,I⟩:=gF.2.2 w C.γ hr (M.wd.map (h.free hk H));exact K D (M.wla R h Y hk H O I _ _)
    |ur γ=>
     obtain⟨u,g1,D,I⟩:=gF.2.2 w hr;exact K D (M.wur R h Y hk H O u I _ _)
    |ud=>
     obtain⟨g1,D,I⟩:=gF.2.2 w hr;exact K D (M.Eb R h Y hk H O (.inl rfl) I _ _ rfl (fun _=>rfl) nofun nofun nofun nofun nofun (by show 10<11;omega) rfl)
    |u0=>
     obtain⟨o1,o2⟩:=mul .cr rfl (fun _ _=>trivial);rcases gF.2.2 w C.m C.c hr M.wd.mu o1 o2 (by omega) G.1 with⟨sv,e0,_⟩|⟨p',m',c',g1,w1,es,N,D,Z,o,L,hw,I⟩
     ·cases e0
     ·obtain⟨c1,c2⟩:=h.Ut R.n8 hk H (.inl ⟨rfl,rfl⟩) N;refine K D (M.KY R h Y hk H O I _ _ Z o L hw c1 c2 ?_);show vg (Env.xh p')=1
      cases p'<;>rfl
    |un p=>
     obtain⟨o1,o2⟩:=mul p rfl (fun _ _=>trivial);have hun:=(h.oT k p _ H).1;rcases gF.2.2 w C.m C.c hr M.wd.mu o1 o2 (by omega) G.1 with⟨sv,rfl,_⟩|⟨p',m',c',g1,w1,es,N,D,Z,o,L,hw,I⟩
     ·cases hun
     ·obtain⟨c1,c2⟩:=h.Ut R.n8 hk H (.inr rfl) N;refine K D (M.KY R h Y hk H O I _ _ Z o L hw c1 c2 ?_);show vg (Env.xh p')=1
      cases p'<;>rfl
    |ue=>
     obtain⟨g1,D,I⟩:=gF.2.2 w hr;exact K D (M.Eb R h Y hk H O (.inr rfl) I _ _ rfl (fun _=>rfl) nofun nofun nofun nofun nofun (by show 7<8;omega) rfl)
    |wr=>
     obtain⟨g1,D,n,hn⟩:=gF.2.2 w hr;exact K D (M.aj_ R h Y hk H hn _ _)
   ·obtain⟨g1,w1,es,S1,X1,D,hd,I⟩:=W w hr;exact K D (M.ait R h Y hk H hn D hd I _ _)
 |h_ i n=>
  rw[H]at T;obtain⟨g',z,B⟩:=T;obtain rfl:=Option.some.inj (V.symm.trans z);have i4:=h.h_ k i n H;cases n with
  |succ n=>
   obtain⟨_,g1,D,hq⟩:=B;exact K (D w) (M.Ty R h Y hk H (by simp) (.inl ⟨i,n,rfl,rfl,rfl,hq⟩) _ _)
  |zero=>
   have hi:i=0\/i=1\/i=2\/i=3\/i=4:=by omega
   rcases hi with rfl|rfl|rfl|rfl|rfl
   ·exact M.wz0 R h Y hk H B K
   ·exact M.wz1 R h Y hk H B K
   ·exact M.wz2 R h Y hk H B K
   ·exact M.wz3 R h Y hk H B K
   ·exact M.wz4 R h Y hk H B K
 |qt n=>
  rw[H]at T;obtain⟨g',z,B⟩:=T;obtain rfl:=Option.some.inj (V.symm.trans z);cases n with
  |zero=>rw[B.1]at F;cases F
  |succ n=>
   rcases B with⟨y,_⟩|⟨_,g1,es,Z,D,hq⟩
   ·rw[y]at F;cases F
   ·exact K (D w) (M.Ty R h Y hk H Z (.inr ⟨n,rfl,rfl,hq⟩) _ _)
end
section
variable{Q:gR}{nd:Nat->Nd}{fu:Nat->Nat}{C C':iI Q.E}{w w':ah}{gs n_:Array ai}{t t':aV}{q:Nat->Nat}{rel jX:Nat->Option Nat}{sl:Option (Nat×Nat)}
theorem nA.on{d d':jK}{v ws e2 e0:Nat}(h:nA d v wt ws e2 e0)(hw:¬yY d)(Y:¬yY d')(H:zk d'->v=0):nA d' v wt ws e2 e0:=by
 obtain⟨a,b,c,e⟩:=h.early hw;exact .inl ⟨a,b,c,e,Y,H⟩
theorem CI.vle(h:CI Q.J Q.gX C):C.v<=C.j+pd C.d:=by have:=h.pF;omega
theorem CI.aiA(h:CI Q.J Q.gX C)(H:jc Q.J C.d=0):C.v=C.j+pd C.d:=by
 have:=h.pF;have K:=by
  have:=sumTo_le (f:=fun k=>ll (C.ks k)) (c:=0) (j:=Q.J.n) fun i _=>by
   have Y:¬Gone _:=fun y=>by have:=h.gone i y;omega
   cases e:C.ks i with
   |no=>exact ar _
   |«at» pc md=>exact ar _
   |h_ i n=>rw[e]at Y;exact absurd trivial Y
   |qt n=>rw[e]at Y;exact absurd trivial Y
  omega
 omega
theorem gR.MI.aiB(M:Q.MI C nd fu gs w t q rel)(H:Q.Laws)(h:CI Q.J Q.gX C)(F:Calm Q.J C){c x f:Nat}{z:af}(Z:C.dm=.run)(hd:C.d=.send C.L i)(hf:fu 0=f+1)(hg:gs[0]?=some (nd 0).g)(N:Q.DS (fu 0) C.d (nd 0).S (nd 0).X (nd 0).g (nd 0).w)(V:C.L[i%Q.J.n]?=some c)(W:Q.J.gP[i]?=some x)
  (R:∀w2 s,gU Q.E.U (nd 0).S (nd 0).w w2->oi w2 c s->aH Q.P true (nd 0).g w2=.comm (nd 0).g #[scase c (.int .i64 (x:Int)) z] true .send w2 #[])(O:∀w2,gU Q.E.U (nd 0).S (nd 0).w w2->Q.E.Tree Q.P true (Q.DS f (Q.J.sends C.L (i+1))) (nd 0).S (nd 0).X (Go.Conc.served (nd 0).g ax) w2):
  ∃m' ops,runT Q.P (ao gs w sl) 0=(.next m',ops)/\Q.jO C nd fu q m' (t++ops):=by
 have m:=H.b0;have hr:=M.nZ 0 (ay _);have hk:i%Q.J.n<C.j:=by
  have:=(c_.1 V).1;rw[h.len]at this;exact this
 have K:c=Q.ch C (i%Q.J.n):=by
  unfold gR.ch;rw[bc,V];rfl
 subst K;generalize D:i%Q.J.n=k at *;obtain⟨s,A⟩:=M.wd.opn k hk (by rw[hd];exact bh _);have gF:=R w s hr A;by_cases o:∃pc,C.ks k=.at pc .ic
 ·obtain⟨pc,I⟩:=o;have T:=(h.md k _ _ I).2 (.inl rfl);subst T;have G:=M.zo hk I;have B:Q.b+k<gs.size:=by rw[M.size];omega
  have u:=by
   have:=M.wk k hk;rw[I]at this;have:=this.2.2 nofun;rw[AX]at this;exact this
  refine⟨_,_,crowd_send_meets (sl:=sl) hg gF A (by omega) G (M.aeN H h hk I),?_⟩;rw[yj,cK,di,dj];have Y:=M.iq.nY _ (qD h.len hk);refine M.hand H h F hk I hd D W hf A ?_ ?_ (fun i' p r=>?_) (by simp) (O _ (hr.trans (wo (Y.2.2.2 0 (ay _))))) (H.Ka u ((M.nZ (k+1) hk).trans (wo (Y.2.2.2 (k+1) hk))) (H.KW x (db W)) _) ?_ (fun g=>AH ?_ g) ?_
  ·rw[aL (by simpa using M.sX H)]
  ·rw[nC (by omega),aL B]
  ·rw[nC (fun y=>p y.symm),nC (fun y=>r y.symm)]
  ·intro op gN;simp only[bA,bu,bB,or_false]at gN;rcases gN with rfl|rfl|rfl|rfl
   ·exact⟨rfl,nofun,nofun,by show 0<Q.b+C.j;omega⟩
   ·exact⟨rfl,nofun,nofun,by simp_all⟩
   ·exact⟨rfl,nofun,nofun,by show 0<Q.b+C.j;omega⟩
   ·exact⟨rfl,nofun,nofun,by show Q.b+k<Q.b+C.j;omega⟩
  ·simp
  ·intro op gN;simp at gN;rcases gN with rfl|rfl|rfl|rfl<;>exact⟨Y.1,nofun⟩
 ·have l:=fun pc y=>o ⟨pc,y⟩;refine⟨_,_,crowd_waits (sl:=sl) hg gF (fun v K=>?_),?_⟩
  ·simp only[bA,bu,bB,or_false]at K;subst K;exact ways_send_none A (ar _) (M.agU H h hk l rfl)
  ·exact M.SW H h F (lY:=.ic) Z ⟨N,i,_,x,z,f,hd,hf,by rw[D];exact V,W,aL (M.sX H),O⟩ (.inr ⟨rfl,i,hd,by rw[D];exact l⟩)
theorem gR.MI.aiC(M:Q.MI C nd fu gs w t q rel)(F:Q.Laws)(h:CI Q.J Q.gX C)(H:Calm Q.J C){g:ai}(G:gs[0]?=some g)(V:g.status=.running):
  ∃m' ops,runT Q.P (ao gs w sl) 0=(.next m',ops)/\(Q.jO C nd fu q m' (t++ops)\/Q.xx m' (t++ops)):=by
 have hb:=F.b0;have hr:=M.nZ 0 (ay _);have E:=M.g0;have K6:=F.n8;have hjn:=h.jn;have O:=h.vle;have R:=M.wd.wg;have Y:=h.nW;cases r:C.dm with
 |blk=>
  rw[r]at E;obtain rfl:=Option.some.inj (G.symm.trans E.1);cases V
 |ic=>
  rw[r]at E;obtain⟨_,i,c,x,z,f0,_,_,_,_,e5,_⟩:=E;obtain rfl:=Option.some.inj (G.symm.trans e5);cases V
 |j_=>exact absurd r h.pE.2.2
 |run=>
  rw[r]at E;obtain⟨h1,h2⟩:=E;obtain rfl:=Option.some.inj (G.symm.trans h1);have D:∀{g1:ai} {w1:ah} {es:Array bt},aH Q.P true (nd 0).g w=.go g1 w1 es->Q.jO C nd fu q (ao ((gs.map (aJ Q.P (nd 0).g g1 w1)).setIfInBounds 0 g1) w1 sl) (t++ak 0 (nd 0).g.frame.fn (nd 0).g.frame.place es)->
    ∃m' ops,runT Q.P (ao gs w sl) 0=(.next m',ops)/\(Q.jO C nd fu q m' (t++ops)\/Q.xx m' (t++ops)):=fun gF hA=>⟨_,_,bQ (sl:=sl) (i:=0) G gF,.inl hA⟩
  rcases h2.look with gF|⟨hn,_,u⟩
  ·obtain⟨f,N⟩:∃f,fu 0=f+1:=⟨fu 0-1,by have:=M.sD (i:=0) (ay _);omega⟩;have W:=gF;rw[N]at gF;have nm:(Md.run=.blk->∀d:jK,d=.w3):=nofun;have A:∀d:jK,(Md.run=.blk->d=.w3)/\(Md.run=.ic->∃i,d=.send C.L i)/\Md.run≠.j_:=fun d=>⟨nofun,nofun,nofun⟩;have ph:=h.ph;cases hd:C.d with
   |st L=>
    rw[hd]at gF Y;obtain⟨c,hl⟩:=gF.2.2;obtain⟨g1,K,I⟩:=hl w hr;exact D K (M.Ee F h H (.inl rfl) N I (h.dd (A _) (by rw[hd];rfl) (by rw[hd];rfl) (fun _ _ y=>by rw[hd]at y;exact y.on id id nofun) (by rw[hd];exact ar _) Y nofun) (by rw[hd];simp only[iF];omega) _ _ (by rw[hd];rfl) (by rw[hd];rfl))
   |a2 L c=>
    rw[hd]at gF Y ph;obtain⟨a,b,_,_⟩:=ph.early id;have X:C.v=L.length:=by
     have:=h.aiA (by rw[hd];rfl);rw[hd]at this;rw[this,Y.1,h.len];rfl
    rw[X,a,b]at R;obtain⟨g1,w1,es,K,S,he,U,I⟩:=gF.2.2 w hr R;by_cases e:L=[]
    ·rw[if_pos e]at I;exact D K (M.vr F h H N I he S U (h.dd (A _) (by rw[hd];rfl) (by rw[hd,X];rfl) (fun _ _ y=>by
      rw[hd]at y;obtain⟨a1,a2,a3,a4⟩:=y.early id;exact .inl ⟨rfl,rfl,a3,a4,id,nofun⟩) (by rw[hd];exact ar _) Y nofun) (by rw[hd];simp only[iF];omega) _ _ (by rw[hd];rfl) (by rw[hd];rfl))
    ·rw[if_neg e]at I;exact D K (M.vr F h H N I he S U (h.dd (A _) (by rw[hd];rfl) (by rw[hd,X];rfl) (fun _ _ y=>by
      rw[hd]at y;obtain⟨a1,a2,a3,a4⟩:=y.early id;exact .inl ⟨rfl,rfl,a3,a4,id,nofun⟩) (by rw[hd];exact ar _) Y nofun) (by rw[hd];simp only[iF];omega) _ _ (by rw[hd];rfl) (by rw[hd];rfl))
   |a3 L c=>
    rw[hd]at gF Y;obtain⟨g1,K,I⟩:=gF.2.2 w hr;exact D K (M.SU F h H (.inl rfl) N I (h.dd (A _) (by rw[hd];rfl) (by rw[hd];rfl) (fun _ _ y=>by rw[hd]at y;exact y.on id id nofun) (by rw[hd];exact ar _) Y nofun) (by rw[hd];simp only[iF];omega) _ _ (by rw[hd];rfl) (by rw[hd];rfl))
   |a4 L c=>
    rw[hd]at gF Y;obtain⟨g1,K,I⟩:=gF.2.2 w hr;exact D K (M.Ee F h H (.inr rfl) N I (h.dd (A _) (by rw[hd];rfl) (by rw[hd];rfl) (fun _ _ y=>by rw[hd]at y;exact y.on id id nofun) (by rw[hd];exact ar _) Y nofun) (by rw[hd];simp only[iF];omega) _ _ (by rw[hd];rfl) (by rw[hd];rfl))
   |go L c=>
    rw[hd]at gF Y;obtain⟨hSc,BJ,hl⟩:=gF.2.2;obtain⟨KZ,g1,l,K,Kb,I⟩:=hl w hr;have T:L=C.L:=Y.1;subst T;refine⟨_,_,runT_crowd_spawn (sl:=sl) (i:=0) G K,.inl ?_⟩;rw[yj,M.size];have:=M.agW (sl:=sl) F h H hd N hSc BJ KZ Kb I (nd 0).g.frame.fn (nd 0).g.frame.place l.frame.fn (nd 0).g.frame.place;rw[Array.append_assoc]at this;exact this
   |send L i=>
    rw[hd]at gF Y;have T:L=C.L:=Y.1;subst T;obtain⟨c,x,e,hx,z,o,htr⟩:=gF.2.2;obtain⟨m',ops,K,e2⟩:=M.aiB (sl:=sl) F h H r hd N G W e hx o htr;exact⟨m',ops,K,.inl e2⟩
   |close L k=>
    rw[hd]at gF Y;have T:L=C.L:=Y.1;subst T;obtain⟨hw,c,e,hl⟩:=gF.2.2;have hk:k<C.j:=by
     have a:C.j=Q.J.n:=Y.2.1;have b:k<Q.J.n:=Y.2.2;omega
    have Uu:c=Q.ch C k:=by
     unfold gR.ch;rw[bc,e];rfl
    subst Uu;obtain⟨s,E⟩:=M.wd.opn k hk (by rw[hd];exact Nat.lt_irrefl _);obtain⟨g1,p,K,I⟩:=hl w s hr E;exact D K (M.agV F h H hk hd E hw p N I _ _)
   |kd=>
    rw[hd]at gF Y;obtain⟨g1,K,I⟩:=gF.2.2 w hr;exact D K (M.Ee F h H (.inl rfl) N I (h.dd (A _) (by rw[hd];rfl) (by rw[hd];rfl) (fun _ _ y=>by rw[hd]at y;exact y.on id id nofun) (by rw[hd];exact ar _) Y nofun) (by
     have a:C.v<=C.j:=by rw[hd]at O;exact O
     rw[hd];simp only[iF];omega) _ _ (by rw[hd];rfl) (by rw[hd];rfl))
   |w1=>
    rw[hd]at gF Y ph;obtain⟨a,b,_,_⟩:=ph.early id;have m:C.v<=8:=by rw[hd]at O;exact bD O (by show C.j+0<=8;omega)
    rw[a,b]at R;obtain⟨g1,es,K,U,t0,t1⟩:=gF.2.2 w C.v hr m R;by_cases X:C.v=0
    ·exact D K (M.vr F h H N (t0 X) (Env.Eff.refl _ _) R U (h.dd (A _) (by rw[hd];rfl) (by rw[hd];rfl) (fun _ _ y=>by
      rw[hd]at y;obtain⟨a1,a2,a3,a4⟩:=y.early id;exact .inl ⟨rfl,rfl,a3,a4,id,fun _=>X⟩) (by rw[hd];exact ar _) Y nofun) (by rw[hd];simp only[iF];omega) _ _ (by rw[hd];rfl) (by rw[hd];rfl))
    ·exact D K (M.vr F h H N (t1 X) (Env.Eff.refl _ _) R U (h.dd (A _) (by rw[hd];rfl) (by rw[hd];rfl) (fun _ _ y=>by
      rw[hd]at y;obtain⟨a1,a2,a3,a4⟩:=y.early id;exact .inl ⟨rfl,rfl,a3,a4,id,nofun⟩) (by rw[hd];exact ar _) Y (fun v0 e0=>by cases e0;exact⟨by omega,ar _⟩)) (by rw[hd];simp only[iF];omega) _ _ (by rw[hd];rfl) (by rw[hd];rfl))
   |w2 v0=>
    have rS:=h.w2 v0 hd;rw[hd]at gF Y ph;obtain⟨a,b,_,_⟩:=ph.early id;have m:C.v<=8:=by rw[hd]at O;exact bD O (by show C.j+0<=8;omega)
    rw[a,b]at R;obtain⟨ty,tn⟩:=gF.2.2 w C.v hr m R;by_cases X:C.v=v0
    ·obtain⟨g1,w1,es,K,S,he,U,I⟩:=ty X;exact D K (M.vr F h H N I he S U (h.dd (A _) (by rw[hd];rfl) (by rw[hd];rfl) (fun _ _ y=>by
      rw[hd]at y;obtain⟨a1,a2,a3,a4⟩:=y.early id;exact .inr ⟨trivial,.inl ⟨rfl,rfl,by omega,a3,a4⟩⟩) (by rw[hd];exact ar _) Y nofun) (by rw[hd];simp only[iF];omega) _ _ (by rw[hd];rfl) (by rw[hd];rfl))
    ·obtain⟨g1,es,K,U,I⟩:=tn X;exact D K (M.vr F h H N I (Env.Eff.refl _ _) R U (h.dd (A _) (by rw[hd];rfl) (by rw[hd];rfl) (fun _ _ y=>by
      rw[hd]at y;obtain⟨a1,a2,a3,a4⟩:=y.early id;exact .inl ⟨rfl,rfl,a3,a4,id,nofun⟩) (by rw[hd];exact ar _) Y nofun) (by rw[hd];simp only[iF];omega) _ _ (by rw[hd];rfl) (by rw[hd];rfl))
   |wx=>
    rw[hd]at gF Y;obtain⟨g1,K,I⟩:=gF.2.2 w hr;exact D K (M.SU F h H (.inr rfl) N I (h.dd (A _) (by rw[hd];rfl) (by rw[hd];rfl) (fun _ _ y=>by
     rw[hd]at y;rcases y with⟨_,_,_,_,y,_⟩|⟨_,y⟩
     ·exact absurd trivial y
     ·exact .inr ⟨trivial,y⟩) (by rw[hd];exact ar _) Y nofun) (by rw[hd];simp only[iF];omega) _ _ (by rw[hd];rfl) (by rw[hd];rfl))
   |w3=>
    rw[hd]at gF Y ph;obtain⟨_,ho,Uv,p⟩:=gF;by_cases B:C.ws=0
    ·rw[B]at R;have K:=Uv w C.v C.wt hr R;refine⟨_,_,bQ (sl:=sl) (i:=0) G K,.inl ?_⟩;rw[M0 rfl,yj];exact M.SW F h H (lY:=.blk) r ⟨aL (M.sX F),ho,V,W⟩ (.inl ⟨rfl,hd,B⟩)
    ·have Z:C.wt=0/\C.ws=1/\C.v=0:=by
      rcases ph with⟨_,a,_⟩|⟨_,⟨_,a,_⟩|⟨_,a,_⟩|⟨_,a,_⟩|⟨a,b,c,_⟩⟩
      ·exact absurd a B
      ·exact absurd a B
      ·exact absurd a B
      ·exact absurd a B
      ·exact⟨a,b,c⟩
     rw[Z.1,Z.2.1,Z.2.2]at R;obtain⟨g1,w1,es,K,S,he,U,I⟩:=p w hr R;exact D K (M.vr F h H N I he S U (h.dd (A _) (by rw[hd];rfl) (by rw[hd,Z.2.2];rfl) (fun _ _ y=>by
      rcases y with⟨_,a,_⟩|⟨_,⟨_,a,_⟩|⟨_,a,_⟩|⟨_,a,_⟩|⟨_,_,_,a,b⟩⟩
      ·exact absurd a B
      ·exact absurd a B
      ·exact absurd a B
      ·exact absurd a B
      ·exact .inl ⟨rfl,rfl,a,b,id,fun _=>rfl⟩) (by rw[hd];exact ar _) Y nofun) (by rw[hd];simp only[iF];omega) _ _ (by rw[hd];rfl) (by rw[hd];rfl))
   |w4=>
    rw[hd]at gF Y ph;have Z:C.wt=0/\C.ws=0/\C.v=0:=by
     rcases ph with⟨a,b,_,_,_,c⟩|⟨y,_⟩
     ·exact⟨a,b,c trivial⟩
     ·exact y.elim
    rw[Z.1,Z.2.1,Z.2.2]at R;obtain⟨g1,es,K,U,I⟩:=gF.2.2 w hr R;exact D K (M.vr F h H N I (Env.Eff.refl _ _) R U (h.dd (A _) (by rw[hd];rfl) (by rw[hd,Z.2.2];rfl) (fun _ _ y=>by
     rw[hd]at y;obtain⟨a1,a2,a3,a4⟩:=y.early id;exact .inl ⟨rfl,rfl,a3,a4,id,fun _=>rfl⟩) (by rw[hd];exact ar _) Y nofun) (by rw[hd];simp only[iF];omega) _ _ (by rw[hd];rfl) (by rw[hd];rfl))
   |ke=>
    rw[hd]at gF Y ph;obtain⟨g1,K,I⟩:=gF.2.2 w hr;have hv0:C.v=0:=by
     rcases ph with⟨_,_,_,_,_,c⟩|⟨y,_⟩
     ·exact c trivial
     ·exact y.elim
    exact D K (M.Ee F h H (.inr rfl) N I (h.dd (A _) (by rw[hd];rfl) (by rw[hd];rfl) (fun _ _ y=>by rw[hd]at y;exact y.on id id fun _=>hv0) (by rw[hd];exact ar _) Y nofun) (by rw[hd];simp only[iF];omega) _ _ (by rw[hd];rfl) (by rw[hd];rfl))
   |aq=>
    rw[hd]at gF;obtain⟨g1,K,hF⟩:=gF.2.2 w hr;exact⟨_,_,bQ (sl:=sl) (i:=0) G K,.inr (M.final F h hd hF _ _)⟩
  ·obtain⟨g1,w1,es,S1,X1,K,hd,I⟩:=u w hr;exact D K (M.aiw F h H r hn K hd I _ _)
theorem Rb{f:Nat->Nat}:∀{n:Nat},0<sumTo n f->∃k,k<n/\0<f k
 |0,h=>by simp[sumTo]at h
 |n+1,h=>by
  rw[sumTo]at h;by_cases Y:0<f n
  ·exact⟨n,by omega,Y⟩
  ·obtain⟨k,hk,K⟩:=Rb (f:=f) (n:=n) (by omega);exact⟨k,by omega,K⟩
theorem Si{f:Nat->Nat}{j:Nat}(h:∀k,k<j->1<=f k):∀n,j<=n->j<=sumTo n f
 |0,Y=>by omega
 |n+1,Y=>by
  rw[sumTo];by_cases e:j=n+1
  ·have:=by
    have:∀m,m<=n->m<=sumTo m f:=by
     intro m;induction m with
     |zero=>omega
     |succ m H=>
      intro K;rw[sumTo];have:=h m (by omega);omega
    exact this n (ar _)
   have:=h n (by omega);omega
  ·have:=Si h n (by omega);omega
theorem gR.MI.JJ(M:Q.MI C nd fu gs w t q rel)(N:Q.Laws)(h:CI Q.J Q.gX C)(F:Calm Q.J C)(hk:k<C.j)(V:∀pc,C.ks k≠.at pc .ic)(Z:∀n,C.ks k≠.qt n):∃(i:Nat) (g:ai),gs[i]?=some g/\g.status=.running:=by
 have run:∀k pc,k<C.j->C.ks k=.at pc .run->∃(i:Nat) (g:ai),gs[i]?=some g/\g.status=.running:=by
  intro k pc hk e;have K:=M.wk k hk;rw[e]at K;exact⟨_,_,K.1,tx K.2.1 fun y=>(vZ N (M.sD hk) y).1⟩
 have K:=M.wk k hk;cases H:C.ks k with
 |no=>rw[H]at K;exact K.elim
 |«at» pc md=>
  cases md with
  |run=>exact run k pc hk H
  |j_=>rw[H]at K;exact⟨_,_,K.1,rfl⟩
  |ic=>exact absurd H (V pc)
  |blk=>
   have L:=F.blk k pc H;obtain⟨sv,x,rfl⟩:=(h.md k _ _ H).1 rfl;obtain⟨k',O,R,D⟩:=h.lock.live (aQ hk h.jn) (by rw[H];rfl) L;cases Y:C.ks k' with
   |no=>exact absurd (by rw[Y];rfl) D
   |«at» U A=>
    have I:=bK fun y=>by rw[h.no k' y]at Y;cases Y
    cases A with
    |run=>exact run k' U I Y
    |blk=>
     obtain⟨B,x',rfl⟩:=(h.md k' _ _ Y).1 rfl;exact absurd (by rw[Y];rfl) (R B)
    |ic=>
     have:=(h.md k' _ _ Y).2 (.inl rfl);subst this;exact absurd (by rw[Y];rfl) D
    |j_=>
     have:=(h.md k' _ _ Y).2 (.inr rfl);subst this;exact absurd (by rw[Y];rfl) D
   |h_ i n=>exact absurd (by rw[Y];rfl) D
   |qt n=>exact absurd (by rw[Y];rfl) D
 |h_ i n=>
  rw[H]at K;obtain⟨g,R,D⟩:=K;exact⟨_,_,R,Cw D⟩
 |qt n=>exact absurd H (Z n)
theorem gR.MI.live(M:Q.MI C nd fu gs w t q rel)(F:Q.Laws)(h:CI Q.J Q.gX C)(Y:Calm Q.J C):∃(i:Nat) (g:ai),gs[i]?=some g/\g.status=.running:=by
 have H:=M.g0;cases D:C.dm with
 |run=>
  rw[D]at H;exact⟨_,_,H.1,tx H.2 fun y=>(Cv (M.sD (i:=0) (ay _)) y).1⟩
 |j_=>exact absurd D h.pE.2.2
 |ic=>
  obtain⟨i,hd⟩:=h.pE.2.1 D;have K:=h.nW;rw[hd]at K;have R:=K.2.1;have hk:i%Q.J.n<C.j:=by rw[R];exact Nat.mod_lt _ F.n0
  refine M.JJ F h Y hk (fun pc=>Y.pq i D hd pc) (fun n e=>?_);have:=h.gone _ (show Gone _ by rw[e];trivial);rw[hd]at this;exact absurd this (bh _)
 |blk=>
  have hd:=h.pE.1 D;have O:=Y.J_ D;have K:=h.nW;rw[hd]at K;have R:C.j=Q.J.n:=K;have ph:=h.ph;have P:∀k pc,k<C.j->C.ks k≠.at pc .ic:=fun k pc hk e=>Y.ic k pc e (by rw[hd];show k<Q.J.n;omega);have h_:∀(f:gZ Q.E->Nat),(∀s,0<f s->∃i n,s=.h_ i n)->0<sumTo Q.J.n (fun k=>f (C.ks k))->∃(i:Nat) (g:ai),gs[i]?=some g/\g.status=.running:=by
   intro f B N;obtain⟨k,hk,A⟩:=Rb N;obtain⟨i,n,e⟩:=B _ A;exact M.JJ (k:=k) F h Y (by omega) (fun pc y=>by simp_all) (fun n y=>by simp_all)
  rw[hd]at ph;rcases ph with⟨_,_,_,_,y,_⟩|⟨_,⟨_,_,T,_⟩|⟨_,_,_,a,_⟩|⟨_,_,_,_,a⟩|⟨_,a,_⟩⟩
  ·exact absurd trivial y
  ·have L:=h.pF;rw[hd]at L;have:∃k,k<C.j/\ll (C.ks k)=0:=by
    apply cR;intro I;have:=Si (f:=fun k=>ll (C.ks k)) (fun k hk=>by
     have:ll (C.ks k)≠0:=fun y=>I ⟨k,hk,y⟩;omega) Q.J.n h.jn
    have S:pd .w3=0:=rfl;omega
   obtain⟨k,hk,U⟩:=this;exact M.JJ F h Y hk (fun pc=>P k pc hk) (fun n e=>by rw[e]at U;cases U)
  ·refine h_ jy (fun s H=>?_) (by omega);cases s with
   |h_ i n=>exact⟨i,n,rfl⟩
   |_=>cases H
  ·refine h_ jD (fun s H=>?_) (by omega);cases s with
   |h_ i n=>exact⟨i,n,rfl⟩
   |_=>cases H
  ·omega
theorem gR.MI.awake(M:Q.MI C nd fu gs w t q rel)(O:Q.Laws):∀g∈gs,Go.Conc.awake g:=by
 intro g P;obtain⟨i,F,rfl⟩:=cQ.1 P;have Y:=bR F;have S:=M.size;rcases cD i with rfl|I
 ·have K:=M.g0;have f0:=M.sD (ay _);cases U:C.dm with
  |run=>
   rw[U]at K;rw[Option.some.inj (Y.symm.trans K.1)];exact aX (.inl (tx K.2 fun y=>(Cv f0 y).1))
  |blk=>
   rw[U]at K;rw[Option.some.inj (Y.symm.trans K.1)];exact aX (.inr (.inl rfl))
  |ic=>
   rw[U]at K;obtain⟨_,i,c,x,z,f0,_,_,_,_,J,_⟩:=K;rw[Option.some.inj (Y.symm.trans J)];exact aX (.inr (.inl rfl))
  |j_=>rw[U]at K;exact K.elim
 ·by_cases B:i<Q.b
  ·exact aX ((M.old i _ I B Y).status.elim .inl fun y=>.inr (.inr y))
  ·obtain⟨k,rfl⟩:∃k,i=Q.b+k:=⟨i-Q.b,by omega⟩;have hk:k<C.j:=by omega
   have H:=M.wk k hk;have L:=M.sD hk;cases A:C.ks k with
   |no=>rw[A]at H;exact H.elim
   |«at» pc md=>
    rw[A]at H;obtain⟨D,R,T⟩:=H;rw[Option.some.inj (Y.symm.trans D)];cases md with
    |run=>exact aX (.inl (tx R fun y=>(vZ O L y).1))
    |blk=>exact aX (.inr (.inl rfl))
    |ic=>exact aX (.inr (.inl rfl))
    |j_=>exact aX (.inl rfl)
   |h_ i n=>
    rw[A]at H;obtain⟨N,D,R⟩:=H;rw[Option.some.inj (Y.symm.trans D)];exact aX (.inl (Cw R))
   |qt V=>
    rw[A]at H;obtain⟨N,D,R⟩:=H;rw[Option.some.inj (Y.symm.trans D)];exact aX (R.status.elim .inl fun y=>.inr (.inr y))
theorem gR.MI.step(M:Q.MI C nd fu gs w t q rel)(R:Q.Laws)(h:CI Q.J Q.gX C)(H:Calm Q.J C):∃m' ops,stepT Q.P (ao gs w sl)=(.next m',ops)/\(Q.jO C nd fu q m' (t++ops)\/Q.xx m' (t++ops)):=by
 obtain⟨i,g,d,T,I,Y,gF⟩:=crowd_pick (M.awake R) (M.live R h H);have B:=M.at d;rw[gF];rcases cD i with rfl|K
 ·exact B.aiC R h H I Y
 ·by_cases A:i<Q.b
  ·have U:=M.old i g K A I;have L:(i==0)=false:=by simp;omega
   cases D:q i with
   |zero=>rw[D]at U;rw[U.1]at Y;cases Y
   |succ n=>
    rw[D]at U;rcases U with⟨y,_⟩|⟨_,g1,es,S,F,N⟩
    ·simp_all
    ·exact⟨_,_,bQ I (by rw[L];exact F _),.inl (B.aeQ R h H K A D S N _ _)⟩
  ·obtain⟨k,rfl⟩:∃k,i=Q.b+k:=⟨i-Q.b,by omega⟩;have hk:k<C.j:=by
    have:=(bT.1 I).1;rw[M.size]at this;omega
   obtain⟨m',ops,F,O⟩:=B.aiz R h H hk I Y;exact⟨m',ops,F,.inl O⟩
theorem gR.MI.acc(M:Q.MI C nd fu gs w t q rel)(h:CI Q.J Q.gX C):Acc (Down (fun i=>Nx Q.P (i==0) Q.E.U (Q.Df C fu i)) (Q.J.n+1)) nd:=by
 refine P9 _ _ _ fun i I=>?_;cases i with
 |zero=>
  have Y:=M.g0;cases K:C.dm with
  |run=>rw[K]at Y;exact Y.2.acc
  |blk=>rw[K]at Y;exact(Tz.stop Y.2.2.2).acc
  |ic=>rw[K]at Y;exact(Tz.stop Y.1).acc
  |j_=>rw[K]at Y;exact Y.elim
 |succ k=>
  have tr:∀{P:aK} {main:Bool} {U:Nat->Nat->Prop} (x:Nd),Acc (Nx P main U fun _ _ _ _=>True) x:=fun x=>⟨x,fun y R=>absurd trivial R.1⟩;show Acc (Nx Q.P _ _ (match C.ks k with|.at pc _=>Q.WS _ _ pc|_=>fun _ _ _ _=>True)) _
  by_cases hk:k<C.j
  ·have H:=M.wk k hk;cases D:C.ks k with
   |«at» pc md=>rw[D]at H;exact H.2.1.acc
   |no=>exact tr _
   |h_ i n=>exact tr _
   |qt n=>exact tr _
  ·rw[h.no k (by omega)];exact tr _
theorem gR.phase(hQ:Q.Laws)(h:CI Q.J Q.gX C)(Y:Calm Q.J C)(M:Q.MI C nd fu gs w t q rel):Reach Q.P Q.xx (ao gs w sl) t:=by
 have key:∀(T:Nat) (C:iI Q.E) (nd:Nat->Nd) (fu:Nat->Nat) (gs:Array _) (w:ah) (sl:Option _) (t:aV) (q:Nat->Nat) (rel:Nat->Option Nat),mu Q.J C=T->CI Q.J Q.gX C->Calm Q.J C->Q.MI C nd fu gs w t q rel->Reach Q.P Q.xx (ao gs w sl) t:=by
  intro T;induction T using bL with
  |_ T N=>
  intro C nd fu gs w sl t q rel H h Y M;have B:∀(D:Nat->(Nat->Prop)->(Nat->Prop)->ai->ah->Prop) (nd:Nat->Nd),Acc (Down (fun i=>Nx Q.P (i==0) Q.E.U (D i)) (Q.J.n+1)) nd->∀(V:Nat) (C:iI Q.E) (fu:Nat->Nat) (gs:Array _) (w:ah) (sl:Option _) (t:aV) (q:Nat->Nat) (rel:Nat->Option Nat),
    Q.Df C fu=D->mu Q.J C=T->Q.nu C q=V->CI Q.J Q.gX C->Calm Q.J C->Q.MI C nd fu gs w t q rel->Reach Q.P Q.xx (ao gs w sl) t:=by
   intro D nd F;induction F with
   |intro nd _ W=>
    intro V;induction V using bL with
    |_ V O=>
    intro C fu gs w sl t q rel G H o h Y M;obtain⟨m',ops,z,g|hF⟩:=M.step hQ h Y
    ·refine Reach.step z ?_;obtain⟨X,S,R,I,w',A,j,f,rfl,h',K,Z,l|⟨c,d,L|⟨rfl,Uw⟩⟩⟩:=g
     ·exact N _ (by omega) X S R I w' A _ j _ rfl h' K Z
     ·rw[G]at L;exact W S L _ X R I w' A _ j _ (d.trans G) (c.trans H) rfl h' K Z
     ·exact O _ (by omega) X R I w' A _ j _ (d.trans G) (c.trans H) rfl h' K Z
    ·exact Reach.step z (Reach.here hF)
  exact B _ nd (M.acc h) _ C fu gs w sl t q rel rfl H rfl h Y M
 exact key _ C nd fu gs w sl t q rel rfl h Y M
end
end Ph
namespace Ph
open Conc Ren
open Lock (Word PC Mv bn hr hd)
def nv(m:Word):Nat:=bn m.L+2 *bn m.K+4 *bn m.S+8 *m.W
theorem api(m:Word):val m=(nv m:Int):=rfl
theorem tG(b:Bool):bn b=0/\b=false\/bn b=1/\b=true:=by cases b;exact .inl ⟨rfl,rfl⟩;exact .inr ⟨rfl,rfl⟩
theorem xL(m:Word):(nv m%2==1)=m.L:=by
 unfold nv;rcases tG m.L with⟨e,h⟩|⟨e,h⟩<;>rw[e,h]<;>simp<;>omega
theorem xM(m:Word):(nv m/2%2==1)=m.K:=by
 unfold nv;rcases tG m.L with⟨e,h⟩|⟨e,h⟩<;>rcases tG m.K with⟨Y,H⟩|⟨Y,H⟩<;>rw[e,Y,H]<;>simp<;>omega
theorem sE(m:Word):(nv m/4%2==1)=m.S:=by
 unfold nv;rcases tG m.L with⟨e,h⟩|⟨e,h⟩<;>rcases tG m.K with⟨Y,R⟩|⟨Y,R⟩<;>rcases tG m.S with⟨H,D⟩|⟨H,D⟩<;>rw[e,Y,H,D]<;>simp<;>omega
theorem sF(m:Word):nv m/8=m.W:=by
 unfold nv;rcases tG m.L with⟨e,h⟩|⟨e,h⟩<;>rcases tG m.K with⟨Y,D⟩|⟨Y,D⟩<;>rcases tG m.S with⟨H,R⟩|⟨H,R⟩<;>rw[e,Y,H]<;>omega
theorem qB(n:Nat):(n%2==0)=!(n%2==1):=by
 rcases Nat.mod_two_eq_zero_or_one n with h|h<;>rw[h]<;>rfl
theorem zp(m:Word):wd (nv m)=m:=by
 unfold wd;rw[xL,xM,sE,sF]
theorem aiD{m:Word}(h:m.W<=8):nv m<72:=by
 unfold nv;have:=Lock.rB m.L;have:=Lock.rB m.K;have:=Lock.rB m.S;omega
theorem agX{m m':Word}(h:nv m=nv m'):m=m':=by rw[<-zp m,h,zp]
theorem val_inj{m m':Word}(h:val m=val m'):m=m':=agX (by exact Int.ofNat.inj h)
theorem oH{p:Nat->Bool}{m:Word}(h:m.W<=8)(Y:p (nv m)=true):nv m∈(bg 72).filter p:=List.mem_filter.2 ⟨cB.2 (aiD h),Y⟩
theorem aaS(h:it<=4):a_.wrap ((it:Int)+1)=((it+1:Nat):Int):=by
 have:it=0\/it=1\/it=2\/it=3\/it=4:=by omega
 rcases this with rfl|rfl|rfl|rfl|rfl<;>rfl
theorem oh.lf{al:List (Nat×af)}{call:Option (au×Array af)}{load:Option (aI×af)}{r:ae×List ae}(h:oh l site al call load r):∃j,r.1=Ph.lf site (sA al) j:=⟨_,h.fr.eq⟩
theorem Bq:jG PR 169 (fun _=>do mark .disable;pure cf):=⟨_,Tryz.func169,by kernel_rfl,by kernel_rfl,by kernel_rfl,by kernel_rfl⟩
theorem xN:jG PR 170 (fun _=>do mark .enable;pure cf):=⟨_,Tryz.func170,by kernel_rfl,by kernel_rfl,by kernel_rfl,by kernel_rfl⟩
theorem TB:jG PR 182 (b_ .acquire):=⟨_,Tryz.func182,by kernel_rfl,by kernel_rfl,by kernel_rfl,by kernel_rfl⟩
theorem TC:jG PR 168 (b_ .releaseMerge):=⟨_,Tryz.func168,by kernel_rfl,by kernel_rfl,by kernel_rfl,by kernel_rfl⟩
theorem vs:jG PR 204 (cT (.int .i32)):=⟨_,Tryz.func204,by kernel_rfl,by kernel_rfl,by kernel_rfl,by kernel_rfl⟩
theorem TE:jG PR 206 (cW (Op.intArith .add) .i32 true):=⟨_,Tryz.func206,by kernel_rfl,by kernel_rfl,by kernel_rfl,by kernel_rfl⟩
theorem TF:jG PR 214 Extern.Sync.canSpin:=⟨_,Tryz.func214,by kernel_rfl,by kernel_rfl,by kernel_rfl,by kernel_rfl⟩
theorem TG:jG PR 217 Extern.OsHooks.nano:=⟨_,Tryz.func217,by kernel_rfl,by kernel_rfl,by kernel_rfl,by kernel_rfl⟩
theorem TH:(PR.funcs[217]?).any (·.norace)=true:=by kernel_rfl
theorem TI:jG PR 218 cX:=⟨_,Tryz.func218,by kernel_rfl,by kernel_rfl,by kernel_rfl,by kernel_rfl⟩
theorem ED:jG PR 220 cY:=⟨_,Tryz.func220,by kernel_rfl,by kernel_rfl,by kernel_rfl,by kernel_rfl⟩
theorem TJ:(PR.funcs[205]?).any (·.norace)=true:=by kernel_rfl
theorem Ef:kE PR (isAgg 21)=some false:=by kernel_rfl
theorem u253:PR.underlying 253=some (.pointer 187):=by simp
theorem u159:PR.underlying 159=some .unsafePointer:=by simp
theorem i187:(PR.info? 187).map (fun i=>decide (i.size=0))=some false:=by kernel_rfl
theorem akb:jG PR 215 Extern.Sync.nothing:=⟨_,Tryz.func215,by kernel_rfl,by kernel_rfl,by kernel_rfl,by kernel_rfl⟩
theorem aeR{cs:List _}(h:ahead f=some (215,#[])):aH PR main (G f cs) w=.go (G (f.finish unit) cs) w #[]:=
 tm akb h (by rfl) (by rfl) (by simp)
theorem stood{r:ae×List _}{l:List _}{site:List _}{al:List _}{call:Option _}{load:Option _}(h:look ks r=kD l site al call load)(hk:al.map (·.1)=ks):oh l site al call load r:=by
 subst hk;exact stands h
theorem wrap_small{z:Nat}(h:z<1000):bW.wrap z=z:=by
 simp[IntKind.wrap,IntKind.bits];omega
namespace Env
section
variable{E:Env}{A:(Nat->Prop)->(Nat->Prop)->ai->ah->Prop}{x:Nat}{S X:Nat->Prop}{Fx:ah->Prop}{c:ae}{cs B:List ae}
def I8(E:Env)(A:(Nat->Prop)->(Nat->Prop)->ai->ah->Prop)(x:Nat)(S X:Nat->Prop)(Fx:ah->Prop)(c:ae)(cs:List _):=
 ∀k w γ,Fx w->E.mJ γ (w.heap[E.Mp]?)->E.Tree PR false (E.jw PR A k (.ur (E.upd γ x))) (fun a=>S a\/a=E.Mp) (fun a=>X a\/a=E.Mp) (G (c.finish unit) cs) w
theorem via{D:(Nat->Prop)->(Nat->Prop)->ai->ah->Prop}{site:List _}{al:List _}{l:List _}(Y:Fr site (sA al) f)(k:∀j w3,gU E.U S w w3->E.Tree PR false D S X (G (gS PR 300 ((lf site (sA al) j).finish v) l).1 (gS PR 300 ((lf site (sA al) j).finish v) l).2) w3):E.Tree PR false D S X (G (f.finish v) l) w:=by
 rw[Y.eq];exact aj 300 fun w3 hr=>k _ w3 hr
variable(I:∀i,¬E.U E.Mp i)(K:E.Kn S Fx)(hB:B=(zO E.Fd c cs).2)(hT:I8 E A x S X Fx c cs)
section
include I K hT
theorem SY{l:List _}(n:Nat)(h:ahead f=some (182,#[ptr E.Fd]))(R:gS PR n (f.finish unit) l=(c.finish unit,cs))(k:Nat)(hF:Fx w):E.Tree PR false (E.jw PR A k (.la x)) S X (G f l) w:=by
 refine .stop ?_;cases k with
 |zero=>trivial
 |succ k=>
  refine⟨rfl,rfl,fun w2 γ hr B=>⟨G (f.finish unit) l,yl (by simp) TB h,aj n fun w3 Y=>?_⟩⟩;rw[R];have H:=K.rely (K.rely hF hr) (O5 (fun a D=>.inl D) Y);refine hT k w3 γ H ?_;have:=(Y.kept _ (.inr rfl)).eq fun i U=>I i U;simp_all
theorem aeS{l:List _}(n:Nat)(R:qC f=some (253,159,ptr E.Fd))(h:ahead (gS PR 300 (f.finish (ptr E.Fd)) l).1=some (182,#[ptr E.Fd]))(F:gS PR n ((gS PR 300 (f.finish (ptr E.Fd)) l).1.finish unit) (gS PR 300 (f.finish (ptr E.Fd)) l).2=(c.finish unit,cs))(k:Nat)(hF:Fx w):
  E.Tree PR false (E.jw PR A k (.la x)) S X (G f l) w:=by
 refine Tz.one rfl fun w2 hr=>?_;have Y:=K.rely hF hr;obtain⟨v,D⟩:=(K.fd Y).cell0;refine⟨G _ l,w2,#[],S,X,uG R u253 u159 i187 D,js S X w2,aj 300 fun w3 H=>?_⟩;exact SY I K hT n h F k (K.rely Y H)
end
include I K hB hT
theorem SZ{gI it:Int}{sv:Bool}{r:ae×List _}(h:oh B DJ (jg E.Fd gI sv aw it) (some (170,#[])) none r)(k:Nat)(hF:Fx w):E.Tree PR false (E.jw PR A k (.le x)) S X (G r.1 r.2) w:=by
 refine .stop ?_;cases k with
 |zero=>trivial
 |succ k=>
  refine⟨rfl,rfl,fun w2 hr=>⟨G _ r.2,r7 (by simp) xN h.call,aj 300 fun w3 C=>?_⟩⟩;have D:=K.rely (K.rely hF hr) C;obtain⟨j,M⟩:=h.lf;rw[M,h.callers];have Y:=stood (aeD (Fd:=E.Fd) (gI:=gI) (sv:=sv) (aw:=aw) (it:=it) (j:=j) (l:=B)) rfl;have J:=aeE (Fd:=E.Fd) (gI:=gI) (sv:=sv) (aw:=aw) (it:=it) (j:=j) (l:=B);change E.Tree PR _ _ S X (G (yX _ gI sv aw it j B).1 (yX E.Fd gI sv aw it j B).2) w3;generalize yX E.Fd gI sv aw it j B=r1 at Y J;obtain⟨F,R⟩:=Y.lf;obtain⟨f1,l1⟩:=r1;have L:=Y.callers.symm;subst L R;have H:=stood (aeF (Fd:=E.Fd) (gI:=gI) (sv:=sv) (aw:=aw) (it:=it) (j:=F) (l:=B)) rfl;have N:gS PR 9 ((DT E.Fd gI sv aw it F B).1.finish unit) (DT E.Fd gI sv aw it F B).2=(c.finish unit,cs):=by
   obtain⟨O,U⟩:=H.lf;rw[U,H.callers,hB];exact agP
  exact aeS I K hT 9 J H.call N k D
def Reads(E:Env)(A:(Nat->Prop)->(Nat->Prop)->ai->ah->Prop)(x:Nat)(S X:Nat->Prop)(Fx:ah->Prop)(B:List ae)(k:Nat):Prop:=
 ∀(site:List Item) (gI:Int) (sv aw:Bool) (it:Nat) (r:ae×List ae) (w:ah),(site=Jz\/site=I3\/site=DI)->oh B site (jg E.Fd gI sv aw it) none (some (21,ptr E.Fd)) r->Fx w->E.Tree PR false (E.jw PR A k (.lk (.rd aw sv it) x)) S X (G r.1 r.2) w
theorem aiE{gI it:Int}{sv:Bool}{old:Word}{r:ae×List ae}(h:oh B A5 (jg E.Fd gI sv aw it) (some (206,#[ptr E.Fd,.int .i32 (delta sv (nv old))])) none r)(k:Nat)(hF:Fx w):E.Tree PR false (E.jw PR A k (.lk (.a1 old sv) x)) S X (G r.1 r.2) w:=by
 refine .stop ?_;cases k with
 |zero=>trivial
 |succ k=>
  refine⟨rfl,rfl,fun w2 m F hr H O D Q T=>.inr ?_⟩;obtain⟨J,L,V⟩:=D;have Y:bW.wrap (val m+delta sv (nv old))=val ⟨true,m.K,if sv=false\/old.W=1 then false else m.S,m.W-1⟩:=by
   have hd:delta sv (nv old)=if sv=false\/old.W=1 then-11 else-7:=by
    unfold delta;rw[sF];simp_all
   rw[hd];have P:=Lock.rB m.K;have b0:bn false=0:=rfl;have b1:bn true=1:=rfl;by_cases R:sv=false\/old.W=1
   ·rw[if_pos R,if_pos R];unfold val;simp only[J,L,b0,b1];have e:((0+2 *bn m.K+4 *1+8 *m.W:Nat))+ -11=((1+2 *bn m.K+4 *0+8 *(m.W-1):Nat):Int):=by omega
    rw[e];exact wrap_small (by omega)
   ·rw[if_neg R,if_neg R];unfold val;simp only[J,L,b0,b1];have e:((0+2 *bn m.K+4 *1+8 *m.W:Nat))+ -7=((1+2 *bn m.K+4 *1+8 *(m.W-1):Nat):Int):=by omega
    rw[e];exact wrap_small (by omega)
  refine⟨_,_,F,G _ r.2,_,_,Mv.a1 m old F sv,C5 TE h.call H.cell0 (H.thaw 0),by rw[Y];exact H.nh _,Eff.set _ _ _ _,EvA.two _ _ (by omega),fun N=>by omega,?_⟩;have U:Fx (w2.setCell E.mu (.int .i32 (bW.wrap (val m+delta sv (nv old))))):=by rw[Y];exact K.lX (K.rely hF hr) H (Eff.set _ _ _ _) (H.nh _)
  refine via h.fr fun j w3 C=>?_;rw[h.callers];have M:=stood (aeC (Fd:=E.Fd) (gI:=gI) (sv:=sv) (aw:=aw) (it:=it) (x:=bW.wrap (val m+delta sv (nv old))) (j:=j) (l:=B)) rfl;exact SZ I K hB hT M k (K.rely U C)
end
end Env
theorem aaT{U:Nat->Nat->Prop}(S X:Nat->Prop)(w:ah):kz U S X w w.later #[] S X:=⟨⟨fun _ _ _=>rfl,ar _,fun a=>⟨.inl,fun h=>h.resolve_right fun y=>by simp[World.later]at y;omega⟩,fun a=>⟨.inl,fun h=>h.resolve_right fun y=>by simp[World.later]at y;omega⟩,fun e Y=>by simp_all,rfl,⟨w.tick,rfl⟩,rfl⟩,fun e Y=>by simp_all⟩
theorem acR{a b:Bool}(h:¬(a=true/\b=false)):(a&&!b)=false:=by simp_all
namespace Env
section
variable{E:Env}{A:(Nat->Prop)->(Nat->Prop)->ai->ah->Prop}{x:Nat}{S X:Nat->Prop}{Fx:ah->Prop}{c:ae}{cs B:List ae}
variable(I:∀i,¬E.U E.Mp i)(K:E.Kn S Fx)(hB:B=(zO E.Fd c cs).2)(hT:I8 E A x S X Fx c cs)
include I K hB hT
def AtC2(E:Env)(A:(Nat->Prop)->(Nat->Prop)->ai->ah->Prop)(x:Nat)(S X:Nat->Prop)(Fx:ah->Prop)(B:List ae)(k:Nat):Prop:=
 ∀(m:Word) (gI:Int) (sv aw:Bool) (it:Nat) (r:ae×List ae) (w:ah),m.W<=8->(sv=true->aw=true)->(aw=true->m.K=true)->it<=4->look [6,0,2,3,4,5] r=toC2 B E.Fd gI sv aw it (nv m)->Fx w->E.Tree PR false (E.jw PR A k (.lk (.c2 m aw sv it) x)) S X (G r.1 r.2) w
def y7(E:Env)(A:(Nat->Prop)->(Nat->Prop)->ai->ah->Prop)(x:Nat)(S X:Nat->Prop)(Fx:ah->Prop)(B:List ae)(k:Nat):Prop:=
 ∀(m:Word) (gI:Int) (sv aw:Bool) (it:Nat) (r:ae×List ae) (w:ah),m.W<=8->(sv=true->aw=true)->(aw=true->m.K=true)->it<=4->oh B zi (rR E.Fd gI sv aw it (nv m)) none none r->Fx w->E.Tree PR false (E.jw PR A k (behind (hr m aw sv it) x)) S X (G r.1 r.2) w
omit I K hB hT in
theorem aaU(m:Word)(aw sv:Bool)(it:Nat):(behind (.hw m aw sv it) x:E.kU)=.lk (.hw m aw sv it) x:=rfl
omit I K hB hT in
theorem O8(m:Word)(aw sv:Bool)(it:Nat):(behind (.c2 m aw sv it) x:E.kU)=.lk (.c2 m aw sv it) x:=rfl
theorem JK(R:Reads E A x S X Fx B k){gI:Int}{sv:Bool}(hit:it<=4){r:ae×List _}(h:oh B yV (jg E.Fd gI sv aw it) (some (215,#[])) none r)(hF:Fx w):E.Tree PR false (E.jw PR A k (.lk (.rd aw sv (it+1)) x)) S X (G r.1 r.2) w:=by
 refine Tz.one rfl fun w2 hr=>⟨G _ r.2,w2,#[],S,X,aeR h.call,js S X w2,via h.fr fun j w3 Y=>?_⟩;rw[h.callers];have H:=stood (aex (Fd:=E.Fd) (gI:=gI) (sv:=sv) (aw:=aw) (it:=it) (j:=j) (l:=B)) rfl;rw[aaS hit]at H;exact R _ gI sv aw _ _ w3 (.inr (.inl rfl)) H (K.rely (K.rely hF hr) Y)
theorem aiF(L:∀k',k'<k->Reads E A x S X Fx B k'){m:Word}(M:m.W<=8){gI:Int}(hit:it<4){r:ae×List _}(h:oh B I2 (KR E.Fd gI false false it (nv m)) (some (204,#[ptr E.Fd,.int .i32 (nv m),.int .i32 (val {m with K:=true})])) none r)(hF:Fx w):E.Tree PR false (E.jw PR A k (.lk (.c1 m it) x)) S X (G r.1 r.2) w:=by
 refine .stop ?_;cases k with
 |zero=>trivial
 |succ k=>
  refine⟨rfl,rfl,fun w2 R D hr Y N J O P=>.inr ?_⟩;by_cases F:R=m
  ·subst F;refine⟨_,_,D,G _ r.2,_,_,Mv.KC R D it,Au vs h.call Y.cell0 (Y.thaw 0),Y.nh _,Eff.set _ _ _ _,EvA.two _ _ (by omega),fun C=>by omega,via h.fr fun j w3 H=>?_⟩;rw[h.callers];have U:=stood (acE (Fd:=E.Fd) (gI:=gI) (sv:=false) (aw:=false) (it:=it) (old:=(nv R)) (j:=j) (l:=B)) rfl;exact JK I K hB hT (L k (by omega)) (by omega) U (K.rely (K.lX (K.rely hF hr) Y (Eff.set _ _ _ _) (Y.nh _)) H)
  ·refine⟨_,_,D,G _ r.2,_,_,Mv.KD R m D it F,As vs h.call Y.cell0 (Y.thaw 0) (fun e=>F (val_inj e)),Y,Eff.refl _ _,EvA.one _ _ _ (by omega),fun C=>by omega,via h.fr fun j w3 H=>?_⟩;rw[h.callers];have U:=stood (acF (Fd:=E.Fd) (gI:=gI) (sv:=false) (aw:=false) (it:=it) (old:=(nv m)) (j:=j) (l:=B)) rfl;exact JK I K hB hT (L k (by omega)) (by omega) U (K.rely (K.rely hF hr) H)
theorem aiG(ih:∀k',k'<k->Reads E A x S X Fx B k')(hC:∀k',k'<k->AtC2 E A x S X Fx B k'){m:Word}(H:m.W<=8){gI:Int}{sv:Bool}(Z:sv=true->aw=true)(M:aw=true->m.K=true)(hit:it<=4)(F:m.L=true/\m.S=false)
  {r:ae×List ae}(h:oh B H4 (KQ E.Fd gI sv aw it (nv m)) (some (214,#[.int .i64 (it:Int)])) none r)(hF:Fx w):E.Tree PR false (E.jw PR A k (.lk (.hw m aw sv it) x)) S X (G r.1 r.2) w:=by
 refine .stop ?_;cases k with
 |zero=>trivial
 |succ k=>
  have U:(nv m%2==1&&nv m/4%2==0)=true:=by rw[xL,qB,sE,F.1,F.2];rfl
  have no:∀w1,Fx w1->E.Tree PR false (E.jw PR A k (behind (hd m aw sv it false) x)) S X (G (r.1.finish (.bool false)) r.2) w1:=by
   intro w1 R;have e:hd m aw sv it false=.c2 m aw sv it:=by unfold hd;simp
   rw[e,O8];refine via h.fr fun j w3 D=>?_;rw[h.callers];have Y:nv m∈xl aw:=oH H (by
    rw[U,xM];cases aw with
    |false=>rfl
    |true=>rw[M rfl];rfl)
   refine hC k (by omega) m gI sv aw it _ w3 H Z M hit ?_ (K.rely R D);cases aw with
   |false=>
    have:sv=false:=by simp_all
    subst this;exact jr aaJ Y
   |true=>
    cases sv with
    |false=>exact jr aaK Y
    |true=>exact jr aaL Y
  have yes:it<4->∀w1,Fx w1->E.Tree PR false (E.jw PR A k (behind (hd m aw sv it true) x)) S X (G (r.1.finish (.bool true)) r.2) w1:=by
   intro P w1 R;by_cases z:aw=false/\m.K=false/\m.W≠0
   ·have e:hd m aw sv it true=.c1 m it:=by unfold hd;simp_all
    rw[e];obtain⟨rfl,Q,T⟩:=z;have:sv=false:=by simp_all
    subst this;refine via h.fr fun j w3 D=>?_;rw[h.callers];have Y:nv m∈JD:=oH H (by rw[U,qB,xM,Q,sF];simp[T]);have N:=stood (jr (aaM (Fd:=E.Fd) (gI:=gI) (sv:=false) (it:=(it:Int)) (j:=j) (l:=B)) Y) rfl;rw[zp]at N;exact aiF I K hB hT (fun k' c=>ih k' (by omega)) H P N (K.rely R D)
   ·have e:hd m aw sv it true=.rd aw sv (it+1):=by unfold hd;simp_all
    rw[e];refine via h.fr fun j w3 D=>?_;rw[h.callers];have N:oh B yV (jg E.Fd gI sv aw it) (some (215,#[])) none (tA E.Fd gI sv aw it (nv m:Int) true j B):=by
     cases aw with
     |true=>exact stood (jr (aaO (gI:=gI) (sv:=sv) (j:=j) (l:=B)) (oH H U)) rfl
     |false=>
      refine stood (jr (aaN (Fd:=E.Fd) (gI:=gI) (sv:=sv) (it:=(it:Int)) (j:=j) (l:=B)) (oH H ?_)) rfl;rw[U,qB,xM,sF];cases Q:m.K with
      |true=>rfl
      |false=>
       have:m.W=0:=cR fun y=>z ⟨rfl,Q,y⟩;rw[this];rfl
    exact JK I K hB hT (ih k (by omega)) hit N (K.rely R D)
  refine⟨rfl,rfl,fun w2 O J hr C d q f g=>.inr ?_⟩;by_cases P:it<4
  ·refine⟨_,O,J,G _ r.2,w2.asked,#[],Mv.hw O m J aw sv it w2.spins,Xa h.call TF (by omega),C.asked,Eff.asked _ _,EvA.nil _,fun V=>by omega,?_⟩;cases w2.spins with
   |false=>exact no w2.asked (K.lX (K.rely hF hr) C (Eff.asked _ _) C.asked)
   |true=>exact yes P w2.asked (K.lX (K.rely hF hr) C (Eff.asked _ _) C.asked)
  ·exact⟨_,O,J,G _ r.2,w2,#[],Mv.hw O m J aw sv it false,Xv h.call TF (by omega),C,Eff.refl _ _,EvA.nil _,fun V=>by omega,no w2 (K.rely hF hr)⟩
theorem aeT(V:∀k',k'<k->Reads E A x S X Fx B k')(M:∀k',k'<=k->AtC2 E A x S X Fx B k'):y7 E A x S X Fx B k:=by
 intro m gI sv aw it r w H U D hit h hF;obtain⟨j,O⟩:=h.lf;rw[O,h.callers];refine aj 300 fun w3 F=>?_;have R:=K.rely hF F;by_cases C:m.L=true/\m.S=false
 ·have e:hr m aw sv it=.hw m aw sv it:=by unfold hr;simp_all
  rw[e,aaU];have J:(nv m%2==1&&nv m/4%2==0)=true:=by rw[xL,qB,sE,C.1,C.2];rfl
  have N:=stood (jr (acD (Fd:=E.Fd) (gI:=gI) (sv:=sv) (aw:=aw) (it:=it) (j:=j) (l:=B)) (oH H J)) rfl;exact aiG I K hB hT V (fun k' P=>M k' (by omega)) H U D hit C N R
 ·have e:hr m aw sv it=.c2 m aw sv it:=by unfold hr;simp_all
  rw[e,O8];have Y:nv m∈xu aw:=oH H (by
   rw[xL,qB,sE,xM,acR C];cases aw with
   |false=>rfl
   |true=>rw[D rfl];rfl)
  refine M k (ar _) m gI sv aw it _ w3 H U D hit ?_ R;cases aw with
  |false=>
   have:sv=false:=by simp_all
   subst this;exact jr aaG Y
  |true=>
   cases sv with
   |false=>exact jr aaH Y
   |true=>exact jr aaI Y
end
end Env
namespace Env
section
variable{E:Env}{A:(Nat->Prop)->(Nat->Prop)->ai->ah->Prop}{x:Nat}{S X:Nat->Prop}{Fx:ah->Prop}{c:ae}{cs B:List ae}
variable(I:∀i,¬E.U E.Mp i)(K:E.Kn S Fx)(hB:B=(zO E.Fd c cs).2)(hT:I8 E A x S X Fx c cs)
include I K hB hT
theorem S0(V:∀k',k'<k->y7 E A x S X Fx B k'){gI it:Int}{sv:Bool}{r:ae×List _}(h:oh B DR (jg E.Fd gI sv aw it) none (some (21,ptr E.Fd)) r)(hF:Fx w):E.Tree PR false (E.jw PR A k (.lk (.r2 sv) x)) S X (G r.1 r.2) w:=by
 refine .stop ?_;cases k with
 |zero=>trivial
 |succ k=>
  refine⟨rfl,rfl,fun w2 m J hr M T F N q=>.inr ?_⟩;have R:aH PR false (G r.1 r.2) w2=.go _ w2 #[]:=CD h.load Ef M.cell0 (by rw[h.fr.fn];exact TJ);have P:∀(D:(Nat->Prop)->(Nat->Prop)->ai->ah->Prop),(∀j w3,gU E.U S w2 w3->E.Tree PR false D S X (G (xo E.Fd gI sv aw it (nv m) j B).1 (xo E.Fd gI sv aw it (nv m) j B).2) w3)->E.Tree PR false D S X (G (r.1.finish (.int .i32 (val m))) r.2) w2:=by
   intro D hk;rw[h.fr.eq,h.callers];exact Tz.Bd 300 fun w3 H=>hk _ w3 H
  cases Y:m.S with
  |false=>
   refine⟨_,m,J,_,w2,#[],Mv.E5 m J sv Y,R,M,Eff.refl _ _,EvA.nil _,fun O=>by omega,P _ fun j w3 H=>?_⟩;have L:=stood (jr (acL (Fd:=E.Fd) (gI:=gI) (sv:=sv) (aw:=aw) (it:=it) (j:=j) (l:=B)) (oH N (by rw[qB,sE,Y];rfl))) rfl;exact V k (by omega) m gI sv true 0 _ w3 N (fun _=>rfl) (fun _=>F.2 Y) (by omega) L (K.rely (K.rely hF hr) H)
  |true=>
   refine⟨_,m,J,_,w2,#[],Mv.KI m J sv Y,R,M,Eff.refl _ _,EvA.nil _,fun O=>by omega,P _ fun j w3 H=>?_⟩;obtain⟨Z,W,z⟩:=F.1 Y;have Q:(nv m%4==0)=true:=by
    unfold nv;have b0:bn false=0:=rfl;rw[Z,W,b0];simp;omega
   have C:nv m∈lW:=oH N (by rw[Q,sE,Y,sF];simp;omega);have L:oh B A5 (jg E.Fd gI sv aw it) (some (206,#[ptr E.Fd,.int .i32 (delta sv (nv m))])) none (xo E.Fd gI sv aw it (nv m) j B):=by
    cases sv with
    |false=>exact stood (jr (Zk) C) rfl
    |true=>exact stood (jr (Zl) C) rfl
   exact aiE I K hB hT L k (K.rely (K.rely hF hr) H)
theorem aiH(F:∀k',k'<k->y7 E A x S X Fx B k'){gI it:Int}{r:ae×List _}(h:oh B I6 ((95,.bool false)::jg E.Fd gI false aw it) (some (217,#[])) none r)(hF:Fx w):E.Tree PR false (E.jw PR A k (.lk .t2 x)) S X (G r.1 r.2) w:=by
 refine .stop ?_;cases k with
 |zero=>trivial
 |succ k=>
  refine⟨rfl,rfl,fun w2 m D hr Y L R M N=>.inr ?_⟩;refine⟨_,m,D,G _ r.2,w2.later,#[],Mv.t2 m D (decide (1000000<a_.wrap (((w2.os.mono+w2.tick))-gI))),O2 h.call TG TH,Y.later,Eff.later _ _,EvA.nil _,fun J=>by omega,via h.fr fun j w3 H=>?_⟩;rw[h.callers];have U:=stood (aeB (Fd:=E.Fd) (gI:=gI) (T:=((w2.os.mono+w2.tick))) (aw:=aw) (it:=it) (j:=j) (l:=B)) rfl;exact S0 I K hB hT (fun k' C=>F k' (by omega)) U (K.rely (K.lX (K.rely hF hr) Y (Eff.later _ _) Y.later) H)
theorem S3(F:∀k',k'<k->y7 E A x S X Fx B k'){gI it:Int}{sv:Bool}{r:ae×List _}(h:oh B DK (jg E.Fd gI sv aw it) (some (218,#[.pointer (some E.ms),v8,.int .i64 2])) none r)(hF:Fx w):E.Tree PR false (E.jw PR A k (.lk (.s1 sv) x)) S X (G r.1 r.2) w:=by
 refine .stop ?_;cases k with
 |zero=>trivial
 |succ k=>
  refine⟨rfl,rfl,fun w2 m J hr Y L C N O=>?_⟩;cases J with
  |zero=>exact .inl ⟨sv,rfl,rfl,MZ TI h.call rfl Y.rC⟩
  |succ c0=>
   have M:(((c0+1:Nat):Int)-1)=c0:=by omega
   have gF:=ML (main:=false) (cs:=r.2) TI h.call rfl Y.rC (by omega) (Y.thaw 1);rw[M]at gF;refine .inr ?_;cases sv with
   |false=>
    refine⟨_,m,c0,_,_,_,Mv.KG m c0,gF,Y.qP c0,Eff.set _ _ _ _,EvA.zN _ _ (by omega),fun U=>by omega,?_⟩;refine via h.fr fun j w3 H=>?_;rw[h.callers];have D:=stood (acJ (Fd:=E.Fd) (gI:=gI) (aw:=aw) (it:=it) (j:=j) (l:=B)) rfl;exact aiH I K hB hT (fun k' R=>F k' (by omega)) D (K.rely (K.lX (K.rely hF hr) Y (Eff.set _ _ _ _) (Y.qP c0)) H)
   |true=>
    refine⟨_,m,c0,_,_,_,Mv.KH m c0,gF,Y.qP c0,Eff.set _ _ _ _,EvA.zN _ _ (by omega),fun U=>by omega,?_⟩;refine via h.fr fun j w3 H=>?_;rw[h.callers];have D:=stood (acK (Fd:=E.Fd) (gI:=gI) (aw:=aw) (it:=it) (j:=j) (l:=B)) rfl;exact S0 I K hB hT (fun k' R=>F k' (by omega)) D (K.rely (K.lX (K.rely hF hr) Y (Eff.set _ _ _ _) (Y.qP c0)) H)
theorem aiI(ih:∀k',k'<k->Reads E A x S X Fx B k')(hH:∀k',k'<k->y7 E A x S X Fx B k'):AtC2 E A x S X Fx B k:=by
 intro m gI sv aw it r w M a n hit b hF;have h:=stood b rfl;refine .stop ?_;cases k with
 |zero=>trivial
 |succ k=>
  refine⟨rfl,rfl,fun w2 H O hr U t p hW hc=>.inr ?_⟩;have D:=by
   have:=h.call;rw[zp]at this;exact this
  by_cases c:H=m
  ·subst c;refine⟨_,_,O,G (r.1.finish (.bool true)) r.2,_,_,Mv.E4 H O aw sv it,Au vs D U.cell0 (U.thaw 0),U.nh _,Eff.set _ _ _ _,EvA.two _ _ (by omega),fun z=>by omega,?_⟩;have F:=K.lX (K.rely hF hr) U (Eff.set _ _ _ _) (U.nh (Lock.nw H aw sv));by_cases P:H.L=false/\H.S=false
   ·rw[if_pos P];refine via h.fr fun j w3 R=>?_;rw[h.callers];have Y:=stood (jr (aey (Fd:=E.Fd) (gI:=gI) (sv:=sv) (aw:=aw) (it:=(it:Int)) (j:=j) (l:=B)) (oH M (by rw[qB,xL,qB,sE,P.1,P.2];rfl))) rfl;exact SZ I K hB hT Y k (K.rely F R)
   ·rw[if_neg P];rw[h.fr.eq,h.callers];refine Tz.SO 87 300 fun w3 R=>?_;have V:=K.rely F R;have N:nv H∈ny:=oH M (by
     rw[qB,xL,qB,sE];cases hL:H.L<;>cases y:H.S<;>simp_all)
    have Y:=stood (jr (aez (Fd:=E.Fd) (gI:=gI) (sv:=sv) (aw:=aw) (it:=(it:Int)) (j:=fun i=>r.1.tmps.getD i ax) (l:=B)) N) rfl;change E.Tree PR false _ S X (G (AV E.Fd gI sv aw (it:Int) (nv H:Int) _ B).1 (AV E.Fd gI sv aw (it:Int) (nv H:Int) _ B).2) w3;generalize AV E.Fd gI sv aw (it:Int) (nv H:Int) _ B=r1 at Y;have s:Fr I4 (sA ((87,.bool (decide (gI=0)))::(8,r1.1.tmps.getD 8 ax)::jg E.Fd gI sv aw it)) r1.1:=by
     refine⟨Y.fr.fn,Y.fr.todo,Y.fr.defers,Y.fr.mode,Y.fr.kind,Y.fr.round,Y.fr.size,fun i v e=>?_⟩;by_cases o:i=8
     ·subst o;exact Option.some.inj e
     ·refine Y.fr.slot i v ?_;rw[<-e];unfold sA;rw[cA,cA,cA];have:(i==8)=false:=by simpa using o
      rw[this]
    rw[s.eq,Y.callers];refine aj 300 fun w4 d=>?_;have J:=K.rely V d;cases hd:decide (gI=0)with
    |false=>
     have C:=stood (acI (Fd:=E.Fd) (gI:=gI) (sv:=sv) (aw:=aw) (it:=(it:Int)) (v8:=r1.1.tmps.getD 8 ax) (j:=fun i=>r1.1.tmps.getD i ax) (l:=B)) rfl;exact S3 I K hB hT (fun k' q=>hH k' (by omega)) C J
    |true=>
     have C:=stood (acH (Fd:=E.Fd) (gI:=gI) (sv:=sv) (aw:=aw) (it:=(it:Int)) (v8:=r1.1.tmps.getD 8 ax) (j:=fun i=>r1.1.tmps.getD i ax) (l:=B)) rfl;change E.Tree PR false _ S X (G _ (I5 E.Fd gI sv aw true (it:Int) (r1.1.tmps.getD 8 ax) _ B).2) w4;refine Tz.one rfl fun Q f=>⟨_,_,_,S,X,O2 C.call TG TH,aaT S X Q,via C.fr fun j w6 g=>?_⟩;have Z:Fx Q.later:=K.later (K.rely J f);have W:Fx w6:=K.rely Z g;rw[C.callers];have u:=stood (aeA (Fd:=E.Fd) (sv:=sv) (aw:=aw) (it:=(it:Int)) (T:=((Q.os.mono+Q.tick:Nat):Int)) (v8:=r1.1.tmps.getD 8 ax) (gI:=gI) (j:=j) (l:=B)) rfl;exact S3 I K hB hT (fun k' q=>hH k' (by omega)) u W
  ·refine⟨_,_,O,G (r.1.finish (.bool false)) r.2,_,_,Mv.KF H m O aw sv it c,As vs D U.cell0 (U.thaw 0) (fun e=>c (val_inj e)),U,Eff.refl _ _,EvA.one _ _ _ (by omega),fun z=>by omega,?_⟩;refine via h.fr fun j w3 R=>?_;rw[h.callers];have Y:=stood (acG (Fd:=E.Fd) (gI:=gI) (sv:=sv) (aw:=aw) (it:=(it:Int)) (old:=(nv m:Int)) (j:=j) (l:=B)) rfl;exact ih k (by omega) DI gI sv aw it _ w3 (.inr (.inr rfl)) Y (K.rely (K.rely hF hr) R)
theorem aaV:∀k,Reads E A x S X Fx B k:=by
 intro k;induction k using bL with
 |_ k N=>
 have Y:∀k',k'<k->y7 E A x S X Fx B k'/\AtC2 E A x S X Fx B k':=by
  intro k';induction k' using bL with
  |_ k' F=>
  intro P;have c2:=aiI I K hB hT (fun q C=>N q (by omega)) (fun q C=>(F q C (by omega)).1);refine⟨aeT I K hB hT (fun q C=>N q (by omega)) (fun q C=>?_),c2⟩;rcases Nat.lt_or_eq_of_le C with D|rfl
  ·exact(F q D (by omega)).2
  ·omega
 intro site gI sv aw it r w H h hF;refine .stop ?_;cases k with
 |zero=>trivial
 |succ k=>
  refine⟨rfl,rfl,fun w2 m L hr M R U O Q=>.inr ?_⟩;refine⟨_,m,L,_,w2,#[],Mv.rd m L aw sv it,CD h.load Ef M.cell0 (by rw[h.fr.fn];exact TJ),M,Eff.refl _ _,EvA.nil _,fun D=>by omega,?_⟩;rw[h.fr.eq,h.callers];refine Tz.Bd 60 fun w3 J=>?_;refine(Y k (by omega)).1 m gI sv aw it _ w3 O R.1 U R.2 ?_ (K.rely (K.rely hF hr) J);rcases H with e|e|e
  ·rw[e];exact stood Zj rfl
  ·rw[e];exact stood X7 rfl
  ·rw[e];exact stood X8 rfl
omit hB in
theorem aeU(k:Nat)(hF:Fx w):E.Tree PR false (E.jw PR A k (.ld x)) S X (G (Frame.enter PR 160 #[ptr E.Fd] .normal) (c::cs)) w:=by
 refine aj 60 fun w1 M=>?_;have C:=K.rely hF M;refine .stop ?_;cases k with
 |zero=>trivial
 |succ k=>
  refine⟨rfl,rfl,fun w2 hr=>⟨G _ _,r7 (by simp) Bq la0,aj 60 fun w3 N=>?_⟩⟩;have D:=K.rely (K.rely C hr) N;refine .stop ?_;cases k with
  |zero=>trivial
  |succ k=>
   refine⟨rfl,rfl,fun w4 m B U Y q V z d=>.inr ?_⟩;by_cases L:m=.zero
   ·subst L;refine⟨_,_,B,G _ _,_,_,Mv.E3 B,Au vs Us Y.cell0 (Y.thaw 0),Y.nh ⟨true,false,false,0⟩,Eff.set _ _ _ _,EvA.two _ _ (by omega),fun J=>by omega,aj 60 fun Z H=>?_⟩;have F:=K.rely (K.lX (K.rely D U) Y (Eff.set _ _ _ _) (Y.nh ⟨true,false,false,0⟩)) H;refine .stop ?_;cases k with
    |zero=>trivial
    |succ k=>
     refine⟨rfl,rfl,fun f O=>⟨G _ _,r7 (by simp) xN la2,aj 60 fun g P=>?_⟩⟩;refine Tz.one rfl fun W Q=>?_;have R:=K.rely (K.rely (K.rely F O) P) Q;obtain⟨v,j⟩:=(K.fd R).cell0;refine⟨G _ _,W,#[],S,X,uG la3 u253 u159 i187 j,js S X W,aj 60 fun l T=>?_⟩;exact SY I K hT 6 la4 la5 k (K.rely R T)
   ·refine⟨_,_,B,G _ _,_,_,Mv.KA m B L,As vs Us Y.cell0 (Y.thaw 0) (fun e=>L (val_inj e)),Y,Eff.refl _ _,EvA.one _ _ _ (by omega),fun J=>by omega,aj 60 fun Z H=>?_⟩;exact aaV I K rfl hT k _ 0 _ _ 0 _ Z (.inl rfl) (stood las rfl) (K.rely (K.rely D U) H)
end
end Env
end Ph
namespace Ph
open Conc Ren
section
variable(Wg:Nat)(c:ae)(cs:List ae)
def zQ:ae×List Frame:=gS PR 60 (Frame.enter PR 181 #[ptr Wg] .deferred) (c::cs)
def K8:ae×List Frame:=gS PR 60 ((zQ Wg c cs).1.finish (ptr Wg)) (zQ Wg c cs).2
def K_:ae×List Frame:=gS PR 60 ((K8 Wg c cs).1.finish unit) (K8 Wg c cs).2
def x6:ae×List Frame:=gS PR 60 ((K_ Wg c cs).1.finish unit) (K_ Wg c cs).2
def E7:ae×List Frame:=gS PR 90 ((x6 Wg c cs).1.finish (.bool false)) (x6 Wg c cs).2
def vR (z:Int):ae×List Frame:=gS PR 300 ((E7 Wg c cs).1.finish (.int .u64 z)) (E7 Wg c cs).2
def La:ae×List Frame:=gS PR 300 ((vR Wg c cs 1).1.finish (.int .u64 1)) (vR Wg c cs 1).2
def E8:ae×List Frame:=gS PR 300 ((La Wg c cs).1.finish unit) (La Wg c cs).2
def zR:ae×List Frame:=gS PR 300 ((E8 Wg c cs).1.finish unit) (E8 Wg c cs).2
end
section
variable{Wg:Nat}{c:ae}{cs:List ae}
theorem da0:qC (zQ Wg c cs).1=some (216,159,ptr Wg):=by kernel_rfl
theorem da1:ahead (K8 Wg c cs).1=some (168,#[ptr Wg]):=by kernel_rfl
theorem da2:ahead (K_ Wg c cs).1=some (169,#[]):=by kernel_rfl
theorem da3:ahead (x6 Wg c cs).1=some (171,#[]):=by kernel_rfl
theorem da4:ahead (E7 Wg c cs).1=some (200,#[ptr Wg,.int .u64 18446744069414584320]):=by kernel_rfl
theorem da5:ahead (vR Wg c cs 1).1=some (201,#[ptr Wg]):=by kernel_rfl
theorem da6:ahead (La Wg c cs).1=some (202,#[ptr Wg,.int .u64 0]):=by kernel_rfl
theorem Ux:ahead (E8 Wg c cs).1=some (180,#[.pointer (some ⟨Wg,1,none⟩),.bool false,.int .i64 0]):=by kernel_rfl
end
theorem TK:jG PR 171 (fun _=>pure (.bool false)):=⟨_,Tryz.func171,by kernel_rfl,by kernel_rfl,by kernel_rfl,by kernel_rfl⟩
theorem TL:jG PR 200 (cW (Op.intArith .add) .u64 true):=⟨_,Tryz.func200,by kernel_rfl,by kernel_rfl,by kernel_rfl,by kernel_rfl⟩
theorem Kc:jG PR 201 (cU (.int .u64)):=⟨_,Tryz.func201,by kernel_rfl,by kernel_rfl,by kernel_rfl,by kernel_rfl⟩
theorem akc:jG PR 202 cV:=⟨_,Tryz.func202,by kernel_rfl,by kernel_rfl,by kernel_rfl,by kernel_rfl⟩
theorem TM:jG PR 203 (cT (.int .u64)):=⟨_,Tryz.func203,by kernel_rfl,by kernel_rfl,by kernel_rfl,by kernel_rfl⟩
theorem TO:jG PR 180 cY:=⟨_,Tryz.func180,by kernel_rfl,by kernel_rfl,by kernel_rfl,by kernel_rfl⟩
theorem TP:jG PR 186 cX:=⟨_,Tryz.func186,by kernel_rfl,by kernel_rfl,by kernel_rfl,by kernel_rfl⟩
theorem akd:jG PR 176 (b_ .read):=⟨_,Tryz.func176,by kernel_rfl,by kernel_rfl,by kernel_rfl,by kernel_rfl⟩
theorem ake:jG PR 185 (b_ .write):=⟨_,Tryz.func185,by kernel_rfl,by kernel_rfl,by kernel_rfl,by kernel_rfl⟩
theorem u216:PR.underlying 216=some (.pointer 212):=by simp
theorem i212:(PR.info? 212).map (fun i=>decide (i.size=0))=some false:=by kernel_rfl
theorem CE{P:aK}:∀(n:Nat) {q d:Nat} {f:ae} {l:List ae},bj P q d (G (gS P n f l).1 (gS P n f l).2)->∃Y,bj P Y d (G f l)
 |0,q,d,f,l,h=>⟨q,h⟩
 |n+1,q,d,f,l,h=>by
  unfold gS at h;split at h
  ·rename_i f1 l1 e;obtain⟨Y,h'⟩:=CE n h;exact⟨Y+1,.ctl rfl (fun w=>tu e) h'⟩
  ·exact⟨q,h⟩
theorem NI{P:aK}{g:au}{m:Mark}(L:∀g,m≠.extern g)(F:f.mode=.returning)(hr:f.roundOf=none)(hd:f.defers=dcall g #[]::ds)(X:jG P g (fun _=>do mark m;pure cf)):
  aH P main (G f cs) w=.go (G {f with defers:=ds} cs) w #[⟨.mark m,false,true⟩]:=by
 obtain⟨fn,Y,K,H,D,R⟩:=X.ex;obtain⟨je,tmps,todo,defers,mode,kind,ro⟩:=f;subst F hr;exact stepG_unwind_entry (b:=⟨je,tmps,todo,defers,.returning,kind,none⟩) (a:=⟨tmps,defers⟩) (v:=.tuple #[]) hd Y K H D R (by simp[cf]) (by simp) (by simp_all)
def bot:Frame:={(default:ae)with fn:=PR.funcs.size,defers:=[],mode:=.panicking [goexitEntry]}
def k_ (tmps:Array af) (todo:List Item):Frame:=⟨158,tmps,todo,[],.returning,.deferred,none⟩
section
variable{Wg:Nat}{tmps:Array af}{todo:List Item}{w:ah}
theorem leave1:aH PR false (G (k_ tmps todo) [bot]) w=.go (G bot []) w #[]:=by kernel_rfl
theorem agY:aH PR false (G bot []) w=.go {G bot []with status:=.finished} w #[]:=by kernel_rfl
def zs:List Nat:=[0,4294967296,4294967297,8589934592,8589934593,12884901888,12884901889,17179869184,17179869185,21474836480,21474836481,25769803776,25769803777,30064771072,30064771073,34359738368,34359738369]
theorem agZ:(zs.map fun z:Nat=>((vR Wg (k_ tmps todo) [bot] (z:Int)).1.mode,(vR Wg (k_ tmps todo) [bot] (z:Int)).1.roundOf,(vR Wg (k_ tmps todo) [bot] (z:Int)).1.defers))=zs.map fun z:Nat=>(.returning,none,[dcall 170 #[]]):=by kernel_rfl
theorem ag0:(zs.map fun z:Nat=>gS PR 6 {(vR Wg (k_ tmps todo) [bot] (z:Int)).1 with defers:=[]} (vR Wg (k_ tmps todo) [bot] (z:Int)).2)=zs.map fun z:Nat=>(k_ tmps todo,[bot]):=by kernel_rfl
theorem ag1:((zR Wg (k_ tmps todo) [bot]).1.mode,(zR Wg (k_ tmps todo) [bot]).1.roundOf,(zR Wg (k_ tmps todo) [bot]).1.defers)=(.returning,none,[dcall 170 #[]]):=by kernel_rfl
theorem ag2:gS PR 6 {(zR Wg (k_ tmps todo) [bot]).1 with defers:=[]} (zR Wg (k_ tmps todo) [bot]).2=(k_ tmps todo,[bot]):=by kernel_rfl
end
theorem aaW:bj PR 2 0 (G (k_ tmps todo) [bot]):=
 .ctl rfl (fun w=>leave1) (.inr ⟨rfl,{G bot []with status:=.finished},#[],by simp,fun w=>agY,⟨rfl,rfl⟩⟩)
theorem Qg{r:ae×List ae}(Y:(r.1.mode,r.1.roundOf,r.1.defers)=(.returning,none,[dcall 170 #[]]))(H:gS PR 6 {r.1 with defers:=[]} r.2=(k_ tmps todo,[bot])):∃q,bj PR q 1 (G r.1 r.2):=by
 simp only[de]at Y;have K:bj PR 2 0 (G (gS PR 6 {r.1 with defers:=[]} r.2).1 (gS PR 6 {r.1 with defers:=[]} r.2).2):=by rw[H];exact aaW
 obtain⟨q,D⟩:=CE 6 K;exact⟨q+1,.said _ rfl rfl (fun w=>NI (by simp) Y.1 Y.2.1 Y.2.2 xN) D⟩
theorem G2{P:aK}{cs:List _}{g:au}{k:IntKind}(X:jG P g (cU (.int k))){v:Int}(h:ahead f=some (g,#[.pointer (some ad)]))(F:w.cell? ad=some (.int k v)):
  aH P main (G f cs) w=.go (G (f.finish (.int k v)) cs) w #[⟨.cell ad,false,true⟩]:=by
 obtain⟨o,Y,H,C,gN,K⟩:=uD h;obtain⟨fn,D,R,I,A,U⟩:=X.ex;obtain⟨x,rfl⟩:∃x,Y=#[x]:=by
  have:=by have:=congrArg Array.size K;simpa using this
  refine⟨Y[0],?_⟩;apply Array.ext
  ·omega
  ·simp_all
 have J:=by simpa using K
 exact conv C fun ops i rest L B hw hk=>stepG_load_atomic B hw hk gN D R I A k U J F
theorem X9{P:aK}{g:au}{k:IntKind}(X:jG P g cV){v:Int}(h:ahead f=some (g,#[.pointer (some ad),.int k v]))(F:w.cell? ad=some u)(M:w.frozen? ad=false):
  aH P main (G f cs) w=.go (G (f.finish (.tuple #[])) cs) (w.setCell ad (.int k v)) #[⟨.cell ad,true,true⟩]:=by
 obtain⟨o,Y,R,L,gN,K⟩:=uD h;obtain⟨fn,I,A,U,B,C⟩:=X.ex;obtain⟨x,y,rfl⟩:∃x y,Y=#[x,y]:=by
  have N:=by have:=congrArg Array.size K;simpa using this
  refine⟨Y[0],Y[1],?_⟩;apply Array.ext
  ·omega
  ·intro i H J;have:i=0\/i=1:=by omega
   rcases this with rfl|rfl<;>rfl
 have D:=by simpa using K
 exact conv L fun ops i rest O H hw hk=>stepG_store_atomic H hw hk gN I A U B C D.1 D.2 F M
theorem sub_one{v:Nat}(H:v<=8)(Y:wt<=1):IntKind.u64.wrap ((((v+1) *4294967296+wt:Nat))+18446744069414584320)=((v *4294967296+wt:Nat)):=by
 rw[c7];omega
theorem aiJ{v:Nat}(R:v<=8)(H:wt<=1)(h:¬(v=0/\wt=1)):v *4294967296+wt∈zs:=by
 have Y:v=0\/v=1\/v=2\/v=3\/v=4\/v=5\/v=6\/v=7\/v=8:=by omega
 have K:wt=0\/wt=1:=by omega
 rcases Y with rfl|rfl|rfl|rfl|rfl|rfl|rfl|rfl|rfl<;>rcases K with rfl|rfl<;>first|(exact absurd ⟨rfl,rfl⟩ h)|(simp[zs])
namespace Env
theorem wq{P:aK}{Q:ai->Prop}:∀n0 {n:Nat} {f:ae} {l:List _},ou P Q n (G (gS P n0 f l).1 (gS P n0 f l).2)->∃Y,ou P Q Y (G f l)
 |0,n,f,l,h=>⟨n,h⟩
 |n0+1,n,f,l,h=>by
  unfold gS at h;split at h
  ·rename_i f1 l1 e;obtain⟨Y,h'⟩:=wq n0 h;exact⟨Y+1,rfl,_,fun w=>tu e,h'⟩
  ·exact⟨n,h⟩
theorem aeV{E:Env}{A:(Nat->Prop)->(Nat->Prop)->ai->ah->Prop}{X:Nat->Prop}{tmps:Array _}{todo:List _}(L:S E.Wg)(k:Nat)(hF:E.po w):
  E.Tree PR false (E.jw PR A k .wr) S X (G (zQ E.Wg (k_ tmps todo) [bot]).1 (zQ E.Wg (k_ tmps todo) [bot]).2) w:=by
 refine Tz.one rfl fun w2 U=>?_;have D:=hF.rely L U;obtain⟨v0,B⟩:=D.cell0;refine⟨_,w2,#[],S,X,uG da0 u216 u159 i212 B,js S X w2,aj 60 fun w3 M=>?_⟩;refine .stop ?_;cases k with
 |zero=>trivial
 |succ k=>
  refine⟨rfl,rfl,fun w4 N=>⟨G _ _,yl (by simp) TC da1,wq 60 (n:=0) ?_⟩⟩;refine⟨rfl,G _ _,fun O=>r7 (by simp) Bq da2,?_⟩;have J:∃n,ou PR (E.t_ PR 3) n (G (x6 E.Wg (k_ tmps todo) [bot]).1 (x6 E.Wg (k_ tmps todo) [bot]).2):=by
   obtain⟨n,R⟩:∃n,ou PR (E.t_ PR 3) n (G ((x6 E.Wg (k_ tmps todo) [bot]).1.finish (.bool false)) (x6 E.Wg (k_ tmps todo) [bot]).2):=by
    refine wq 90 (n:=0) ?_;refine⟨rfl,fun Q v wt F H Y=>?_⟩;have gF:=C5 (main:=false) (cs:=(E7 E.Wg (k_ tmps todo) [bot]).2) TL (da4 (c:=k_ tmps todo) (cs:=[bot])) Y.cell0 (Y.thaw 0);rw[sub_one F H]at gF;refine⟨_,_,_,gF,Y.nh v wt,Eff.set _ _ _ _,EvA.two _ _ (by omega),fun C=>?_,fun C=>?_⟩
    ·obtain⟨rfl,rfl⟩:=C;refine wq 300 (n:=0) ?_;refine⟨rfl,fun T Y=>⟨_,_,G2 Kc da5 Y.cell0,EvA.one _ _ _ (by omega),wq 300 (n:=0) ?_⟩⟩;refine⟨rfl,fun V Y=>⟨_,_,_,X9 akc da6 Y.cell0 (Y.thaw 0),Y.nh 0 0,Eff.set _ _ _ _,EvA.one _ _ _ (by omega),wq 300 (n:=0) ?_⟩⟩;refine⟨rfl,Hm TO Ux,fun Z Y=>?_⟩;have gF:=Gj (main:=false) (cs:=(E8 E.Wg (k_ tmps todo) [bot]).2) TO (Ux (c:=k_ tmps todo) (cs:=[bot])) rfl Y.rC (Y.thaw 1);refine⟨_,_,_,gF,Y.qP 1,Eff.set _ _ _ _,EvA.zN _ _ (by omega),?_⟩;have:=Qg (r:=zR E.Wg (k_ tmps todo) _) ag1 ag2;obtain⟨q,I⟩:=this;exact CE 300 I
    ·have K:=aiJ F H C;obtain⟨q,I⟩:=Qg (jr agZ K) (jr ag0 K);exact CE 300 I
   exact⟨n+1,rfl,_,fun P=>O3 TK da3,R⟩
  obtain⟨n,R⟩:=J;exact wq 60 R
end Env
section
variable(Wg:Nat)(c:ae)(cs:List ae)
def Lb:ae×List Frame:=gS PR 60 (Frame.enter PR 157 #[ptr Wg,.int .i64 1] .normal) (c::cs)
def Lc:ae×List Frame:=gS PR 60 ((Lb Wg c cs).1.finish unit) (Lb Wg c cs).2
def E9:ae×List Frame:=gS PR 90 ((Lc Wg c cs).1.finish (.bool false)) (Lc Wg c cs).2
def uq (z:Int):ae×List Frame:=gS PR 300 ((E9 Wg c cs).1.finish (.int .u64 z)) (E9 Wg c cs).2
def Ld:ae×List Frame:=gS PR 60 ((uq Wg c cs 4294967296).1.finish (.pointer (some ⟨Wg,1,none⟩))) (uq Wg c cs 4294967296).2
def zS:ae×List Frame:=gS PR 300 ((Ld Wg c cs).1.finish unit) (Ld Wg c cs).2
def BK:ae×List Frame:=gS PR 60 (Frame.enter PR 159 #[ptr Wg] .normal) (c::cs)
def E_:ae×List Frame:=rJ PR 60 ((BK Wg c cs).1.finish unit) (BK Wg c cs).2
end
section
variable{Wg:Nat}{c:ae}{cs:List ae}
theorem aa0:ahead (Lb Wg c cs).1=some (169,#[]):=by kernel_rfl
theorem aa1:ahead (Lc Wg c cs).1=some (171,#[]):=by kernel_rfl
theorem aa2:ahead (E9 Wg c cs).1=some (200,#[ptr Wg,.int .u64 4294967296]):=by kernel_rfl
theorem aa3:qC (uq Wg c cs 4294967296).1=some (227,159,.pointer (some ⟨Wg,1,none⟩)):=by kernel_rfl
theorem aa4:ahead (Ld Wg c cs).1=some (176,#[.pointer (some ⟨Wg,1,none⟩)]):=by kernel_rfl
theorem aa5:((zS Wg c cs).1.mode,(zS Wg c cs).1.roundOf,(zS Wg c cs).1.defers)=(.returning,none,[dcall 170 #[]]):=by kernel_rfl
theorem akf:gS PR 1 {(zS Wg c cs).1 with defers:=[]} (zS Wg c cs).2=(c.finish unit,cs):=by kernel_rfl
def zA:List Nat:=[8589934592,12884901888,17179869184,21474836480,25769803776,30064771072,34359738368]
theorem ag3:(zA.map fun z:Nat=>((uq Wg c cs (z:Int)).1.mode,(uq Wg c cs (z:Int)).1.roundOf,(uq Wg c cs (z:Int)).1.defers))=zA.map fun z:Nat=>(.returning,none,[dcall 170 #[]]):=by kernel_rfl
theorem ag4:(zA.map fun z:Nat=>gS PR 1 {(uq Wg c cs (z:Int)).1 with defers:=[]} (uq Wg c cs (z:Int)).2)=zA.map fun z:Nat=>(c.finish unit,cs):=by kernel_rfl
theorem ww0:ahead (BK Wg c cs).1=some (169,#[]):=by kernel_rfl
end
theorem u227:PR.underlying 227=some (.pointer 185):=by simp
theorem i185:(PR.info? 185).map (fun i=>decide (i.size=0))=some false:=by kernel_rfl
def Eg:List Item:=(E_ 0 bot []).1.todo
def Fa(Wg:Nat):List (Nat×af):=[(0,ptr Wg)]
section
variable(Wg:Nat)(c:ae)(cs:List ae)(j:Nat->af)
def Lf:ae×List Frame:=gS PR 60 (nz 159 84 Eg (sA (Fa Wg)) j) (c::cs)
def rT (z:Int):ae×List Frame:=gS PR 300 ((Lf Wg c cs j).1.finish (.int .u64 z)) (Lf Wg c cs j).2
def Lg (z:Int):ae×List Frame:=gS PR 300 ((rT Wg c cs j z).1.finish (.bool true)) (rT Wg c cs j z).2
def Lh (z:Int):ae×List Frame:=rJ PR 300 ((rT Wg c cs j z).1.finish (.bool false)) (rT Wg c cs j z).2
def Li (z:Int):ae×List Frame:=gS PR 300 ((Lg Wg c cs j z).1.finish (.pointer (some ⟨Wg,1,none⟩))) (Lg Wg c cs j z).2
def Fb (z:Int):ae×List Frame:=gS PR 300 ((Li Wg c cs j z).1.finish unit) (Li Wg c cs j z).2
def Lj (z:Int):ae×List Frame:=gS PR 300 ((Fb Wg c cs j z).1.finish unit) (Fb Wg c cs j z).2
def Lk (z:Int):ae×List Frame:=gS PR 300 ((Lj Wg c cs j z).1.finish (.int .u64 0)) (Lj Wg c cs j z).2
def Ll (z:Int):ae×List Frame:=gS PR 300 ((Lk Wg c cs j z).1.finish unit) (Lk Wg c cs j z).2
def Lm (z:Int):ae×List Frame:=gS PR 300 ((Ll Wg c cs j z).1.finish (ptr Wg)) (Ll Wg c cs j z).2
def Ln:ae×List Frame:=gS PR 300 ((rT Wg c cs j 0).1.finish unit) (rT Wg c cs j 0).2
def Lo:ae×List Frame:=gS PR 300 ((Ln Wg c cs j).1.finish (ptr Wg)) (Ln Wg c cs j).2
end
def zW:List Nat:=[4294967296,8589934592,12884901888,17179869184,21474836480,25769803776,30064771072,34359738368]
section
variable{Wg:Nat}{c:ae}{cs:List ae}{j:Nat->af}
theorem wwh:look [0] (E_ Wg c cs)=iQ 159 84 (c::cs) Eg (Fa Wg) none none:=by kernel_rfl
theorem wl1:ahead (Lf Wg c cs j).1=some (201,#[ptr Wg]):=by kernel_rfl
theorem akg:ahead (rT Wg c cs j 0).1=some (170,#[]):=by kernel_rfl
theorem wl2:(zW.map fun z:Nat=>ahead (rT Wg c cs j (z:Int)).1)=zW.map fun z:Nat=>some (203,#[ptr Wg,.int .u64 (z:Int),.int .u64 (z+1:Int)]):=by kernel_rfl
theorem wlf:(zW.map fun z:Nat=>look [0] (Lh Wg c cs j (z:Int)))=zW.map fun z:Nat=>iQ 159 84 (c::cs) Eg (Fa Wg) none none:=by kernel_rfl
theorem wl3:(zW.map fun z:Nat=>qC (Lg Wg c cs j (z:Int)).1)=zW.map fun z:Nat=>some (227,159,.pointer (some ⟨Wg,1,none⟩)):=by kernel_rfl
theorem wl4:(zW.map fun z:Nat=>ahead (Li Wg c cs j (z:Int)).1)=zW.map fun z:Nat=>some (185,#[.pointer (some ⟨Wg,1,none⟩)]):=by kernel_rfl
theorem wl5:(zW.map fun z:Nat=>ahead (Fb Wg c cs j (z:Int)).1)=zW.map fun z:Nat=>some (186,#[.pointer (some ⟨Wg,1,none⟩),.bool false]):=by kernel_rfl
theorem wl6:(zW.map fun z:Nat=>ahead (Lj Wg c cs j (z:Int)).1)=zW.map fun z:Nat=>some (201,#[ptr Wg]):=by kernel_rfl
theorem wl7:(zW.map fun z:Nat=>ahead (Lk Wg c cs j (z:Int)).1)=zW.map fun z:Nat=>some (170,#[]):=by kernel_rfl
theorem wl8:(zW.map fun z:Nat=>qC (Ll Wg c cs j (z:Int)).1)=zW.map fun z:Nat=>some (216,159,ptr Wg):=by kernel_rfl
theorem wl9:(zW.map fun z:Nat=>ahead (Lm Wg c cs j (z:Int)).1)=zW.map fun z:Nat=>some (182,#[ptr Wg]):=by kernel_rfl
theorem wz8:qC (Ln Wg c cs j).1=some (216,159,ptr Wg):=by kernel_rfl
theorem wz9:ahead (Lo Wg c cs j).1=some (182,#[ptr Wg]):=by kernel_rfl
end
theorem add_one{v:Nat}(Y:v<=8):IntKind.u64.wrap (((v *4294967296+0:Nat))+4294967296)=(((v+1) *4294967296+0:Nat)):=by
 rw[c7];omega
theorem aiK{v:Nat}(Y:1<=v)(H:v<8):(v+1) *4294967296+0∈zA:=by
 have:v=1\/v=2\/v=3\/v=4\/v=5\/v=6\/v=7:=by omega
 rcases this with rfl|rfl|rfl|rfl|rfl|rfl|rfl<;>simp[zA]
theorem aiL{v:Nat}(Y:v≠0)(H:v<=8):v *4294967296+0∈zW:=by
 have:v=1\/v=2\/v=3\/v=4\/v=5\/v=6\/v=7\/v=8:=by omega
 rcases this with rfl|rfl|rfl|rfl|rfl|rfl|rfl|rfl<;>simp[zW]
section
variable{Wg:Nat}{c:ae}{cs:List ae}{j:Nat->af}
theorem akh:(zW.map fun z:Nat=>gS PR 10 ((Lm Wg c cs j (z:Int)).1.finish unit) (Lm Wg c cs j z).2)=zW.map fun z:Nat=>(c.finish unit,cs):=by kernel_rfl
theorem aki:gS PR 20 ((Lo Wg c cs j).1.finish unit) (Lo Wg c cs j).2=(c.finish unit,cs):=by kernel_rfl
end
namespace Env
structure Uy(E:Env)(S:Nat->Prop)(Fx:ah->Prop):Prop where
 rely:∀{w w2:ah},Fx w->gU E.U S w w2->Fx w2
 wg:∀{w:ah},Fx w->E.po w
 lX:∀{w w1:ah} {v wt ws v' il ig:Nat},Fx w->E.WgAt w v wt ws->Eff E.Wg w w1->E.WgAt w1 v' il ig->Fx w1
section
variable{E:Env}{J:iE}{kG:Nat->ai->ah->Prop}{Fin:(Nat->Prop)->(Nat->Prop)->ai->ah->Prop}{S X:Nat->Prop}{Fx:ah->Prop}{c:ae}{cs:List ae}
theorem aeW(K:E.Uy S Fx){L:List Nat}{ch:Nat}(h:L.length<8)(O:∀k w,Fx w->E.Tree PR true (E.lL PR J kG Fin k (.go L ch)) S X (G (c.finish unit) cs) w)(k:Nat)(hF:Fx w):
  E.Tree PR true (E.lL PR J kG Fin k (.st L)) S X (G (Frame.enter PR 157 #[ptr E.Wg,.int .i64 1] .normal) (c::cs)) w:=by
 have out:∀(r:ae×List _) (k:Nat) (w:ah),(r.1.mode,r.1.roundOf,r.1.defers)=(.returning,none,[dcall 170 #[]])->gS PR 1 {r.1 with defers:=[]} r.2=(c.finish unit,cs)->Fx w->E.Tree PR true (E.lL PR J kG Fin k (.a4 L ch)) S X (G r.1 r.2) w:=by
  intro r k w U s hF;refine .stop ?_;cases k with
  |zero=>trivial
  |succ k=>
   simp at U;refine⟨rfl,rfl,fun w2 hr=>⟨G _ r.2,NI (by simp) U.1 U.2.1 U.2.2 xN,aj 1 fun w3 H=>?_⟩⟩;rw[s];exact O k w3 (K.rely (K.rely hF hr) H)
 refine aj 60 fun w1 P=>?_;have B:=K.rely hF P;refine .stop ?_;cases k with
 |zero=>trivial
 |succ k=>
  refine⟨rfl,rfl,ch,fun w2 Q=>⟨G _ _,r7 (by simp) Bq aa0,aj 60 fun w3 H=>?_⟩⟩;have C:=K.rely (K.rely B Q) H;refine Tz.one rfl fun w4 T=>⟨G _ _,w4,#[],S,X,O3 TK aa1,js S X w4,aj 90 fun u V=>?_⟩;have F:=K.rely (K.rely C T) V;refine .stop ?_;cases k with
  |zero=>trivial
  |succ k=>
   refine⟨rfl,rfl,fun v Z A=>?_⟩;have gF:=C5 (main:=true) (cs:=(E9 E.Wg c cs).2) TL (aa2 (c:=c) (cs:=cs)) A.cell0 (A.thaw 0);rw[add_one (by omega)]at gF;have R:=K.lX (K.rely F Z) A (Eff.set _ _ _ _) (A.nh (L.length+1) 0);refine⟨_,_,_,gF,A.nh _ 0,Eff.set _ _ _ _,EvA.two _ _ (by omega),?_⟩;by_cases Y:L=[]
   ·subst Y;refine aj 300 fun f D=>?_;have M:=K.rely R D;refine Tz.one rfl fun o W=>?_;have I:=K.rely M W;obtain⟨v1,d⟩:=(K.wg I).rC;refine⟨_,o,#[],S,X,uG aa3 u227 u159 i185 d,js S X o,aj 60 fun x q=>?_⟩;have N:=K.rely I q;refine .stop ?_;cases k with
    |zero=>trivial
    |succ k=>
     refine⟨rfl,rfl,fun y j=>⟨G _ _,yl (by simp) akd aa4,aj 300 fun p z=>?_⟩⟩;change E.Tree PR _ _ S X (G (zS E.Wg c cs).1 _) p;exact out _ k p aa5 akf (K.rely (K.rely N j) z)
   ·rw[if_neg Y];refine aj 300 fun f D=>?_;change E.Tree PR _ _ S X (G (uq _ c cs _).1 _) f;have g:=aiK (by
     cases L with
     |nil=>exact absurd rfl Y
     |cons a l=>simp) h
    exact out _ k f (jr ag3 g) (jr ag4 g) (K.rely R D)
theorem aeX(K:E.Uy S Fx)(W:∀(n:Nat) (f:ae) (l:List ae) (w:ah),Fx w->gS PR n f l=(c.finish unit,cs)->Fin S X (G f l) w)(k:Nat)(hF:Fx w):
  E.Tree PR true (E.lL PR J kG Fin k .kd) S X (G (Frame.enter PR 159 #[ptr E.Wg] .normal) (c::cs)) w:=by
 have last:∀(r:ae×List ae) (n k:Nat) (w:ah),ahead r.1=some (182,#[ptr E.Wg])->gS PR n (r.1.finish unit) r.2=(c.finish unit,cs)->Fx w->E.Tree PR true (E.lL PR J kG Fin k .aq) S X (G r.1 r.2) w:=by
  intro r n k w h1 h2 hF;refine .stop ?_;cases k with
  |zero=>trivial
  |succ k=>exact⟨rfl,rfl,fun w2 hr=>⟨G (r.1.finish unit) r.2,yl (by simp) TB h1,W n _ _ w2 (K.rely hF hr) h2⟩⟩
 have head:∀(k:Nat) (j:Nat->af) (w:ah),Fx w->E.Tree PR true (E.lL PR J kG Fin k .w1) S X (G (nz 159 84 Eg (sA (Fa E.Wg)) j) (c::cs)) w:=by
  intro k;induction k using bL with
  |_ k ih=>
  intro j w hF;refine aj 60 fun w1 M=>?_;have C:=K.rely hF M;refine .stop ?_;cases k with
  |zero=>trivial
  |succ k=>
   refine⟨rfl,rfl,fun w2 v N hv hG=>?_⟩;have T:=K.rely C N;refine⟨_,_,G2 Kc wl1 hG.cell0,EvA.one _ _ _ (by omega),fun o=>?_,fun o=>?_⟩
   ·subst o;refine aj 300 fun w3 R=>?_;have U:=K.rely T R;refine .stop ?_;cases k with
    |zero=>trivial
    |succ k=>
     refine⟨rfl,rfl,fun w4 B=>⟨G _ (rT E.Wg c cs j 0).2,r7 (by simp) xN akg,aj 300 fun g I=>?_⟩⟩;have L:=K.rely (K.rely U B) I;refine Tz.one rfl fun d O=>?_;have D:=K.rely L O;obtain⟨v0,Q⟩:=(K.wg D).cell0;refine⟨_,d,#[],S,X,uG wz8 u216 u159 i212 Q,js S X d,aj 300 fun w7 P=>?_⟩;exact last _ 20 k w7 wz9 aki (K.rely D P)
   ·have A:=aiL o hv;refine aj 300 fun w3 R=>?_;have U:=K.rely T R;have a2:=jr (wl2 (Wg:=E.Wg) (c:=c) (cs:=cs) (j:=j)) A;have aC:=jr (wl3 (Wg:=E.Wg) (c:=c) (cs:=cs) (j:=j)) A;have a4:=jr (wl4 (Wg:=E.Wg) (c:=c) (cs:=cs) (j:=j)) A;have a5:=jr (wl5 (Wg:=E.Wg) (c:=c) (cs:=cs) (j:=j)) A;have a6:=jr (wl6 (Wg:=E.Wg) (c:=c) (cs:=cs) (j:=j)) A;have a7:=jr (wl7 (Wg:=E.Wg) (c:=c) (cs:=cs) (j:=j)) A;have a8:=jr (wl8 (Wg:=E.Wg) (c:=c) (cs:=cs) (j:=j)) A;have a9:=jr (wl9 (Wg:=E.Wg) (c:=c) (cs:=cs) (j:=j)) A;have aE:=jr (akh (Wg:=E.Wg) (c:=c) (cs:=cs) (j:=j)) A;have aF:=jr (wlf (Wg:=E.Wg) (c:=c) (cs:=cs) (j:=j)) A;refine .stop ?_;cases k with
    |zero=>trivial
    |succ k=>
     refine⟨rfl,rfl,fun w4 v2 B hv2 Y=>⟨fun he=>?_,fun he=>?_⟩⟩
     ·subst he;have F:=K.rely U B;have gF:=Au (main:=true) (cs:=(rT E.Wg c cs j ((v2 *4294967296+0:Nat):Int)).2) TM a2 Y.cell0 (Y.thaw 0);have en:(((v2 *4294967296+0:Nat):Int)+1)=((v2 *4294967296+1:Nat):Int):=by omega
      rw[en]at gF;have V:=K.lX F Y (Eff.set _ _ _ _) (Y.nh v2 1);refine⟨_,_,_,gF,Y.nh v2 1,Eff.set _ _ _ _,EvA.two _ _ (by omega),aj 300 fun g I=>?_⟩;have L:=K.rely V I;refine Tz.one rfl fun d O=>?_;have D:=K.rely L O;obtain⟨v1,hv1⟩:=(K.wg D).rC;refine⟨_,d,#[],S,X,uG aC u227 u159 i185 hv1,js S X d,aj 300 fun w7 P=>?_⟩;have p:=K.rely D P;refine .stop ?_;cases k with
      |zero=>trivial
      |succ k=>
       refine⟨rfl,rfl,fun w8 t=>⟨G _ _,yl (by simp) ake a4,aj 300 fun w9 a=>?_⟩⟩;have s:=K.rely (K.rely p t) a;refine .stop ?_;cases k with
       |zero=>trivial
       |succ k=>
        refine⟨rfl,rfl,fun wA v3 wt3 q H=>MZ TP a5 rfl H.rC,fun wA q H=>?_⟩;have gF:=ML (main:=true) (cs:=(Fb E.Wg c cs j ((v2 *4294967296+0:Nat):Int)).2) TP a5 rfl H.rC (by simp) (H.thaw 1);have u:=K.lX (K.rely s q) H (Eff.set _ _ _ _) (H.qP 0);refine⟨_,_,_,gF,H.qP 0,Eff.set _ _ _ _,EvA.zN _ _ (by omega),aj 300 fun wB i=>?_⟩;have x:=K.rely u i;refine .stop ?_;cases k with
        |zero=>trivial
        |succ k=>
         refine⟨rfl,rfl,fun wC h b=>⟨_,_,G2 Kc a6 b.cell0,EvA.one _ _ _ (by omega),aj 300 fun wD e=>?_⟩⟩;have y:=K.rely (K.rely x h) e;refine .stop ?_;cases k with
         |zero=>trivial
         |succ k=>
          refine⟨rfl,rfl,fun wE zT=>⟨G _ _,r7 (by simp) xN a7,aj 300 fun wF Fc=>?_⟩⟩;have m:=K.rely (K.rely y zT) Fc;refine Tz.one rfl fun wG Fe=>?_;have Z:=K.rely m Fe;obtain⟨v0,Q⟩:=(K.wg Z).cell0;refine⟨_,wG,#[],S,X,uG a8 u216 u159 i212 Q,js S X wG,aj 300 fun wH Ff=>?_⟩;exact last _ 10 k wH a9 aE (K.rely Z Ff)
     ·have F:=K.rely U B;have gF:=As (main:=true) (cs:=(rT E.Wg c cs j ((v *4294967296+0:Nat):Int)).2) TM a2 Y.cell0 (Y.thaw 0) (by omega);refine⟨_,_,gF,EvA.one _ _ _ (by omega),Tz.Bd 300 fun g I=>?_⟩;change E.Tree PR true _ S X (G (Lh E.Wg c cs j _).1 (Lh E.Wg c cs j _).2) g;have z:=kj aF rfl;rw[z.callers,z.fr.eq];exact ih k (by omega) _ g (K.rely F I)
 refine aj 60 fun w1 M=>?_;have C:=K.rely hF M;refine .stop ?_;cases k with
 |zero=>trivial
 |succ k=>
  refine⟨rfl,rfl,fun w2 N=>⟨G ((BK E.Wg c cs).1.finish unit) (BK E.Wg c cs).2,r7 (by simp) Bq ww0,Tz.Bd 60 fun w3 R=>?_⟩⟩;change E.Tree PR true _ S X (G (E_ E.Wg c cs).1 (E_ E.Wg c cs).2) w3;have z:=kj (wwh (Wg:=E.Wg) (c:=c) (cs:=cs)) rfl;rw[z.callers,z.fr.eq];exact head k _ w3 (K.rely (K.rely C N) R)
end
end Env
def acS:Op->Bool
 |.indexAddr .. =>true
 |.binOp .rem .. =>true
 |.makeSlice .. =>true
 |.call {callee:=.value _,..}=>true
 |_=>false
def aaX(f:ae):=match f.todo with
 |.code (.cond _ _ _)::_=>true
 |_=>match opAt f with
  |some o=>acS o.op
  |none=>false
def iw(P:aK):Nat->ae->List ae->ae×List ae
 |0,f,l=>(f,l)
 |n+1,f,l=>if aaX f then(f,l)else match oB P f l with
   |some (f1,l1)=>iw P n f1 l1
   |none=>(f,l)
theorem Tz.lz{P:aK}{U:Nat->Nat->Prop}{D:(Nat->Prop)->(Nat->Prop)->ai->ah->Prop}{X:Nat->Prop}:∀n {f:ae} {l:List _} {w:ah},(∀w2,gU U S w w2->Tz P main U D S X (G (iw P n f l).1 (iw P n f l).2) w2)->Tz P main U D S X (G f l) w
 |0,f,l,w,h=>h w (.refl _ _ _)
 |n+1,f,l,w,h=>by
  unfold iw at h;split at h
  ·exact h w (.refl _ _ _)
  ·split at h
   ·rename_i f1 l1 e;exact Tz.one rfl fun w2 hr=>⟨_,w2,#[],S,X,tu e,js S X w2,Tz.lz n fun w3 Y=>h w3 (hr.trans Y)⟩
   ·exact h w (.refl _ _ _)
abbrev iv(n:Nat):Value:=.int .i64 (n:Int)
abbrev qV(Gv n:Nat):Value:=.slice (some ⟨Gv,0,none⟩) n n
def iA(nv:af)(n:Nat)(work:af)(Wg Gv:Nat):=[(0,nv),(1,iv n),(2,work),(6,ptr Wg),(7,qV Gv n)]
noncomputable def aiM:List Item:=match Tryz.f137.body with
 |some (.seq _ (.seq _ rest))=>[.code rest]
 |_=>[]
def yes:List Item->List Item
 |.code (.cond _ a _)::k=>.code a::k
 |k=>k
def no:List Item->List Item
 |.code (.cond _ _ b)::k=>.code b::k
 |k=>k
def gY(b:Option Addr)(len cap:Nat):Value:=.slice b len cap
abbrev dF(site:List _)(al:List (Nat×af))(j:Nat->af):=nz 137 55 site (sA al) j
def Z0:=iA (gY none 0 0) 1 ax 0 0
abbrev x7 (site:List _) (al:List _):=iw PR 60 (dF site al fun _=>ax) []
def lO:=(x7 aiM Z0).1.todo
def oD(a:List _)(n j:Nat):=a++[(16,iv n),(17,iv j)]
def Fg:=(x7 (yes lO) (oD Z0 1 0)).1.todo
def Fh(a:List _)(Gv n j:Nat):=oD a n j++[(8,iv j),(20,qV Gv n),(21,iv j)]
section
variable{b:Option Addr}{len cap n j Wg Gv ch:Nat}{work:af}{J:Nat->af}{l:List ae}
def Fi (b:Option _) (len cap n j Wg Gv:Nat) (work:af) (J:Nat->af) (l:List _):=iw PR 60 (dF (yes lO) (oD (iA (gY b len cap) n work Wg Gv) n j) J) l
theorem rmk:look [0,1,2,6,7,16,17,8,20,21] (Fi b len cap n j Wg Gv work J l)=iQ 137 55 l Fg (Fh (iA (gY b len cap) n work Wg Gv) Gv n j) none none:=by kernel_rfl
end
abbrev px (site:List _) (al:List _) (v:af):=iw PR 60 ((dF site al fun _=>ax).finish v) []
def Fj:=(px Fg (Fh Z0 0 1 0) (.chan none)).1.todo
def Fl(a:List _)(Gv n j ch:Nat):=oD a n j++[(8,iv j),(20,qV Gv n),(21,iv j),(22,.chan (some ch))]
def BL:=(px Fj (Fl Z0 0 1 0 0) (ptr 0)).1.todo
def BM(a:List _)(Gv n j ch:Nat):=oD a n j++[(8,iv j),(22,.chan (some ch)),(23,.pointer (some ⟨Gv,j,none⟩))]
def BN:=(px BL (BM Z0 0 1 0 0) ax).1.todo
def BO(a:List _)(n j:Nat):=oD a n j++[(8,iv j)]
def Fo:=(px BN (BO Z0 1 0) unit).1.todo
def Fq(a:List _)(Gv n j:Nat):=oD a n j++[(25,qV Gv n),(26,iv j)]
def Lq:=(px Fo (Fq Z0 0 1 0) (ptr 0)).1.todo
def Lr(a:List _)(Gv n j:Nat):=oD a n j++[(27,.pointer (some ⟨Gv,j,none⟩))]
def sG:=(px Lq (Lr Z0 0 1 0) (.chan none)).1.todo
def aG(a:List _)(n j ch:Nat)(work:af):=oD a n j++[(28,.chan (some ch)),(29,work)]
section
variable{b:Option Addr}{len cap n j Wg Gv ch:Nat}{work:af}{J:Nat->af}{l:List ae}
variable(b:Option Addr)(len cap n j Wg Gv ch:Nat)(work:af)(J:Nat->af)(l:List ae)
def Fs:=iw PR 60 ((dF Fg (Fh (iA (gY b len cap) n work Wg Gv) Gv n j) J).finish (.chan (some ch))) l
def Ft:=iw PR 60 ((dF Fj (Fl (iA (gY b len cap) n work Wg Gv) Gv n j ch) J).finish (.pointer (some ⟨Gv,j,none⟩))) l
def Fu:=iw PR 60 ((dF BL (BM (iA (gY b len cap) n work Wg Gv) Gv n j ch) J).finish ax) l
def Fv:=iw PR 60 ((dF BN (BO (iA (gY b len cap) n work Wg Gv) n j) J).finish unit) l
def Fw:=iw PR 60 ((dF Fo (Fq (iA (gY b len cap) n work Wg Gv) Gv n j) J).finish (.pointer (some ⟨Gv,j,none⟩))) l
def RG:=iw PR 60 ((dF Lq (Lr (iA (gY b len cap) n work Wg Gv) Gv n j) J).finish (.chan (some ch))) l
def TQ:=iw PR 60 ((dF sG (aG (iA (gY b len cap) n work Wg Gv) n j ch work) J).finish ax) l
end
section
variable{b:Option Addr}{len cap n j Wg Gv ch:Nat}{work:af}{J:Nat->af}{l:List ae}
theorem aiN:opAt (dF Fg (Fh (iA (gY b len cap) n work Wg Gv) Gv n j) J)=some {dst:=some 22,op:=.makeChan 214 (.const (.int .i64 0)),type:=214,pos:= "workers.go:52",after:=#[],guard:=none}:=by kernel_rfl
theorem ri1:look [0,1,2,6,7,16,17,8,20,21,22] (Fs b len cap n j Wg Gv ch work J l)=iQ 137 55 l Fj (Fl (iA (gY b len cap) n work Wg Gv) Gv n j ch) none none:=by kernel_rfl
theorem vz:look [0,1,2,6,7,16,17,8,22,23] (Ft b len cap n j Wg Gv ch work J l)=iQ 137 55 l BL (BM (iA (gY b len cap) n work Wg Gv) Gv n j ch) none none:=by kernel_rfl
theorem rc1:look [0,1,2,6,7,16,17,8] (Fu b len cap n j Wg Gv ch work J l)=iQ 137 55 l BN (BO (iA (gY b len cap) n work Wg Gv) n j) (some (157,#[ptr Wg,.int .i64 1])) none:=by kernel_rfl
theorem ri2:look [0,1,2,6,7,16,17,25,26] (Fv b len cap n j Wg Gv work J l)=iQ 137 55 l Fo (Fq (iA (gY b len cap) n work Wg Gv) Gv n j) none none:=by kernel_rfl
theorem rl2:look [0,1,2,6,7,16,17,27] (Fw b len cap n j Wg Gv work J l)=iQ 137 55 l Lq (Lr (iA (gY b len cap) n work Wg Gv) Gv n j) none (some (214,.pointer (some ⟨Gv,j,none⟩))):=by kernel_rfl
theorem z87:look [0,1,2,6,7,16,17,28,29] (RG b len cap n j Wg Gv ch work J l)=iQ 137 55 l sG (aG (iA (gY b len cap) n work Wg Gv) n j ch work) none none:=by kernel_rfl
theorem akj:sU PR (dF sG (aG (iA (gY b len cap) n work Wg Gv) n j ch work) J)=some (.spawn {target:=.fn (.func 158) #[],args:=#[.chan (some ch),work,ptr Wg]}):=by kernel_rfl
theorem akk:look [0,1,2,6,7,16,17,18] (TQ b len cap n j Wg Gv ch work J l)=iQ 137 55 l lO (iA (gY b len cap) n work Wg Gv++[(16,iv n),(17,.int .i64 (a_.wrap (j+1))),(18,.bool (decide (a_.wrap (j+1)<n)))]) none none:=by kernel_rfl
end
def lZ:=(x7 (no lO) (oD Z0 1 0)).1.todo
def pI(a:List _)(nv:af)(len i:Nat):=a++[(31,nv),(32,iv len),(33,iv i)]
def BP:=(x7 (yes lZ) (pI Z0 (gY none 0 0) 0 0)).1.todo
def BQ(a:List _)(nv:af)(len i:Nat):=pI a nv len i++[(35,iv i)]
def Lt:=(px BP (BQ Z0 (gY none 0 0) 0 0) (ptr 0)).1.todo
def Lu(a:List _)(nv:af)(len i:Nat)(p:Addr):=pI a nv len i++[(35,iv i),(36,.pointer (some p))]
def sR:=(px Lt (Lu Z0 (gY none 0 0) 0 0 ⟨0,0,none⟩) (iv 0)).1.todo
def aR(a:List _)(nv:af)(len i x n Gv:Nat):=pI a nv len i++[(9,iv i),(10,iv x),(38,qV Gv n),(39,iv i),(40,iv n)]
def Fy:=(px sR (aR Z0 (gY none 0 0) 0 0 0 1 0) (iv 0)).1.todo
def Fz(a:List _)(nv:af)(len i x n Gv m:Nat):=pI a nv len i++[(10,iv x),(38,qV Gv n),(41,iv m)]
def Lv:=(px Fy (Fz Z0 (gY none 0 0) 0 0 0 1 0 0) (ptr 0)).1.todo
def Lw(a:List _)(nv:af)(len i x Gv m:Nat):=pI a nv len i++[(10,iv x),(42,.pointer (some ⟨Gv,m,none⟩))]
def sS:=(px Lv (Lw Z0 (gY none 0 0) 0 0 0 0 0) (.chan none)).1.todo
def aS(a:List _)(nv:af)(len i x ch:Nat):=pI a nv len i++[(43,.chan (some ch)),(44,iv x)]
def l_:=(x7 (no lZ) (pI Z0 (gY none 0 0) 0 0)).1.todo
def pJ(a:List _)(Gv n i:Nat):=a++[(46,qV Gv n),(47,iv n),(48,iv i)]
def FA:=(x7 (yes l_) (pJ Z0 0 1 0)).1.todo
def Lx:=(px FA (pJ Z0 0 1 0) (ptr 0)).1.todo
def Ly(a:List _)(Gv n i:Nat):=pJ a Gv n i++[(50,.pointer (some ⟨Gv,i,none⟩))]
def Lz:=(px Lx (Ly Z0 0 1 0) (.chan none)).1.todo
def LA(a:List _)(Gv n i ch:Nat):=pJ a Gv n i++[(52,.chan (some ch))]
def FC:=(x7 (no l_) (pJ Z0 0 1 0)).1.todo
section
variable(b:Option Addr)(len cap n i x m Wg Gv ch:Nat)(p:Addr)(work:af)(J:Nat->af)(l:List ae)
def Uz:=iw PR 60 (dF (no lO) (oD (iA (gY b len cap) n work Wg Gv) n i) J) l
def FD:=iw PR 60 (dF (yes lZ) (pI (iA (gY b len cap) n work Wg Gv) (gY b len cap) len i) J) l
def FE:=iw PR 60 ((dF BP (BQ (iA (gY b len cap) n work Wg Gv) (gY b len cap) len i) J).finish (.pointer (some p))) l
def RR:=iw PR 60 ((dF Lt (Lu (iA (gY b len cap) n work Wg Gv) (gY b len cap) len i p) J).finish (iv x)) l
def FF:=iw PR 60 ((dF sR (aR (iA (gY b len cap) n work Wg Gv) (gY b len cap) len i x n Gv) J).finish (iv m)) l
def FG:=iw PR 60 ((dF Fy (Fz (iA (gY b len cap) n work Wg Gv) (gY b len cap) len i x n Gv m) J).finish (.pointer (some ⟨Gv,m,none⟩))) l
def RS:=iw PR 60 ((dF Lv (Lw (iA (gY b len cap) n work Wg Gv) (gY b len cap) len i x Gv m) J).finish (.chan (some ch))) l
def TR:=iw PR 60 ((dF sS (aS (iA (gY b len cap) n work Wg Gv) (gY b len cap) len i x ch) J).finish ax) l
def UA:=iw PR 60 (dF (no lZ) (pI (iA (gY b len cap) n work Wg Gv) (gY b len cap) len i) J) l
def FH:=iw PR 60 (dF (yes l_) (pJ (iA (gY b len cap) n work Wg Gv) Gv n i) J) l
def FI:=iw PR 60 ((dF FA (pJ (iA (gY b len cap) n work Wg Gv) Gv n i) J).finish (.pointer (some ⟨Gv,i,none⟩))) l
def FJ:=iw PR 60 ((dF Lx (Ly (iA (gY b len cap) n work Wg Gv) Gv n i) J).finish (.chan (some ch))) l
def TS:=iw PR 60 ((dF Lz (LA (iA (gY b len cap) n work Wg Gv) Gv n i ch) J).finish unit) l
def LB:=iw PR 60 (dF (no l_) (pJ (iA (gY b len cap) n work Wg Gv) Gv n i) J) l
end
section
variable{b:Option Addr}{len cap n i x m Wg Gv ch:Nat}{p:Addr}{work:af}{J:Nat->af}{l cs:List ae}{c:ae}
theorem rk2:look [0,1,2,6,7,31,32,33,34] (Uz b len cap n i Wg Gv work J l)=iQ 137 55 l lZ (pI (iA (gY b len cap) n work Wg Gv) (gY b len cap) len 0++[(34,.bool (decide ((0:Int)<len)))]) none none:=by kernel_rfl
theorem ri3:look [0,1,2,6,7,31,32,33,35] (FD b len cap n i Wg Gv work J l)=iQ 137 55 l BP (BQ (iA (gY b len cap) n work Wg Gv) (gY b len cap) len i) none none:=by kernel_rfl
theorem rl3:look [0,1,2,6,7,31,32,33,35,36] (FE b len cap n i Wg Gv p work J l)=iQ 137 55 l Lt (Lu (iA (gY b len cap) n work Wg Gv) (gY b len cap) len i p) none (some (3,.pointer (some p))):=by kernel_rfl
theorem rr:look [0,1,2,6,7,31,32,33,9,10,38,39,40] (RR b len cap n i x Wg Gv p work J l)=iQ 137 55 l sR (aR (iA (gY b len cap) n work Wg Gv) (gY b len cap) len i x n Gv) none none:=by kernel_rfl
theorem ri4:look [0,1,2,6,7,31,32,33,10,38,41] (FF b len cap n i x m Wg Gv work J l)=iQ 137 55 l Fy (Fz (iA (gY b len cap) n work Wg Gv) (gY b len cap) len i x n Gv m) none none:=by kernel_rfl
theorem rl4:look [0,1,2,6,7,31,32,33,10,42] (FG b len cap n i x m Wg Gv work J l)=iQ 137 55 l Lv (Lw (iA (gY b len cap) n work Wg Gv) (gY b len cap) len i x Gv m) none (some (214,.pointer (some ⟨Gv,m,none⟩))):=by kernel_rfl
theorem rs:look [0,1,2,6,7,31,32,33,43,44] (RS b len cap n i x m Wg Gv ch work J l)=iQ 137 55 l sS (aS (iA (gY b len cap) n work Wg Gv) (gY b len cap) len i x ch) none none:=by kernel_rfl
theorem akl:sU PR (dF sS (aS (iA (gY b len cap) n work Wg Gv) (gY b len cap) len i x ch) J)=some (.comm #[scase ch (.int .i64 x) ax] true .send):=by kernel_rfl
theorem akm:look [0,1,2,6,7,31,32,33,34] (TR b len cap n i x Wg Gv ch work J l)=iQ 137 55 l lZ (iA (gY b len cap) n work Wg Gv++[(31,gY b len cap),(32,iv len),(33,.int .i64 (a_.wrap (i+1))),(34,.bool (decide (a_.wrap (i+1)<len)))]) none none:=by kernel_rfl
theorem rk3:look [0,1,2,6,7,46,47,48,49] (UA b len cap n i Wg Gv work J l)=iQ 137 55 l l_ (pJ (iA (gY b len cap) n work Wg Gv) Gv n 0++[(49,.bool (decide ((0:Int)<n)))]) none none:=by kernel_rfl
theorem ri5:look [0,1,2,6,7,46,47,48] (FH b len cap n i Wg Gv work J l)=iQ 137 55 l FA (pJ (iA (gY b len cap) n work Wg Gv) Gv n i) none none:=by kernel_rfl
theorem rl5:look [0,1,2,6,7,46,47,48,50] (FI b len cap n i Wg Gv work J l)=iQ 137 55 l Lx (Ly (iA (gY b len cap) n work Wg Gv) Gv n i) none (some (214,.pointer (some ⟨Gv,i,none⟩))):=by kernel_rfl
theorem rcl:look [0,1,2,6,7,46,47,48,52] (FJ b len cap n i Wg Gv ch work J l)=iQ 137 55 l Lz (LA (iA (gY b len cap) n work Wg Gv) Gv n i ch) none none:=by kernel_rfl
theorem S4:(opAt (dF Lz (LA (iA (gY b len cap) n work Wg Gv) Gv n i ch) J)).map (fun o=>(o.dst,o.op))=some (none,.call {callee:=.builtin .close,args:=#[.tmp 52],argTypes:=#[214]}):=by kernel_rfl
theorem akn:look [0,1,2,6,7,46,47,48,49] (TS b len cap n i Wg Gv ch work J l)=iQ 137 55 l l_ (iA (gY b len cap) n work Wg Gv++[(46,qV Gv n),(47,iv n),(48,.int .i64 (a_.wrap (i+1))),(49,.bool (decide (a_.wrap (i+1)<n)))]) none none:=by kernel_rfl
theorem rc2:look [0,1,2,6,7] (LB b len cap n i Wg Gv work J l)=iQ 137 55 l FC (iA (gY b len cap) n work Wg Gv) (some (159,#[ptr Wg])) none:=by kernel_rfl
theorem aiO:gS PR 1 (dF FC (iA (gY b len cap) n work Wg Gv) J) l=(Frame.enter PR 159 #[ptr Wg] .normal,dF FC (iA (gY b len cap) n work Wg Gv) J::l):=by kernel_rfl
theorem aiP{j:Nat}:gS PR 1 (dF BN (BO (iA (gY b len cap) n work Wg Gv) n j) J) l=(Frame.enter PR 157 #[ptr Wg,.int .i64 1] .normal,dF BN (BO (iA (gY b len cap) n work Wg Gv) n j) J::l):=by kernel_rfl
theorem aiQ{j:Nat}:(opAt (dF Fj (Fl (iA (gY b len cap) n work Wg Gv) Gv n j ch) J)).map (fun o=>o.op)=some (.indexAddr 213 (.tmp 20) (.tmp 21)):=by kernel_rfl
theorem aiR{j:Nat}:(opAt (dF BL (BM (iA (gY b len cap) n work Wg Gv) Gv n j ch) J)).map (fun o=>o.op)=some (.store 214 (.tmp 23) (.tmp 22)):=by kernel_rfl
theorem aiS{j:Nat}:(opAt (dF Fo (Fq (iA (gY b len cap) n work Wg Gv) Gv n j) J)).map (fun o=>o.op)=some (.indexAddr 213 (.tmp 25) (.tmp 26)):=by kernel_rfl
theorem aiT:(opAt (dF BP (BQ (iA (gY b len cap) n work Wg Gv) (gY b len cap) len i) J)).map (fun o=>o.op)=some (.indexAddr 25 (.tmp 31) (.tmp 33)):=by kernel_rfl
theorem ako:(opAt (dF sR (aR (iA (gY b len cap) n work Wg Gv) (gY b len cap) len i x n Gv) J)).map (fun o=>o.op)=some (.binOp .rem 3 (.tmp 39) (.tmp 40) 3):=by kernel_rfl
theorem aiU:(opAt (dF Fy (Fz (iA (gY b len cap) n work Wg Gv) (gY b len cap) len i x n Gv m) J)).map (fun o=>o.op)=some (.indexAddr 213 (.tmp 38) (.tmp 41)):=by kernel_rfl
theorem aiV:(opAt (dF FA (pJ (iA (gY b len cap) n work Wg Gv) Gv n i) J)).map (fun o=>o.op)=some (.indexAddr 213 (.tmp 46) (.tmp 48)):=by kernel_rfl
end
section
variable{main:Bool}{f:ae}{cs:List ae}{w w':ah}
theorem tT{x:Op}(h:(opAt f).map (fun o=>o.op)=some x):∃o,opAt f=some o/\o.op=x:=by simp_all
theorem step_skip{P:aK}{o:Oper}(h:opAt f=some o)(hr:(aN f.eval o).run P w=.ok .skip w'):aH P main (G f cs) w=.go (G (f.finish ax) cs) w' (seen P f.fn ((aN f.eval o).events P w #[])):=by
 obtain⟨ops,i,rest,k,e,H,hw,hk⟩:=tv h;have K:f.eval=Act.eval ⟨f.tmps,f.defers⟩:=by rw[e];exact Frame.eval_at' _ _ _
 have:=stepG_none (main:=main) (a:=⟨f.tmps,f.defers⟩) (k:=k) (cs:=cs) (rest:=rest) H hw hk (by exact hr);rw[<-e]at this;rw[this];have Y:f.finish ax=f.at (Act.put ⟨f.tmps,f.defers⟩ o.dst ax) (.inRegion ops rest::k):=by
  conv=>lhs;rw[e]
  rw[Frame.finish_at,H];rfl
 rw[<-Y];unfold listed;rw[<-K]
theorem AY{t:aI}{x:aW}(h:(opAt f).map (fun o=>o.op)=some (.indexAddr t x y)){B o cap:Nat}(L:f.eval x=.slice (some ⟨B,o,none⟩) n cap)(M:f.eval y=.int .i64 (i:Int))(R:i<n)(F:PR.underlying t=some (.slice (PR.elem t)))(N:(PR.info? (PR.elem t)).map (·.size)=some 1):
  aH PR main (G f cs) w=.go (G (f.finish (.pointer (some ⟨B,o+i,none⟩))) cs) w #[]:=by
 obtain⟨op,I,gN⟩:=tT h;have A:∃Y,PR.info? (PR.elem t)=some Y/\Y.size=1:=by simp_all
 obtain⟨Y,K,H⟩:=A;have hr:(aN f.eval op).run PR w=.ok (.value (.pointer (some ⟨B,o+i,none⟩))) w:=by
  unfold aN;simp only[gN,L,M];simp[cZ,du F,asIntOf,R,cv,cw,K,H,Addr.add];try(intro e;subst e;rfl)
 have D:(aN f.eval op).events PR w #[]=#[]:=by
  unfold aN;simp only[gN,L,M];simp[cZ,du F,asIntOf,R,cv,cw,K,Addr.add]
 rw[pN I hr,D,cI]
theorem acT{x:aW}(h:(opAt f).map (fun o=>o.op)=some (.binOp .rem 3 x y 3))(Y:f.eval x=.int .i64 i)(H:f.eval y=.int .i64 n)(F:0<n)(R:i<9223372036854775808):
  aH PR main (G f cs) w=.go (G (f.finish (.int .i64 ((i%n:Nat)))) cs) w #[]:=by
 obtain⟨op,D,gN⟩:=tT h;have hr:(aN f.eval op).run PR w=.ok (.value (.int .i64 ((i%n:Nat)))) w:=by
  unfold aN;simp[gN,Y,H];simp[go_sem];rw[if_neg (by omega),Int.tmod_eq_emod_of_nonneg (by omega)]
 have K:(aN f.eval op).events PR w #[]=#[]:=by
  unfold aN;simp[gN,Y,H];simp[go_sem]
 rw[pN D hr,K,cI]
theorem step_mk{o:Oper}(H:opAt f=some o)(gN:o.op=.makeChan 214 (.const (.int .i64 0))):
  aH PR main (G f cs) w=.go (G (f.finish (.chan (some w.heap.size))) cs) (w.alloc (.chan 0 #[] false 0 0 false)) #[]:=by
 have hr:(aN f.eval o).run PR w=.ok (.value (.chan (some w.heap.size))) (w.alloc (.chan 0 #[] false 0 0 false)):=by
  unfold aN;simp only[gN];rfl
 have Y:(aN f.eval o).events PR w #[]=#[]:=by
  unfold aN;simp[gN];rfl
 rw[pN H hr,Y,cI]
theorem Iu{x:aW}(h:(opAt f).map (fun o=>o.op)=some (.store 214 x y)){B:Nat}{v:Option Nat}{row:Array af}{t:aI}(F:f.eval x=.pointer (some ⟨B,i,none⟩))(L:f.eval y=.chan v)(hB:w.heap[B]?=some (.cells row t))(M:i<row.size)(N:(PR.funcs[f.fn]?).any (·.norace)=false):
  aH PR main (G f cs) w=.go (G (f.finish ax) cs) (w.setCell ⟨B,i,none⟩ (.chan v)) #[⟨.cell ⟨B,i,none⟩,true,false⟩]:=by
 obtain⟨op,U,gN⟩:=tT h;have D:w.cell? ⟨B,i,none⟩=some row[i]:=by simp[World.cell?,hB,M]
 have I:w.frozen? ⟨B,i,none⟩=false:=by simp[World.frozen?,hB]
 have R:(PR.info? 214).map (·.size)=some 1:=by kernel_rfl
 have R:∃Y,PR.info? 214=some Y/\Y.size=1:=by simp_all
 obtain⟨Y,K,H⟩:=R;have hr:(aN f.eval op).run PR w=.ok .skip (w.setCell ⟨B,i,none⟩ (.chan v)):=by
  unfold aN;simp only[gN,F,L];simp[go_sem,cv,cw,K,H,D,I]
 have A:(aN f.eval op).events PR w #[]=#[⟨.cell ⟨B,i,none⟩,true,false⟩]:=by
  unfold aN;simp only[gN,F,L];simp[go_sem,cv,cw,K,H,D,I]
 rw[step_skip U hr,A,seen_def,N];simp[seenStep]
theorem aeY{x:aW}(h:(opAt f).map (fun o=>(o.dst,o.op))=some (none,.call {callee:=.builtin .close,args:=#[x],argTypes:=#[214]})){c:Nat}(F:f.eval x=.chan (some c))(Y:w.heap[c]?=some (.chan 0 #[] false s s false))(R:(PR.funcs[f.fn]?).any (·.norace)=false):
  aH PR main (G f cs) w=.go (G (f.finish unit) cs) (w.setChan c 0 #[] true s s false) (bN c):=by
 obtain⟨op,H,gN⟩:∃o,opAt f=some o/\o.op=.call _:=by
  cases e:opAt f with
  |none=>rw[e]at h;cases h
  |some o=>rw[e]at h;exact⟨o,rfl,congrArg Prod.snd (Option.some.inj h)⟩
 refine conv H fun ops i rest k K hw hk=>?_
 exact stepG_close K hw hk gN (by exact F) Y R
theorem acU{x:aW}(h:(opAt f).map (fun o=>(o.dst,o.op))=some (none,.call {callee:=.builtin .close,args:=#[x],argTypes:=#[214]})):bp PR (G f cs)=true:=by
 obtain⟨op,D,gN⟩:∃o,opAt f=some o/\o.op=.call _:=by
  cases e:opAt f with
  |none=>rw[e]at h;cases h
  |some o=>rw[e]at h;exact⟨o,rfl,congrArg Prod.snd (Option.some.inj h)⟩
 obtain⟨ops,i,rest,k,Y,K,hw,hk⟩:=tv D;have H:f.mode=.run:=by rw[Y];rfl
 have R:f.todo=.inRegion ops (i::rest)::k:=by rw[Y];rfl
 unfold bp;simp[G,H,R,K,Option.map_some,gN]
theorem yO{P:aK}{u:Nat}{a b:Code}{k:List _}{t:Bool}(Y:f.mode=.run)(hr:f.roundOf=none)(hk:f.kind≠.early)(R:f.todo=.code (.cond (.tmp u) a b)::k)(H:f.tmps.getD u ax=.bool t):aH P main (G f cs) w=.go (G {f with todo:=.code (if t then a else b)::k} cs) w #[]:=by
 refine Ol hr hk Y ?_;have K:f.eval (.tmp u)=.bool t:=H;unfold prun;simp_all
end
def IA (ch Wg:Nat) (work:af):={(default:ae)with fn:=PR.funcs.size,defers:=[dcall 158 #[.chan (some ch),work,ptr Wg]],mode:=.panicking [goexitEntry]}
theorem born{ch:Nat}:aH PR false (G (IA ch Wg work) []) w=.go (G (Frame.enter PR 158 #[.chan (some ch),work,ptr Wg] .deferred) [bot]) w #[]:=by kernel_rfl
def LC (ch Wg:Nat) (work:af):=gS PR 60 (Frame.enter PR 158 #[.chan (some ch),work,ptr Wg] .deferred) [bot]
def Bf:=(LC 0 0 ax).1.todo
def LD(Wg:Nat)(site:List Item)(s:Nat->Option af)(j:Nat->af):Frame:={fn:=158,tmps:=TN 15 s j,todo:=site,defers:=[dcall 181 #[ptr Wg]],mode:=.run,kind:=.deferred}
def BR(ch Wg:Nat)(work:af):=[(0,.chan (some ch)),(1,work),(2,ptr Wg),(8,.chan (some ch))]
structure FK(Wg:Nat)(site:List Item)(s:Nat->Option af)(f:ae):Prop where
 fn:f.fn=158
 todo:f.todo=site
 defers:f.defers=[dcall 181 #[ptr Wg]]
 mode:f.mode=.run
 kind:f.kind=.deferred
 round:f.roundOf=none
 size:f.tmps.size=15
 slot:∀i v,s i=some v->f.tmps.getD i ax=v
theorem FK.eq{site:List _}{s:Nat->Option _}(h:FK Wg site s f):f=LD Wg site s (fun i=>f.tmps.getD i ax):=by
 obtain⟨fn,tmps,todo,defers,mode,kind,ro⟩:=f;obtain⟨D,R,I,A,U,B,K,H⟩:=h;congr 1;apply Array.ext
 ·simp[TN,K]
 ·intro i Y _;simp[TN,List.getElem_toArray,List.getElem_map,List.getElem_range];cases e:s i with
  |none=>simp[bR Y]
  |some v=>
   rw[<-H i v e];simp[bR Y]
def Eh(ks:List Nat)(r:ae×List _):=(look ks r,R7 r.1)
def Ei(Wg:Nat)(l:List ae)(site:List Item)(al:List (Nat×af)):rK×Option (aI×af×Bool):=(⟨l,158,site,[dcall 181 #[ptr Wg]],.run,.deferred,none,15,al.map (·.2),none,none⟩,some (232,(al.map (·.2)).headD ax,true))
theorem Sj{r:ae×List _}{l:List _}{site:List _}{al:List _}(h:Eh ks r=Ei Wg l site al)(hk:al.map (·.1)=ks):r.2=l/\FK Wg site (sA al) r.1/\R7 r.1=some (232,(al.map (·.2)).headD ax,true):=by
 subst hk;simp only[Eh,look,Ei,de,rK.mk.injEq,List.map_map]at h;obtain⟨⟨K,R,I,A,U,B,C,F,J,H,D⟩,Y⟩:=h;exact⟨K,⟨R,I,A,U,B,C,F,Hn J⟩,Y⟩
def kv(By Rf Sg Fp:Nat):Value:=.func (.func 138) #[] #[.pointer (some ⟨By,0,none⟩),.pointer (some ⟨Rf,0,none⟩),.pointer (some ⟨Sg,0,none⟩),.pointer (some ⟨Fp,0,none⟩)]
def WG (ch Wg:Nat) (work:af) (v:af) (b:Bool) (j:Nat->af):=gS PR 60 ((LD Wg Bf (sA (BR ch Wg work)) j).finish (.tuple #[v,.bool b])) [bot]
section
variable{ch Wg By Rf Sg Fp:Nat}{work:af}{x:Int}{v:af}{j:Nat->af}
theorem wa0:Eh [0,1,2,8] (LC ch Wg work)=Ei Wg [bot] Bf (BR ch Wg work):=by kernel_rfl
theorem aaY:WG ch Wg work v false j=zQ Wg (k_ ((WG ch Wg work v false j).2.getD 1 bot).tmps ((WG ch Wg work v false j).2.getD 1 bot).todo) [bot]:=by kernel_rfl
end
def FL:Value:=.int .i64 0
section
variable{ch Wg:Nat}{work:af}{j:Nat->af}
theorem aeZ:sU PR (LD Wg Bf (sA (BR ch Wg work)) j)=some (.comm #[bP ch FL] true (.recv true)):=by kernel_rfl
end
namespace Env
structure zy(E:Env)(RO S X:Nat->Prop):Prop where
 ro:∀a,RO a->S a
 mp:¬S E.Mp
 mpx:¬X E.Mp
 fd:RO E.Fd
 wg:RO E.Wg
 mR:∀a,RO a->¬X a
structure xy(E:Env)(RO:Nat->Prop)(Fx:ah->Prop):Prop where
 rely:∀S w w2,(∀a,RO a->S a)->Fx w->gU E.U S w w2->Fx w2
 fd:∀w,Fx w->E.vp w
 wg:∀w,Fx w->E.po w
variable(E:Env)(ch:Nat)(ok:Nat->Prop)(work:af)(RO:Nat->Prop)(Fx:ah->Prop)
def AtRecv(S X:Nat->Prop)(g:ai)(w:ah):=∃f,g=G f [bot]/\FK E.Wg Bf (sA (BR ch E.Wg work)) f/\E.zy RO S X/\Fx w
def Hp:Prop:=∀(k x:Nat) (S X:Nat->Prop) (j:Nat->af) (w:ah),ok x->E.zy RO S X->Fx w->E.Tree PR false (E.jw PR (AtRecv E ch work RO Fx) k (.ld x)) S X (G (WG ch E.Wg work (.int .i64 (x:Int)) true j).1 (WG ch E.Wg work (.int .i64 (x:Int)) true j).2) w
variable{E ch ok work RO Fx}{S X:Nat->Prop}{g:ai}{w w2:ah}
theorem X_(h:AtRecv E ch work RO Fx S X g w):g.status=.running/\g.offers=none:=by
 obtain⟨f,rfl,_⟩:=h;exact⟨rfl,rfl⟩
theorem aaZ(h:AtRecv E ch work RO Fx S X g w):aH PR false g w2=.comm g #[bP ch FL] true (.recv true) w2 #[]:=by
 obtain⟨f,rfl,Y,_⟩:=h;rw[Y.eq];exact O4 aeZ
theorem Ya(K:E.xy RO Fx)(R:Hp E ch ok work RO Fx)(h:AtRecv E ch work RO Fx S X g w)(hr:gU E.U S w w2){x:Nat}(F:ok x)(k:Nat):E.Tree PR false (E.jw PR (AtRecv E ch work RO Fx) k (.ld x)) S X (Go.Conc.served g (recvd true (.int .i64 x) true)) w2:=by
 obtain⟨f,rfl,D,Y,hF⟩:=h;rw[D.eq];refine aj 60 fun w3 H=>?_;exact R k x S X _ w3 F Y (K.rely S _ _ Y.ro (K.rely S _ _ Y.ro hF hr) H)
theorem Yb(K:E.xy RO Fx)(h:AtRecv E ch work RO Fx S X g w)(hr:gU E.U S w w2)(v:af)(k:Nat):E.Tree PR false (E.jw PR (AtRecv E ch work RO Fx) k .wr) S X (Go.Conc.served g (recvd true v false)) w2:=by
 obtain⟨f,rfl,D,Y,hF⟩:=h;rw[D.eq];refine aj 60 fun w3 H=>?_;have e:=aaY (ch:=ch) (Wg:=E.Wg) (work:=work) (v:=v) (j:=fun i=>f.tmps.getD i ax);change E.Tree PR _ _ S X (G (WG ch _ _ v _ _).1 (WG ch _ _ v _ _).2) w3;rw[e];exact aeV (Y.ro _ Y.wg) k (K.wg _ (K.rely S _ _ Y.ro (K.rely S _ _ Y.ro hF hr) H))
theorem ae0(K:E.xy RO Fx)(Y:E.zy RO S X)(hF:Fx w):E.Tree PR false (AtRecv E ch work RO Fx) S X (G (IA ch E.Wg work) []) w:=by
 refine Tz.one rfl fun w2 hr=>⟨_,w2,#[],S,X,Ph.born,js S X w2,aj 60 fun w3 H=>?_⟩;obtain⟨D,R,_⟩:=Sj (wa0) rfl;change E.Tree PR _ _ S X (G _ (LC ch _ _).2) w3;rw[D];exact .stop ⟨_,rfl,R,Y,K.rely S _ _ Y.ro (K.rely S _ _ Y.ro hF hr) H⟩
end Env
end Ph
namespace Ph
open Conc Ren
open Lock (Word PC Mv bn)
def cout(fn:au)(tmps:Array af)(todo:List Item)(kind:bV)(ro:Option Nat):Frame:=⟨fn,tmps,todo,[],.returning,kind,ro⟩
section
variable(Fd:Nat)(c:ae)(cs:List ae)(v:af)
def BS:ae×List Frame:=gS PR 60 (Frame.enter PR 161 #[ptr Fd] .deferred) (c::cs)
def LF:ae×List Frame:=gS PR 60 ((BS Fd c cs).1.finish v) (BS Fd c cs).2
def LG:ae×List Frame:=gS PR 60 ((LF Fd c cs v).1.finish (ptr Fd)) (LF Fd c cs v).2
def LH:ae×List Frame:=gS PR 60 ((LG Fd c cs v).1.finish unit) (LG Fd c cs v).2
def zU:ae×List Frame:=gS PR 60 ((LH Fd c cs v).1.finish unit) (LH Fd c cs v).2
def x8 (z:Int):ae×List Frame:=gS PR 300 ((zU Fd c cs v).1.finish (.int .i32 z)) (zU Fd c cs v).2
def ag5(f:ae):Frame:=match f.todo with
 |.code (.cond _ a _)::k=>{f with todo:=.code a::k}
 |_=>f
def UC (z:Int):ae×List Frame:=ua PR 16 300 ((zU Fd c cs v).1.finish (.int .i32 z)) (zU Fd c cs v).2
def UB (z:Int):List Frame:=(gS PR 4 (ag5 (UC Fd c cs v z).1) (UC Fd c cs v z).2).2
end
def outs:List Nat:=(bg 72).filter fun i=>i%2==0&&i/4%2==0&&(i/8==0||i/2%2==1)
def LI:List Nat:=(bg 72).filter fun i=>i%2==0&&i/4%2==0&&!(i/8==0||i/2%2==1)
def LK:List Nat:=(bg 72).filter fun i=>i%2==0&&i/4%2==1
section
variable{Fd:Nat}{fn:au}{tmps:Array af}{todo:List Item}{kind:bV}{ro:Option Nat}{cs:List ae}{v:af}{z:Int}{c:ae}
theorem ua0:ry (BS Fd c cs).1=some (21,ptr Fd):=by kernel_rfl
theorem ua1:qC (LF Fd c cs v).1=some (253,159,ptr Fd):=by kernel_rfl
theorem ua2:ahead (LG Fd c cs v).1=some (168,#[ptr Fd]):=by kernel_rfl
theorem ua3:ahead (LH Fd c cs v).1=some (169,#[]):=by kernel_rfl
theorem ua4:ahead (zU Fd c cs v).1=some (206,#[ptr Fd,.int .i32 (-1)]):=by kernel_rfl
theorem akp:(PR.funcs[188]?).any (·.norace)=true:=by kernel_rfl
theorem aiW:(BS Fd c cs).1.fn=188:=by kernel_rfl
theorem ae1:(outs.map fun i:Nat=>ahead (x8 Fd c cs v (i:Int)).1)=outs.map fun i:Nat=>some (170,#[]):=by kernel_rfl
theorem acV:(outs.map fun i:Nat=>gS PR 6 ((x8 Fd (cout fn tmps todo kind ro) cs v (i:Int)).1.finish unit) (x8 Fd (cout fn tmps todo kind ro) cs v (i:Int)).2)=outs.map fun i:Nat=>(cout fn tmps todo kind ro,cs):=by kernel_rfl
end
def LM(Fd:Nat)(old:Int):List (Nat×af):=[(0,ptr Fd),(4,.int .i32 old)]
def vS(Fd:Nat):List (Nat×af):=[(0,ptr Fd)]
def I9:List Item:=(x8 0 (cout 0 #[] [] .normal none) [] ax 8).1.todo
def I_:List Item:=(x8 0 (cout 0 #[] [] .normal none) [] ax 12).1.todo
def y8 (Fd:Nat) (old:Int) (b:Bool) (j:Nat->af) (l:List ae):ae×List Frame:=gS PR 300 ((nz 207 43 I9 (sA (LM Fd old)) j).finish (.bool b)) l
def Ja:List Item:=(y8 0 8 true jz []).1.todo
def Sk:List Item:=(y8 0 8 false jz []).1.todo
def DV (Fd:Nat) (old:Int) (j:Nat->af) (l:List ae):ae×List Frame:=gS PR 300 ((nz 207 43 Sk (sA (vS Fd)) j).finish (.int .i32 old)) l
def Jb (Fd:Nat) (j:Nat->af) (l:List ae):ae×List Frame:=gS PR 300 ((nz 207 43 Ja (sA (vS Fd)) j).finish unit) l
def Jc (Fd:Nat) (j:Nat->af) (l:List ae):ae×List Frame:=gS PR 300 ((nz 207 43 I_ (sA (vS Fd)) j).finish unit) l
def Jd:List Nat:=(bg 72).filter fun i=>i%8==0&&!(i/8==0)
def A6:List Nat:=(bg 72).filter fun i=>!(i%8==0&&!(i/8==0))
def toUC (l:List ae) (Fd:Nat) (i:Nat):rK:=iQ 207 43 l I9 (LM Fd (i:Int)) (some (204,#[ptr Fd,.int .i32 (i:Int),.int .i32 (val {wd i with W:=i/8-1,K:=true})])) none
section
variable{Fd:Nat}{fn:au}{tmps:Array af}{todo:List Item}{kind:bV}{ro:Option Nat}{cs l:List ae}{v:af}{z old:Int}{c:ae}{j:Nat->af}
theorem ae2:(LI.map fun i:Nat=>look [0,4] (x8 Fd c cs v (i:Int)))=LI.map fun i:Nat=>toUC (UB Fd c cs v (i:Int)) Fd i:=by kernel_rfl
theorem ae3:(LK.map fun i:Nat=>look [0] (x8 Fd c cs v (i:Int)))=LK.map fun i:Nat=>iQ 207 43 (UB Fd c cs v (i:Int)) I_ (vS Fd) (some (220,#[.pointer (some ⟨Fd,1,none⟩),.bool true,.int .i64 2])) none:=by kernel_rfl
theorem acW:look [0] (y8 Fd old true j l)=iQ 207 43 l Ja (vS Fd) (some (220,#[.pointer (some ⟨Fd,1,none⟩),.bool false,.int .i64 2])) none:=by kernel_rfl
theorem acX:look [0] (y8 Fd old false j l)=iQ 207 43 l Sk (vS Fd) none (some (21,ptr Fd)):=by kernel_rfl
theorem Zm:(Jd.map fun i:Nat=>look [0,4] (DV Fd (i:Int) j l))=Jd.map (toUC l Fd):=by kernel_rfl
theorem Zn:(A6.map fun i:Nat=>ahead (DV Fd (i:Int) j (UB Fd c cs v z)).1)=A6.map fun i:Nat=>some (170,#[]):=by kernel_rfl
theorem Zo:(A6.map fun i:Nat=>gS PR 6 ((DV Fd (i:Int) j (UB Fd (cout fn tmps todo kind ro) cs v z)).1.finish unit) (DV Fd (i:Int) j (UB Fd (cout fn tmps todo kind ro) cs v z)).2)=A6.map fun i:Nat=>(cout fn tmps todo kind ro,cs):=by kernel_rfl
theorem aiX:ahead (Jb Fd j (UB Fd c cs v z)).1=some (170,#[]):=by kernel_rfl
theorem ag6:gS PR 6 ((Jb Fd j (UB Fd (cout fn tmps todo kind ro) cs v z)).1.finish unit) (Jb Fd j (UB Fd (cout fn tmps todo kind ro) cs v z)).2=(cout fn tmps todo kind ro,cs):=by kernel_rfl
theorem aiY:ahead (Jc Fd j (UB Fd c cs v z)).1=some (170,#[]):=by kernel_rfl
theorem ag7:gS PR 6 ((Jc Fd j (UB Fd (cout fn tmps todo kind ro) cs v z)).1.finish unit) (Jc Fd j (UB Fd (cout fn tmps todo kind ro) cs v z)).2=(cout fn tmps todo kind ro,cs):=by kernel_rfl
theorem akq:(PR.funcs[207]?).any (·.norace)=true:=by kernel_rfl
end
end Ph
namespace Ph
open Conc Ren
noncomputable def tU:List Item:=match Tryz.f138.body with
 |some (.seq _ (.seq _ Y))=>[.code Y]
 |_=>[]
noncomputable def JL:List Item:=match Tryz.f140.body with
 |some (.seq _ (.seq _ (.seq _ Y)))=>[.code Y]
 |_=>[]
def EE(Fp:Nat)(sl:af):=[(4,ptr Fp),(6,sl)]
def BT (Fp:Nat) (sl:af) (j:Nat->af) (l:List _):=gS PR 60 (nz 138 39 tU (sA (EE Fp sl)) j) l
def BU (Fp Fd:Nat) (sl:af) (j:Nat->af) (l:List _):=gS PR 8 ((BT Fp sl j l).1.finish (ptr Fd)) (BT Fp sl j l).2
def TT (Fp Fd:Nat) (sl:af) (j:Nat->af) (l:List _):=(BU Fp Fd sl j l).2.headD bot
def FM (Fp Fd:Nat) (sl:af) (j:Nat->af) (l:List _):=(BU Fp Fd sl j l).2.tail
def FN (Fp Fd:Nat) (a:Option _) (n cap:Nat) (j:Nat->af) (l:List _):=gS PR 14 ((TT Fp Fd (.slice a n cap) j l).finish unit) (FM Fp Fd (.slice a n cap) j l)
section
variable{Fp Fd n cap ch Wg By Rf Sg:Nat}{sl work v:af}{a:Option Addr}{j j2:Nat->af}{l:List ae}{T:Array af}{x:Int}
theorem BI:ry (BT Fp sl j l).1=some (182,ptr Fp):=by kernel_rfl
theorem aiZ:(BT Fp sl j l).1.fn=138:=by kernel_rfl
theorem cl1:BU Fp Fd sl j l=(Frame.enter PR 160 #[ptr Fd] .normal,TT Fp Fd sl j l::FM Fp Fd sl j l):=by kernel_rfl
theorem cl2:look [0,1,15,16,17] (FN Fp Fd a n cap j l)=⟨FM Fp Fd (.slice a n cap) j l,140,JL,[dcall 161 #[ptr Fd]],.run,.normal,none,48,[ptr Fd,.slice a n cap,.slice a n cap,.int .i64 n,.int .i64 0],none,none⟩:=by kernel_rfl
def zV (ch Wg:Nat) (work v:af) (j:Nat->af):=(WG ch Wg work v true j).2.headD bot
def UD (Fp Fd:Nat) (sl:af) (j j2:Nat->af) (T:Array _) (ch Wg:Nat) (work v:af):=gS PR 60 (cout 140 T [] .normal none) (FM Fp Fd sl j [zV ch Wg work v j2,bot])
theorem cl3:Eh [0,1,2,8] (UD Fp Fd sl j j2 T ch Wg (kv By Rf Sg Fp) (.int .i64 x))=Ei Wg [bot] Bf (BR ch Wg (kv By Rf Sg Fp)):=by kernel_rfl
theorem Zp:(WG ch Wg (kv By Rf Sg Fp) (.int .i64 x) true j).2=[zV ch Wg (kv By Rf Sg Fp) (.int .i64 x) j,bot]:=by kernel_rfl
def Kd(Fd:Nat)(T:Array af):Frame:=⟨140,T,[],[dcall 161 #[ptr Fd]],.run,.normal,none⟩
theorem cl4:gS PR 2 (Kd Fd T) l=(Frame.enter PR 161 #[ptr Fd] .deferred,cout 140 T [] .normal none::l):=by kernel_rfl
theorem akr:(PR.funcs[138]?).any (·.norace)=false:=by kernel_rfl
theorem Sl:kE PR (isAgg 182)=some false:=by kernel_rfl
end
end Ph
namespace Ph
open Conc Ren
open Lock (Word PC Mv bn low dec)
theorem acY(m:Word):(nv m%8==0&&!(nv m/8==0))=!(decide (m.W=0\/m.L=true\/m.K=true\/m.S=true)):=by
 have h:nv m%8=bn m.L+2 *bn m.K+4 *bn m.S:=by
  have:=Lock.rB m.L;have:=Lock.rB m.K;have:=Lock.rB m.S;unfold nv;omega
 rw[sF,h];by_cases Y:m.W=0<;>cases m.L<;>cases m.K<;>cases m.S<;>simp[bn,Y]
namespace Env
theorem zz{E:Env}{X:Nat->Prop}{D:(Nat->Prop)->(Nat->Prop)->ai->ah->Prop}{site:List _}{al:List _}{l:List _}(Y:lN fn n site (sA al) f)(k:∀j w3,gU E.U S w w3->E.Tree PR false D S X (G (gS PR 300 ((nz fn n site (sA al) j).finish v) l).1 (gS PR 300 ((nz fn n site (sA al) j).finish v) l).2) w3):E.Tree PR false D S X (G (f.finish v) l) w:=by
 rw[Y.eq];exact aj 300 fun w3 hr=>k _ w3 hr
section
variable{E:Env}{A:(Nat->Prop)->(Nat->Prop)->ai->ah->Prop}{S X:Nat->Prop}{Fx:ah->Prop}{fn:au}{tmps:Array af}{todo:List Item}{kind:bV}{ro:Option Nat}{cs:List ae}
def Out(E:Env)(A:(Nat->Prop)->(Nat->Prop)->ai->ah->Prop)(S X:Nat->Prop)(Fx:ah->Prop)(c:ae)(cs:List _):=∀k w,Fx w->E.Tree PR false (E.jw PR A k .recv) S X (G c cs) w
variable(K:E.Kn S Fx)(hT:Out E A S X Fx (cout fn tmps todo kind ro) cs)
include K hT
theorem Ej{l:List _}(h:ahead f=some (170,#[]))(H:gS PR 6 (f.finish unit) l=(cout fn tmps todo kind ro,cs))(k:Nat)(hF:Fx w):E.Tree PR false (E.jw PR A k .ue) S X (G f l) w:=by
 refine .stop ?_;cases k with
 |zero=>trivial
 |succ k=>
  refine⟨rfl,rfl,fun w2 hr=>⟨G (f.finish unit) l,r7 (by simp) xN h,aj 6 fun w3 Y=>?_⟩⟩;rw[H];exact hT k w3 (K.rely (K.rely hF hr) Y)
omit K hT in
theorem wrap_u32(h:cc<=1):IntKind.u32.wrap (cc+1)=((cc+1:Nat)):=by
 have:cc=0\/cc=1:=by omega
 rcases this with rfl|rfl<;>rfl
theorem ai0{z:Int}{r:ae×List _}(h:Dr 207 43 (UB E.Fd (cout fn tmps todo kind ro) cs v z) Ja (vS E.Fd) (some (220,#[.pointer (some E.ms),.bool false,.int .i64 2])) none r)(k:Nat)(hF:Fx w):E.Tree PR false (E.jw PR A k (.un .us)) S X (G r.1 r.2) w:=by
 refine .stop ?_;cases k with
 |zero=>trivial
 |succ k=>
  refine⟨rfl,rfl,fun w2 m D hr Y U R B I=>.inr ?_⟩;have gF:=Gj (main:=false) (cs:=r.2) ED h.call rfl Y.rC (Y.thaw 1);rw[wrap_u32 I]at gF;refine⟨_,m,D+1,_,_,_,Mv.us m D,gF,Y.qP _,Eff.set _ _ _ _,EvA.zN _ _ (by omega),fun _=>Hm ED h.call,?_⟩;refine zz h.fr fun j w3 H=>?_;rw[h.callers];exact Ej K hT aiX ag6 k (K.rely (K.lX (K.rely hF hr) Y (Eff.set _ _ _ _) (Y.qP _)) H)
theorem ai1{z:Int}{r:ae×List _}(h:Dr 207 43 (UB E.Fd (cout fn tmps todo kind ro) cs v z) I_ (vS E.Fd) (some (220,#[.pointer (some E.ms),.bool true,.int .i64 2])) none r)(k:Nat)(hF:Fx w):E.Tree PR false (E.jw PR A k (.un .uh)) S X (G r.1 r.2) w:=by
 refine .stop ?_;cases k with
 |zero=>trivial
 |succ k=>
  refine⟨rfl,rfl,fun w2 m D hr Y U R B I=>.inr ?_⟩;have gF:=Gj (main:=false) (cs:=r.2) ED h.call rfl Y.rC (Y.thaw 1);rw[wrap_u32 I]at gF;refine⟨_,m,D+1,_,_,_,Mv.uh m D,gF,Y.qP _,Eff.set _ _ _ _,EvA.zN _ _ (by omega),fun _=>Hm ED h.call,?_⟩;refine zz h.fr fun j w3 H=>?_;rw[h.callers];exact Ej K hT aiY ag7 k (K.rely (K.lX (K.rely hF hr) Y (Eff.set _ _ _ _) (Y.qP _)) H)
theorem ai2:∀k {v:af} {z:Int} {old:Word} {r:ae×List _} {w:ah},Dr 207 43 (UB E.Fd (cout fn tmps todo kind ro) cs v z) I9 (LM E.Fd (nv old)) (some (204,#[ptr E.Fd,.int .i32 (nv old),.int .i32 (val {old with W:=old.W-1,K:=true})])) none r->Fx w->E.Tree PR false (E.jw PR A k (.un (.uc old))) S X (G r.1 r.2) w:=by
 intro k;induction k using bL with
 |_ k f=>
 intro v z old r w h hF;refine .stop ?_;cases k with
 |zero=>trivial
 |succ k=>
  refine⟨rfl,rfl,fun w2 m N hr R d Z o p=>.inr ?_⟩;by_cases O:m=old
  ·subst O;refine⟨_,_,N,G _ r.2,_,_,Mv.BB m N,Au vs h.call R.cell0 (R.thaw 0),R.nh _,Eff.set _ _ _ _,EvA.two _ _ (by omega),fun J=>by omega,zz h.fr fun j w3 I=>?_⟩;rw[h.callers];have D:=kj (acW (Fd:=E.Fd) (old:=(nv m)) (j:=j) (l:=UB E.Fd (cout fn tmps todo kind ro) cs v z)) rfl;exact ai0 K hT D k (K.rely (K.lX (K.rely hF hr) R (Eff.set _ _ _ _) (R.nh _)) I)
  ·refine⟨_,_,N,G _ r.2,_,_,Mv.BC m old N O,As vs h.call R.cell0 (R.thaw 0) (fun e=>O (val_inj e)),R,Eff.refl _ _,EvA.one _ _ _ (by omega),fun J=>by omega,zz h.fr fun j w3 I=>?_⟩;rw[h.callers];have D:=kj (acX (Fd:=E.Fd) (old:=(nv old)) (j:=j) (l:=UB E.Fd (cout fn tmps todo kind ro) cs v z)) rfl;have B:=K.rely (K.rely hF hr) I;change E.Tree PR _ _ S X (G (y8 _ _ _ j _).1 (y8 _ _ _ j _).2) w3;refine .stop ?_;cases k with
   |zero=>trivial
   |succ k=>
    refine⟨rfl,rfl,fun w4 H c4 M C V P F c=>.inr ?_⟩;refine⟨_,H,c4,_,w4,#[],Mv.ur H c4,CD D.load Ef C.cell0 (by rw[D.fr.fn];exact akq),C,Eff.refl _ _,EvA.nil _,fun J=>by omega,?_⟩;have T:=acY H;by_cases hd:H.W=0\/H.L=true\/H.K=true\/H.S=true
    ·have e:dec H=.out:=if_pos hd;rw[e];refine zz D.fr fun q g U=>?_;rw[D.callers];have Y:nv H∈A6:=oH F (by rw[T];simp[hd]);exact Ej K hT (jr Zn Y) (jr Zo Y) k (K.rely (K.rely B M) U)
    ·have e:dec H=.uc H:=if_neg hd;rw[e];refine zz D.fr fun q g U=>?_;rw[D.callers];have Y:nv H∈Jd:=oH F (by rw[T];simp[hd]);have Q:=kj (jr (Zm (Fd:=E.Fd) (j:=q) (l:=UB E.Fd (cout fn tmps todo kind ro) cs v z)) Y) rfl;rw[zp,sF]at Q;exact f k (by omega) Q (K.rely (K.rely B M) U)
end
section
variable{E:Env}{A:(Nat->Prop)->(Nat->Prop)->ai->ah->Prop}{S X:Nat->Prop}{Fx:ah->Prop}{fn:au}{tmps:Array af}{todo:List Item}{kind:bV}{ro:Option Nat}{cs:List ae}
theorem ae4{m:Word}(h:m.L=true)(R:m.W<=8):bW.wrap (val m+ -1)=val (low m):=by
 have Y:=Lock.rB m.K;have H:=Lock.rB m.S;have b1:bn true=1:=rfl;have b0:bn false=0:=rfl;unfold val low;simp only[h,b1];have e:((1+2 *bn m.K+4 *bn m.S+8 *m.W:Nat))+ -1=((0+2 *bn m.K+4 *bn m.S+8 *m.W:Nat):Int):=by omega
 rw[e];exact wrap_small (by omega)
theorem aa6(I:∀i,¬E.U E.Mp i)(hSM:S E.Mp)(K:E.Kn (fun a=>S a/\a≠E.Mp) Fx)(hT:Out E A (fun a=>S a/\a≠E.Mp) (fun a=>X a/\a≠E.Mp) Fx (cout fn tmps todo kind ro) cs){γ:E.Γ}(k:Nat)(hF:Fx w)(hm:E.mJ γ (w.heap[E.Mp]?)):
  E.Tree PR false (E.jw PR A k (.ur γ)) S X (G (Frame.enter PR 161 #[ptr E.Fd] .deferred) (cout fn tmps todo kind ro::cs)) w:=by
 have mp:∀{w w2:ah},gU E.U S w w2->E.mJ γ (w.heap[E.Mp]?)->E.mJ γ (w2.heap[E.Mp]?):=by
  intro w w2 hr h;rw[(hr.kept _ hSM).eq fun i hu=>I i hu];exact h
 have R:∀{w w2:ah},Fx w->gU E.U S w w2->Fx w2:=fun h hr=>K.rely h (O5 (fun a n=>n.1) hr);refine aj 60 fun w1 M=>?_;change E.Tree PR _ _ S X (G (BS _ _ cs).1 _) w1;refine Tz.one rfl fun w2 N=>?_;have B:=R (R hF M) N;have j:=mp N (mp M hm);obtain⟨v,hv⟩:=(K.fd B).cell0;refine⟨_,w2,#[],S,X,CD ua0 Ef hv (by rw[aiW];exact akp),js S X w2,aj 60 fun w3 O=>?_⟩;refine Tz.one rfl fun w4 P=>?_;have C:=R (R B O) P;have z:=mp P (mp O j);obtain⟨v4,r⟩:=(K.fd C).cell0;refine⟨_,w4,#[],S,X,uG ua1 u253 u159 i187 r,js S X w4,aj 60 fun w5 Q=>?_⟩;have Z:=R C Q;have d:=mp Q z;refine .stop ?_;cases k with
 |zero=>trivial
 |succ k=>
  refine⟨rfl,rfl,fun w6 T=>⟨mp T d,G _ _,yl (by simp) TC ua2,aj 60 fun w7 f=>?_⟩⟩;have q:=K.rely (R Z T) f;refine .stop ?_;cases k with
  |zero=>trivial
  |succ k=>
   refine⟨rfl,rfl,fun w8 g=>⟨G _ _,r7 (by simp) Bq ua3,aj 60 fun w9 l=>?_⟩⟩;refine .stop ?_;cases k with
   |zero=>trivial
   |succ k=>
    refine⟨rfl,rfl,fun wA m u o F t L x hc=>.inr ?_⟩;have gF:=C5 (main:=false) (cs:=(zU E.Fd (cout fn tmps todo kind ro) cs v).2) TE (ua4 (c:=cout fn tmps todo kind ro) (cs:=cs) (v:=v)) F.cell0 (F.thaw 0);rw[ae4 L x]at gF;refine⟨_,_,u,_,_,_,Mv.u0 m u,gF,F.nh _,Eff.set _ _ _ _,EvA.two _ _ (by omega),fun b=>by omega,aj 300 fun wB p=>?_⟩;have H:=K.rely (K.lX (K.rely (K.rely (K.rely q g) l) o) F (Eff.set _ _ _ _) (F.nh _)) p;have s:=x;have l2:(nv (low m)%2==0)=true:=by rw[qB,xL];rfl
    cases D:m.S with
    |true=>
     have Y:nv (low m)∈LK:=oH s (by rw[l2,sE];exact D);have V:=kj (jr (ae3 (Fd:=E.Fd) (c:=cout fn tmps todo kind ro) (cs:=cs) (v:=v)) Y) rfl;exact ai1 K hT V k H
    |false=>
     have J:(nv (low m)/4%2==0)=true:=by
      rw[qB,sE];show(!m.S)=true
      rw[D];rfl
     by_cases hd:m.W=0\/m.K=true
     ·have e:dec (low m)=.out:=if_pos (hd.imp id fun y=>.inr (.inl y));rw[e];have Y:nv (low m)∈outs:=oH s (by
       rw[l2,J,sF,xM];show(true&&true&&(m.W==0||m.K))=true
       rcases hd with y|y<;>simp[y])
      exact Ej K hT (jr ae1 Y) (jr acV Y) k H
     ·have e:dec (low m)=.uc _:=if_neg fun y=>by
       rcases y with y|y|y|y
       ·exact hd (.inl y)
       ·cases y
       ·exact hd (.inr y)
       ·exact absurd (D.symm.trans y) (by simp)
      rw[e];have Y:nv (low m)∈LI:=oH s (by
       rw[l2,J,sF,xM];show(true&&true&&!(m.W==0||m.K))=true
       simp_all)
      have V:=kj (jr (ae2 (Fd:=E.Fd) (c:=cout fn tmps todo kind ro) (cs:=cs) (v:=v)) Y) rfl;rw[zp,sF]at V;exact ai2 K hT k V H
end
end Env
end Ph
namespace Ph
open Conc Ren
theorem uO{U:Nat->Nat->Prop}{X:Nat->Prop}{a:Addr}(h:S a.block)(H:¬U a.block a.off):kz U S X w w #[⟨.cell a,false,false⟩] S X:=
 ⟨⟨fun _ _ _=>rfl,ar _,fun a=>⟨.inl,fun h=>h.resolve_right fun y=>by omega⟩,fun a=>⟨.inl,fun h=>h.resolve_right fun y=>by omega⟩,fun e Y=>by
  simp at Y;subst Y;exact .inl ⟨a,rfl,rfl,.inl ⟨h,fun y=>by cases y⟩⟩,rfl,.refl _,rfl⟩,fun e Y b K=>by simp_all⟩
structure Je(Fd:Nat)(a:Option Addr)(n cap:Nat)(f:ae):Prop where
 fn:f.fn=140
 todo:f.todo=JL
 defers:f.defers=[dcall 161 #[ptr Fd]]
 mode:f.mode=.run
 kind:f.kind=.normal
 round:f.roundOf=none
 size:f.tmps.size=48
 s0:f.tmps.getD 0 ax=ptr Fd
 s1:f.tmps.getD 1 ax=.slice a n cap
 s15:f.tmps.getD 15 ax=.slice a n cap
 s16:f.tmps.getD 16 ax=.int .i64 (n:Int)
 s17:f.tmps.getD 17 ax=.int .i64 0
namespace Env
structure Sm(E:Env)(Hs:Nat->Option Addr->Nat->(Nat->Prop)->(Nat->Prop)->ah->Prop):Prop where
 rely:∀{x:Nat} {a:Option Addr} {n:Nat} {S X:Nat->Prop} {w w2:ah},Hs x a n S X w->gU E.U S w w2->Hs x a n S X w2
 lX:∀{x:Nat} {a:Option Addr} {n:Nat} {S X:Nat->Prop} {w w1:ah},Hs x a n S X w->Eff E.Fd w w1->Hs x a n S X w1
 more:∀{x:Nat} {a:Option Addr} {n:Nat} {S X S' X':Nat->Prop} {w:ah},Hs x a n S X w->(∀b,S b->S' b)->(∀b,X b->X' b)->Hs x a n S' X' w
section
variable(E:Env)(ch:Nat)(ok:Nat->Prop)(By Rf Sg Fp:Nat)(RO:Nat->Prop)(Fx:ah->Prop)(Hs:Nat->Option Addr->Nat->(Nat->Prop)->(Nat->Prop)->ah->Prop)
def Sn:Prop:=∀(D:(Nat->Prop)->(Nat->Prop)->ai->ah->Prop) (x:Nat) (S X:Nat->Prop) (j:Nat->af) (w:ah),ok x->E.zy RO S X->Fx w->
 (∀S' X' f' w' a n cap,E.zy RO S' X'->Fx w'->lN 138 39 tU (sA (EE Fp (.slice a n cap))) f'->Hs x a n S' X' w'->E.Tree PR false D S' X' (G f' [zV ch E.Wg (kv By Rf Sg Fp) (.int .i64 (x:Int)) j,bot]) w')->
 E.Tree PR false D S X (G (WG ch E.Wg (kv By Rf Sg Fp) (.int .i64 (x:Int)) true j).1 [zV ch E.Wg (kv By Rf Sg Fp) (.int .i64 (x:Int)) j,bot]) w
def S5:Prop:=∀(D:(Nat->Prop)->(Nat->Prop)->ai->ah->Prop) (x:Nat) (γ:E.Γ) (S X:Nat->Prop) (f:ae) (l:List ae) (w:ah) (a:Option Addr) (n cap:Nat),ok x->(∀b,RO b->S b)->(∀b,RO b->¬X b)->S E.Mp->X E.Mp->Fx w->Hs x a n S X w->E.mJ γ (w.heap[E.Mp]?)->Je E.Fd a n cap f->
 (∀S' X' T w',(∀b,RO b->S' b)->(∀b,RO b->¬X' b)->S' E.Mp->Fx w'->E.mJ (E.upd γ x) (w'.heap[E.Mp]?)->E.Tree PR false D S' X' (G (Kd E.Fd T) l) w')->E.Tree PR false D S X (G f l) w
variable{E ch ok By Rf Sg Fp RO Fx Hs}
theorem Zq(I:∀i,¬E.U E.Mp i)(K:E.xy RO Fx)(KE:∀{w w1:ah} {m m':Lock.Word} {c c':Nat},Fx w->E.MuAt w m c->Eff E.Fd w w1->E.MuAt w1 m' c'->Fx w1)(KL:∀{w:ah},Fx w->Fx w.later)(F:E.Sm Hs)
  (lI:RO E.Fd)(hrw:RO E.Wg)(LN:RO Fp)(hFu:¬E.U Fp 0)(hFv:∀w,Fx w->w.cell? ⟨Fp,0,none⟩=some (ptr E.Fd))(M:¬RO E.Mp)(R:Sn E ch ok By Rf Sg Fp RO Fx Hs)(L:S5 E ok RO Fx Hs):Hp E ch ok (kv By Rf Sg Fp) RO Fx:=by
 intro k x S X j w hx hW hF;rw[Zp];refine R _ x S X j w hx hW hF fun S' X' f' w' a n cap H d y hH=>?_;rw[y.eq];generalize(fun i=>f'.tmps.getD i _)=D;have Z:E.Kn S' (fun w=>Fx w/\Hs x a n S' X' w):=by
  refine⟨fun h hr=>⟨K.rely S' _ _ H.ro h.1 hr,F.rely h.2 hr⟩,fun h=>K.fd _ h.1,fun h u V A=>⟨KE h.1 u V A,F.lX h.2 V⟩,fun h=>⟨KL h.1,F.lX h.2 (Eff.later _ _)⟩⟩
 refine aj 60 fun w1 x9=>?_;change E.Tree PR _ _ S' X' (G (BT Fp _ D _).1 _) w1;refine Tz.one rfl fun w2 qu=>?_;have Q:=Z.rely (Z.rely ⟨d,hH⟩ x9) qu;refine⟨_,w2,_,S',X',tw BI Sl (hFv _ Q.1) (by rw[aiZ];exact akr),uO (H.ro _ LN) hFu,aj 8 fun w3 vT=>?_⟩;change E.Tree PR _ _ S' X' (G (BU Fp _ _ D _).1 (BU Fp _ _ D _).2) w3;rw[cl1];refine aeU I Z ?_ k (Z.rely Q vT);intro k w4 γ h4 hm;refine aj 14 fun W C=>?_;have N:∀b,RO b->(S' b\/b=E.Mp):=fun b Y=>.inl (H.ro b Y);have f:=K.rely _ _ _ N h4.1 C;have s:Hs x a n _ (fun b=>X' b\/b=E.Mp) W:=F.rely (F.more h4.2 (fun b Y=>.inl Y) (fun b Y=>.inl Y)) C;have hm5:E.mJ γ (W.heap[E.Mp]?):=by
  rw[(C.kept _ (.inr rfl)).eq fun i hu=>I i hu];exact hm
 have t:=cl2 (Fp:=Fp) (Fd:=E.Fd) (a:=a) (n:=n) (cap:=cap) (j:=D) (l:=[zV ch E.Wg (kv By Rf Sg Fp) (.int .i64 x) j,bot]);change E.Tree PR _ _ _ _ (G (FN Fp _ a n cap D _).1 (FN Fp _ a n cap D _).2) W;generalize FN Fp _ a n cap D _=r at t;simp only[look,rK.mk.injEq,List.map_cons,List.cons.injEq]at t;obtain⟨e1,e2,e3,e4,e5,e6,e7,e8,⟨g0,g1,q,z,g17,_⟩,_⟩:=t;rw[e1];refine L _ x γ _ _ r.1 _ W a n cap hx N (fun b Y h=>h.elim (H.mR b Y) fun e=>M (e▸Y)) (.inr rfl) (.inr rfl) f s hm5 ⟨e2,e3,e4,e5,e6,e7,e8,g0,g1,q,z,g17⟩ fun S2 X2 T w6 J v O g hm6=>?_;refine aj 2 fun w7 P=>?_;rw[cl4];have o:=K.rely _ _ _ J g P;have hm7:E.mJ (E.upd γ x) (w7.heap[E.Mp]?):=by
  rw[(P.kept _ O).eq fun i hu=>I i hu];omega
 have B:∀b,RO b->(S2 b/\b≠E.Mp):=fun b Y=>⟨J b Y,fun e=>M (e▸Y)⟩;refine aa6 I O ⟨fun h hr=>K.rely _ _ _ B h hr,fun h=>K.fd _ h,fun h u V A=>KE h u V A,fun h=>KL h⟩ ?_ k o hm7;intro k w8 p;refine aj 60 fun w9 BV=>?_;obtain⟨h1,Q,_⟩:=Sj (cl3) rfl;change E.Tree PR _ _ _ _ (G _ (UD Fp _ _ D j T ch _ _ _).2) w9;rw[h1];have:AtRecv E ch _ RO Fx _ (fun b=>X2 b/\b≠E.Mp) _ w9:=
  ⟨_,rfl,Q,⟨B,fun h=>h.2 rfl,fun h=>h.2 rfl,lI,hrw,fun b Y h=>v b Y h.1⟩,K.rely _ _ _ B p BV⟩
 exact .stop (by unfold jw;exact this)
end
end Env
end Ph
namespace Ren
structure oV where
 iz:au->Bool
 rQ:Nat->Bool
 tV:String->Bool
 qQ:Bool
 qN:Bool:=false
 wall:Array Oper->Bool:=fun _=>false
def mh:Nat->af->Bool
 |_,.bool _|_,.int .. |_,.string _|_,.pointer none|_,.slice none _ _|_,.map none|_,.chan none|_,.nilFunc|_,.nilIface=>true
 |n+1,.agg c|n+1,.tuple c=>c.all (mh n)
 |n+1,.iface _ v=>mh n v
 |_,_=>false
theorem yo[gK]{r:Rn}:∀{n:Nat} {v:af},mh n v=true->V r v v:=by
 intro n;induction n with
 |zero=>
  intro v h;cases v with
  |bool b=>exact .bool b
  |int k m=>exact .int k m
  |string s=>exact .string s
  |pointer a=>cases a with|none=>exact .nilPtr|some _=>simp[mh]at h
  |slice a l c=>cases a with|none=>exact .kW l c|some _=>simp[mh]at h
  |map a=>cases a with|none=>exact .oJ|some _=>simp[mh]at h
  |chan a=>cases a with|none=>exact .pW|some _=>simp[mh]at h
  |nilFunc=>exact .nilFunc
  |nilIface=>exact .nilIface
  |_=>simp[mh]at h
 |succ n Y=>
  intro v h;have arr:∀(c:Array _),c.all (mh n)=true->∀(i:Nat) x x',c[i]?=some x->c[i]?=some x'->V r x x':=by
   intro c K i x x' e e';obtain rfl:=Option.some.inj (e.symm.trans e');obtain⟨H,rfl⟩:=bT.1 e;simp_all
  cases v with
  |bool b=>exact .bool b
  |int k m=>exact .int k m
  |string s=>exact .string s
  |pointer a=>cases a with|none=>exact .nilPtr|some _=>simp[mh]at h
  |slice a l c=>cases a with|none=>exact .kW l c|some _=>simp[mh]at h
  |map a=>cases a with|none=>exact .oJ|some _=>simp[mh]at h
  |chan a=>cases a with|none=>exact .pW|some _=>simp[mh]at h
  |nilFunc=>exact .nilFunc
  |nilIface=>exact .nilIface
  |agg c=>exact .agg rfl (arr c h)
  |tuple c=>exact .tuple rfl (arr c h)
  |iface t v=>exact .iface t (Y h)
  |_=>simp[mh]at h
section
variable(K:oV)(P:aK)
def kt:aW->Bool
 |.tmp _=>true
 |.const v=>mh 4 v
 |.global g=>K.rQ g
 |.func f=>K.iz f
def Br:Option aW->Bool
 |none=>true
 |some x=>kt K x
def yz:bE->Bool
 |.int _|.string|.bool=>true
 |_=>false
def CN(t:aI):Bool:=
 match P.underlying t with
 |some (.map k _)=>match P.underlying k with
  |some d=>yz d
  |none=>true
 |_=>true
def xU(t:aI)(y:aW):Bool:=
 !P.eqGuardType P.depth t&&match P.underlying t with
 |some (.pointer _)=>K.qQ
 |some (.interface _)=>match y with
  |.const .nilIface=>true
  |_=>false
 |some (.struct fs)=>!P.stoodInHeld t&&fs.toList.all fun f=>match P.underlying f.type with
  |some d=>yz d
  |none=>true
 |some d=>yz d
 |none=>true
def EF(t:aI):Bool:=
 match P.underlying t with
 |some (.int .u8)=>true
 |_=>false
def LP(s d:aI):Bool:=
 match P.underlying s,P.underlying d with
 |some (.int _),some (.int _)=>true
 |some (.slice e),some .string=>EF P e
 |some .string,some (.slice e)=>EF P e&&K.qQ
 |some (.pointer _),some .unsafePointer|some .unsafePointer,some (.pointer _)=>K.qQ
 |_,_=>false
def Re(t:aI):Bool:=
 match P.underlying t with
 |some (.int _)=>false
 |_=>true
def wZ(b:Builtin)(Y:Array aI)(n:Nat):=
 match b with
 |.append=>match Y[1]? with
  |some t=>Re P t
  |none=>true
 |.cap=>n==1
 |.copy|.len|.min|.recover=>true
 |.unsafeSliceData=>n==1&&K.qQ
 |.unsafeString=>n==2&&K.qQ
 |_=>false
def Ek(c:Call):=
 c.args.all (kt K)&&match c.callee with
 |.value f=>kt K f
 |.invoke x name=>kt K x&&K.tV name
 |.builtin b=>wZ K P b c.argTypes c.args.size
def Qh:Callee->Bool
 |.value _=>true
 |_=>false
def Rg(t:aI):Bool:=
 match P.underlying t with
 |some (.interface _)=>false
 |_=>true
def mS:Op->Bool
 |.move x|.assign x|.box _ x|.load _ x|.unOp _ _ x|.makeInterface _ x|.fieldAddr _ x _|.field _ x _|.range _ x|.next x _|.entry x|.extract x _|.panic x=>kt K x
 |.nilCheck x=>kt K x&&!K.qN
 |.pick c a b=>kt K c&&kt K a&&kt K b
 |.alloc _=>true
 |.build _ ps|.buildSlice _ _ ps=>ps.all fun p=>kt K p.2
 |.store _ a x|.makeSlice _ a x|.indexAddr _ a x|.index _ a x=>kt K a&&kt K x
 |.binOp op t x y _=>kt K x&&kt K y&&(r9 op||xU K P t y)
 |.convert s d x=>kt K x&&LP K P s d
 |.makeFunc (.func f) first cap=>K.iz f&&first.all (kt K)&&cap.all (kt K)
 |.makeMap _ x=>Br K x
 |.slice _ x H Y D=>kt K x&&Br K H&&Br K Y&&Br K D
 |.lookup t x i _=>kt K x&&kt K i&&CN P t
 |.mapUpdate t m k x=>kt K m&&kt K k&&kt K x&&CN P t
 |.typeAssert x _ a ok=>kt K x&&ok&&Rg P a
 |.call c=>Ek K P c
 |.defer c=>Ek K P c&&Qh c.callee
 |_=>false
def IB:Op->Bool
 |.defer _=>false
 |.call c=>match c.callee with
  |.builtin .recover=>false
  |_=>true
 |_=>true
def Bg(rd:Bool)(o:Oper):=mS K P o.op&&(!rd||IB o.op)
def lV(rd:Bool):Code->Bool
 |.skip|.label _|.exit _|.goto _|.ret=>true
 |.refuse y=>!(y== "")
 |.region _ ops _=>K.wall ops||ops.all (Bg K P rd)
 |.seq a b=>lV rd a&&lV rd b
 |.cond c a b=>kt K c&&lV rd a&&lV rd b
 |.block _ c|.loop c|.scope c=>lV rd c
 |.rangeFunc f _ aqY bd=>kt K f&&lV true aqY&&lV true bd
@[reducible] def oV.jo(ro:Nat->Prop)(jC:Nat->Nat->Prop)(rest:List Item->Prop)(jm:List br->Prop):gK where
 size:=P.globals.size
 iz f:=K.iz f=true
 code c:=lV K P true c=true
 methods n:=K.tV n=true
 rQ g:=K.rQ g=true
 wall ops:=K.wall ops=true
 ro:=ro
 jC:=jC
 rest:=rest
 jm:=jm
 qN:=K.qN
end
section
variable{K:oV}{P:aK}{ro:Nat->Prop}{jC:Nat->Nat->Prop}{rest:List Item->Prop}{jm:List br->Prop}(lI:K.qQ=true->∀b,¬ro b)
theorem uI{x:aW}(h:kt K x=true):@jF (K.jo P ro jC rest jm) x:=by
 letI:=K.jo P ro jC rest jm
 cases x with
 |tmp t=>trivial
 |const v=>exact fun r=>yo h
 |global g=>exact h
 |func f=>exact h
theorem aa7{x:Option _}(h:Br K x=true):@zg (K.jo P ro jC rest jm) x:=by
 cases x with
 |none=>trivial
 |some y=>exact uI h
theorem Gk{d:bE}(h:yz d=true):plainKey d:=by
 cases d with
 |int k=>exact .inl ⟨k,rfl⟩
 |string=>exact .inr (.inl rfl)
 |bool=>exact .inr (.inr rfl)
 |_=>simp[yz]at h
theorem MQ{t:aI}(h:CN P t=true):HV P t:=by
 intro k e Y d hd;unfold CN at h;rw[Y]at h;simp[hd]at h;exact Gk h
include lI in
theorem acZ{t:aI}(h:xU K P t y=true):@SK (K.jo P ro jC rest jm) P t y:=by
 letI:=K.jo P ro jC rest jm
 unfold xU at h;simp only[aM,bZ]at h;obtain⟨R,H⟩:=h;refine⟨R,?_⟩;cases D:P.underlying t with
 |none=>exact .inl ⟨.inl (fun d e=>by rw[D]at e;cases e),fun Y=>by obtain⟨e,Y⟩:=Y;cases Y⟩
 |some d=>
  rw[D]at H;have plain:yz d=true->Bo P t:=fun A=>.inl fun d' e=>by rw[D]at e;cases e;exact Gk A
  cases d with
  |pointer e=>exact .inl ⟨.inr (.inl ⟨e,D⟩),fun _=>lI H⟩
  |struct fs=>
   simp only[aM,bZ,cg]at H;refine .inl ⟨.inr (.inr ⟨fs,D,H.1,fun f I d hd=>?_⟩),fun Y=>by obtain⟨e,Y⟩:=Y;cases Y⟩;have:=H.2 f I;rw[hd]at this;exact Gk this
  |interface m=>
   refine .inr ⟨?_,m,rfl⟩;simp only at H;split at H
   ·rfl
   ·cases H
  |_=>exact .inl ⟨plain H,fun Y=>by obtain⟨e,Y⟩:=Y;cases Y⟩
theorem Qi{t:aI}(h:EF P t=true):P.underlying t=some (.int .u8):=by
 unfold EF at h;split at h
 ·omega
 ·cases h
include lI in
theorem ac0{s:aI}(h:LP K P s d=true):vo P s d/\((∃k,P.underlying s=some (.int k))\/(∃e,P.underlying s=some (.slice e))\/∀b,¬ro b):=by
 unfold LP at h;split at h
 ·rename_i a b;exact⟨.int a b,.inl ⟨_,a⟩⟩
 ·rename_i a b;exact⟨.toStr a (Qi h) b,.inr (.inl ⟨_,a⟩)⟩
 ·rename_i a b;simp at h;exact⟨.toBytes a b (Qi h.1),.inr (.inr (lI h.2))⟩
 ·rename_i a b;exact⟨.toUns a b,.inr (.inr (lI h))⟩
 ·rename_i a b;exact⟨.QX a b,.inr (.inr (lI h))⟩
 ·cases h
include lI in
theorem Xc{b:Builtin}{Y:Array _}(h:wZ K P b Y n=true):@Hh (K.jo P ro jC rest jm) P b Y n:=by
 cases b with
 |append=>
  intro D d H hd k e;subst e;unfold wZ at h;simp only[H,Re,hd]at h;cases h
 |cap=>exact(by simpa[wZ]using h:n=1)
 |copy=>trivial
 |len=>trivial
 |min=>trivial
 |recover=>trivial
 |unsafeSliceData=>simp[wZ]at h;exact⟨h.1,lI h.2⟩
 |unsafeString=>simp[wZ]at h;exact⟨h.1,lI h.2⟩
 |_=>simp[wZ]at h
theorem G3{l:Array _}(h:l.all (kt K)=true):∀x∈l,@jF (K.jo P ro jC rest jm) x:=fun x Y=>uI (bF.1 h x Y)
include lI in
theorem Oo{c:Call}(h:Ek K P c=true):@Dz (K.jo P ro jC rest jm) P c:=by
 unfold Ek at h;simp only[aM]at h;refine⟨G3 h.1,?_⟩;have Y:=h.2;cases H:c.callee with
 |value f=>rw[H]at Y;exact uI Y
 |invoke x name=>rw[H]at Y;simp at Y;exact⟨uI Y.1,Y.2⟩
 |builtin b=>rw[H]at Y;exact Xc lI Y
include lI in
theorem Qj{o:Op}(h:mS K P o=true):@Ez (K.jo P ro jC rest jm) P o:=by
 letI:=K.jo P ro jC rest jm
 have Y:=@uI K P ro;have H:=@aa7 K P ro;cases o with
 |nilCheck x=>simp only[mS,aM,bZ]at h;exact⟨Y h.1,h.2⟩
 |pick c a b=>simp only[mS,aM]at h;exact⟨Y h.1.1,Y h.1.2,Y h.2⟩
 |alloc e=>trivial
 |build t ps=>exact fun p D=>Y (bF.1 h p D)
 |buildSlice t n ps=>exact fun p D=>Y (bF.1 h p D)
 |store t a x=>simp only[mS,aM]at h;exact⟨Y h.1,Y h.2⟩
 |makeSlice t a x=>simp only[mS,aM]at h;exact⟨Y h.1,Y h.2⟩
 |indexAddr t a x=>simp only[mS,aM]at h;exact⟨Y h.1,Y h.2⟩
 |index t a x=>simp only[mS,aM]at h;exact⟨Y h.1,Y h.2⟩
 |binOp op t x y C=>simp only[mS,aM,cy]at h;exact⟨Y h.1.1,Y h.1.2,h.2.imp id (acZ lI)⟩
 |convert s d x=>simp only[mS,aM]at h;exact⟨Y h.1,ac0 lI h.2⟩
 |makeFunc fn first cap=>
  cases fn with
  |func f=>simp only[mS,aM]at h;exact⟨⟨f,rfl,h.1.1⟩,G3 h.1.2,G3 h.2⟩
  |_=>simp[mS]at h
 |makeMap t x=>exact H h
 |slice t x A I U=>simp only[mS,aM]at h;exact⟨Y h.1.1.1,H h.1.1.2,H h.1.2,H h.2⟩
 |lookup t x i ok=>simp only[mS,aM]at h;exact⟨Y h.1.1,Y h.1.2,MQ h.2⟩
 |mapUpdate t m k x=>simp only[mS,aM]at h;exact⟨Y h.1.1.1,Y h.1.1.2,Y h.1.2,MQ h.2⟩
 |typeAssert x B a ok=>
  simp only[mS,aM]at h;refine⟨Y h.1.1,h.1.2,fun ms e=>?_⟩;have:=h.2;simp[Rg,e]at this
 |call c=>exact Oo lI h
 |defer c=>
  simp only[mS,aM]at h;refine⟨Oo lI h.1,?_⟩;have:=h.2;cases R:c.callee with
  |value f=>exact⟨f,rfl⟩
  |_=>rw[R]at this;simp[Qh]at this
 |_=>first|exact Y h|(simp[mS]at h)
include lI in
theorem Oq{o:Oper}(h:Bg K P rd o=true):@yU (K.jo P ro jC rest jm) P rd o:=by
 simp[Bg,aM,cy]at h;refine⟨Qj lI h.1,fun hr=>?_⟩;have Y:=h.2.elim (fun x=>by simp_all) id;refine⟨fun c e=>by rw[e]at Y;simp[IB]at Y,fun c e H=>by rw[e]at Y;simp[IB,H]at Y⟩
include lI in
theorem yq:∀{c:Code} {rd:Bool},lV K P rd c=true-> @mb (K.jo P ro jC rest jm) P rd c:=by
 intro c;induction c with
 |region i ops I=>
  intro rd h;simp only[lV,cy]at h;exact h.imp id fun h o R=>Oq lI (bF.1 h o R)
 |seq a b Y H=>intro rd h;simp only[lV,aM]at h;exact⟨Y h.1,H h.2⟩
 |cond q a b Y H=>intro rd h;simp[lV,aM]at h;exact⟨uI h.1.1,Y h.1.2,H h.2⟩
 |block i d D=>exact fun h=>D h
 |loop d D=>exact fun h=>D h
 |scope d D=>exact fun h=>D h
 |refuse y=>intro rd h;simp[lV]at h;exact h
 |rangeFunc f ps aqY bd Y H=>intro rd h;simp[lV,aM]at h;exact⟨uI h.1.1,h.1.2,h.2⟩
 |_=>intro rd h;trivial
end
def vh:bE->Bool
 |.float _|.complex _=>false
 |_=>true
theorem Yc{info:aI->Option _}{fs:Array Field}{i:aO}(h:bX info fs=some i):∃out,i.desc=.struct out:=by
 unfold bX at h;simp only[bind,az]at h;obtain⟨a,_,h⟩:=h;split at h<;>(cases h;exact⟨_,rfl⟩)
theorem reckon_desc{info:aI->Option aO}{d:bE}{i:aO}(h:bG info d=some i):vh i.desc=true/\∀n u,i.desc≠.named n u:=by
 unfold bG at h;cases d with
 |pointer e=>
  simp only[bind,az]at h;obtain⟨a,_,h⟩:=h;split at h
  ·cases h
  ·split at h
   ·cases h
   ·obtain⟨_,_,h⟩:=az.1 h;cases h;exact⟨rfl,fun _ _ x=>by cases x⟩
  ·obtain⟨_,_,h⟩:=az.1 h;cases h;exact⟨rfl,fun _ _ x=>by cases x⟩
 |struct fs=>obtain⟨out,e⟩:=Yc h;rw[e];exact⟨rfl,fun _ _ x=>by cases x⟩
 |slice e=>simp only[bind,az]at h;obtain⟨_,_,_,_,h⟩:=h;cases h;exact⟨rfl,fun _ _ x=>by cases x⟩
 |map k e=>simp only[bind,az]at h;obtain⟨_,_,_,_,_,_,_,_,h⟩:=h;cases h;exact⟨rfl,fun _ _ x=>by cases x⟩
 |chan dir e=>simp only[bind,az]at h;obtain⟨_,_,_,_,h⟩:=h;cases h;exact⟨rfl,fun _ _ x=>by cases x⟩
 |func ps rs v=>simp only[bind,az]at h;obtain⟨_,_,h⟩:=h;cases h;exact⟨rfl,fun _ _ x=>by cases x⟩
 |array n e=>simp only[bind,az]at h;obtain⟨_,_,_,_,h⟩:=h;cases h;exact⟨rfl,fun _ _ x=>by cases x⟩
 |_=>cases h
theorem O9{α R:Type}(I:R->Prop)(g:α->R->Option _)(H:∀a s x,I s->g a s=some x->∃s',x=.yield s'/\I s'):∀(l:List α) s s1,I s->forIn l s g=some s1->I s1
 |[],s,s1,Y,h=>by simp_all
 |a::l,s,s1,Y,h=>by
  rw[List.forIn_cons]at h;obtain⟨x,D,h⟩:=az.1 h;obtain⟨s',rfl,K⟩:=H a s x Y D;exact O9 I g H l s' s1 K h
section
variable[gK]{r:Rn}
def sH(r:Rn)(z:af):=V r z z
theorem sH.cells{z:af}(h:sH r z):∀x∈z.cells,V r x x:=by
 intro x K;cases z with
 |agg c=>
  cases h with
  |agg _ H=>
   obtain⟨i,Y,rfl⟩:=cQ.1 K;exact H i _ _ (bR Y) (bR Y)
 |_=>simp[Value.cells,Array.mem_singleton]at K;rw[K];exact h
theorem IC{c:Array _}(h:∀x∈c,V r x x):V r (.agg c) (.agg c):=.agg rfl fun i x x' e e'=>by
 obtain rfl:=Option.some.inj (e.symm.trans e');exact h x (bq e)
theorem Yd{info:aI->Option aO}(F:∀t i z,info t=some i->i.zero=some z->sH r z){fs:Array Field}{i:aO}(h:bX info fs=some i):∀z,i.zero=some z->sH r z:=by
 unfold bX at h;simp only[bind,az,pure]at h;obtain⟨a,D,h⟩:=h;have inv:=O9 (fun s:Array Field×Nat×Nat×Nat×Nat×Bool×Bool×Option (Array af)×String=>∀z,s.2.2.2.2.2.2.2.1=some z->∀x∈z,V r x x) _ ?_ fs.toList _ a ?_ (by rw[Array.forIn_toList];exact D)
 ·have key:∀z,(a.2.2.2.2.2.2.2.1.map Value.agg)=some z->sH r z:=by
   intro z K;obtain⟨c,U,rfl⟩:=ck.1 K;exact IC (inv c U)
  split at h<;>(cases h;exact key)
 ·intro f s x I Y;have fin:∀(i:aO) (q:Prop) [Decidable q] z,info f.type=some i->(if q then none else s.2.2.2.2.2.2.2.1.bind fun a=>i.zero.bind fun b=>some (a++b.cells))=some z->∀x∈z,V r x x:=by
   intro i q _ z H K;split at K
   ·cases K
   ·simp only[az]at K;obtain⟨a,D,b,A,e⟩:=K;cases e;intro x Y;rcases cP.1 Y with y|y
    ·exact I a D x y
    ·exact(F _ _ _ H A).cells x y
  obtain⟨j,R,Y⟩:=az.1 Y;split at Y
  ·cases Y
  ·split at Y
   ·cases Y
   ·split at Y
    ·simp only[Option.bind_some]at Y;split at Y<;>(cases Y;exact⟨_,rfl,fun z K=>fin j _ z R K⟩)
    ·obtain⟨B,_,Y⟩:=az.1 Y;split at Y<;>(cases Y;exact⟨_,rfl,fun z K=>fin j _ z R K⟩)
 ·intro z K x Y;cases K;simp at Y
theorem Ye{info:aI->Option aO}(H:∀t i z,info t=some i->i.zero=some z->sH r z){d:bE}{i:aO}(h:bG info d=some i):∀z,i.zero=some z->sH r z:=by
 unfold bG at h;cases d with
 |pointer e=>
  simp only[bind,az]at h;obtain⟨a,_,h⟩:=h;split at h
  ·cases h
  ·split at h
   ·cases h
   ·obtain⟨_,_,h⟩:=az.1 h;cases h;intro z Y;cases Y;exact .nilPtr
  ·obtain⟨_,_,h⟩:=az.1 h;cases h;intro z Y;cases Y;exact .nilPtr
 |struct fs=>exact Yd H h
 |slice e=>simp only[bind,az]at h;obtain⟨_,_,_,_,h⟩:=h;cases h;intro z Y;cases Y;exact .kW _ _
 |map k e=>simp only[bind,az]at h;obtain⟨_,_,_,_,_,_,_,_,h⟩:=h;cases h;intro z Y;cases Y;exact .oJ
 |chan dir e=>simp only[bind,az]at h;obtain⟨_,_,_,_,h⟩:=h;cases h;intro z Y;cases Y;exact .pW
 |func ps rs v=>simp only[bind,az]at h;obtain⟨_,_,h⟩:=h;cases h;intro z Y;cases Y;exact .nilFunc
 |array n e=>
  simp only[bind,az]at h;obtain⟨j,D,_,_,h⟩:=h;cases h;intro z Y;split at Y
  ·cases Y
  ·split at Y
   ·cases Y;exact IC fun x K=>by simp_all
   ·obtain⟨y,I,rfl⟩:=ck.1 Y;refine IC fun x K=>(H _ _ _ D I).cells x ?_;obtain⟨c,A,R⟩:=Array.mem_flatten.1 K;simp_all
 |_=>cases h
def uU(T:cm):=T.types.all fun i=>vh i.desc&&match i.zero with|some z=>mh 4 z|none=>true
theorem Qk{T:cm}(h:uU T=true){t:aI}{i:aO}(e:T.types[t]?=some i):vh i.desc=true/\∀z,i.zero=some z->sH r z:=by
 have:=bF.1 h i (bq e);simp at this;refine⟨this.1,fun z K=>?_⟩;have Y:=this.2;rw[K]at Y;exact yo Y
theorem aa8{T:cm}(h:uU T=true):∀f t i,cj T f t=some i->vh i.desc=true/\∀z,i.zero=some z->sH r z:=by
 intro f;induction f with
 |zero=>intro t i e;cases e
 |succ f Y=>
  intro t i e;unfold cj at e;split at e
  ·exact Qk h e
  ·obtain⟨d,_,e⟩:=az.1 e;exact⟨(reckon_desc e).1,Ye (fun t i z a b=>(Y t i a).2 z b) e⟩
theorem ID{T:cm}(h:uU T=true){t:aI}{i:aO}(e:T.info? t=some i):vh i.desc=true/\∀z,i.zero=some z->sH r z:=by
 unfold dh at e;split at e
 ·exact Qk h e
 ·exact aa8 h _ _ _ e
theorem ac1{P:aK}(h:uU P.toTables=true):qH P:=fun t i z e Y r=>(ID h e).2 z Y
theorem MM{P:aK}(h:uU P.toTables=true){t:aI}{d:bE}(e:P.underlying t=some d):vh d=true:=by
 have r:Rn:=⟨fun _=>none,(fun _ _ _ x=>by simp),(fun _ _ x=>by cases x)⟩;unfold Program.underlying at e;split at e
 ·obtain⟨i,Y,rfl⟩:=ck.1 e;exact(ID (r:=r) h Y).1
 ·rename_i i Y;cases e;exact(ID (r:=r) h Y).1
 ·cases e
theorem ae5{P:aK}(h:uU P.toTables=true):Ex P:=by
 intro d;induction d with
 |zero=>intro u k x e;cases e
 |succ d K=>
  intro u k x e;unfold plainCell at e;split at e
  ·obtain⟨f,_,e⟩:=Array.exists_of_findSome?_eq_some e;split at e
   ·exact K _ _ _ e
   ·cases e
  ·dsimp only at e;split at e
   ·cases e
   ·exact K _ _ _ e
  ·simp_all
  ·split at e<;>cases e;simp_all
  ·rename_i Y;have:=MM h Y;simp[vh]at this
  ·rename_i Y;have:=MM h Y;simp[vh]at this
  ·cases e
end
theorem Yf{info:aI->Option aO}{d:bE}{i:aO}(h:bG info d=some i):i.methods=#[]:=by
 unfold bG at h;cases d with
 |pointer e=>
  simp only[bind,az]at h;obtain⟨a,_,h⟩:=h;split at h
  ·cases h
  ·split at h
   ·cases h
   ·obtain⟨_,_,h⟩:=az.1 h;cases h;rfl
  ·obtain⟨_,_,h⟩:=az.1 h;cases h;rfl
 |struct fs=>
  unfold bX at h;simp only[bind,az]at h;obtain⟨a,_,h⟩:=h;split at h<;>(cases h;rfl)
 |slice e=>simp only[bind,az]at h;obtain⟨_,_,_,_,h⟩:=h;cases h;rfl
 |map k e=>simp only[bind,az]at h;obtain⟨_,_,_,_,_,_,_,_,h⟩:=h;cases h;rfl
 |chan dir e=>simp only[bind,az]at h;obtain⟨_,_,_,_,h⟩:=h;cases h;rfl
 |func ps rs v=>simp only[bind,az]at h;obtain⟨_,_,h⟩:=h;cases h;rfl
 |array n e=>simp only[bind,az]at h;obtain⟨_,_,_,_,h⟩:=h;cases h;rfl
 |_=>cases h
def Sp(P:aK)(t:aI):Bool:=
 match P.underlying t with
 |some (.pointer _)=>false
 |_=>true
def ai3(K:oV)(P:aK)(t:aI)(i:aO):=i.methods.all fun m=>!K.tV m.name||(m.path.isEmpty&&(match m.func with
 |some (f,false)=>K.iz f
 |_=>false)&&Sp P t)
def y9(K:oV)(P:aK):=(bg P.types.size).all fun t=>match P.types[t]? with
 |some i=>ai3 K P t i
 |none=>true
theorem Zr{K:oV}{P:aK}{ro:Nat->Prop}{rest:List Item->Prop}{jm:List _->Prop}(h:y9 K P=true){n:String}(F:K.tV n=true):@A3 (K.jo P ro jC rest jm) P n:=by
 intro t i m Y D;have old:∀{i:aO},P.types[t]?=some i->i.methods.find? (·.name==n)=some m->m.path=#[]/\(∃f,m.func=some (f,false)/\K.iz f=true)/\∀e,P.underlying t≠some (.pointer e):=by
  intro i Y D;have J:=(bT.1 Y).1;have B:=cg.1 h t (cB.2 J);simp[Y]at B;have U:=bF.1 B m (Array.mem_of_find?_eq_some D);have R:=by simpa using Array.find?_some D
  simp[R,F,Bool.not_true,Bool.false_or,aM]at U;refine⟨by simp_all,?_,fun e C=>?_⟩
  ·have A:=U.1.2;split at A
   ·simp_all
   ·cases A
  ·have A:=U.2;simp[Sp,C]at A
 have I:∀f (i:aO),cj P.toTables f t=some i->i.methods.find? (·.name==n)=some m->P.types[t]?=some i\/False:=by
  intro f i Y D;cases f with
  |zero=>cases Y
  |succ f=>
   unfold cj at Y;split at Y
   ·simp_all
   ·obtain⟨d,_,e⟩:=az.1 Y;rw[Yf e]at D;simp at D
 have H:=Y;unfold dh at H;split at H
 ·exact old H D
 ·exact old ((I _ i H D).resolve_right id) D
def rD(K:oV)(P:aK)(ext:au->Bool)(f:au):Bool:=match P.funcs[f]? with
 |some fn=>!(fn.name== "runtime.NumGoroutine")&&(match fn.body with
  |some c=>lV K P false c
  |none=>ext f)
 |none=>false
def S6(K:oV)(P:aK)(ro:Nat->Prop)(jC:Nat->Nat->Prop)(rest:List _->Prop)(jm:List br->Prop)(fn:Func):=
 letI:=K.jo P ro jC rest jm
 Extern.findNext fn=none/\∃e,Extern.find fn=some e/\∀r a a',VA r a a'->SR P V r (e a) (e a')
theorem DX{K:oV}{P:aK}{ro:Nat->Prop}{rest:List _->Prop}{jm:List _->Prop}(lI:K.qQ=true->∀b,¬ro b)(ext:au->Bool)(L:uU P.toTables=true)(N:y9 K P=true)(F:∀f,K.iz f=true->rD K P ext f=true)(M:∀f fn,ext f=true->P.funcs[f]?=some fn->S6 K P ro jC rest jm fn):@lF (K.jo P ro jC rest jm) P:=by
 letI:=K.jo P ro jC rest jm
 refine⟨⟨ac1 L,rfl,ae5 L,fun f D=>?_,fun n A=>Zr N A⟩,fun c I=>yq lI I,rfl,fun _=>rfl,fun _=>rfl,fun f fn c D Y H=>?_⟩
 ·have h:=F f D;unfold rD at h;split at h
  ·rename_i fn Y;simp only[aM,bZ]at h;refine⟨fn,Y,h.1,fun H=>?_⟩;have R:=h.2;rw[H]at R;exact M f fn R Y
  ·cases h
 ·have h:=F f D;unfold rD at h;simp[Y,H,aM]at h;exact yq lI h.2
def TU:List Nat:=[0,1,2,3,4,5,6,7,8,9,10,11,12,13,14,15,16,22,38,39,60,92,111,122,137,138,140,157,158,159,160,161,168,169,170,171,172,173,174,175,176,177,178,179,180,181,182,183,184,185,186,187,188,199,200,201,202,203,204,205,206,207,214,215,216,217,218,219,220,222,223,224,225,226,227,228,229,230,231,232,233,234,235,236,237,242,243,244,245]
def sI(f:Nat):Bool:=[113,134,156].contains f
def K0:oV:={iz:=fun f=>decide (f<246)&&!TU.contains f,rQ:=fun g=>[0,2,3].contains g,tV:=fun n=>n== "spotter/spotter.told"||n== "spotter/spotter.flag",qQ:=true}
theorem CO:uU aT.toTables=true:=by decide+kernel
theorem aa9:y9 K0 aT=true:=by decide+kernel
theorem aa_:((bg 246).all fun f=>!K0.iz f||rD K0 aT sI f)=true:=by decide+kernel
theorem ac2(f:Nat)(h:K0.iz f=true):rD K0 aT sI f=true:=by
 have Y:=by
  have:(decide _&&!TU.contains f)=true:=h;simp only[aM,decide_eq_true_eq]at this;exact this.1
 have:=cg.1 aa_ f (cB.2 Y);rw[h]at this;simpa using this
theorem Dt(K:oV)(ro:Nat->Prop)(jC:Nat->Nat->Prop)(rest:List Item->Prop)(jm:List br->Prop)(f:Nat)(fn:Func)(h:sI f=true)(Y:aT.funcs[f]?=some fn):S6 K aT ro jC rest jm fn:=by
 letI:=K.jo aT ro jC rest jm
 have:f=113\/f=134\/f=156:=by simpa[sI]using h
 rcases this with rfl|rfl|rfl
 ·rw[Tryz.func113]at Y;cases Y;exact⟨by decide+kernel,Extern.AbiNoEscape.same,by rfl,fun r a a' h=>XZ h⟩
 ·rw[Tryz.func134]at Y;cases Y;exact⟨by decide+kernel,Extern.BytealgIndexByte.indexByte,by rfl,fun r a a' h=>Xt h⟩
 ·rw[Tryz.func156]at Y;cases Y;exact⟨by decide+kernel,_,by rfl,fun r a a' h=>W8 _ _ h⟩
def Bh:Nat->Prop:=fun _=>False
def uV:Nat->Nat->Prop:=fun _ _=>False
theorem Bi(rest:List Item->Prop)(jm:List br->Prop):@lF (K0.jo aT Bh uV rest jm) aT:=DX (fun _ _ h=>h) _ CO aa9 ac2 (Dt K0 _ _ _ jm)
def K2:oV:={iz:=fun _=>false,rQ:=fun _=>false,tV:=fun _=>false,qQ:=false}
def K3:oV:={iz:=fun f=>[77,139,144,145,150,165].contains f,rQ:=fun _=>false,tV:=fun _=>false,qQ:=false}
theorem Zs:y9 K3 aT=true:=by decide+kernel
theorem Zt:([77,139,144,145,150,165].all fun f=>rD K3 aT sI f)=true:=by decide+kernel
theorem ac3(f:Nat)(h:K3.iz f=true):rD K3 aT sI f=true:=by
 have:f∈[77,139,144,145,150,165]:=by
  have:[77,139,144,145,150,165].contains f=true:=h;simpa using this
 exact cg.1 Zt f this
theorem ai4(ro:Nat->Prop)(jC:Nat->Nat->Prop)(rest:List Item->Prop)(jm:List br->Prop):@lF (K3.jo aT ro jC rest jm) aT:=DX (fun h=>by cases h) _ CO Zs ac3 (Dt K3 ro jC _ jm)
end Ren
namespace Ph
open Conc Ren
theorem Tz.inv{P:aK}{U:Nat->Nat->Prop}{D:(Nat->Prop)->(Nat->Prop)->ai->ah->Prop}{X:Nat->Prop}{g:ai}(J:(Nat->Prop)->(Nat->Prop)->ah->Prop)
  (Y:∀S X w w2 w1 es S1 X1,J S X w->gU U S w w2->Did S X w2 w1 es S1 X1->J S1 X1 w1)(h:Tz P main U D S X g w)(j:J S X w):Tz P main U (fun S X g w=>D S X g w/\J S X w) S X g w:=by
 induction h with
 |stop hd=>exact .stop ⟨hd,j⟩
 |step K ex _ H=>exact .step K ex fun w2 g1 w1 es S1 X1 hr e hd=>H w2 g1 w1 es S1 X1 hr e hd (Y _ _ _ _ _ _ _ _ j hr hd.toDid)
theorem Tz.iq{P:aK}{U:Nat->Nat->Prop}{D:(Nat->Prop)->(Nat->Prop)->ai->ah->Prop}{X S' X':Nat->Prop}{g:ai}(h:Tz P main U D S X g w)(Y:∀a,S a↔S' a)(hX:∀a,X a↔X' a):Tz P main U D S' X' g w:=by
 obtain rfl:S=S':=funext fun a=>propext (Y a);obtain rfl:X=X':=funext fun a=>propext (hX a);exact h
def vt:af->af
 |.pointer (some _)=>.tuple #[]
 |v=>v
def TW:Obj->Obj
 |.cells c e _=>.cells (c.map vt) e (0,(c.map vt).size)
 |o=>o
def rU(ow:Option Nat)(w:ah):={w with heap:=w.heap.mapIdx fun i o=>if some i=ow then o else TW o}
theorem A7{b:Nat}(h:w.heap[b]?=some o):(rU ow w).heap[b]?=some (if some b=ow then o else TW o):=by
 show(w.heap.mapIdx _)[b]?=_
 simp_all
theorem H9:(rU ow w).heap.size=w.heap.size:=by
 show(w.heap.mapIdx _).size=_
 simp
structure x_(Fd By Rf Sg Fp k q st:Nat)(X P:ByteArray)(w:ah):Prop where
 b:w.heap[By]?=some (.cells #[.int .i64 (k:Int),.int .i64 (q:Int),.int .i64 (st:Int)] 75)
 r:w.heap[Rf]?=some (.cells #[.string X] 9)
 s:w.heap[Sg]?=some (.cells #[.string P] 9)
 f:w.heap[Fp]?=some (.cells #[ptr Fd] 182)
 low:PR.globals.size<=w.heap.size
def Kp(By Rf Sg Fp b:Nat):=b=By\/b=Rf\/b=Sg\/b=Fp
section
variable{Fd By Rf Sg Fp k q st:Nat}{X P:ByteArray}{w:ah}{ow:Option Nat}
theorem x_.reads(h:x_ Fd By Rf Sg Fp k q st X P w)(H:∀b,Kp By Rf Sg Fp b->some b≠ow)(T:Nat->Question->Nat):Reads (tp (rU ow w) T) By Rf Sg k q st X P:=by
 have Y:(tp (rU ow w) T).heap[By]?=_:=(A7 h.b).trans (by rw[if_neg (H By (.inl rfl))]);have K:(tp (rU ow w) T).heap[Rf]?=_:=(A7 h.r).trans (by rw[if_neg (H Rf (.inr (.inl rfl)))]);have D:(tp (rU ow w) T).heap[Sg]?=_:=(A7 h.s).trans (by rw[if_neg (H Sg (.inr (.inr (.inl rfl))))]);exact⟨by rw[bY _ By 0 _ _ _ Y];simp[vt],by rw[bY _ By 1 _ _ _ Y];simp[vt],by rw[bY _ By 2 _ _ _ Y];simp[vt],by rw[bY _ Rf 0 _ _ _ K];simp[vt],by rw[bY _ Sg 0 _ _ _ D];simp[vt]⟩
@[reducible] def gl(By Rf Sg Fp:Nat)(kr:List _):=K3.jo PR (Kp By Rf Sg Fp) uV (fun k=>k=kr) (fun _=>False)
theorem x_.W(kr:List Item)(h:x_ Fd By Rf Sg Fp k q st X P w)(F:∀b,Kp By Rf Sg Fp b->some b≠ow)(L:∀g,ow=some g->∃c e,w.heap[g]?=some (.cells c e)/\∀x∈c,∃z:Int,x=.int .i64 z):
  letI:=gl By Rf Sg Fp kr
  Ren.W (mq fun b=>Kp By Rf Sg Fp b\/some b=ow) 0 (rU ow w) w:=by
 letI:=gl By Rf Sg Fp kr
 refine⟨fun b b' e=>?_,by rw[H9];exact h.low,h.low,fun b I=>?_,fun i q R=>by omega,rfl⟩
 ·obtain⟨hk,rfl⟩:=wW.1 e;rcases hk with hk|hk
  ·have key:∀(c:Array _) (t:aI),w.heap[b]?=some (.cells c t)->VA (mq fun b=>Kp By Rf Sg Fp b\/some b=ow) (c.map vt) c->∃o o',(rU ow w).heap[b]?=some o/\w.heap[b]?=some o'/\OB (mq fun b=>Kp By Rf Sg Fp b\/some b=ow) b o o':=by
    intro c t H D;exact⟨_,_,(A7 H).trans (by rw[if_neg (F b hk)];rfl),H,.ro t hk D fun i R=>absurd R id⟩
   rcases hk with rfl|rfl|rfl|rfl
   ·refine key _ _ h.b ⟨by simp,fun i x x' Y K=>?_⟩;rw[bU,K]at Y;cases Y;have:=by
     have:=bq K;simpa using this
    rcases this with rfl|rfl|rfl<;>exact .int _ _
   ·refine key _ _ h.r ⟨by simp,fun i x x' Y K=>?_⟩;rw[bU,K]at Y;cases Y;have:=by
     have:=bq K;simpa using this
    subst this;exact .string _
   ·refine key _ _ h.s ⟨by simp,fun i x x' Y K=>?_⟩;rw[bU,K]at Y;cases Y;have:=by
     have:=bq K;simpa using this
    subst this;exact .string _
   ·refine key _ _ h.f ⟨by simp,fun i x x' Y K=>?_⟩;rw[bU,K]at Y;cases Y;have:=by
     have:=bq K;simpa using this
    subst this;exact .blank rfl
  ·obtain⟨c,t,H,D⟩:=L b hk.symm;refine⟨_,_,(A7 H).trans (by simp_all),H,.same (fun y=>F b y hk) (DG t _ fun x A=>?_)⟩;obtain⟨z,rfl⟩:=D x A;exact .int _ _
 ·rw[H9];rcases I with rfl|rfl|rfl|rfl
  ·exact bK fun y=>by have:=h.b;simp_all
  ·exact bK fun y=>by have:=h.r;simp_all
  ·exact bK fun y=>by have:=h.s;rw[cM y]at this;cases this
  ·exact bK fun y=>by have:=h.f;rw[cM y]at this;cases this
end
noncomputable def oq:List Item:=match Tryz.f138.body with
 |some (.seq _ b)=>[.code b]
 |_=>[]
section
variable{ch Wg By Rf Sg Fp x:Nat}{j:Nat->af}{l:List ae}{T:Array af}
theorem cp0:gS PR 1 (WG ch Wg (kv By Rf Sg Fp) (.int .i64 x) true j).1 l=(⟨138,nK x By Rf Sg Fp (.tuple #[]) (fun _=>.tuple #[]),.code ER::oq,[],.run,.normal,none⟩,l):=by kernel_rfl
theorem cp1:gS PR 1 ⟨138,T,oq,[],.run,.normal,none⟩ l=(⟨138,T,.code sO::tU,[],.run,.normal,none⟩,l):=by kernel_rfl
theorem ae6:lV K3 PR false ER=true:=by decide+kernel
theorem ae7:lV K3 PR false sO=true:=by decide+kernel
theorem Zu:∃c k,oq=.code c::k:=⟨_,_,rfl⟩
theorem Zv:∃c k,tU=.code c::k:=⟨_,_,rfl⟩
end
section
variable{U:Nat->Nat->Prop}{Fd By Rf Sg Fp k q st:Nat}{X P:ByteArray}{w:ah}{ow:Option Nat}{kr:List Item}{c:Code}
def ai5(U:Nat->Nat->Prop)(By Rf Sg Fp:Nat)(kr:List Item)(r0:@Rn (gl By Rf Sg Fp kr))(R:Array af->ah->Prop)(cs:List ae)(S X S' X':Nat->Prop)(g:ai)(w':ah):Prop:=
 letI:=gl By Rf Sg Fp kr
 ∃(r:Rn) (a' t':Array af) (v:ah),Le r0 r/\Ren.W r 0 v w'/\(∀b,S' b↔Rd r b\/S b)/\(∀b,X' b↔Wr r b\/X b)/\R a' v/\oR U r/\VA r a' t'/\g=G ⟨138,t',kr,[],.run,.normal,none⟩ cs
theorem piece(hk:∃c k,kr=.code c::k)(hc:lV K3 PR false c=true){r0:@Rn (gl By Rf Sg Fp kr)}{v0:ah}(Z:@Ren.W (gl By Rf Sg Fp kr) r0 0 v0 w)
  {R:Array af->ah->Prop}{a t:Array af}(F:∀T,c.wp PR (fun e a' v'=>e=.normal/\a'.defers=[]/\R a'.tmps v') ⟨a,[]⟩ (tp v0 T))
  (H:@VA (gl By Rf Sg Fp kr) r0 a t){cs:List ae}(Y:@oR (gl By Rf Sg Fp kr) U r0)(L:∀b i,U b i->b<w.heap.size){S X':Nat->Prop}(V:∀b,@Rd (gl By Rf Sg Fp kr) r0 b->S b)(hX:∀b,@Wr (gl By Rf Sg Fp kr) r0 b->X' b):
  Tz PR false U (ai5 U By Rf Sg Fp kr r0 R cs S X') S X' (G ⟨138,t,.code c::kr,[],.run,.normal,none⟩ cs) w:=by
 letI:=gl By Rf Sg Fp kr
 have K:mb PR false c:=yq (fun h=>by cases h) hc;have X:FR PR r0 true (Frame.at ⟨138,#[],[],[],.run,.normal,none⟩ ⟨a,[]⟩ (.code c::tS)) ⟨138,t,.code c::kr,[],.run,.normal,none⟩:=by
  obtain⟨c0,z,A⟩:=hk;refine⟨rfl,H,?_,.nil,.run,rfl,.inl rfl,.none,fun _=>⟨_,Tryz.func138⟩⟩;show IL PR _ false true (.code c::tS) (.code c::kr)
  refine .cons (.code K) ?_;rw[A];exact .rest rfl rfl A.symm rfl
 have E:=Oi (main:=false) (U:=U) (ai4 (Kp By Rf Sg Fp) uV (fun k=>k=kr) fun _=>False) (fun ops h=>by cases h) (fun g h=>by cases h) F rfl K X (gW:=cs) Z Y L;refine(Tz.of (SF:=S) (XF:=X') E (fun b i J=>⟨L b i J,fun h=>?_⟩) fun S1 X1 f l w1 hd=>?_).iq (fun b=>⟨fun h=>h.elim (V b) id,.inr⟩) (fun b=>⟨fun h=>h.elim (hX b) id,.inr⟩)
 ·obtain⟨b0,e⟩:=h;exact(Y b0 b i e J).2
 ·obtain⟨rfl,r,a',v,O,P,M,N,⟨D,Q⟩,q,j,I,f1,f2,B,C,f5,f6⟩:=O0 (kr:=kr) (fun k h=>h) hd;subst M N;refine .stop ⟨r,a'.tmps,f.tmps,v,O,P,fun b=>Iff.rfl,fun b=>Iff.rfl,Q,q,I,?_⟩;obtain⟨fn,tmps,todo,defers,mode,kind,ro⟩:=f;simp only at f1 f2 B C f5 f6;rw[D]at f6;have:defers=[]:=by
   generalize defers=d at f6;cases f6 with
   |nil=>rfl
   |rest _ h=>exact h.elim
  subst this f1 f2 B C f5;rfl
end
inductive VL[gK](r:Rn):List af->List af->Prop
 |nil:VL r [] []
 |cons {x y:af} {l l':List af}:V r x y->VL r l l'->VL r (x::l) (y::l')
theorem VL.va[gK]{r:Rn}{l l':List _}(h:VL r l l'):VA r l.toArray l'.toArray:=by
 have K:l.length=l'.length:=by
  induction h with
  |nil=>rfl
  |cons _ _ Y=>simp[Y]
 refine⟨by omega,fun i x x' e e'=>?_⟩;clear K;induction h generalizing i with
 |nil=>simp at e
 |cons H _ Y=>
  cases i with
  |zero=>simp at e e';simp_all
  |succ i=>exact Y i (by simp_all) (by simp_all)
theorem ag8[gK]{r:Rn}{x By Rf Sg Fp:Nat}(Y:r By=some By)(hr:r Rf=some Rf)(R:r Sg=some Sg)(H:r Fp=some Fp):VA r (nK x By Rf Sg Fp (.tuple #[]) (fun _=>.tuple #[])) (nK x By Rf Sg Fp (.tuple #[]) (fun _=>.tuple #[])):=
 VL.va (.cons (.int _ _) (.cons (.ptr ⟨Y,rfl,rfl⟩) (.cons (.ptr ⟨hr,rfl,rfl⟩) (.cons (.ptr ⟨R,rfl,rfl⟩) (.cons (.ptr ⟨H,rfl,rfl⟩) (.cons (.blank rfl) (.cons (.blank rfl) (.cons (.blank rfl) (.cons (.blank rfl) (.cons (.blank rfl) (.cons (.blank rfl) (.cons (.blank rfl) (.cons (.blank rfl) (.cons (.blank rfl) (.cons (.blank rfl) (.cons (.blank rfl) (.cons (.blank rfl) (.cons (.blank rfl) (.cons (.blank rfl) (.cons (.blank rfl) (.cons (.blank rfl) (.cons (.blank rfl) (.cons (.blank rfl) (.cons (.blank rfl) (.cons (.blank rfl) (.cons (.blank rfl) (.cons (.blank rfl) (.cons (.blank rfl) (.cons (.blank rfl) (.cons (.blank rfl) (.cons (.blank rfl) (.cons (.blank rfl) (.cons (.blank rfl) (.cons (.blank rfl) (.cons (.blank rfl) (.cons (.blank rfl) (.cons (.blank rfl) (.cons (.blank rfl) (.cons (.blank rfl) .nil)))))))))))))))))))))))))))))))))))))))
theorem G4(t p:ByteArray)(k:Nat):∀n,∀h∈lr t p k n,h.1<=n
 |0,h,Y=>by simp[lr]at Y
 |n+1,h,Y=>by
  have H:=G4 t p k n;rw[lr]at Y;split at Y
  ·rcases List.mem_append.1 Y with K|K
   ·have:=H h K;omega
   ·simp_all
  ·have:=H h Y;omega
def lC(X P:ByteArray)(k st x:Nat):=kN (x *st) (lE (jI X P k st x) P k) (lE (jI X P k st x) P k).length
def Env.Kf(E:Env)(X P:ByteArray)(k st x:Nat)(a:Option Addr)(n:Nat)(S X':Nat->Prop)(w:ah):=
 n=(lC X P k st x).length/\((a=none/\n=0)\/∃g Y,a=some ⟨g,0,none⟩/\S g/\X' g/\(∀i,¬E.U g i)/\w.heap[g]?=some (.cells Y 173)/\Y.toList.take (n *2)=jU (lC X P k st x))
theorem Env.ae8(E:Env)(X P:ByteArray)(k st:Nat):E.Sm (E.Kf X P k st):=by
 refine⟨fun h hr=>?_,fun h C=>?_,fun h B hX=>?_⟩
 ·obtain⟨H,K|⟨g,Y,K,R,I,D,A,U⟩⟩:=h
  ·exact⟨H,.inl K⟩
  ·exact⟨H,.inr ⟨g,Y,K,R,I,D,((hr.kept g R).eq D).trans A,U⟩⟩
 ·obtain⟨H,K|⟨g,Y,K,R,I,D,A,U⟩⟩:=h
  ·exact⟨H,.inl K⟩
  ·exact⟨H,.inr ⟨g,Y,K,R,I,D,(C.heap g fun e=>D 0 ⟨.inl e,by omega⟩).trans A,U⟩⟩
 ·obtain⟨H,K|⟨g,Y,K,R,I,D,A,U⟩⟩:=h
  ·exact⟨H,.inl K⟩
  ·exact⟨H,.inr ⟨g,Y,K,B g R,hX g I,D,A,U⟩⟩
theorem Sq(By Rf Sg Fp:Nat)(Y H:List Item):Bz (gl By Rf Sg Fp Y) (gl By Rf Sg Fp H):=⟨rfl,fun _ h=>h,fun _ h=>h,fun _ h=>h,fun _=>Iff.rfl,fun _ _ h=>h,rfl⟩
theorem Reads.later{w':ah}{By Rf Sg q st B:Nat}{X P:ByteArray}(h:Reads w By Rf Sg k q st X P)(Y:Go.RowKit.Below B w w')(H:By<B)(R:Rf<B)(F:Sg<B)(T:Nat->Question->Nat):Reads (tp w' T) By Rf Sg k q st X P:=
 ⟨(Y.cell H).trans h.c0,(Y.cell H).trans h.c1,(Y.cell H).trans h.c2,(Y.cell R).trans h.x,(Y.cell F).trans h.p⟩
theorem Zw(F:List _):∀x∈jU F,∃z:Int,x=.int .i64 z:=by
 intro x K;simp only[jU,List.mem_flatMap]at K;obtain⟨h,_,Y⟩:=K;simp at Y;rcases Y with rfl|rfl
 ·exact⟨_,rfl⟩
 ·exact⟨_,rfl⟩
theorem ae9[gK]{r:Rn}{c c':Array _}(h:VA r c c'){l:List _}(R:∀x∈l,∃z:Int,x=.int .i64 z)(F:l.length=m)(e:c.toList.take m=l):c'.toList.take m=l:=by
 apply List.ext_getElem?;intro i;rcases Nat.lt_or_ge i m with K|K
 ·have Y:(c.toList.take m)[i]?=l[i]?:=by rw[e]
  rw[da,if_pos K]at Y;rw[da,if_pos K];have D:l[i]?=some l[i]:=cz _;rw[D]at Y⊢;obtain⟨z,I⟩:=R _ (List.getElem_mem _);rw[I]at Y⊢;obtain⟨y,A,H⟩:=h.get (by simpa using Y);cases H;simp_all
 ·rw[c9 (by simp;omega),c9 (by omega)]
theorem Xx(F:List _):(jU F).length=F.length *2:=aal F
theorem ai6[gK]{r:Rn}{b:Nat}{y:af}(h:V r (ptr b) y)(e:r b=some b):y=ptr b:=by
 cases h with
 |@ptr a a' k=>
  obtain⟨Y,K,H⟩:=k;obtain⟨b',o',s'⟩:=a';simp only at Y K H;rw[e]at Y;cases Y;subst K H;rfl
section
variable{E:Env}{ch:Nat}{ok:Nat->Prop}{By Rf Sg Fp:Nat}{RO:Nat->Prop}{Fx:ah->Prop}
theorem ae_(X P:ByteArray)(k q st:Nat)(hX:X.size<=200)(hP:P.size<=30)(hk:k<=6)(hs:st<=200)(LQ:∀x,ok x->x *st<=X.size/\x<=100000)
  (K:E.xy RO Fx)(hIn:∀w,Fx w->x_ E.Fd By Rf Sg Fp k q st X P w)(F:∀b,Kp By Rf Sg Fp b->RO b)(hKU:∀b,Kp By Rf Sg Fp b->∀i,¬E.U b i)(Y:∀w,Fx w->(∀b,RO b->b<w.heap.size)/\E.Mp<w.heap.size):
  Env.Sn E ch ok By Rf Sg Fp RO Fx (E.Kf X P k st):=by
 intro D x S X' j w hx L hF C;obtain⟨UE,BW⟩:=LQ x hx;generalize LS:[zV ch E.Wg (kv By Rf Sg Fp) (.int .i64 (x:Int)) j,bot]=cs at C⊢;clear LS;refine aj 1 fun w1 x9=>?_;rw[cp0];have H:Fx w1:=K.rely S _ _ L.ro hF x9;have G:=hIn w1 H;have zX:∀w,Fx w->∀b i,E.U b i->b<w.heap.size:=fun w h b i t=>by
  rcases t.1 with rfl|rfl
  ·exact(Y w h).1 _ L.fd
  ·exact(Y w h).1 _ L.wg
 have hJ:∀(S X:Nat->Prop) (w w2 w1:ah) (es:Array bt) (S1 X1:Nat->Prop),((∀a,RO a->S a)/\¬S E.Mp/\¬X E.Mp/\(∀a,RO a->¬X a)/\Fx w)->gU E.U S w w2->Did S X w2 w1 es S1 X1->((∀a,RO a->S1 a)/\¬S1 E.Mp/\¬X1 E.Mp/\(∀a,RO a->¬X1 a)/\Fx w1):=by
  rintro S X w w2 w1 es S1 X1 ⟨j1,j2,j3,j4,j5⟩ hr hd;have B:=K.rely S _ _ j1 j5 hr;refine⟨fun a M=>(hd.held a).2 (.inl (j1 a M)),fun y=>?_,fun y=>?_,fun a M y=>?_,K.rely RO _ _ (fun _ h=>h) B ⟨fun a M=>.inl (hd.kept a ((Y _ B).1 a M) (j4 a M)),hd.grow,hd.env⟩⟩
  ·rcases(hd.held _).1 y with z|z
   ·exact j2 z
   ·have:=(Y _ B).2;omega
  ·rcases(hd.may _).1 y with z|z
   ·exact j3 z
   ·have:=(Y _ B).2;omega
  ·rcases(hd.may _).1 y with z|z
   ·exact j4 a M z
   ·have:=(Y _ B).1 a M;omega
 have s:∀b,Kp By Rf Sg Fp b->some b≠(none:Option Nat):=fun b _ e=>by cases e
 have p1:=piece (U:=E.U) (cs:=cs) (S:=S) (X':=X') Zu ae6 (G.W (ow:=none) oq s (fun g e=>by cases e))
  (R:=fun a' v=>∃T val,a'=nK x By Rf Sg Fp val (uA By k q st x X P (jI X P k st x) val)/\v.ownsRow w1.heap.size 173 2 val (lE (jI X P k st x) P k).length (jU (lE (jI X P k st x) P k))/\Go.RowKit.Below w1.heap.size (tp (rU none w1) T) v)
  (fun T=>by
   have m:(tp (rU none w1) T).heap.size=w1.heap.size:=H9;have h:=ags x By Rf Sg Fp k q st X P (tp (rU none w1) T) (G.reads s T) hX hP hk hs UE BW;rw[m]at h;refine cS (fun e a w' p=>?_) h;obtain⟨I,val,rfl,O,h3⟩:=p;exact⟨I,rfl,T,val,rfl,O,h3⟩)
  (@ag8 (gl By Rf Sg Fp oq) _ x By Rf Sg Fp (@rp (gl By Rf Sg Fp oq) _ _ (.inl (.inl rfl))) (@rp (gl By Rf Sg Fp oq) _ _ (.inl (.inr (.inl rfl)))) (@rp (gl By Rf Sg Fp oq) _ _ (.inl (.inr (.inr (.inl rfl))))) (@rp (gl By Rf Sg Fp oq) _ _ (.inl (.inr (.inr (.inr rfl))))))
  (fun b b' i e t=>by
   obtain⟨I,rfl⟩:=(@wW (gl By Rf Sg Fp oq) _ _ _).1 e;exact absurd t (hKU b (I.resolve_right fun y=>by cases y) i))
  (zX w1 H)
  (fun b d=>L.ro b (F b (((@xf (gl By Rf Sg Fp oq) _ _).1 d).resolve_right fun y=>by cases y)))
  (fun b d=>by
   obtain⟨I,O⟩:=(@Iv (gl By Rf Sg Fp oq) _ _).1 d;exact absurd (I.resolve_right fun y=>by cases y) O)
 refine(p1.inv _ hJ ⟨L.ro,L.mp,L.mpx,L.mR,H⟩).bind fun S1 X1 g w2 hd=>?_;obtain⟨⟨r,a',t',v,hle,hWr,UF,hX1,⟨T0,val,rfl,V,aks⟩,Z,hva,rfl⟩,hj⟩:=hd;clear p1;refine aj 1 fun w3 N=>?_;rw[cp1];have BX:Fx w3:=K.rely S1 _ _ hj.1 hj.2.2.2.2 N;have hW3:=@Ren.W.rely (gl By Rf Sg Fp oq) _ _ _ _ _ _ hWr Z ⟨fun a M=>N.kept a ((UF a).2 (.inl M)),N.grow,N.env⟩;have lB:By<w1.heap.size:=(Y w1 H).1 _ (F _ (.inl rfl));have lR:Rf<w1.heap.size:=(Y w1 H).1 _ (F _ (.inr (.inl rfl)));have lS:Sg<w1.heap.size:=(Y w1 H).1 _ (F _ (.inr (.inr (.inl rfl))));have gF:(jI X P k st x).size<=300:=by unfold jI;rw[ByteArray.size_extract];omega
 have hL:(lE (jI X P k st x) P k).length<=1000:=bD (Cz _ _ _ _) (by omega);have hL2:∀h∈lE (jI X P k st x) P k,h.1<=1000:=fun h p=>bD (G4 _ _ _ _ h p) (by omega);have hgB:∀g,val.ownBlock=some g->g≠By:=fun g hg e=>by
  have:=(V.lt g hg).1;omega
 have p2:=piece (U:=E.U) (cs:=cs) (S:=S1) (X':=X1) Zv ae7 (Jv (Sq By Rf Sg Fp oq tU) hW3)
  (R:=fun a' v2=>∃u2,a'=nK x By Rf Sg Fp val u2/\v2.ownsRow w1.heap.size 173 2 val (lE (jI X P k st x) P k).length (jU (lC X P k st x)))
  (fun T=>by
   have h:=agt x By Rf Sg Fp k q st X P (lE (jI X P k st x) P k) val (uA By k q st x X P (jI X P k st x) val) w1.heap.size (tp v T) (Reads.later (G.reads s T0) aks lB lR lS T) hgB hL hL2 (by omega) (by omega) BW V;refine cS (fun e a w' p=>?_) h;obtain⟨I,u2,rfl,O⟩:=p;exact⟨I,rfl,u2,rfl,O⟩)
  (uT (Sq By Rf Sg Fp oq tU) hva) (fun b b' i e t=>Z b b' i e t) (zX w3 BX) (fun b d=>(UF b).2 (.inl d)) (fun b d=>(hX1 b).2 (.inl d))
 refine(p2.inv _ hJ ⟨hj.1,hj.2.1,hj.2.2.1,hj.2.2.2.1,BX⟩).bind fun S2 X2 g w4 hd=>?_;obtain⟨⟨r2,a2,t2,v2,akt,aku,hS2,hX2,⟨u2,rfl,u⟩,ai7,J,rfl⟩,A⟩:=hd;clear p2
 letI:=gl By Rf Sg Fp tU
 have LN:r2 Fp=some Fp:=akt _ _ (hle _ _ (@rp (gl By Rf Sg Fp oq) _ _ (.inl (.inr (.inr (.inr rfl))))));obtain⟨y4,e4,hv4⟩:=J.get (i:=4) (x:=ptr Fp) rfl;obtain rfl:=ai6 hv4 LN;obtain⟨y6,e6,UG⟩:=J.get (i:=6) (x:=val) rfl;have m:t2.size=39:=J.size.symm;have UH:E.zy RO S2 X2:=⟨A.1,A.2.1,A.2.2.1,L.fd,L.wg,A.2.2.2.1⟩;have f:(lC X P k st x).length=(lE (jI X P k st x) P k).length:=yw _ _ _;have UI:∀sl,y6=sl->lN 138 39 tU (sA (EE Fp sl)) ⟨138,t2,tU,[],.run,.normal,none⟩:=fun sl e=>by
  subst e;refine⟨rfl,rfl,rfl,rfl,rfl,rfl,m,fun i y hy=>?_⟩;unfold sA EE at hy;by_cases h4:i=4
  ·subst h4;cases hy;show t2.getD 4 ax=_
   rw[cL,e4];rfl
  ·by_cases h6:i=6
   ·subst h6;cases hy;show t2.getD 6 ax=_
    rw[cL,e6];rfl
   ·have b4:(i==4)=false:=by simpa using h4
    have b6:(i==6)=false:=by simpa using h6
    simp[List.lookup,b4,b6]at hy
 rcases u.2 with⟨ev,en⟩|⟨g,cap,cur,ev,hg,p,hnc,BH,LS,zY⟩
 ·subst ev;cases UG;exact C S2 X2 _ w4 none 0 0 UH A.2.2.2.2 (UI _ rfl) ⟨by rw[f,en],.inl ⟨rfl,rfl⟩⟩
 ·subst ev;cases UG with
  |@slice a a' l c ad=>
   obtain⟨I,O,h3⟩:=ad;obtain⟨g',o',s'⟩:=a';simp only at I O h3;subst O h3;obtain⟨o,o',ho,ho',hob⟩:=aku.obj g g' I;have Q:¬Kp By Rf Sg Fp g:=fun y=>by
    have:=(Y w1 H).1 g (F g y);omega
   cases hob with
   |ro e n _ _=>exact absurd n Q
   |same n hO=>
    rw[p]at ho;cases ho;cases hO with
    |cells e fz hv=>
     exact C S2 X2 _ w4 (some ⟨g',0,none⟩) _ cap UH A.2.2.2.2 (UI _ rfl) ⟨f.symm,.inr ⟨g',_,rfl,(hS2 g').2 (.inl ⟨g,I⟩),(hX2 g').2 (.inl ⟨g,I,Q⟩),fun i t=>(ai7 g g' i I t).2,ho',ae9 hv (Zw _) (by rw[Xx,f]) zY⟩⟩
end
section
variable{P:aK}{main:Bool}{U:Nat->Nat->Prop}{D:(Nat->Prop)->(Nat->Prop)->ai->ah->Prop}{S X:Nat->Prop}
abbrev RU(U:Nat->Nat->Prop)(S:Nat->Prop):=gU U S
abbrev DU(U:Nat->Nat->Prop)(S X:Nat->Prop):=fun w w1 es=>kz U S X w w1 es S X
theorem jH:Terms (RU U S) (DU U S X):=⟨fun _ _ _ h k=>h.trans k,fun w=>js _ _ _⟩
theorem Tz.S7{Stop:ai->ah->Prop}(k:∀g w,Stop g w->Tz P main U D S X g w):∀n {g:ai} {w:ah},Goes P main (RU U S) (DU U S X) Stop n g w->Tz P main U D S X g w
 |0,g,w,h=>k g w (h w (.refl _ _ _))
 |n+1,g,w,h=>by
  rcases h with h|⟨K,h⟩
  ·exact k g w (h w (.refl _ _ _))
  ·refine Tz.one K fun w2 hr=>?_;have gF:=h w2 hr;revert gF;generalize aH P _ g w2=s;intro gF;cases s with
   |go Y w' es=>exact⟨Y,w',es,S,X,rfl,gF.1,Tz.S7 k n gF.2⟩
   |_=>exact gF.elim
theorem Tz.wpC{c:Code}{a:Act}{M:Act->ah->Prop}(h:c.wpC P main (RU U S) (DU U S X) fn n (fun e a' w'=>e=.normal/\M a' w') a w){b:ae}(H:b.fn=fn)(hk:b.kind≠.early){k:List _}{cs:List _}
  (cont:∀a' w0 w',M a' w0->gU U S w0 w'->Tz P main U D S X (G (b.at a' k) cs) w'):Tz P main U D S X (G (b.at a (.code c::k)) cs) w:=by
 refine Tz.S7 (Stop:=fun g w'=>∃a' w0,g=G (b.at a' k) cs/\M a' w0/\gU U S w0 w') (fun g w' R=>?_) _ (h b k cs _ 0 H hk fun e a' w' A=>?_)
 ·obtain⟨a',w0,rfl,Y,K⟩:=R;exact cont a' w0 w' Y K
 ·obtain⟨rfl,I⟩:=A;exact fun w1 hr=>⟨a',w',rfl,I,hr⟩
end
end Ph
end
end Go.Proofs.YtdcjnhipenbcfaaGreatDoor
