/-
  Own text. Part 3 of what the claim rests on.
-/
import Derived.Test.YtdcjnhipenbcfaaGreatDoorPk2
import Derived.Conc.QuitsD
import Derived.Laws.Bits64
import Derived.Test.YtdcjnhipenbcfaaGreatDoorProg
import Derived.Conc.CompanyMem
set_option linter.unusedVariables false
set_option linter.unusedSectionVars false
set_option linter.unusedSimpArgs false
set_option maxRecDepth 100000
set_option maxHeartbeats 16000000
open Array renaming getElem?_setIfInBounds_self_of_lt->aI,mem_of_getElem?->bk,all_eq_true_iff_forall_mem->bC,getElem?_eq_getElem->bN,getElem?_eq_some_iff->bO,getElem?_map->bP,getElem?_push->ck,append_empty->cD,empty_append->cE,getD_eq_getD_getElem?->cG,getElem?_eq_none->cH,getElem?_setIfInBounds_ne->cI,mem_append->cJ,mem_iff_getElem->cK
open Bool renaming and_eq_true->aJ,not_eq_true'->cm,or_eq_true->cn
open Classical renaming byContradiction->cL
open Go renaming Frame->ae,Value->af,World->ah,Goroutine->ai,FuncId->au,undef->ax,stepG->aA,TypeId->aB,Program->aH,execOp->aK,TypeInfo->aL,Trace->aQ,Operand->aT,deafBehind->bg,mayWake->bj,Deferred->bm,Event->bp,TypeDesc->bB,MemOp->bE,CallKind->bQ,cell_of_row->bT,Tables->bZ,partners->cf,sizeOf->cg,typeInfo->cj,run_underlying->dk
open Go.Code renaming wp_mono->cM
open Go.Conc renaming crowd->ao,woken->aD,Deaf_own->aM,awake_of->aU,Deaf_other->aV,QuitsD->bc,closeEvents->bJ,offersAt_of_not_blocked->bK,rcase->bL,runT_crowd_go->bM,getElem?_stand->b_,deafStep->cz,offersAt->cA,offersAt_parked_recv->cB,seen_none->cC,finishComm_recv->db,finishComm_send->dc,offersAt_parked_recv'->de,offersAt_parked_send->dh,partners_nil->di,partners_one->dj,woken_quitsD->dp
open Go.Extern.Atomic renaming casT->cO,loadT->cP,storeT->cQ,update->cR
open Go.Extern.Race renaming marked->bU,none_->bV
open Go.Extern.Sync renaming semacquire->cS,semrelease->cT
open Go.Instr renaming indexAt->cU
open Go.IntKind renaming i64->aX,i32->bR,wrap_u64->cV
open Go.Made renaming reckon->bD,reckonStruct->bS,infoAt->bX
open Go.MemAct renaming ofEvent->aW,touch?->cx
open Go.MemOp renaming ofEvents->ak
open Go.Proofs.Tryz renaming prog->aO
open Go.Proofs.YtdcjnhipenbcfaaGreatDoor.Ph.Tz renaming pure->aj
open Go.Proofs.YtdcjnhipenbcfaaGreatDoor.Ph.im renaming closes->bh
open Go.Tables renaming info?->da
open Go.World renaming setChan->bI
open List renaming getD_eq_getElem?_getD->aY,range->aZ,mem_cons->bq,mem_toArray->br,not_mem_nil->bt,all_eq_true->bW,getElem?_eq_getElem->cu,lookup_cons->cv,mem_range->cw,getElem?_eq_none->cW,getElem?_eq_some_iff->cX,getElem?_take->cY,mem_of_getElem?->cZ
open Nat renaming le_refl->ar,zero_le->ay,lt_of_lt_of_le->aN,le_of_lt->aP,not_lt_zero->a_,le_of_eq->bu,le_trans->bA,le_add_right->bF,lt_of_not_le->bG,strongRecOn->bH,eq_zero_or_pos->cy
open Option renaming bind_eq_some_iff->az,map_eq_some_iff->bY
open Option.some renaming injEq->c9
open Prod.mk renaming injEq->c_
namespace Go.Proofs.YtdcjnhipenbcfaaGreatDoor
noncomputable section
variable {ad:Addr}{es:Array bp}{tmps:Array af}{aw main rd:Bool}{e:bp}{f:ae}{fn:au}{g0 g1 gk gx:ai}{ds:List bm}{cs l:List ae}{site todo:List Item}{jQ ks:List Nat}{Wg c' cc f' i i0 it k m n s v' gV wt gY:Nat}{XX vg jy:Nat->Nat->Prop}{RO S S1 X1:Nat->Prop}{o:Obj}{y:aT}{ow tok ju:Option Nat}{d:aB}{u v v8 work:af}{w:ah}
namespace Ph
open Conc Ren
open Lock (Word PC Mv bn iH bw dw)
open ConcN (sumTo upd sumTo_upd upd_ne upd_same)
def nG{E:Env}:gN E->Nat
 |.gP _ n=>n
 |.qt q=>q
 |_=>0
def py:Md->Nat
 |.run=>1
 |.jM=>1
 |_=>0
def pz{E:Env}:gN E->Nat
 |.at _ md=>py md
 |_=>0
namespace gD
variable(Q:gD)
def nu(C:iw Q.E)(q:Nat->Nat):=10 *(sumTo Q.b q+sumTo Q.J.n (fun k=>nG (C.ks k)))+(py C.dm+sumTo Q.J.n (fun k=>pz (C.ks k)))
def Df(C:iw Q.E)(fu:Nat->Nat)
 |0=>Q.DS (fu 0) C.d
 |k+1=>match C.ks k with
  |.at pc _=>Q.WS (Q.ch C k) (fu (k+1)) pc
  |_=>fun _ _ _ _=>True
def jr(C:iw Q.E)(nd:Nat->Nd)(fu:Nat->Nat)(q:Nat->Nat)(m:Machine)(t:aQ):=∃C' Y K nW w' H D jD,m=ao nW w' H/\CI Q.J Q.gK C'/\Calm Q.J C'/\Q.MI C' Y K nW w' t D jD/\
 (mu Q.J C'<mu Q.J C\/(mu Q.J C'=mu Q.J C/\Q.Df C' K=Q.Df C fu/\(Down (fun i=>Nx Q.P (i==0) Q.E.U (Q.Df C fu i)) (Q.J.n+1) Y nd\/(Y=nd/\Q.nu C' D<Q.nu C q))))
end gD
section
variable{Q:gD}{nd:Nat->Nd}{fu:Nat->Nat}{C C':iw Q.E}{w w':ah}{gs nW:Array ai}{t t':aQ}{q:Nat->Nat}{rel jD:Nat->Option Nat}{sl:Option (Nat×Nat)}
theorem ta{α:Type}(f:Nat->α)(i:Nat):upd f i (f i)=f:=by
 funext k;unfold upd;simp_all
theorem adY:Q.Df (C.oG Q.J) fu=Q.Df C fu:=by
 funext i;cases i with
 |zero=>rfl
 |succ k=>
  exact vN (fun s=>match s with|.at pc _=>Q.WS (Q.ch C k) (fu (k+1)) pc|_=>fun _ _ _ _=>True) (fun _ _ _=>rfl) _ _
theorem qo{Y H:iw Q.E}(h:H=Y\/H=Y.oG Q.J):mu Q.J H=mu Q.J Y/\Q.Df H fu=Q.Df Y fu:=by
 rcases h with rfl|rfl
 ·simp
 ·exact⟨Qp,adY⟩
theorem pF{w1:ah}{ops:Array _}(h:∀op∈t,Seen w.heap.size op)(Y:w.heap.size<=w1.heap.size)(H:∀op∈ops,Seen w1.heap.size op):∀op∈t++ops,Seen w1.heap.size op:=by
 intro op gu;rcases cJ.1 gu with y|y
 ·exact⟨MemAct.low_mono Y (h op y).1,(h op y).2⟩
 ·simp_all
theorem ab3(Y:Q.Laws)(nd:Nat->Nd)(j:Nat)(L:List Nat):∀l,Q.cls nd j L l=.at->Q.iU l:=fun l h=>Y.Ki l (Ps h)
theorem gD.MI.R9(M:Q.MI C nd fu gs w t q rel)(N:Q.Laws)(H:i<=C.j){es:Array _}{F:Nd}{w1:ah}(hd:jY Q.E.U (nd i).S (nd i).X w w1 es F.S F.X)(fn:au)(pos:String)(hr:gi Q.b i≠0->rel (gi Q.b i)=none):
  PT Q.b C.j Q.E.mu Q.E.st Q.iU (Q.cls (upd nd i F) C.j C.L) (t++ak (gi Q.b i) fn pos es) (C.tok.map (Q.b+ ·)) rel:=by
 have Y:=M.gZ;have R:=Y.did H hd;have J:=gD.af4 Y H hd;have low:∀k x,touchAt t k=some x->x.loc.low w.heap.size:=by
  intro k x A;obtain⟨op,P,B⟩:=touch_of A;exact W4 (M.seen op (bk P)).1 B
 have D:=M.tr.fresh (fun k x A=>NC J (low k x A)) On (ab3 N _ _ _);refine D.app (g:=gi Q.b i) ?_ ?_ ?_
 ·cases i with
  |zero=>exact .inl rfl
  |succ k=>exact .inr ⟨bF _ _,by show Q.b+k<Q.b+C.j;omega⟩
 ·refine ab0 hd _ _ (fun a K=>?_) (fun a K=>ab2 K) (fun a D O=>?_)
  ·have I:=Y.low i H a K;have e:Q.cls _ C.j C.L _=Q.cls nd C.j C.L (.obj a):=NC J I;rw[e];exact Y.held N.rm H K
  ·have:=R.own H (by rw[upd_same];exact(hd.may a).2 (.inr ⟨D,O⟩)) (fun e=>by have:=Y.tO;omega);exact this
 ·simp_all
theorem gD.MI.xl(M:Q.MI C nd fu gs w t q rel)(hk:k<C.j){pc:Q.E.kv}{md:Md}(e:C.ks k=.at pc md):rel (Q.b+k)=none:=by
 cases hr:rel _ with
 |none=>rfl
 |some p=>
  have:=(M.pg k hk).1 ⟨p,hr⟩;rw[e]at this;exact this.elim
theorem pO{g:Nat}{pos:String}{es:Array _}:∀op∈ak g fn pos es,op.g=g:=fun op gu=>by
 obtain⟨e,_,rfl⟩:=pJ gu;rfl
theorem gD.MI.ahF(M:Q.MI C nd fu gs w t q rel)(R:Q.Laws)(h:CI Q.J Q.gK C)(H:Calm Q.J C)(hk:k<C.j){pc:Q.E.kv}(e:C.ks k=.at pc .run){w1:ah}{es:Array _}(hn:¬Q.WS (Q.ch C k) (fu (k+1)) pc (nd (k+1)).S (nd (k+1)).X (nd (k+1)).g (nd (k+1)).w)
  (gj:aA Q.P false (nd (k+1)).g w=.go g1 w1 es)(hd:jY Q.E.U (nd (k+1)).S (nd (k+1)).X w w1 es S1 X1)(W:Tz Q.P false Q.E.U (Q.WS (Q.ch C k) (fu (k+1)) pc) S1 X1 g1 w1)(fn:au)(pos:String):
  Q.jr C nd fu q (ao ((gs.map (aD Q.P (nd (k+1)).g g1 w1)).setIfInBounds (Q.b+k) g1) w1 sl) (t++ak (Q.b+k) fn pos es):=by
 have V:=R.b0;have B:Q.b+k<gs.size:=by rw[M.size];omega
 have Y:=hk;have M1:Q.MI C (upd nd (k+1) ⟨S1,X1,g1,w1⟩) (upd fu (k+1) (fu (k+1))) (gs.setIfInBounds (Q.b+k) g1) w1 (t++ak (Q.b+k) fn pos es) q rel:=by
  refine M.Be V hk rfl rfl rfl rfl (fun _ _=>rfl) rfl ?_ (fun i A I=>Pv M.gZ Y A (fun y=>I y.symm) hd) (.refl _ _ _) (M.fuel _ Y) (ar _) (M.gZ.did Y hd) (M.wd.did M.gZ R h.len Y hd) ?_ (fun G=>?_) (fun g Z=>aV t (fun y=>Z y.symm) _ pO) (M.pg k hk) (fun _ _=>rfl) (pF M.seen hd.grow (Pu hd (M.gZ.low _ Y) _))
  ·rw[e];exact⟨aI B,W,fun y=>absurd rfl y⟩
  ·exact M.R9 R Y hd fn pos (fun _=>M.xl hk e)
  ·rw[aM,Pt hd];exact M.mV k hk G
 rw[ta]at M1;obtain⟨F,T,D,K,L⟩:=gD.MI.finish R h M1 (.inl H) H.pf;obtain⟨N,O⟩:=qo T;refine⟨F,_,_,_,_,sl,_,_,rfl,D,K,L,.inr ⟨N,O,.inl ⟨k+1,by have:=h.jn;omega,?_,fun i _ A=>upd_ne _ _ A⟩⟩⟩;rw[upd_same];refine⟨?_,w,es,M.nV _ Y,gj,hd⟩;unfold gD.Df;simp_all
theorem gD.MI.gm(M:Q.MI C nd fu gs w t q rel)(W:Q.Laws)(hk:k<C.j)(h:C'.j=C.j)(G:C'.L=C.L)(hd:C'.d=C.d)(F:C'.dm=C.dm)(N:∀i,i≠k->C'.ks i=C.ks i){w1:ah}{ops:Array _}
  (V:Q.tN (Q.ch C k) (gs.setIfInBounds (Q.b+k) g1) (t++ops) k ⟨(nd (k+1)).S,(nd (k+1)).X,g1,w1⟩ f' (C'.ks k))(rl:∀S,gI Q.E.U S w w1)(Z:w1.heap.size=w.heap.size)(mf:mu Q.J C'<=f')(O:mu Q.J C'<=mu Q.J C)(tok:C'.tok=C.tok)(wd:Q.Wd C' w1)
  (tr:PT Q.b C.j Q.E.mu Q.E.st Q.iU (Q.cls nd C.j C.L) (t++ops) (C.tok.map (Q.b+ ·)) jD)(own:∀op∈ops,op.g=Q.b+k)(R:(∀q,C'.ks k≠.qt q)->Deaf (t++ops) (Q.b+k)=AQ (C'.ks k))(Y:(∃p,jD (Q.b+k)=some p)↔gD.xk (C'.ks k))(H:∀i,i≠k->jD (Q.b+i)=rel (Q.b+i))(low:∀op∈ops,Seen w.heap.size op):
  Q.MI C' (upd nd (k+1) ⟨(nd (k+1)).S,(nd (k+1)).X,g1,w1⟩) (upd fu (k+1) f') (gs.setIfInBounds (Q.b+k) g1) w1 (t++ops) q jD:=by
 refine M.Be W.b0 hk h G hd F N rfl V (fun i D _=>rl _) (.refl _ _ _) mf O ?_ wd ?_ R (fun g K=>aV t (fun y=>K y.symm) _ own) Y H (pF M.seen (bu Z.symm) (by simp_all))
 ·rw[Z,tok];exact M.gZ.same rfl rfl
 ·unfold gD.cls;rw[gD.CS (n':=⟨(nd _).S,(nd _).X,g1,w1⟩) rfl,tok];exact tr
theorem tX(g:Nat)(fn:au)(pos:String)(m:Mark):ak g fn pos #[⟨.mark m,false,true⟩]=#[{g,fn,pos,act:=.mark m}]:=by simp[ak,aW]
theorem gD.MI.Io(M:Q.MI C nd fu gs w t q rel){g:Nat}(Y:g<Q.b+C.j)(fn:au)(pos:String){m:Mark}(H:m=.disable\/m=.enable):PT Q.b C.j Q.E.mu Q.E.st Q.iU (Q.cls nd C.j C.L) (t++ak g fn pos #[⟨.mark m,false,true⟩]) (C.tok.map (Q.b+ ·)) rel:=by
 rw[tX];refine M.tr.still (l_ ?_);rcases H with rfl|rfl<;>exact⟨rfl,nofun,nofun,Y⟩
theorem tc{g B:Nat}{pos:String}{m:Mark}(Y:(MemAct.mark m).low B/\∀a,m≠.release a):∀op∈ak g fn pos #[⟨.mark m,false,true⟩],Seen B op:=by
 rw[tX];exact l_ ⟨Y.1,fun a e=>Y.2 a (MemAct.mark.inj e)⟩
theorem ND(h:e.mute=true)(a:Addr):aW e≠.mark (.release a):=by
 intro y;obtain⟨loc,wr,Y⟩:=e;cases loc<;>simp_all[Event.mute,aW]
theorem th(H:Calm Q.J C){s':gN Q.E}(F:∀pc,s'≠.at pc .blk)(L:∀pc,s'≠.at pc .gU){m':Word}{kH:Q.E.Γ}(R:C.c=0->c'=0)(hw:C.dm=.blk->C.ws=0->gV=0):Calm Q.J (C.wk k s' C.d C.dm m' c' v' gY gV kH jQ ju):=by
 refine⟨fun i pc Y=>?_,fun i pc Y=>?_,fun hd=>hw hd (H.Jp hd),fun i hd K pc Y=>?_⟩
 ·change upd _ k s' i=_ at Y;by_cases e:i=k
  ·subst e;rw[upd_same]at Y;simp_all
  ·rw[upd_ne _ _ e]at Y;exact R (H.blk i pc Y)
 ·change upd _ k s' i=_ at Y;by_cases e:i=k
  ·subst e;rw[upd_same]at Y;simp_all
  ·rw[upd_ne _ _ e]at Y;exact H.gU i pc Y
 ·change upd _ k s' _=_ at Y;by_cases e:i%Q.J.n=k
  ·rw[e,upd_same]at Y;simp_all
  ·rw[upd_ne _ _ e]at Y;exact H.pf i hd K pc Y
theorem gD.MI.Dt(M:Q.MI C nd fu gs w t q rel)(F:Q.Laws)(h:CI Q.J Q.gK C)(L:Calm Q.J C){f:Nat}(hk:k<C.j){pc Y:Q.E.kv}(e:C.ks k=.at pc .run)(hf:fu (k+1)=f+1){m:Mark}(O:m=.disable\/m=.enable)(ht:Q.E.Tree Q.P false (Q.WS (Q.ch C k) f Y) (nd (k+1)).S (nd (k+1)).X g1 w)(fn:au)(pos:String)
  (hl:oO Y=oO pc)(G:∀y,qD y Y=qD y pc)(n1:∀γ,pc≠.ur γ)(n2:∀γ,Y≠.ur γ)(n3:Y≠.wr)(qP:∀p x,Y=.lk p x->iH p=2)(oP:∀p,Y=.un p->iH p=0/\p≠.out)(hr:qe Y<qe pc)(N:uI Y=bg (uI pc) #[⟨.mark m,false,true⟩]):
  Q.jr C nd fu q (ao ((gs.map (aD Q.P (nd (k+1)).g g1 w)).setIfInBounds (Q.b+k) g1) w sl) (t++ak (Q.b+k) fn pos #[⟨.mark m,false,true⟩]):=by
 have A:Q.b+k<gs.size:=by rw[M.size];omega
 have I:k<Q.J.n:=aN hk h.jn;have U:¬Gone (.at Y .run:gN Q.E):=fun y=>by
  cases Y with
  |wr=>exact n3 rfl
  |_=>exact y.elim
 have V:CI Q.J Q.gK (C.w1 k (.at Y .run)):=h.quiet hk e hl G n1 n2 ⟨nofun,fun y=>by rcases y with y|y<;>cases y⟩ (fun y=>absurd y U) qP oP;have D:mu Q.J (C.w1 k (.at Y .run))<mu Q.J C:=Ds F.n8 h.c1 I e hr;have us:(C.w1 k (.at Y .run)).ks k=.at Y .run:=upd_same _ _ _;have M1:=M.gm (C':=C.w1 k (.at Y .run)) (f':=f) (g1:=g1) (w1:=w) (jD:=rel) F hk rfl rfl rfl rfl (fun i W=>upd_ne _ _ W) (by
   rw[us];exact⟨aI A,ht,fun y=>absurd rfl y⟩) (fun S=>.refl _ _ _) rfl (by have:=M.fuel (k+1) hk;omega) (aP D) rfl (M.wd.cfg rfl rfl rfl rfl rfl (fun e=>⟨e,rfl⟩) rfl rfl rfl)
   (M.Io (by omega) fn pos O) pO (fun _=>by
   rw[us,aM,M.mV k hk (fun q y=>by rw[e]at y;cases y),e];exact N.symm) (by
   rw[us,M.xl hk e];exact⟨(fun⟨p,z⟩=>by cases z),fun y=>y.elim⟩) (fun _ _=>rfl) (tc (by rcases O with rfl|rfl<;>exact⟨trivial,nofun⟩))
 have K:Calm Q.J (C.w1 k (.at Y .run)):=th (s':=.at Y .run) (k:=k) (m':=C.m) (c':=C.c) (v':=C.v) (gY:=C.wt) (gV:=C.ws) (kH:=C.γ) (jQ:=C.dn) (ju:=C.tok) L nofun nofun id fun _ y=>y;obtain⟨B,Z,R,H,T⟩:=gD.MI.finish (g:=(nd (k+1)).g) F V M1 (.inl K) K.pf;exact⟨B,_,_,_,_,sl,_,_,rfl,R,H,T,.inl (by rw[(qo (fu:=fu) Z).1];exact D)⟩
theorem gD.MI.Kj(M:Q.MI C nd fu gs w t q rel)(R:Q.Laws)(h:CI Q.J Q.gK C)(F:Calm Q.J C){f:Nat}(hk:k<C.j){pc Y:Q.E.kv}(e:C.ks k=.at pc .run)(hf:fu (k+1)=f+1){w1:ah}{m':Word}(ht:Q.E.Tree Q.P false (Q.WS (Q.ch C k) f Y) (nd (k+1)).S (nd (k+1)).X g1 w1)(fn:au)(pos:String)
  (hm:Q.E.MuAt w1 m' c')(Z:Env.Eff Q.E.Fd w w1)(H:Env.EvA Q.E.Fd es)(hw:C.c<c'->bj Q.P (nd (k+1)).g=true)(O:CI Q.J Q.gK (C.mv k Y m' c'))(N:mu Q.J (C.mv k Y m' c')<mu Q.J C)(V:uI Y=uI pc):
  Q.jr C nd fu q (ao ((gs.map (aD Q.P (nd (k+1)).g g1 w1)).setIfInBounds (Q.b+k) g1) w1 sl) (t++ak (Q.b+k) fn pos es):=by
 have W:Q.b+k<gs.size:=by rw[M.size];omega
 have us:(C.mv k Y m' c').ks k=.at Y .run:=upd_same _ _ _;have G:g1.status=.running:=by
  have T:mu Q.J (C.mv k Y m' c')<=f:=by have:=M.fuel (k+1) hk;omega
  exact sZ ht fun y=>(vt R (aN (Ri _ _) T) y).1
 have M1:=M.gm (C':=C.mv k Y m' c') (f':=f) (g1:=g1) (w1:=w1) (ops:=ak (Q.b+k) fn pos es) (jD:=rel) R hk rfl rfl rfl rfl (fun i K=>upd_ne _ _ K) (by
   rw[us];exact⟨aI W,ht,fun y=>absurd rfl y⟩) (fun S=>Qt S M.wd.mu hm Z) Z.size (by have:=M.fuel (k+1) hk;omega) (aP N) rfl ((M.wd.mv R M.gZ h.len Z hm).cfg rfl rfl rfl rfl rfl (fun e=>⟨e,rfl⟩) rfl rfl rfl)
   (M.tr.app (.inr ⟨bF _ _,by omega⟩) (G8 H (.inl rfl) _) (fun _ p D=>by rw[M.xl hk e]at D;cases D)) pO (fun _=>by
   rw[us,aM,CE H,M.mV k hk (fun q y=>by rw[e]at y;cases y),e];exact V.symm) (by
   rw[us,M.xl hk e];exact⟨(fun⟨p,D⟩=>by cases D),fun y=>y.elim⟩) (fun _ _=>rfl) (G9 H (M.gZ.nN _ R.rf) _)
 have I:Calm Q.J (C.mv k Y m' c')\/(bj Q.P (nd (k+1)).g=true/\(g1.status=.running\/g1.status=.finished)):=by
  by_cases r:C.c<c'
  ·exact .inr ⟨hw r,.inl G⟩
  ·exact .inl (th (s':=.at Y .run) (k:=k) (m':=m') (c':=c') (v':=C.v) (gY:=C.wt) (gV:=C.ws) (kH:=C.γ) (jQ:=C.dn) (ju:=C.tok) F nofun nofun (fun y=>by omega) fun _ y=>y)
 have D:∀i,(C.mv k Y m' c').dm=.gU->(C.mv k Y m' c').d=.send (C.mv k Y m' c').L i->∀pc,(C.mv k Y m' c').ks (i%Q.J.n)≠.at pc .gU:=by
  intro i O U z K;change upd C.ks k _ _=_ at K;by_cases e:i%Q.J.n=k
  ·rw[e,upd_same]at K;cases K
  ·rw[upd_ne _ _ e]at K;exact F.pf i O U z K
 obtain⟨l,U,B,A,o⟩:=gD.MI.finish (g:=(nd (k+1)).g) R O M1 I D;exact⟨l,_,_,_,_,sl,_,_,rfl,B,A,o,.inl (by rw[(qo (fu:=fu) U).1];exact N)⟩
end
end Ph
namespace Ph
open Conc Ren
open Lock (Word PC Mv bn iH bw dw)
open ConcN (sumTo upd sumTo_upd upd_ne upd_same sumTo_congr sumTo_le le_sumTo)
section
variable{Q:gD}{nd:Nat->Nd}{fu:Nat->Nat}{C C':iw Q.E}{w w':ah}{gs nW:Array ai}{t t':aQ}{q:Nat->Nat}{rel jD:Nat->Option Nat}{sl:Option (Nat×Nat)}
theorem ab4{E:Env}{b:Nat}(H:¬RO E.Mp)(h:∀i a,a≠E.Mp->(vg i a↔XX i a)):mU E RO b vg=mU E RO b XX:=by
 have Y:∀a,mm E RO b vg a=mm E RO b XX a:=fun a=>by
  by_cases e:a=E.Mp
  ·subst e;rw[HA H,HA H]
  ·exact GH fun i=>h i a e
 funext l;cases l with
 |cell a=>simp[mU,Y]
 |obj a=>exact Y a
 |_=>rfl
theorem gD.Sets.turn{j:Nat}{L:List Nat}{B:Nat}(h:Q.Sets nd j L tok B)(hk:k<j){H:Nd}(Z:∀a,a≠Q.E.Mp->(H.S a↔(nd (k+1)).S a))(hX:∀a,a≠Q.E.Mp->(H.X a↔(nd (k+1)).X a))(F:H.S Q.E.Mp↔H.X Q.E.Mp)(W:H.S Q.E.Mp->ju=some k)(ho:∀i,i<=j->i≠k+1->¬(nd i).S Q.E.Mp)(M:¬Q.RO Q.E.Mp):Q.Sets (upd nd (k+1) H) j L ju B:=by
 have us:upd nd (k+1) H (k+1)=H:=upd_same _ _ _;have un:∀i,i≠k+1->upd nd (k+1) H i=nd i:=fun i Y=>upd_ne _ _ Y;have R:∀i a,a≠Q.E.Mp->((upd nd (k+1) H i).S a↔(nd i).S a):=fun i a J=>by
  by_cases e:i=k+1
  ·subst e;rw[us];exact Z a J
  ·rw[un i e]
 have U:∀i a,a≠Q.E.Mp->((upd nd (k+1) H i).X a↔(nd i).X a):=fun i a J=>by
  by_cases e:i=k+1
  ·subst e;rw[us];exact hX a J
  ·rw[un i e]
 have C:∀i,i<=j->(upd nd (k+1) H i).S Q.E.Mp->i=k+1/\ju=some k:=fun i Y K=>by
  by_cases e:i=k+1
  ·simp_all
  ·simp_all
 have T:∀i,i<=j->((upd nd (k+1) H i).X Q.E.Mp->(upd nd (k+1) H i).S Q.E.Mp):=fun i Y K=>by
  by_cases e:i=k+1
  ·subst e;rw[us]at K⊢;exact F.2 K
  ·rw[un i e]at K⊢;exact h.xs i Y _ K
 refine⟨fun i i' Y A I a D K=>?_,fun i Y a K=>?_,fun i Y a K=>?_,fun i Y a hr D=>?_,fun i Y a D=>?_,fun i Y K=>⟨k,C i Y K⟩,h.nN,h.tO,fun c G=>?_⟩
 ·by_cases e:a=Q.E.Mp
  ·subst e;have N:=(C i Y (T i Y D)).1;have O:=(C i' A K).1;omega
  ·exact h.xj i i' Y A I a ((U i a e).1 D) ((R i' a e).1 K)
 ·by_cases e:a=Q.E.Mp
  ·subst e;exact h.tO
  ·exact h.low i Y a ((R i a e).1 K)
 ·by_cases e:a=Q.E.Mp
  ·subst e;obtain⟨rfl,_⟩:=C i Y K;rw[us]at K⊢;exact .inr (F.1 K)
  ·exact(h.sub i Y a ((R i a e).1 K)).imp id (U i a e).2
 ·have e:a≠Q.E.Mp:=fun e=>M (e▸hr);exact h.mB i Y a hr ((U i a e).1 D)
 ·by_cases e:a=Q.E.Mp
  ·subst e;exact T i Y D
  ·exact(R i a e).2 (h.xs i Y a ((U i a e).1 D))
 ·obtain⟨N,O,P,V⟩:=h.nU c G;exact⟨N,O,P,fun i Y K=>V i Y ((R i c P).1 K)⟩
theorem gD.Pw{j:Nat}{L:List Nat}{H:Nd}(Y:¬Q.RO Q.E.Mp)(hX:∀a,a≠Q.E.Mp->(H.X a↔(nd (k+1)).X a)):Q.cls (upd nd (k+1) H) j L=Q.cls nd j L:=by
 refine ab4 Y fun i a K=>?_;unfold gD.om;by_cases e:i=k+1
 ·subst e;rw[upd_same,hX a K]
 ·rw[upd_ne _ _ e]
theorem gD.MI.wla(M:Q.MI C nd fu gs w t q rel)(H:Q.Laws)(h:CI Q.J Q.gK C)(F:Calm Q.J C){f x:Nat}(hk:k<C.j)(e:C.ks k=.at (.la x) .run)(hf:fu (k+1)=f+1)
  (ht:Q.E.Tree Q.P false (Q.WS (Q.ch C k) f (.ur (Q.E.upd C.γ x))) (fun a=>(nd (k+1)).S a\/a=Q.E.Mp) (fun a=>(nd (k+1)).X a\/a=Q.E.Mp) g1 w)(fn:au)(pos:String):
  Q.jr C nd fu q (ao ((gs.map (aD Q.P (nd (k+1)).g g1 w)).setIfInBounds (Q.b+k) g1) w sl) (t++ak (Q.b+k) fn pos #[⟨.mark (.acquire Q.E.mu),false,true⟩]):=by
 have L:Q.b+k<gs.size:=by rw[M.size];omega
 have K:=h.free hk e;obtain⟨Z,I⟩:=h.take H.n8 hk e;have us:(C.take k x).ks k=.at (.ur (Q.E.upd C.γ x)) .run:=upd_same _ _ _;have R:Deaf t (Q.b+k)=0:=by rw[M.mV k hk (fun q y=>by rw[e]at y;cases y),e];rfl
 have hX:∀a,a≠Q.E.Mp->(((nd (k+1)).X a\/a=Q.E.Mp)↔(nd (k+1)).X a):=fun a B=>⟨fun y=>y.resolve_right B,.inl⟩;have W:∀a,a≠Q.E.Mp->(((nd (k+1)).S a\/a=Q.E.Mp)↔(nd (k+1)).S a):=fun a B=>⟨fun y=>y.resolve_right B,.inl⟩;have M1:Q.MI (C.take k x) (upd nd (k+1) ⟨fun a=>(nd (k+1)).S a\/a=Q.E.Mp,fun a=>(nd (k+1)).X a\/a=Q.E.Mp,g1,w⟩) (upd fu (k+1) f) (gs.setIfInBounds (Q.b+k) g1) w (t++ak (Q.b+k) fn pos #[⟨.mark (.acquire Q.E.mu),false,true⟩]) q rel:=by
  refine M.Be (C':=C.take k x) H.b0 hk rfl rfl rfl rfl (fun i A=>upd_ne _ _ A) rfl ?_ (fun i A _=>.refl _ _ _) (.refl _ _ _) (by have:=M.fuel (k+1) hk;omega) (aP I) (M.gZ.turn hk W hX ⟨fun _=>.inr rfl,fun _=>.inr rfl⟩ (fun _=>rfl) (fun i A _ l=>?_) H.rm) ?_ ?_ (fun _=>?_) (fun g z=>aV t (fun y=>z y.symm) _ pO) ?_ (fun _ _=>rfl) (pF M.seen (ar _) (tc (m:=.acquire Q.E.mu) ⟨M.gZ.nN _ H.rf,nofun⟩))
  ·rw[us];exact⟨aI L,ht,fun y=>absurd rfl y⟩
  ·obtain⟨_,_,O⟩:=M.gZ.mp i A l;rw[K]at O;cases O
  ·exact⟨M.wd.mu,M.wd.wg,nofun,M.wd.shut,M.wd.opn,M.wd.tape,M.wd.out⟩
  ·rw[gD.Pw H.rm hX,tX];have N:=M.tr;rw[K]at N;exact N.lock (.inr ⟨bF _ _,by omega⟩) R
  ·rw[us,aM,R];rfl
  ·rw[us,M.xl hk e];exact⟨(fun⟨p,d⟩=>by cases d),fun y=>y.elim⟩
 have Y:Calm Q.J (C.take k x):=th (s':=.at (.ur (Q.E.upd C.γ x)) .run) (k:=k) (m':=C.m) (c':=C.c) (v':=C.v) (gY:=C.wt) (gV:=C.ws) (kH:=Q.E.upd C.γ x) (jQ:=C.dn++[x]) (ju:=some k) F nofun nofun id fun _ y=>y;obtain⟨T,G,U,D,V⟩:=gD.MI.finish (g:=(nd (k+1)).g) H Z M1 (.inl Y) Y.pf;exact⟨T,_,_,_,_,sl,_,_,rfl,U,D,V,.inl (by rw[(qo (fu:=fu) G).1];exact I)⟩
theorem gD.MI.wur(M:Q.MI C nd fu gs w t q rel)(H:Q.Laws)(h:CI Q.J Q.gK C)(O:Calm Q.J C){f:Nat}{γ:Q.E.Γ}(hk:k<C.j)(e:C.ks k=.at (.ur γ) .run)(hf:fu (k+1)=f+1)(F:Q.E.mi γ (w.heap[Q.E.Mp]?))
  (ht:Q.E.Tree Q.P false (Q.WS (Q.ch C k) f .ud) (fun a=>(nd (k+1)).S a/\a≠Q.E.Mp) (fun a=>(nd (k+1)).X a/\a≠Q.E.Mp) g1 w)(fn:au)(pos:String):
  Q.jr C nd fu q (ao ((gs.map (aD Q.P (nd (k+1)).g g1 w)).setIfInBounds (Q.b+k) g1) w sl) (t++ak (Q.b+k) fn pos #[⟨.mark (.releaseMerge Q.E.mu),false,true⟩]):=by
 have T:Q.b+k<gs.size:=by rw[M.size];omega
 obtain⟨d,A,K,V⟩:=h.give H.n8 hk e;have us:(C.give k).ks k=.at .ud .run:=upd_same _ _ _;have R:Deaf t (Q.b+k)=0:=by rw[M.mV k hk (fun q y=>by rw[e]at y;cases y),e];rfl
 have hX:∀a,a≠Q.E.Mp->(((nd (k+1)).X a/\a≠Q.E.Mp)↔(nd (k+1)).X a):=fun a N=>⟨fun y=>y.1,fun y=>⟨y,N⟩⟩;have l:∀a,a≠Q.E.Mp->(((nd (k+1)).S a/\a≠Q.E.Mp)↔(nd (k+1)).S a):=fun a N=>⟨fun y=>y.1,fun y=>⟨y,N⟩⟩;have M1:Q.MI (C.give k) (upd nd (k+1) ⟨fun a=>(nd (k+1)).S a/\a≠Q.E.Mp,fun a=>(nd (k+1)).X a/\a≠Q.E.Mp,g1,w⟩) (upd fu (k+1) f) (gs.setIfInBounds (Q.b+k) g1) w (t++ak (Q.b+k) fn pos #[⟨.mark (.releaseMerge Q.E.mu),false,true⟩]) q rel:=by
  refine M.Be (C':=C.give k) H.b0 hk rfl rfl rfl rfl (fun i U=>upd_ne _ _ U) rfl ?_ (fun i U _=>.refl _ _ _) (.refl _ _ _) (by have:=M.fuel (k+1) hk;omega) (aP A) (M.gZ.turn hk l hX ⟨fun y=>absurd rfl y.2,fun y=>absurd rfl y.2⟩ (fun y=>absurd rfl y.2) (fun i U I s=>?_) H.rm) ?_ ?_ (fun _=>?_) (fun g o=>aV t (fun y=>o y.symm) _ pO) ?_ (fun _ _=>rfl) (pF M.seen (ar _) (tc (m:=.releaseMerge Q.E.mu) ⟨M.gZ.nN _ H.rf,nofun⟩))
  ·rw[us];exact⟨aI T,ht,fun y=>absurd rfl y⟩
  ·obtain⟨k',B,G⟩:=M.gZ.mp i U s;rw[K]at G;cases G;exact I B
  ·exact⟨M.wd.mu,M.wd.wg,fun _=>by show Q.E.mi C.γ _;rw[V];exact F,M.wd.shut,M.wd.opn,M.wd.tape,M.wd.out⟩
  ·rw[gD.Pw H.rm hX,tX];have Z:=M.tr;rw[K]at Z;exact Z.unlock (g:=Q.b+k) (.inr ⟨bF _ _,by omega⟩) R
  ·rw[us,aM,R];rfl
  ·rw[us,M.xl hk e];exact⟨(fun⟨p,r⟩=>by cases r),fun y=>y.elim⟩
 have Y:Calm Q.J (C.give k):=th (s':=.at .ud .run) (k:=k) (m':=C.m) (c':=C.c) (v':=C.v) (gY:=C.wt) (gV:=C.ws) (kH:=C.γ) (jQ:=C.dn) (ju:=none) O nofun nofun id fun _ y=>y;obtain⟨W,B,L,D,z⟩:=gD.MI.finish (g:=(nd (k+1)).g) H d M1 (.inl Y) Y.pf;exact⟨W,_,_,_,_,sl,_,_,rfl,L,D,z,.inl (by rw[(qo (fu:=fu) B).1];exact A)⟩
theorem gD.MI.Bf(M:Q.MI C nd fu gs w t q rel)(h:Q.Laws)(hk:k<C.j)(hj:C'.j=C.j)(W:C'.L=C.L)(hd:C'.d=C.d)(N:C'.dm=C.dm)(O:∀i,i≠k->C'.ks i=C.ks i){w1:ah}{ops:Array _}
  (V:Q.tN (Q.ch C k) (gs.setIfInBounds (Q.b+k) g1) (t++ops) k (nd (k+1)) (fu (k+1)) (C'.ks k))(Z:∀S,gI Q.E.U S w w1)(G:w1.heap.size=w.heap.size)(Y:mu Q.J C'<=mu Q.J C)(tok:C'.tok=C.tok)(wd:Q.Wd C' w1)
  (tr:PT Q.b C.j Q.E.mu Q.E.st Q.iU (Q.cls nd C.j C.L) (t++ops) (C.tok.map (Q.b+ ·)) jD)(own:∀op∈ops,op.g=Q.b+k)(F:(∀q,C'.ks k≠.qt q)->Deaf (t++ops) (Q.b+k)=AQ (C'.ks k))(H:(∃p,jD (Q.b+k)=some p)↔gD.xk (C'.ks k))(R:∀i,i≠k->jD (Q.b+i)=rel (Q.b+i))(low:∀op∈ops,Seen w.heap.size op):
  Q.MI C' nd fu (gs.setIfInBounds (Q.b+k) g1) w1 (t++ops) q jD:=by
 have:=M.Be h.b0 hk hj W hd N O rfl V (fun i D _=>Z _) ((M.nV _ hk).trans (Z _)) (bA Y (M.fuel _ hk)) Y (by rw[ta,G,tok];exact M.gZ) wd (by rw[ta,tok];exact tr) F (fun g K=>aV t (fun y=>K y.symm) _ own) H R (pF M.seen (bu G.symm) (by simp_all));rw[ta,ta]at this;omega
theorem gD.MI.ajp(M:Q.MI C nd fu gs w t q rel)(R:Q.Laws)(h:CI Q.J Q.gK C)(F:Calm Q.J C)(hk:k<C.j)(e:C.ks k=.at .wr .run)(L:Env.oj Q.P (Q.E.tD Q.P 4) n g1)(fn:au)(pos:String):
  Q.jr C nd fu q (ao ((gs.map (aD Q.P (nd (k+1)).g g1 w)).setIfInBounds (Q.b+k) g1) w sl) (t++ak (Q.b+k) fn pos #[⟨.mark (.releaseMerge Q.E.st),false,true⟩]):=by
 have U:Q.b+k<gs.size:=by rw[M.size];omega
 have O:CI Q.J Q.gK (C.w1 k (.gP 4 n)):=h.slip hk e rfl rfl nofun nofun (fun y=>rfl) nofun rfl (fun _ _ y=>y) trivial (fun i n e=>by cases e;exact ar _) (ar _);have D:mu Q.J (C.w1 k (.gP 4 n))<mu Q.J C:=Ds R.n8 h.c1 (aN hk h.jn) e (by show 5<6;omega);have us:(C.w1 k (.gP 4 n)).ks k=.gP 4 n:=upd_same _ _ _;have H:Deaf t (Q.b+k)=0:=by rw[M.mV k hk (fun q y=>by rw[e]at y;cases y),e];rfl
 have M1:=M.Bf (C':=C.w1 k (.gP 4 n)) (g1:=g1) (w1:=w) (ops:=ak (Q.b+k) fn pos #[⟨.mark (.releaseMerge Q.E.st),false,true⟩]) (jD:=upd rel (Q.b+k) (some t.size)) R hk rfl rfl rfl rfl (fun i I=>upd_ne _ _ I) (by
   rw[us];exact⟨g1,aI U,L⟩) (fun S=>.refl _ _ _) rfl (aP D) rfl (M.wd.cfg rfl rfl rfl rfl rfl (fun e=>⟨e,rfl⟩) rfl rfl rfl)
   (by
    rw[tX];exact M.tr.release ⟨bF _ _,by omega⟩ H (upd_same _ _ _) fun i I=>upd_ne _ _ I) pO (fun _=>by
   rw[us,aM,H];rfl) (by
   rw[us,upd_same];exact⟨fun _=>trivial,fun _=>⟨_,rfl⟩⟩) (fun i I=>upd_ne _ _ (by omega)) (tc (m:=.releaseMerge Q.E.st) ⟨M.gZ.nN _ R.rw,nofun⟩)
 have Y:Calm Q.J (C.w1 k (.gP 4 n)):=th (s':=.gP 4 n) (k:=k) (m':=C.m) (c':=C.c) (v':=C.v) (gY:=C.wt) (gV:=C.ws) (kH:=C.γ) (jQ:=C.dn) (ju:=C.tok) F nofun nofun id fun _ y=>y;obtain⟨B,T,A,K,N⟩:=gD.MI.finish (g:=(nd (k+1)).g) R O M1 (.inl Y) Y.pf;exact⟨B,_,_,_,_,sl,_,_,rfl,A,K,N,.inl (by rw[(qo (fu:=fu) T).1];exact D)⟩
theorem ahG{s s':gN Q.E}(hk:k<Q.J.n)(e:C.ks k=s)(L:nG s'<nG s)(F:Q.J.n<=8){Y:iw Q.E}(H:Y=C.w1 k s'\/Y=(C.w1 k s').oG Q.J):Q.nu Y q<Q.nu C q:=by
 have D:=rh (s':=s') nG _ hk e;have K:sumTo Q.J.n (fun i=>nG (Y.ks i))=sumTo Q.J.n (fun i=>nG (upd C.ks k s' i)):=by
  rcases H with rfl|rfl
  ·rfl
  ·exact sumTo_congr fun i _=>vN nG (fun _ _ _=>rfl) _ _
 have R:py Y.dm+sumTo Q.J.n (fun i=>pz (Y.ks i))<=9:=by
  have r1:∀m,py m<=1:=fun m=>by cases m<;>simp[py]
  have r2:∀s:gN Q.E,pz s<=1:=fun s=>by cases s<;>simp[pz,r1]
  have:=sumTo_le (f:=fun i=>pz (Y.ks i)) (j:=Q.J.n) fun i _=>r2 _;have:=r1 Y.dm;omega
 unfold gD.nu;omega
theorem af5{s s':gN Q.E}(e:C.ks k=s)(H:∀pc md,s≠.at pc md)(R:∀pc md,s'≠.at pc md):Q.Df (C.w1 k s') fu=Q.Df C fu:=by
 funext i;cases i with
 |zero=>rfl
 |succ i=>
  show(match upd _ k s' i with|.at pc _=>Q.WS (Q.ch C i) _ pc|_=>fun _ _ _ _=>True)=(match C.ks i with|.at pc _=>Q.WS _ _ pc|_=>fun _ _ _ _=>True)
  by_cases Y:i=k
  ·subst Y;rw[upd_same,e];simp_all
  ·rw[upd_ne _ _ Y]
theorem gD.MI.SJ(M:Q.MI C nd fu gs w t q rel)(O:Q.Laws)(h:CI Q.J Q.gK C)(V:Calm Q.J C){s s':gN Q.E}(hk:k<C.j)(e:C.ks k=s){g:ai}(Y:∀e∈es,e.mute=true)
  (R:(∃i n,s=.gP i (n+1)/\s'=.gP i n/\es=#[]/\Env.oj Q.P (Q.E.tD Q.P i) n g1)\/(∃n,s=.qt (n+1)/\s'=.qt n/\bc Q.P n (bg (Deaf t (Q.b+k)) es) g1))(fn:au)(pos:String):
  Q.jr C nd fu q (ao ((gs.map (aD Q.P g g1 w)).setIfInBounds (Q.b+k) g1) w sl) (t++ak (Q.b+k) fn pos es):=by
 have B:Q.b+k<gs.size:=by rw[M.size];omega
 have U:k<Q.J.n:=aN hk h.jn;have X:∀pc md,s≠.at pc md:=by rcases R with⟨i,n,rfl,_⟩|⟨n,rfl,_⟩<;>nofun
 have K:∀pc md,s'≠.at pc md:=by rcases R with⟨i,n,_,rfl,_⟩|⟨n,_,rfl,_⟩<;>nofun
 have L:iI s=.out/\iI s'=.out:=by rcases R with⟨i,n,rfl,rfl,_⟩|⟨n,rfl,rfl,_⟩<;>exact⟨rfl,rfl⟩
 have hr:lY s'=lY s/\kE s'=kE s/\ja s'=ja s/\je s'=je s/\Gone s/\s'≠.no/\(∀y,qE y s=0)/\nG s'<nG s:=by
  rcases R with⟨i,n,rfl,rfl,_⟩|⟨n,rfl,rfl,_⟩
  ·exact⟨rfl,rfl,rfl,rfl,trivial,nofun,fun _=>rfl,by show n<n+1;omega⟩
  ·exact⟨rfl,rfl,rfl,rfl,trivial,nofun,fun _=>rfl,by show n<n+1;omega⟩
 have d:CI Q.J Q.gK (C.w1 k s'):=h.slip hk e L.1 L.2 hr.2.2.2.2.2.1 K hr.2.2.2.2.2.2.1 (fun γ md=>X _ _) (by rw[hr.2.1]) (fun _ _ y=>by rw[hr.2.2.1,hr.2.2.2.1];exact y) hr.2.2.2.2.1 (fun i n e'=>by
  rcases R with⟨i',l,rfl,rfl,_⟩|⟨l,rfl,rfl,_⟩
  ·cases e';exact h.gP k _ _ e
  ·cases e') (ar _)
 have F:mu Q.J (C.w1 k s')=mu Q.J C:=Qr U e hr.1 (L.2.trans L.1.symm);have us:(C.w1 k s').ks k=s':=upd_same _ _ _;have M1:=M.Bf (C':=C.w1 k s') (g1:=g1) (w1:=w) (ops:=ak (Q.b+k) fn pos es) (jD:=rel) O hk rfl rfl rfl rfl (fun i f=>upd_ne _ _ f) (by
   rw[us];rcases R with⟨i,n,rfl,rfl,_,I⟩|⟨n,rfl,rfl,I⟩
   ·exact⟨g1,aI B,I⟩
   ·exact⟨g1,aI B,by rw[aM];exact I⟩) (fun S=>.refl _ _ _) rfl (bu F) rfl (M.wd.cfg rfl rfl rfl rfl rfl (fun e=>⟨e,rfl⟩) rfl rfl rfl)
   (M.tr.still fun op gu=>by
    obtain⟨ev,D,rfl⟩:=pJ gu;refine⟨touch_mute (Y ev D),?_,?_,by show Q.b+k<Q.b+C.j;omega⟩
    ·intro y;have:=Y ev D;obtain⟨loc,wr,o⟩:=ev;cases loc<;>simp_all[Event.mute,aW]
    ·intro y;have:=Y ev D;obtain⟨loc,wr,o⟩:=ev;cases loc<;>simp_all[Event.mute,aW]) pO (fun I=>by
   rw[us];rcases R with⟨i,n,rfl,rfl,rfl,_⟩|⟨n,rfl,rfl,_⟩
   ·rw[aM];have:=M.mV k hk (fun q y=>by rw[e]at y;cases y);rw[e]at this;exact this
   ·rw[us]at I;exact absurd rfl (I n)) (by
   rw[us,M.pg k hk,e];rcases R with⟨i,n,rfl,rfl,_⟩|⟨n,rfl,rfl,_⟩<;>exact Iff.rfl) (fun _ _=>rfl) (fun op gu=>by
   obtain⟨ev,D,rfl⟩:=pJ gu;exact⟨low_mute (Y ev D) _,fun a=>ND (Y ev D) a⟩)
 have H:Calm Q.J (C.w1 k s'):=th (s':=s') (k:=k) (m':=C.m) (c':=C.c) (v':=C.v) (gY:=C.wt) (gV:=C.ws) (kH:=C.γ) (jQ:=C.dn) (ju:=C.tok) V (fun _=>K _ _) (fun _=>K _ _) id fun _ y=>y;obtain⟨Z,T,N,A,G⟩:=gD.MI.finish (g:=g) O d M1 (.inl H) H.pf;obtain⟨W,z⟩:=qo (fu:=fu) T;exact⟨Z,_,_,_,_,sl,_,_,rfl,N,A,G,.inr ⟨W.trans F,z.trans (af5 e X K),.inr ⟨rfl,ahG U e hr.2.2.2.2.2.2.2 O.n8 T⟩⟩⟩
end
section
variable{Q:gD}{nd:Nat->Nd}{fu:Nat->Nat}{C C':iw Q.E}{w w':ah}{gs nW:Array ai}{t t':aQ}{q:Nat->Nat}{rel jD:Nat->Option Nat}{sl:Option (Nat×Nat)}
theorem gD.MI.wd4(M:Q.MI C nd fu gs w t q rel)(R:Q.Laws)(h:CI Q.J Q.gK C)(F:Calm Q.J C)(hk:k<C.j)(e:C.ks k=.gP 4 0){g:ai}(L:Env.oj Q.P (Q.E.tD Q.P 3) n g1)(fn:au)(pos:String):
  Q.jr C nd fu q (ao ((gs.map (aD Q.P g g1 w)).setIfInBounds (Q.b+k) g1) w sl) (t++ak (Q.b+k) fn pos #[⟨.mark .disable,false,true⟩]):=by
 have I:Q.b+k<gs.size:=by rw[M.size];omega
 have B:CI Q.J Q.gK (C.w1 k (.gP 3 n)):=h.slip hk e rfl rfl nofun nofun (fun y=>rfl) nofun rfl (fun _ _ y=>y) trivial (fun i n e=>by cases e;omega) (ar _);have H:mu Q.J (C.w1 k (.gP 3 n))<mu Q.J C:=Ds R.n8 h.c1 (aN hk h.jn) e (by show 4<5;omega);have us:(C.w1 k (.gP 3 n)).ks k=.gP 3 n:=upd_same _ _ _;have M1:=M.Bf (C':=C.w1 k (.gP 3 n)) (g1:=g1) (w1:=w) (ops:=ak (Q.b+k) fn pos #[⟨.mark .disable,false,true⟩]) (jD:=rel) R hk rfl rfl rfl rfl (fun i O=>upd_ne _ _ O) (by
   rw[us];exact⟨g1,aI I,L⟩) (fun S=>.refl _ _ _) rfl (aP H) rfl (M.wd.cfg rfl rfl rfl rfl rfl (fun e=>⟨e,rfl⟩) rfl rfl rfl)
   (M.Io (by omega) fn pos (.inl rfl)) pO (fun _=>by
   rw[us,aM,M.mV k hk (fun q y=>by rw[e]at y;cases y),e];rfl) (by
   rw[us,M.pg k hk,e];exact Iff.rfl) (fun _ _=>rfl) (tc ⟨trivial,nofun⟩)
 have Y:Calm Q.J (C.w1 k (.gP 3 n)):=th (s':=.gP 3 n) (k:=k) (m':=C.m) (c':=C.c) (v':=C.v) (gY:=C.wt) (gV:=C.ws) (kH:=C.γ) (jQ:=C.dn) (ju:=C.tok) F nofun nofun id fun _ y=>y;obtain⟨A,N,D,K,U⟩:=gD.MI.finish (g:=g) R B M1 (.inl Y) Y.pf;exact⟨A,_,_,_,_,sl,_,_,rfl,D,K,U,.inl (by rw[(qo (fu:=fu) N).1];exact H)⟩
theorem gD.MI.A0(M:Q.MI C nd fu gs w t q rel)(F:Q.Laws)(h:CI Q.J Q.gK C)(N:Calm Q.J C){s':gN Q.E}(hk:k<C.j)(e:C.ks k=.gP i 0)(H:i<=3){g:ai}{w1:ah}(W:Env.Eff Q.E.Wg w w1)(Z:Q.E.WgAt w1 v' gY gV)(Y:Env.EvA Q.E.Wg es)
  (R:(∃i' n,s'=.gP i' n/\i'<i/\Env.oj Q.P (Q.E.tD Q.P i') n g1)\/(∃n,s'=.qt n/\bc Q.P n 1 g1))(px:v'+kE s'=C.v+kE (.gP i 0:gN Q.E))(ph:∀e2 e0,ng C.d C.v C.wt C.ws (e2+ja (.gP i 0:gN Q.E)) (e0+je (.gP i 0:gN Q.E))->ng C.d v' gY gV (e2+ja s') (e0+je s'))(hvd:iq Q.J v' C.d<=iq Q.J C.v C.d)(hvv:v'<=C.v)
  (hwk:(C.dm=.blk->C.ws=0->gV=0)\/(bj Q.P g=true/\(g1.status=.running\/g1.status=.finished)))(fn:au)(pos:String):
  Q.jr C nd fu q (ao ((gs.map (aD Q.P g g1 w1)).setIfInBounds (Q.b+k) g1) w1 sl) (t++ak (Q.b+k) fn pos es):=by
 have T:Q.b+k<gs.size:=by rw[M.size];omega
 have z:k<Q.J.n:=aN hk h.jn;have K:∀pc md,s'≠.at pc md:=by rcases R with⟨i,n,rfl,_⟩|⟨n,rfl,_⟩<;>nofun
 have I:CI Q.J Q.gK (C.wk k s' C.d C.dm C.m C.c v' gY gV C.γ C.dn C.tok):=h.slip hk e rfl (by rcases R with⟨i,n,rfl,_⟩|⟨n,rfl,_⟩<;>rfl) (by rcases R with⟨i,n,rfl,_⟩|⟨n,rfl,_⟩<;>nofun) K (fun y=>rfl) nofun px ph trivial (fun i' n e'=>by
  rcases R with⟨i,n,rfl,X,_⟩|⟨n,rfl,_⟩
  ·cases e';omega
  ·cases e') hvv
 have V:mu Q.J (C.wk k s' C.d C.dm C.m C.c v' gY gV C.γ C.dn C.tok)<mu Q.J C:=by
  refine xh F.n8 h.c1 ?_;have:=wj (C:=C) (J:=Q.J) (s':=s') (d':=C.d) (ou:=C.dm) (m':=C.m) (c':=C.c) (v':=v') (gY:=gY) (gV:=gV) (kH:=C.γ) (jQ:=C.dn) (ju:=C.tok) z e;have hr:lY s'<i+1:=by
   rcases R with⟨i',n,rfl,X,_⟩|⟨n,rfl,_⟩
   ·show i'+1<i+1;omega
   ·show 0<i+1;omega
  have hr0:lY (gN.gP i 0:gN Q.E)=i+1:=rfl;omega
 have O:Deaf t (Q.b+k)=1:=by
  rw[M.mV k hk (fun q y=>by rw[e]at y;cases y),e];show(if i<=3 then 1 else 0)=1
  rw[if_pos H]
 have us:(C.wk k s' C.d C.dm C.m C.c v' gY gV C.γ C.dn C.tok).ks k=s':=upd_same _ _ _;have M1:=M.Bf (C':=C.wk k s' C.d C.dm C.m C.c v' gY gV C.γ C.dn C.tok) (g1:=g1) (w1:=w1) (ops:=ak (Q.b+k) fn pos es) (jD:=rel) F hk rfl rfl rfl rfl (fun i H=>upd_ne _ _ H) (by
   rw[us];rcases R with⟨i',n,rfl,_,D⟩|⟨n,rfl,D⟩
   ·exact⟨g1,aI T,D⟩
   ·exact⟨g1,aI T,by rw[aM,CE Y,O];exact D⟩) (fun S=>HD S M.wd.wg Z W) W.size (aP V) rfl ((M.wd.gp F M.gZ h.len W Z).cfg rfl rfl rfl rfl rfl (fun e=>⟨e,rfl⟩) rfl rfl rfl)
   (M.tr.app (.inr ⟨bF _ _,by omega⟩) (G8 Y (.inr rfl) _) (fun _ p l i x H hx hm=>by
    obtain⟨I,A,a,s,u,X⟩:=Wz Y (by omega) i x H hx hm;exact⟨F.Ki _ (by rw[s];exact⟨.inr u,X⟩),I,A⟩)) pO (fun D=>by
   rw[us,aM,CE Y,O];rcases R with⟨i',n,rfl,X,_⟩|⟨n,rfl,_⟩
   ·show 1=(if i'<=3 then 1 else 0)
    rw[if_pos (by omega)]
   ·rw[us]at D;exact absurd rfl (D n)) (by
   rw[us,M.pg k hk,e];rcases R with⟨i',n,rfl,_⟩|⟨n,rfl,_⟩<;>exact Iff.rfl) (fun _ _=>rfl) (G9 Y (M.gZ.nN _ F.rw) _)
 have l:∀i,C.dm=.gU->C.d=.send C.L i->∀pc,(C.wk k s' C.d C.dm C.m C.c v' gY gV C.γ C.dn C.tok).ks (i%Q.J.n)≠.at pc .gU:=by
  intro i I A f H;change upd C.ks k _ _=_ at H;by_cases e:i%Q.J.n=k
  ·rw[e,upd_same]at H;exact absurd H (K _ _)
  ·rw[upd_ne _ _ e]at H;exact N.pf i I A f H
 have U:Calm Q.J (C.wk k s' C.d C.dm C.m C.c v' gY gV C.γ C.dn C.tok)\/(bj Q.P g=true/\(g1.status=.running\/g1.status=.finished)):=
  hwk.imp (fun y=>th (s':=s') (k:=k) (m':=C.m) (c':=C.c) (v':=v') (gY:=gY) (gV:=gV) (kH:=C.γ) (jQ:=C.dn) (ju:=C.tok) N (fun _=>K _ _) (fun _=>K _ _) id y) id
 obtain⟨o,A,G,B,r⟩:=gD.MI.finish (g:=g) F I M1 U l;exact⟨o,_,_,_,_,sl,_,_,rfl,G,B,r,.inl (by rw[(qo (fu:=fu) A).1];exact V)⟩
theorem gD.MI.offers(M:Q.MI C nd fu gs w t q rel)(L:Q.Laws){g:ai}(H:gs[i]?=some g)(c:Nat)(send:Bool):cA g c send=[]\/(i=0/\C.dm=.gU)\/∃k pc,i=Q.b+k/\k<C.j/\C.ks k=.at pc .gU:=by
 have P:=M.size;have O:=(bO.1 H).1;rcases cy i with rfl|A
 ·have Y:=M.g0;have f0:=M.sd (ay _);cases B:C.dm with
  |run=>
   rw[B]at Y;obtain rfl:=Option.some.inj (H.symm.trans Y.1);exact .inl (bK (by rw[sZ Y.2 fun y=>(B6 f0 y).1];nofun) _ _)
  |blk=>
   rw[B]at Y;obtain rfl:=Option.some.inj (H.symm.trans Y.1);unfold cA;simp[Y.2.1]
  |gU=>exact .inr (.inl ⟨rfl,rfl⟩)
  |jM=>rw[B]at Y;exact Y.elim
 ·by_cases U:i<Q.b
  ·have:=(M.old i g A U H).status;exact .inl (bK (by rcases this with y|y<;>rw[y]<;>nofun) _ _)
  ·obtain⟨k,rfl⟩:∃k,i=Q.b+k:=⟨i-Q.b,by omega⟩;have hk:k<C.j:=by omega
   have K:=M.wk k hk;have F:=M.sd hk;cases I:C.ks k with
   |no=>rw[I]at K;exact K.elim
   |«at» pc md=>
    rw[I]at K;obtain⟨D,R,N⟩:=K;obtain rfl:=Option.some.inj (H.symm.trans D);cases md with
    |run=>exact .inl (bK (by show(nd _).g.status≠_;rw[sZ R fun y=>(vt L F y).1];nofun) _ _)
    |blk=>
     have:=(vt L F (N nofun)).2;unfold cA;simp[I2,this]
    |gU=>exact .inr (.inr ⟨k,pc,rfl,hk,I⟩)
    |jM=>exact .inl (bK (by nofun) _ _)
   |gP i n=>
    rw[I]at K;obtain⟨J,D,R⟩:=K;obtain rfl:=Option.some.inj (H.symm.trans D);exact .inl (bK (by rw[B7 R];nofun) _ _)
   |qt S=>
    rw[I]at K;obtain⟨J,D,R⟩:=K;obtain rfl:=Option.some.inj (H.symm.trans D);exact .inl (bK (by rcases R.status with y|y<;>rw[y]<;>nofun) _ _)
theorem gD.MI.yN(M:Q.MI C nd fu gs w t q rel){pc:Q.E.kv}(hk:k<C.j)(e:C.ks k=.at pc .gU):gs[Q.b+k]?=some (parked (nd (k+1)).g #[bL (Q.ch C k) Q.E.zc] (.recv true)):=by
 have:=M.wk k hk;rw[e]at this;exact this.1
theorem yB(h:CI Q.J Q.gK C){k':Nat}(hk:k<C.j)(Y:k'<C.j)(e:Q.ch C k=Q.ch C k'):k=k':=by
 unfold gD.ch at e;rw[aY,aY,cu (by rw[h.len];exact hk),cu (by rw[h.len];omega)]at e;have K:=List.pairwise_iff_getElem.1 h.Bd;have e':=e;rcases Nat.lt_trichotomy k k' with y|y|y
 ·simp_all
 ·exact y
 ·exact absurd e'.symm (K k' k _ _ y)
theorem gD.MI.af6(M:Q.MI C nd fu gs w t q rel)(H:Q.Laws)(h:CI Q.J Q.gK C)(hk:k<C.j)(F:∀pc,C.ks k≠.at pc .gU)(R:i0=0):cf (gs.setIfInBounds i0 ph) (Q.ch C k) false=[]:=by
 refine di fun i g D=>?_;rcases b_ gs i0 i g D with⟨_,rfl⟩|⟨I,Y⟩
 ·rfl
 ·rcases M.offers H Y _ _ with y|⟨rfl,_⟩|⟨k',pc,rfl,K,e⟩
  ·exact y
  ·omega
  ·obtain rfl:=Option.some.inj (Y.symm.trans (M.yN K e));rw[cB,if_neg];intro e';have:=yB h K hk e';simp_all
theorem gD.MI.noSend(M:Q.MI C nd fu gs w t q rel)(N:Q.Laws)(h:CI Q.J Q.gK C)(hk:k<C.j)(V:∀i,C.dm=.gU->C.d=.send C.L i->i%Q.J.n≠k):cf (gs.setIfInBounds i0 ph) (Q.ch C k) true=[]:=by
 refine di fun i g O=>?_;rcases b_ gs i0 i g O with⟨_,rfl⟩|⟨I,Y⟩
 ·rfl
 ·rcases M.offers N Y _ _ with y|⟨rfl,A⟩|⟨k',pc,rfl,K,e⟩
  ·exact y
  ·have R:=M.g0;rw[A]at R;obtain⟨_,i,c,x,z,F,U,P,D,S,B,T⟩:=R;obtain rfl:=Option.some.inj (Y.symm.trans B);rw[dh,if_neg];intro e';subst e';have H:=by
    have:=(cX.1 D).1;rw[h.len]at this;omega
   have:Q.ch C (i%Q.J.n)=Q.ch C k:=by
    unfold gD.ch at D⊢;simp_all
   exact V i A U (yB h H hk this)
  ·obtain rfl:=Option.some.inj (Y.symm.trans (M.yN K e));rw[de]
theorem gD.MI.adZ(M:Q.MI C nd fu gs w t q rel)(H:Q.Laws)(h:CI Q.J Q.gK C){pc:Q.E.kv}(hk:k<C.j)(e:C.ks k=.at pc .gU):cf (gs.setIfInBounds 0 ph) (Q.ch C k) false=[(Q.b+k,0)]:=by
 have F:=H.b0;have U:=M.yN hk e;rw[dj (j:=Q.b+k) (by rw[ns (by omega)];exact U) (fun i g I A=>?_),cB,if_pos rfl]
 ·rfl
 ·rcases b_ gs 0 i g A with⟨_,rfl⟩|⟨D,Y⟩
  ·rfl
  ·rcases M.offers H Y _ _ with y|⟨rfl,_⟩|⟨k',B,rfl,K,e'⟩
   ·exact y
   ·omega
   ·obtain rfl:=Option.some.inj (Y.symm.trans (M.yN K e'));rw[cB,if_neg];intro R;have:=yB h K hk R;omega
theorem gD.MI.ad0(M:Q.MI C nd fu gs w t q rel)(H:Q.Laws){z:af}(R:gs[0]?=some (parked g0 #[scase (Q.ch C k) v z] .send)):cf (gs.setIfInBounds (Q.b+k) ph) (Q.ch C k) true=[(0,0)]:=by
 have B:=H.b0;rw[dj (j:=0) (by rw[ns (by omega)];exact R) (fun i g I A=>?_),dh,if_pos rfl]
 ·rfl
 ·rcases b_ gs _ i g A with⟨_,rfl⟩|⟨D,Y⟩
  ·rfl
  ·rcases M.offers H Y _ _ with y|⟨rfl,_⟩|⟨k',U,rfl,K,e'⟩
   ·exact y
   ·omega
   ·obtain rfl:=Option.some.inj (Y.symm.trans (M.yN K e'));rw[de]
theorem gD.MI.hand(M:Q.MI C nd fu gs w t q rel)(Z:Q.Laws)(h:CI Q.J Q.gK C)(Bg:Calm Q.J C){x f0:Nat}{md:Md}(hk:k<C.j)(e:C.ks k=.at .recv md)(hd:C.d=.send C.L i)(hki:i%Q.J.n=k)(hx:Q.J.gB[i]?=some x)(hf:fu 0=f0+1){ops:Array bE}(hs:ob w (Q.ch C k) s)
  (h0:nW[0]?=some g0)(V:nW[Q.b+k]?=some gk)(ho:∀i,i≠0->i≠Q.b+k->nW[i]?=gs[i]?)(zi:nW.size=gs.size)
  (t0:Q.E.Tree Q.P true (Q.DS f0 (Q.J.sends C.L (i+1))) (nd 0).S (nd 0).X g0 (w.setChan (Q.ch C k) 0 #[] false (s+1) (s+1) false))(tk:Q.E.Tree Q.P false (Q.WS (Q.ch C k) (fu (k+1)) (.ld x)) (nd (k+1)).S (nd (k+1)).X gk (w.setChan (Q.ch C k) 0 #[] false (s+1) (s+1) false))
  (ajq:∀op∈ops,op.act.touch?=none/\op.act≠.mark (.release Q.E.mu)/\op.act≠.mark (.release Q.E.st)/\op.g<Q.b+C.j)(R:∀g,Deaf (t++ops) g=Deaf t g)(SK:∀op∈ops,Seen w.heap.size op):
  Q.jr C nd fu q (ao nW (w.setChan (Q.ch C k) 0 #[] false (s+1) (s+1) false) sl) (t++ops):=by
 have hb:=Z.b0;obtain⟨m,z⟩:=h.hand Z.n0 Z.n8 hk e hd hx;have us:(C.hand Q.J k x i).ks k=.at (.ld x) .run:=upd_same _ _ _;have un:∀i',i'≠k->(C.hand Q.J k x i).ks i'=C.ks i':=fun i' Y=>upd_ne _ _ Y;have c:∀i',i'<=C.j->¬(nd i').S (Q.ch C k):=(M.gZ.nU _ (qx h.len hk)).2.2.2;have I:(w.setChan (Q.ch C k) 0 #[] false (s+1) (s+1) false).heap.size=w.heap.size:=by simp[bI]
 have W:=(M.gZ.nU _ (qx h.len hk)).1;have G:iM Q.J (Q.J.sends C.L (i+1))=iM Q.J C.d:=by
  rw[hd];rcases uk (J:=Q.J) (L:=C.L) (i:=i+1)with⟨_,U⟩|⟨_,U⟩<;>rw[U]<;>rfl
 have f:o_ (Q.J.sends C.L (i+1))=o_ C.d:=by
  rw[hd];rcases uk (J:=Q.J) (L:=C.L) (i:=i+1)with⟨_,U⟩|⟨_,U⟩<;>rw[U]<;>rfl
 have H:∀a,a≠Q.ch C k->(w.setChan (Q.ch C k) 0 #[] false (s+1) (s+1) false).heap[a]?=w.heap[a]?:=fun a ha=>by
  simp only[bI];rw[cI (fun y=>ha y.symm)]
 have D:=M.gZ.nU _ (qx h.len hk)
 let n0:Nd:=⟨(nd 0).S,(nd 0).X,g0,w.setChan (Q.ch C k) 0 #[] false (s+1) (s+1) false⟩
 let A:Nd:=⟨(nd (k+1)).S,(nd (k+1)).X,gk,w.setChan (Q.ch C k) 0 #[] false (s+1) (s+1) false⟩
 have B:upd (upd nd 0 n0) (k+1) A 0=n0:=by rw[upd_ne _ _ (by omega),upd_same]
 have F:upd (upd nd 0 n0) (k+1) A (k+1)=A:=upd_same _ _ _;have N:∀i',i'≠0->i'≠k+1->upd (upd nd 0 n0) (k+1) A i'=nd i':=fun i' V U=>by rw[upd_ne _ _ U,upd_ne _ _ V]
 have O:upd fu 0 f0 0=f0:=upd_same _ _ _;have T:∀i',i'≠0->upd fu 0 f0 i'=fu i':=fun i' V=>upd_ne _ _ V;have M1:Q.MI (C.hand Q.J k x i) (upd (upd nd 0 n0) (k+1) A) (upd fu 0 f0) nW (w.setChan (Q.ch C k) 0 #[] false (s+1) (s+1) false) (t++ops) q rel:=by
  refine⟨zi.trans M.size,?_,fun i' Y=>?_,fun i' g Y l u=>?_,fun i' Y=>?_,fun i' Y=>?_,?_,?_,?_,?_,fun i' Y v=>?_,fun i' Y=>?_,fun i' Y=>?_,M.uS,pF M.seen (bu I.symm) (by rw[I];exact SK)⟩
  ·rw[B,O];exact⟨h0,t0⟩
  ·rw[T _ (by omega)];by_cases K:i'=k
   ·subst K;rw[F,us];exact⟨V,tk,fun y=>absurd rfl y⟩
   ·rw[N _ (by omega) (by omega),un i' K];exact(M.wk i' Y).keep (ho _ (by omega) (by omega)) (R _)
  ·rw[ho i' (by omega) (by omega)]at u;rw[R];exact M.old i' g Y l u
  ·by_cases K:i'=0
   ·subst K;rw[O];have:=M.fuel 0 (ay _);omega
   ·rw[T _ K];exact bA (aP z) (M.fuel i' Y)
  ·by_cases K:i'=0
   ·subst K;rw[B];exact .refl _ _ _
   ·by_cases p:i'=k+1
    ·subst p;rw[F];exact .refl _ _ _
    ·rw[N _ K p];exact(M.nV i' Y).trans (vD (c i' Y))
  ·rw[I];exact(M.gZ.same (i:=0) (n':=n0) rfl rfl).same (i:=k+1) (n':=A) (by rw[upd_ne _ _ (by omega)]) (by rw[upd_ne _ _ (by omega)])
  ·have hF:Q.E.Fd≠Q.ch C k:=fun y=>D.2.1 (y▸Z.rf);have hW:Q.E.Wg≠Q.ch C k:=fun y=>D.2.1 (y▸Z.rw);refine⟨?_,?_,fun y=>?_,fun i' Y r=>?_,fun i' Y r=>?_,M.wd.tape,M.wd.out⟩
   ·have:=M.wd.mu;unfold Env.MuAt at this⊢;rw[H _ hF];exact this
   ·have:=M.wd.wg;unfold Env.WgAt at this⊢;rw[H _ hW];exact this
   ·rw[H _ fun y=>D.2.2.1 y.symm];exact M.wd.map y
   ·have:¬i'<iM Q.J C.d:=by rw[hd];exact a_ _
    exact absurd (G▸r) this
   ·by_cases K:i'=k
    ·subst K;exact⟨s+1,by show(w.setChan _ 0 #[] false (s+1) (s+1) false).heap[Q.ch C i']?=_;simp only[bI];rw[aI W]⟩
    ·obtain⟨s',o⟩:=M.wd.opn i' Y (by rw[hd];exact a_ _);refine⟨s',?_⟩;show(w.setChan _ 0 #[] false (s+1) (s+1) false).heap[Q.ch C i']?=_
     rw[H _ fun y=>K (yB h Y hk y)];exact o
  ·have:Q.cls (upd (upd nd 0 n0) (k+1) A) C.j C.L=Q.cls nd C.j C.L:=by
    unfold gD.cls;rw[gD.CS (i:=k+1) (n':=A) (by rw[upd_ne _ _ (by omega)]),gD.CS (i:=0) (n':=n0) rfl]
   show PT Q.b C.j _ _ _ (Q.cls (upd (upd nd 0 n0) (k+1) A) C.j C.L) _ (C.tok.map (Q.b+ ·)) rel
   rw[this];exact M.tr.still ajq
  ·rw[R,M.deaf0];exact f.symm
  ·rw[R];by_cases K:i'=k
   ·subst K;rw[us,M.mV i' hk (fun q y=>by rw[e]at y;cases y),e];rfl
   ·rw[un i' K]at v⊢;exact M.mV i' Y v
  ·rw[R];exact M.above i' Y
  ·rw[M.pg i' Y];by_cases K:i'=k
   ·subst K;rw[us,e];exact Iff.rfl
   ·rw[un i' K]
 refine⟨_,_,_,_,_,sl,_,_,rfl,m,⟨fun i' pc Y=>?_,fun i' pc Y=>?_,nofun,nofun⟩,M1,.inl z⟩
 ·by_cases K:i'=k
  ·subst K;rw[us]at Y;cases Y
  ·rw[un i' K]at Y;exact Bg.blk i' pc Y
 ·by_cases K:i'=k
  ·subst K;rw[us]at Y;cases Y
  ·rw[un i' K]at Y;show¬i'<iM Q.J (Q.J.sends C.L (i+1))
   rw[G];exact Bg.gU i' pc Y
theorem zY{ops:Array bE}(h:∀op∈ops,op.act≠.mark .disable/\op.act≠.mark .enable)(g:Nat):Deaf (t++ops) g=Deaf t g:=by
 obtain⟨l⟩:=ops;rw[Deaf_append];have:∀(l:List _) (d:Nat),(∀op∈l,op.act≠.mark .disable/\op.act≠.mark .enable)->l.foldl (cz g) d=d:=by
  intro l;induction l with
  |nil=>intro d _;rfl
  |cons a l H=>
   intro d Y;rw[List.foldl_cons];have K:=Y a (by simp);have:cz g d a=d:=by
    unfold cz;simp_all
   simp_all
 simp_all
theorem gD.MI.ahH(M:Q.MI C nd fu gs w t q rel)(F:Q.Laws)(h:CI Q.J Q.gK C)(H:Calm Q.J C){md:Md}(hk:k<C.j)(e:C.ks k=.at .recv md)(L:k<iM Q.J C.d)(N:∀f,Q.E.Tree Q.P false (Q.WS (Q.ch C k) f .wr) (nd (k+1)).S (nd (k+1)).X gk w)(fn:au)(pos:String):
  Q.jr C nd fu q (ao (gs.setIfInBounds (Q.b+k) gk) w sl) (t++#[{g:=Q.b+k,fn,pos,act:=.recvClosed (Q.ch C k)}]):=by
 have R:Q.b+k<gs.size:=by rw[M.size];omega
 obtain⟨I,Y⟩:=h.shut F.n8 hk e L;have us:(C.w1 k (.at .wr .run)).ks k=.at .wr .run:=upd_same _ _ _;have D:=zY (t:=t) (ops:=#[({g:=Q.b+k,fn,pos,act:=.recvClosed (Q.ch C k)}:bE)]) (l_ ⟨nofun,nofun⟩);have M1:=M.gm (C':=C.w1 k (.at .wr .run)) (f':=fu (k+1)) (g1:=gk) (w1:=w) (ops:=#[{g:=Q.b+k,fn,pos,act:=.recvClosed (Q.ch C k)}]) (jD:=rel) F hk rfl rfl rfl rfl (fun i A=>upd_ne _ _ A) (by
   rw[us];exact⟨aI R,N _,fun y=>absurd rfl y⟩) (fun S=>.refl _ _ _) rfl (bA (aP Y) (M.fuel (k+1) hk)) (aP Y) rfl (M.wd.cfg rfl rfl rfl rfl rfl (fun e=>⟨e,rfl⟩) rfl rfl rfl)
   (M.tr.still (l_ ⟨rfl,nofun,nofun,by show Q.b+k<Q.b+C.j;omega⟩)) (l_ rfl) (fun _=>by
   rw[us,D,M.mV k hk (fun q y=>by rw[e]at y;cases y),e];rfl) (by
   rw[us,M.xl hk e];exact⟨(fun⟨p,U⟩=>by cases U),fun y=>y.elim⟩) (fun _ _=>rfl) (l_ ⟨(M.gZ.nU _ (qx h.len hk)).1,nofun⟩)
 have K:Calm Q.J (C.w1 k (.at .wr .run)):=th (s':=.at .wr .run) (k:=k) (m':=C.m) (c':=C.c) (v':=C.v) (gY:=C.wt) (gV:=C.ws) (kH:=C.γ) (jQ:=C.dn) (ju:=C.tok) H nofun nofun id fun _ y=>y;exact⟨_,_,_,_,_,sl,_,_,rfl,I,K,M1,.inl Y⟩
end
section
variable{Q:gD}{nd:Nat->Nd}{fu:Nat->Nat}{C C':iw Q.E}{w w':ah}{gs nW:Array ai}{t t':aQ}{q:Nat->Nat}{rel jD:Nat->Option Nat}{sl:Option (Nat×Nat)}
theorem gD.MI.sC(M:Q.MI C nd fu gs w t q rel)(Y:Q.Laws):0<gs.size:=by rw[M.size];have:=Y.b0;omega
theorem gD.MI.ahI(M:Q.MI C nd fu gs w t q rel)(Y:Q.Laws)(h:CI Q.J Q.gK C)(H:Calm Q.J C)(R:C.dm=.run){w1:ah}{es:Array _}(Z:¬Q.DS (fu 0) C.d (nd 0).S (nd 0).X (nd 0).g (nd 0).w)
  (gj:aA Q.P true (nd 0).g w=.go g1 w1 es)(hd:jY Q.E.U (nd 0).S (nd 0).X w w1 es S1 X1)(G:Tz Q.P true Q.E.U (Q.DS (fu 0) C.d) S1 X1 g1 w1)(fn:au)(pos:String):
  Q.jr C nd fu q (ao ((gs.map (aD Q.P (nd 0).g g1 w1)).setIfInBounds 0 g1) w1 sl) (t++ak 0 fn pos es):=by
 have B:=M.sC Y;have M1:Q.MI C (upd nd 0 ⟨S1,X1,g1,w1⟩) (upd fu 0 (fu 0)) (gs.setIfInBounds 0 g1) w1 (t++ak 0 fn pos es) q rel:=by
  refine M.m0 Y.b0 rfl rfl rfl rfl ?_ (fun i A I=>Pv M.gZ (ay _) A (fun y=>I y.symm) hd) (.refl _ _ _) (M.fuel _ (ay _)) (ar _) (M.gZ.did (ay _) hd) (M.wd.did M.gZ Y h.len (ay _) hd) ?_ ?_ (fun g V=>aV t (fun y=>V y.symm) _ pO) (pF M.seen hd.grow (Pu hd (M.gZ.low _ (ay _)) _))
  ·rw[R];exact⟨aI B,G⟩
  ·exact M.R9 Y (ay _) hd fn pos (fun y=>absurd rfl y)
  ·rw[aM,Pt hd];exact M.deaf0
 obtain⟨F,T,D,K,L⟩:=gD.MI.finish Y h M1 (.inl H) H.pf;obtain⟨N,O⟩:=qo T;refine⟨F,_,_,_,_,sl,_,_,rfl,D,K,L,.inr ⟨N,O,.inl ⟨0,by omega,?_,fun i _ A=>upd_ne _ _ A⟩⟩⟩;exact⟨Z,w,es,M.nV _ (ay _),gj,hd⟩
theorem ad1(Y:Calm Q.J C){d':jj}(H:iM Q.J d'=iM Q.J C.d):Calm Q.J (C.dd d' .run v' gY gV):=
 ⟨Y.blk,fun k pc hk=>by show¬k<iM Q.J d';rw[H];exact Y.gU k pc hk,nofun,nofun⟩
theorem gD.MI.Du(M:Q.MI C nd fu gs w t q rel)(H:Q.Laws)(h:CI Q.J Q.gK C)(F:Calm Q.J C){d':jj}{f:Nat}{w1:ah}{es:Array _}(W:fu 0=f+1)(Z:Q.E.Tree Q.P true (Q.DS f d') (nd 0).S (nd 0).X g1 w1)
  (G:∀i,i<=C.j->i≠0->gI Q.E.U (nd i).S w w1)(O:w1.heap.size=w.heap.size)(V:CI Q.J Q.gK (C.dd d' .run v' gY gV))(N:mu Q.J (C.dd d' .run v' gY gV)<mu Q.J C)(wd:Q.Wd (C.dd d' .run v' gY gV) w1)(fn:au)(pos:String)
  (tr:PT Q.b C.j Q.E.mu Q.E.st Q.iU (Q.cls nd C.j C.L) (t++ak 0 fn pos es) (C.tok.map (Q.b+ ·)) rel)(df:o_ d'=bg (o_ C.d) es)(low:∀op∈ak 0 fn pos es,Seen w.heap.size op)(R:iM Q.J d'=iM Q.J C.d\/(bj Q.P (nd 0).g=true/\(g1.status=.running\/g1.status=.finished))):
  Q.jr C nd fu q (ao ((gs.map (aD Q.P (nd 0).g g1 w1)).setIfInBounds 0 g1) w1 sl) (t++ak 0 fn pos es):=by
 have D:=M.sC H;have M1:Q.MI (C.dd d' .run v' gY gV) (upd nd 0 ⟨(nd 0).S,(nd 0).X,g1,w1⟩) (upd fu 0 f) (gs.setIfInBounds 0 g1) w1 (t++ak 0 fn pos es) q rel:=by
  refine M.m0 (C':=C.dd d' .run v' gY gV) H.b0 rfl rfl rfl rfl ?_ G (.refl _ _ _) (by have:=M.fuel 0 (ay _);omega) (aP N) (by rw[O];exact M.gZ.same rfl rfl) wd ?_ ?_ (fun g T=>aV t (fun y=>T y.symm) _ pO) (pF M.seen (bu O.symm) (by simp_all))
  ·exact⟨aI D,Z⟩
  ·unfold gD.cls;rw[gD.CS (n':=⟨(nd 0).S,(nd 0).X,g1,w1⟩) rfl];exact tr
  ·rw[aM,M.deaf0];exact df.symm
 obtain⟨I,B,K,Y,A⟩:=gD.MI.finish H V M1 (R.imp (ad1 F) id) nofun;exact⟨I,_,_,_,_,sl,_,_,rfl,K,Y,A,.inl (by rw[(qo (fu:=fu) B).1];omega)⟩
theorem gD.MI.Dv(M:Q.MI C nd fu gs w t q rel)(R:Q.Laws)(h:CI Q.J Q.gK C)(H:Calm Q.J C){d':jj}{f:Nat}{m:Mark}(F:m=.disable\/m=.enable)(N:fu 0=f+1)(O:Q.E.Tree Q.P true (Q.DS f d') (nd 0).S (nd 0).X g1 w)
  (L:CI Q.J Q.gK (C.dd d' .run C.v C.wt C.ws))(hr:iq Q.J C.v d'<iq Q.J C.v C.d)(fn:au)(pos:String)(df:o_ d'=bg (o_ C.d) #[⟨.mark m,false,true⟩])(Y:iM Q.J d'=iM Q.J C.d):
  Q.jr C nd fu q (ao ((gs.map (aD Q.P (nd 0).g g1 w)).setIfInBounds 0 g1) w sl) (t++ak 0 fn pos #[⟨.mark m,false,true⟩]):=
 M.Du R h H N O (fun _ _ _=>.refl _ _ _) rfl L (Dr hr) (M.wd.cfg rfl rfl rfl rfl rfl (fun e=>⟨e,rfl⟩) rfl rfl Y) fn pos (M.Io (by have:=R.b0;omega) fn pos F) df (tc (by rcases F with rfl|rfl<;>exact⟨trivial,nofun⟩)) (.inl Y)
theorem gD.MI.R_(M:Q.MI C nd fu gs w t q rel)(F:Q.Laws)(h:CI Q.J Q.gK C)(R:Calm Q.J C){d':jj}{f:Nat}{m:Mark}(H:m=.read Q.E.sm\/m=.write Q.E.sm)(O:fu 0=f+1)(V:Q.E.Tree Q.P true (Q.DS f d') (nd 0).S (nd 0).X g1 w)
  (N:CI Q.J Q.gK (C.dd d' .run C.v C.wt C.ws))(hr:iq Q.J C.v d'<iq Q.J C.v C.d)(fn:au)(pos:String)(df:o_ d'=o_ C.d)(Y:iM Q.J d'=iM Q.J C.d):
  Q.jr C nd fu q (ao ((gs.map (aD Q.P (nd 0).g g1 w)).setIfInBounds 0 g1) w sl) (t++ak 0 fn pos #[⟨.mark m,false,true⟩]):=by
 have D:Q.cls nd C.j C.L (.cell Q.E.sm)=.at:=by
  simp only[mU];rw[if_pos (⟨.inr rfl,by omega⟩)]
 refine M.Du F h R O V (fun _ _ _=>.refl _ _ _) rfl N (Dr hr) (M.wd.cfg rfl rfl rfl rfl rfl (fun e=>⟨e,rfl⟩) rfl rfl Y) fn pos ?_ ?_ (tc ?_) (.inl Y)
 ·rw[tX];refine M.tr.app (.inl rfl) (l_ ?_) fun y=>absurd rfl y;refine⟨rfl,?_,?_,fun x K=>?_⟩
  ·rcases H with rfl|rfl<;>nofun
  ·rcases H with rfl|rfl<;>nofun
  ·rcases H with rfl|rfl<;>simp[cx,c9]at K<;>subst K<;>exact .inr (.inr (.inl ⟨D,rfl,rfl⟩))
 ·rcases H with rfl|rfl<;>exact df
 ·have:=M.gZ.nN _ F.rw;rcases H with rfl|rfl<;>exact⟨this,nofun⟩
theorem gD.MI.uT(M:Q.MI C nd fu gs w t q rel)(F:Q.Laws)(h:CI Q.J Q.gK C)(L:Calm Q.J C){d':jj}{f:Nat}{w1:ah}{es:Array _}(V:fu 0=f+1)(Z:Q.E.Tree Q.P true (Q.DS f d') (nd 0).S (nd 0).X g1 w1)(N:Env.Eff Q.E.Wg w w1)(R:Q.E.WgAt w1 v' gY gV)(Y:Env.EvA Q.E.Wg es)
  (O:CI Q.J Q.gK (C.dd d' .run v' gY gV))(hr:iq Q.J v' d'<iq Q.J C.v C.d)(fn:au)(pos:String)(df:o_ d'=o_ C.d)(H:iM Q.J d'=iM Q.J C.d):
  Q.jr C nd fu q (ao ((gs.map (aD Q.P (nd 0).g g1 w1)).setIfInBounds 0 g1) w1 sl) (t++ak 0 fn pos es):=
 M.Du F h L V Z (fun _ _ _=>HD _ M.wd.wg R N) N.size O (Dr hr) ((M.wd.gp F M.gZ h.len N R).cfg rfl rfl rfl rfl rfl (fun e=>⟨e,rfl⟩) rfl rfl H) fn pos
  (M.tr.app (.inl rfl) (G8 Y (.inr rfl) _) fun y=>absurd rfl y) (by rw[CE Y];exact df) (G9 Y (M.gZ.nN _ F.rw) _) (.inl H)
theorem gD.MI.af7(M:Q.MI C nd fu gs w t q rel)(V:Q.Laws)(h:CI Q.J Q.gK C)(Z:Calm Q.J C){f:Nat}(hk:k<C.j)(hd:C.d=.close C.L k)(hs:ob w (Q.ch C k) s)(hw:bj Q.P (nd 0).g=true)(G:g1.status=.running)(hf:fu 0=f+1)
  (ht:Q.E.Tree Q.P true (Q.DS f (Q.J.closes C.L (k+1))) (nd 0).S (nd 0).X g1 (w.setChan (Q.ch C k) 0 #[] true s s false))(fn:au)(pos:String):
  Q.jr C nd fu q (ao ((gs.map (aD Q.P (nd 0).g g1 (w.setChan (Q.ch C k) 0 #[] true s s false))).setIfInBounds 0 g1) (w.setChan (Q.ch C k) 0 #[] true s s false) sl) (t++ak 0 fn pos (bJ (Q.ch C k))):=by
 have Y:=M.gZ.nU _ (qx h.len hk);have D:=h.nT;rw[hd]at D;have u:C.j=Q.J.n:=D.2.1;have m:k<Q.J.n:=D.2.2;have N:iM Q.J (Q.J.closes C.L (k+1))=k+1:=by
  unfold bh;by_cases y:k+1<C.L.length
  ·rw[if_pos y];rfl
  ·rw[if_neg y];show Q.J.n=k+1
   rw[h.len]at y;omega
 have Bh:iM Q.J C.d=k:=by rw[hd];rfl
 have W:(w.setChan (Q.ch C k) 0 #[] true s s false).heap.size=w.heap.size:=by simp[bI]
 have K:∀a,a≠Q.ch C k->(w.setChan (Q.ch C k) 0 #[] true s s false).heap[a]?=w.heap[a]?:=fun a p=>by
  simp only[bI];rw[cI (fun y=>p y.symm)]
 have T:∀O R,ng C.d C.v C.wt C.ws O R->ng (Q.J.closes C.L (k+1)) C.v C.wt C.ws O R:=by
  intro O R c;rw[hd]at c;obtain⟨a1,a2,a3,a4⟩:=c.early id;unfold bh;split<;>exact .inl ⟨a1,a2,a3,a4,id,fun y=>y.elim⟩
 have l:CI Q.J Q.gK (C.dd (Q.J.closes C.L (k+1)) .run C.v C.wt C.ws):=by
  refine h.dd ⟨nofun,nofun,nofun⟩ ?_ ?_ T (by rw[N,Bh];omega) ?_ (fun v0 R=>by unfold bh at R;split at R<;>cases R)
  ·rw[hd];unfold bh;split<;>rfl
  ·rw[hd];unfold bh;split<;>rfl
  ·unfold bh;split
   ·rename_i y;rw[h.len]at y;exact⟨rfl,D.2.1,by omega⟩
   ·exact D.2.1
 have hr:iq Q.J C.v (Q.J.closes C.L (k+1))<iq Q.J C.v C.d:=by
  rw[hd];unfold bh;split
  ·simp only[iq];omega
  ·simp only[iq];omega
 have hF:Q.E.Fd≠Q.ch C k:=fun y=>Y.2.1 (y▸V.rf);have o:Q.E.Wg≠Q.ch C k:=fun y=>Y.2.1 (y▸V.rw);have B:Q.cls nd C.j C.L (.obj (Q.ch C k))=.own 0:=Pr Y.2.1 Y.2.2.1 (.inr ⟨rfl,qx h.len hk⟩) fun i' H=>M.gZ.uniq H (.inr ⟨rfl,qx h.len hk⟩);refine M.Du V h Z hf ht (fun i r _=>vD (Y.2.2.2 i r)) W l (Dr hr) ⟨?_,?_,fun y=>?_,fun i' H A=>?_,fun i' H A=>?_,M.wd.tape,M.wd.out⟩ fn pos ?_ ?_ ?_ (.inr ⟨hw,.inl G⟩)
 ·have:=M.wd.mu;unfold Env.MuAt at this⊢;rw[K _ hF];exact this
 ·have:=M.wd.wg;unfold Env.WgAt at this⊢;rw[K _ o];exact this
 ·rw[K _ fun y=>Y.2.2.1 y.symm];exact M.wd.map y
 ·change i'<iM Q.J (Q.J.closes C.L (k+1))at A;rw[N]at A;by_cases z:i'=k
  ·subst z;refine⟨s,?_⟩;show(w.setChan _ 0 #[] true s s false).heap[Q.ch C i']?=_
   simp only[bI];rw[aI Y.1]
  ·obtain⟨s',I⟩:=M.wd.shut i' H (by rw[Bh];omega);refine⟨s',?_⟩;show(w.setChan _ 0 #[] true s s false).heap[Q.ch C i']?=_
   rw[K _ fun y=>z (yB h H hk y)];exact I
 ·change¬i'<iM Q.J (Q.J.closes C.L (k+1))at A;rw[N]at A;obtain⟨s',I⟩:=M.wd.opn i' H (by rw[Bh];omega);refine⟨s',?_⟩;show(w.setChan _ 0 #[] true s s false).heap[Q.ch C i']?=_
  rw[K _ fun y=>by have:=yB h H hk y;omega];exact I
 ·refine M.tr.app (g:=0) (.inl rfl) (fun op gu=>?_) fun y=>absurd rfl y;obtain⟨ev,U,rfl⟩:=pJ gu;simp only[bJ,br,bq,bt,or_false]at U;rcases U with rfl|rfl
  ·refine⟨rfl,nofun,nofun,fun x F=>?_⟩;simp only[aW,cx,c9]at F;subst F;exact .inr (.inr (.inr (.inr (.inr B))))
  ·exact⟨rfl,nofun,nofun,fun x F=>by simp[aW,cx]at F⟩
 ·rw[hd];have:bg 0 (bJ (Q.ch C k))=0:=by simp[bJ,bg]
  show o_ (Q.J.closes C.L (k+1))=bg 0 _
  rw[this];unfold bh;split<;>rfl
 ·intro op gu;obtain⟨ev,U,rfl⟩:=pJ gu;simp only[bJ,br,bq,bt,or_false]at U;rcases U with rfl|rfl
  ·exact⟨Y.1,nofun⟩
  ·exact⟨Y.1,nofun⟩
theorem ahJ{s s':gN Q.E}(hk:k<Q.J.n)(e:C.ks k=s)(H:nG s'=nG s)(hr:pz s'<pz s):Q.nu (C.w1 k s') q<Q.nu C q:=by
 have Y:=rh (s':=s') nG _ hk e;have K:=rh (s':=s') pz _ hk e;show 10 *(sumTo Q.b q+sumTo _ (fun i=>nG (upd _ k s' i)))+(py C.dm+sumTo _ (fun i=>pz (upd _ k s' i)))<10 *(sumTo Q.b q+sumTo _ _)+(py _+sumTo _ _)
 omega
theorem ahK{pc:Q.E.kv}{md Y:Md}(e:C.ks k=.at pc md):Q.Df (C.w1 k (.at pc Y)) fu=Q.Df C fu:=by
 funext i;cases i with
 |zero=>rfl
 |succ i=>
  show(match upd C.ks k _ i with|.at pc _=>Q.WS (Q.ch C i) _ pc|_=>fun _ _ _ _=>True)=(match C.ks i with|.at pc _=>Q.WS (Q.ch C i) _ pc|_=>fun _ _ _ _=>True)
  by_cases K:i=k
  ·subst K;rw[upd_same,e]
  ·rw[upd_ne _ _ K]
theorem gD.MI.Sa(M:Q.MI C nd fu gs w t q rel)(V:Q.Laws)(h:CI Q.J Q.gK C)(R:Calm Q.J C){pc:Q.E.kv}{lH:Md}(hk:k<C.j)(e:C.ks k=.at pc .run)(gj:Q.WS (Q.ch C k) (fu (k+1)) pc (nd (k+1)).S (nd (k+1)).X (nd (k+1)).g (nd (k+1)).w)
  (H:(lH=.blk/\(∃sv x,pc=.lk (.s1 sv) x)/\C.c=0)\/(lH=.gU/\pc=.recv/\¬k<iM Q.J C.d/\∀i,C.dm=.gU->C.d=.send C.L i->i%Q.J.n≠k)):
  Q.jr C nd fu q (ao (gs.setIfInBounds (Q.b+k) (I2 (Q.ch C k) Q.E.zc lH (nd (k+1)).g)) w sl) (t++#[]):=by
 have N:Q.b+k<gs.size:=by rw[M.size];omega
 have B:k<Q.J.n:=aN hk h.jn;have O:CI Q.J Q.gK (C.w1 k (.at pc lH)):=by
  refine h.quiet hk e rfl (fun y=>rfl) (fun γ y=>?_) (fun γ y=>?_) ?_ (fun y=>?_) (fun p x y=>h.qP k p x .run (by rw[e,y])) (fun p y=>h.oP k p .run (by rw[e,y]))
  ·simp_all
  ·simp_all
  ·rcases H with⟨rfl,I,_⟩|⟨rfl,rfl,_⟩
   ·simp_all
   ·simp
  ·rcases H with⟨rfl,⟨sv,x,rfl⟩,_⟩|⟨rfl,rfl,_⟩<;>exact y.elim
 have F:mu Q.J (C.w1 k (.at pc lH))=mu Q.J C:=Qr B e rfl rfl;have us:(C.w1 k (.at pc lH)).ks k=.at pc lH:=upd_same _ _ _;have un:∀i,i≠k->(C.w1 k (.at pc lH)).ks i=C.ks i:=fun i Y=>upd_ne _ _ Y;have M1:=M.Bf (C':=C.w1 k (.at pc lH)) (w1:=w) (ops:=#[]) (jD:=rel) V hk rfl rfl rfl rfl un (by
   rw[us];exact⟨aI N,.stop gj,fun _=>gj⟩) (fun S=>.refl _ _ _) rfl (bu F) rfl (M.wd.cfg rfl rfl rfl rfl rfl (fun e=>⟨e,rfl⟩) rfl rfl rfl)
   (by exact M.tr) (by simp) (fun _=>by
   rw[us,cD,M.mV k hk (fun q y=>by rw[e]at y;cases y),e];rfl) (by
   rw[us,M.pg k hk,e];exact Iff.rfl) (fun _ _=>rfl) (by simp)
 have A:Calm Q.J (C.w1 k (.at pc lH)):=by
  refine⟨fun i K Y=>?_,fun i K Y=>?_,R.Jp,fun i hd U K Y=>?_⟩
  ·by_cases D:i=k
   ·subst D;rcases H with⟨_,_,I⟩|⟨rfl,_⟩
    ·exact I
    ·rw[us]at Y;cases Y
   ·rw[un i D]at Y;exact R.blk i K Y
  ·by_cases D:i=k
   ·subst D;rcases H with⟨rfl,_⟩|⟨_,_,I,_⟩
    ·rw[us]at Y;cases Y
    ·exact I
   ·rw[un i D]at Y;exact R.gU i K Y
  ·by_cases D:i%Q.J.n=k
   ·rcases H with⟨rfl,_⟩|⟨_,_,_,I⟩
    ·simp_all
    ·exact I i hd U D
   ·rw[un _ D]at Y;exact R.pf i hd U K Y
 refine⟨_,_,_,_,_,sl,_,_,rfl,O,A,M1,.inr ⟨F,ahK e,.inr ⟨rfl,ahJ B e rfl ?_⟩⟩⟩;rcases H with⟨rfl,_⟩|⟨rfl,_⟩<;>exact Nat.zero_lt_one
theorem gD.MI.Sb(M:Q.MI C nd fu gs w t q rel)(O:Q.Laws)(h:CI Q.J Q.gK C)(H:Calm Q.J C){lH:Md}(F:C.dm=.run)(N:Q.xi (gs.setIfInBounds 0 g1) (nd 0) (fu 0) C.L C.d lH)
  (Y:(lH=.blk/\C.d=.w3/\C.ws=0)\/(lH=.gU/\∃i,C.d=.send C.L i/\∀pc,C.ks (i%Q.J.n)≠.at pc .gU)):
  Q.jr C nd fu q (ao (gs.setIfInBounds 0 g1) w sl) (t++#[]):=by
 have I:CI Q.J Q.gK (C.dd C.d lH C.v C.wt C.ws):=by
  refine h.dd ?_ rfl rfl (fun _ _ y=>y) (ar _) h.nT h.w2;rcases Y with⟨rfl,K,_⟩|⟨rfl,i,K,_⟩
  ·simp_all
  ·simp_all
 have R:mu Q.J _=mu Q.J C:=rfl;have M1:=M.m0 (C':=C.dd C.d lH C.v _ _) (t':=t++#[]) O.b0 rfl rfl rfl rfl N (fun _ _ _=>.refl _ _ _) (M.nV 0 (ay _)) (M.fuel 0 (ay _)) (bu R) (by rw[ta];exact M.gZ) (M.wd.cfg rfl rfl rfl rfl rfl (fun e=>⟨e,rfl⟩) rfl rfl rfl)
  (by rw[ta,cD];exact M.tr) (by exact M.deaf0) (fun g _=>by simp) (by exact M.seen)
 rw[ta,ta]at M1;have D:Calm Q.J (C.dd C.d lH C.v C.wt C.ws):=by
  refine⟨H.blk,H.gU,fun y=>?_,fun i y hd=>?_⟩
  ·rcases Y with⟨_,_,K⟩|⟨rfl,_⟩
   ·exact K
   ·cases y
  ·rcases Y with⟨rfl,_⟩|⟨_,i',K,A⟩
   ·cases y
   ·rw[K]at hd;cases hd;exact A
 refine⟨_,_,_,_,_,sl,_,_,rfl,I,D,M1,.inr ⟨R,rfl,.inr ⟨rfl,?_⟩⟩⟩;show 10 *(sumTo Q.b q+sumTo _ (fun k=>nG (C.ks k)))+(py lH+sumTo _ (fun k=>pz (C.ks k)))<10 *(sumTo Q.b q+sumTo _ _)+(py _+sumTo _ _)
 rw[F];have B:py .run=1:=rfl;have U:py lH=0:=by rcases Y with⟨rfl,_⟩|⟨rfl,_⟩<;>rfl
 omega
theorem gD.MI.ad2(M:Q.MI C nd fu gs w t q rel)(N:Q.Laws)(h:CI Q.J Q.gK C)(F:Calm Q.J C)(hi:0<i)(O:i<Q.b)(V:q i=n+1){g:ai}(H:∀e∈es,e.mute=true)(Z:bc Q.P n (bg (Deaf t i) es) g1)(fn:au)(pos:String):
  Q.jr C nd fu q (ao ((gs.map (aD Q.P g g1 w)).setIfInBounds i g1) w sl) (t++ak i fn pos es):=by
 have r:=N.b0;have S:i<gs.size:=by rw[M.size];omega
 have Y:∀g,g≠i->Deaf (t++ak i fn pos es) g=Deaf t g:=fun g I=>aV t (fun y=>I y.symm) _ pO;have M1:Q.MI C nd fu (gs.setIfInBounds i g1) w (t++ak i fn pos es) (upd q i n) rel:=by
  refine⟨by simp[M.size],M.g0.keep (ns (by omega)),fun k hk=>(M.wk k hk).keep (ns (by omega)) (Y _ (by omega)),fun i' l K U I=>?_,M.fuel,M.nV,M.gZ,M.wd,?_,?_,fun k hk V=>by rw[Y _ (by omega)];exact M.mV k hk V,fun i' K=>by rw[Y _ (by omega)];exact M.above i' K,M.pg,M.uS,pF M.seen (ar _) fun op gu=>by
   obtain⟨ev,R,rfl⟩:=pJ gu;exact⟨low_mute (H ev R) _,fun a=>ND (H ev R) a⟩⟩
  ·by_cases B:i'=i
   ·subst B;rw[aI S]at I;obtain rfl:=Option.some.inj I;rw[upd_same,aM];exact Z
   ·rw[ns (fun y=>B y.symm)]at I;rw[upd_ne _ _ B,Y _ B];exact M.old i' l K U I
  ·refine M.tr.still fun op gu=>?_;obtain⟨ev,R,rfl⟩:=pJ gu;refine⟨touch_mute (H ev R),?_,?_,by show i<Q.b+C.j;omega⟩
   ·intro y;have:=H ev R;obtain⟨loc,wr,o⟩:=ev;cases loc<;>simp_all[Event.mute,aW]
   ·intro y;have:=H ev R;obtain⟨loc,wr,o⟩:=ev;cases loc<;>simp_all[Event.mute,aW]
  ·rw[Y 0 (by omega)];exact M.deaf0
 obtain⟨D,T,L,A,G⟩:=gD.MI.finish (g:=g) N h M1 (.inl F) F.pf;obtain⟨W,z⟩:=qo (fu:=fu) T;refine⟨D,_,_,_,_,sl,_,_,rfl,L,A,G,.inr ⟨W,z,.inr ⟨rfl,?_⟩⟩⟩;have X:sumTo Q.b (upd q i n)+(n+1)=sumTo Q.b q+n:=by
  have:=sumTo_upd q n id O;simpa[V]using this
 have d:sumTo Q.J.n (fun i=>nG (D.ks i))=sumTo Q.J.n (fun i=>nG (C.ks i)):=by
  rcases T with rfl|rfl
  ·rfl
  ·exact sumTo_congr fun i _=>vN nG (fun _ _ _=>rfl) _ _
 have p:py D.dm+sumTo Q.J.n (fun i=>pz (D.ks i))<=9:=by
  have r1:∀m:Md,py m<=1:=fun m=>by cases m<;>simp[py]
  have r2:∀s:gN Q.E,pz s<=1:=fun s=>by cases s<;>simp[pz,r1]
  have:=sumTo_le (f:=fun i=>pz (D.ks i)) (c:=1) (j:=Q.J.n) fun i _=>r2 _;have:=r1 D.dm;have:=N.n8;omega
 unfold gD.nu;rw[d];omega
end
section
variable{Q:gD}{nd:Nat->Nd}{fu:Nat->Nat}{C C':iw Q.E}{w w':ah}{gs nW:Array ai}{t t':aQ}{q:Nat->Nat}{rel jD:Nat->Option Nat}{sl:Option (Nat×Nat)}
theorem Am(c f:Nat):Q.WS c f .recv=Q.A c:=by
 cases f<;>rfl
theorem Rj(h:CI Q.J Q.gK C){c:Nat}(hk:k<C.j):(C.L++[c]).getD k 0=Q.ch C k:=by
 unfold gD.ch;rw[aY,aY,List.getElem?_append_left (by rw[h.len];exact hk)]
theorem Rk(h:CI Q.J Q.gK C){c:Nat}:(C.L++[c]).getD C.j 0=c:=by
 rw[aY,List.getElem?_append_right (by rw[h.len];omega),h.len];simp
theorem gD.MI.af8(M:Q.MI C nd fu gs w t q rel)(hQ:Q.Laws)(h:CI Q.J Q.gK C)(Bg:Calm Q.J C){c f:Nat}{child:ai}(hd:C.d=.go C.L c)(hf:fu 0=f+1)(W:(nd 0).S c)(Bi:(nd 0).X c)(Kk:ob w c 0)(Jr:Q.j8 c child w)
  (ht:Q.E.Tree Q.P true (Q.DS f (Q.J.kh (C.L++[c]))) (fun a=>(nd 0).S a/\a≠c) (fun a=>(nd 0).X a/\a≠c) g1 w)(fn:au)(pos:String)(iO:au)(F:String):
  Q.jr C nd fu q (ao ((gs.setIfInBounds 0 g1).push child) w sl) (t++#[{g:=0,fn,pos,act:=.go (Q.b+C.j)}]++#[{g:=Q.b+C.j,fn:=iO,pos:=F,act:=.start}]):=by
 have hb:=hQ.b0;have xG:=M.sC hQ;have hcL:c∉C.L:=fun y=>(M.gZ.nU c y).2.2.2 0 (ay _) W;have r:¬Q.RO c:=fun y=>M.gZ.mB 0 (ay _) c y Bi;have hcM:c≠Q.E.Mp:=fun y=>by
  rw[y]at W;obtain⟨k,e,_⟩:=M.gZ.mp 0 (ay _) W;cases e
 have ajr:=M.gZ.low 0 (ay _) c W;obtain⟨hC,hrk⟩:=h.spawn hQ.n0 hQ.n8 hd hcL;have Kl:mu Q.J (C.spawn Q.J c)<mu Q.J C:=xh hQ.n8 (show(C.spawn Q.J c).c<=1 from h.c1) hrk;have us:(C.spawn Q.J c).ks C.j=.at .recv .run:=upd_same _ _ _;have un:∀i,i≠C.j->(C.spawn Q.J c).ks i=C.ks i:=fun i D=>upd_ne _ _ D
 let n0:Nd:=⟨fun a=>(nd 0).S a/\a≠c,fun a=>(nd 0).X a/\a≠c,g1,w⟩
 let V:Nd:=⟨Q.RO,fun _=>False,child,w⟩
 have u:upd (upd nd 0 n0) (C.j+1) V 0=n0:=by rw[upd_ne _ _ (by omega),upd_same]
 have v:upd (upd nd 0 n0) (C.j+1) V (C.j+1)=V:=upd_same _ _ _;have x:∀i,i≠0->i≠C.j+1->upd (upd nd 0 n0) (C.j+1) V i=nd i:=fun i Y H=>by rw[upd_ne _ _ H,upd_ne _ _ Y]
 have f0:upd (upd fu 0 f) (C.j+1) (mu Q.J C) 0=f:=by rw[upd_ne _ _ (by omega),upd_same]
 have fk:upd (upd fu 0 f) (C.j+1) (mu Q.J C) (C.j+1)=mu Q.J C:=upd_same _ _ _;have fo:∀i,i≠0->i≠C.j+1->upd (upd fu 0 f) (C.j+1) (mu Q.J C) i=fu i:=fun i Y H=>by rw[upd_ne _ _ H,upd_ne _ _ Y]
 have cN:iM Q.J (Q.J.kh (C.L++[c]))=0:=by
  rcases uf (J:=Q.J) (L:=C.L++[c])with⟨_,e⟩|⟨_,_,e⟩|⟨_,_,e⟩<;>rw[e]<;>rfl
 have dN:o_ (Q.J.kh (C.L++[c]))=0:=by
  rcases uf (J:=Q.J) (L:=C.L++[c])with⟨_,e⟩|⟨_,_,e⟩|⟨_,_,e⟩<;>rw[e]<;>rfl
 have O:∀g,Deaf (t++#[({g:=0,fn,pos,act:=.go (Q.b+C.j)}:bE)]++#[{g:=Q.b+C.j,fn:=iO,pos:=F,act:=.start}]) g=Deaf t g:=fun g=>by
  rw[zY (ops:=#[({g:=Q.b+C.j,fn:=iO,pos:=F,act:=.start}:bE)]) (l_ ⟨nofun,nofun⟩),zY (ops:=#[({g:=0,fn,pos,act:=.go (Q.b+C.j)}:bE)]) (l_ ⟨nofun,nofun⟩)]
 have G:(gs.setIfInBounds 0 g1).size=Q.b+C.j:=by simp[M.size]
 have gp:∀i,i≠0->i≠Q.b+C.j->((gs.setIfInBounds 0 g1).push child)[i]?=gs[i]?:=fun i Y H=>by
  rw[ck,if_neg (by rw[G];exact H),ns (fun y=>Y y.symm)]
 have M1:Q.MI (C.spawn Q.J c) (upd (upd nd 0 n0) (C.j+1) V) (upd (upd fu 0 f) (C.j+1) (mu Q.J C)) ((gs.setIfInBounds 0 g1).push child) w (t++#[{g:=0,fn,pos,act:=.go (Q.b+C.j)}]++#[{g:=Q.b+C.j,fn:=iO,pos:=F,act:=.start}]) q rel:=by
  refine⟨?_,?_,fun k hk=>?_,fun i g D hib hg=>?_,fun i D=>?_,fun i D=>?_,?_,?_,?_,?_,fun k hk hq=>?_,fun i D=>?_,fun k hk=>?_,fun k hk=>?_,?_⟩
  ·rw[Array.size_push,G];rfl
  ·rw[u,f0];refine⟨?_,ht⟩;rw[ck,if_neg (by rw[G];omega),aI xG]
  ·have l:k<C.j+1:=hk;by_cases B:k=C.j
   ·subst B;rw[v,fk,us];refine⟨?_,?_,fun y=>absurd rfl y⟩
    ·rw[ck,if_pos (by rw[G])];rfl
    ·rw[Am];show Tz Q.P false Q.E.U (Q.A ((C.L++[c]).getD C.j 0)) _ _ _ _
     rw[Rk h];exact hQ.Ex Jr
   ·rw[x _ (by omega) (by omega),fo _ (by omega) (by omega),un k B];show Q.tN ((C.L++[c]).getD k 0) _ _ _ _ _ _
    rw[Rj h (by omega)];exact(M.wk k (by omega)).keep (gp _ (by omega) (by omega)) (O _)
  ·rw[gp i (by omega) (by omega)]at hg;rw[O];exact M.old i g D hib hg
  ·have N:i<=C.j+1:=D;by_cases Y:i=0
   ·subst Y;rw[f0];have:=M.fuel 0 (ay _);omega
   ·by_cases H:i=C.j+1
    ·subst H;rw[fk];omega
    ·rw[fo i Y H];have:=M.fuel i (by omega);omega
  ·have N:i<=C.j+1:=D;by_cases Y:i=0
   ·subst Y;rw[u];exact .refl _ _ _
   ·by_cases H:i=C.j+1
    ·subst H;rw[v];exact .refl _ _ _
    ·rw[x i Y H];exact M.nV i (by omega)
  ·
   have S':∀i a,i<=C.j+1->(upd (upd nd 0 n0) (C.j+1) V i).S a->(i<=C.j/\(nd i).S a/\(i=0->a≠c))\/(i=C.j+1/\Q.RO a):=by
    intro i a D K;by_cases Y:i=0
    ·subst Y;rw[u]at K;exact .inl ⟨ay _,K.1,fun _=>K.2⟩
    ·by_cases H:i=C.j+1
     ·subst H;rw[v]at K;exact .inr ⟨rfl,K⟩
     ·rw[x i Y H]at K;exact .inl ⟨by omega,K,fun y=>absurd y Y⟩
   have X':∀i a,i<=C.j+1->(upd (upd nd 0 n0) (C.j+1) V i).X a->i<=C.j/\(nd i).X a/\(i=0->a≠c):=by
    intro i a D K;by_cases Y:i=0
    ·subst Y;rw[u]at K;exact⟨ay _,K.1,fun _=>K.2⟩
    ·by_cases H:i=C.j+1
     ·subst H;rw[v]at K;exact K.elim
     ·rw[x i Y H]at K;exact⟨by omega,K,fun y=>absurd y Y⟩
   refine⟨fun i i' D N I a T K=>?_,fun i D a K=>?_,fun i D a K=>?_,fun i D a hr T=>?_,fun i D a T=>?_,fun i D K=>?_,M.gZ.nN,M.gZ.tO,fun c' hc'=>?_⟩
   ·obtain⟨a1,a2,_⟩:=X' i a D T;rcases S' i' a N K with⟨Z,R,_⟩|⟨_,R⟩
    ·exact M.gZ.xj i i' a1 Z I a a2 R
    ·exact M.gZ.mB i a1 a R a2
   ·rcases S' i a D K with⟨Z,R,_⟩|⟨_,R⟩
    ·exact M.gZ.low i Z a R
    ·exact M.gZ.nN a R
   ·by_cases Y:i=0
    ·subst Y;rw[u]at K⊢;exact(M.gZ.sub 0 (ay _) a K.1).imp id fun y=>⟨y,K.2⟩
    ·by_cases H:i=C.j+1
     ·subst H;rw[v]at K;exact .inl K
     ·have N:i<=C.j+1:=D;rw[x i Y H]at K⊢;exact M.gZ.sub i (by omega) a K
   ·obtain⟨a1,a2,_⟩:=X' i a D T;exact M.gZ.mB i a1 a hr a2
   ·by_cases Y:i=0
    ·subst Y;rw[u]at T⊢;exact⟨M.gZ.xs 0 (ay _) a T.1,T.2⟩
    ·by_cases H:i=C.j+1
     ·subst H;rw[v]at T;exact T.elim
     ·have N:i<=C.j+1:=D;rw[x i Y H]at T⊢;exact M.gZ.xs i (by omega) a T
   ·rcases S' i _ D K with⟨Z,R,_⟩|⟨_,R⟩
    ·exact M.gZ.mp i Z R
    ·exact absurd R hQ.rm
   ·have hm:c'∈C.L\/c'=c:=by simpa using(show c'∈C.L++[c]from hc')
    rcases hm with y|rfl
    ·obtain⟨Y,H,h3,h4⟩:=M.gZ.nU c' y;refine⟨Y,H,h3,fun i D K=>?_⟩;rcases S' i c' D K with⟨Z,R,_⟩|⟨_,R⟩
     ·exact h4 i Z R
     ·exact H R
    ·refine⟨ajr,r,hcM,fun i D K=>?_⟩;rcases S' i c' D K with⟨Z,R,b3⟩|⟨_,R⟩
     ·by_cases Y:i=0
      ·exact b3 Y rfl
      ·exact M.gZ.xj 0 i (ay _) Z (fun y=>Y y.symm) c' Bi R
     ·exact r R
  ·refine⟨M.wd.mu,M.wd.wg,M.wd.map,fun k hk o=>?_,fun k hk o=>?_,M.wd.tape,M.wd.out⟩
   ·change k<iM Q.J (Q.J.kh (C.L++[c]))at o;rw[cN]at o;exact absurd o (a_ _)
   ·have l:k<C.j+1:=hk;by_cases B:k=C.j
    ·subst B;exact⟨0,by show ob w ((C.L++[c]).getD C.j 0) 0;rw[Rk h];exact Kk⟩
    ·obtain⟨s,K⟩:=M.wd.opn k (by omega) (by rw[hd];exact a_ _);exact⟨s,by show ob w ((C.L++[c]).getD k 0) s;rw[Rj h (by omega)];exact K⟩
  ·have n:Q.cls (upd (upd nd 0 n0) (C.j+1) V) (C.j+1) (C.L++[c])=Q.cls nd C.j C.L:=by
    have:gD.om (upd (upd nd 0 n0) (C.j+1) V) (C.j+1) (C.L++[c])=gD.om nd C.j C.L:=by
     funext i a;apply propext;unfold gD.om;by_cases Y:i=0
     ·subst Y;rw[u];constructor
      ·rintro(⟨_,y⟩|⟨_,y⟩)
       ·exact .inl ⟨ay _,y.1⟩
       ·have hm:a∈C.L\/a=c:=by simpa using y
        rcases hm with y|rfl
        ·exact .inr ⟨rfl,y⟩
        ·exact .inl ⟨ay _,Bi⟩
      ·rintro(⟨_,y⟩|⟨_,y⟩)
       ·by_cases m:a=c
        ·exact .inr ⟨rfl,by simp[m]⟩
        ·exact .inl ⟨ay _,y,m⟩
       ·exact .inr ⟨rfl,by simp[y]⟩
     ·by_cases H:i=C.j+1
      ·subst H;rw[v];exact⟨fun y=>y.elim (fun z=>z.2.elim) fun z=>absurd z.1 Y,fun y=>y.elim (fun z=>by omega) fun z=>absurd z.1 Y⟩
      ·rw[x i Y H];exact⟨fun y=>y.imp (fun z=>⟨by omega,z.2⟩) fun z=>absurd z.1 Y,fun y=>y.imp (fun z=>⟨by omega,z.2⟩) fun z=>absurd z.1 Y⟩
    unfold gD.cls;rw[this]
   show PT Q.b (C.j+1) Q.E.mu Q.E.st Q.iU (Q.cls (upd (upd nd 0 n0) (C.j+1) V) (C.j+1) (C.L++[c])) _ (C.tok.map (Q.b+ ·)) rel
   rw[n];exact M.tr.fork (by rw[M.deaf0,hd];rfl) (M.above _ (ar _))
  ·rw[O,M.deaf0,hd];exact dN.symm
  ·have l:k<C.j+1:=hk;rw[O];by_cases B:k=C.j
   ·subst B;rw[us,M.above _ (ar _)];rfl
   ·rw[un k B]at hq⊢;exact M.mV k (by omega) hq
  ·have N:Q.b+(C.j+1)<=i:=D;rw[O];exact M.above i (by omega)
  ·have l:k<C.j+1:=hk;by_cases B:k=C.j
   ·subst B;rw[us,M.uS _ (ar _)];exact⟨(fun⟨p,hp⟩=>by cases hp),fun y=>y.elim⟩
   ·rw[un k B];exact M.pg k (by omega)
  ·have l:C.j+1<=k:=hk;exact M.uS k (by omega)
  ·exact pF (w:=w) (pF M.seen (ar _) (l_ ⟨trivial,nofun⟩)) (ar _) (l_ ⟨trivial,nofun⟩)
 refine⟨_,_,_,_,_,sl,_,_,rfl,hC,⟨fun k pc hk=>?_,fun k pc hk o=>?_,nofun,nofun⟩,M1,.inl Kl⟩
 ·by_cases B:k=C.j
  ·subst B;rw[us]at hk;cases hk
  ·rw[un k B]at hk;exact Bg.blk k pc hk
 ·change k<iM Q.J (Q.J.kh (C.L++[c]))at o;rw[cN]at o;exact absurd o (a_ _)
def gD.wX(Q:gD)(m:Machine)(t:aQ):=∃gs w sl q S X g,∃dn:List Nat,m=ao gs w sl/\gs[0]?=some g/\Q.Fin S X g w/\Leavers Q.P t gs q/\Past Q.iU w.heap.size t/\Q.E.mi (dn.foldl Q.E.upd Q.gK) (w.heap[Q.E.Mp]?)/\dn.Perm Q.J.gB/\Q.E.MuAt w Word.zero 0/\Q.E.WgAt w 0 0 0/\w.tape=Q.w0.tape/\w.output=Q.w0.output/\(∀a,S a->a<w.heap.size)/\¬S Q.E.Mp/\Q.E.Mp<w.heap.size/\(∀op∈t,Seen w.heap.size op)
theorem nx(f:PC->Nat)(Y:f .out=0):∀n,Lock.gT f (fun _=>.out) n=0
 |0=>rfl
 |n+1=>by rw[Lock.gT,nx f Y n,Y]
theorem aag{m:Word}{c:Nat}(h:Lock.Inv (fun _=>.out) n m c):m=Word.zero/\c=0:=by
 have H:=h.held;rw[nx _ rfl]at H;have B:m.L=false:=by
  cases e:m.L with
  |false=>rfl
  |true=>rw[e]at H;cases H
 cases D:m.S with
 |true=>
  obtain⟨_,_,_,_,A,F⟩:=h.lF D;rw[nx _ rfl,nx _ rfl,nx _ rfl]at A;omega
 |false=>
  obtain⟨Y,I,_⟩:=h.calm D;rw[nx _ rfl,nx _ rfl,nx _ rfl]at Y;rw[nx _ rfl,nx _ rfl]at I;have R:c=0:=by omega
  have C:m.W=0:=by omega
  have U:m.K=false:=by
   cases e:m.K with
   |false=>rfl
   |true=>
    rw[e,R]at Y;cases Y
  obtain⟨l,k,s,J⟩:=m;subst B D C U;exact⟨rfl,R⟩
theorem Qu{j:Nat}{f:Nat->Nat}(H:∀i,f i<=1)(Y:∀i,j<=i->f i=0)(L:j<=n)(hk:k<j)(F:f k=0):sumTo n f+1<=j:=by
 have D:∀n,j<=n->sumTo n f=sumTo j f:=by
  intro n;induction n with
  |zero=>intro h;omega
  |succ n K=>
   intro h;by_cases e:j=n+1
   ·rw[e]
   ·rw[sumTo,K (by omega),Y n (by omega)];rfl
 have R:=sumTo_upd f 1 id hk;have I:=sumTo_le (f:=fun a=>id (upd f k 1 a)) (c:=1) (j:=j) fun i _=>by
  by_cases e:i=k
  ·subst e;rw[upd_same];simp_all
  ·rw[upd_ne _ _ e];exact H i
 simp_all
theorem CI.over(h:CI Q.J Q.gK C)(R:yM C.d)(hk:k<C.j):∃n,C.ks k=.qt n:=by
 have U:C.v=0/\sumTo Q.J.n (fun k=>ja (C.ks k))=0/\sumTo Q.J.n (fun k=>je (C.ks k))=0:=by
  rcases h.ph with⟨_,_,a,b,_,c⟩|⟨y,_⟩
  ·simp_all
  ·revert y R;cases C.d<;>intro a b<;>first|exact a.elim|exact b.elim
 have A:=h.px;have Y:=aN hk h.jn;have D:=le_sumTo (f:=fun k=>ja (C.ks k)) Y;have H:=le_sumTo (f:=fun k=>je (C.ks k)) Y;have hd:kE (C.ks k)≠0:=by
  intro y;have:=Qu (f:=fun k=>kE (C.ks k)) (fun i=>by
   cases C.ks i<;>simp only[kE]<;>(try split)<;>omega) (fun i K=>by rw[h.no i K];rfl) h.jn hk y
  omega
 cases e:C.ks k with
 |no=>exact absurd e (h.yes k hk)
 |«at» pc md=>rw[e]at hd;exact absurd rfl hd
 |gP i n=>
  rw[e]at hd;simp[e]at D H;by_cases K:i<=2
  ·by_cases I:i=0
   ·subst I;have:je (gN.gP 0 n:gN Q.E)=1:=rfl;omega
   ·have:ja (gN.gP i n:gN Q.E)=1:=by
     show(if i=1\/i=2 then 1 else 0)=1
     rw[if_pos (by omega)]
    omega
  ·exact absurd (by show(if i<=2 then 1 else 0)=0;simp_all) hd
 |qt n=>exact⟨n,rfl⟩
theorem gD.MI.final(M:Q.MI C nd fu gs w t q rel)(F:Q.Laws)(h:CI Q.J Q.gK C)(hd:C.d=.aq){g:ai}(hF:Q.Fin (nd 0).S (nd 0).X g1 w)(fn:au)(pos:String):
  Q.wX (ao ((gs.map (aD Q.P g g1 w)).setIfInBounds 0 g1) w sl) (t++ak 0 fn pos #[⟨.mark (.acquire Q.E.st),false,true⟩]):=by
 have hb:=F.b0;have N:=M.sC F;have Y:yM C.d:=by rw[hd];trivial
 have A:∀k,k<C.j->∃n,C.ks k=.qt n:=fun k hk=>h.over Y hk;have V:∀k,iI (C.ks k)=.out:=fun k=>by
  by_cases hk:k<C.j
  ·obtain⟨n,e⟩:=A k hk;rw[e];rfl
  ·rw[h.no k (by omega)];rfl
 have z:C.m=Word.zero/\C.c=0:=by
  have:=h.lock;rw[funext V]at this;exact aag this
 have O:C.v=0/\C.wt=0/\C.ws=0:=by
  rcases h.ph with⟨a,b,_,_,_,c⟩|⟨y,_⟩
  ·exact⟨c Y,a,b⟩
  ·rw[hd]at y;exact y.elim
 have I:C.tok=none:=by
  cases e:C.tok with
  |none=>rfl
  |some k=>
   obtain⟨md,e'⟩:=h.rz k e;have hk:k<C.j:=bG fun y=>by rw[h.no k y]at e';cases e'
   obtain⟨n,o⟩:=A k hk;rw[o]at e';cases e'
 have D:∀k,Q.b<=k->k<Q.b+C.j->∃p,rel k=some p:=by
  intro k Z U;obtain⟨k',rfl⟩:∃k',k=Q.b+k':=⟨k-Q.b,by omega⟩;refine(M.pg k' (by omega)).2 ?_;obtain⟨n,e⟩:=A k' (by omega);rw[e];trivial
 have B:Deaf t 0=0:=by rw[M.deaf0,hd];rfl
 have H:∀g,g≠0->Deaf (t++ak 0 fn pos #[⟨.mark (.acquire Q.E.st),false,true⟩]) g=Deaf t g:=fun g r=>aV t (fun y=>r y.symm) _ pO;refine⟨_,w,sl,fun i=>if i<Q.b then q i else nG (C.ks (i-Q.b)),(nd 0).S,(nd 0).X,g1,C.dn,rfl,aI (by simpa using N),hF,⟨fun i u L R=>?_,fun i L=>?_⟩,?_,?_,?_,?_,?_,M.wd.tape,M.wd.out,M.gZ.low 0 (ay _),fun y=>?_,M.gZ.tO,pF M.seen (ar _) (tc ⟨M.gZ.nN _ F.rw,nofun⟩)⟩
 ·rw[H i (by omega)];rw[ns (by omega),bP]at R;obtain⟨y,T,rfl⟩:=bY.1 R;by_cases K:i<Q.b
  ·simp only[if_pos K];have:=M.old i y L K T;rw[dp this];exact this
  ·simp only[if_neg K];have s:i<Q.b+C.j:=by rw[<-M.size];exact(bO.1 T).1
   obtain⟨k,rfl⟩:∃k,i=Q.b+k:=⟨i-Q.b,by omega⟩;have W:=M.wk k (by omega);obtain⟨n,e⟩:=A k (by omega);rw[e]at W;obtain⟨x,Z,U⟩:=W;obtain rfl:=Option.some.inj (T.symm.trans Z);rw[dp U,show Q.b+k-Q.b=k by omega,e];exact U
 ·have:Q.b+C.j<=i:=by simpa[M.size]using L
  rw[H i (by omega)];exact M.above i this
 ·rw[tX];refine M.tr.join D B fun op gu=>?_;have G:=pF M.seen (ar _) (tc (g:=0) (fn:=fn) (pos:=pos) (m:=.acquire Q.E.st) ⟨M.gZ.nN _ F.rw,nofun⟩);rw[tX]at G;exact(G op gu).1
 ·rw[<-h.fold];exact M.wd.map I
 ·rw[List.perm_iff_count];intro y;have:=h.num y;rw[hd]at this;have l:sumTo Q.J.n (fun k=>qE y (C.ks k))=0:=by
   have:=sumTo_le (f:=fun k=>qE y (C.ks k)) (c:=0) (j:=Q.J.n) fun i _=>by
    by_cases hk:i<C.j
    ·obtain⟨n,e⟩:=A i hk;rw[e];exact ar _
    ·rw[h.no i (by omega)];exact ar _
   omega
  rw[l]at this;rw[show r4 Q.J jj.aq=Q.J.gB.length from rfl,List.take_length]at this;omega
 ·have:=M.wd.mu;rw[z.1,z.2]at this;exact this
 ·have:=M.wd.wg;rw[O.1,O.2.1,O.2.2]at this;exact this
 ·obtain⟨k,e,_⟩:=M.gZ.mp 0 (ay _) y;cases e
end
section
variable{Q:gD}{nd:Nat->Nd}{fu:Nat->Nat}{C C':iw Q.E}{w w':ah}{gs nW:Array ai}{t t':aQ}{q:Nat->Nat}{rel jD:Nat->Option Nat}{sl:Option (Nat×Nat)}
theorem gD.MI.at(M:Q.MI C nd fu gs w t q rel)(d:Nat):Q.MI C nd fu gs (w.at d) t q rel:=
 ⟨M.size,M.g0,M.wk,M.old,M.fuel,fun i Y=>(M.nV i Y).trans (Ai _ _ _ _),M.gZ,M.wd.at d,M.tr,M.deaf0,M.mV,M.above,M.pg,M.uS,M.seen⟩
theorem Mn{P:aH}{g:ai}{w1:ah}(h:g1.status=.blocked)(gs:Array _):gs.map (aD P g g1 w1)=gs:=by
 have:aD P g g1 w1=id:=by funext o;simp[aD,h]
 simp_all
theorem xV(g:Nat)(fn:au)(pos:String):ak g fn pos #[]=#[]:=rfl
theorem gD.MI.Sc(M:Q.MI C nd fu gs w t q rel)(H:Q.Laws)(h:CI Q.J Q.gK C)(F:Calm Q.J C){md:Md}(hk:k<C.j)(O:C.ks k=.at .recv md)(N:Q.A (Q.ch C k) (nd (k+1)).S (nd (k+1)).X (nd (k+1)).g (nd (k+1)).w)(V:gs[Q.b+k]?=some gx)
  (gj:aA Q.P false gx w=.comm (nd (k+1)).g #[bL (Q.ch C k) Q.E.zc] true (.recv true) w #[])(Z:md=.run\/k<iM Q.J C.d):
  ∃m' ops,runT Q.P (ao gs w sl) (Q.b+k)=(.next m',ops)/\Q.jr C nd fu q m' (t++ops):=by
 have hb:=H.b0;have B:(Q.b+k==0)=false:=by simp;omega
 have D:aA Q.P (Q.b+k==0) gx w=.comm (nd (k+1)).g #[bL (Q.ch C k) Q.E.zc] true (.recv true) w #[]:=by rw[B];exact gj
 have hr:=M.nV (k+1) hk;by_cases Y:k<iM Q.J C.d
 ·obtain⟨s,U⟩:=M.wd.shut k hk Y;have G:=M.noSend (i0:=Q.b+k) H h hk (fun i _ hd=>by rw[hd]at Y;exact absurd Y (a_ _));refine⟨_,_,crowd_recv_closed (sl:=sl) V D U G,?_⟩;exact M.ahH H h F hk O Y (fun f=>H.R8 N hr f) _ _
 ·obtain⟨s,U⟩:=M.wd.opn k hk Y;have T:md=.run:=Z.resolve_right Y;subst T;have waits:(∀i,C.dm=.gU->C.d=.send C.L i->i%Q.J.n≠k)->∃m' ops,runT Q.P (ao gs w sl) (Q.b+k)=(.next m',ops)/\Q.jr C nd fu q m' (t++ops):=by
   intro r;refine⟨_,_,crowd_waits (sl:=sl) V D (fun cc R=>?_),?_⟩
   ·simp only[br,bq,bt,or_false]at R;subst R;exact ways_recv_none U (M.noSend H h hk r)
   ·rw[xV];exact M.Sa H h F (lH:=.gU) hk O (by rw[Am];exact N) (.inr ⟨rfl,rfl,Y,r⟩)
  by_cases p:C.dm=.gU
  ·have o:=M.g0;rw[p]at o;obtain⟨_,i,c,x,z,f0,u,v,m,W,l,a⟩:=o;by_cases I:i%Q.J.n=k
   ·have R:c=Q.ch C k:=by
     unfold gD.ch;rw[<-I,aY,m];rfl
    subst R;have G:=M.ad0 (k:=k) H l;refine⟨_,_,crowd_recv_meets (sl:=sl) V D U (by omega) l G,?_⟩;rw[xV,cE,db,dc];have hx:Q.ok x:=H.Kh x (cZ W);have K:=M.gZ.nU _ (qx h.len hk);have xG:Q.b+k<gs.size:=by rw[M.size];omega
    refine M.hand H h F hk O u I W v U ?_ ?_ (fun i' e h2=>?_) (by simp) (a _ ((M.nV 0 (ay _)).trans (vD (K.2.2.2 0 (ay _))))) (H.Jq N (hr.trans (vD (K.2.2.2 (k+1) hk))) hx _) ?_ (fun g=>zY ?_ g) ?_
    ·rw[ns (by omega),aI (M.sC H)]
    ·simp_all
    ·rw[ns (fun y=>h2 y.symm),ns (fun y=>e y.symm)]
    ·intro op gu;simp only[br,bq,bt,or_false]at gu;rcases gu with rfl|rfl|rfl|rfl
     ·exact⟨rfl,nofun,nofun,by show 0<Q.b+C.j;omega⟩
     ·exact⟨rfl,nofun,nofun,by show Q.b+k<Q.b+C.j;omega⟩
     ·exact⟨rfl,nofun,nofun,by show 0<Q.b+C.j;omega⟩
     ·exact⟨rfl,nofun,nofun,by show Q.b+k<Q.b+C.j;omega⟩
    ·simp
    ·intro op gu;simp only[br,bq,bt,or_false]at gu;rcases gu with rfl|rfl|rfl|rfl<;>exact⟨K.1,nofun⟩
   ·simp_all
  ·exact waits fun i y _=>absurd y p
theorem gD.MI.wz4(M:Q.MI C nd fu gs w t q rel)(L:Q.Laws)(h:CI Q.J Q.gK C)(Y:Calm Q.J C)(hk:k<C.j){g:ai}{R:Prop}(N:C.ks k=.gP 4 0)(F:Q.E.TG Q.P g)
  (H:∀{g1:ai} {w1:ah} {es:Array _},aA Q.P false g w=.go g1 w1 es->Q.jr C nd fu q (ao ((gs.map (aD Q.P g g1 w1)).setIfInBounds (Q.b+k) g1) w1 sl) (t++ak (Q.b+k) g.frame.fn g.frame.place es)->R):R:=by
 obtain⟨_,g1,K,n,D⟩:=F;exact H (K w) (M.wd4 L h Y hk N D _ _)
theorem gD.MI.wz3(M:Q.MI C nd fu gs w t q rel)(V:Q.Laws)(h:CI Q.J Q.gK C)(H:Calm Q.J C)(hk:k<C.j){g:ai}{R:Prop}(N:C.ks k=.gP 3 0)(h2:Q.E.J_ Q.P g)
  (F:∀{g1:ai} {w1:ah} {es:Array bp},aA Q.P false g w=.go g1 w1 es->Q.jr C nd fu q (ao ((gs.map (aD Q.P g g1 w1)).setIfInBounds (Q.b+k) g1) w1 sl) (t++ak (Q.b+k) g.frame.fn g.frame.place es)->R):R:=by
 have A:k<Q.J.n:=aN hk h.jn;have u:=V.n8;have ph:=h.ph;have l2:=le_sumTo (f:=fun k=>ja (C.ks k)) A;have l0:=le_sumTo (f:=fun k=>je (C.ks k)) A;simp only[N]at l2 l0;have I:=M.wd.wg;have W:=Qu (f:=fun k=>kE (C.ks k)) (j:=C.j) (n:=Q.J.n) (fun i=>by
  show kE (C.ks i)<=1
  cases C.ks i<;>simp only[kE]<;>(try split)<;>omega) (fun i p=>by show kE (C.ks i)=0;rw[h.no i p];rfl) h.jn hk (by show kE (C.ks k)=0;rw[N];rfl)
 have G:=h.px;have r:=h.jn;have m:o8 C.d<=1:=by cases C.d<;>simp[o8]
 obtain⟨v,O⟩:∃v,C.v=v+1:=⟨C.v-1,by omega⟩;have K:C.ws=0/\C.wt<=1/\¬yM C.d:=by
  rcases ph with⟨a,b,_,_,_,c⟩|⟨y,⟨a,b,_⟩|⟨_,_,a,_⟩|⟨_,_,a,_⟩|⟨_,_,a,_⟩⟩
  ·exact⟨b,by omega,fun y=>by have:=c y;omega⟩
  ·exact⟨b,by omega,fun z=>by revert y z;cases C.d<;>intro y z<;>first|exact y|exact z⟩
  ·omega
  ·omega
  ·omega
 rw[O,K.1]at I;obtain⟨g1,w1,es,X,L,Z,D,x,s⟩:=h2.2 w v C.wt (by omega) K.2.1 I;have B:iq Q.J v C.d<=iq Q.J C.v C.d:=by rw[O];cases C.d<;>simp only[iq]<;>omega
 by_cases S:v=0/\C.wt=1
 ·obtain⟨n,Y⟩:=x S;refine F X (M.A0 (s':=.gP 2 n) (i:=3) V h H hk N (by omega) Z L D (.inl ⟨2,n,rfl,by omega,Y⟩) (by rw[O];rfl) (fun o l U=>?_) B (by omega) (.inl fun _ _=>rfl) _ _);have z2:ja (gN.gP 3 0:gN Q.E)=0:=rfl;have z0:je (gN.gP 3 0:gN Q.E)=0:=rfl;have y2:ja (gN.gP 2 n:gN Q.E)=1:=rfl;have T:je (gN.gP 2 n:gN Q.E)=0:=rfl;rw[z2,z0]at U;rw[y2,T];rcases U with⟨a,_⟩|⟨y,⟨a,b,c,d,e⟩|⟨_,_,a,_⟩|⟨_,_,a,_⟩|⟨_,_,a,_⟩⟩
  ·omega
  ·exact .inr ⟨y,.inr (.inl ⟨a,rfl,S.1,by omega,by omega⟩)⟩
  ·omega
  ·omega
  ·omega
 ·obtain⟨n,Y⟩:=s S;refine F X (M.A0 (s':=.qt n) (i:=3) V h H hk N (by omega) Z L D (.inr ⟨n,rfl,Y⟩) (by rw[O];rfl) (fun o l U=>?_) B (by omega) (.inl fun _ _=>rfl) _ _);have z2:ja (gN.gP 3 0:gN Q.E)=0:=rfl;have z0:je (gN.gP 3 0:gN Q.E)=0:=rfl;have y2:ja (gN.qt n:gN Q.E)=0:=rfl;have T:je (gN.qt n:gN Q.E)=0:=rfl;rw[z2,z0]at U;rw[y2,T];rcases U with⟨a,b,c,d,e,_⟩|⟨y,⟨a,b,c,d,e⟩|⟨_,_,a,_⟩|⟨_,_,a,_⟩|⟨_,_,a,_⟩⟩
  ·exact .inl ⟨a,rfl,c,d,e,fun y=>absurd y K.2.2⟩
  ·exact .inr ⟨y,.inl ⟨a,rfl,by omega,d,e⟩⟩
  ·omega
  ·omega
  ·omega
theorem gD.MI.wz2(M:Q.MI C nd fu gs w t q rel)(V:Q.Laws)(h:CI Q.J Q.gK C)(F:Calm Q.J C)(hk:k<C.j){g:ai}{R:Prop}(N:C.ks k=.gP 2 0)(O:Q.E.J0 Q.P g)
  (L:∀{g1:ai} {w1:ah} {es:Array _},aA Q.P false g w=.go g1 w1 es->Q.jr C nd fu q (ao ((gs.map (aD Q.P g g1 w1)).setIfInBounds (Q.b+k) g1) w1 sl) (t++ak (Q.b+k) g.frame.fn g.frame.place es)->R):R:=by
 have H:=aN hk h.jn;have ph:=h.ph;have l2:=le_sumTo (f:=fun k=>ja (C.ks k)) H;have l0:=le_sumTo (f:=fun k=>je (C.ks k)) H;simp[N]at l2 l0;have Y:=M.wd.wg;have K:C.wt=1/\C.ws=0/\C.v=0:=by
  have z2:ja (gN.gP 2 0:gN Q.E)=1:=rfl;rcases ph with⟨_,_,a,_⟩|⟨y,⟨_,_,_,a,_⟩|⟨a,b,c,_⟩|⟨_,_,_,a,_⟩|⟨_,_,_,a,_⟩⟩
  ·omega
  ·omega
  ·omega
  ·omega
  ·omega
 rw[K.1,K.2.1,K.2.2]at Y;obtain⟨g1,es,A,D,n,I⟩:=O.2 w Y;refine L A (M.A0 V h F hk N (by omega) (Env.Eff.refl _ _) Y D (.inl ⟨1,n,rfl,by omega,I⟩) (by rw[K.2.2];rfl) (fun B U y=>?_) (by simp_all) (by omega) (.inl fun _ _=>rfl) _ _);rw[K.1,K.2.1,K.2.2]at y;exact y
theorem gD.MI.wz1(M:Q.MI C nd fu gs w t q rel)(V:Q.Laws)(h:CI Q.J Q.gK C)(F:Calm Q.J C)(hk:k<C.j){g:ai}{R:Prop}(N:C.ks k=.gP 1 0)(O:Q.E.JZ Q.P g)
  (L:∀{g1:ai} {w1:ah} {es:Array _},aA Q.P false g w=.go g1 w1 es->Q.jr C nd fu q (ao ((gs.map (aD Q.P g g1 w1)).setIfInBounds (Q.b+k) g1) w1 sl) (t++ak (Q.b+k) g.frame.fn g.frame.place es)->R):R:=by
 have K:=aN hk h.jn;have ph:=h.ph;have l2:=le_sumTo (f:=fun k=>ja (C.ks k)) K;have l0:=le_sumTo (f:=fun k=>je (C.ks k)) K;simp[N]at l2 l0;have Y:=M.wd.wg;have z2:ja (gN.gP 1 0:gN Q.E)=1:=rfl;have z0:je (gN.gP 1 0:gN Q.E)=0:=rfl;have H:C.wt=1/\C.ws=0/\C.v=0:=by
  rcases ph with⟨_,_,a,_⟩|⟨y,⟨_,_,_,a,_⟩|⟨a,b,c,_⟩|⟨_,_,_,a,_⟩|⟨_,_,_,a,_⟩⟩
  ·omega
  ·omega
  ·omega
  ·omega
  ·omega
 rw[H.1,H.2.1,H.2.2]at Y;obtain⟨g1,w1,es,U,A,B,D,n,I⟩:=O.2 w Y;refine L U (M.A0 V h F hk N (by omega) B A D (.inl ⟨0,n,rfl,by omega,I⟩) (by rw[H.2.2];rfl) (fun T S y=>?_) (by simp_all) (by omega) (.inl fun _ _=>rfl) _ _);have y2:ja (gN.gP 0 n:gN Q.E)=0:=rfl;have X:je (gN.gP 0 n:gN Q.E)=1:=rfl;rcases y with⟨_,_,a,_⟩|⟨y,⟨_,_,_,a,_⟩|⟨_,_,_,a,b⟩|⟨_,_,_,a,_⟩|⟨_,_,_,a,_⟩⟩
 ·omega
 ·omega
 ·exact .inr ⟨y,.inr (.inr (.inl ⟨rfl,rfl,rfl,by omega,by omega⟩))⟩
 ·omega
 ·omega
theorem gD.MI.wz0(M:Q.MI C nd fu gs w t q rel)(V:Q.Laws)(h:CI Q.J Q.gK C)(F:Calm Q.J C)(hk:k<C.j){g:ai}{R:Prop}(O:C.ks k=.gP 0 0)(N:Q.E.JY Q.P g)
  (L:∀{g1:ai} {w1:ah} {es:Array bp},aA Q.P false g w=.go g1 w1 es->Q.jr C nd fu q (ao ((gs.map (aD Q.P g g1 w1)).setIfInBounds (Q.b+k) g1) w1 sl) (t++ak (Q.b+k) g.frame.fn g.frame.place es)->R):R:=by
 have K:=aN hk h.jn;have ph:=h.ph;have l2:=le_sumTo (f:=fun k=>ja (C.ks k)) K;have l0:=le_sumTo (f:=fun k=>je (C.ks k)) K;simp[O]at l2 l0;have Y:=M.wd.wg;have z2:ja (gN.gP 0 0:gN Q.E)=0:=rfl;have z0:je (gN.gP 0 0:gN Q.E)=1:=rfl;have D:C.wt=0/\C.ws=0/\C.v=0:=by
  rcases ph with⟨_,_,_,a,_⟩|⟨y,⟨_,_,_,_,a⟩|⟨_,_,_,_,a⟩|⟨a,b,c,_⟩|⟨_,_,_,_,a⟩⟩
  ·omega
  ·omega
  ·omega
  ·omega
  ·omega
 rw[D.1,D.2.1,D.2.2]at Y;obtain⟨g1,w1,es,U,A,B,I,n,H⟩:=N.2.2 w Y;refine L U (M.A0 V h F hk O (by omega) B A I (.inr ⟨n,rfl,H⟩) (by rw[D.2.2];rfl) (fun T S y=>?_) (by simp_all) (by omega) (.inr ⟨N.2.1,H.status⟩) _ _);have y2:ja (gN.qt n:gN Q.E)=0:=rfl;have X:je (gN.qt n:gN Q.E)=0:=rfl;rcases y with⟨_,_,_,a,_⟩|⟨y,⟨_,_,_,_,a⟩|⟨_,_,_,_,a⟩|⟨_,_,_,a,b⟩|⟨_,_,_,_,a⟩⟩
 ·omega
 ·omega
 ·omega
 ·exact .inr ⟨y,.inr (.inr (.inr ⟨rfl,rfl,rfl,by omega,by omega⟩))⟩
 ·omega
theorem gD.MI.ahL(M:Q.MI C nd fu gs w t q rel)(R:Q.Laws)(h:CI Q.J Q.gK C)(Y:Calm Q.J C)(hk:k<C.j){g:ai}(V:gs[Q.b+k]?=some g)(F:g.status=.running):
  ∃m' ops,runT Q.P (ao gs w sl) (Q.b+k)=(.next m',ops)/\Q.jr C nd fu q m' (t++ops):=by
 have hb:=R.b0;have s:k<Q.J.n:=aN hk h.jn;have r:(Q.b+k==0)=false:=by simp;omega
 have hr:=M.nV (k+1) hk;have T:=M.wk k hk;have K:∀{g1:ai} {w1:ah} {es:Array bp},aA Q.P false g w=.go g1 w1 es->Q.jr C nd fu q (ao ((gs.map (aD Q.P g g1 w1)).setIfInBounds (Q.b+k) g1) w1 sl) (t++ak (Q.b+k) g.frame.fn g.frame.place es)->
   ∃m' ops,runT Q.P (ao gs w sl) (Q.b+k)=(.next m',ops)/\Q.jr C nd fu q m' (t++ops):=fun gj l=>⟨_,_,bM (sl:=sl) V (by rw[r];exact gj),l⟩
 have G:=Gk h.lock;have Km:=R.n8;cases H:C.ks k with
 |no=>rw[H]at T;exact T.elim
 |«at» pc md=>
  rw[H]at T;obtain⟨z,B,h3⟩:=T;obtain rfl:=Option.some.inj (V.symm.trans z);cases md with
  |blk=>cases F
  |gU=>cases F
  |jM=>
   have hpc:=(h.md k _ _ H).2 (.inr rfl);subst hpc;have l:Q.A (Q.ch C k) (nd (k+1)).S (nd (k+1)).X (nd (k+1)).g (nd (k+1)).w:=by
    have:=h3 nofun;rw[Am]at this;exact this
   refine M.Sc R h Y hk H l V ?_ (.inr (h.gone k (by rw[H];trivial)));have e:{(nd (k+1)).g with status:=.running}=(nd (k+1)).g:=by
    have:=(R.I0 l).1;generalize(nd (k+1)).g=g0 at this;obtain⟨a,b,c,d,e⟩:=g0;simp only at this;subst this;rfl
   have:=stepG_tries (P:=Q.P) (g:=(nd (k+1)).g) (sh:=.recv true) false #[bL (Q.ch C k) Q.E.zc] w;rw[e]at this;exact this.trans (R.I1 l w)
  |run=>
   have mul:∀p,oO pc=p->(∀x,pc=.lk p x->True)->Lock.Ok C.m p/\Lock.JX C.m p:=by
    intro p hp _;have a:=h.lock.ok k s;have b:=h.lock.pre s;rw[H]at a;simp only[H]at b;rw[<-hp];exact⟨a,b⟩
   rcases B.look with gj|⟨hn,_,W⟩
   ·obtain⟨f,O⟩:∃f,fu (k+1)=f+1:=⟨fu (k+1)-1,by have:=M.sd (i:=k+1) hk;omega⟩;have U:=gj;rw[O]at gj;cases pc with
    |recv=>
     rw[Am]at U;exact M.Sc R h Y hk H U V (R.I1 U w) (.inl rfl)
    |ld x=>
     obtain⟨g1,D,I⟩:=gj.2.2 w hr;exact K D (M.Dt R h Y hk H O (.inl rfl) I _ _ rfl (fun _=>rfl) nofun nofun nofun (fun p x e=>by cases e;rfl) nofun (by show 14+2<17;omega) rfl)
    |lk p x=>
     obtain⟨o1,o2⟩:=mul p rfl (fun _ _=>trivial);rcases gj.2.2 w C.m C.c hr M.wd.mu o1 o2 (by omega) G.1 with⟨sv,rfl,v,D⟩|⟨p',m',c',g1,w1,es,N,D,Z,o,L,hw,I⟩
     ·refine⟨_,_,bM (sl:=sl) V (by rw[r];exact D),?_⟩;rw[Mn rfl,xV];exact M.Sa R h Y (lH:=.blk) hk H U (.inl ⟨rfl,⟨sv,x,rfl⟩,v⟩)
     ·obtain⟨c1,c2⟩:=h.mvL R.n8 hk H N;refine K D (M.Kj R h Y hk H O I _ _ Z o L hw c1 c2 ?_);show uI (Env.behind p' x)=1
      cases p'<;>rfl
    |le x=>
     obtain⟨g1,D,I⟩:=gj.2.2 w hr;exact K D (M.Dt R h Y hk H O (.inr rfl) I _ _ rfl (fun _=>rfl) nofun nofun nofun nofun nofun (by show 13<14;omega) rfl)
    |la x=>
     obtain⟨g1,D,I⟩:=gj.2.2 w C.γ hr (M.wd.map (h.free hk H));exact K D (M.wla R h Y hk H O I _ _)
    |ur γ=>
     obtain⟨u,g1,D,I⟩:=gj.2.2 w hr;exact K D (M.wur R h Y hk H O u I _ _)
    |ud=>
     obtain⟨g1,D,I⟩:=gj.2.2 w hr;exact K D (M.Dt R h Y hk H O (.inl rfl) I _ _ rfl (fun _=>rfl) nofun nofun nofun nofun nofun (by show 10<11;omega) rfl)
    |u0=>
     obtain⟨o1,o2⟩:=mul .cr rfl (fun _ _=>trivial);rcases gj.2.2 w C.m C.c hr M.wd.mu o1 o2 (by omega) G.1 with⟨sv,e0,_⟩|⟨p',m',c',g1,w1,es,N,D,Z,o,L,hw,I⟩
     ·cases e0
     ·obtain⟨c1,c2⟩:=h.TJ R.n8 hk H (.inl ⟨rfl,rfl⟩) N;refine K D (M.Kj R h Y hk H O I _ _ Z o L hw c1 c2 ?_);show uI (Env.vV p')=1
      cases p'<;>rfl
    |un p=>
     obtain⟨o1,o2⟩:=mul p rfl (fun _ _=>trivial);have hun:=(h.oP k p _ H).1;rcases gj.2.2 w C.m C.c hr M.wd.mu o1 o2 (by omega) G.1 with⟨sv,rfl,_⟩|⟨p',m',c',g1,w1,es,N,D,Z,o,L,hw,I⟩
     ·cases hun
     ·obtain⟨c1,c2⟩:=h.TJ R.n8 hk H (.inr rfl) N;refine K D (M.Kj R h Y hk H O I _ _ Z o L hw c1 c2 ?_);show uI (Env.vV p')=1
      cases p'<;>rfl
    |ue=>
     obtain⟨g1,D,I⟩:=gj.2.2 w hr;exact K D (M.Dt R h Y hk H O (.inr rfl) I _ _ rfl (fun _=>rfl) nofun nofun nofun nofun nofun (by show 7<8;omega) rfl)
    |wr=>
     obtain⟨g1,D,n,hn⟩:=gj.2.2 w hr;exact K D (M.ajp R h Y hk H hn _ _)
   ·obtain⟨g1,w1,es,S1,X1,D,hd,I⟩:=W w hr;exact K D (M.ahF R h Y hk H hn D hd I _ _)
 |gP i n=>
  rw[H]at T;obtain⟨g',z,B⟩:=T;obtain rfl:=Option.some.inj (V.symm.trans z);have i4:=h.gP k i n H;cases n with
  |succ n=>
   obtain⟨_,g1,D,hq⟩:=B;exact K (D w) (M.SJ R h Y hk H (by simp) (.inl ⟨i,n,rfl,rfl,rfl,hq⟩) _ _)
  |zero=>
   have hi:i=0\/i=1\/i=2\/i=3\/i=4:=by omega
   rcases hi with rfl|rfl|rfl|rfl|rfl
   ·exact M.wz0 R h Y hk H B K
   ·exact M.wz1 R h Y hk H B K
   ·exact M.wz2 R h Y hk H B K
   ·exact M.wz3 R h Y hk H B K
   ·exact M.wz4 R h Y hk H B K
 |qt n=>
  rw[H]at T;obtain⟨g',z,B⟩:=T;obtain rfl:=Option.some.inj (V.symm.trans z);cases n with
  |zero=>rw[B.1]at F;cases F
  |succ n=>
   rcases B with⟨y,_⟩|⟨_,g1,es,Z,D,hq⟩
   ·rw[y]at F;cases F
   ·exact K (D w) (M.SJ R h Y hk H Z (.inr ⟨n,rfl,rfl,hq⟩) _ _)
end
section
variable{Q:gD}{nd:Nat->Nd}{fu:Nat->Nat}{C C':iw Q.E}{w w':ah}{gs nW:Array ai}{t t':aQ}{q:Nat->Nat}{rel jD:Nat->Option Nat}{sl:Option (Nat×Nat)}
theorem ng.on{d d':jj}{v ws e2 e0:Nat}(h:ng d v wt ws e2 e0)(hw:¬yA d)(Y:¬yA d')(H:yM d'->v=0):ng d' v wt ws e2 e0:=by
 obtain⟨a,b,c,e⟩:=h.early hw;exact .inl ⟨a,b,c,e,Y,H⟩
theorem CI.vle(h:CI Q.J Q.gK C):C.v<=C.j+o8 C.d:=by have:=h.px;omega
theorem CI.ahM(h:CI Q.J Q.gK C)(H:iM Q.J C.d=0):C.v=C.j+o8 C.d:=by
 have:=h.px;have K:=by
  have:=sumTo_le (f:=fun k=>kE (C.ks k)) (c:=0) (j:=Q.J.n) fun i _=>by
   have Y:¬Gone _:=fun y=>by have:=h.gone i y;omega
   cases e:C.ks i with
   |no=>exact ar _
   |«at» pc md=>exact ar _
   |gP i n=>rw[e]at Y;exact absurd trivial Y
   |qt n=>rw[e]at Y;exact absurd trivial Y
  omega
 omega
theorem gD.MI.ahN(M:Q.MI C nd fu gs w t q rel)(H:Q.Laws)(h:CI Q.J Q.gK C)(F:Calm Q.J C){c x f:Nat}{z:af}(Z:C.dm=.run)(hd:C.d=.send C.L i)(hf:fu 0=f+1)(hg:gs[0]?=some (nd 0).g)(N:Q.DS (fu 0) C.d (nd 0).S (nd 0).X (nd 0).g (nd 0).w)(V:C.L[i%Q.J.n]?=some c)(W:Q.J.gB[i]?=some x)
  (R:∀w2 s,gI Q.E.U (nd 0).S (nd 0).w w2->ob w2 c s->aA Q.P true (nd 0).g w2=.comm (nd 0).g #[scase c (.int .i64 (x:Int)) z] true .send w2 #[])(O:∀w2,gI Q.E.U (nd 0).S (nd 0).w w2->Q.E.Tree Q.P true (Q.DS f (Q.J.sends C.L (i+1))) (nd 0).S (nd 0).X (Go.Conc.served (nd 0).g ax) w2):
  ∃m' ops,runT Q.P (ao gs w sl) 0=(.next m',ops)/\Q.jr C nd fu q m' (t++ops):=by
 have m:=H.b0;have hr:=M.nV 0 (ay _);have hk:i%Q.J.n<C.j:=by
  have:=(cX.1 V).1;rw[h.len]at this;exact this
 have K:c=Q.ch C (i%Q.J.n):=by
  unfold gD.ch;rw[aY,V];rfl
 subst K;generalize D:i%Q.J.n=k at *;obtain⟨s,A⟩:=M.wd.opn k hk (by rw[hd];exact a_ _);have gj:=R w s hr A;by_cases o:∃pc,C.ks k=.at pc .gU
 ·obtain⟨pc,I⟩:=o;have T:=(h.md k _ _ I).2 (.inl rfl);subst T;have G:=M.yN hk I;have B:Q.b+k<gs.size:=by rw[M.size];omega
  have u:=by
   have:=M.wk k hk;rw[I]at this;have:=this.2.2 nofun;rw[Am]at this;exact this
  refine⟨_,_,crowd_send_meets (sl:=sl) hg gj A (by omega) G (M.adZ H h hk I),?_⟩;rw[xV,cE,db,dc];have Y:=M.gZ.nU _ (qx h.len hk);refine M.hand H h F hk I hd D W hf A ?_ ?_ (fun i' p r=>?_) (by simp) (O _ (hr.trans (vD (Y.2.2.2 0 (ay _))))) (H.Jq u ((M.nV (k+1) hk).trans (vD (Y.2.2.2 (k+1) hk))) (H.Kh x (cZ W)) _) ?_ (fun g=>zY ?_ g) ?_
  ·rw[aI (by simpa using M.sC H)]
  ·rw[ns (by omega),aI B]
  ·rw[ns (fun y=>p y.symm),ns (fun y=>r y.symm)]
  ·intro op gu;simp only[br,bq,bt,or_false]at gu;rcases gu with rfl|rfl|rfl|rfl
   ·exact⟨rfl,nofun,nofun,by show 0<Q.b+C.j;omega⟩
   ·exact⟨rfl,nofun,nofun,by simp_all⟩
   ·exact⟨rfl,nofun,nofun,by show 0<Q.b+C.j;omega⟩
   ·exact⟨rfl,nofun,nofun,by show Q.b+k<Q.b+C.j;omega⟩
  ·simp
  ·intro op gu;simp at gu;rcases gu with rfl|rfl|rfl|rfl<;>exact⟨Y.1,nofun⟩
 ·have l:=fun pc y=>o ⟨pc,y⟩;refine⟨_,_,crowd_waits (sl:=sl) hg gj (fun v K=>?_),?_⟩
  ·simp only[br,bq,bt,or_false]at K;subst K;exact ways_send_none A (ar _) (M.af6 H h hk l rfl)
  ·exact M.Sb H h F (lH:=.gU) Z ⟨N,i,_,x,z,f,hd,hf,by rw[D];exact V,W,aI (M.sC H),O⟩ (.inr ⟨rfl,i,hd,by rw[D];exact l⟩)
theorem gD.MI.ahO(M:Q.MI C nd fu gs w t q rel)(F:Q.Laws)(h:CI Q.J Q.gK C)(H:Calm Q.J C){g:ai}(G:gs[0]?=some g)(V:g.status=.running):
  ∃m' ops,runT Q.P (ao gs w sl) 0=(.next m',ops)/\(Q.jr C nd fu q m' (t++ops)\/Q.wX m' (t++ops)):=by
 have hb:=F.b0;have hr:=M.nV 0 (ay _);have E:=M.g0;have Km:=F.n8;have hjn:=h.jn;have O:=h.vle;have R:=M.wd.wg;have Y:=h.nT;cases r:C.dm with
 |blk=>
  rw[r]at E;obtain rfl:=Option.some.inj (G.symm.trans E.1);cases V
 |gU=>
  rw[r]at E;obtain⟨_,i,c,x,z,f0,_,_,_,_,e5,_⟩:=E;obtain rfl:=Option.some.inj (G.symm.trans e5);cases V
 |jM=>exact absurd r h.pw.2.2
 |run=>
  rw[r]at E;obtain⟨h1,h2⟩:=E;obtain rfl:=Option.some.inj (G.symm.trans h1);have D:∀{g1:ai} {w1:ah} {es:Array bp},aA Q.P true (nd 0).g w=.go g1 w1 es->Q.jr C nd fu q (ao ((gs.map (aD Q.P (nd 0).g g1 w1)).setIfInBounds 0 g1) w1 sl) (t++ak 0 (nd 0).g.frame.fn (nd 0).g.frame.place es)->
    ∃m' ops,runT Q.P (ao gs w sl) 0=(.next m',ops)/\(Q.jr C nd fu q m' (t++ops)\/Q.wX m' (t++ops)):=fun gj hA=>⟨_,_,bM (sl:=sl) (i:=0) G gj,.inl hA⟩
  rcases h2.look with gj|⟨hn,_,u⟩
  ·obtain⟨f,N⟩:∃f,fu 0=f+1:=⟨fu 0-1,by have:=M.sd (i:=0) (ay _);omega⟩;have W:=gj;rw[N]at gj;have nm:(Md.run=.blk->∀d:jj,d=.w3):=nofun;have A:∀d:jj,(Md.run=.blk->d=.w3)/\(Md.run=.gU->∃i,d=.send C.L i)/\Md.run≠.jM:=fun d=>⟨nofun,nofun,nofun⟩;have ph:=h.ph;cases hd:C.d with
   |st L=>
    rw[hd]at gj Y;obtain⟨c,hl⟩:=gj.2.2;obtain⟨g1,K,I⟩:=hl w hr;exact D K (M.Dv F h H (.inl rfl) N I (h.dd (A _) (by rw[hd];rfl) (by rw[hd];rfl) (fun _ _ y=>by rw[hd]at y;exact y.on id id nofun) (by rw[hd];exact ar _) Y nofun) (by rw[hd];simp only[iq];omega) _ _ (by rw[hd];rfl) (by rw[hd];rfl))
   |a2 L c=>
    rw[hd]at gj Y ph;obtain⟨a,b,_,_⟩:=ph.early id;have X:C.v=L.length:=by
     have:=h.ahM (by rw[hd];rfl);rw[hd]at this;rw[this,Y.1,h.len];rfl
    rw[X,a,b]at R;obtain⟨g1,w1,es,K,S,he,U,I⟩:=gj.2.2 w hr R;by_cases e:L=[]
    ·rw[if_pos e]at I;exact D K (M.uT F h H N I he S U (h.dd (A _) (by rw[hd];rfl) (by rw[hd,X];rfl) (fun _ _ y=>by
      rw[hd]at y;obtain⟨a1,a2,a3,a4⟩:=y.early id;exact .inl ⟨rfl,rfl,a3,a4,id,nofun⟩) (by rw[hd];exact ar _) Y nofun) (by rw[hd];simp only[iq];omega) _ _ (by rw[hd];rfl) (by rw[hd];rfl))
    ·rw[if_neg e]at I;exact D K (M.uT F h H N I he S U (h.dd (A _) (by rw[hd];rfl) (by rw[hd,X];rfl) (fun _ _ y=>by
      rw[hd]at y;obtain⟨a1,a2,a3,a4⟩:=y.early id;exact .inl ⟨rfl,rfl,a3,a4,id,nofun⟩) (by rw[hd];exact ar _) Y nofun) (by rw[hd];simp only[iq];omega) _ _ (by rw[hd];rfl) (by rw[hd];rfl))
   |a3 L c=>
    rw[hd]at gj Y;obtain⟨g1,K,I⟩:=gj.2.2 w hr;exact D K (M.R_ F h H (.inl rfl) N I (h.dd (A _) (by rw[hd];rfl) (by rw[hd];rfl) (fun _ _ y=>by rw[hd]at y;exact y.on id id nofun) (by rw[hd];exact ar _) Y nofun) (by rw[hd];simp only[iq];omega) _ _ (by rw[hd];rfl) (by rw[hd];rfl))
   |a4 L c=>
    rw[hd]at gj Y;obtain⟨g1,K,I⟩:=gj.2.2 w hr;exact D K (M.Dv F h H (.inr rfl) N I (h.dd (A _) (by rw[hd];rfl) (by rw[hd];rfl) (fun _ _ y=>by rw[hd]at y;exact y.on id id nofun) (by rw[hd];exact ar _) Y nofun) (by rw[hd];simp only[iq];omega) _ _ (by rw[hd];rfl) (by rw[hd];rfl))
   |go L c=>
    rw[hd]at gj Y;obtain⟨hSc,Bi,hl⟩:=gj.2.2;obtain⟨Kk,g1,l,K,Jr,I⟩:=hl w hr;have T:L=C.L:=Y.1;subst T;refine⟨_,_,runT_crowd_spawn (sl:=sl) (i:=0) G K,.inl ?_⟩;rw[xV,M.size];have:=M.af8 (sl:=sl) F h H hd N hSc Bi Kk Jr I (nd 0).g.frame.fn (nd 0).g.frame.place l.frame.fn (nd 0).g.frame.place;rw[Array.append_assoc]at this;exact this
   |send L i=>
    rw[hd]at gj Y;have T:L=C.L:=Y.1;subst T;obtain⟨c,x,e,hx,z,o,htr⟩:=gj.2.2;obtain⟨m',ops,K,e2⟩:=M.ahN (sl:=sl) F h H r hd N G W e hx o htr;exact⟨m',ops,K,.inl e2⟩
   |close L k=>
    rw[hd]at gj Y;have T:L=C.L:=Y.1;subst T;obtain⟨hw,c,e,hl⟩:=gj.2.2;have hk:k<C.j:=by
     have a:C.j=Q.J.n:=Y.2.1;have b:k<Q.J.n:=Y.2.2;omega
    have TK:c=Q.ch C k:=by
     unfold gD.ch;rw[aY,e];rfl
    subst TK;obtain⟨s,E⟩:=M.wd.opn k hk (by rw[hd];exact Nat.lt_irrefl _);obtain⟨g1,p,K,I⟩:=hl w s hr E;exact D K (M.af7 F h H hk hd E hw p N I _ _)
   |kd=>
    rw[hd]at gj Y;obtain⟨g1,K,I⟩:=gj.2.2 w hr;exact D K (M.Dv F h H (.inl rfl) N I (h.dd (A _) (by rw[hd];rfl) (by rw[hd];rfl) (fun _ _ y=>by rw[hd]at y;exact y.on id id nofun) (by rw[hd];exact ar _) Y nofun) (by
     have a:C.v<=C.j:=by rw[hd]at O;exact O
     rw[hd];simp only[iq];omega) _ _ (by rw[hd];rfl) (by rw[hd];rfl))
   |w1=>
    rw[hd]at gj Y ph;obtain⟨a,b,_,_⟩:=ph.early id;have m:C.v<=8:=by rw[hd]at O;exact bA O (by show C.j+0<=8;omega)
    rw[a,b]at R;obtain⟨g1,es,K,U,t0,t1⟩:=gj.2.2 w C.v hr m R;by_cases X:C.v=0
    ·exact D K (M.uT F h H N (t0 X) (Env.Eff.refl _ _) R U (h.dd (A _) (by rw[hd];rfl) (by rw[hd];rfl) (fun _ _ y=>by
      rw[hd]at y;obtain⟨a1,a2,a3,a4⟩:=y.early id;exact .inl ⟨rfl,rfl,a3,a4,id,fun _=>X⟩) (by rw[hd];exact ar _) Y nofun) (by rw[hd];simp only[iq];omega) _ _ (by rw[hd];rfl) (by rw[hd];rfl))
    ·exact D K (M.uT F h H N (t1 X) (Env.Eff.refl _ _) R U (h.dd (A _) (by rw[hd];rfl) (by rw[hd];rfl) (fun _ _ y=>by
      rw[hd]at y;obtain⟨a1,a2,a3,a4⟩:=y.early id;exact .inl ⟨rfl,rfl,a3,a4,id,nofun⟩) (by rw[hd];exact ar _) Y (fun v0 e0=>by cases e0;exact⟨by omega,ar _⟩)) (by rw[hd];simp only[iq];omega) _ _ (by rw[hd];rfl) (by rw[hd];rfl))
   |w2 v0=>
    have rE:=h.w2 v0 hd;rw[hd]at gj Y ph;obtain⟨a,b,_,_⟩:=ph.early id;have m:C.v<=8:=by rw[hd]at O;exact bA O (by show C.j+0<=8;omega)
    rw[a,b]at R;obtain⟨ty,tn⟩:=gj.2.2 w C.v hr m R;by_cases X:C.v=v0
    ·obtain⟨g1,w1,es,K,S,he,U,I⟩:=ty X;exact D K (M.uT F h H N I he S U (h.dd (A _) (by rw[hd];rfl) (by rw[hd];rfl) (fun _ _ y=>by
      rw[hd]at y;obtain⟨a1,a2,a3,a4⟩:=y.early id;exact .inr ⟨trivial,.inl ⟨rfl,rfl,by omega,a3,a4⟩⟩) (by rw[hd];exact ar _) Y nofun) (by rw[hd];simp only[iq];omega) _ _ (by rw[hd];rfl) (by rw[hd];rfl))
    ·obtain⟨g1,es,K,U,I⟩:=tn X;exact D K (M.uT F h H N I (Env.Eff.refl _ _) R U (h.dd (A _) (by rw[hd];rfl) (by rw[hd];rfl) (fun _ _ y=>by
      rw[hd]at y;obtain⟨a1,a2,a3,a4⟩:=y.early id;exact .inl ⟨rfl,rfl,a3,a4,id,nofun⟩) (by rw[hd];exact ar _) Y nofun) (by rw[hd];simp only[iq];omega) _ _ (by rw[hd];rfl) (by rw[hd];rfl))
   |wx=>
    rw[hd]at gj Y;obtain⟨g1,K,I⟩:=gj.2.2 w hr;exact D K (M.R_ F h H (.inr rfl) N I (h.dd (A _) (by rw[hd];rfl) (by rw[hd];rfl) (fun _ _ y=>by
     rw[hd]at y;rcases y with⟨_,_,_,_,y,_⟩|⟨_,y⟩
     ·exact absurd trivial y
     ·exact .inr ⟨trivial,y⟩) (by rw[hd];exact ar _) Y nofun) (by rw[hd];simp only[iq];omega) _ _ (by rw[hd];rfl) (by rw[hd];rfl))
   |w3=>
    rw[hd]at gj Y ph;obtain⟨_,ho,hb1,p⟩:=gj;by_cases B:C.ws=0
    ·rw[B]at R;have K:=hb1 w C.v C.wt hr R;refine⟨_,_,bM (sl:=sl) (i:=0) G K,.inl ?_⟩;rw[Mn rfl,xV];exact M.Sb F h H (lH:=.blk) r ⟨aI (M.sC F),ho,V,W⟩ (.inl ⟨rfl,hd,B⟩)
    ·have Z:C.wt=0/\C.ws=1/\C.v=0:=by
      rcases ph with⟨_,a,_⟩|⟨_,⟨_,a,_⟩|⟨_,a,_⟩|⟨_,a,_⟩|⟨a,b,c,_⟩⟩
      ·exact absurd a B
      ·exact absurd a B
      ·exact absurd a B
      ·exact absurd a B
      ·exact⟨a,b,c⟩
     rw[Z.1,Z.2.1,Z.2.2]at R;obtain⟨g1,w1,es,K,S,he,U,I⟩:=p w hr R;exact D K (M.uT F h H N I he S U (h.dd (A _) (by rw[hd];rfl) (by rw[hd,Z.2.2];rfl) (fun _ _ y=>by
      rcases y with⟨_,a,_⟩|⟨_,⟨_,a,_⟩|⟨_,a,_⟩|⟨_,a,_⟩|⟨_,_,_,a,b⟩⟩
      ·exact absurd a B
      ·exact absurd a B
      ·exact absurd a B
      ·exact absurd a B
      ·exact .inl ⟨rfl,rfl,a,b,id,fun _=>rfl⟩) (by rw[hd];exact ar _) Y nofun) (by rw[hd];simp only[iq];omega) _ _ (by rw[hd];rfl) (by rw[hd];rfl))
   |w4=>
    rw[hd]at gj Y ph;have Z:C.wt=0/\C.ws=0/\C.v=0:=by
     rcases ph with⟨a,b,_,_,_,c⟩|⟨y,_⟩
     ·exact⟨a,b,c trivial⟩
     ·exact y.elim
    rw[Z.1,Z.2.1,Z.2.2]at R;obtain⟨g1,es,K,U,I⟩:=gj.2.2 w hr R;exact D K (M.uT F h H N I (Env.Eff.refl _ _) R U (h.dd (A _) (by rw[hd];rfl) (by rw[hd,Z.2.2];rfl) (fun _ _ y=>by
     rw[hd]at y;obtain⟨a1,a2,a3,a4⟩:=y.early id;exact .inl ⟨rfl,rfl,a3,a4,id,fun _=>rfl⟩) (by rw[hd];exact ar _) Y nofun) (by rw[hd];simp only[iq];omega) _ _ (by rw[hd];rfl) (by rw[hd];rfl))
   |ke=>
    rw[hd]at gj Y ph;obtain⟨g1,K,I⟩:=gj.2.2 w hr;have hv0:C.v=0:=by
     rcases ph with⟨_,_,_,_,_,c⟩|⟨y,_⟩
     ·exact c trivial
     ·exact y.elim
    exact D K (M.Dv F h H (.inr rfl) N I (h.dd (A _) (by rw[hd];rfl) (by rw[hd];rfl) (fun _ _ y=>by rw[hd]at y;exact y.on id id fun _=>hv0) (by rw[hd];exact ar _) Y nofun) (by rw[hd];simp only[iq];omega) _ _ (by rw[hd];rfl) (by rw[hd];rfl))
   |aq=>
    rw[hd]at gj;obtain⟨g1,K,hF⟩:=gj.2.2 w hr;exact⟨_,_,bM (sl:=sl) (i:=0) G K,.inr (M.final F h hd hF _ _)⟩
  ·obtain⟨g1,w1,es,S1,X1,K,hd,I⟩:=u w hr;exact D K (M.ahI F h H r hn K hd I _ _)
theorem Qv{f:Nat->Nat}:∀{n:Nat},0<sumTo n f->∃k,k<n/\0<f k
 |0,h=>by simp[sumTo]at h
 |n+1,h=>by
  rw[sumTo]at h;by_cases Y:0<f n
  ·exact⟨n,by omega,Y⟩
  ·obtain⟨k,hk,K⟩:=Qv (f:=f) (n:=n) (by omega);exact⟨k,by omega,K⟩
theorem Rl{f:Nat->Nat}{j:Nat}(h:∀k,k<j->1<=f k):∀n,j<=n->j<=sumTo n f
 |0,Y=>by omega
 |n+1,Y=>by
  rw[sumTo];by_cases e:j=n+1
  ·have:=by
    have:∀m,m<=n->m<=sumTo m f:=by
     intro m;induction m with
     |zero=>omega
     |succ m H=>
      intro K;rw[sumTo];have:=h m (by omega);omega
    exact this n (ar _)
   have:=h n (by omega);omega
  ·have:=Rl h n (by omega);omega
theorem gD.MI.I3(M:Q.MI C nd fu gs w t q rel)(N:Q.Laws)(h:CI Q.J Q.gK C)(F:Calm Q.J C)(hk:k<C.j)(V:∀pc,C.ks k≠.at pc .gU)(Z:∀n,C.ks k≠.qt n):∃(i:Nat) (g:ai),gs[i]?=some g/\g.status=.running:=by
 have run:∀k pc,k<C.j->C.ks k=.at pc .run->∃(i:Nat) (g:ai),gs[i]?=some g/\g.status=.running:=by
  intro k pc hk e;have K:=M.wk k hk;rw[e]at K;exact⟨_,_,K.1,sZ K.2.1 fun y=>(vt N (M.sd hk) y).1⟩
 have K:=M.wk k hk;cases H:C.ks k with
 |no=>rw[H]at K;exact K.elim
 |«at» pc md=>
  cases md with
  |run=>exact run k pc hk H
  |jM=>rw[H]at K;exact⟨_,_,K.1,rfl⟩
  |gU=>exact absurd H (V pc)
  |blk=>
   have L:=F.blk k pc H;obtain⟨sv,x,rfl⟩:=(h.md k _ _ H).1 rfl;obtain⟨k',O,R,D⟩:=h.lock.live (aN hk h.jn) (by rw[H];rfl) L;cases Y:C.ks k' with
   |no=>exact absurd (by rw[Y];rfl) D
   |«at» U A=>
    have I:=bG fun y=>by rw[h.no k' y]at Y;cases Y
    cases A with
    |run=>exact run k' U I Y
    |blk=>
     obtain⟨B,x',rfl⟩:=(h.md k' _ _ Y).1 rfl;exact absurd (by rw[Y];rfl) (R B)
    |gU=>
     have:=(h.md k' _ _ Y).2 (.inl rfl);subst this;exact absurd (by rw[Y];rfl) D
    |jM=>
     have:=(h.md k' _ _ Y).2 (.inr rfl);subst this;exact absurd (by rw[Y];rfl) D
   |gP i n=>exact absurd (by rw[Y];rfl) D
   |qt n=>exact absurd (by rw[Y];rfl) D
 |gP i n=>
  rw[H]at K;obtain⟨g,R,D⟩:=K;exact⟨_,_,R,B7 D⟩
 |qt n=>exact absurd H (Z n)
theorem gD.MI.live(M:Q.MI C nd fu gs w t q rel)(F:Q.Laws)(h:CI Q.J Q.gK C)(Y:Calm Q.J C):∃(i:Nat) (g:ai),gs[i]?=some g/\g.status=.running:=by
 have H:=M.g0;cases D:C.dm with
 |run=>
  rw[D]at H;exact⟨_,_,H.1,sZ H.2 fun y=>(B6 (M.sd (i:=0) (ay _)) y).1⟩
 |jM=>exact absurd D h.pw.2.2
 |gU=>
  obtain⟨i,hd⟩:=h.pw.2.1 D;have K:=h.nT;rw[hd]at K;have R:=K.2.1;have hk:i%Q.J.n<C.j:=by rw[R];exact Nat.mod_lt _ F.n0
  refine M.I3 F h Y hk (fun pc=>Y.pf i D hd pc) (fun n e=>?_);have:=h.gone _ (show Gone _ by rw[e];trivial);rw[hd]at this;exact absurd this (a_ _)
 |blk=>
  have hd:=h.pw.1 D;have O:=Y.Jp D;have K:=h.nT;rw[hd]at K;have R:C.j=Q.J.n:=K;have ph:=h.ph;have P:∀k pc,k<C.j->C.ks k≠.at pc .gU:=fun k pc hk e=>Y.gU k pc e (by rw[hd];show k<Q.J.n;omega);have gP:∀(f:gN Q.E->Nat),(∀s,0<f s->∃i n,s=.gP i n)->0<sumTo Q.J.n (fun k=>f (C.ks k))->∃(i:Nat) (g:ai),gs[i]?=some g/\g.status=.running:=by
   intro f B N;obtain⟨k,hk,A⟩:=Qv N;obtain⟨i,n,e⟩:=B _ A;exact M.I3 (k:=k) F h Y (by omega) (fun pc y=>by simp_all) (fun n y=>by simp_all)
  rw[hd]at ph;rcases ph with⟨_,_,_,_,y,_⟩|⟨_,⟨_,_,T,_⟩|⟨_,_,_,a,_⟩|⟨_,_,_,_,a⟩|⟨_,a,_⟩⟩
  ·exact absurd trivial y
  ·have L:=h.px;rw[hd]at L;have:∃k,k<C.j/\kE (C.ks k)=0:=by
    apply cL;intro I;have:=Rl (f:=fun k=>kE (C.ks k)) (fun k hk=>by
     have:kE (C.ks k)≠0:=fun y=>I ⟨k,hk,y⟩;omega) Q.J.n h.jn
    have S:o8 .w3=0:=rfl;omega
   obtain⟨k,hk,U⟩:=this;exact M.I3 F h Y hk (fun pc=>P k pc hk) (fun n e=>by rw[e]at U;cases U)
  ·refine gP ja (fun s H=>?_) (by omega);cases s with
   |gP i n=>exact⟨i,n,rfl⟩
   |_=>cases H
  ·refine gP je (fun s H=>?_) (by omega);cases s with
   |gP i n=>exact⟨i,n,rfl⟩
   |_=>cases H
  ·omega
theorem gD.MI.awake(M:Q.MI C nd fu gs w t q rel)(O:Q.Laws):∀g∈gs,Go.Conc.awake g:=by
 intro g P;obtain⟨i,F,rfl⟩:=cK.1 P;have Y:=bN F;have S:=M.size;rcases cy i with rfl|I
 ·have K:=M.g0;have f0:=M.sd (ay _);cases U:C.dm with
  |run=>
   rw[U]at K;rw[Option.some.inj (Y.symm.trans K.1)];exact aU (.inl (sZ K.2 fun y=>(B6 f0 y).1))
  |blk=>
   rw[U]at K;rw[Option.some.inj (Y.symm.trans K.1)];exact aU (.inr (.inl rfl))
  |gU=>
   rw[U]at K;obtain⟨_,i,c,x,z,f0,_,_,_,_,J,_⟩:=K;rw[Option.some.inj (Y.symm.trans J)];exact aU (.inr (.inl rfl))
  |jM=>rw[U]at K;exact K.elim
 ·by_cases B:i<Q.b
  ·exact aU ((M.old i _ I B Y).status.elim .inl fun y=>.inr (.inr y))
  ·obtain⟨k,rfl⟩:∃k,i=Q.b+k:=⟨i-Q.b,by omega⟩;have hk:k<C.j:=by omega
   have H:=M.wk k hk;have L:=M.sd hk;cases A:C.ks k with
   |no=>rw[A]at H;exact H.elim
   |«at» pc md=>
    rw[A]at H;obtain⟨D,R,T⟩:=H;rw[Option.some.inj (Y.symm.trans D)];cases md with
    |run=>exact aU (.inl (sZ R fun y=>(vt O L y).1))
    |blk=>exact aU (.inr (.inl rfl))
    |gU=>exact aU (.inr (.inl rfl))
    |jM=>exact aU (.inl rfl)
   |gP i n=>
    rw[A]at H;obtain⟨N,D,R⟩:=H;rw[Option.some.inj (Y.symm.trans D)];exact aU (.inl (B7 R))
   |qt V=>
    rw[A]at H;obtain⟨N,D,R⟩:=H;rw[Option.some.inj (Y.symm.trans D)];exact aU (R.status.elim .inl fun y=>.inr (.inr y))
theorem gD.MI.step(M:Q.MI C nd fu gs w t q rel)(R:Q.Laws)(h:CI Q.J Q.gK C)(H:Calm Q.J C):∃m' ops,stepT Q.P (ao gs w sl)=(.next m',ops)/\(Q.jr C nd fu q m' (t++ops)\/Q.wX m' (t++ops)):=by
 obtain⟨i,g,d,T,I,Y,gj⟩:=crowd_pick (M.awake R) (M.live R h H);have B:=M.at d;rw[gj];rcases cy i with rfl|K
 ·exact B.ahO R h H I Y
 ·by_cases A:i<Q.b
  ·have U:=M.old i g K A I;have L:(i==0)=false:=by simp;omega
   cases D:q i with
   |zero=>rw[D]at U;rw[U.1]at Y;cases Y
   |succ n=>
    rw[D]at U;rcases U with⟨y,_⟩|⟨_,g1,es,S,F,N⟩
    ·simp_all
    ·exact⟨_,_,bM I (by rw[L];exact F _),.inl (B.ad2 R h H K A D S N _ _)⟩
  ·obtain⟨k,rfl⟩:∃k,i=Q.b+k:=⟨i-Q.b,by omega⟩;have hk:k<C.j:=by
    have:=(bO.1 I).1;rw[M.size]at this;omega
   obtain⟨m',ops,F,O⟩:=B.ahL R h H hk I Y;exact⟨m',ops,F,.inl O⟩
theorem gD.MI.acc(M:Q.MI C nd fu gs w t q rel)(h:CI Q.J Q.gK C):Acc (Down (fun i=>Nx Q.P (i==0) Q.E.U (Q.Df C fu i)) (Q.J.n+1)) nd:=by
 refine Pp _ _ _ fun i I=>?_;cases i with
 |zero=>
  have Y:=M.g0;cases K:C.dm with
  |run=>rw[K]at Y;exact Y.2.acc
  |blk=>rw[K]at Y;exact(Tz.stop Y.2.2.2).acc
  |gU=>rw[K]at Y;exact(Tz.stop Y.1).acc
  |jM=>rw[K]at Y;exact Y.elim
 |succ k=>
  have tr:∀{P:aH} {main:Bool} {U:Nat->Nat->Prop} (x:Nd),Acc (Nx P main U fun _ _ _ _=>True) x:=fun x=>⟨x,fun y R=>absurd trivial R.1⟩;show Acc (Nx Q.P _ _ (match C.ks k with|.at pc _=>Q.WS _ _ pc|_=>fun _ _ _ _=>True)) _
  by_cases hk:k<C.j
  ·have H:=M.wk k hk;cases D:C.ks k with
   |«at» pc md=>rw[D]at H;exact H.2.1.acc
   |no=>exact tr _
   |gP i n=>exact tr _
   |qt n=>exact tr _
  ·rw[h.no k (by omega)];exact tr _
theorem gD.phase(hQ:Q.Laws)(h:CI Q.J Q.gK C)(Y:Calm Q.J C)(M:Q.MI C nd fu gs w t q rel):Reach Q.P Q.wX (ao gs w sl) t:=by
 have key:∀(T:Nat) (C:iw Q.E) (nd:Nat->Nd) (fu:Nat->Nat) (gs:Array _) (w:ah) (sl:Option _) (t:aQ) (q:Nat->Nat) (rel:Nat->Option Nat),mu Q.J C=T->CI Q.J Q.gK C->Calm Q.J C->Q.MI C nd fu gs w t q rel->Reach Q.P Q.wX (ao gs w sl) t:=by
  intro T;induction T using bH with
  |_ T N=>
  intro C nd fu gs w sl t q rel H h Y M;have B:∀(D:Nat->(Nat->Prop)->(Nat->Prop)->ai->ah->Prop) (nd:Nat->Nd),Acc (Down (fun i=>Nx Q.P (i==0) Q.E.U (D i)) (Q.J.n+1)) nd->∀(V:Nat) (C:iw Q.E) (fu:Nat->Nat) (gs:Array _) (w:ah) (sl:Option _) (t:aQ) (q:Nat->Nat) (rel:Nat->Option Nat),
    Q.Df C fu=D->mu Q.J C=T->Q.nu C q=V->CI Q.J Q.gK C->Calm Q.J C->Q.MI C nd fu gs w t q rel->Reach Q.P Q.wX (ao gs w sl) t:=by
   intro D nd F;induction F with
   |intro nd _ W=>
    intro V;induction V using bH with
    |_ V O=>
    intro C fu gs w sl t q rel G H o h Y M;obtain⟨m',ops,z,g|hF⟩:=M.step hQ h Y
    ·refine Reach.step z ?_;obtain⟨X,S,R,I,w',A,j,f,rfl,h',K,Z,l|⟨c,d,L|⟨rfl,TL⟩⟩⟩:=g
     ·exact N _ (by omega) X S R I w' A _ j _ rfl h' K Z
     ·rw[G]at L;exact W S L _ X R I w' A _ j _ (d.trans G) (c.trans H) rfl h' K Z
     ·exact O _ (by omega) X R I w' A _ j _ (d.trans G) (c.trans H) rfl h' K Z
    ·exact Reach.step z (Reach.here hF)
  exact B _ nd (M.acc h) _ C fu gs w sl t q rel rfl H rfl h Y M
 exact key _ C nd fu gs w sl t q rel rfl h Y M
end
end Ph
namespace Ph
open Conc Ren
open Lock (Word PC Mv bn hr hd)
def nv(m:Word):Nat:=bn m.L+2 *bn m.K+4 *bn m.S+8 *m.W
theorem aop(m:Word):val m=(nv m:Int):=rfl
theorem td(b:Bool):bn b=0/\b=false\/bn b=1/\b=true:=by cases b;exact .inl ⟨rfl,rfl⟩;exact .inr ⟨rfl,rfl⟩
theorem xo(m:Word):(nv m%2==1)=m.L:=by
 unfold nv;rcases td m.L with⟨e,h⟩|⟨e,h⟩<;>rw[e,h]<;>simp<;>omega
theorem xp(m:Word):(nv m/2%2==1)=m.K:=by
 unfold nv;rcases td m.L with⟨e,h⟩|⟨e,h⟩<;>rcases td m.K with⟨Y,H⟩|⟨Y,H⟩<;>rw[e,Y,H]<;>simp<;>omega
theorem se(m:Word):(nv m/4%2==1)=m.S:=by
 unfold nv;rcases td m.L with⟨e,h⟩|⟨e,h⟩<;>rcases td m.K with⟨Y,R⟩|⟨Y,R⟩<;>rcases td m.S with⟨H,D⟩|⟨H,D⟩<;>rw[e,Y,H,D]<;>simp<;>omega
theorem si(m:Word):nv m/8=m.W:=by
 unfold nv;rcases td m.L with⟨e,h⟩|⟨e,h⟩<;>rcases td m.K with⟨Y,D⟩|⟨Y,D⟩<;>rcases td m.S with⟨H,R⟩|⟨H,R⟩<;>rw[e,Y,H]<;>omega
theorem qu(n:Nat):(n%2==0)=!(n%2==1):=by
 rcases Nat.mod_two_eq_zero_or_one n with h|h<;>rw[h]<;>rfl
theorem yO(m:Word):wd (nv m)=m:=by
 unfold wd;rw[xo,xp,se,si]
theorem ahP{m:Word}(h:m.W<=8):nv m<72:=by
 unfold nv;have:=Lock.rj m.L;have:=Lock.rj m.K;have:=Lock.rj m.S;omega
theorem af9{m m':Word}(h:nv m=nv m'):m=m':=by rw[<-yO m,h,yO]
theorem val_inj{m m':Word}(h:val m=val m'):m=m':=af9 (by exact Int.ofNat.inj h)
theorem oB{p:Nat->Bool}{m:Word}(h:m.W<=8)(Y:p (nv m)=true):nv m∈(aZ 72).filter p:=List.mem_filter.2 ⟨cw.2 (ahP h),Y⟩
theorem aah(h:it<=4):aX.wrap ((it:Int)+1)=((it+1:Nat):Int):=by
 have:it=0\/it=1\/it=2\/it=3\/it=4:=by omega
 rcases this with rfl|rfl|rfl|rfl|rfl<;>rfl
theorem oa.lf{al:List (Nat×af)}{call:Option (au×Array af)}{load:Option (aB×af)}{r:ae×List ae}(h:oa l site al call load r):∃j,r.1=Ph.lf site (sA al) j:=⟨_,h.fr.eq⟩
theorem A1:jf PR 169 (fun _=>do mark .disable;pure bV):=⟨_,Tryz.func169,by kernel_rfl,by kernel_rfl,by kernel_rfl,by kernel_rfl⟩
theorem xq:jf PR 170 (fun _=>do mark .enable;pure bV):=⟨_,Tryz.func170,by kernel_rfl,by kernel_rfl,by kernel_rfl,by kernel_rfl⟩
theorem SM:jf PR 182 (bU .acquire):=⟨_,Tryz.func182,by kernel_rfl,by kernel_rfl,by kernel_rfl,by kernel_rfl⟩
theorem SN:jf PR 168 (bU .releaseMerge):=⟨_,Tryz.func168,by kernel_rfl,by kernel_rfl,by kernel_rfl,by kernel_rfl⟩
theorem uU:jf PR 204 (cO (.int .i32)):=⟨_,Tryz.func204,by kernel_rfl,by kernel_rfl,by kernel_rfl,by kernel_rfl⟩
theorem SO:jf PR 206 (cR (Op.intArith .add) .i32 true):=⟨_,Tryz.func206,by kernel_rfl,by kernel_rfl,by kernel_rfl,by kernel_rfl⟩
theorem SP:jf PR 214 Extern.Sync.canSpin:=⟨_,Tryz.func214,by kernel_rfl,by kernel_rfl,by kernel_rfl,by kernel_rfl⟩
theorem SQ:jf PR 217 Extern.OsHooks.nano:=⟨_,Tryz.func217,by kernel_rfl,by kernel_rfl,by kernel_rfl,by kernel_rfl⟩
theorem SS:(PR.funcs[217]?).any (·.norace)=true:=by kernel_rfl
theorem SU:jf PR 218 cS:=⟨_,Tryz.func218,by kernel_rfl,by kernel_rfl,by kernel_rfl,by kernel_rfl⟩
theorem D7:jf PR 220 cT:=⟨_,Tryz.func220,by kernel_rfl,by kernel_rfl,by kernel_rfl,by kernel_rfl⟩
theorem SV:(PR.funcs[205]?).any (·.norace)=true:=by kernel_rfl
theorem Dw:j7 PR (isAgg 21)=some false:=by kernel_rfl
theorem u253:PR.underlying 253=some (.pointer 187):=by simp
theorem u159:PR.underlying 159=some .unsafePointer:=by simp
theorem i187:(PR.info? 187).map (fun i=>decide (i.size=0))=some false:=by kernel_rfl
theorem ajs:jf PR 215 Extern.Sync.nothing:=⟨_,Tryz.func215,by kernel_rfl,by kernel_rfl,by kernel_rfl,by kernel_rfl⟩
theorem ad9{cs:List _}(h:ahead f=some (215,#[])):aA PR main (G f cs) w=.go (G (f.finish unit) cs) w #[]:=
 sP ajs h (by rfl) (by rfl) (by simp)
theorem stood{r:ae×List _}{l:List _}{site:List _}{al:List _}{call:Option _}{load:Option _}(h:look ks r=jZ l site al call load)(hk:al.map (·.1)=ks):oa l site al call load r:=by
 subst hk;exact stands h
theorem wrap_small{z:Nat}(h:z<1000):bR.wrap z=z:=by
 simp[IntKind.wrap,IntKind.bits];omega
namespace Env
section
variable{E:Env}{A:(Nat->Prop)->(Nat->Prop)->ai->ah->Prop}{x:Nat}{S X:Nat->Prop}{Fx:ah->Prop}{c:ae}{cs B:List ae}
def Ip(E:Env)(A:(Nat->Prop)->(Nat->Prop)->ai->ah->Prop)(x:Nat)(S X:Nat->Prop)(Fx:ah->Prop)(c:ae)(cs:List _):=
 ∀k w γ,Fx w->E.mi γ (w.heap[E.Mp]?)->E.Tree PR false (E.i_ PR A k (.ur (E.upd γ x))) (fun a=>S a\/a=E.Mp) (fun a=>X a\/a=E.Mp) (G (c.finish unit) cs) w
theorem via{D:(Nat->Prop)->(Nat->Prop)->ai->ah->Prop}{site:List _}{al:List _}{l:List _}(Y:Fr site (sA al) f)(k:∀j w3,gI E.U S w w3->E.Tree PR false D S X (G (gC PR 300 ((lf site (sA al) j).finish v) l).1 (gC PR 300 ((lf site (sA al) j).finish v) l).2) w3):E.Tree PR false D S X (G (f.finish v) l) w:=by
 rw[Y.eq];exact aj 300 fun w3 hr=>k _ w3 hr
variable(I:∀i,¬E.U E.Mp i)(K:E.Kn S Fx)(hB:B=(zh E.Fd c cs).2)(hT:Ip E A x S X Fx c cs)
section
include I K hT
theorem Sd{l:List _}(n:Nat)(h:ahead f=some (182,#[ptr E.Fd]))(R:gC PR n (f.finish unit) l=(c.finish unit,cs))(k:Nat)(hF:Fx w):E.Tree PR false (E.i_ PR A k (.la x)) S X (G f l) w:=by
 refine .stop ?_;cases k with
 |zero=>trivial
 |succ k=>
  refine⟨rfl,rfl,fun w2 γ hr B=>⟨G (f.finish unit) l,xX (by simp) SM h,aj n fun w3 Y=>?_⟩⟩;rw[R];have H:=K.rely (K.rely hF hr) (Ol (fun a D=>.inl D) Y);refine hT k w3 γ H ?_;have:=(Y.kept _ (.inr rfl)).eq fun i U=>I i U;simp_all
theorem ad_{l:List _}(n:Nat)(R:qw f=some (253,159,ptr E.Fd))(h:ahead (gC PR 300 (f.finish (ptr E.Fd)) l).1=some (182,#[ptr E.Fd]))(F:gC PR n ((gC PR 300 (f.finish (ptr E.Fd)) l).1.finish unit) (gC PR 300 (f.finish (ptr E.Fd)) l).2=(c.finish unit,cs))(k:Nat)(hF:Fx w):
  E.Tree PR false (E.i_ PR A k (.la x)) S X (G f l) w:=by
 refine Tz.one rfl fun w2 hr=>?_;have Y:=K.rely hF hr;obtain⟨v,D⟩:=(K.fd Y).cell0;refine⟨G _ l,w2,#[],S,X,ua R u253 u159 i187 D,iW S X w2,aj 300 fun w3 H=>?_⟩;exact Sd I K hT n h F k (K.rely Y H)
end
include I K hB hT
theorem Se{gm it:Int}{sv:Bool}{r:ae×List _}(h:oa B C7 (iQ E.Fd gm sv aw it) (some (170,#[])) none r)(k:Nat)(hF:Fx w):E.Tree PR false (E.i_ PR A k (.le x)) S X (G r.1 r.2) w:=by
 refine .stop ?_;cases k with
 |zero=>trivial
 |succ k=>
  refine⟨rfl,rfl,fun w2 hr=>⟨G _ r.2,rN (by simp) xq h.call,aj 300 fun w3 C=>?_⟩⟩;have D:=K.rely (K.rely hF hr) C;obtain⟨j,M⟩:=h.lf;rw[M,h.callers];have Y:=stood (adP (Fd:=E.Fd) (gm:=gm) (sv:=sv) (aw:=aw) (it:=it) (j:=j) (l:=B)) rfl;have J:=adQ (Fd:=E.Fd) (gm:=gm) (sv:=sv) (aw:=aw) (it:=it) (j:=j) (l:=B);change E.Tree PR _ _ S X (G (yz _ gm sv aw it j B).1 (yz E.Fd gm sv aw it j B).2) w3;generalize yz E.Fd gm sv aw it j B=r1 at Y J;obtain⟨F,R⟩:=Y.lf;obtain⟨f1,l1⟩:=r1;have L:=Y.callers.symm;subst L R;have H:=stood (adR (Fd:=E.Fd) (gm:=gm) (sv:=sv) (aw:=aw) (it:=it) (j:=F) (l:=B)) rfl;have N:gC PR 9 ((Da E.Fd gm sv aw it F B).1.finish unit) (Da E.Fd gm sv aw it F B).2=(c.finish unit,cs):=by
   obtain⟨O,U⟩:=H.lf;rw[U,H.callers,hB];exact af1
  exact ad_ I K hT 9 J H.call N k D
def Reads(E:Env)(A:(Nat->Prop)->(Nat->Prop)->ai->ah->Prop)(x:Nat)(S X:Nat->Prop)(Fx:ah->Prop)(B:List ae)(k:Nat):Prop:=
 ∀(site:List Item) (gm:Int) (sv aw:Bool) (it:Nat) (r:ae×List ae) (w:ah),(site=IX\/site=Ij\/site=C6)->oa B site (iQ E.Fd gm sv aw it) none (some (21,ptr E.Fd)) r->Fx w->E.Tree PR false (E.i_ PR A k (.lk (.rd aw sv it) x)) S X (G r.1 r.2) w
theorem ahQ{gm it:Int}{sv:Bool}{old:Word}{r:ae×List ae}(h:oa B Aw (iQ E.Fd gm sv aw it) (some (206,#[ptr E.Fd,.int .i32 (delta sv (nv old))])) none r)(k:Nat)(hF:Fx w):E.Tree PR false (E.i_ PR A k (.lk (.a1 old sv) x)) S X (G r.1 r.2) w:=by
 refine .stop ?_;cases k with
 |zero=>trivial
 |succ k=>
  refine⟨rfl,rfl,fun w2 m J hr H P D T V=>.inr ?_⟩;obtain⟨L,M,Z⟩:=D;have Y:bR.wrap (val m+delta sv (nv old))=val ⟨true,m.K,if sv=false\/old.W=1 then false else m.S,m.W-1⟩:=by
   have hd:delta sv (nv old)=if sv=false\/old.W=1 then-11 else-7:=by
    unfold delta;rw[si];simp_all
   rw[hd];have Q:=Lock.rj m.K;have b0:bn false=0:=rfl;have F:bn true=1:=rfl;by_cases R:sv=false\/old.W=1
   ·rw[if_pos R,if_pos R];unfold val;simp only[L,M,b0,F];have e:((0+2 *bn m.K+4 *1+8 *m.W:Nat))+ -11=((1+2 *bn m.K+4 *0+8 *(m.W-1):Nat):Int):=by omega
    rw[e];exact wrap_small (by omega)
   ·rw[if_neg R,if_neg R];unfold val;simp only[L,M,b0,F];have e:((0+2 *bn m.K+4 *1+8 *m.W:Nat))+ -7=((1+2 *bn m.K+4 *1+8 *(m.W-1):Nat):Int):=by omega
    rw[e];exact wrap_small (by omega)
  refine⟨_,_,J,G _ r.2,_,_,Mv.a1 m old J sv,CC SO h.call H.cell0 (H.thaw 0),by rw[Y];exact H.mY _,Eff.set _ _ _ _,EvA.two _ _ (by omega),fun O=>by omega,?_⟩;have U:Fx (w2.setCell E.mu (.int .i32 (bR.wrap (val m+delta sv (nv old))))):=by rw[Y];exact K.lG (K.rely hF hr) H (Eff.set _ _ _ _) (H.mY _)
  refine via h.fr fun j w3 C=>?_;rw[h.callers];have N:=stood (adO (Fd:=E.Fd) (gm:=gm) (sv:=sv) (aw:=aw) (it:=it) (x:=bR.wrap (val m+delta sv (nv old))) (j:=j) (l:=B)) rfl;exact Se I K hB hT N k (K.rely U C)
end
end Env
theorem aai{U:Nat->Nat->Prop}(S X:Nat->Prop)(w:ah):jY U S X w w.later #[] S X:=⟨⟨fun _ _ _=>rfl,ar _,fun a=>⟨.inl,fun h=>h.resolve_right fun y=>by simp[World.later]at y;omega⟩,fun a=>⟨.inl,fun h=>h.resolve_right fun y=>by simp[World.later]at y;omega⟩,fun e Y=>by simp_all,rfl,⟨w.tick,rfl⟩,rfl⟩,fun e Y=>by simp_all⟩
theorem ab5{a b:Bool}(h:¬(a=true/\b=false)):(a&&!b)=false:=by simp_all
namespace Env
section
variable{E:Env}{A:(Nat->Prop)->(Nat->Prop)->ai->ah->Prop}{x:Nat}{S X:Nat->Prop}{Fx:ah->Prop}{c:ae}{cs B:List ae}
variable(I:∀i,¬E.U E.Mp i)(K:E.Kn S Fx)(hB:B=(zh E.Fd c cs).2)(hT:Ip E A x S X Fx c cs)
include I K hB hT
def AtC2(E:Env)(A:(Nat->Prop)->(Nat->Prop)->ai->ah->Prop)(x:Nat)(S X:Nat->Prop)(Fx:ah->Prop)(B:List ae)(k:Nat):Prop:=
 ∀(m:Word) (gm:Int) (sv aw:Bool) (it:Nat) (r:ae×List ae) (w:ah),m.W<=8->(sv=true->aw=true)->(aw=true->m.K=true)->it<=4->look [6,0,2,3,4,5] r=toC2 B E.Fd gm sv aw it (nv m)->Fx w->E.Tree PR false (E.i_ PR A k (.lk (.c2 m aw sv it) x)) S X (G r.1 r.2) w
def yC(E:Env)(A:(Nat->Prop)->(Nat->Prop)->ai->ah->Prop)(x:Nat)(S X:Nat->Prop)(Fx:ah->Prop)(B:List ae)(k:Nat):Prop:=
 ∀(m:Word) (gm:Int) (sv aw:Bool) (it:Nat) (r:ae×List ae) (w:ah),m.W<=8->(sv=true->aw=true)->(aw=true->m.K=true)->it<=4->oa B yK (rD E.Fd gm sv aw it (nv m)) none none r->Fx w->E.Tree PR false (E.i_ PR A k (behind (hr m aw sv it) x)) S X (G r.1 r.2) w
omit I K hB hT in
theorem aaj(m:Word)(aw sv:Bool)(it:Nat):(behind (.hw m aw sv it) x:E.kv)=.lk (.hw m aw sv it) x:=rfl
omit I K hB hT in
theorem Oo(m:Word)(aw sv:Bool)(it:Nat):(behind (.c2 m aw sv it) x:E.kv)=.lk (.c2 m aw sv it) x:=rfl
theorem I4(R:Reads E A x S X Fx B k){gm:Int}{sv:Bool}(hit:it<=4){r:ae×List _}(h:oa B yx (iQ E.Fd gm sv aw it) (some (215,#[])) none r)(hF:Fx w):E.Tree PR false (E.i_ PR A k (.lk (.rd aw sv (it+1)) x)) S X (G r.1 r.2) w:=by
 refine Tz.one rfl fun w2 hr=>⟨G _ r.2,w2,#[],S,X,ad9 h.call,iW S X w2,via h.fr fun j w3 Y=>?_⟩;rw[h.callers];have H:=stood (adI (Fd:=E.Fd) (gm:=gm) (sv:=sv) (aw:=aw) (it:=it) (j:=j) (l:=B)) rfl;rw[aah hit]at H;exact R _ gm sv aw _ _ w3 (.inr (.inl rfl)) H (K.rely (K.rely hF hr) Y)
theorem ahR(L:∀k',k'<k->Reads E A x S X Fx B k'){m:Word}(M:m.W<=8){gm:Int}(hit:it<4){r:ae×List _}(h:oa B Ii (Kb E.Fd gm false false it (nv m)) (some (204,#[ptr E.Fd,.int .i32 (nv m),.int .i32 (val {m with K:=true})])) none r)(hF:Fx w):E.Tree PR false (E.i_ PR A k (.lk (.c1 m it) x)) S X (G r.1 r.2) w:=by
 refine .stop ?_;cases k with
 |zero=>trivial
 |succ k=>
  refine⟨rfl,rfl,fun w2 R D hr Y N J O P=>.inr ?_⟩;by_cases F:R=m
  ·subst F;refine⟨_,_,D,G _ r.2,_,_,Mv.JQ R D it,zO uU h.call Y.cell0 (Y.thaw 0),Y.mY _,Eff.set _ _ _ _,EvA.two _ _ (by omega),fun C=>by omega,via h.fr fun j w3 H=>?_⟩;rw[h.callers];have U:=stood (abS (Fd:=E.Fd) (gm:=gm) (sv:=false) (aw:=false) (it:=it) (old:=(nv R)) (j:=j) (l:=B)) rfl;exact I4 I K hB hT (L k (by omega)) (by omega) U (K.rely (K.lG (K.rely hF hr) Y (Eff.set _ _ _ _) (Y.mY _)) H)
  ·refine⟨_,_,D,G _ r.2,_,_,Mv.JR R m D it F,zN uU h.call Y.cell0 (Y.thaw 0) (fun e=>F (val_inj e)),Y,Eff.refl _ _,EvA.one _ _ _ (by omega),fun C=>by omega,via h.fr fun j w3 H=>?_⟩;rw[h.callers];have U:=stood (abT (Fd:=E.Fd) (gm:=gm) (sv:=false) (aw:=false) (it:=it) (old:=(nv m)) (j:=j) (l:=B)) rfl;exact I4 I K hB hT (L k (by omega)) (by omega) U (K.rely (K.rely hF hr) H)
theorem ahS(ih:∀k',k'<k->Reads E A x S X Fx B k')(hC:∀k',k'<k->AtC2 E A x S X Fx B k'){m:Word}(H:m.W<=8){gm:Int}{sv:Bool}(V:sv=true->aw=true)(M:aw=true->m.K=true)(hit:it<=4)(F:m.L=true/\m.S=false)
  {r:ae×List ae}(h:oa B G7 (Ka E.Fd gm sv aw it (nv m)) (some (214,#[.int .i64 (it:Int)])) none r)(hF:Fx w):E.Tree PR false (E.i_ PR A k (.lk (.hw m aw sv it) x)) S X (G r.1 r.2) w:=by
 refine .stop ?_;cases k with
 |zero=>trivial
 |succ k=>
  have sD:(nv m%2==1&&nv m/4%2==0)=true:=by rw[xo,qu,se,F.1,F.2];rfl
  have no:∀w1,Fx w1->E.Tree PR false (E.i_ PR A k (behind (hd m aw sv it false) x)) S X (G (r.1.finish (.bool false)) r.2) w1:=by
   intro w1 R;have e:hd m aw sv it false=.c2 m aw sv it:=by unfold hd;simp
   rw[e,Oo];refine via h.fr fun j w3 D=>?_;rw[h.callers];have Y:nv m∈wh aw:=oB H (by
    rw[sD,xp];cases aw with
    |false=>rfl
    |true=>rw[M rfl];rfl)
   refine hC k (by omega) m gm sv aw it _ w3 H V M hit ?_ (K.rely R D);cases aw with
   |false=>
    have:sv=false:=by simp_all
    subst this;exact iV Z6 Y
   |true=>
    cases sv with
    |false=>exact iV Z8 Y
    |true=>exact iV Z9 Y
  have yes:it<4->∀w1,Fx w1->E.Tree PR false (E.i_ PR A k (behind (hd m aw sv it true) x)) S X (G (r.1.finish (.bool true)) r.2) w1:=by
   intro O w1 R;by_cases q:aw=false/\m.K=false/\m.W≠0
   ·have e:hd m aw sv it true=.c1 m it:=by unfold hd;simp_all
    rw[e];obtain⟨rfl,P,Q⟩:=q;have:sv=false:=by simp_all
    subst this;refine via h.fr fun j w3 D=>?_;rw[h.callers];have Y:nv m∈IY:=oB H (by rw[sD,qu,xp,P,si];simp[Q]);have J:=stood (iV (Z_ (Fd:=E.Fd) (gm:=gm) (sv:=false) (it:=(it:Int)) (j:=j) (l:=B)) Y) rfl;rw[yO]at J;exact ahR I K hB hT (fun k' z=>ih k' (by omega)) H O J (K.rely R D)
   ·have e:hd m aw sv it true=.rd aw sv (it+1):=by unfold hd;simp_all
    rw[e];refine via h.fr fun j w3 D=>?_;rw[h.callers];have J:oa B yx (iQ E.Fd gm sv aw it) (some (215,#[])) none (s_ E.Fd gm sv aw it (nv m:Int) true j B):=by
     cases aw with
     |true=>exact stood (iV (aad (gm:=gm) (sv:=sv) (j:=j) (l:=B)) (oB H sD)) rfl
     |false=>
      refine stood (iV (aac (Fd:=E.Fd) (gm:=gm) (sv:=sv) (it:=(it:Int)) (j:=j) (l:=B)) (oB H ?_)) rfl;rw[sD,qu,xp,si];cases P:m.K with
      |true=>rfl
      |false=>
       have:m.W=0:=cL fun y=>q ⟨rfl,P,y⟩;rw[this];rfl
    exact I4 I K hB hT (ih k (by omega)) hit J (K.rely R D)
  refine⟨rfl,rfl,fun w2 N C hr U c Z d f=>.inr ?_⟩;by_cases O:it<4
  ·refine⟨_,N,C,G _ r.2,w2.asked,#[],Mv.hw N m C aw sv it w2.spins,Wy h.call SP (by omega),U.asked,Eff.asked _ _,EvA.nil _,fun T=>by omega,?_⟩;cases w2.spins with
   |false=>exact no w2.asked (K.lG (K.rely hF hr) U (Eff.asked _ _) U.asked)
   |true=>exact yes O w2.asked (K.lG (K.rely hF hr) U (Eff.asked _ _) U.asked)
  ·exact⟨_,N,C,G _ r.2,w2,#[],Mv.hw N m C aw sv it false,W3 h.call SP (by omega),U,Eff.refl _ _,EvA.nil _,fun T=>by omega,no w2 (K.rely hF hr)⟩
theorem aea(V:∀k',k'<k->Reads E A x S X Fx B k')(M:∀k',k'<=k->AtC2 E A x S X Fx B k'):yC E A x S X Fx B k:=by
 intro m gm sv aw it r w H U D hit h hF;obtain⟨j,N⟩:=h.lf;rw[N,h.callers];refine aj 300 fun w3 F=>?_;have R:=K.rely hF F;by_cases C:m.L=true/\m.S=false
 ·have e:hr m aw sv it=.hw m aw sv it:=by unfold hr;simp_all
  rw[e,aaj];have sD:(nv m%2==1&&nv m/4%2==0)=true:=by rw[xo,qu,se,C.1,C.2];rfl
  have J:=stood (iV (abR (Fd:=E.Fd) (gm:=gm) (sv:=sv) (aw:=aw) (it:=it) (j:=j) (l:=B)) (oB H sD)) rfl;exact ahS I K hB hT V (fun k' O=>M k' (by omega)) H U D hit C J R
 ·have e:hr m aw sv it=.c2 m aw sv it:=by unfold hr;simp_all
  rw[e,Oo];have Y:nv m∈wV aw:=oB H (by
   rw[xo,qu,se,xp,ab5 C];cases aw with
   |false=>rfl
   |true=>rw[D rfl];rfl)
  refine M k (ar _) m gm sv aw it _ w3 H U D hit ?_ R;cases aw with
  |false=>
   have:sv=false:=by simp_all
   subst this;exact iV Z3 Y
  |true=>
   cases sv with
   |false=>exact iV Z4 Y
   |true=>exact iV Z5 Y
end
end Env
namespace Env
section
variable{E:Env}{A:(Nat->Prop)->(Nat->Prop)->ai->ah->Prop}{x:Nat}{S X:Nat->Prop}{Fx:ah->Prop}{c:ae}{cs B:List ae}
variable(I:∀i,¬E.U E.Mp i)(K:E.Kn S Fx)(hB:B=(zh E.Fd c cs).2)(hT:Ip E A x S X Fx c cs)
include I K hB hT
theorem Sf(V:∀k',k'<k->yC E A x S X Fx B k'){gm it:Int}{sv:Bool}{r:ae×List _}(h:oa B C_ (iQ E.Fd gm sv aw it) none (some (21,ptr E.Fd)) r)(hF:Fx w):E.Tree PR false (E.i_ PR A k (.lk (.r2 sv) x)) S X (G r.1 r.2) w:=by
 refine .stop ?_;cases k with
 |zero=>trivial
 |succ k=>
  refine⟨rfl,rfl,fun w2 m J hr M T F N q=>.inr ?_⟩;have R:aA PR false (G r.1 r.2) w2=.go _ w2 #[]:=Cc h.load Dw M.cell0 (by rw[h.fr.fn];exact SV);have P:∀(D:(Nat->Prop)->(Nat->Prop)->ai->ah->Prop),(∀j w3,gI E.U S w2 w3->E.Tree PR false D S X (G (wi E.Fd gm sv aw it (nv m) j B).1 (wi E.Fd gm sv aw it (nv m) j B).2) w3)->E.Tree PR false D S X (G (r.1.finish (.int .i32 (val m))) r.2) w2:=by
   intro D hk;rw[h.fr.eq,h.callers];exact Tz.AP 300 fun w3 H=>hk _ w3 H
  cases Y:m.S with
  |false=>
   refine⟨_,m,J,_,w2,#[],Mv.EB m J sv Y,R,M,Eff.refl _ _,EvA.nil _,fun O=>by omega,P _ fun j w3 H=>?_⟩;have L:=stood (iV (abZ (Fd:=E.Fd) (gm:=gm) (sv:=sv) (aw:=aw) (it:=it) (j:=j) (l:=B)) (oB N (by rw[qu,se,Y];rfl))) rfl;exact V k (by omega) m gm sv true 0 _ w3 N (fun _=>rfl) (fun _=>F.2 Y) (by omega) L (K.rely (K.rely hF hr) H)
  |true=>
   refine⟨_,m,J,_,w2,#[],Mv.JW m J sv Y,R,M,Eff.refl _ _,EvA.nil _,fun O=>by omega,P _ fun j w3 H=>?_⟩;obtain⟨Z,W,z⟩:=F.1 Y;have Q:(nv m%4==0)=true:=by
    unfold nv;have b0:bn false=0:=rfl;rw[Z,W,b0];simp;omega
   have C:nv m∈lF:=oB N (by rw[Q,se,Y,si];simp;omega);have L:oa B Aw (iQ E.Fd gm sv aw it) (some (206,#[ptr E.Fd,.int .i32 (delta sv (nv m))])) none (wi E.Fd gm sv aw it (nv m) j B):=by
    cases sv with
    |false=>exact stood (iV (YT) C) rfl
    |true=>exact stood (iV (YU) C) rfl
   exact ahQ I K hB hT L k (K.rely (K.rely hF hr) H)
theorem ahT(F:∀k',k'<k->yC E A x S X Fx B k'){gm it:Int}{r:ae×List _}(h:oa B Im ((95,.bool false)::iQ E.Fd gm false aw it) (some (217,#[])) none r)(hF:Fx w):E.Tree PR false (E.i_ PR A k (.lk .t2 x)) S X (G r.1 r.2) w:=by
 refine .stop ?_;cases k with
 |zero=>trivial
 |succ k=>
  refine⟨rfl,rfl,fun w2 m D hr Y L R M N=>.inr ?_⟩;refine⟨_,m,D,G _ r.2,w2.later,#[],Mv.t2 m D (decide (1000000<aX.wrap (((w2.os.mono+w2.tick))-gm))),Oh h.call SQ SS,Y.later,Eff.later _ _,EvA.nil _,fun J=>by omega,via h.fr fun j w3 H=>?_⟩;rw[h.callers];have U:=stood (adN (Fd:=E.Fd) (gm:=gm) (T:=((w2.os.mono+w2.tick))) (aw:=aw) (it:=it) (j:=j) (l:=B)) rfl;exact Sf I K hB hT (fun k' C=>F k' (by omega)) U (K.rely (K.lG (K.rely hF hr) Y (Eff.later _ _) Y.later) H)
theorem Si(F:∀k',k'<k->yC E A x S X Fx B k'){gm it:Int}{sv:Bool}{r:ae×List _}(h:oa B C8 (iQ E.Fd gm sv aw it) (some (218,#[.pointer (some E.ms),v8,.int .i64 2])) none r)(hF:Fx w):E.Tree PR false (E.i_ PR A k (.lk (.s1 sv) x)) S X (G r.1 r.2) w:=by
 refine .stop ?_;cases k with
 |zero=>trivial
 |succ k=>
  refine⟨rfl,rfl,fun w2 m J hr Y L C N O=>?_⟩;cases J with
  |zero=>exact .inl ⟨sv,rfl,rfl,Mm SU h.call rfl Y.rk⟩
  |succ c0=>
   have M:(((c0+1:Nat):Int)-1)=c0:=by omega
   have gj:=Ma (main:=false) (cs:=r.2) SU h.call rfl Y.rk (by omega) (Y.thaw 1);rw[M]at gj;refine .inr ?_;cases sv with
   |false=>
    refine⟨_,m,c0,_,_,_,Mv.JU m c0,gj,Y.qJ c0,Eff.set _ _ _ _,EvA.zg _ _ (by omega),fun U=>by omega,?_⟩;refine via h.fr fun j w3 H=>?_;rw[h.callers];have D:=stood (abX (Fd:=E.Fd) (gm:=gm) (aw:=aw) (it:=it) (j:=j) (l:=B)) rfl;exact ahT I K hB hT (fun k' R=>F k' (by omega)) D (K.rely (K.lG (K.rely hF hr) Y (Eff.set _ _ _ _) (Y.qJ c0)) H)
   |true=>
    refine⟨_,m,c0,_,_,_,Mv.JV m c0,gj,Y.qJ c0,Eff.set _ _ _ _,EvA.zg _ _ (by omega),fun U=>by omega,?_⟩;refine via h.fr fun j w3 H=>?_;rw[h.callers];have D:=stood (abY (Fd:=E.Fd) (gm:=gm) (aw:=aw) (it:=it) (j:=j) (l:=B)) rfl;exact Sf I K hB hT (fun k' R=>F k' (by omega)) D (K.rely (K.lG (K.rely hF hr) Y (Eff.set _ _ _ _) (Y.qJ c0)) H)
theorem ahU(ih:∀k',k'<k->Reads E A x S X Fx B k')(hH:∀k',k'<k->yC E A x S X Fx B k'):AtC2 E A x S X Fx B k:=by
 intro m gm sv aw it r w M a n hit b hF;have h:=stood b rfl;refine .stop ?_;cases k with
 |zero=>trivial
 |succ k=>
  refine⟨rfl,rfl,fun w2 H O hr U t p hW hc=>.inr ?_⟩;have D:=by
   have:=h.call;rw[yO]at this;exact this
  by_cases c:H=m
  ·subst c;refine⟨_,_,O,G (r.1.finish (.bool true)) r.2,_,_,Mv.Ez H O aw sv it,zO uU D U.cell0 (U.thaw 0),U.mY _,Eff.set _ _ _ _,EvA.two _ _ (by omega),fun z=>by omega,?_⟩;have F:=K.lG (K.rely hF hr) U (Eff.set _ _ _ _) (U.mY (Lock.nw H aw sv));by_cases P:H.L=false/\H.S=false
   ·rw[if_pos P];refine via h.fr fun j w3 R=>?_;rw[h.callers];have Y:=stood (iV (adJ (Fd:=E.Fd) (gm:=gm) (sv:=sv) (aw:=aw) (it:=(it:Int)) (j:=j) (l:=B)) (oB M (by rw[qu,xo,qu,se,P.1,P.2];rfl))) rfl;exact Se I K hB hT Y k (K.rely F R)
   ·rw[if_neg P];rw[h.fr.eq,h.callers];refine Tz.R6 87 300 fun w3 R=>?_;have V:=K.rely F R;have N:nv H∈nf:=oB M (by
     rw[qu,xo,qu,se];cases hL:H.L<;>cases y:H.S<;>simp_all)
    have Y:=stood (iV (adK (Fd:=E.Fd) (gm:=gm) (sv:=sv) (aw:=aw) (it:=(it:Int)) (j:=fun i=>r.1.tmps.getD i ax) (l:=B)) N) rfl;change E.Tree PR false _ S X (G (Aj E.Fd gm sv aw (it:Int) (nv H:Int) _ B).1 (Aj E.Fd gm sv aw (it:Int) (nv H:Int) _ B).2) w3;generalize Aj E.Fd gm sv aw (it:Int) (nv H:Int) _ B=r1 at Y;have s:Fr Ik (sA ((87,.bool (decide (gm=0)))::(8,r1.1.tmps.getD 8 ax)::iQ E.Fd gm sv aw it)) r1.1:=by
     refine⟨Y.fr.fn,Y.fr.todo,Y.fr.defers,Y.fr.mode,Y.fr.kind,Y.fr.round,Y.fr.size,fun i v e=>?_⟩;by_cases o:i=8
     ·subst o;exact Option.some.inj e
     ·refine Y.fr.slot i v ?_;rw[<-e];unfold sA;rw[cv,cv,cv];have:(i==8)=false:=by simpa using o
      rw[this]
    rw[s.eq,Y.callers];refine aj 300 fun w4 d=>?_;have J:=K.rely V d;cases hd:decide (gm=0)with
    |false=>
     have C:=stood (abW (Fd:=E.Fd) (gm:=gm) (sv:=sv) (aw:=aw) (it:=(it:Int)) (v8:=r1.1.tmps.getD 8 ax) (j:=fun i=>r1.1.tmps.getD i ax) (l:=B)) rfl;exact Si I K hB hT (fun k' q=>hH k' (by omega)) C J
    |true=>
     have C:=stood (abV (Fd:=E.Fd) (gm:=gm) (sv:=sv) (aw:=aw) (it:=(it:Int)) (v8:=r1.1.tmps.getD 8 ax) (j:=fun i=>r1.1.tmps.getD i ax) (l:=B)) rfl;change E.Tree PR false _ S X (G _ (Il E.Fd gm sv aw true (it:Int) (r1.1.tmps.getD 8 ax) _ B).2) w4;refine Tz.one rfl fun Q f=>⟨_,_,_,S,X,Oh C.call SQ SS,aai S X Q,via C.fr fun j w6 g=>?_⟩;have Z:Fx Q.later:=K.later (K.rely J f);have W:Fx w6:=K.rely Z g;rw[C.callers];have u:=stood (adM (Fd:=E.Fd) (sv:=sv) (aw:=aw) (it:=(it:Int)) (T:=((Q.os.mono+Q.tick:Nat):Int)) (v8:=r1.1.tmps.getD 8 ax) (gm:=gm) (j:=j) (l:=B)) rfl;exact Si I K hB hT (fun k' q=>hH k' (by omega)) u W
  ·refine⟨_,_,O,G (r.1.finish (.bool false)) r.2,_,_,Mv.JS H m O aw sv it c,zN uU D U.cell0 (U.thaw 0) (fun e=>c (val_inj e)),U,Eff.refl _ _,EvA.one _ _ _ (by omega),fun z=>by omega,?_⟩;refine via h.fr fun j w3 R=>?_;rw[h.callers];have Y:=stood (abU (Fd:=E.Fd) (gm:=gm) (sv:=sv) (aw:=aw) (it:=(it:Int)) (old:=(nv m:Int)) (j:=j) (l:=B)) rfl;exact ih k (by omega) C6 gm sv aw it _ w3 (.inr (.inr rfl)) Y (K.rely (K.rely hF hr) R)
theorem aak:∀k,Reads E A x S X Fx B k:=by
 intro k;induction k using bH with
 |_ k N=>
 have Y:∀k',k'<k->yC E A x S X Fx B k'/\AtC2 E A x S X Fx B k':=by
  intro k';induction k' using bH with
  |_ k' F=>
  intro P;have c2:=ahU I K hB hT (fun q C=>N q (by omega)) (fun q C=>(F q C (by omega)).1);refine⟨aea I K hB hT (fun q C=>N q (by omega)) (fun q C=>?_),c2⟩;rcases Nat.lt_or_eq_of_le C with D|rfl
  ·exact(F q D (by omega)).2
  ·omega
 intro site gm sv aw it r w H h hF;refine .stop ?_;cases k with
 |zero=>trivial
 |succ k=>
  refine⟨rfl,rfl,fun w2 m L hr M R U O Q=>.inr ?_⟩;refine⟨_,m,L,_,w2,#[],Mv.rd m L aw sv it,Cc h.load Dw M.cell0 (by rw[h.fr.fn];exact SV),M,Eff.refl _ _,EvA.nil _,fun D=>by omega,?_⟩;rw[h.fr.eq,h.callers];refine Tz.AP 60 fun w3 J=>?_;refine(Y k (by omega)).1 m gm sv aw it _ w3 O R.1 U R.2 ?_ (K.rely (K.rely hF hr) J);rcases H with e|e|e
  ·rw[e];exact stood YS rfl
  ·rw[e];exact stood XC rfl
  ·rw[e];exact stood XD rfl
omit hB in
theorem aeb(k:Nat)(hF:Fx w):E.Tree PR false (E.i_ PR A k (.ld x)) S X (G (Frame.enter PR 160 #[ptr E.Fd] .normal) (c::cs)) w:=by
 refine aj 60 fun w1 M=>?_;have C:=K.rely hF M;refine .stop ?_;cases k with
 |zero=>trivial
 |succ k=>
  refine⟨rfl,rfl,fun w2 hr=>⟨G _ _,rN (by simp) A1 la0,aj 60 fun w3 N=>?_⟩⟩;have D:=K.rely (K.rely C hr) N;refine .stop ?_;cases k with
  |zero=>trivial
  |succ k=>
   refine⟨rfl,rfl,fun w4 m B U Y q V z d=>.inr ?_⟩;by_cases L:m=.zero
   ·subst L;refine⟨_,_,B,G _ _,_,_,Mv.Ey B,zO uU TI Y.cell0 (Y.thaw 0),Y.mY ⟨true,false,false,0⟩,Eff.set _ _ _ _,EvA.two _ _ (by omega),fun J=>by omega,aj 60 fun Z H=>?_⟩;have F:=K.rely (K.lG (K.rely D U) Y (Eff.set _ _ _ _) (Y.mY ⟨true,false,false,0⟩)) H;refine .stop ?_;cases k with
    |zero=>trivial
    |succ k=>
     refine⟨rfl,rfl,fun f O=>⟨G _ _,rN (by simp) xq la2,aj 60 fun g P=>?_⟩⟩;refine Tz.one rfl fun W Q=>?_;have R:=K.rely (K.rely (K.rely F O) P) Q;obtain⟨v,j⟩:=(K.fd R).cell0;refine⟨G _ _,W,#[],S,X,ua la3 u253 u159 i187 j,iW S X W,aj 60 fun l T=>?_⟩;exact Sd I K hT 6 la4 la5 k (K.rely R T)
   ·refine⟨_,_,B,G _ _,_,_,Mv.JP m B L,zN uU TI Y.cell0 (Y.thaw 0) (fun e=>L (val_inj e)),Y,Eff.refl _ _,EvA.one _ _ _ (by omega),fun J=>by omega,aj 60 fun Z H=>?_⟩;exact aak I K rfl hT k _ 0 _ _ 0 _ Z (.inl rfl) (stood las rfl) (K.rely (K.rely D U) H)
end
end Env
end Ph
namespace Ph
open Conc Ren
section
variable(Wg:Nat)(c:ae)(cs:List ae)
def zj:ae×List Frame:=gC PR 60 (Frame.enter PR 181 #[ptr Wg] .deferred) (c::cs)
def Ko:ae×List Frame:=gC PR 60 ((zj Wg c cs).1.finish (ptr Wg)) (zj Wg c cs).2
def Kq:ae×List Frame:=gC PR 60 ((Ko Wg c cs).1.finish unit) (Ko Wg c cs).2
def xH:ae×List Frame:=gC PR 60 ((Kq Wg c cs).1.finish unit) (Kq Wg c cs).2
def ED:ae×List Frame:=gC PR 90 ((xH Wg c cs).1.finish (.bool false)) (xH Wg c cs).2
def vh (z:Int):ae×List Frame:=gC PR 300 ((ED Wg c cs).1.finish (.int .u64 z)) (ED Wg c cs).2
def Kr:ae×List Frame:=gC PR 300 ((vh Wg c cs 1).1.finish (.int .u64 1)) (vh Wg c cs 1).2
def EF:ae×List Frame:=gC PR 300 ((Kr Wg c cs).1.finish unit) (Kr Wg c cs).2
def zk:ae×List Frame:=gC PR 300 ((EF Wg c cs).1.finish unit) (EF Wg c cs).2
end
section
variable{Wg:Nat}{c:ae}{cs:List ae}
theorem da0:qw (zj Wg c cs).1=some (216,159,ptr Wg):=by kernel_rfl
theorem da1:ahead (Ko Wg c cs).1=some (168,#[ptr Wg]):=by kernel_rfl
theorem da2:ahead (Kq Wg c cs).1=some (169,#[]):=by kernel_rfl
theorem da3:ahead (xH Wg c cs).1=some (171,#[]):=by kernel_rfl
theorem da4:ahead (ED Wg c cs).1=some (200,#[ptr Wg,.int .u64 18446744069414584320]):=by kernel_rfl
theorem da5:ahead (vh Wg c cs 1).1=some (201,#[ptr Wg]):=by kernel_rfl
theorem da6:ahead (Kr Wg c cs).1=some (202,#[ptr Wg,.int .u64 0]):=by kernel_rfl
theorem TM:ahead (EF Wg c cs).1=some (180,#[.pointer (some ⟨Wg,1,none⟩),.bool false,.int .i64 0]):=by kernel_rfl
end
theorem SW:jf PR 171 (fun _=>pure (.bool false)):=⟨_,Tryz.func171,by kernel_rfl,by kernel_rfl,by kernel_rfl,by kernel_rfl⟩
theorem SX:jf PR 200 (cR (Op.intArith .add) .u64 true):=⟨_,Tryz.func200,by kernel_rfl,by kernel_rfl,by kernel_rfl,by kernel_rfl⟩
theorem Js:jf PR 201 (cP (.int .u64)):=⟨_,Tryz.func201,by kernel_rfl,by kernel_rfl,by kernel_rfl,by kernel_rfl⟩
theorem ajt:jf PR 202 cQ:=⟨_,Tryz.func202,by kernel_rfl,by kernel_rfl,by kernel_rfl,by kernel_rfl⟩
theorem SY:jf PR 203 (cO (.int .u64)):=⟨_,Tryz.func203,by kernel_rfl,by kernel_rfl,by kernel_rfl,by kernel_rfl⟩
theorem SZ:jf PR 180 cT:=⟨_,Tryz.func180,by kernel_rfl,by kernel_rfl,by kernel_rfl,by kernel_rfl⟩
theorem S0:jf PR 186 cS:=⟨_,Tryz.func186,by kernel_rfl,by kernel_rfl,by kernel_rfl,by kernel_rfl⟩
theorem aju:jf PR 176 (bU .read):=⟨_,Tryz.func176,by kernel_rfl,by kernel_rfl,by kernel_rfl,by kernel_rfl⟩
theorem ajv:jf PR 185 (bU .write):=⟨_,Tryz.func185,by kernel_rfl,by kernel_rfl,by kernel_rfl,by kernel_rfl⟩
theorem u216:PR.underlying 216=some (.pointer 212):=by simp
theorem i212:(PR.info? 212).map (fun i=>decide (i.size=0))=some false:=by kernel_rfl
theorem Cd{P:aH}:∀(n:Nat) {q d:Nat} {f:ae} {l:List ae},bc P q d (G (gC P n f l).1 (gC P n f l).2)->∃Y,bc P Y d (G f l)
 |0,q,d,f,l,h=>⟨q,h⟩
 |n+1,q,d,f,l,h=>by
  unfold gC at h;split at h
  ·rename_i f1 l1 e;obtain⟨Y,h'⟩:=Cd n h;exact⟨Y+1,.ctl rfl (fun w=>sX e) h'⟩
  ·exact⟨q,h⟩
theorem MX{P:aH}{g:au}{m:Mark}(L:∀g,m≠.extern g)(F:f.mode=.returning)(hr:f.roundOf=none)(hd:f.defers=dcall g #[]::ds)(X:jf P g (fun _=>do mark m;pure bV)):
  aA P main (G f cs) w=.go (G {f with defers:=ds} cs) w #[⟨.mark m,false,true⟩]:=by
 obtain⟨fn,Y,K,H,D,R⟩:=X.ex;obtain⟨iO,tmps,todo,defers,mode,kind,ro⟩:=f;subst F hr;exact stepG_unwind_entry (b:=⟨iO,tmps,todo,defers,.returning,kind,none⟩) (a:=⟨tmps,defers⟩) (v:=.tuple #[]) hd Y K H D R (by simp[bV]) (by simp) (by simp_all)
def bot:Frame:={(default:ae)with fn:=PR.funcs.size,defers:=[],mode:=.panicking [goexitEntry]}
def kC (tmps:Array af) (todo:List Item):Frame:=⟨158,tmps,todo,[],.returning,.deferred,none⟩
section
variable{Wg:Nat}{tmps:Array af}{todo:List Item}{w:ah}
theorem leave1:aA PR false (G (kC tmps todo) [bot]) w=.go (G bot []) w #[]:=by kernel_rfl
theorem af_:aA PR false (G bot []) w=.go {G bot []with status:=.finished} w #[]:=by kernel_rfl
def zs:List Nat:=[0,4294967296,4294967297,8589934592,8589934593,12884901888,12884901889,17179869184,17179869185,21474836480,21474836481,25769803776,25769803777,30064771072,30064771073,34359738368,34359738369]
theorem aga:(zs.map fun z:Nat=>((vh Wg (kC tmps todo) [bot] (z:Int)).1.mode,(vh Wg (kC tmps todo) [bot] (z:Int)).1.roundOf,(vh Wg (kC tmps todo) [bot] (z:Int)).1.defers))=zs.map fun z:Nat=>(.returning,none,[dcall 170 #[]]):=by kernel_rfl
theorem agb:(zs.map fun z:Nat=>gC PR 6 {(vh Wg (kC tmps todo) [bot] (z:Int)).1 with defers:=[]} (vh Wg (kC tmps todo) [bot] (z:Int)).2)=zs.map fun z:Nat=>(kC tmps todo,[bot]):=by kernel_rfl
theorem agc:((zk Wg (kC tmps todo) [bot]).1.mode,(zk Wg (kC tmps todo) [bot]).1.roundOf,(zk Wg (kC tmps todo) [bot]).1.defers)=(.returning,none,[dcall 170 #[]]):=by kernel_rfl
theorem agd:gC PR 6 {(zk Wg (kC tmps todo) [bot]).1 with defers:=[]} (zk Wg (kC tmps todo) [bot]).2=(kC tmps todo,[bot]):=by kernel_rfl
end
theorem aal:bc PR 2 0 (G (kC tmps todo) [bot]):=
 .ctl rfl (fun w=>leave1) (.inr ⟨rfl,{G bot []with status:=.finished},#[],by simp,fun w=>af_,⟨rfl,rfl⟩⟩)
theorem Px{r:ae×List ae}(Y:(r.1.mode,r.1.roundOf,r.1.defers)=(.returning,none,[dcall 170 #[]]))(H:gC PR 6 {r.1 with defers:=[]} r.2=(kC tmps todo,[bot])):∃q,bc PR q 1 (G r.1 r.2):=by
 simp only[c_]at Y;have K:bc PR 2 0 (G (gC PR 6 {r.1 with defers:=[]} r.2).1 (gC PR 6 {r.1 with defers:=[]} r.2).2):=by rw[H];exact aal
 obtain⟨q,D⟩:=Cd 6 K;exact⟨q+1,.said _ rfl rfl (fun w=>MX (by simp) Y.1 Y.2.1 Y.2.2 xq) D⟩
theorem Gl{P:aH}{cs:List _}{g:au}{k:IntKind}(X:jf P g (cP (.int k))){v:Int}(h:ahead f=some (g,#[.pointer (some ad)]))(F:w.cell? ad=some (.int k v)):
  aA P main (G f cs) w=.go (G (f.finish (.int k v)) cs) w #[⟨.cell ad,false,true⟩]:=by
 obtain⟨o,Y,H,C,gu,K⟩:=tY h;obtain⟨fn,D,R,I,A,U⟩:=X.ex;obtain⟨x,rfl⟩:∃x,Y=#[x]:=by
  have:=by have:=congrArg Array.size K;simpa using this
  refine⟨Y[0],?_⟩;apply Array.ext
  ·omega
  ·simp_all
 have J:=by simpa using K
 exact conv C fun ops i rest L B hw hk=>stepG_load_atomic B hw hk gu D R I A k U J F
theorem XE{P:aH}{g:au}{k:IntKind}(X:jf P g cQ){v:Int}(h:ahead f=some (g,#[.pointer (some ad),.int k v]))(F:w.cell? ad=some u)(M:w.frozen? ad=false):
  aA P main (G f cs) w=.go (G (f.finish (.tuple #[])) cs) (w.setCell ad (.int k v)) #[⟨.cell ad,true,true⟩]:=by
 obtain⟨o,Y,R,L,gu,K⟩:=tY h;obtain⟨fn,I,A,U,B,C⟩:=X.ex;obtain⟨x,y,rfl⟩:∃x y,Y=#[x,y]:=by
  have N:=by have:=congrArg Array.size K;simpa using this
  refine⟨Y[0],Y[1],?_⟩;apply Array.ext
  ·omega
  ·intro i H J;have:i=0\/i=1:=by omega
   rcases this with rfl|rfl<;>rfl
 have D:=by simpa using K
 exact conv L fun ops i rest O H hw hk=>stepG_store_atomic H hw hk gu I A U B C D.1 D.2 F M
theorem sub_one{v:Nat}(H:v<=8)(Y:wt<=1):IntKind.u64.wrap ((((v+1) *4294967296+wt:Nat))+18446744069414584320)=((v *4294967296+wt:Nat)):=by
 rw[cV];omega
theorem ahV{v:Nat}(R:v<=8)(H:wt<=1)(h:¬(v=0/\wt=1)):v *4294967296+wt∈zs:=by
 have Y:v=0\/v=1\/v=2\/v=3\/v=4\/v=5\/v=6\/v=7\/v=8:=by omega
 have K:wt=0\/wt=1:=by omega
 rcases Y with rfl|rfl|rfl|rfl|rfl|rfl|rfl|rfl|rfl<;>rcases K with rfl|rfl<;>first|(exact absurd ⟨rfl,rfl⟩ h)|(simp[zs])
namespace Env
theorem vE{P:aH}{Q:ai->Prop}:∀n0 {n:Nat} {f:ae} {l:List _},oj P Q n (G (gC P n0 f l).1 (gC P n0 f l).2)->∃Y,oj P Q Y (G f l)
 |0,n,f,l,h=>⟨n,h⟩
 |n0+1,n,f,l,h=>by
  unfold gC at h;split at h
  ·rename_i f1 l1 e;obtain⟨Y,h'⟩:=vE n0 h;exact⟨Y+1,rfl,_,fun w=>sX e,h'⟩
  ·exact⟨n,h⟩
theorem aec{E:Env}{A:(Nat->Prop)->(Nat->Prop)->ai->ah->Prop}{X:Nat->Prop}{tmps:Array _}{todo:List _}(L:S E.Wg)(k:Nat)(hF:E.pe w):
  E.Tree PR false (E.i_ PR A k .wr) S X (G (zj E.Wg (kC tmps todo) [bot]).1 (zj E.Wg (kC tmps todo) [bot]).2) w:=by
 refine Tz.one rfl fun w2 U=>?_;have D:=hF.rely L U;obtain⟨v0,B⟩:=D.cell0;refine⟨_,w2,#[],S,X,ua da0 u216 u159 i212 B,iW S X w2,aj 60 fun w3 M=>?_⟩;refine .stop ?_;cases k with
 |zero=>trivial
 |succ k=>
  refine⟨rfl,rfl,fun w4 N=>⟨G _ _,xX (by simp) SN da1,vE 60 (n:=0) ?_⟩⟩;refine⟨rfl,G _ _,fun O=>rN (by simp) A1 da2,?_⟩;have J:∃n,oj PR (E.tD PR 3) n (G (xH E.Wg (kC tmps todo) [bot]).1 (xH E.Wg (kC tmps todo) [bot]).2):=by
   obtain⟨n,R⟩:∃n,oj PR (E.tD PR 3) n (G ((xH E.Wg (kC tmps todo) [bot]).1.finish (.bool false)) (xH E.Wg (kC tmps todo) [bot]).2):=by
    refine vE 90 (n:=0) ?_;refine⟨rfl,fun Q v wt F H Y=>?_⟩;have gj:=CC (main:=false) (cs:=(ED E.Wg (kC tmps todo) [bot]).2) SX (da4 (c:=kC tmps todo) (cs:=[bot])) Y.cell0 (Y.thaw 0);rw[sub_one F H]at gj;refine⟨_,_,_,gj,Y.mY v wt,Eff.set _ _ _ _,EvA.two _ _ (by omega),fun C=>?_,fun C=>?_⟩
    ·obtain⟨rfl,rfl⟩:=C;refine vE 300 (n:=0) ?_;refine⟨rfl,fun T Y=>⟨_,_,Gl Js da5 Y.cell0,EvA.one _ _ _ (by omega),vE 300 (n:=0) ?_⟩⟩;refine⟨rfl,fun V Y=>⟨_,_,_,XE ajt da6 Y.cell0 (Y.thaw 0),Y.mY 0 0,Eff.set _ _ _ _,EvA.one _ _ _ (by omega),vE 300 (n:=0) ?_⟩⟩;refine⟨rfl,GF SZ TM,fun Z Y=>?_⟩;have gj:=FM (main:=false) (cs:=(EF E.Wg (kC tmps todo) [bot]).2) SZ (TM (c:=kC tmps todo) (cs:=[bot])) rfl Y.rk (Y.thaw 1);refine⟨_,_,_,gj,Y.qJ 1,Eff.set _ _ _ _,EvA.zg _ _ (by omega),?_⟩;have:=Px (r:=zk E.Wg (kC tmps todo) _) agc agd;obtain⟨q,I⟩:=this;exact Cd 300 I
    ·have K:=ahV F H C;obtain⟨q,I⟩:=Px (iV aga K) (iV agb K);exact Cd 300 I
   exact⟨n+1,rfl,_,fun P=>Oi SW da3,R⟩
  obtain⟨n,R⟩:=J;exact vE 60 R
end Env
section
variable(Wg:Nat)(c:ae)(cs:List ae)
def Ks:ae×List Frame:=gC PR 60 (Frame.enter PR 157 #[ptr Wg,.int .i64 1] .normal) (c::cs)
def Ku:ae×List Frame:=gC PR 60 ((Ks Wg c cs).1.finish unit) (Ks Wg c cs).2
def EG:ae×List Frame:=gC PR 90 ((Ku Wg c cs).1.finish (.bool false)) (Ku Wg c cs).2
def tP (z:Int):ae×List Frame:=gC PR 300 ((EG Wg c cs).1.finish (.int .u64 z)) (EG Wg c cs).2
def Kv:ae×List Frame:=gC PR 60 ((tP Wg c cs 4294967296).1.finish (.pointer (some ⟨Wg,1,none⟩))) (tP Wg c cs 4294967296).2
def zl:ae×List Frame:=gC PR 300 ((Kv Wg c cs).1.finish unit) (Kv Wg c cs).2
def Bj:ae×List Frame:=gC PR 60 (Frame.enter PR 159 #[ptr Wg] .normal) (c::cs)
def EH:ae×List Frame:=ru PR 60 ((Bj Wg c cs).1.finish unit) (Bj Wg c cs).2
end
section
variable{Wg:Nat}{c:ae}{cs:List ae}
theorem aa0:ahead (Ks Wg c cs).1=some (169,#[]):=by kernel_rfl
theorem aa1:ahead (Ku Wg c cs).1=some (171,#[]):=by kernel_rfl
theorem aa2:ahead (EG Wg c cs).1=some (200,#[ptr Wg,.int .u64 4294967296]):=by kernel_rfl
theorem aa3:qw (tP Wg c cs 4294967296).1=some (227,159,.pointer (some ⟨Wg,1,none⟩)):=by kernel_rfl
theorem aa4:ahead (Kv Wg c cs).1=some (176,#[.pointer (some ⟨Wg,1,none⟩)]):=by kernel_rfl
theorem aa5:((zl Wg c cs).1.mode,(zl Wg c cs).1.roundOf,(zl Wg c cs).1.defers)=(.returning,none,[dcall 170 #[]]):=by kernel_rfl
theorem ajw:gC PR 1 {(zl Wg c cs).1 with defers:=[]} (zl Wg c cs).2=(c.finish unit,cs):=by kernel_rfl
def zA:List Nat:=[8589934592,12884901888,17179869184,21474836480,25769803776,30064771072,34359738368]
theorem age:(zA.map fun z:Nat=>((tP Wg c cs (z:Int)).1.mode,(tP Wg c cs (z:Int)).1.roundOf,(tP Wg c cs (z:Int)).1.defers))=zA.map fun z:Nat=>(.returning,none,[dcall 170 #[]]):=by kernel_rfl
theorem agf:(zA.map fun z:Nat=>gC PR 1 {(tP Wg c cs (z:Int)).1 with defers:=[]} (tP Wg c cs (z:Int)).2)=zA.map fun z:Nat=>(c.finish unit,cs):=by kernel_rfl
theorem ww0:ahead (Bj Wg c cs).1=some (169,#[]):=by kernel_rfl
end
theorem u227:PR.underlying 227=some (.pointer 185):=by simp
theorem i185:(PR.info? 185).map (fun i=>decide (i.size=0))=some false:=by kernel_rfl
def Dx:List Item:=(EH 0 bot []).1.todo
def EI(Wg:Nat):List (Nat×af):=[(0,ptr Wg)]
section
variable(Wg:Nat)(c:ae)(cs:List ae)(j:Nat->af)
def Kx:ae×List Frame:=gC PR 60 (kX 159 84 Dx (sA (EI Wg)) j) (c::cs)
def rF (z:Int):ae×List Frame:=gC PR 300 ((Kx Wg c cs j).1.finish (.int .u64 z)) (Kx Wg c cs j).2
def Ky (z:Int):ae×List Frame:=gC PR 300 ((rF Wg c cs j z).1.finish (.bool true)) (rF Wg c cs j z).2
def KA (z:Int):ae×List Frame:=ru PR 300 ((rF Wg c cs j z).1.finish (.bool false)) (rF Wg c cs j z).2
def KC (z:Int):ae×List Frame:=gC PR 300 ((Ky Wg c cs j z).1.finish (.pointer (some ⟨Wg,1,none⟩))) (Ky Wg c cs j z).2
def EJ (z:Int):ae×List Frame:=gC PR 300 ((KC Wg c cs j z).1.finish unit) (KC Wg c cs j z).2
def KD (z:Int):ae×List Frame:=gC PR 300 ((EJ Wg c cs j z).1.finish unit) (EJ Wg c cs j z).2
def KF (z:Int):ae×List Frame:=gC PR 300 ((KD Wg c cs j z).1.finish (.int .u64 0)) (KD Wg c cs j z).2
def KG (z:Int):ae×List Frame:=gC PR 300 ((KF Wg c cs j z).1.finish unit) (KF Wg c cs j z).2
def KH (z:Int):ae×List Frame:=gC PR 300 ((KG Wg c cs j z).1.finish (ptr Wg)) (KG Wg c cs j z).2
def KI:ae×List Frame:=gC PR 300 ((rF Wg c cs j 0).1.finish unit) (rF Wg c cs j 0).2
def KJ:ae×List Frame:=gC PR 300 ((KI Wg c cs j).1.finish (ptr Wg)) (KI Wg c cs j).2
end
def zW:List Nat:=[4294967296,8589934592,12884901888,17179869184,21474836480,25769803776,30064771072,34359738368]
section
variable{Wg:Nat}{c:ae}{cs:List ae}{j:Nat->af}
theorem wwh:look [0] (EH Wg c cs)=iu 159 84 (c::cs) Dx (EI Wg) none none:=by kernel_rfl
theorem wl1:ahead (Kx Wg c cs j).1=some (201,#[ptr Wg]):=by kernel_rfl
theorem ajx:ahead (rF Wg c cs j 0).1=some (170,#[]):=by kernel_rfl
theorem wl2:(zW.map fun z:Nat=>ahead (rF Wg c cs j (z:Int)).1)=zW.map fun z:Nat=>some (203,#[ptr Wg,.int .u64 (z:Int),.int .u64 (z+1:Int)]):=by kernel_rfl
theorem wlf:(zW.map fun z:Nat=>look [0] (KA Wg c cs j (z:Int)))=zW.map fun z:Nat=>iu 159 84 (c::cs) Dx (EI Wg) none none:=by kernel_rfl
theorem wl3:(zW.map fun z:Nat=>qw (Ky Wg c cs j (z:Int)).1)=zW.map fun z:Nat=>some (227,159,.pointer (some ⟨Wg,1,none⟩)):=by kernel_rfl
theorem wl4:(zW.map fun z:Nat=>ahead (KC Wg c cs j (z:Int)).1)=zW.map fun z:Nat=>some (185,#[.pointer (some ⟨Wg,1,none⟩)]):=by kernel_rfl
theorem wl5:(zW.map fun z:Nat=>ahead (EJ Wg c cs j (z:Int)).1)=zW.map fun z:Nat=>some (186,#[.pointer (some ⟨Wg,1,none⟩),.bool false]):=by kernel_rfl
theorem wl6:(zW.map fun z:Nat=>ahead (KD Wg c cs j (z:Int)).1)=zW.map fun z:Nat=>some (201,#[ptr Wg]):=by kernel_rfl
theorem wl7:(zW.map fun z:Nat=>ahead (KF Wg c cs j (z:Int)).1)=zW.map fun z:Nat=>some (170,#[]):=by kernel_rfl
theorem wl8:(zW.map fun z:Nat=>qw (KG Wg c cs j (z:Int)).1)=zW.map fun z:Nat=>some (216,159,ptr Wg):=by kernel_rfl
theorem wl9:(zW.map fun z:Nat=>ahead (KH Wg c cs j (z:Int)).1)=zW.map fun z:Nat=>some (182,#[ptr Wg]):=by kernel_rfl
theorem wz8:qw (KI Wg c cs j).1=some (216,159,ptr Wg):=by kernel_rfl
theorem wz9:ahead (KJ Wg c cs j).1=some (182,#[ptr Wg]):=by kernel_rfl
end
theorem add_one{v:Nat}(Y:v<=8):IntKind.u64.wrap (((v *4294967296+0:Nat))+4294967296)=(((v+1) *4294967296+0:Nat)):=by
 rw[cV];omega
theorem ahW{v:Nat}(Y:1<=v)(H:v<8):(v+1) *4294967296+0∈zA:=by
 have:v=1\/v=2\/v=3\/v=4\/v=5\/v=6\/v=7:=by omega
 rcases this with rfl|rfl|rfl|rfl|rfl|rfl|rfl<;>simp[zA]
theorem ahY{v:Nat}(Y:v≠0)(H:v<=8):v *4294967296+0∈zW:=by
 have:v=1\/v=2\/v=3\/v=4\/v=5\/v=6\/v=7\/v=8:=by omega
 rcases this with rfl|rfl|rfl|rfl|rfl|rfl|rfl|rfl<;>simp[zW]
section
variable{Wg:Nat}{c:ae}{cs:List ae}{j:Nat->af}
theorem ajy:(zW.map fun z:Nat=>gC PR 10 ((KH Wg c cs j (z:Int)).1.finish unit) (KH Wg c cs j z).2)=zW.map fun z:Nat=>(c.finish unit,cs):=by kernel_rfl
theorem ajz:gC PR 20 ((KJ Wg c cs j).1.finish unit) (KJ Wg c cs j).2=(c.finish unit,cs):=by kernel_rfl
end
namespace Env
structure TO(E:Env)(S:Nat->Prop)(Fx:ah->Prop):Prop where
 rely:∀{w w2:ah},Fx w->gI E.U S w w2->Fx w2
 wg:∀{w:ah},Fx w->E.pe w
 lG:∀{w w1:ah} {v wt ws v' gY gV:Nat},Fx w->E.WgAt w v wt ws->Eff E.Wg w w1->E.WgAt w1 v' gY gV->Fx w1
section
variable{E:Env}{J:im}{j8:Nat->ai->ah->Prop}{Fin:(Nat->Prop)->(Nat->Prop)->ai->ah->Prop}{S X:Nat->Prop}{Fx:ah->Prop}{c:ae}{cs:List ae}
theorem aed(K:E.TO S Fx){L:List Nat}{ch:Nat}(h:L.length<8)(O:∀k w,Fx w->E.Tree PR true (E.ll PR J j8 Fin k (.go L ch)) S X (G (c.finish unit) cs) w)(k:Nat)(hF:Fx w):
  E.Tree PR true (E.ll PR J j8 Fin k (.st L)) S X (G (Frame.enter PR 157 #[ptr E.Wg,.int .i64 1] .normal) (c::cs)) w:=by
 have out:∀(r:ae×List _) (k:Nat) (w:ah),(r.1.mode,r.1.roundOf,r.1.defers)=(.returning,none,[dcall 170 #[]])->gC PR 1 {r.1 with defers:=[]} r.2=(c.finish unit,cs)->Fx w->E.Tree PR true (E.ll PR J j8 Fin k (.a4 L ch)) S X (G r.1 r.2) w:=by
  intro r k w U s hF;refine .stop ?_;cases k with
  |zero=>trivial
  |succ k=>
   simp at U;refine⟨rfl,rfl,fun w2 hr=>⟨G _ r.2,MX (by simp) U.1 U.2.1 U.2.2 xq,aj 1 fun w3 H=>?_⟩⟩;rw[s];exact O k w3 (K.rely (K.rely hF hr) H)
 refine aj 60 fun w1 P=>?_;have B:=K.rely hF P;refine .stop ?_;cases k with
 |zero=>trivial
 |succ k=>
  refine⟨rfl,rfl,ch,fun w2 Q=>⟨G _ _,rN (by simp) A1 aa0,aj 60 fun w3 H=>?_⟩⟩;have C:=K.rely (K.rely B Q) H;refine Tz.one rfl fun w4 T=>⟨G _ _,w4,#[],S,X,Oi SW aa1,iW S X w4,aj 90 fun u V=>?_⟩;have F:=K.rely (K.rely C T) V;refine .stop ?_;cases k with
  |zero=>trivial
  |succ k=>
   refine⟨rfl,rfl,fun v Z A=>?_⟩;have gj:=CC (main:=true) (cs:=(EG E.Wg c cs).2) SX (aa2 (c:=c) (cs:=cs)) A.cell0 (A.thaw 0);rw[add_one (by omega)]at gj;have R:=K.lG (K.rely F Z) A (Eff.set _ _ _ _) (A.mY (L.length+1) 0);refine⟨_,_,_,gj,A.mY _ 0,Eff.set _ _ _ _,EvA.two _ _ (by omega),?_⟩;by_cases Y:L=[]
   ·subst Y;refine aj 300 fun f D=>?_;have M:=K.rely R D;refine Tz.one rfl fun o W=>?_;have I:=K.rely M W;obtain⟨v1,d⟩:=(K.wg I).rk;refine⟨_,o,#[],S,X,ua aa3 u227 u159 i185 d,iW S X o,aj 60 fun x q=>?_⟩;have N:=K.rely I q;refine .stop ?_;cases k with
    |zero=>trivial
    |succ k=>
     refine⟨rfl,rfl,fun y j=>⟨G _ _,xX (by simp) aju aa4,aj 300 fun p z=>?_⟩⟩;change E.Tree PR _ _ S X (G (zl E.Wg c cs).1 _) p;exact out _ k p aa5 ajw (K.rely (K.rely N j) z)
   ·rw[if_neg Y];refine aj 300 fun f D=>?_;change E.Tree PR _ _ S X (G (tP _ c cs _).1 _) f;have g:=ahW (by
     cases L with
     |nil=>exact absurd rfl Y
     |cons a l=>simp) h
    exact out _ k f (iV age g) (iV agf g) (K.rely R D)
theorem aee(K:E.TO S Fx)(W:∀(n:Nat) (f:ae) (l:List ae) (w:ah),Fx w->gC PR n f l=(c.finish unit,cs)->Fin S X (G f l) w)(k:Nat)(hF:Fx w):
  E.Tree PR true (E.ll PR J j8 Fin k .kd) S X (G (Frame.enter PR 159 #[ptr E.Wg] .normal) (c::cs)) w:=by
 have last:∀(r:ae×List ae) (n k:Nat) (w:ah),ahead r.1=some (182,#[ptr E.Wg])->gC PR n (r.1.finish unit) r.2=(c.finish unit,cs)->Fx w->E.Tree PR true (E.ll PR J j8 Fin k .aq) S X (G r.1 r.2) w:=by
  intro r n k w h1 h2 hF;refine .stop ?_;cases k with
  |zero=>trivial
  |succ k=>exact⟨rfl,rfl,fun w2 hr=>⟨G (r.1.finish unit) r.2,xX (by simp) SM h1,W n _ _ w2 (K.rely hF hr) h2⟩⟩
 have head:∀(k:Nat) (j:Nat->af) (w:ah),Fx w->E.Tree PR true (E.ll PR J j8 Fin k .w1) S X (G (kX 159 84 Dx (sA (EI E.Wg)) j) (c::cs)) w:=by
  intro k;induction k using bH with
  |_ k ih=>
  intro j w hF;refine aj 60 fun w1 M=>?_;have C:=K.rely hF M;refine .stop ?_;cases k with
  |zero=>trivial
  |succ k=>
   refine⟨rfl,rfl,fun w2 v N hv hG=>?_⟩;have T:=K.rely C N;refine⟨_,_,Gl Js wl1 hG.cell0,EvA.one _ _ _ (by omega),fun o=>?_,fun o=>?_⟩
   ·subst o;refine aj 300 fun w3 R=>?_;have U:=K.rely T R;refine .stop ?_;cases k with
    |zero=>trivial
    |succ k=>
     refine⟨rfl,rfl,fun w4 B=>⟨G _ (rF E.Wg c cs j 0).2,rN (by simp) xq ajx,aj 300 fun g I=>?_⟩⟩;have L:=K.rely (K.rely U B) I;refine Tz.one rfl fun d O=>?_;have D:=K.rely L O;obtain⟨v0,Q⟩:=(K.wg D).cell0;refine⟨_,d,#[],S,X,ua wz8 u216 u159 i212 Q,iW S X d,aj 300 fun w7 P=>?_⟩;exact last _ 20 k w7 wz9 ajz (K.rely D P)
   ·have A:=ahY o hv;refine aj 300 fun w3 R=>?_;have U:=K.rely T R;have a2:=iV (wl2 (Wg:=E.Wg) (c:=c) (cs:=cs) (j:=j)) A;have aC:=iV (wl3 (Wg:=E.Wg) (c:=c) (cs:=cs) (j:=j)) A;have a4:=iV (wl4 (Wg:=E.Wg) (c:=c) (cs:=cs) (j:=j)) A;have a5:=iV (wl5 (Wg:=E.Wg) (c:=c) (cs:=cs) (j:=j)) A;have a6:=iV (wl6 (Wg:=E.Wg) (c:=c) (cs:=cs) (j:=j)) A;have a7:=iV (wl7 (Wg:=E.Wg) (c:=c) (cs:=cs) (j:=j)) A;have a8:=iV (wl8 (Wg:=E.Wg) (c:=c) (cs:=cs) (j:=j)) A;have a9:=iV (wl9 (Wg:=E.Wg) (c:=c) (cs:=cs) (j:=j)) A;have aE:=iV (ajy (Wg:=E.Wg) (c:=c) (cs:=cs) (j:=j)) A;have aF:=iV (wlf (Wg:=E.Wg) (c:=c) (cs:=cs) (j:=j)) A;refine .stop ?_;cases k with
    |zero=>trivial
    |succ k=>
     refine⟨rfl,rfl,fun w4 v2 B hv2 Y=>⟨fun he=>?_,fun he=>?_⟩⟩
     ·subst he;have F:=K.rely U B;have gj:=zO (main:=true) (cs:=(rF E.Wg c cs j ((v2 *4294967296+0:Nat):Int)).2) SY a2 Y.cell0 (Y.thaw 0);have en:(((v2 *4294967296+0:Nat):Int)+1)=((v2 *4294967296+1:Nat):Int):=by omega
      rw[en]at gj;have V:=K.lG F Y (Eff.set _ _ _ _) (Y.mY v2 1);refine⟨_,_,_,gj,Y.mY v2 1,Eff.set _ _ _ _,EvA.two _ _ (by omega),aj 300 fun g I=>?_⟩;have L:=K.rely V I;refine Tz.one rfl fun d O=>?_;have D:=K.rely L O;obtain⟨v1,hv1⟩:=(K.wg D).rk;refine⟨_,d,#[],S,X,ua aC u227 u159 i185 hv1,iW S X d,aj 300 fun w7 P=>?_⟩;have p:=K.rely D P;refine .stop ?_;cases k with
      |zero=>trivial
      |succ k=>
       refine⟨rfl,rfl,fun w8 t=>⟨G _ _,xX (by simp) ajv a4,aj 300 fun w9 a=>?_⟩⟩;have s:=K.rely (K.rely p t) a;refine .stop ?_;cases k with
       |zero=>trivial
       |succ k=>
        refine⟨rfl,rfl,fun wA v3 wt3 q H=>Mm S0 a5 rfl H.rk,fun wA q H=>?_⟩;have gj:=Ma (main:=true) (cs:=(EJ E.Wg c cs j ((v2 *4294967296+0:Nat):Int)).2) S0 a5 rfl H.rk (by simp) (H.thaw 1);have u:=K.lG (K.rely s q) H (Eff.set _ _ _ _) (H.qJ 0);refine⟨_,_,_,gj,H.qJ 0,Eff.set _ _ _ _,EvA.zg _ _ (by omega),aj 300 fun wB i=>?_⟩;have x:=K.rely u i;refine .stop ?_;cases k with
        |zero=>trivial
        |succ k=>
         refine⟨rfl,rfl,fun wC h b=>⟨_,_,Gl Js a6 b.cell0,EvA.one _ _ _ (by omega),aj 300 fun wD e=>?_⟩⟩;have y:=K.rely (K.rely x h) e;refine .stop ?_;cases k with
         |zero=>trivial
         |succ k=>
          refine⟨rfl,rfl,fun wE zn=>⟨G _ _,rN (by simp) xq a7,aj 300 fun wF EK=>?_⟩⟩;have m:=K.rely (K.rely y zn) EK;refine Tz.one rfl fun wG EM=>?_;have Z:=K.rely m EM;obtain⟨v0,Q⟩:=(K.wg Z).cell0;refine⟨_,wG,#[],S,X,ua a8 u216 u159 i212 Q,iW S X wG,aj 300 fun wH EN=>?_⟩;exact last _ 10 k wH a9 aE (K.rely Z EN)
     ·have F:=K.rely U B;have gj:=zN (main:=true) (cs:=(rF E.Wg c cs j ((v *4294967296+0:Nat):Int)).2) SY a2 Y.cell0 (Y.thaw 0) (by omega);refine⟨_,_,gj,EvA.one _ _ _ (by omega),Tz.AP 300 fun g I=>?_⟩;change E.Tree PR true _ S X (G (KA E.Wg c cs j _).1 (KA E.Wg c cs j _).2) g;have z:=jO aF rfl;rw[z.callers,z.fr.eq];exact ih k (by omega) _ g (K.rely F I)
 refine aj 60 fun w1 M=>?_;have C:=K.rely hF M;refine .stop ?_;cases k with
 |zero=>trivial
 |succ k=>
  refine⟨rfl,rfl,fun w2 N=>⟨G ((Bj E.Wg c cs).1.finish unit) (Bj E.Wg c cs).2,rN (by simp) A1 ww0,Tz.AP 60 fun w3 R=>?_⟩⟩;change E.Tree PR true _ S X (G (EH E.Wg c cs).1 (EH E.Wg c cs).2) w3;have z:=jO (wwh (Wg:=E.Wg) (c:=c) (cs:=cs)) rfl;rw[z.callers,z.fr.eq];exact head k _ w3 (K.rely (K.rely C N) R)
end
end Env
def ab6:Op->Bool
 |.indexAddr .. =>true
 |.binOp .rem .. =>true
 |.makeSlice .. =>true
 |.call {callee:=.value _,..}=>true
 |_=>false
def aam(f:ae):=match f.todo with
 |.code (.cond _ _ _)::_=>true
 |_=>match opAt f with
  |some o=>ab6 o.op
  |none=>false
def gX(P:aH):Nat->ae->List ae->ae×List ae
 |0,f,l=>(f,l)
 |n+1,f,l=>if aam f then(f,l)else match ot P f l with
   |some (f1,l1)=>gX P n f1 l1
   |none=>(f,l)
theorem Tz.kN{P:aH}{U:Nat->Nat->Prop}{D:(Nat->Prop)->(Nat->Prop)->ai->ah->Prop}{X:Nat->Prop}:∀n {f:ae} {l:List _} {w:ah},(∀w2,gI U S w w2->Tz P main U D S X (G (gX P n f l).1 (gX P n f l).2) w2)->Tz P main U D S X (G f l) w
 |0,f,l,w,h=>h w (.refl _ _ _)
 |n+1,f,l,w,h=>by
  unfold gX at h;split at h
  ·exact h w (.refl _ _ _)
  ·split at h
   ·rename_i f1 l1 e;exact Tz.one rfl fun w2 hr=>⟨_,w2,#[],S,X,sX e,iW S X w2,Tz.kN n fun w3 Y=>h w3 (hr.trans Y)⟩
   ·exact h w (.refl _ _ _)
abbrev iv(n:Nat):Value:=.int .i64 (n:Int)
abbrev qQ(Gv n:Nat):Value:=.slice (some ⟨Gv,0,none⟩) n n
def ic(nv:af)(n:Nat)(work:af)(Wg Gv:Nat):=[(0,nv),(1,iv n),(2,work),(6,ptr Wg),(7,qQ Gv n)]
noncomputable def ahZ:List Item:=match Tryz.f137.body with
 |some (.seq _ (.seq _ rest))=>[.code rest]
 |_=>[]
def yes:List Item->List Item
 |.code (.cond _ a _)::k=>.code a::k
 |k=>k
def no:List Item->List Item
 |.code (.cond _ _ b)::k=>.code b::k
 |k=>k
def gM(b:Option Addr)(len cap:Nat):Value:=.slice b len cap
abbrev dF(site:List _)(al:List (Nat×af))(j:Nat->af):=kX 137 55 site (sA al) j
def Z0:=ic (gM none 0 0) 1 ax 0 0
abbrev xI (site:List _) (al:List _):=gX PR 60 (dF site al fun _=>ax) []
def lr:=(xI ahZ Z0).1.todo
def ov(a:List _)(n j:Nat):=a++[(16,iv n),(17,iv j)]
def EO:=(xI (yes lr) (ov Z0 1 0)).1.todo
def EP(a:List _)(Gv n j:Nat):=ov a n j++[(8,iv j),(20,qQ Gv n),(21,iv j)]
section
variable{b:Option Addr}{len cap n j Wg Gv ch:Nat}{work:af}{J:Nat->af}{l:List ae}
def ER (b:Option _) (len cap n j Wg Gv:Nat) (work:af) (J:Nat->af) (l:List _):=gX PR 60 (dF (yes lr) (ov (ic (gM b len cap) n work Wg Gv) n j) J) l
theorem rmk:look [0,1,2,6,7,16,17,8,20,21] (ER b len cap n j Wg Gv work J l)=iu 137 55 l EO (EP (ic (gM b len cap) n work Wg Gv) Gv n j) none none:=by kernel_rfl
end
abbrev pj (site:List _) (al:List _) (v:af):=gX PR 60 ((dF site al fun _=>ax).finish v) []
def ES:=(pj EO (EP Z0 0 1 0) (.chan none)).1.todo
def ET(a:List _)(Gv n j ch:Nat):=ov a n j++[(8,iv j),(20,qQ Gv n),(21,iv j),(22,.chan (some ch))]
def Bl:=(pj ES (ET Z0 0 1 0 0) (ptr 0)).1.todo
def Bm(a:List _)(Gv n j ch:Nat):=ov a n j++[(8,iv j),(22,.chan (some ch)),(23,.pointer (some ⟨Gv,j,none⟩))]
def Bn:=(pj Bl (Bm Z0 0 1 0 0) ax).1.todo
def Bo(a:List _)(n j:Nat):=ov a n j++[(8,iv j)]
def EU:=(pj Bn (Bo Z0 1 0) unit).1.todo
def EV(a:List _)(Gv n j:Nat):=ov a n j++[(25,qQ Gv n),(26,iv j)]
def KM:=(pj EU (EV Z0 0 1 0) (ptr 0)).1.todo
def KN(a:List _)(Gv n j:Nat):=ov a n j++[(27,.pointer (some ⟨Gv,j,none⟩))]
def sG:=(pj KM (KN Z0 0 1 0) (.chan none)).1.todo
def aG(a:List _)(n j ch:Nat)(work:af):=ov a n j++[(28,.chan (some ch)),(29,work)]
section
variable{b:Option Addr}{len cap n j Wg Gv ch:Nat}{work:af}{J:Nat->af}{l:List ae}
variable(b:Option Addr)(len cap n j Wg Gv ch:Nat)(work:af)(J:Nat->af)(l:List ae)
def EW:=gX PR 60 ((dF EO (EP (ic (gM b len cap) n work Wg Gv) Gv n j) J).finish (.chan (some ch))) l
def EX:=gX PR 60 ((dF ES (ET (ic (gM b len cap) n work Wg Gv) Gv n j ch) J).finish (.pointer (some ⟨Gv,j,none⟩))) l
def EY:=gX PR 60 ((dF Bl (Bm (ic (gM b len cap) n work Wg Gv) Gv n j ch) J).finish ax) l
def EZ:=gX PR 60 ((dF Bn (Bo (ic (gM b len cap) n work Wg Gv) n j) J).finish unit) l
def E0:=gX PR 60 ((dF EU (EV (ic (gM b len cap) n work Wg Gv) Gv n j) J).finish (.pointer (some ⟨Gv,j,none⟩))) l
def RG:=gX PR 60 ((dF KM (KN (ic (gM b len cap) n work Wg Gv) Gv n j) J).finish (.chan (some ch))) l
def S3:=gX PR 60 ((dF sG (aG (ic (gM b len cap) n work Wg Gv) n j ch work) J).finish ax) l
end
section
variable{b:Option Addr}{len cap n j Wg Gv ch:Nat}{work:af}{J:Nat->af}{l:List ae}
theorem ah0:opAt (dF EO (EP (ic (gM b len cap) n work Wg Gv) Gv n j) J)=some {dst:=some 22,op:=.makeChan 214 (.const (.int .i64 0)),type:=214,pos:= "workers.go:52",after:=#[],guard:=none}:=by kernel_rfl
theorem ri1:look [0,1,2,6,7,16,17,8,20,21,22] (EW b len cap n j Wg Gv ch work J l)=iu 137 55 l ES (ET (ic (gM b len cap) n work Wg Gv) Gv n j ch) none none:=by kernel_rfl
theorem vd:look [0,1,2,6,7,16,17,8,22,23] (EX b len cap n j Wg Gv ch work J l)=iu 137 55 l Bl (Bm (ic (gM b len cap) n work Wg Gv) Gv n j ch) none none:=by kernel_rfl
theorem rc1:look [0,1,2,6,7,16,17,8] (EY b len cap n j Wg Gv ch work J l)=iu 137 55 l Bn (Bo (ic (gM b len cap) n work Wg Gv) n j) (some (157,#[ptr Wg,.int .i64 1])) none:=by kernel_rfl
theorem ri2:look [0,1,2,6,7,16,17,25,26] (EZ b len cap n j Wg Gv work J l)=iu 137 55 l EU (EV (ic (gM b len cap) n work Wg Gv) Gv n j) none none:=by kernel_rfl
theorem rl2:look [0,1,2,6,7,16,17,27] (E0 b len cap n j Wg Gv work J l)=iu 137 55 l KM (KN (ic (gM b len cap) n work Wg Gv) Gv n j) none (some (214,.pointer (some ⟨Gv,j,none⟩))):=by kernel_rfl
theorem z87:look [0,1,2,6,7,16,17,28,29] (RG b len cap n j Wg Gv ch work J l)=iu 137 55 l sG (aG (ic (gM b len cap) n work Wg Gv) n j ch work) none none:=by kernel_rfl
theorem ajA:sz PR (dF sG (aG (ic (gM b len cap) n work Wg Gv) n j ch work) J)=some (.spawn {target:=.fn (.func 158) #[],args:=#[.chan (some ch),work,ptr Wg]}):=by kernel_rfl
theorem ajB:look [0,1,2,6,7,16,17,18] (S3 b len cap n j Wg Gv ch work J l)=iu 137 55 l lr (ic (gM b len cap) n work Wg Gv++[(16,iv n),(17,.int .i64 (aX.wrap (j+1))),(18,.bool (decide (aX.wrap (j+1)<n)))]) none none:=by kernel_rfl
end
def lI:=(xI (no lr) (ov Z0 1 0)).1.todo
def pA(a:List _)(nv:af)(len i:Nat):=a++[(31,nv),(32,iv len),(33,iv i)]
def Bp:=(xI (yes lI) (pA Z0 (gM none 0 0) 0 0)).1.todo
def Bq(a:List _)(nv:af)(len i:Nat):=pA a nv len i++[(35,iv i)]
def KO:=(pj Bp (Bq Z0 (gM none 0 0) 0 0) (ptr 0)).1.todo
def KP(a:List _)(nv:af)(len i:Nat)(p:Addr):=pA a nv len i++[(35,iv i),(36,.pointer (some p))]
def sR:=(pj KO (KP Z0 (gM none 0 0) 0 0 ⟨0,0,none⟩) (iv 0)).1.todo
def aR(a:List _)(nv:af)(len i x n Gv:Nat):=pA a nv len i++[(9,iv i),(10,iv x),(38,qQ Gv n),(39,iv i),(40,iv n)]
def E1:=(pj sR (aR Z0 (gM none 0 0) 0 0 0 1 0) (iv 0)).1.todo
def E2(a:List _)(nv:af)(len i x n Gv m:Nat):=pA a nv len i++[(10,iv x),(38,qQ Gv n),(41,iv m)]
def KQ:=(pj E1 (E2 Z0 (gM none 0 0) 0 0 0 1 0 0) (ptr 0)).1.todo
def KR(a:List _)(nv:af)(len i x Gv m:Nat):=pA a nv len i++[(10,iv x),(42,.pointer (some ⟨Gv,m,none⟩))]
def sS:=(pj KQ (KR Z0 (gM none 0 0) 0 0 0 0 0) (.chan none)).1.todo
def aS(a:List _)(nv:af)(len i x ch:Nat):=pA a nv len i++[(43,.chan (some ch)),(44,iv x)]
def lJ:=(xI (no lI) (pA Z0 (gM none 0 0) 0 0)).1.todo
def pB(a:List _)(Gv n i:Nat):=a++[(46,qQ Gv n),(47,iv n),(48,iv i)]
def E3:=(xI (yes lJ) (pB Z0 0 1 0)).1.todo
def KS:=(pj E3 (pB Z0 0 1 0) (ptr 0)).1.todo
def KT(a:List _)(Gv n i:Nat):=pB a Gv n i++[(50,.pointer (some ⟨Gv,i,none⟩))]
def KU:=(pj KS (KT Z0 0 1 0) (.chan none)).1.todo
def KV(a:List _)(Gv n i ch:Nat):=pB a Gv n i++[(52,.chan (some ch))]
def E4:=(xI (no lJ) (pB Z0 0 1 0)).1.todo
section
variable(b:Option Addr)(len cap n i x m Wg Gv ch:Nat)(p:Addr)(work:af)(J:Nat->af)(l:List ae)
def TP:=gX PR 60 (dF (no lr) (ov (ic (gM b len cap) n work Wg Gv) n i) J) l
def E5:=gX PR 60 (dF (yes lI) (pA (ic (gM b len cap) n work Wg Gv) (gM b len cap) len i) J) l
def E6:=gX PR 60 ((dF Bp (Bq (ic (gM b len cap) n work Wg Gv) (gM b len cap) len i) J).finish (.pointer (some p))) l
def RR:=gX PR 60 ((dF KO (KP (ic (gM b len cap) n work Wg Gv) (gM b len cap) len i p) J).finish (iv x)) l
def E7:=gX PR 60 ((dF sR (aR (ic (gM b len cap) n work Wg Gv) (gM b len cap) len i x n Gv) J).finish (iv m)) l
def E8:=gX PR 60 ((dF E1 (E2 (ic (gM b len cap) n work Wg Gv) (gM b len cap) len i x n Gv m) J).finish (.pointer (some ⟨Gv,m,none⟩))) l
def RS:=gX PR 60 ((dF KQ (KR (ic (gM b len cap) n work Wg Gv) (gM b len cap) len i x Gv m) J).finish (.chan (some ch))) l
def S4:=gX PR 60 ((dF sS (aS (ic (gM b len cap) n work Wg Gv) (gM b len cap) len i x ch) J).finish ax) l
def TQ:=gX PR 60 (dF (no lI) (pA (ic (gM b len cap) n work Wg Gv) (gM b len cap) len i) J) l
def E9:=gX PR 60 (dF (yes lJ) (pB (ic (gM b len cap) n work Wg Gv) Gv n i) J) l
def E_:=gX PR 60 ((dF E3 (pB (ic (gM b len cap) n work Wg Gv) Gv n i) J).finish (.pointer (some ⟨Gv,i,none⟩))) l
def Fa:=gX PR 60 ((dF KS (KT (ic (gM b len cap) n work Wg Gv) Gv n i) J).finish (.chan (some ch))) l
def S5:=gX PR 60 ((dF KU (KV (ic (gM b len cap) n work Wg Gv) Gv n i ch) J).finish unit) l
def KW:=gX PR 60 (dF (no lJ) (pB (ic (gM b len cap) n work Wg Gv) Gv n i) J) l
end
section
variable{b:Option Addr}{len cap n i x m Wg Gv ch:Nat}{p:Addr}{work:af}{J:Nat->af}{l cs:List ae}{c:ae}
theorem rk2:look [0,1,2,6,7,31,32,33,34] (TP b len cap n i Wg Gv work J l)=iu 137 55 l lI (pA (ic (gM b len cap) n work Wg Gv) (gM b len cap) len 0++[(34,.bool (decide ((0:Int)<len)))]) none none:=by kernel_rfl
theorem ri3:look [0,1,2,6,7,31,32,33,35] (E5 b len cap n i Wg Gv work J l)=iu 137 55 l Bp (Bq (ic (gM b len cap) n work Wg Gv) (gM b len cap) len i) none none:=by kernel_rfl
theorem rl3:look [0,1,2,6,7,31,32,33,35,36] (E6 b len cap n i Wg Gv p work J l)=iu 137 55 l KO (KP (ic (gM b len cap) n work Wg Gv) (gM b len cap) len i p) none (some (3,.pointer (some p))):=by kernel_rfl
theorem rr:look [0,1,2,6,7,31,32,33,9,10,38,39,40] (RR b len cap n i x Wg Gv p work J l)=iu 137 55 l sR (aR (ic (gM b len cap) n work Wg Gv) (gM b len cap) len i x n Gv) none none:=by kernel_rfl
theorem ri4:look [0,1,2,6,7,31,32,33,10,38,41] (E7 b len cap n i x m Wg Gv work J l)=iu 137 55 l E1 (E2 (ic (gM b len cap) n work Wg Gv) (gM b len cap) len i x n Gv m) none none:=by kernel_rfl
theorem rl4:look [0,1,2,6,7,31,32,33,10,42] (E8 b len cap n i x m Wg Gv work J l)=iu 137 55 l KQ (KR (ic (gM b len cap) n work Wg Gv) (gM b len cap) len i x Gv m) none (some (214,.pointer (some ⟨Gv,m,none⟩))):=by kernel_rfl
theorem rs:look [0,1,2,6,7,31,32,33,43,44] (RS b len cap n i x m Wg Gv ch work J l)=iu 137 55 l sS (aS (ic (gM b len cap) n work Wg Gv) (gM b len cap) len i x ch) none none:=by kernel_rfl
theorem ajC:sz PR (dF sS (aS (ic (gM b len cap) n work Wg Gv) (gM b len cap) len i x ch) J)=some (.comm #[scase ch (.int .i64 x) ax] true .send):=by kernel_rfl
theorem ajD:look [0,1,2,6,7,31,32,33,34] (S4 b len cap n i x Wg Gv ch work J l)=iu 137 55 l lI (ic (gM b len cap) n work Wg Gv++[(31,gM b len cap),(32,iv len),(33,.int .i64 (aX.wrap (i+1))),(34,.bool (decide (aX.wrap (i+1)<len)))]) none none:=by kernel_rfl
theorem rk3:look [0,1,2,6,7,46,47,48,49] (TQ b len cap n i Wg Gv work J l)=iu 137 55 l lJ (pB (ic (gM b len cap) n work Wg Gv) Gv n 0++[(49,.bool (decide ((0:Int)<n)))]) none none:=by kernel_rfl
theorem ri5:look [0,1,2,6,7,46,47,48] (E9 b len cap n i Wg Gv work J l)=iu 137 55 l E3 (pB (ic (gM b len cap) n work Wg Gv) Gv n i) none none:=by kernel_rfl
theorem rl5:look [0,1,2,6,7,46,47,48,50] (E_ b len cap n i Wg Gv work J l)=iu 137 55 l KS (KT (ic (gM b len cap) n work Wg Gv) Gv n i) none (some (214,.pointer (some ⟨Gv,i,none⟩))):=by kernel_rfl
theorem rcl:look [0,1,2,6,7,46,47,48,52] (Fa b len cap n i Wg Gv ch work J l)=iu 137 55 l KU (KV (ic (gM b len cap) n work Wg Gv) Gv n i ch) none none:=by kernel_rfl
theorem Sj:(opAt (dF KU (KV (ic (gM b len cap) n work Wg Gv) Gv n i ch) J)).map (fun o=>(o.dst,o.op))=some (none,.call {callee:=.builtin .close,args:=#[.tmp 52],argTypes:=#[214]}):=by kernel_rfl
theorem ajE:look [0,1,2,6,7,46,47,48,49] (S5 b len cap n i Wg Gv ch work J l)=iu 137 55 l lJ (ic (gM b len cap) n work Wg Gv++[(46,qQ Gv n),(47,iv n),(48,.int .i64 (aX.wrap (i+1))),(49,.bool (decide (aX.wrap (i+1)<n)))]) none none:=by kernel_rfl
theorem rc2:look [0,1,2,6,7] (KW b len cap n i Wg Gv work J l)=iu 137 55 l E4 (ic (gM b len cap) n work Wg Gv) (some (159,#[ptr Wg])) none:=by kernel_rfl
theorem ah1:gC PR 1 (dF E4 (ic (gM b len cap) n work Wg Gv) J) l=(Frame.enter PR 159 #[ptr Wg] .normal,dF E4 (ic (gM b len cap) n work Wg Gv) J::l):=by kernel_rfl
theorem ah2{j:Nat}:gC PR 1 (dF Bn (Bo (ic (gM b len cap) n work Wg Gv) n j) J) l=(Frame.enter PR 157 #[ptr Wg,.int .i64 1] .normal,dF Bn (Bo (ic (gM b len cap) n work Wg Gv) n j) J::l):=by kernel_rfl
theorem ah3{j:Nat}:(opAt (dF ES (ET (ic (gM b len cap) n work Wg Gv) Gv n j ch) J)).map (fun o=>o.op)=some (.indexAddr 213 (.tmp 20) (.tmp 21)):=by kernel_rfl
theorem ah4{j:Nat}:(opAt (dF Bl (Bm (ic (gM b len cap) n work Wg Gv) Gv n j ch) J)).map (fun o=>o.op)=some (.store 214 (.tmp 23) (.tmp 22)):=by kernel_rfl
theorem ah5{j:Nat}:(opAt (dF EU (EV (ic (gM b len cap) n work Wg Gv) Gv n j) J)).map (fun o=>o.op)=some (.indexAddr 213 (.tmp 25) (.tmp 26)):=by kernel_rfl
theorem ah6:(opAt (dF Bp (Bq (ic (gM b len cap) n work Wg Gv) (gM b len cap) len i) J)).map (fun o=>o.op)=some (.indexAddr 25 (.tmp 31) (.tmp 33)):=by kernel_rfl
theorem ajF:(opAt (dF sR (aR (ic (gM b len cap) n work Wg Gv) (gM b len cap) len i x n Gv) J)).map (fun o=>o.op)=some (.binOp .rem 3 (.tmp 39) (.tmp 40) 3):=by kernel_rfl
theorem ah7:(opAt (dF E1 (E2 (ic (gM b len cap) n work Wg Gv) (gM b len cap) len i x n Gv m) J)).map (fun o=>o.op)=some (.indexAddr 213 (.tmp 38) (.tmp 41)):=by kernel_rfl
theorem ah8:(opAt (dF E3 (pB (ic (gM b len cap) n work Wg Gv) Gv n i) J)).map (fun o=>o.op)=some (.indexAddr 213 (.tmp 46) (.tmp 48)):=by kernel_rfl
end
section
variable{main:Bool}{f:ae}{cs:List ae}{w w':ah}
theorem r5{x:Op}(h:(opAt f).map (fun o=>o.op)=some x):∃o,opAt f=some o/\o.op=x:=by simp_all
theorem step_skip{P:aH}{o:Oper}(h:opAt f=some o)(hr:(aK f.eval o).run P w=.ok .skip w'):aA P main (G f cs) w=.go (G (f.finish ax) cs) w' (seen P f.fn ((aK f.eval o).events P w #[])):=by
 obtain⟨ops,i,rest,k,e,H,hw,hk⟩:=sY h;have K:f.eval=Act.eval ⟨f.tmps,f.defers⟩:=by rw[e];exact Frame.eval_at' _ _ _
 have:=stepG_none (main:=main) (a:=⟨f.tmps,f.defers⟩) (k:=k) (cs:=cs) (rest:=rest) H hw hk (by exact hr);rw[<-e]at this;rw[this];have Y:f.finish ax=f.at (Act.put ⟨f.tmps,f.defers⟩ o.dst ax) (.inRegion ops rest::k):=by
  conv=>lhs;rw[e]
  rw[Frame.finish_at,H];rfl
 rw[<-Y];unfold listed;rw[<-K]
theorem An{t:aB}{x:aT}(h:(opAt f).map (fun o=>o.op)=some (.indexAddr t x y)){B o cap:Nat}(L:f.eval x=.slice (some ⟨B,o,none⟩) n cap)(M:f.eval y=.int .i64 (i:Int))(R:i<n)(F:PR.underlying t=some (.slice (PR.elem t)))(N:(PR.info? (PR.elem t)).map (·.size)=some 1):
  aA PR main (G f cs) w=.go (G (f.finish (.pointer (some ⟨B,o+i,none⟩))) cs) w #[]:=by
 obtain⟨op,I,gu⟩:=r5 h;have A:∃Y,PR.info? (PR.elem t)=some Y/\Y.size=1:=by simp_all
 obtain⟨Y,K,H⟩:=A;have hr:(aK f.eval op).run PR w=.ok (.value (.pointer (some ⟨B,o+i,none⟩))) w:=by
  unfold aK;simp only[gu,L,M];simp[cU,dk F,asIntOf,R,cg,cj,K,H,Addr.add];try(intro e;subst e;rfl)
 have D:(aK f.eval op).events PR w #[]=#[]:=by
  unfold aK;simp only[gu,L,M];simp[cU,dk F,asIntOf,R,cg,cj,K,Addr.add]
 rw[oX I hr,D,cC]
theorem ab7{x:aT}(h:(opAt f).map (fun o=>o.op)=some (.binOp .rem 3 x y 3))(Y:f.eval x=.int .i64 i)(H:f.eval y=.int .i64 n)(F:0<n)(R:i<9223372036854775808):
  aA PR main (G f cs) w=.go (G (f.finish (.int .i64 ((i%n:Nat)))) cs) w #[]:=by
 obtain⟨op,D,gu⟩:=r5 h;have hr:(aK f.eval op).run PR w=.ok (.value (.int .i64 ((i%n:Nat)))) w:=by
  unfold aK;simp[gu,Y,H];simp[go_sem];rw[if_neg (by omega),Int.tmod_eq_emod_of_nonneg (by omega)]
 have K:(aK f.eval op).events PR w #[]=#[]:=by
  unfold aK;simp[gu,Y,H];simp[go_sem]
 rw[oX D hr,K,cC]
theorem step_mk{o:Oper}(H:opAt f=some o)(gu:o.op=.makeChan 214 (.const (.int .i64 0))):
  aA PR main (G f cs) w=.go (G (f.finish (.chan (some w.heap.size))) cs) (w.alloc (.chan 0 #[] false 0 0 false)) #[]:=by
 have hr:(aK f.eval o).run PR w=.ok (.value (.chan (some w.heap.size))) (w.alloc (.chan 0 #[] false 0 0 false)):=by
  unfold aK;simp only[gu];rfl
 have Y:(aK f.eval o).events PR w #[]=#[]:=by
  unfold aK;simp[gu];rfl
 rw[oX H hr,Y,cC]
theorem Hx{x:aT}(h:(opAt f).map (fun o=>o.op)=some (.store 214 x y)){B:Nat}{v:Option Nat}{row:Array af}{t:aB}(F:f.eval x=.pointer (some ⟨B,i,none⟩))(L:f.eval y=.chan v)(hB:w.heap[B]?=some (.cells row t))(M:i<row.size)(N:(PR.funcs[f.fn]?).any (·.norace)=false):
  aA PR main (G f cs) w=.go (G (f.finish ax) cs) (w.setCell ⟨B,i,none⟩ (.chan v)) #[⟨.cell ⟨B,i,none⟩,true,false⟩]:=by
 obtain⟨op,U,gu⟩:=r5 h;have D:w.cell? ⟨B,i,none⟩=some row[i]:=by simp[World.cell?,hB,M]
 have I:w.frozen? ⟨B,i,none⟩=false:=by simp[World.frozen?,hB]
 have R:(PR.info? 214).map (·.size)=some 1:=by kernel_rfl
 have R:∃Y,PR.info? 214=some Y/\Y.size=1:=by simp_all
 obtain⟨Y,K,H⟩:=R;have hr:(aK f.eval op).run PR w=.ok .skip (w.setCell ⟨B,i,none⟩ (.chan v)):=by
  unfold aK;simp only[gu,F,L];simp[go_sem,cg,cj,K,H,D,I]
 have A:(aK f.eval op).events PR w #[]=#[⟨.cell ⟨B,i,none⟩,true,false⟩]:=by
  unfold aK;simp only[gu,F,L];simp[go_sem,cg,cj,K,H,D,I]
 rw[step_skip U hr,A,seen_def,N];simp[seenStep]
theorem aef{x:aT}(h:(opAt f).map (fun o=>(o.dst,o.op))=some (none,.call {callee:=.builtin .close,args:=#[x],argTypes:=#[214]})){c:Nat}(F:f.eval x=.chan (some c))(Y:w.heap[c]?=some (.chan 0 #[] false s s false))(R:(PR.funcs[f.fn]?).any (·.norace)=false):
  aA PR main (G f cs) w=.go (G (f.finish unit) cs) (w.setChan c 0 #[] true s s false) (bJ c):=by
 obtain⟨op,H,gu⟩:∃o,opAt f=some o/\o.op=.call _:=by
  cases e:opAt f with
  |none=>rw[e]at h;cases h
  |some o=>rw[e]at h;exact⟨o,rfl,congrArg Prod.snd (Option.some.inj h)⟩
 refine conv H fun ops i rest k K hw hk=>?_
 exact stepG_close K hw hk gu (by exact F) Y R
theorem ab8{x:aT}(h:(opAt f).map (fun o=>(o.dst,o.op))=some (none,.call {callee:=.builtin .close,args:=#[x],argTypes:=#[214]})):bj PR (G f cs)=true:=by
 obtain⟨op,D,gu⟩:∃o,opAt f=some o/\o.op=.call _:=by
  cases e:opAt f with
  |none=>rw[e]at h;cases h
  |some o=>rw[e]at h;exact⟨o,rfl,congrArg Prod.snd (Option.some.inj h)⟩
 obtain⟨ops,i,rest,k,Y,K,hw,hk⟩:=sY D;have H:f.mode=.run:=by rw[Y];rfl
 have R:f.todo=.inRegion ops (i::rest)::k:=by rw[Y];rfl
 unfold bj;simp[G,H,R,K,Option.map_some,gu]
theorem vW{P:aH}{u:Nat}{a b:Code}{k:List _}{t:Bool}(Y:f.mode=.run)(hr:f.roundOf=none)(hk:f.kind≠.early)(R:f.todo=.code (.cond (.tmp u) a b)::k)(H:f.tmps.getD u ax=.bool t):aA P main (G f cs) w=.go (G {f with todo:=.code (if t then a else b)::k} cs) w #[]:=by
 refine NB hr hk Y ?_;have K:f.eval (.tmp u)=.bool t:=H;unfold prun;simp_all
end
def HH (ch Wg:Nat) (work:af):={(default:ae)with fn:=PR.funcs.size,defers:=[dcall 158 #[.chan (some ch),work,ptr Wg]],mode:=.panicking [goexitEntry]}
theorem born{ch:Nat}:aA PR false (G (HH ch Wg work) []) w=.go (G (Frame.enter PR 158 #[.chan (some ch),work,ptr Wg] .deferred) [bot]) w #[]:=by kernel_rfl
def KX (ch Wg:Nat) (work:af):=gC PR 60 (Frame.enter PR 158 #[.chan (some ch),work,ptr Wg] .deferred) [bot]
def AR:=(KX 0 0 ax).1.todo
def KY(Wg:Nat)(site:List Item)(s:Nat->Option af)(j:Nat->af):Frame:={fn:=158,tmps:=TN 15 s j,todo:=site,defers:=[dcall 181 #[ptr Wg]],mode:=.run,kind:=.deferred}
def Br(ch Wg:Nat)(work:af):=[(0,.chan (some ch)),(1,work),(2,ptr Wg),(8,.chan (some ch))]
structure Fb(Wg:Nat)(site:List Item)(s:Nat->Option af)(f:ae):Prop where
 fn:f.fn=158
 todo:f.todo=site
 defers:f.defers=[dcall 181 #[ptr Wg]]
 mode:f.mode=.run
 kind:f.kind=.deferred
 round:f.roundOf=none
 size:f.tmps.size=15
 slot:∀i v,s i=some v->f.tmps.getD i ax=v
theorem Fb.eq{site:List _}{s:Nat->Option _}(h:Fb Wg site s f):f=KY Wg site s (fun i=>f.tmps.getD i ax):=by
 obtain⟨fn,tmps,todo,defers,mode,kind,ro⟩:=f;obtain⟨D,R,I,A,U,B,K,H⟩:=h;congr 1;apply Array.ext
 ·simp[TN,K]
 ·intro i Y _;simp[TN,List.getElem_toArray,List.getElem_map,List.getElem_range];cases e:s i with
  |none=>simp[bN Y]
  |some v=>
   rw[<-H i v e];simp[bN Y]
def Dy(ks:List Nat)(r:ae×List _):=(look ks r,Q8 r.1)
def Dz(Wg:Nat)(l:List ae)(site:List Item)(al:List (Nat×af)):ry×Option (aB×af×Bool):=(⟨l,158,site,[dcall 181 #[ptr Wg]],.run,.deferred,none,15,al.map (·.2),none,none⟩,some (232,(al.map (·.2)).headD ax,true))
theorem Rm{r:ae×List _}{l:List _}{site:List _}{al:List _}(h:Dy ks r=Dz Wg l site al)(hk:al.map (·.1)=ks):r.2=l/\Fb Wg site (sA al) r.1/\Q8 r.1=some (232,(al.map (·.2)).headD ax,true):=by
 subst hk;simp only[Dy,look,Dz,c_,ry.mk.injEq,List.map_map]at h;obtain⟨⟨K,R,I,A,U,B,C,F,J,H,D⟩,Y⟩:=h;exact⟨K,⟨R,I,A,U,B,C,F,GG J⟩,Y⟩
def jW(By Rf Sg Fp:Nat):Value:=.func (.func 138) #[] #[.pointer (some ⟨By,0,none⟩),.pointer (some ⟨Rf,0,none⟩),.pointer (some ⟨Sg,0,none⟩),.pointer (some ⟨Fp,0,none⟩)]
def WG (ch Wg:Nat) (work:af) (v:af) (b:Bool) (j:Nat->af):=gC PR 60 ((KY Wg AR (sA (Br ch Wg work)) j).finish (.tuple #[v,.bool b])) [bot]
section
variable{ch Wg By Rf Sg Fp:Nat}{work:af}{x:Int}{v:af}{j:Nat->af}
theorem wa0:Dy [0,1,2,8] (KX ch Wg work)=Dz Wg [bot] AR (Br ch Wg work):=by kernel_rfl
theorem aan:WG ch Wg work v false j=zj Wg (kC ((WG ch Wg work v false j).2.getD 1 bot).tmps ((WG ch Wg work v false j).2.getD 1 bot).todo) [bot]:=by kernel_rfl
end
def Fc:Value:=.int .i64 0
section
variable{ch Wg:Nat}{work:af}{j:Nat->af}
theorem aeg:sz PR (KY Wg AR (sA (Br ch Wg work)) j)=some (.comm #[bL ch Fc] true (.recv true)):=by kernel_rfl
end
namespace Env
structure yV(E:Env)(RO S X:Nat->Prop):Prop where
 ro:∀a,RO a->S a
 mp:¬S E.Mp
 mpx:¬X E.Mp
 fd:RO E.Fd
 wg:RO E.Wg
 mB:∀a,RO a->¬X a
structure wY(E:Env)(RO:Nat->Prop)(Fx:ah->Prop):Prop where
 rely:∀S w w2,(∀a,RO a->S a)->Fx w->gI E.U S w w2->Fx w2
 fd:∀w,Fx w->E.uR w
 wg:∀w,Fx w->E.pe w
variable(E:Env)(ch:Nat)(ok:Nat->Prop)(work:af)(RO:Nat->Prop)(Fx:ah->Prop)
def AtRecv(S X:Nat->Prop)(g:ai)(w:ah):=∃f,g=G f [bot]/\Fb E.Wg AR (sA (Br ch E.Wg work)) f/\E.yV RO S X/\Fx w
def GJ:Prop:=∀(k x:Nat) (S X:Nat->Prop) (j:Nat->af) (w:ah),ok x->E.yV RO S X->Fx w->E.Tree PR false (E.i_ PR (AtRecv E ch work RO Fx) k (.ld x)) S X (G (WG ch E.Wg work (.int .i64 (x:Int)) true j).1 (WG ch E.Wg work (.int .i64 (x:Int)) true j).2) w
variable{E ch ok work RO Fx}{S X:Nat->Prop}{g:ai}{w w2:ah}
theorem XG(h:AtRecv E ch work RO Fx S X g w):g.status=.running/\g.offers=none:=by
 obtain⟨f,rfl,_⟩:=h;exact⟨rfl,rfl⟩
theorem aao(h:AtRecv E ch work RO Fx S X g w):aA PR false g w2=.comm g #[bL ch Fc] true (.recv true) w2 #[]:=by
 obtain⟨f,rfl,Y,_⟩:=h;rw[Y.eq];exact Oj aeg
theorem XH(K:E.wY RO Fx)(R:GJ E ch ok work RO Fx)(h:AtRecv E ch work RO Fx S X g w)(hr:gI E.U S w w2){x:Nat}(F:ok x)(k:Nat):E.Tree PR false (E.i_ PR (AtRecv E ch work RO Fx) k (.ld x)) S X (Go.Conc.served g (recvd true (.int .i64 x) true)) w2:=by
 obtain⟨f,rfl,D,Y,hF⟩:=h;rw[D.eq];refine aj 60 fun w3 H=>?_;exact R k x S X _ w3 F Y (K.rely S _ _ Y.ro (K.rely S _ _ Y.ro hF hr) H)
theorem XI(K:E.wY RO Fx)(h:AtRecv E ch work RO Fx S X g w)(hr:gI E.U S w w2)(v:af)(k:Nat):E.Tree PR false (E.i_ PR (AtRecv E ch work RO Fx) k .wr) S X (Go.Conc.served g (recvd true v false)) w2:=by
 obtain⟨f,rfl,D,Y,hF⟩:=h;rw[D.eq];refine aj 60 fun w3 H=>?_;have e:=aan (ch:=ch) (Wg:=E.Wg) (work:=work) (v:=v) (j:=fun i=>f.tmps.getD i ax);change E.Tree PR _ _ S X (G (WG ch _ _ v _ _).1 (WG ch _ _ v _ _).2) w3;rw[e];exact aec (Y.ro _ Y.wg) k (K.wg _ (K.rely S _ _ Y.ro (K.rely S _ _ Y.ro hF hr) H))
theorem aeh(K:E.wY RO Fx)(Y:E.yV RO S X)(hF:Fx w):E.Tree PR false (AtRecv E ch work RO Fx) S X (G (HH ch E.Wg work) []) w:=by
 refine Tz.one rfl fun w2 hr=>⟨_,w2,#[],S,X,Ph.born,iW S X w2,aj 60 fun w3 H=>?_⟩;obtain⟨D,R,_⟩:=Rm (wa0) rfl;change E.Tree PR _ _ S X (G _ (KX ch _ _).2) w3;rw[D];exact .stop ⟨_,rfl,R,Y,K.rely S _ _ Y.ro (K.rely S _ _ Y.ro hF hr) H⟩
end Env
end Ph
namespace Ph
open Conc Ren
open Lock (Word PC Mv bn)
def cout(fn:au)(tmps:Array af)(todo:List Item)(kind:bQ)(ro:Option Nat):Frame:=⟨fn,tmps,todo,[],.returning,kind,ro⟩
section
variable(Fd:Nat)(c:ae)(cs:List ae)(v:af)
def Bt:ae×List Frame:=gC PR 60 (Frame.enter PR 161 #[ptr Fd] .deferred) (c::cs)
def KZ:ae×List Frame:=gC PR 60 ((Bt Fd c cs).1.finish v) (Bt Fd c cs).2
def K1:ae×List Frame:=gC PR 60 ((KZ Fd c cs v).1.finish (ptr Fd)) (KZ Fd c cs v).2
def K6:ae×List Frame:=gC PR 60 ((K1 Fd c cs v).1.finish unit) (K1 Fd c cs v).2
def zo:ae×List Frame:=gC PR 60 ((K6 Fd c cs v).1.finish unit) (K6 Fd c cs v).2
def xJ (z:Int):ae×List Frame:=gC PR 300 ((zo Fd c cs v).1.finish (.int .i32 z)) (zo Fd c cs v).2
def agh(f:ae):Frame:=match f.todo with
 |.code (.cond _ a _)::k=>{f with todo:=.code a::k}
 |_=>f
def TR (z:Int):ae×List Frame:=tG PR 16 300 ((zo Fd c cs v).1.finish (.int .i32 z)) (zo Fd c cs v).2
def UB (z:Int):List Frame:=(gC PR 4 (agh (TR Fd c cs v z).1) (TR Fd c cs v z).2).2
end
def outs:List Nat:=(aZ 72).filter fun i=>i%2==0&&i/4%2==0&&(i/8==0||i/2%2==1)
def K9:List Nat:=(aZ 72).filter fun i=>i%2==0&&i/4%2==0&&!(i/8==0||i/2%2==1)
def K_:List Nat:=(aZ 72).filter fun i=>i%2==0&&i/4%2==1
section
variable{Fd:Nat}{fn:au}{tmps:Array af}{todo:List Item}{kind:bQ}{ro:Option Nat}{cs:List ae}{v:af}{z:Int}{c:ae}
theorem ua0:qv (Bt Fd c cs).1=some (21,ptr Fd):=by kernel_rfl
theorem ua1:qw (KZ Fd c cs v).1=some (253,159,ptr Fd):=by kernel_rfl
theorem ua2:ahead (K1 Fd c cs v).1=some (168,#[ptr Fd]):=by kernel_rfl
theorem ua3:ahead (K6 Fd c cs v).1=some (169,#[]):=by kernel_rfl
theorem ua4:ahead (zo Fd c cs v).1=some (206,#[ptr Fd,.int .i32 (-1)]):=by kernel_rfl
theorem ajG:(PR.funcs[188]?).any (·.norace)=true:=by kernel_rfl
theorem ah9:(Bt Fd c cs).1.fn=188:=by kernel_rfl
theorem aei:(outs.map fun i:Nat=>ahead (xJ Fd c cs v (i:Int)).1)=outs.map fun i:Nat=>some (170,#[]):=by kernel_rfl
theorem ab9:(outs.map fun i:Nat=>gC PR 6 ((xJ Fd (cout fn tmps todo kind ro) cs v (i:Int)).1.finish unit) (xJ Fd (cout fn tmps todo kind ro) cs v (i:Int)).2)=outs.map fun i:Nat=>(cout fn tmps todo kind ro,cs):=by kernel_rfl
end
def La(Fd:Nat)(old:Int):List (Nat×af):=[(0,ptr Fd),(4,.int .i32 old)]
def vi(Fd:Nat):List (Nat×af):=[(0,ptr Fd)]
def Iq:List Item:=(xJ 0 (cout 0 #[] [] .normal none) [] ax 8).1.todo
def Ir:List Item:=(xJ 0 (cout 0 #[] [] .normal none) [] ax 12).1.todo
def yD (Fd:Nat) (old:Int) (b:Bool) (j:Nat->af) (l:List ae):ae×List Frame:=gC PR 300 ((kX 207 43 Iq (sA (La Fd old)) j).finish (.bool b)) l
def Is:List Item:=(yD 0 8 true jz []).1.todo
def Ro:List Item:=(yD 0 8 false jz []).1.todo
def Db (Fd:Nat) (old:Int) (j:Nat->af) (l:List ae):ae×List Frame:=gC PR 300 ((kX 207 43 Ro (sA (vi Fd)) j).finish (.int .i32 old)) l
def It (Fd:Nat) (j:Nat->af) (l:List ae):ae×List Frame:=gC PR 300 ((kX 207 43 Is (sA (vi Fd)) j).finish unit) l
def Iu (Fd:Nat) (j:Nat->af) (l:List ae):ae×List Frame:=gC PR 300 ((kX 207 43 Ir (sA (vi Fd)) j).finish unit) l
def Iv:List Nat:=(aZ 72).filter fun i=>i%8==0&&!(i/8==0)
def Ax:List Nat:=(aZ 72).filter fun i=>!(i%8==0&&!(i/8==0))
def toUC (l:List ae) (Fd:Nat) (i:Nat):ry:=iu 207 43 l Iq (La Fd (i:Int)) (some (204,#[ptr Fd,.int .i32 (i:Int),.int .i32 (val {wd i with W:=i/8-1,K:=true})])) none
section
variable{Fd:Nat}{fn:au}{tmps:Array af}{todo:List Item}{kind:bQ}{ro:Option Nat}{cs l:List ae}{v:af}{z old:Int}{c:ae}{j:Nat->af}
theorem aej:(K9.map fun i:Nat=>look [0,4] (xJ Fd c cs v (i:Int)))=K9.map fun i:Nat=>toUC (UB Fd c cs v (i:Int)) Fd i:=by kernel_rfl
theorem aek:(K_.map fun i:Nat=>look [0] (xJ Fd c cs v (i:Int)))=K_.map fun i:Nat=>iu 207 43 (UB Fd c cs v (i:Int)) Ir (vi Fd) (some (220,#[.pointer (some ⟨Fd,1,none⟩),.bool true,.int .i64 2])) none:=by kernel_rfl
theorem ab_:look [0] (yD Fd old true j l)=iu 207 43 l Is (vi Fd) (some (220,#[.pointer (some ⟨Fd,1,none⟩),.bool false,.int .i64 2])) none:=by kernel_rfl
theorem aca:look [0] (yD Fd old false j l)=iu 207 43 l Ro (vi Fd) none (some (21,ptr Fd)):=by kernel_rfl
theorem YV:(Iv.map fun i:Nat=>look [0,4] (Db Fd (i:Int) j l))=Iv.map (toUC l Fd):=by kernel_rfl
theorem YW:(Ax.map fun i:Nat=>ahead (Db Fd (i:Int) j (UB Fd c cs v z)).1)=Ax.map fun i:Nat=>some (170,#[]):=by kernel_rfl
theorem YX:(Ax.map fun i:Nat=>gC PR 6 ((Db Fd (i:Int) j (UB Fd (cout fn tmps todo kind ro) cs v z)).1.finish unit) (Db Fd (i:Int) j (UB Fd (cout fn tmps todo kind ro) cs v z)).2)=Ax.map fun i:Nat=>(cout fn tmps todo kind ro,cs):=by kernel_rfl
theorem ah_:ahead (It Fd j (UB Fd c cs v z)).1=some (170,#[]):=by kernel_rfl
theorem agi:gC PR 6 ((It Fd j (UB Fd (cout fn tmps todo kind ro) cs v z)).1.finish unit) (It Fd j (UB Fd (cout fn tmps todo kind ro) cs v z)).2=(cout fn tmps todo kind ro,cs):=by kernel_rfl
theorem aia:ahead (Iu Fd j (UB Fd c cs v z)).1=some (170,#[]):=by kernel_rfl
theorem agj:gC PR 6 ((Iu Fd j (UB Fd (cout fn tmps todo kind ro) cs v z)).1.finish unit) (Iu Fd j (UB Fd (cout fn tmps todo kind ro) cs v z)).2=(cout fn tmps todo kind ro,cs):=by kernel_rfl
theorem ajH:(PR.funcs[207]?).any (·.norace)=true:=by kernel_rfl
end
end Ph
namespace Ph
open Conc Ren
noncomputable def tt:List Item:=match Tryz.f138.body with
 |some (.seq _ (.seq _ Y))=>[.code Y]
 |_=>[]
noncomputable def I5:List Item:=match Tryz.f140.body with
 |some (.seq _ (.seq _ (.seq _ Y)))=>[.code Y]
 |_=>[]
def D8(Fp:Nat)(sl:af):=[(4,ptr Fp),(6,sl)]
def Bu (Fp:Nat) (sl:af) (j:Nat->af) (l:List _):=gC PR 60 (kX 138 39 tt (sA (D8 Fp sl)) j) l
def Bv (Fp Fd:Nat) (sl:af) (j:Nat->af) (l:List _):=gC PR 8 ((Bu Fp sl j l).1.finish (ptr Fd)) (Bu Fp sl j l).2
def S6 (Fp Fd:Nat) (sl:af) (j:Nat->af) (l:List _):=(Bv Fp Fd sl j l).2.headD bot
def Fe (Fp Fd:Nat) (sl:af) (j:Nat->af) (l:List _):=(Bv Fp Fd sl j l).2.tail
def Ff (Fp Fd:Nat) (a:Option _) (n cap:Nat) (j:Nat->af) (l:List _):=gC PR 14 ((S6 Fp Fd (.slice a n cap) j l).finish unit) (Fe Fp Fd (.slice a n cap) j l)
section
variable{Fp Fd n cap ch Wg By Rf Sg:Nat}{sl work v:af}{a:Option Addr}{j j2:Nat->af}{l:List ae}{T:Array af}{x:Int}
theorem Bh:qv (Bu Fp sl j l).1=some (182,ptr Fp):=by kernel_rfl
theorem aib:(Bu Fp sl j l).1.fn=138:=by kernel_rfl
theorem cl1:Bv Fp Fd sl j l=(Frame.enter PR 160 #[ptr Fd] .normal,S6 Fp Fd sl j l::Fe Fp Fd sl j l):=by kernel_rfl
theorem cl2:look [0,1,15,16,17] (Ff Fp Fd a n cap j l)=⟨Fe Fp Fd (.slice a n cap) j l,140,I5,[dcall 161 #[ptr Fd]],.run,.normal,none,48,[ptr Fd,.slice a n cap,.slice a n cap,.int .i64 n,.int .i64 0],none,none⟩:=by kernel_rfl
def zp (ch Wg:Nat) (work v:af) (j:Nat->af):=(WG ch Wg work v true j).2.headD bot
def TS (Fp Fd:Nat) (sl:af) (j j2:Nat->af) (T:Array _) (ch Wg:Nat) (work v:af):=gC PR 60 (cout 140 T [] .normal none) (Fe Fp Fd sl j [zp ch Wg work v j2,bot])
theorem cl3:Dy [0,1,2,8] (TS Fp Fd sl j j2 T ch Wg (jW By Rf Sg Fp) (.int .i64 x))=Dz Wg [bot] AR (Br ch Wg (jW By Rf Sg Fp)):=by kernel_rfl
theorem YY:(WG ch Wg (jW By Rf Sg Fp) (.int .i64 x) true j).2=[zp ch Wg (jW By Rf Sg Fp) (.int .i64 x) j,bot]:=by kernel_rfl
def Jt(Fd:Nat)(T:Array af):Frame:=⟨140,T,[],[dcall 161 #[ptr Fd]],.run,.normal,none⟩
theorem cl4:gC PR 2 (Jt Fd T) l=(Frame.enter PR 161 #[ptr Fd] .deferred,cout 140 T [] .normal none::l):=by kernel_rfl
theorem ajI:(PR.funcs[138]?).any (·.norace)=false:=by kernel_rfl
theorem Rp:j7 PR (isAgg 182)=some false:=by kernel_rfl
end
end Ph
namespace Ph
open Conc Ren
open Lock (Word PC Mv bn low dec)
theorem acb(m:Word):(nv m%8==0&&!(nv m/8==0))=!(decide (m.W=0\/m.L=true\/m.K=true\/m.S=true)):=by
 have h:nv m%8=bn m.L+2 *bn m.K+4 *bn m.S:=by
  have:=Lock.rj m.L;have:=Lock.rj m.K;have:=Lock.rj m.S;unfold nv;omega
 rw[si,h];by_cases Y:m.W=0<;>cases m.L<;>cases m.K<;>cases m.S<;>simp[bn,Y]
namespace Env
theorem yW{E:Env}{X:Nat->Prop}{D:(Nat->Prop)->(Nat->Prop)->ai->ah->Prop}{site:List _}{al:List _}{l:List _}(Y:ky fn n site (sA al) f)(k:∀j w3,gI E.U S w w3->E.Tree PR false D S X (G (gC PR 300 ((kX fn n site (sA al) j).finish v) l).1 (gC PR 300 ((kX fn n site (sA al) j).finish v) l).2) w3):E.Tree PR false D S X (G (f.finish v) l) w:=by
 rw[Y.eq];exact aj 300 fun w3 hr=>k _ w3 hr
section
variable{E:Env}{A:(Nat->Prop)->(Nat->Prop)->ai->ah->Prop}{S X:Nat->Prop}{Fx:ah->Prop}{fn:au}{tmps:Array af}{todo:List Item}{kind:bQ}{ro:Option Nat}{cs:List ae}
def Out(E:Env)(A:(Nat->Prop)->(Nat->Prop)->ai->ah->Prop)(S X:Nat->Prop)(Fx:ah->Prop)(c:ae)(cs:List _):=∀k w,Fx w->E.Tree PR false (E.i_ PR A k .recv) S X (G c cs) w
variable(K:E.Kn S Fx)(hT:Out E A S X Fx (cout fn tmps todo kind ro) cs)
include K hT
theorem DC{l:List _}(h:ahead f=some (170,#[]))(H:gC PR 6 (f.finish unit) l=(cout fn tmps todo kind ro,cs))(k:Nat)(hF:Fx w):E.Tree PR false (E.i_ PR A k .ue) S X (G f l) w:=by
 refine .stop ?_;cases k with
 |zero=>trivial
 |succ k=>
  refine⟨rfl,rfl,fun w2 hr=>⟨G (f.finish unit) l,rN (by simp) xq h,aj 6 fun w3 Y=>?_⟩⟩;rw[H];exact hT k w3 (K.rely (K.rely hF hr) Y)
omit K hT in
theorem wrap_u32(h:cc<=1):IntKind.u32.wrap (cc+1)=((cc+1:Nat)):=by
 have:cc=0\/cc=1:=by omega
 rcases this with rfl|rfl<;>rfl
theorem aic{z:Int}{r:ae×List _}(h:CR 207 43 (UB E.Fd (cout fn tmps todo kind ro) cs v z) Is (vi E.Fd) (some (220,#[.pointer (some E.ms),.bool false,.int .i64 2])) none r)(k:Nat)(hF:Fx w):E.Tree PR false (E.i_ PR A k (.un .us)) S X (G r.1 r.2) w:=by
 refine .stop ?_;cases k with
 |zero=>trivial
 |succ k=>
  refine⟨rfl,rfl,fun w2 m D hr Y U R B I=>.inr ?_⟩;have gj:=FM (main:=false) (cs:=r.2) D7 h.call rfl Y.rk (Y.thaw 1);rw[wrap_u32 I]at gj;refine⟨_,m,D+1,_,_,_,Mv.us m D,gj,Y.qJ _,Eff.set _ _ _ _,EvA.zg _ _ (by omega),fun _=>GF D7 h.call,?_⟩;refine yW h.fr fun j w3 H=>?_;rw[h.callers];exact DC K hT ah_ agi k (K.rely (K.lG (K.rely hF hr) Y (Eff.set _ _ _ _) (Y.qJ _)) H)
theorem aid{z:Int}{r:ae×List _}(h:CR 207 43 (UB E.Fd (cout fn tmps todo kind ro) cs v z) Ir (vi E.Fd) (some (220,#[.pointer (some E.ms),.bool true,.int .i64 2])) none r)(k:Nat)(hF:Fx w):E.Tree PR false (E.i_ PR A k (.un .uh)) S X (G r.1 r.2) w:=by
 refine .stop ?_;cases k with
 |zero=>trivial
 |succ k=>
  refine⟨rfl,rfl,fun w2 m D hr Y U R B I=>.inr ?_⟩;have gj:=FM (main:=false) (cs:=r.2) D7 h.call rfl Y.rk (Y.thaw 1);rw[wrap_u32 I]at gj;refine⟨_,m,D+1,_,_,_,Mv.uh m D,gj,Y.qJ _,Eff.set _ _ _ _,EvA.zg _ _ (by omega),fun _=>GF D7 h.call,?_⟩;refine yW h.fr fun j w3 H=>?_;rw[h.callers];exact DC K hT aia agj k (K.rely (K.lG (K.rely hF hr) Y (Eff.set _ _ _ _) (Y.qJ _)) H)
theorem aie:∀k {v:af} {z:Int} {old:Word} {r:ae×List _} {w:ah},CR 207 43 (UB E.Fd (cout fn tmps todo kind ro) cs v z) Iq (La E.Fd (nv old)) (some (204,#[ptr E.Fd,.int .i32 (nv old),.int .i32 (val {old with W:=old.W-1,K:=true})])) none r->Fx w->E.Tree PR false (E.i_ PR A k (.un (.uc old))) S X (G r.1 r.2) w:=by
 intro k;induction k using bH with
 |_ k f=>
 intro v z old r w h hF;refine .stop ?_;cases k with
 |zero=>trivial
 |succ k=>
  refine⟨rfl,rfl,fun w2 m N hr R d Z o p=>.inr ?_⟩;by_cases O:m=old
  ·subst O;refine⟨_,_,N,G _ r.2,_,_,Mv.Ba m N,zO uU h.call R.cell0 (R.thaw 0),R.mY _,Eff.set _ _ _ _,EvA.two _ _ (by omega),fun J=>by omega,yW h.fr fun j w3 I=>?_⟩;rw[h.callers];have D:=jO (ab_ (Fd:=E.Fd) (old:=(nv m)) (j:=j) (l:=UB E.Fd (cout fn tmps todo kind ro) cs v z)) rfl;exact aic K hT D k (K.rely (K.lG (K.rely hF hr) R (Eff.set _ _ _ _) (R.mY _)) I)
  ·refine⟨_,_,N,G _ r.2,_,_,Mv.Bb m old N O,zN uU h.call R.cell0 (R.thaw 0) (fun e=>O (val_inj e)),R,Eff.refl _ _,EvA.one _ _ _ (by omega),fun J=>by omega,yW h.fr fun j w3 I=>?_⟩;rw[h.callers];have D:=jO (aca (Fd:=E.Fd) (old:=(nv old)) (j:=j) (l:=UB E.Fd (cout fn tmps todo kind ro) cs v z)) rfl;have B:=K.rely (K.rely hF hr) I;change E.Tree PR _ _ S X (G (yD _ _ _ j _).1 (yD _ _ _ j _).2) w3;refine .stop ?_;cases k with
   |zero=>trivial
   |succ k=>
    refine⟨rfl,rfl,fun w4 H c4 M C V P F c=>.inr ?_⟩;refine⟨_,H,c4,_,w4,#[],Mv.ur H c4,Cc D.load Dw C.cell0 (by rw[D.fr.fn];exact ajH),C,Eff.refl _ _,EvA.nil _,fun J=>by omega,?_⟩;have T:=acb H;by_cases hd:H.W=0\/H.L=true\/H.K=true\/H.S=true
    ·have e:dec H=.out:=if_pos hd;rw[e];refine yW D.fr fun q g U=>?_;rw[D.callers];have Y:nv H∈Ax:=oB F (by rw[T];simp[hd]);exact DC K hT (iV YW Y) (iV YX Y) k (K.rely (K.rely B M) U)
    ·have e:dec H=.uc H:=if_neg hd;rw[e];refine yW D.fr fun q g U=>?_;rw[D.callers];have Y:nv H∈Iv:=oB F (by rw[T];simp[hd]);have Q:=jO (iV (YV (Fd:=E.Fd) (j:=q) (l:=UB E.Fd (cout fn tmps todo kind ro) cs v z)) Y) rfl;rw[yO,si]at Q;exact f k (by omega) Q (K.rely (K.rely B M) U)
end
section
variable{E:Env}{A:(Nat->Prop)->(Nat->Prop)->ai->ah->Prop}{S X:Nat->Prop}{Fx:ah->Prop}{fn:au}{tmps:Array af}{todo:List Item}{kind:bQ}{ro:Option Nat}{cs:List ae}
theorem ael{m:Word}(h:m.L=true)(R:m.W<=8):bR.wrap (val m+ -1)=val (low m):=by
 have H:=Lock.rj m.K;have D:=Lock.rj m.S;have Y:bn true=1:=rfl;have b0:bn false=0:=rfl;unfold val low;simp only[h,Y];have e:((1+2 *bn m.K+4 *bn m.S+8 *m.W:Nat))+ -1=((0+2 *bn m.K+4 *bn m.S+8 *m.W:Nat):Int):=by omega
 rw[e];exact wrap_small (by omega)
theorem aap(I:∀i,¬E.U E.Mp i)(hSM:S E.Mp)(K:E.Kn (fun a=>S a/\a≠E.Mp) Fx)(hT:Out E A (fun a=>S a/\a≠E.Mp) (fun a=>X a/\a≠E.Mp) Fx (cout fn tmps todo kind ro) cs){γ:E.Γ}(k:Nat)(hF:Fx w)(hm:E.mi γ (w.heap[E.Mp]?)):
  E.Tree PR false (E.i_ PR A k (.ur γ)) S X (G (Frame.enter PR 161 #[ptr E.Fd] .deferred) (cout fn tmps todo kind ro::cs)) w:=by
 have mp:∀{w w2:ah},gI E.U S w w2->E.mi γ (w.heap[E.Mp]?)->E.mi γ (w2.heap[E.Mp]?):=by
  intro w w2 hr h;rw[(hr.kept _ hSM).eq fun i hu=>I i hu];exact h
 have R:∀{w w2:ah},Fx w->gI E.U S w w2->Fx w2:=fun h hr=>K.rely h (Ol (fun a n=>n.1) hr);refine aj 60 fun w1 M=>?_;change E.Tree PR _ _ S X (G (Bt _ _ cs).1 _) w1;refine Tz.one rfl fun w2 N=>?_;have B:=R (R hF M) N;have j:=mp N (mp M hm);obtain⟨v,hv⟩:=(K.fd B).cell0;refine⟨_,w2,#[],S,X,Cc ua0 Dw hv (by rw[ah9];exact ajG),iW S X w2,aj 60 fun w3 O=>?_⟩;refine Tz.one rfl fun w4 P=>?_;have C:=R (R B O) P;have z:=mp P (mp O j);obtain⟨v4,r⟩:=(K.fd C).cell0;refine⟨_,w4,#[],S,X,ua ua1 u253 u159 i187 r,iW S X w4,aj 60 fun w5 Q=>?_⟩;have Z:=R C Q;have d:=mp Q z;refine .stop ?_;cases k with
 |zero=>trivial
 |succ k=>
  refine⟨rfl,rfl,fun w6 T=>⟨mp T d,G _ _,xX (by simp) SN ua2,aj 60 fun w7 f=>?_⟩⟩;have q:=K.rely (R Z T) f;refine .stop ?_;cases k with
  |zero=>trivial
  |succ k=>
   refine⟨rfl,rfl,fun w8 g=>⟨G _ _,rN (by simp) A1 ua3,aj 60 fun w9 l=>?_⟩⟩;refine .stop ?_;cases k with
   |zero=>trivial
   |succ k=>
    refine⟨rfl,rfl,fun wA m u o F t L x hc=>.inr ?_⟩;have gj:=CC (main:=false) (cs:=(zo E.Fd (cout fn tmps todo kind ro) cs v).2) SO (ua4 (c:=cout fn tmps todo kind ro) (cs:=cs) (v:=v)) F.cell0 (F.thaw 0);rw[ael L x]at gj;refine⟨_,_,u,_,_,_,Mv.u0 m u,gj,F.mY _,Eff.set _ _ _ _,EvA.two _ _ (by omega),fun b=>by omega,aj 300 fun wB p=>?_⟩;have H:=K.rely (K.lG (K.rely (K.rely (K.rely q g) l) o) F (Eff.set _ _ _ _) (F.mY _)) p;have s:=x;have l2:(nv (low m)%2==0)=true:=by rw[qu,xo];rfl
    cases D:m.S with
    |true=>
     have Y:nv (low m)∈K_:=oB s (by rw[l2,se];exact D);have V:=jO (iV (aek (Fd:=E.Fd) (c:=cout fn tmps todo kind ro) (cs:=cs) (v:=v)) Y) rfl;exact aid K hT V k H
    |false=>
     have J:(nv (low m)/4%2==0)=true:=by
      rw[qu,se];show(!m.S)=true
      rw[D];rfl
     by_cases hd:m.W=0\/m.K=true
     ·have e:dec (low m)=.out:=if_pos (hd.imp id fun y=>.inr (.inl y));rw[e];have Y:nv (low m)∈outs:=oB s (by
       rw[l2,J,si,xp];show(true&&true&&(m.W==0||m.K))=true
       rcases hd with y|y<;>simp[y])
      exact DC K hT (iV aei Y) (iV ab9 Y) k H
     ·have e:dec (low m)=.uc _:=if_neg fun y=>by
       rcases y with y|y|y|y
       ·exact hd (.inl y)
       ·cases y
       ·exact hd (.inr y)
       ·exact absurd (D.symm.trans y) (by simp)
      rw[e];have Y:nv (low m)∈K9:=oB s (by
       rw[l2,J,si,xp];show(true&&true&&!(m.W==0||m.K))=true
       simp_all)
      have V:=jO (iV (aej (Fd:=E.Fd) (c:=cout fn tmps todo kind ro) (cs:=cs) (v:=v)) Y) rfl;rw[yO,si]at V;exact aie K hT k V H
end
end Env
end Ph
namespace Ph
open Conc Ren
theorem uo{U:Nat->Nat->Prop}{X:Nat->Prop}{a:Addr}(h:S a.block)(H:¬U a.block a.off):jY U S X w w #[⟨.cell a,false,false⟩] S X:=
 ⟨⟨fun _ _ _=>rfl,ar _,fun a=>⟨.inl,fun h=>h.resolve_right fun y=>by omega⟩,fun a=>⟨.inl,fun h=>h.resolve_right fun y=>by omega⟩,fun e Y=>by
  simp at Y;subst Y;exact .inl ⟨a,rfl,rfl,.inl ⟨h,fun y=>by cases y⟩⟩,rfl,.refl _,rfl⟩,fun e Y b K=>by simp_all⟩
structure Iw(Fd:Nat)(a:Option Addr)(n cap:Nat)(f:ae):Prop where
 fn:f.fn=140
 todo:f.todo=I5
 defers:f.defers=[dcall 161 #[ptr Fd]]
 mode:f.mode=.run
 kind:f.kind=.normal
 round:f.roundOf=none
 size:f.tmps.size=48
 s0:f.tmps.getD 0 ax=ptr Fd
 s1:f.tmps.getD 1 ax=.slice a n cap
 s15:f.tmps.getD 15 ax=.slice a n cap
 s16:f.tmps.getD 16 ax=.int .i64 (n:Int)
 s17:f.tmps.getD 17 ax=.int .i64 0
namespace Env
structure Rq(E:Env)(Hs:Nat->Option Addr->Nat->(Nat->Prop)->(Nat->Prop)->ah->Prop):Prop where
 rely:∀{x:Nat} {a:Option Addr} {n:Nat} {S X:Nat->Prop} {w w2:ah},Hs x a n S X w->gI E.U S w w2->Hs x a n S X w2
 lG:∀{x:Nat} {a:Option Addr} {n:Nat} {S X:Nat->Prop} {w w1:ah},Hs x a n S X w->Eff E.Fd w w1->Hs x a n S X w1
 more:∀{x:Nat} {a:Option Addr} {n:Nat} {S X S' X':Nat->Prop} {w:ah},Hs x a n S X w->(∀b,S b->S' b)->(∀b,X b->X' b)->Hs x a n S' X' w
section
variable(E:Env)(ch:Nat)(ok:Nat->Prop)(By Rf Sg Fp:Nat)(RO:Nat->Prop)(Fx:ah->Prop)(Hs:Nat->Option Addr->Nat->(Nat->Prop)->(Nat->Prop)->ah->Prop)
def Rr:Prop:=∀(D:(Nat->Prop)->(Nat->Prop)->ai->ah->Prop) (x:Nat) (S X:Nat->Prop) (j:Nat->af) (w:ah),ok x->E.yV RO S X->Fx w->
 (∀S' X' f' w' a n cap,E.yV RO S' X'->Fx w'->ky 138 39 tt (sA (D8 Fp (.slice a n cap))) f'->Hs x a n S' X' w'->E.Tree PR false D S' X' (G f' [zp ch E.Wg (jW By Rf Sg Fp) (.int .i64 (x:Int)) j,bot]) w')->
 E.Tree PR false D S X (G (WG ch E.Wg (jW By Rf Sg Fp) (.int .i64 (x:Int)) true j).1 [zp ch E.Wg (jW By Rf Sg Fp) (.int .i64 (x:Int)) j,bot]) w
def Sk:Prop:=∀(D:(Nat->Prop)->(Nat->Prop)->ai->ah->Prop) (x:Nat) (γ:E.Γ) (S X:Nat->Prop) (f:ae) (l:List ae) (w:ah) (a:Option Addr) (n cap:Nat),ok x->(∀b,RO b->S b)->(∀b,RO b->¬X b)->S E.Mp->X E.Mp->Fx w->Hs x a n S X w->E.mi γ (w.heap[E.Mp]?)->Iw E.Fd a n cap f->
 (∀S' X' T w',(∀b,RO b->S' b)->(∀b,RO b->¬X' b)->S' E.Mp->Fx w'->E.mi (E.upd γ x) (w'.heap[E.Mp]?)->E.Tree PR false D S' X' (G (Jt E.Fd T) l) w')->E.Tree PR false D S X (G f l) w
variable{E ch ok By Rf Sg Fp RO Fx Hs}
theorem YZ(I:∀i,¬E.U E.Mp i)(K:E.wY RO Fx)(KE:∀{w w1:ah} {m m':Lock.Word} {c c':Nat},Fx w->E.MuAt w m c->Eff E.Fd w w1->E.MuAt w1 m' c'->Fx w1)(KL:∀{w:ah},Fx w->Fx w.later)(F:E.Rq Hs)
  (kZ:RO E.Fd)(hrw:RO E.Wg)(Lb:RO Fp)(hFu:¬E.U Fp 0)(hFv:∀w,Fx w->w.cell? ⟨Fp,0,none⟩=some (ptr E.Fd))(M:¬RO E.Mp)(R:Rr E ch ok By Rf Sg Fp RO Fx Hs)(L:Sk E ok RO Fx Hs):GJ E ch ok (jW By Rf Sg Fp) RO Fx:=by
 intro k x S X j w hx hW hF;rw[YY];refine R _ x S X j w hx hW hF fun S' X' f' w' a n cap H d y hH=>?_;rw[y.eq];generalize(fun i=>f'.tmps.getD i _)=D;have Z:E.Kn S' (fun w=>Fx w/\Hs x a n S' X' w):=by
  refine⟨fun h hr=>⟨K.rely S' _ _ H.ro h.1 hr,F.rely h.2 hr⟩,fun h=>K.fd _ h.1,fun h u V A=>⟨KE h.1 u V A,F.lG h.2 V⟩,fun h=>⟨KL h.1,F.lG h.2 (Eff.later _ _)⟩⟩
 refine aj 60 fun w1 xK=>?_;change E.Tree PR _ _ S' X' (G (Bu Fp _ D _).1 _) w1;refine Tz.one rfl fun w2 qd=>?_;have Q:=Z.rely (Z.rely ⟨d,hH⟩ xK) qd;refine⟨_,w2,_,S',X',rP Bh Rp (hFv _ Q.1) (by rw[aib];exact ajI),uo (H.ro _ Lb) hFu,aj 8 fun w3 vj=>?_⟩;change E.Tree PR _ _ S' X' (G (Bv Fp _ _ D _).1 (Bv Fp _ _ D _).2) w3;rw[cl1];refine aeb I Z ?_ k (Z.rely Q vj);intro k w4 γ h4 hm;refine aj 14 fun W C=>?_;have N:∀b,RO b->(S' b\/b=E.Mp):=fun b Y=>.inl (H.ro b Y);have f:=K.rely _ _ _ N h4.1 C;have s:Hs x a n _ (fun b=>X' b\/b=E.Mp) W:=F.rely (F.more h4.2 (fun b Y=>.inl Y) (fun b Y=>.inl Y)) C;have hm5:E.mi γ (W.heap[E.Mp]?):=by
  rw[(C.kept _ (.inr rfl)).eq fun i hu=>I i hu];exact hm
 have t:=cl2 (Fp:=Fp) (Fd:=E.Fd) (a:=a) (n:=n) (cap:=cap) (j:=D) (l:=[zp ch E.Wg (jW By Rf Sg Fp) (.int .i64 x) j,bot]);change E.Tree PR _ _ _ _ (G (Ff Fp _ a n cap D _).1 (Ff Fp _ a n cap D _).2) W;generalize Ff Fp _ a n cap D _=r at t;simp only[look,ry.mk.injEq,List.map_cons,List.cons.injEq]at t;obtain⟨e1,e2,e3,e4,e5,e6,e7,e8,⟨g0,g1,q,z,g17,_⟩,_⟩:=t;rw[e1];refine L _ x γ _ _ r.1 _ W a n cap hx N (fun b Y h=>h.elim (H.mB b Y) fun e=>M (e▸Y)) (.inr rfl) (.inr rfl) f s hm5 ⟨e2,e3,e4,e5,e6,e7,e8,g0,g1,q,z,g17⟩ fun S2 X2 T w6 J v O g hm6=>?_;refine aj 2 fun w7 P=>?_;rw[cl4];have o:=K.rely _ _ _ J g P;have hm7:E.mi (E.upd γ x) (w7.heap[E.Mp]?):=by
  rw[(P.kept _ O).eq fun i hu=>I i hu];omega
 have B:∀b,RO b->(S2 b/\b≠E.Mp):=fun b Y=>⟨J b Y,fun e=>M (e▸Y)⟩;refine aap I O ⟨fun h hr=>K.rely _ _ _ B h hr,fun h=>K.fd _ h,fun h u V A=>KE h u V A,fun h=>KL h⟩ ?_ k o hm7;intro k w8 p;refine aj 60 fun w9 Bw=>?_;obtain⟨h1,Q,_⟩:=Rm (cl3) rfl;change E.Tree PR _ _ _ _ (G _ (TS Fp _ _ D j T ch _ _ _).2) w9;rw[h1];have:AtRecv E ch _ RO Fx _ (fun b=>X2 b/\b≠E.Mp) _ w9:=
  ⟨_,rfl,Q,⟨B,fun h=>h.2 rfl,fun h=>h.2 rfl,kZ,hrw,fun b Y h=>v b Y h.1⟩,K.rely _ _ _ B p Bw⟩
 exact .stop (by unfold i_;exact this)
end
end Env
end Ph
namespace Ren
structure pC where
 il:au->Bool
 sy:Nat->Bool
 uJ:String->Bool
 rB:Bool
 wall:Array Oper->Bool:=fun _=>false
def mW:Nat->af->Bool
 |_,.bool _|_,.int .. |_,.string _|_,.pointer none|_,.slice none _ _|_,.map none|_,.chan none|_,.nilFunc|_,.nilIface=>true
 |n+1,.agg c|n+1,.tuple c=>c.all (mW n)
 |n+1,.iface _ v=>mW n v
 |_,_=>false
theorem zT[gq]{r:Rn}:∀{n:Nat} {v:af},mW n v=true->V r v v:=by
 intro n;induction n with
 |zero=>
  intro v h;cases v with
  |bool b=>exact .bool b
  |int k m=>exact .int k m
  |string s=>exact .string s
  |pointer a=>cases a with|none=>exact .nilPtr|some _=>simp[mW]at h
  |slice a l c=>cases a with|none=>exact .kJ l c|some _=>simp[mW]at h
  |map a=>cases a with|none=>exact .oD|some _=>simp[mW]at h
  |chan a=>cases a with|none=>exact .pM|some _=>simp[mW]at h
  |nilFunc=>exact .nilFunc
  |nilIface=>exact .nilIface
  |_=>simp[mW]at h
 |succ n Y=>
  intro v h;have arr:∀(c:Array _),c.all (mW n)=true->∀(i:Nat) x x',c[i]?=some x->c[i]?=some x'->V r x x':=by
   intro c K i x x' e e';obtain rfl:=Option.some.inj (e.symm.trans e');obtain⟨H,rfl⟩:=bO.1 e;simp_all
  cases v with
  |bool b=>exact .bool b
  |int k m=>exact .int k m
  |string s=>exact .string s
  |pointer a=>cases a with|none=>exact .nilPtr|some _=>simp[mW]at h
  |slice a l c=>cases a with|none=>exact .kJ l c|some _=>simp[mW]at h
  |map a=>cases a with|none=>exact .oD|some _=>simp[mW]at h
  |chan a=>cases a with|none=>exact .pM|some _=>simp[mW]at h
  |nilFunc=>exact .nilFunc
  |nilIface=>exact .nilIface
  |agg c=>exact .agg rfl (arr c h)
  |tuple c=>exact .tuple rfl (arr c h)
  |iface t v=>exact .iface t (Y h)
  |_=>simp[mW]at h
section
variable(K:pC)(P:aH)
def j0:aT->Bool
 |.tmp _=>true
 |.const v=>mW 4 v
 |.global g=>K.sy g
 |.func f=>K.il f
def A2:Option aT->Bool
 |none=>true
 |some x=>j0 K x
def ya:bB->Bool
 |.int _|.string|.bool=>true
 |_=>false
def Cl(t:aB):Bool:=
 match P.underlying t with
 |some (.map k _)=>match P.underlying k with
  |some d=>ya d
  |none=>true
 |_=>true
def xB(t:aB)(y:aT):Bool:=
 !P.eqGuardType P.depth t&&match P.underlying t with
 |some (.pointer _)=>K.rB
 |some (.interface _)=>match y with
  |.const .nilIface=>true
  |_=>false
 |some (.struct fs)=>!P.stoodInHeld t&&fs.toList.all fun f=>match P.underlying f.type with
  |some d=>ya d
  |none=>true
 |some d=>ya d
 |none=>true
def D9(t:aB):Bool:=
 match P.underlying t with
 |some (.int .u8)=>true
 |_=>false
def Lc(s d:aB):Bool:=
 match P.underlying s,P.underlying d with
 |some (.int _),some (.int _)=>true
 |some (.slice e),some .string=>D9 P e
 |some .string,some (.slice e)=>D9 P e&&K.rB
 |some (.pointer _),some .unsafePointer|some .unsafePointer,some (.pointer _)=>K.rB
 |_,_=>false
def Qw(t:aB):Bool:=
 match P.underlying t with
 |some (.int _)=>false
 |_=>true
def vP(b:Builtin)(Y:Array aB)(n:Nat):=
 match b with
 |.append=>match Y[1]? with
  |some t=>Qw P t
  |none=>true
 |.cap=>n==1
 |.copy|.len|.min|.recover=>true
 |.unsafeSliceData=>n==1&&K.rB
 |.unsafeString=>n==2&&K.rB
 |_=>false
def DD(c:Call):=
 c.args.all (j0 K)&&match c.callee with
 |.value f=>j0 K f
 |.invoke x name=>j0 K x&&K.uJ name
 |.builtin b=>vP K P b c.argTypes c.args.size
def Py:Callee->Bool
 |.value _=>true
 |_=>false
def Qx(t:aB):Bool:=
 match P.underlying t with
 |some (.interface _)=>false
 |_=>true
def nh:Op->Bool
 |.move x|.assign x|.box _ x|.load _ x|.nilCheck x|.unOp _ _ x|.makeInterface _ x|.fieldAddr _ x _|.field _ x _|.range _ x|.next x _|.entry x|.extract x _|.panic x=>j0 K x
 |.pick c a b=>j0 K c&&j0 K a&&j0 K b
 |.alloc _=>true
 |.build _ ps|.buildSlice _ _ ps=>ps.all fun p=>j0 K p.2
 |.store _ a x|.makeSlice _ a x|.indexAddr _ a x|.index _ a x=>j0 K a&&j0 K x
 |.binOp op t x y _=>j0 K x&&j0 K y&&(rS op||xB K P t y)
 |.convert s d x=>j0 K x&&Lc K P s d
 |.makeFunc (.func f) first cap=>K.il f&&first.all (j0 K)&&cap.all (j0 K)
 |.makeMap _ x=>A2 K x
 |.slice _ x H Y D=>j0 K x&&A2 K H&&A2 K Y&&A2 K D
 |.lookup t x i _=>j0 K x&&j0 K i&&Cl P t
 |.mapUpdate t m k x=>j0 K m&&j0 K k&&j0 K x&&Cl P t
 |.typeAssert x _ a ok=>j0 K x&&ok&&Qx P a
 |.call c=>DD K P c
 |.defer c=>DD K P c&&Py c.callee
 |_=>false
def HI:Op->Bool
 |.defer _=>false
 |.call c=>match c.callee with
  |.builtin .recover=>false
  |_=>true
 |_=>true
def AT(rd:Bool)(o:Oper):=nh K P o.op&&(!rd||HI o.op)
def lE(rd:Bool):Code->Bool
 |.skip|.label _|.exit _|.goto _|.ret=>true
 |.refuse y=>!(y== "")
 |.region _ ops _=>K.wall ops||ops.all (AT K P rd)
 |.seq a b=>lE rd a&&lE rd b
 |.cond c a b=>j0 K c&&lE rd a&&lE rd b
 |.block _ c|.loop c|.scope c=>lE rd c
 |.rangeFunc f _ ap6 bd=>j0 K f&&lE true ap6&&lE true bd
@[reducible] def pC.jc(ro:Nat->Prop)(jy:Nat->Nat->Prop)(rest:List Item->Prop)(jd:List bm->Prop):gq where
 size:=P.globals.size
 il f:=K.il f=true
 code c:=lE K P true c=true
 methods n:=K.uJ n=true
 sy g:=K.sy g=true
 wall ops:=K.wall ops=true
 ro:=ro
 jy:=jy
 rest:=rest
 jd:=jd
end
section
variable{K:pC}{P:aH}{ro:Nat->Prop}{jy:Nat->Nat->Prop}{rest:List Item->Prop}{jd:List bm->Prop}(kZ:K.rB=true->∀b,¬ro b)
theorem ug{x:aT}(h:j0 K x=true):@jk (K.jc P ro jy rest jd) x:=by
 letI:=K.jc P ro jy rest jd
 cases x with
 |tmp t=>trivial
 |const v=>exact fun r=>zT h
 |global g=>exact h
 |func f=>exact h
theorem aaq{x:Option _}(h:A2 K x=true):@yI (K.jc P ro jy rest jd) x:=by
 cases x with
 |none=>trivial
 |some y=>exact ug h
theorem FO{d:bB}(h:ya d=true):plainKey d:=by
 cases d with
 |int k=>exact .inl ⟨k,rfl⟩
 |string=>exact .inr (.inl rfl)
 |bool=>exact .inr (.inr rfl)
 |_=>simp[ya]at h
theorem Mg{t:aB}(h:Cl P t=true):G3 P t:=by
 intro k e Y d hd;unfold Cl at h;rw[Y]at h;simp[hd]at h;exact FO h
include kZ in
theorem acd{t:aB}(h:xB K P t y=true):@R3 (K.jc P ro jy rest jd) P t y:=by
 letI:=K.jc P ro jy rest jd
 unfold xB at h;simp only[aJ,cm]at h;obtain⟨R,H⟩:=h;refine⟨R,?_⟩;cases D:P.underlying t with
 |none=>exact .inl ⟨.inl (fun d e=>by rw[D]at e;cases e),fun Y=>by obtain⟨e,Y⟩:=Y;cases Y⟩
 |some d=>
  rw[D]at H;have plain:ya d=true->AZ P t:=fun A=>.inl fun d' e=>by rw[D]at e;cases e;exact FO A
  cases d with
  |pointer e=>exact .inl ⟨.inr (.inl ⟨e,D⟩),fun _=>kZ H⟩
  |struct fs=>
   simp only[aJ,cm,bW]at H;refine .inl ⟨.inr (.inr ⟨fs,D,H.1,fun f I d hd=>?_⟩),fun Y=>by obtain⟨e,Y⟩:=Y;cases Y⟩;have:=H.2 f I;rw[hd]at this;exact FO this
  |interface m=>
   refine .inr ⟨?_,m,rfl⟩;simp only at H;split at H
   ·rfl
   ·cases H
  |_=>exact .inl ⟨plain H,fun Y=>by obtain⟨e,Y⟩:=Y;cases Y⟩
theorem Pz{t:aB}(h:D9 P t=true):P.underlying t=some (.int .u8):=by
 unfold D9 at h;split at h
 ·omega
 ·cases h
include kZ in
theorem ace{s:aB}(h:Lc K P s d=true):uQ P s d/\((∃k,P.underlying s=some (.int k))\/(∃e,P.underlying s=some (.slice e))\/∀b,¬ro b):=by
 unfold Lc at h;split at h
 ·rename_i a b;exact⟨.int a b,.inl ⟨_,a⟩⟩
 ·rename_i a b;exact⟨.toStr a (Pz h) b,.inr (.inl ⟨_,a⟩)⟩
 ·rename_i a b;simp at h;exact⟨.toBytes a b (Pz h.1),.inr (.inr (kZ h.2))⟩
 ·rename_i a b;exact⟨.toUns a b,.inr (.inr (kZ h))⟩
 ·rename_i a b;exact⟨.Qg a b,.inr (.inr (kZ h))⟩
 ·cases h
include kZ in
theorem WA{b:Builtin}{Y:Array _}(h:vP K P b Y n=true):@GA (K.jc P ro jy rest jd) P b Y n:=by
 cases b with
 |append=>
  intro D d H hd k e;subst e;unfold vP at h;simp only[H,Qw,hd]at h;cases h
 |cap=>exact(by simpa[vP]using h:n=1)
 |copy=>trivial
 |len=>trivial
 |min=>trivial
 |recover=>trivial
 |unsafeSliceData=>simp[vP]at h;exact⟨h.1,kZ h.2⟩
 |unsafeString=>simp[vP]at h;exact⟨h.1,kZ h.2⟩
 |_=>simp[vP]at h
theorem Gm{l:Array _}(h:l.all (j0 K)=true):∀x∈l,@jk (K.jc P ro jy rest jd) x:=fun x Y=>ug (bC.1 h x Y)
include kZ in
theorem NF{c:Call}(h:DD K P c=true):@C2 (K.jc P ro jy rest jd) P c:=by
 unfold DD at h;simp only[aJ]at h;refine⟨Gm h.1,?_⟩;have Y:=h.2;cases H:c.callee with
 |value f=>rw[H]at Y;exact ug Y
 |invoke x name=>rw[H]at Y;simp at Y;exact⟨ug Y.1,Y.2⟩
 |builtin b=>rw[H]at Y;exact WA kZ Y
include kZ in
theorem PA{o:Op}(h:nh K P o=true):@D4 (K.jc P ro jy rest jd) P o:=by
 have Y:=@ug K P ro;have H:=@aaq K P ro;cases o with
 |pick c a b=>simp only[nh,aJ]at h;exact⟨Y h.1.1,Y h.1.2,Y h.2⟩
 |alloc e=>trivial
 |build t ps=>exact fun p D=>Y (bC.1 h p D)
 |buildSlice t n ps=>exact fun p D=>Y (bC.1 h p D)
 |store t a x=>simp only[nh,aJ]at h;exact⟨Y h.1,Y h.2⟩
 |makeSlice t a x=>simp only[nh,aJ]at h;exact⟨Y h.1,Y h.2⟩
 |indexAddr t a x=>simp only[nh,aJ]at h;exact⟨Y h.1,Y h.2⟩
 |index t a x=>simp only[nh,aJ]at h;exact⟨Y h.1,Y h.2⟩
 |binOp op t x y C=>simp only[nh,aJ,cn]at h;exact⟨Y h.1.1,Y h.1.2,h.2.imp id (acd kZ)⟩
 |convert s d x=>simp only[nh,aJ]at h;exact⟨Y h.1,ace kZ h.2⟩
 |makeFunc fn first cap=>
  cases fn with
  |func f=>simp only[nh,aJ]at h;exact⟨⟨f,rfl,h.1.1⟩,Gm h.1.2,Gm h.2⟩
  |_=>simp[nh]at h
 |makeMap t x=>exact H h
 |slice t x A I U=>simp only[nh,aJ]at h;exact⟨Y h.1.1.1,H h.1.1.2,H h.1.2,H h.2⟩
 |lookup t x i ok=>simp only[nh,aJ]at h;exact⟨Y h.1.1,Y h.1.2,Mg h.2⟩
 |mapUpdate t m k x=>simp only[nh,aJ]at h;exact⟨Y h.1.1.1,Y h.1.1.2,Y h.1.2,Mg h.2⟩
 |typeAssert x B a ok=>
  simp only[nh,aJ]at h;refine⟨Y h.1.1,h.1.2,fun ms e=>?_⟩;have:=h.2;simp[Qx,e]at this
 |call c=>exact NF kZ h
 |defer c=>
  simp only[nh,aJ]at h;refine⟨NF kZ h.1,?_⟩;have:=h.2;cases R:c.callee with
  |value f=>exact⟨f,rfl⟩
  |_=>rw[R]at this;simp[Py]at this
 |_=>first|exact Y h|(simp[nh]at h)
include kZ in
theorem NG{o:Oper}(h:AT K P rd o=true):@yw (K.jc P ro jy rest jd) P rd o:=by
 simp[AT,aJ,cn]at h;refine⟨PA kZ h.1,fun hr=>?_⟩;have Y:=h.2.elim (fun x=>by simp_all) id;refine⟨fun c e=>by rw[e]at Y;simp[HI]at Y,fun c e H=>by rw[e]at Y;simp[HI,H]at Y⟩
include kZ in
theorem xZ:∀{c:Code} {rd:Bool},lE K P rd c=true-> @lK (K.jc P ro jy rest jd) P rd c:=by
 intro c;induction c with
 |region i ops I=>
  intro rd h;simp only[lE,cn]at h;exact h.imp id fun h o R=>NG kZ (bC.1 h o R)
 |seq a b Y H=>intro rd h;simp only[lE,aJ]at h;exact⟨Y h.1,H h.2⟩
 |cond q a b Y H=>intro rd h;simp[lE,aJ]at h;exact⟨ug h.1.1,Y h.1.2,H h.2⟩
 |block i d D=>exact fun h=>D h
 |loop d D=>exact fun h=>D h
 |scope d D=>exact fun h=>D h
 |refuse y=>intro rd h;simp[lE]at h;exact h
 |rangeFunc f ps ap6 bd Y H=>intro rd h;simp[lE,aJ]at h;exact⟨ug h.1.1,h.1.2,h.2⟩
 |_=>intro rd h;trivial
end
def uK:bB->Bool
 |.float _|.complex _=>false
 |_=>true
theorem XJ{info:aB->Option _}{fs:Array Field}{i:aL}(h:bS info fs=some i):∃out,i.desc=.struct out:=by
 unfold bS at h;simp only[bind,az]at h;obtain⟨a,_,h⟩:=h;split at h<;>(cases h;exact⟨_,rfl⟩)
theorem reckon_desc{info:aB->Option aL}{d:bB}{i:aL}(h:bD info d=some i):uK i.desc=true/\∀n u,i.desc≠.named n u:=by
 unfold bD at h;cases d with
 |pointer e=>
  simp only[bind,az]at h;obtain⟨a,_,h⟩:=h;split at h
  ·cases h
  ·split at h
   ·cases h
   ·obtain⟨_,_,h⟩:=az.1 h;cases h;exact⟨rfl,fun _ _ x=>by cases x⟩
  ·obtain⟨_,_,h⟩:=az.1 h;cases h;exact⟨rfl,fun _ _ x=>by cases x⟩
 |struct fs=>obtain⟨out,e⟩:=XJ h;rw[e];exact⟨rfl,fun _ _ x=>by cases x⟩
 |slice e=>simp only[bind,az]at h;obtain⟨_,_,_,_,h⟩:=h;cases h;exact⟨rfl,fun _ _ x=>by cases x⟩
 |map k e=>simp only[bind,az]at h;obtain⟨_,_,_,_,_,_,_,_,h⟩:=h;cases h;exact⟨rfl,fun _ _ x=>by cases x⟩
 |chan dir e=>simp only[bind,az]at h;obtain⟨_,_,_,_,h⟩:=h;cases h;exact⟨rfl,fun _ _ x=>by cases x⟩
 |func ps rs v=>simp only[bind,az]at h;obtain⟨_,_,h⟩:=h;cases h;exact⟨rfl,fun _ _ x=>by cases x⟩
 |array n e=>simp only[bind,az]at h;obtain⟨_,_,_,_,h⟩:=h;cases h;exact⟨rfl,fun _ _ x=>by cases x⟩
 |_=>cases h
theorem Oq{α R:Type}(I:R->Prop)(g:α->R->Option _)(H:∀a s x,I s->g a s=some x->∃s',x=.yield s'/\I s'):∀(l:List α) s s1,I s->forIn l s g=some s1->I s1
 |[],s,s1,Y,h=>by simp_all
 |a::l,s,s1,Y,h=>by
  rw[List.forIn_cons]at h;obtain⟨x,D,h⟩:=az.1 h;obtain⟨s',rfl,K⟩:=H a s x Y D;exact Oq I g H l s' s1 K h
section
variable[gq]{r:Rn}
def sj(r:Rn)(z:af):=V r z z
theorem sj.cells{z:af}(h:sj r z):∀x∈z.cells,V r x x:=by
 intro x K;cases z with
 |agg c=>
  cases h with
  |agg _ H=>
   obtain⟨i,Y,rfl⟩:=cK.1 K;exact H i _ _ (bN Y) (bN Y)
 |_=>simp[Value.cells,Array.mem_singleton]at K;rw[K];exact h
theorem HJ{c:Array _}(h:∀x∈c,V r x x):V r (.agg c) (.agg c):=.agg rfl fun i x x' e e'=>by
 obtain rfl:=Option.some.inj (e.symm.trans e');exact h x (bk e)
theorem XK{info:aB->Option aL}(F:∀t i z,info t=some i->i.zero=some z->sj r z){fs:Array Field}{i:aL}(h:bS info fs=some i):∀z,i.zero=some z->sj r z:=by
 unfold bS at h;simp only[bind,az,pure]at h;obtain⟨a,D,h⟩:=h;have inv:=Oq (fun s:Array Field×Nat×Nat×Nat×Nat×Bool×Bool×Option (Array af)×String=>∀z,s.2.2.2.2.2.2.2.1=some z->∀x∈z,V r x x) _ ?_ fs.toList _ a ?_ (by rw[Array.forIn_toList];exact D)
 ·have key:∀z,(a.2.2.2.2.2.2.2.1.map Value.agg)=some z->sj r z:=by
   intro z K;obtain⟨c,U,rfl⟩:=bY.1 K;exact HJ (inv c U)
  split at h<;>(cases h;exact key)
 ·intro f s x I Y;have fin:∀(i:aL) (q:Prop) [Decidable q] z,info f.type=some i->(if q then none else s.2.2.2.2.2.2.2.1.bind fun a=>i.zero.bind fun b=>some (a++b.cells))=some z->∀x∈z,V r x x:=by
   intro i q _ z H K;split at K
   ·cases K
   ·simp only[az]at K;obtain⟨a,D,b,A,e⟩:=K;cases e;intro x Y;rcases cJ.1 Y with y|y
    ·exact I a D x y
    ·exact(F _ _ _ H A).cells x y
  obtain⟨j,R,Y⟩:=az.1 Y;split at Y
  ·cases Y
  ·split at Y
   ·cases Y
   ·split at Y
    ·simp only[Option.bind_some]at Y;split at Y<;>(cases Y;exact⟨_,rfl,fun z K=>fin j _ z R K⟩)
    ·obtain⟨B,_,Y⟩:=az.1 Y;split at Y<;>(cases Y;exact⟨_,rfl,fun z K=>fin j _ z R K⟩)
 ·intro z K x Y;cases K;simp at Y
theorem XL{info:aB->Option aL}(H:∀t i z,info t=some i->i.zero=some z->sj r z){d:bB}{i:aL}(h:bD info d=some i):∀z,i.zero=some z->sj r z:=by
 unfold bD at h;cases d with
 |pointer e=>
  simp only[bind,az]at h;obtain⟨a,_,h⟩:=h;split at h
  ·cases h
  ·split at h
   ·cases h
   ·obtain⟨_,_,h⟩:=az.1 h;cases h;intro z Y;cases Y;exact .nilPtr
  ·obtain⟨_,_,h⟩:=az.1 h;cases h;intro z Y;cases Y;exact .nilPtr
 |struct fs=>exact XK H h
 |slice e=>simp only[bind,az]at h;obtain⟨_,_,_,_,h⟩:=h;cases h;intro z Y;cases Y;exact .kJ _ _
 |map k e=>simp only[bind,az]at h;obtain⟨_,_,_,_,_,_,_,_,h⟩:=h;cases h;intro z Y;cases Y;exact .oD
 |chan dir e=>simp only[bind,az]at h;obtain⟨_,_,_,_,h⟩:=h;cases h;intro z Y;cases Y;exact .pM
 |func ps rs v=>simp only[bind,az]at h;obtain⟨_,_,h⟩:=h;cases h;intro z Y;cases Y;exact .nilFunc
 |array n e=>
  simp only[bind,az]at h;obtain⟨j,D,_,_,h⟩:=h;cases h;intro z Y;split at Y
  ·cases Y
  ·split at Y
   ·cases Y;exact HJ fun x K=>by simp_all
   ·obtain⟨y,I,rfl⟩:=bY.1 Y;refine HJ fun x K=>(H _ _ _ D I).cells x ?_;obtain⟨c,A,R⟩:=Array.mem_flatten.1 K;simp_all
 |_=>cases h
def uB(T:bZ):=T.types.all fun i=>uK i.desc&&match i.zero with|some z=>mW 4 z|none=>true
theorem PB{T:bZ}(h:uB T=true){t:aB}{i:aL}(e:T.types[t]?=some i):uK i.desc=true/\∀z,i.zero=some z->sj r z:=by
 have:=bC.1 h i (bk e);simp at this;refine⟨this.1,fun z K=>?_⟩;have Y:=this.2;rw[K]at Y;exact zT Y
theorem aar{T:bZ}(h:uB T=true):∀f t i,bX T f t=some i->uK i.desc=true/\∀z,i.zero=some z->sj r z:=by
 intro f;induction f with
 |zero=>intro t i e;cases e
 |succ f Y=>
  intro t i e;unfold bX at e;split at e
  ·exact PB h e
  ·obtain⟨d,_,e⟩:=az.1 e;exact⟨(reckon_desc e).1,XL (fun t i z a b=>(Y t i a).2 z b) e⟩
theorem HO{T:bZ}(h:uB T=true){t:aB}{i:aL}(e:T.info? t=some i):uK i.desc=true/\∀z,i.zero=some z->sj r z:=by
 unfold da at e;split at e
 ·exact PB h e
 ·exact aar h _ _ _ e
theorem acf{P:aH}(h:uB P.toTables=true):qC P:=fun t i z e Y r=>(HO h e).2 z Y
theorem Mb{P:aH}(h:uB P.toTables=true){t:aB}{d:bB}(e:P.underlying t=some d):uK d=true:=by
 have r:Rn:=⟨fun _=>none,(fun _ _ _ x=>by simp),(fun _ _ x=>by cases x)⟩;unfold Program.underlying at e;split at e
 ·obtain⟨i,Y,rfl⟩:=bY.1 e;exact(HO (r:=r) h Y).1
 ·rename_i i Y;cases e;exact(HO (r:=r) h Y).1
 ·cases e
theorem aem{P:aH}(h:uB P.toTables=true):DZ P:=by
 intro d;induction d with
 |zero=>intro u k x e;cases e
 |succ d K=>
  intro u k x e;unfold plainCell at e;split at e
  ·obtain⟨f,_,e⟩:=Array.exists_of_findSome?_eq_some e;split at e
   ·exact K _ _ _ e
   ·cases e
  ·dsimp only at e;split at e
   ·cases e
   ·exact K _ _ _ e
  ·simp_all
  ·split at e<;>cases e;simp_all
  ·rename_i Y;have:=Mb h Y;simp[uK]at this
  ·rename_i Y;have:=Mb h Y;simp[uK]at this
  ·cases e
end
theorem XM{info:aB->Option aL}{d:bB}{i:aL}(h:bD info d=some i):i.methods=#[]:=by
 unfold bD at h;cases d with
 |pointer e=>
  simp only[bind,az]at h;obtain⟨a,_,h⟩:=h;split at h
  ·cases h
  ·split at h
   ·cases h
   ·obtain⟨_,_,h⟩:=az.1 h;cases h;rfl
  ·obtain⟨_,_,h⟩:=az.1 h;cases h;rfl
 |struct fs=>
  unfold bS at h;simp only[bind,az]at h;obtain⟨a,_,h⟩:=h;split at h<;>(cases h;rfl)
 |slice e=>simp only[bind,az]at h;obtain⟨_,_,_,_,h⟩:=h;cases h;rfl
 |map k e=>simp only[bind,az]at h;obtain⟨_,_,_,_,_,_,_,_,h⟩:=h;cases h;rfl
 |chan dir e=>simp only[bind,az]at h;obtain⟨_,_,_,_,h⟩:=h;cases h;rfl
 |func ps rs v=>simp only[bind,az]at h;obtain⟨_,_,h⟩:=h;cases h;rfl
 |array n e=>simp only[bind,az]at h;obtain⟨_,_,_,_,h⟩:=h;cases h;rfl
 |_=>cases h
def Rs(P:aH)(t:aB):Bool:=
 match P.underlying t with
 |some (.pointer _)=>false
 |_=>true
def aif(K:pC)(P:aH)(t:aB)(i:aL):=i.methods.all fun m=>!K.uJ m.name||(m.path.isEmpty&&(match m.func with
 |some (f,false)=>K.il f
 |_=>false)&&Rs P t)
def Ay(K:pC)(P:aH):=(aZ P.types.size).all fun t=>match P.types[t]? with
 |some i=>aif K P t i
 |none=>true
theorem Y0{K:pC}{P:aH}{ro:Nat->Prop}{rest:List Item->Prop}{jd:List _->Prop}(h:Ay K P=true){n:String}(F:K.uJ n=true):@Au (K.jc P ro jy rest jd) P n:=by
 intro t i m Y D;have old:∀{i:aL},P.types[t]?=some i->i.methods.find? (·.name==n)=some m->m.path=#[]/\(∃f,m.func=some (f,false)/\K.il f=true)/\∀e,P.underlying t≠some (.pointer e):=by
  intro i Y D;have J:=(bO.1 Y).1;have B:=bW.1 h t (cw.2 J);simp[Y]at B;have U:=bC.1 B m (Array.mem_of_find?_eq_some D);have R:=by simpa using Array.find?_some D
  simp[R,F,Bool.not_true,Bool.false_or,aJ]at U;refine⟨by simp_all,?_,fun e C=>?_⟩
  ·have A:=U.1.2;split at A
   ·simp_all
   ·cases A
  ·have A:=U.2;simp[Rs,C]at A
 have I:∀f (i:aL),bX P.toTables f t=some i->i.methods.find? (·.name==n)=some m->P.types[t]?=some i\/False:=by
  intro f i Y D;cases f with
  |zero=>cases Y
  |succ f=>
   unfold bX at Y;split at Y
   ·simp_all
   ·obtain⟨d,_,e⟩:=az.1 Y;rw[XM e]at D;simp at D
 have H:=Y;unfold da at H;split at H
 ·exact old H D
 ·exact old ((I _ i H D).resolve_right id) D
def tu(K:pC)(P:aH)(ext:au->Bool)(f:au):Bool:=match P.funcs[f]? with
 |some fn=>!(fn.name== "runtime.NumGoroutine")&&(match fn.body with
  |some c=>lE K P false c
  |none=>ext f)
 |none=>false
def Sl(K:pC)(P:aH)(ro:Nat->Prop)(jy:Nat->Nat->Prop)(rest:List _->Prop)(jd:List bm->Prop)(fn:Func):=
 letI:=K.jc P ro jy rest jd
 Extern.findNext fn=none/\∃e,Extern.find fn=some e/\∀r a a',VA r a a'->SR P V r (e a) (e a')
theorem Ix{K:pC}{P:aH}{ro:Nat->Prop}{rest:List _->Prop}{jd:List _->Prop}(kZ:K.rB=true->∀b,¬ro b)(ext:au->Bool)(L:uB P.toTables=true)(N:Ay K P=true)(F:∀f,K.il f=true->tu K P ext f=true)(M:∀f fn,ext f=true->P.funcs[f]?=some fn->Sl K P ro jy rest jd fn):@k_ (K.jc P ro jy rest jd) P:=by
 letI:=K.jc P ro jy rest jd
 refine⟨⟨acf L,rfl,aem L,fun f D=>?_,fun n A=>Y0 N A⟩,fun c I=>xZ kZ I,rfl,fun _=>rfl,fun _=>rfl,fun f fn c D Y H=>?_⟩
 ·have h:=F f D;unfold tu at h;split at h
  ·rename_i fn Y;simp only[aJ,cm]at h;refine⟨fn,Y,h.1,fun H=>?_⟩;have R:=h.2;rw[H]at R;exact M f fn R Y
  ·cases h
 ·have h:=F f D;unfold tu at h;simp[Y,H,aJ]at h;exact xZ kZ h.2
def S7:List Nat:=[0,1,2,3,4,5,6,7,8,9,10,11,12,13,14,15,16,22,38,39,60,92,111,122,137,138,140,157,158,159,160,161,168,169,170,171,172,173,174,175,176,177,178,179,180,181,182,183,184,185,186,187,188,199,200,201,202,203,204,205,206,207,214,215,216,217,218,219,220,222,223,224,225,226,227,228,229,230,231,232,233,234,235,236,237,242,243,244,245]
def uW(f:Nat):Bool:=[113,134,156].contains f
def K0:pC:={il:=fun f=>decide (f<246)&&!S7.contains f,sy:=fun g=>[0,2,3].contains g,uJ:=fun n=>n== "spotter/spotter.told"||n== "spotter/spotter.flag",rB:=true}
theorem GK:uB aO.toTables=true:=by decide+kernel
theorem aas:Ay K0 aO=true:=by decide+kernel
theorem aat:((aZ 246).all fun f=>!K0.il f||tu K0 aO uW f)=true:=by decide+kernel
theorem acg(f:Nat)(h:K0.il f=true):tu K0 aO uW f=true:=by
 have Y:=by
  have:(decide _&&!S7.contains f)=true:=h;simp only[aJ,decide_eq_true_eq]at this;exact this.1
 have:=bW.1 aat f (cw.2 Y);rw[h]at this;simpa using this
theorem HU(K:pC)(ro:Nat->Prop)(jy:Nat->Nat->Prop)(rest:List Item->Prop)(jd:List bm->Prop)(f:Nat)(fn:Func)(h:uW f=true)(Y:aO.funcs[f]?=some fn):Sl K aO ro jy rest jd fn:=by
 letI:=K.jc aO ro jy rest jd
 have:f=113\/f=134\/f=156:=by simpa[uW]using h
 rcases this with rfl|rfl|rfl
 ·rw[Tryz.func113]at Y;cases Y;exact⟨by decide+kernel,Extern.AbiNoEscape.same,by rfl,fun r a a' h=>Xw h⟩
 ·rw[Tryz.func134]at Y;cases Y;exact⟨by decide+kernel,Extern.BytealgIndexByte.indexByte,by rfl,fun r a a' h=>WY h⟩
 ·rw[Tryz.func156]at Y;cases Y;exact⟨by decide+kernel,_,by rfl,fun r a a' h=>Wv _ _ h⟩
def AU:Nat->Prop:=fun _=>False
def wo:Nat->Nat->Prop:=fun _ _=>False
theorem AV(rest:List Item->Prop)(jd:List bm->Prop):@k_ (K0.jc aO AU wo rest jd) aO:=Ix (fun _ _ h=>h) _ GK aas acg (HU K0 _ _ _ jd)
def K2:pC:={il:=fun _=>false,sy:=fun _=>false,uJ:=fun _=>false,rB:=false}
def K3:pC:={il:=fun f=>[77,139,144,145,150,165].contains f,sy:=fun _=>false,uJ:=fun _=>false,rB:=false}
theorem Y1:Ay K3 aO=true:=by decide+kernel
theorem Y2:([77,139,144,145,150,165].all fun f=>tu K3 aO uW f)=true:=by decide+kernel
theorem ach(f:Nat)(h:K3.il f=true):tu K3 aO uW f=true:=by
 have:f∈[77,139,144,145,150,165]:=by
  have:[77,139,144,145,150,165].contains f=true:=h;simpa using this
 exact bW.1 Y2 f this
theorem aih(ro:Nat->Prop)(jy:Nat->Nat->Prop)(rest:List Item->Prop)(jd:List bm->Prop):@k_ (K3.jc aO ro jy rest jd) aO:=Ix (fun h=>by cases h) _ GK Y1 ach (HU K3 ro jy _ jd)
end Ren
namespace Ph
open Conc Ren
theorem Tz.inv{P:aH}{U:Nat->Nat->Prop}{D:(Nat->Prop)->(Nat->Prop)->ai->ah->Prop}{X:Nat->Prop}{g:ai}(J:(Nat->Prop)->(Nat->Prop)->ah->Prop)
  (Y:∀S X w w2 w1 es S1 X1,J S X w->gI U S w w2->Did S X w2 w1 es S1 X1->J S1 X1 w1)(h:Tz P main U D S X g w)(j:J S X w):Tz P main U (fun S X g w=>D S X g w/\J S X w) S X g w:=by
 induction h with
 |stop hd=>exact .stop ⟨hd,j⟩
 |step K ex _ H=>exact .step K ex fun w2 g1 w1 es S1 X1 hr e hd=>H w2 g1 w1 es S1 X1 hr e hd (Y _ _ _ _ _ _ _ _ j hr hd.toDid)
theorem Tz.gZ{P:aH}{U:Nat->Nat->Prop}{D:(Nat->Prop)->(Nat->Prop)->ai->ah->Prop}{X S' X':Nat->Prop}{g:ai}(h:Tz P main U D S X g w)(Y:∀a,S a↔S' a)(hX:∀a,X a↔X' a):Tz P main U D S' X' g w:=by
 obtain rfl:S=S':=funext fun a=>propext (Y a);obtain rfl:X=X':=funext fun a=>propext (hX a);exact h
def uX:af->af
 |.pointer (some _)=>.tuple #[]
 |v=>v
def S8:Obj->Obj
 |.cells c e _=>.cells (c.map uX) e (0,(c.map uX).size)
 |o=>o
def rG(ow:Option Nat)(w:ah):={w with heap:=w.heap.mapIdx fun i o=>if some i=ow then o else S8 o}
theorem Az{b:Nat}(h:w.heap[b]?=some o):(rG ow w).heap[b]?=some (if some b=ow then o else S8 o):=by
 show(w.heap.mapIdx _)[b]?=_
 simp_all
theorem G_:(rG ow w).heap.size=w.heap.size:=by
 show(w.heap.mapIdx _).size=_
 simp
structure xL(Fd By Rf Sg Fp k q st:Nat)(X P:ByteArray)(w:ah):Prop where
 b:w.heap[By]?=some (.cells #[.int .i64 (k:Int),.int .i64 (q:Int),.int .i64 (st:Int)] 75)
 r:w.heap[Rf]?=some (.cells #[.string X] 9)
 s:w.heap[Sg]?=some (.cells #[.string P] 9)
 f:w.heap[Fp]?=some (.cells #[ptr Fd] 182)
 low:PR.globals.size<=w.heap.size
def Kp(By Rf Sg Fp b:Nat):=b=By\/b=Rf\/b=Sg\/b=Fp
section
variable{Fd By Rf Sg Fp k q st:Nat}{X P:ByteArray}{w:ah}{ow:Option Nat}
theorem xL.reads(h:xL Fd By Rf Sg Fp k q st X P w)(H:∀b,Kp By Rf Sg Fp b->some b≠ow)(T:Nat->Question->Nat):Reads (tp (rG ow w) T) By Rf Sg k q st X P:=by
 have Y:(tp (rG ow w) T).heap[By]?=_:=(Az h.b).trans (by rw[if_neg (H By (.inl rfl))]);have K:(tp (rG ow w) T).heap[Rf]?=_:=(Az h.r).trans (by rw[if_neg (H Rf (.inr (.inl rfl)))]);have D:(tp (rG ow w) T).heap[Sg]?=_:=(Az h.s).trans (by rw[if_neg (H Sg (.inr (.inr (.inl rfl))))]);exact⟨by rw[bT _ By 0 _ _ _ Y];simp[uX],by rw[bT _ By 1 _ _ _ Y];simp[uX],by rw[bT _ By 2 _ _ _ Y];simp[uX],by rw[bT _ Rf 0 _ _ _ K];simp[uX],by rw[bT _ Sg 0 _ _ _ D];simp[uX]⟩
@[reducible] def gl(By Rf Sg Fp:Nat)(kr:List _):=K3.jc PR (Kp By Rf Sg Fp) wo (fun k=>k=kr) (fun _=>False)
theorem xL.W(kr:List Item)(h:xL Fd By Rf Sg Fp k q st X P w)(F:∀b,Kp By Rf Sg Fp b->some b≠ow)(L:∀g,ow=some g->∃c e,w.heap[g]?=some (.cells c e)/\∀x∈c,∃z:Int,x=.int .i64 z):
  letI:=gl By Rf Sg Fp kr
  Ren.W (mj fun b=>Kp By Rf Sg Fp b\/some b=ow) 0 (rG ow w) w:=by
 letI:=gl By Rf Sg Fp kr
 refine⟨fun b b' e=>?_,by rw[G_];exact h.low,h.low,fun b I=>?_,fun i q R=>by omega,rfl⟩
 ·obtain⟨hk,rfl⟩:=yi.1 e;rcases hk with hk|hk
  ·have key:∀(c:Array _) (t:aB),w.heap[b]?=some (.cells c t)->VA (mj fun b=>Kp By Rf Sg Fp b\/some b=ow) (c.map uX) c->∃o o',(rG ow w).heap[b]?=some o/\w.heap[b]?=some o'/\OB (mj fun b=>Kp By Rf Sg Fp b\/some b=ow) b o o':=by
    intro c t H D;exact⟨_,_,(Az H).trans (by rw[if_neg (F b hk)];rfl),H,.ro t hk D fun i R=>absurd R id⟩
   rcases hk with rfl|rfl|rfl|rfl
   ·refine key _ _ h.b ⟨by simp,fun i x x' Y K=>?_⟩;rw[bP,K]at Y;cases Y;have:=by
     have:=bk K;simpa using this
    rcases this with rfl|rfl|rfl<;>exact .int _ _
   ·refine key _ _ h.r ⟨by simp,fun i x x' Y K=>?_⟩;rw[bP,K]at Y;cases Y;have:=by
     have:=bk K;simpa using this
    subst this;exact .string _
   ·refine key _ _ h.s ⟨by simp,fun i x x' Y K=>?_⟩;rw[bP,K]at Y;cases Y;have:=by
     have:=bk K;simpa using this
    subst this;exact .string _
   ·refine key _ _ h.f ⟨by simp,fun i x x' Y K=>?_⟩;rw[bP,K]at Y;cases Y;have:=by
     have:=bk K;simpa using this
    subst this;exact .blank rfl
  ·obtain⟨c,t,H,D⟩:=L b hk.symm;refine⟨_,_,(Az H).trans (by simp_all),H,.same (fun y=>F b y hk) (C5 t _ fun x A=>?_)⟩;obtain⟨z,rfl⟩:=D x A;exact .int _ _
 ·rw[G_];rcases I with rfl|rfl|rfl|rfl
  ·exact bG fun y=>by have:=h.b;simp_all
  ·exact bG fun y=>by have:=h.r;simp_all
  ·exact bG fun y=>by have:=h.s;rw[cH y]at this;cases this
  ·exact bG fun y=>by have:=h.f;rw[cH y]at this;cases this
end
noncomputable def oe:List Item:=match Tryz.f138.body with
 |some (.seq _ b)=>[.code b]
 |_=>[]
section
variable{ch Wg By Rf Sg Fp x:Nat}{j:Nat->af}{l:List ae}{T:Array af}
theorem cp0:gC PR 1 (WG ch Wg (jW By Rf Sg Fp) (.int .i64 x) true j).1 l=(⟨138,nD x By Rf Sg Fp (.tuple #[]) (fun _=>.tuple #[]),.code Em::oe,[],.run,.normal,none⟩,l):=by kernel_rfl
theorem cp1:gC PR 1 ⟨138,T,oe,[],.run,.normal,none⟩ l=(⟨138,T,.code ss::tt,[],.run,.normal,none⟩,l):=by kernel_rfl
theorem aen:lE K3 PR false Em=true:=by decide+kernel
theorem aeo:lE K3 PR false ss=true:=by decide+kernel
theorem Y3:∃c k,oe=.code c::k:=⟨_,_,rfl⟩
theorem Y4:∃c k,tt=.code c::k:=⟨_,_,rfl⟩
end
section
variable{U:Nat->Nat->Prop}{Fd By Rf Sg Fp k q st:Nat}{X P:ByteArray}{w:ah}{ow:Option Nat}{kr:List Item}{c:Code}
def aii(U:Nat->Nat->Prop)(By Rf Sg Fp:Nat)(kr:List Item)(r0:@Rn (gl By Rf Sg Fp kr))(R:Array af->ah->Prop)(cs:List ae)(S X S' X':Nat->Prop)(g:ai)(w':ah):Prop:=
 letI:=gl By Rf Sg Fp kr
 ∃(r:Rn) (a' t':Array af) (v:ah),Le r0 r/\Ren.W r 0 v w'/\(∀b,S' b↔Rd r b\/S b)/\(∀b,X' b↔Wr r b\/X b)/\R a' v/\oN U r/\VA r a' t'/\g=G ⟨138,t',kr,[],.run,.normal,none⟩ cs
theorem piece(hk:∃c k,kr=.code c::k)(hc:lE K3 PR false c=true){r0:@Rn (gl By Rf Sg Fp kr)}{v0:ah}(Z:@Ren.W (gl By Rf Sg Fp kr) r0 0 v0 w)
  {R:Array af->ah->Prop}{a t:Array af}(F:∀T,c.wp PR (fun e a' v'=>e=.normal/\a'.defers=[]/\R a'.tmps v') ⟨a,[]⟩ (tp v0 T))
  (H:@VA (gl By Rf Sg Fp kr) r0 a t){cs:List ae}(Y:@oN (gl By Rf Sg Fp kr) U r0)(L:∀b i,U b i->b<w.heap.size){S X':Nat->Prop}(V:∀b,@Rd (gl By Rf Sg Fp kr) r0 b->S b)(hX:∀b,@Wr (gl By Rf Sg Fp kr) r0 b->X' b):
  Tz PR false U (aii U By Rf Sg Fp kr r0 R cs S X') S X' (G ⟨138,t,.code c::kr,[],.run,.normal,none⟩ cs) w:=by
 letI:=gl By Rf Sg Fp kr
 have K:lK PR false c:=xZ (fun h=>by cases h) hc;have X:FR PR r0 true (Frame.at ⟨138,#[],[],[],.run,.normal,none⟩ ⟨a,[]⟩ (.code c::ts)) ⟨138,t,.code c::kr,[],.run,.normal,none⟩:=by
  obtain⟨c0,z,A⟩:=hk;refine⟨rfl,H,?_,.nil,.run,rfl,.inl rfl,.none,fun _=>⟨_,Tryz.func138⟩⟩;show IL PR _ false true (.code c::ts) (.code c::kr)
  refine .cons (.code K) ?_;rw[A];exact .rest rfl rfl A.symm rfl
 have E:=Nz (main:=false) (U:=U) (aih (Kp By Rf Sg Fp) wo (fun k=>k=kr) fun _=>False) (fun ops h=>by cases h) (fun g h=>by cases h) F rfl K X (gL:=cs) Z Y L;refine(Tz.of (SF:=S) (XF:=X') E (fun b i J=>⟨L b i J,fun h=>?_⟩) fun S1 X1 f l w1 hd=>?_).gZ (fun b=>⟨fun h=>h.elim (V b) id,.inr⟩) (fun b=>⟨fun h=>h.elim (hX b) id,.inr⟩)
 ·obtain⟨b0,e⟩:=h;exact(Y b0 b i e J).2
 ·obtain⟨rfl,r,a',v,O,P,M,N,⟨D,Q⟩,q,j,I,f1,f2,B,C,f5,f6⟩:=Of (kr:=kr) (fun k h=>h) hd;subst M N;refine .stop ⟨r,a'.tmps,f.tmps,v,O,P,fun b=>Iff.rfl,fun b=>Iff.rfl,Q,q,I,?_⟩;obtain⟨fn,tmps,todo,defers,mode,kind,ro⟩:=f;simp only at f1 f2 B C f5 f6;rw[D]at f6;have:defers=[]:=by
   generalize defers=d at f6;cases f6 with
   |nil=>rfl
   |rest _ h=>exact h.elim
  subst this f1 f2 B C f5;rfl
end
inductive VL[gq](r:Rn):List af->List af->Prop
 |nil:VL r [] []
 |cons {x y:af} {l l':List af}:V r x y->VL r l l'->VL r (x::l) (y::l')
theorem VL.va[gq]{r:Rn}{l l':List _}(h:VL r l l'):VA r l.toArray l'.toArray:=by
 have K:l.length=l'.length:=by
  induction h with
  |nil=>rfl
  |cons _ _ Y=>simp[Y]
 refine⟨by omega,fun i x x' e e'=>?_⟩;clear K;induction h generalizing i with
 |nil=>simp at e
 |cons H _ Y=>
  cases i with
  |zero=>simp at e e';simp_all
  |succ i=>exact Y i (by simp_all) (by simp_all)
theorem agk[gq]{r:Rn}{x By Rf Sg Fp:Nat}(Y:r By=some By)(hr:r Rf=some Rf)(R:r Sg=some Sg)(H:r Fp=some Fp):VA r (nD x By Rf Sg Fp (.tuple #[]) (fun _=>.tuple #[])) (nD x By Rf Sg Fp (.tuple #[]) (fun _=>.tuple #[])):=
 VL.va (.cons (.int _ _) (.cons (.ptr ⟨Y,rfl,rfl⟩) (.cons (.ptr ⟨hr,rfl,rfl⟩) (.cons (.ptr ⟨R,rfl,rfl⟩) (.cons (.ptr ⟨H,rfl,rfl⟩) (.cons (.blank rfl) (.cons (.blank rfl) (.cons (.blank rfl) (.cons (.blank rfl) (.cons (.blank rfl) (.cons (.blank rfl) (.cons (.blank rfl) (.cons (.blank rfl) (.cons (.blank rfl) (.cons (.blank rfl) (.cons (.blank rfl) (.cons (.blank rfl) (.cons (.blank rfl) (.cons (.blank rfl) (.cons (.blank rfl) (.cons (.blank rfl) (.cons (.blank rfl) (.cons (.blank rfl) (.cons (.blank rfl) (.cons (.blank rfl) (.cons (.blank rfl) (.cons (.blank rfl) (.cons (.blank rfl) (.cons (.blank rfl) (.cons (.blank rfl) (.cons (.blank rfl) (.cons (.blank rfl) (.cons (.blank rfl) (.cons (.blank rfl) (.cons (.blank rfl) (.cons (.blank rfl) (.cons (.blank rfl) (.cons (.blank rfl) (.cons (.blank rfl) .nil)))))))))))))))))))))))))))))))))))))))
theorem Gn(t p:ByteArray)(k:Nat):∀n,∀h∈kK t p k n,h.1<=n
 |0,h,Y=>by simp[kK]at Y
 |n+1,h,Y=>by
  have H:=Gn t p k n;rw[kK]at Y;split at Y
  ·rcases List.mem_append.1 Y with K|K
   ·have:=H h K;omega
   ·simp_all
  ·have:=H h Y;omega
def kR(X P:ByteArray)(k st x:Nat):=ki (x *st) (kU (jh X P k st x) P k) (kU (jh X P k st x) P k).length
def Env.Ju(E:Env)(X P:ByteArray)(k st x:Nat)(a:Option Addr)(n:Nat)(S X':Nat->Prop)(w:ah):=
 n=(kR X P k st x).length/\((a=none/\n=0)\/∃g Y,a=some ⟨g,0,none⟩/\S g/\X' g/\(∀i,¬E.U g i)/\w.heap[g]?=some (.cells Y 173)/\Y.toList.take (n *2)=jB (kR X P k st x))
theorem Env.aep(E:Env)(X P:ByteArray)(k st:Nat):E.Rq (E.Ju X P k st):=by
 refine⟨fun h hr=>?_,fun h C=>?_,fun h B hX=>?_⟩
 ·obtain⟨H,K|⟨g,Y,K,R,I,D,A,U⟩⟩:=h
  ·exact⟨H,.inl K⟩
  ·exact⟨H,.inr ⟨g,Y,K,R,I,D,((hr.kept g R).eq D).trans A,U⟩⟩
 ·obtain⟨H,K|⟨g,Y,K,R,I,D,A,U⟩⟩:=h
  ·exact⟨H,.inl K⟩
  ·exact⟨H,.inr ⟨g,Y,K,R,I,D,(C.heap g fun e=>D 0 ⟨.inl e,by omega⟩).trans A,U⟩⟩
 ·obtain⟨H,K|⟨g,Y,K,R,I,D,A,U⟩⟩:=h
  ·exact⟨H,.inl K⟩
  ·exact⟨H,.inr ⟨g,Y,K,B g R,hX g I,D,A,U⟩⟩
theorem Rt(By Rf Sg Fp:Nat)(Y H:List _):A9 (gl By Rf Sg Fp Y) (gl By Rf Sg Fp H):=⟨rfl,fun _ h=>h,fun _ h=>h,fun _ h=>h,fun _=>Iff.rfl,fun _ _ h=>h⟩
theorem Reads.later{w':ah}{By Rf Sg q st B:Nat}{X P:ByteArray}(h:Reads w By Rf Sg k q st X P)(Y:Go.RowKit.Below B w w')(H:By<B)(R:Rf<B)(F:Sg<B)(T:Nat->Question->Nat):Reads (tp w' T) By Rf Sg k q st X P:=
 ⟨(Y.cell H).trans h.c0,(Y.cell H).trans h.c1,(Y.cell H).trans h.c2,(Y.cell R).trans h.x,(Y.cell F).trans h.p⟩
theorem Y5(F:List _):∀x∈jB F,∃z:Int,x=.int .i64 z:=by
 intro x K;simp only[jB,List.mem_flatMap]at K;obtain⟨h,_,Y⟩:=K;simp at Y;rcases Y with rfl|rfl
 ·exact⟨_,rfl⟩
 ·exact⟨_,rfl⟩
theorem aeq[gq]{r:Rn}{c c':Array _}(h:VA r c c'){l:List _}(R:∀x∈l,∃z:Int,x=.int .i64 z)(F:l.length=m)(e:c.toList.take m=l):c'.toList.take m=l:=by
 apply List.ext_getElem?;intro i;rcases Nat.lt_or_ge i m with K|K
 ·have Y:(c.toList.take m)[i]?=l[i]?:=by rw[e]
  rw[cY,if_pos K]at Y;rw[cY,if_pos K];have D:l[i]?=some l[i]:=cu _;rw[D]at Y⊢;obtain⟨z,I⟩:=R _ (List.getElem_mem _);rw[I]at Y⊢;obtain⟨y,A,H⟩:=h.get (by simpa using Y);cases H;simp_all
 ·rw[cW (by simp;omega),cW (by omega)]
theorem W5(F:List _):(jB F).length=F.length *2:=ZG F
theorem aij[gq]{r:Rn}{b:Nat}{y:af}(h:V r (ptr b) y)(e:r b=some b):y=ptr b:=by
 cases h with
 |@ptr a a' k=>
  obtain⟨Y,K,H⟩:=k;obtain⟨b',o',s'⟩:=a';simp only at Y K H;rw[e]at Y;cases Y;subst K H;rfl
section
variable{E:Env}{ch:Nat}{ok:Nat->Prop}{By Rf Sg Fp:Nat}{RO:Nat->Prop}{Fx:ah->Prop}
theorem aer(X P:ByteArray)(k q st:Nat)(hX:X.size<=200)(hP:P.size<=30)(hk:k<=6)(hs:st<=200)(Ld:∀x,ok x->x *st<=X.size/\x<=100000)
  (K:E.wY RO Fx)(hIn:∀w,Fx w->xL E.Fd By Rf Sg Fp k q st X P w)(F:∀b,Kp By Rf Sg Fp b->RO b)(hKU:∀b,Kp By Rf Sg Fp b->∀i,¬E.U b i)(Y:∀w,Fx w->(∀b,RO b->b<w.heap.size)/\E.Mp<w.heap.size):
  Env.Rr E ch ok By Rf Sg Fp RO Fx (E.Ju X P k st):=by
 intro D x S X' j w hx L hF C;obtain⟨TU,Bx⟩:=Ld x hx;generalize Fg:[zp ch E.Wg (jW By Rf Sg Fp) (.int .i64 (x:Int)) j,bot]=cs at C⊢;clear Fg;refine aj 1 fun w1 xK=>?_;rw[cp0];have H:Fx w1:=K.rely S _ _ L.ro hF xK;have G:=hIn w1 H;have zq:∀w,Fx w->∀b i,E.U b i->b<w.heap.size:=fun w h b i t=>by
  rcases t.1 with rfl|rfl
  ·exact(Y w h).1 _ L.fd
  ·exact(Y w h).1 _ L.wg
 have hJ:∀(S X:Nat->Prop) (w w2 w1:ah) (es:Array bp) (S1 X1:Nat->Prop),((∀a,RO a->S a)/\¬S E.Mp/\¬X E.Mp/\(∀a,RO a->¬X a)/\Fx w)->gI E.U S w w2->Did S X w2 w1 es S1 X1->((∀a,RO a->S1 a)/\¬S1 E.Mp/\¬X1 E.Mp/\(∀a,RO a->¬X1 a)/\Fx w1):=by
  rintro S X w w2 w1 es S1 X1 ⟨j1,j2,j3,j4,j5⟩ hr hd;have B:=K.rely S _ _ j1 j5 hr;refine⟨fun a M=>(hd.held a).2 (.inl (j1 a M)),fun y=>?_,fun y=>?_,fun a M y=>?_,K.rely RO _ _ (fun _ h=>h) B ⟨fun a M=>.inl (hd.kept a ((Y _ B).1 a M) (j4 a M)),hd.grow,hd.env⟩⟩
  ·rcases(hd.held _).1 y with z|z
   ·exact j2 z
   ·have:=(Y _ B).2;omega
  ·rcases(hd.may _).1 y with z|z
   ·exact j3 z
   ·have:=(Y _ B).2;omega
  ·rcases(hd.may _).1 y with z|z
   ·exact j4 a M z
   ·have:=(Y _ B).1 a M;omega
 have s:∀b,Kp By Rf Sg Fp b->some b≠(none:Option Nat):=fun b _ e=>by cases e
 have p1:=piece (U:=E.U) (cs:=cs) (S:=S) (X':=X') Y3 aen (G.W (ow:=none) oe s (fun g e=>by cases e))
  (R:=fun a' v=>∃T val,a'=nD x By Rf Sg Fp val (uA By k q st x X P (jh X P k st x) val)/\v.ownsRow w1.heap.size 173 2 val (kU (jh X P k st x) P k).length (jB (kU (jh X P k st x) P k))/\Go.RowKit.Below w1.heap.size (tp (rG none w1) T) v)
  (fun T=>by
   have m:(tp (rG none w1) T).heap.size=w1.heap.size:=G_;have h:=afE x By Rf Sg Fp k q st X P (tp (rG none w1) T) (G.reads s T) hX hP hk hs TU Bx;rw[m]at h;refine cM (fun e a w' p=>?_) h;obtain⟨I,val,rfl,O,h3⟩:=p;exact⟨I,rfl,T,val,rfl,O,h3⟩)
  (@agk (gl By Rf Sg Fp oe) _ x By Rf Sg Fp (@rU (gl By Rf Sg Fp oe) _ _ (.inl (.inl rfl))) (@rU (gl By Rf Sg Fp oe) _ _ (.inl (.inr (.inl rfl)))) (@rU (gl By Rf Sg Fp oe) _ _ (.inl (.inr (.inr (.inl rfl))))) (@rU (gl By Rf Sg Fp oe) _ _ (.inl (.inr (.inr (.inr rfl))))))
  (fun b b' i e t=>by
   obtain⟨I,rfl⟩:=(@yi (gl By Rf Sg Fp oe) _ _ _).1 e;exact absurd t (hKU b (I.resolve_right fun y=>by cases y) i))
  (zq w1 H)
  (fun b d=>L.ro b (F b (((@yo (gl By Rf Sg Fp oe) _ _).1 d).resolve_right fun y=>by cases y)))
  (fun b d=>by
   obtain⟨I,O⟩:=(@adE (gl By Rf Sg Fp oe) _ _).1 d;exact absurd (I.resolve_right fun y=>by cases y) O)
 refine(p1.inv _ hJ ⟨L.ro,L.mp,L.mpx,L.mB,H⟩).bind fun S1 X1 g w2 hd=>?_;obtain⟨⟨r,a',t',v,hle,hWr,TW,hX1,⟨T0,val,rfl,V,ajJ⟩,Z,hva,rfl⟩,hj⟩:=hd;clear p1;refine aj 1 fun w3 N=>?_;rw[cp1];have Bz:Fx w3:=K.rely S1 _ _ hj.1 hj.2.2.2.2 N;have hW3:=@Ren.W.rely (gl By Rf Sg Fp oe) _ _ _ _ _ _ hWr Z ⟨fun a M=>N.kept a ((TW a).2 (.inl M)),N.grow,N.env⟩;have lB:By<w1.heap.size:=(Y w1 H).1 _ (F _ (.inl rfl));have lR:Rf<w1.heap.size:=(Y w1 H).1 _ (F _ (.inr (.inl rfl)));have lS:Sg<w1.heap.size:=(Y w1 H).1 _ (F _ (.inr (.inr (.inl rfl))));have gj:(jh X P k st x).size<=300:=by unfold jh;rw[ByteArray.size_extract];omega
 have hL:(kU (jh X P k st x) P k).length<=1000:=bA (B9 _ _ _ _) (by omega);have hL2:∀h∈kU (jh X P k st x) P k,h.1<=1000:=fun h p=>bA (Gn _ _ _ _ h p) (by omega);have hgB:∀g,val.ownBlock=some g->g≠By:=fun g hg e=>by
  have:=(V.lt g hg).1;omega
 have p2:=piece (U:=E.U) (cs:=cs) (S:=S1) (X':=X1) Y4 aeo (IQ (Rt By Rf Sg Fp oe tt) hW3)
  (R:=fun a' v2=>∃u2,a'=nD x By Rf Sg Fp val u2/\v2.ownsRow w1.heap.size 173 2 val (kU (jh X P k st x) P k).length (jB (kR X P k st x)))
  (fun T=>by
   have h:=afF x By Rf Sg Fp k q st X P (kU (jh X P k st x) P k) val (uA By k q st x X P (jh X P k st x) val) w1.heap.size (tp v T) (Reads.later (G.reads s T0) ajJ lB lR lS T) hgB hL hL2 (by omega) (by omega) Bx V;refine cM (fun e a w' p=>?_) h;obtain⟨I,u2,rfl,O⟩:=p;exact⟨I,rfl,u2,rfl,O⟩)
  (uz (Rt By Rf Sg Fp oe tt) hva) (fun b b' i e t=>Z b b' i e t) (zq w3 Bz) (fun b d=>(TW b).2 (.inl d)) (fun b d=>(hX1 b).2 (.inl d))
 refine(p2.inv _ hJ ⟨hj.1,hj.2.1,hj.2.2.1,hj.2.2.2.1,Bz⟩).bind fun S2 X2 g w4 hd=>?_;obtain⟨⟨r2,a2,t2,v2,ajK,ajL,hS2,hX2,⟨u2,rfl,u⟩,aik,J,rfl⟩,A⟩:=hd;clear p2
 letI:=gl By Rf Sg Fp tt
 have Lb:r2 Fp=some Fp:=ajK _ _ (hle _ _ (@rU (gl By Rf Sg Fp oe) _ _ (.inl (.inr (.inr (.inr rfl))))));obtain⟨y4,e4,hv4⟩:=J.get (i:=4) (x:=ptr Fp) rfl;obtain rfl:=aij hv4 Lb;obtain⟨y6,e6,TX⟩:=J.get (i:=6) (x:=val) rfl;have m:t2.size=39:=J.size.symm;have TY:E.yV RO S2 X2:=⟨A.1,A.2.1,A.2.2.1,L.fd,L.wg,A.2.2.2.1⟩;have f:(kR X P k st x).length=(kU (jh X P k st x) P k).length:=x8 _ _ _;have TZ:∀sl,y6=sl->ky 138 39 tt (sA (D8 Fp sl)) ⟨138,t2,tt,[],.run,.normal,none⟩:=fun sl e=>by
  subst e;refine⟨rfl,rfl,rfl,rfl,rfl,rfl,m,fun i y hy=>?_⟩;unfold sA D8 at hy;by_cases h4:i=4
  ·subst h4;cases hy;show t2.getD 4 ax=_
   rw[cG,e4];rfl
  ·by_cases h6:i=6
   ·subst h6;cases hy;show t2.getD 6 ax=_
    rw[cG,e6];rfl
   ·have b4:(i==4)=false:=by simpa using h4
    have b6:(i==6)=false:=by simpa using h6
    simp[List.lookup,b4,b6]at hy
 rcases u.2 with⟨ev,en⟩|⟨g,cap,cur,ev,hg,p,hnc,Bg,Fg,zr⟩
 ·subst ev;cases TX;exact C S2 X2 _ w4 none 0 0 TY A.2.2.2.2 (TZ _ rfl) ⟨by rw[f,en],.inl ⟨rfl,rfl⟩⟩
 ·subst ev;cases TX with
  |@slice a a' l c ad=>
   obtain⟨I,O,h3⟩:=ad;obtain⟨g',o',s'⟩:=a';simp only at I O h3;subst O h3;obtain⟨o,o',ho,ho',hob⟩:=ajL.obj g g' I;have Q:¬Kp By Rf Sg Fp g:=fun y=>by
    have:=(Y w1 H).1 g (F g y);omega
   cases hob with
   |ro e n _ _=>exact absurd n Q
   |same n hO=>
    rw[p]at ho;cases ho;cases hO with
    |cells e fz hv=>
     exact C S2 X2 _ w4 (some ⟨g',0,none⟩) _ cap TY A.2.2.2.2 (TZ _ rfl) ⟨f.symm,.inr ⟨g',_,rfl,(hS2 g').2 (.inl ⟨g,I⟩),(hX2 g').2 (.inl ⟨g,I,Q⟩),fun i t=>(aik g g' i I t).2,ho',aeq hv (Y5 _) (by rw[W5,f]) zr⟩⟩
end
section
variable{P:aH}{main:Bool}{U:Nat->Nat->Prop}{D:(Nat->Prop)->(Nat->Prop)->ai->ah->Prop}{S X:Nat->Prop}
abbrev RU(U:Nat->Nat->Prop)(S:Nat->Prop):=gI U S
abbrev DU(U:Nat->Nat->Prop)(S X:Nat->Prop):=fun w w1 es=>jY U S X w w1 es S X
theorem jg:Terms (RU U S) (DU U S X):=⟨fun _ _ _ h k=>h.trans k,fun w=>iW _ _ _⟩
theorem Tz.Sm{Stop:ai->ah->Prop}(k:∀g w,Stop g w->Tz P main U D S X g w):∀n {g:ai} {w:ah},Goes P main (RU U S) (DU U S X) Stop n g w->Tz P main U D S X g w
 |0,g,w,h=>k g w (h w (.refl _ _ _))
 |n+1,g,w,h=>by
  rcases h with h|⟨K,h⟩
  ·exact k g w (h w (.refl _ _ _))
  ·refine Tz.one K fun w2 hr=>?_;have gj:=h w2 hr;revert gj;generalize aA P _ g w2=s;intro gj;cases s with
   |go Y w' es=>exact⟨Y,w',es,S,X,rfl,gj.1,Tz.Sm k n gj.2⟩
   |_=>exact gj.elim
theorem Tz.wpC{c:Code}{a:Act}{M:Act->ah->Prop}(h:c.wpC P main (RU U S) (DU U S X) fn n (fun e a' w'=>e=.normal/\M a' w') a w){b:ae}(H:b.fn=fn)(hk:b.kind≠.early){k:List _}{cs:List _}
  (cont:∀a' w0 w',M a' w0->gI U S w0 w'->Tz P main U D S X (G (b.at a' k) cs) w'):Tz P main U D S X (G (b.at a (.code c::k)) cs) w:=by
 refine Tz.Sm (Stop:=fun g w'=>∃a' w0,g=G (b.at a' k) cs/\M a' w0/\gI U S w0 w') (fun g w' R=>?_) _ (h b k cs _ 0 H hk fun e a' w' A=>?_)
 ·obtain⟨a',w0,rfl,Y,K⟩:=R;exact cont a' w0 w' Y K
 ·obtain⟨rfl,I⟩:=A;exact fun w1 hr=>⟨a',w',rfl,I,hr⟩
end
end Ph
end
end Go.Proofs.YtdcjnhipenbcfaaGreatDoor
