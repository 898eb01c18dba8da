/-
  Own text. Part 2 of what the claim rests on.
-/
import Derived.Test.YtdcjnhipenbcfaaGreatDoorPk1
import Derived.Conc.Own
import Derived.Conc.LoneCalls
import Derived.Conc.Beside
import Derived.Conc.WrSpec
import Derived.Conc.AtomicLaws2
import Derived.Conc.ClockLaws
import Derived.Conc.MarkLaws
import Derived.Conc.SmallLaws
import Derived.Conc.TokenWalk
import Derived.Laws.LoneSync
import Derived.Conc.Own2
import Derived.Conc.CrowdComm
import Derived.Laws.Tables
import Derived.Test.YtdcjnhipenbcfaaGreatDoorProg
import Derived.KernelRfl
import Derived.Conc.CrowdBase
set_option linter.unusedVariables false
set_option linter.unusedSectionVars false
set_option linter.unusedSimpArgs false
set_option maxRecDepth 100000
set_option maxHeartbeats 16000000
open Array renaming getElem?_eq_getElem->bD,getElem?_map->bI,mem_of_getElem?->bJ,getElem?_setIfInBounds_ne->bS,mem_map->bT,getElem?_eq_some_iff->cS,mapM_eq_mapM_toList->cT,mem_append->cU,mem_iff_getElem->cV
open Bool renaming false_eq_true->cx,not_eq_true->cy
open Classical renaming choose->bj,byContradiction->bV,choose_spec->cA
open Go renaming Frame->ae,World->af,stepG->ah,Value->ai,Program->aj,Goroutine->ak,FuncId->ar,Trace->ax,TypeId->aA,undef->aJ,MemOp->aM,runNT->aN,Event->aO,execOp->aT,doReturn->aV,Ending->aX,GStep->aY,PanicEntry->a_,Question->bc,unwind->bh,Deferred->bk,Touch->bp,mayWake->bq,Machine->bt,runN_add->bB,yielded->bC,deafBehind->bG,IntKind->bL,results->bQ,tryRecover->bR,FrameMode->b_,bodyPost->cu,run_store->cw,CallKind->cz,callDeferred->cL,step_lone_ended->cQ,events_store->dG
open Go.Act renaming put->bH
open Go.CallKind renaming early->cW
open Go.Conc renaming Knows->aB,semEvents->aH,touchAt->aI,woken->aW,seen_none->bg,act?_of->bA,again_running->bF,Deaf_other->bK,act?_old->bN,lt_of_act?->bO,ofEvents_eq->bP,Before->bU,NoRelease->cm,heard_old->cv,deafBehind_still->cM,getElem?_append_old->cO,lone_eq_solo->cP,touch_of->cR,runT_crowd_go->dH,semEvents_sync->dI,step_solo_go->dJ,woken_quitsD->dK
open Go.Deferred renaming ofValue->cX
open Go.Extern renaming findNext->da
open Go.Extern.Atomic renaming casT->cY
open Go.Extern.Race renaming marked->cB,none_->cC,at_->cZ
open Go.Extern.Sync renaming count->bW,semacquire->bX,semrelease->cD,canSpin->c9,none_->c_
open Go.Frame renaming raise->br,eval->bY,finish_at->bZ
open Go.GStep renaming after->aP
open Go.Instr renaming endRound->aZ,enterLoop->bE,endLoop->db
open Go.Machine.mk renaming injEq->dt
open Go.MemAct renaming ofEvent->az,touch?->aD
open Go.MemOp renaming ofEvents->aK
open Go.Op renaming intArith->cH
open Go.Region renaming wanted->cn
open Go.Sem renaming runT->ay,runT_eq->cJ
open Go.Stepped.next renaming injEq->dC
open Go.Trace renaming g?->cK
open Go.World renaming cell?->bu,frozen?->dD,setChan->dE
open Go.stepG renaming exec->aL
open List renaming range->aU,mem_cons->cf,mem_toArray->cg,not_mem_nil->cj,count_append->dc,count_cons->de,count_nil->dh,getElem_map->di,getElem_range->dj,getElem_toArray->dk,mapM_cons->dp,map_map->dq
open Nat renaming le_refl->ao,lt_of_lt_of_le->au,le_trans->aQ,lt_or_ge->ck,pos_of_ne_zero->cE,zero_le->cG,add_sub_cancel_left->du,eq_zero_or_pos->dx,exists_eq_add_of_le->dy,le_of_eq->dz,not_lt_zero->dA
open Option renaming map_eq_some_iff->bM,map_some->cI,getD_some->dB
open Option.some renaming injEq->bm
namespace Go.Proofs.YtdcjnhipenbcfaaGreatDoor
noncomputable section
variable {ad wg:Addr}{es:Array aO}{bz cl main rd said:Bool}{d':bk}{e:aO}{f f' f0 f1 fr:ae}{g1:ak}{cs gL l l':List ae}{k' kr:List Item}{L jQ ks:List Nat}{IU Z:Loc->Prop}{B bl c' i i' k v' gV gY:Nat}{TB:Nat->Nat}{K S S' S1 SF X X1 XF:Nat->Prop}{y:Operand}{o ju:Option Nat}{o2:Option Obj}{P:aj}{pos:String}{u1 v0 v1 w w2:af}
namespace Ren
open Conc
section
variable[gq]{P:aj}{r:Rn}
def yw(P:aj)(rd:Bool)(o:Oper):=D4 P o.op/\(rd=true->(∀c,o.op≠.defer c)/\∀c,o.op=.call c->c.callee≠.builtin .recover)
def lK(P:aj)(rd:Bool):Code->Prop
 |.skip|.label _|.exit _|.goto _|.ret=>True
 |.refuse y=>y≠ ""
 |.region _ ops _=>gq.wall ops\/∀o∈ops,yw P rd o
 |.seq a b=>lK P rd a/\lK P rd b
 |.cond c a b=>jk c/\lK P rd a/\lK P rd b
 |.block _ c|.loop c|.scope c=>lK P rd c
 |.rangeFunc f _ ap6 bd=>jk f/\gq.code ap6/\gq.code bd
structure k_(P:aj):Prop extends Fit P where
 code:∀c,gq.code c->lK P true c
 ret:gq.code .ret
 exit:∀i,gq.code (.exit i)
 goto:∀i,gq.code (.goto i)
 body:∀f fn c,gq.il f->P.funcs[f]?=some fn->fn.body=some c->lK P false c
inductive IT(P:aj)(r:Rn)(rd:Bool):Item->Item->Prop
 |code {c:Code}:lK P rd c->IT P r rd (.code c) (.code c)
 |inBlock (i:Nat):IT P r rd (.inBlock i) (.inBlock i)
 |inLoop {c:Code}:lK P rd c->IT P r rd (.inLoop c) (.inLoop c)
 |inScope {c:Code}:lK P rd c->IT P r rd (.inScope c) (.inScope c)
 |inRegion {ops:Array Oper} (l:List Nat):(∀i∈l,∀o,ops[i]?=some o->yw P rd o)->IT P r rd (.inRegion ops l) (.inRegion ops l)
 |inRangeFunc {l l':Nat}:r l=some l'->IT P r rd (.inRangeFunc l) (.inRangeFunc l')
 |endRangeFunc {l l':Nat}:r l=some l'->IT P r rd (.endRangeFunc l) (.endRangeFunc l')
 |beginRound:IT P r rd .beginRound .beginRound
def Av:List Item->Bool
 |[]|.code _::_|.inBlock _::_|.inLoop _::_|.inScope _::_=>true
 |_=>false
inductive IL(P:aj)(r:Rn)(rd bz:Bool):List Item->List Item->Prop
 |nil:IL P r rd bz [] []
 |rest {k':List Item}:rd=false->bz=true->gq.rest k'->Av k'=true->IL P r rd bz [.code (.refuse "")] k'
 |cons {x y:Item} {k k':List Item}:IT P r rd x y->IL P r rd bz k k'->IL P r rd bz (x::k) (y::k')
structure PE(r:Rn)(x y:a_):Prop where
 v:V r x.v y.v
 recovered:y.recovered=x.recovered
 goexit:y.goexit=x.goexit
inductive oq(r:Rn):List a_->List a_->Prop
 |nil:oq r [] []
 |cons {x y:a_} {k k':List a_}:PE r x y->oq r k k'->oq r (x::k) (y::k')
inductive MD(r:Rn):b_->b_->Prop
 |run:MD r .run .run
 |returning:MD r .returning .returning
 |panicking {k k':List a_}:oq r k k'->MD r (.panicking k) (.panicking k')
inductive DB(r:Rn)(bz:Bool):List bk->List bk->Prop
 |nil:DB r bz [] []
 |rest {l':List bk}:bz=true->gq.jd l'->DB r bz [] l'
 |cons {d d':bk} {l l':List bk}:Df r d d'->DB r bz l l'->DB r bz (d::l) (d'::l')
structure FR(P:aj)(r:Rn)(bz:Bool)(f f':ae):Prop where
 fn:f'.fn=f.fn
 tmps:VA r f.tmps f'.tmps
 todo:IL P r f.roundOf.isSome bz f.todo f'.todo
 defers:DB r bz f.defers f'.defers
 mode:MD r f.mode f'.mode
 kind:f'.kind=f.kind
 kinds:f.kind=.normal\/f.kind=.deferred
 round:LO r f.roundOf f'.roundOf
 has:f.roundOf=none->∃fn,P.funcs[f.fn]?=some fn
inductive SL(P:aj)(r:Rn)(cs gL:List ae):Nat->List ae->List ae->Prop
 |base:SL P r cs gL 0 cs gL
 |cons {n:Nat} {f f':ae} {l l':List ae}:FR P r (n==0) f f'->(n=0->f.roundOf=none/\f.kind=.normal)->SL P r cs gL n l l'->SL P r cs gL (n+1) (f::l) (f'::l')
theorem IT.mono{s:Rn}(h:Le r s){x y:Item}(k:IT P r rd x y):IT P s rd x y:=by
 cases k with
 |code c=>exact .code c
 |inBlock i=>exact .inBlock i
 |inLoop c=>exact .inLoop c
 |inScope c=>exact .inScope c
 |inRegion l o=>exact .inRegion l o
 |inRangeFunc e=>exact .inRangeFunc (h _ _ e)
 |endRangeFunc e=>exact .endRangeFunc (h _ _ e)
 |beginRound=>exact .beginRound
theorem IL.mono{s:Rn}(h:Le r s){x y:List Item}(k:IL P r rd bz x y):IL P s rd bz x y:=by
 induction k with
 |nil=>exact .nil
 |rest a b c d=>exact .rest a b c d
 |cons a _ Y=>exact .cons (a.mono h) Y
theorem PE.mono{s:Rn}(h:Le r s){x y:a_}(k:PE r x y):PE s x y:=⟨k.v.mono h,k.recovered,k.goexit⟩
theorem oq.mono{s:Rn}(h:Le r s){x y:List _}(k:oq r x y):oq s x y:=by
 induction k with
 |nil=>exact .nil
 |cons a _ Y=>exact .cons (a.mono h) Y
theorem oq.append{x y x' Y:List _}(h:oq r x y)(k:oq r x' Y):oq r (x++x') (y++Y):=by
 induction h with
 |nil=>exact k
 |cons a _ K=>exact .cons a K
theorem MD.mono{s:Rn}(h:Le r s){x y:b_}(k:MD r x y):MD s x y:=by
 cases k with
 |run=>exact .run
 |returning=>exact .returning
 |panicking p=>exact .panicking (p.mono h)
theorem DB.mono{s:Rn}(h:Le r s){x y:List _}(k:DB r bz x y):DB s bz x y:=by
 induction k with
 |nil=>exact .nil
 |rest a b=>exact .rest a b
 |cons a _ Y=>exact .cons (a.mono h) Y
theorem DL.SG{x y x' Y:List _}(h:DL r x y)(k:DB r bz x' Y):DB r bz (x++x') (y++Y):=by
 induction h with
 |nil=>exact k
 |cons a _ K=>exact .cons a K
theorem FR.mono{s:Rn}(h:Le r s)(k:FR P r bz f f'):FR P s bz f f':=⟨k.fn,k.tmps.mono h,k.todo.mono h,k.defers.mono h,k.mode.mono h,k.kind,k.kinds,k.round.mono h,k.has⟩
theorem SL.mono{s:Rn}{cs gL:List _}(h:Le r s){n:Nat}{l l':List _}(k:SL P r cs gL n l l'):SL P s cs gL n l l':=by
 induction k with
 |base=>exact .base
 |cons f b _ Y=>exact .cons (f.mono h) b Y
theorem VA.getD{c c':Array _}(h:VA r c c')(i:Nat):V r (c.getD i aJ) (c'.getD i aJ):=by
 have e:∀a:Array _,a.getD i aJ=(a[i]?).getD undef:=fun a=>by simp
 rw[e,e];cases Y:c[i]? with
 |some x=>obtain⟨x',e',K⟩:=h.get Y;simp_all
 |none=>rw[h.none Y];exact .tuple rfl (fun i x x' e=>by simp)
def GI(r:Rn):=∀g,gq.sy g->r g=some g
theorem GI.mono{s:Rn}(h:Le r s)(k:GI r):GI s:=fun g Y=>h _ _ (k g Y)
theorem FR.eval(h:FR P r bz f f')(g:GI r)(x:Operand)(Y:jk x):V r (f.eval x) (f'.eval x):=by
 cases x with
 |tmp t=>exact h.tmps.getD t
 |const v=>exact Y r
 |global i=>exact .ptr ⟨g i Y,rfl,rfl⟩
 |func f=>exact .func (.func Y) rfl (fun i x x' e=>by simp) rfl (fun i x x' e=>by simp)
theorem YM{ops:Array _}{c c':Array _}(h:VA r c c'):bC ops c'=bC ops c:=by
 funext j;unfold bC;cases hd:(ops[j]?).bind _ with
 |none=>rfl
 |some d=>
  simp;cases Y:c[d]? with
  |none=>rw[h.none Y]
  |some x=>
   obtain⟨x',e,H⟩:=h.get Y;rw[e];cases H with
   |blank K=>cases x'<;>first|rfl|(simp[Hid]at K)
   |_=>rfl
theorem FR.finish(h:FR P r bz f f'){v v':ai}(G:V r v v'):FR P r bz (f.finish v) (f'.finish v'):=by
 obtain⟨fn,tmps,todo,defers,mode,kind,ro⟩:=f;obtain⟨iO,L,B,C,J,F,S⟩:=f';obtain⟨K,Y,M,H,D,R,I,A,U⟩:=h;simp only at K Y M H D R I A U;unfold Frame.finish;cases M with
 |nil=>exact⟨K,Y,.nil,H,D,R,I,A,U⟩
 |rest a b c d=>
  cases B with
  |nil=>exact⟨K,Y,.rest a b c d,H,D,R,I,A,U⟩
  |cons x q=>cases x<;>first|exact⟨K,Y,.rest a b c d,H,D,R,I,A,U⟩|(simp[Av]at d)
 |cons O hk=>
  cases O with
  |code c=>exact⟨K,Y,.cons (.code c) hk,H,D,R,I,A,U⟩
  |inBlock i=>exact⟨K,Y,.cons (.inBlock i) hk,H,D,R,I,A,U⟩
  |inLoop c=>exact⟨K,Y,.cons (.inLoop c) hk,H,D,R,I,A,U⟩
  |inScope c=>exact⟨K,Y,.cons (.inScope c) hk,H,D,R,I,A,U⟩
  |inRegion l N=>
   cases l with
   |nil=>exact⟨K,Y,.cons (.inRegion [] N) hk,H,D,R,I,A,U⟩
   |cons i rest=>
    refine⟨K,?_,.cons (.inRegion rest fun j Q=>N j (by simp[Q])) hk,H,D,R,I,A,U⟩;simp only;split
    ·exact Y.set _ G
    ·exact Y
  |inRangeFunc e=>exact⟨K,Y,.cons (.endRangeFunc e) hk,H,D,R,I,A,U⟩
  |endRangeFunc e=>exact⟨K,Y,.cons (.endRangeFunc e) hk,H,D,R,I,A,U⟩
  |beginRound=>exact⟨K,Y,hk,H,D,R,I,A,U⟩
theorem FR.raise(h:FR P r bz f f'){x y:List _}(H:oq r x y):FR P r bz (f.raise x) (f'.raise y):=by
 have D:=h.mode;unfold br;cases Y:f.mode<;>cases K:f'.mode<;>rw[Y,K]at D<;>cases D
 ·exact⟨h.fn,h.tmps,h.todo,h.defers,.panicking H,h.kind,h.kinds,h.round,h.has⟩
 ·exact⟨h.fn,h.tmps,h.todo,h.defers,.panicking H,h.kind,h.kinds,h.round,h.has⟩
 ·rename_i R;exact⟨h.fn,h.tmps,h.todo,h.defers,.panicking (H.append R),h.kind,h.kinds,h.round,h.has⟩
theorem FR.enter(F:k_ P){f:ar}(R:gq.il f){a a':Array _}(H:VA r a a'){k:cz}(hk:k=.normal\/k=.deferred):FR P r bz (Frame.enter P f a k) (Frame.enter P f a' k):=by
 obtain⟨fn,Y⟩:=F.il f R;unfold Frame.enter;refine⟨rfl,?_,.cons (.code ?_) .nil,.nil,.run,rfl,hk,.none,fun _=>⟨fn,Y.has⟩⟩
 ·simp[<-H.size];exact H.append (.rep _ (.tuple rfl (fun i x x' e=>by simp)))
 ·simp[Y.has,Option.bind_some];cases K:fn.body with
  |none=>exact(by simp:("unsupported: a function without a Go body is entered")≠ "")
  |some c=>exact F.body f fn c R Y.has K
theorem FR.roundOf(F:k_ P){l l':Nat}(R:r l=some l')(f:ar){t t':Array _}(A:VA r t t'){ap6 bd:Code}(Y:gq.code ap6)(H:gq.code bd){k:cz}(hk:k=.normal\/k=.deferred):FR P r bz (Frame.round l f t ap6 bd k) (Frame.round l' f t' ap6 bd k):=
 ⟨rfl,A,.cons (.code (F.code ap6 Y)) (.cons .beginRound (.cons (.code (F.code bd H)) .nil)),.nil,.run,rfl,hk,.some R,fun h=>by cases h⟩
theorem IL.exitTo(i:Nat){k:List Item}(h:IL P r rd bz k k'):(exitTo i k=none/\(rd=false\/exitTo i k'=none))\/∃m m',exitTo i k=some m/\exitTo i k'=some m'/\IL P r rd bz m m':=by
 induction h with
 |nil=>exact .inl ⟨rfl,.inr rfl⟩
 |rest a b c d=>exact .inl ⟨rfl,.inl a⟩
 |cons a b K=>
  cases a with
  |inBlock j=>
   unfold Go.exitTo;by_cases Y:(j==i)=true
   ·rw[if_pos Y,if_pos Y];exact .inr ⟨_,_,rfl,rfl,b⟩
   ·rw[if_neg Y,if_neg Y];exact K
  |_=>exact K
theorem lK.findLabel:∀{c:Code} {l:Nat} {d:Code},lK P rd c->findLabel c l=some d->lK P rd d:=by
 intro c;induction c with
 |seq a b K H=>
  intro l d h e;unfold Go.findLabel at e;cases Y:Go.findLabel a l with
  |some x=>rw[Y]at e;rw[<-Option.some.inj e];exact⟨K h.1 Y,h.2⟩
  |none=>rw[Y]at e;exact H h.2 e
 |label j=>
  intro l d h e;unfold Go.findLabel at e;split at e
  ·rw[<-Option.some.inj e];exact trivial
  ·cases e
 |_=>intro l d h e;simp[Go.findLabel]at e
theorem IL.gotoIn(i:Nat){k:List Item}(h:IL P r rd bz k k'):(gotoIn i k=none/\(rd=false\/gotoIn i k'=none))\/∃m m',gotoIn i k=some m/\gotoIn i k'=some m'/\IL P r rd bz m m':=by
 induction h with
 |nil=>exact .inl ⟨rfl,.inr rfl⟩
 |rest a b c d=>exact .inl ⟨rfl,.inl a⟩
 |cons a b K=>
  cases a with
  |inScope Y=>
   rename_i c;unfold Go.gotoIn;cases H:Go.findLabel c i with
   |some d=>exact .inr ⟨_,_,rfl,rfl,.cons (.code (Y.findLabel H)) (.cons (.inScope Y) b)⟩
   |none=>exact K
  |_=>exact K
theorem Qi{H:Type}(g Y:H->Sem _):∀(l:List H) r,(∀b s,Le r s->SR P V s (g b) (Y b))->SR P VL r (l.mapM g) (l.mapM Y)
 |[],r,h=>by exact .pure .nil
 |b::l,r,h=>by
  rw[dp,dp];refine SR.bind (h b r (.refl _)) ?_;intro t x x' l1 D;refine SR.bind (Qi g Y l t fun b s l2=>h b s (l1.trans l2)) ?_;intro u xs R l2 K;exact .pure (.cons (D.mono l2) K)
theorem Nw{fn:Func}{c c':Array _}(h:VA r c c'):SR P V r (bQ fn c) (bQ fn c'):=by
 unfold bQ;rw[cT,cT];refine SR.bind (SR.bind (Qi _ _ _ r ?_) fun _ _ _ _ e=>.pure e.toArray) ?_
 ·intro D s l;cases D with
  |tmp t=>exact .pure ((h.getD t).mono l)
  |cell a t=>exact SR.bind (N8 ((h.getD a).mono l)) fun _ _ _ _ e=>Nr t e
 ·intro t x y l Y;by_cases H:x.size=1
  ·have K:y.size=1:=by rw[<-Y.size];exact H
   exact .pure (Y.at_ 0 _ _ (by simp[H]) (by simp_all))
  ·have K:¬y.size=1:=by rw[<-Y.size];exact H
   rw[dif_neg H,dif_neg K];exact .pure (.tuple Y.size Y.at_)
end
section
variable[gq]{P:aj}{r:Rn}{c:Nat}{cs gL:List ae}{v w:af}
def qO:aY->af
 |.go _ w _|.comm _ _ _ _ w _|.spawn _ _ w _|.count _ w _|.timer _ _ w _|.alone _ _ w _|.newcoro _ _ _ w _|.coroswitch _ _ _ w _|.collect _ w _|.watch _ w _|.ended _ w _=>w
inductive ST(P:aj)(r:Rn)(c:Nat)(cs gL:List ae)(v w:af):aY->aY->Prop
 |go {n:Nat} {f f':ae} {l l':List ae} {v1 w1:af} {es iD:Array aO} (r1:Rn) (c1:Nat):FR P r1 (n==0) f f'->SL P r1 cs gL n l l'->(n=0->f.roundOf=none/\f.kind=.normal)->Out r r1 c c1 v w v1 w1->(∀e∈iD,lN r w w1.heap.size e)->
   ST P r c cs gL v w (.go (G f l) v1 es) (.go (G f' l') w1 iD)
 |ended {o:Outcome} {v1:af} {es:Array aO} {x:aY}:ST P r c cs gL v w (.ended o v1 es) x
 |lq {s x:aY}:v.drawn+c<(qO s).drawn->w.drawn+c<(qO x).drawn->ST P r c cs gL v w s x
omit [gq]in
theorem qZ(es:Array _)(s:aY):qO (aP es s)=qO s:=by cases s<;>rfl
omit [gq]in
theorem CA{α:Type}{s:Sem α}{a:α}{u:af}(h:s.run P u=.ok a u1):u.drawn<=u1.drawn:=by
 have:=Ch (P:=P) s u;rw[h]at this;exact this
omit [gq]in
theorem Gj{α:Type}{s:Sem α}{a:Halt}{u:af}(h:s.run P u=.halt a u1):u.drawn<=u1.drawn:=by
 have:=Ch (P:=P) s u;rw[h]at this;exact this
omit [gq]in
theorem Xy(fr:ae)(l:List ae)(d:Option Dying)(g:Nat)(u:af):u.drawn<=(qO (early P fr l d g u)).drawn:=by
 unfold early;dsimp only
 repeat' split
 all_goals first|exact ao _|skip
 ·rename_i e _ _ _ _;exact aQ (CA e) (ao _)
 ·rename_i e _ _;exact CA e
 ·rename_i e;exact CA e
 ·rename_i e;exact Gj e
omit [gq]in
theorem F4(f:ae)(l:List ae)(d:Option Dying)(m:String)(u:af):u.drawn<=(qO (endFatal P f l d m u)).drawn:=by
 unfold endFatal dieOf;dsimp only;split
 ·rename_i e;exact CA e
 ·rename_i e;exact Gj e
 ·first|exact Gj ‹_›
omit [gq]in
theorem MV{s:Sem Next}{d:Option Dying}(u:af):(s.run P u).world.drawn<=(qO (stepG.apply P true f l d s u)).drawn:=by
 unfold stepG.apply;simp only[if_true,qZ];have Y:(s.runT P u #[]).1=s.run P u:=by simp
 generalize s.runT P u #[]=sv at Y;obtain⟨D,H⟩:=sv;subst Y;cases s.run P u with
 |ok a v=>
  cases a<;>(try simp only)<;>first
   |exact ao _
   |(repeat' split)<;>exact ao _
 |halt a v=>
  cases a<;>(try simp only)<;>first
   |exact ao _
   |exact F4 _ _ _ _ _
   |(rename_i K;cases K<;>first|exact ao _|exact Xy _ _ _ _ _)
theorem lh{u:Nat}:∀e∈(#[]),lN r w u e:=by simp
theorem Pe(f:Bool×Array _->aO->Bool×Array _)(Y:∀x a,e∈(f x a).2->e∈x.2\/e=a):∀(l:List _) x,e∈(l.foldl f x).2->e∈x.2\/e∈l
 |[],x,h=>.inl h
 |a::l,x,h=>by
  rcases Pe f Y l _ h with y|y
  ·exact(Y x a y).imp id fun z=>by simp_all
  ·simp_all
theorem mem_seen(fn:ar)(es:Array _):∀e∈seen P fn es,e∈es:=by
 intro e Y;dsimp only[seen]at Y;rw[<-Array.foldl_toList]at Y;refine(Pe _ ?_ _ _ Y).elim (fun x=>by simp at x) (fun x=>Array.mem_toList_iff.1 x);rintro⟨q,kept⟩ a h;split at h
 ·simp_all
 ·split at h
  ·simp_all
  ·simp_all
theorem ST.after{r1:Rn}{c1:Nat}{w1:af}{s s':aY}(o:Out r r1 c c1 v w v1 w1)(h:ST P r1 c1 cs gL v1 w1 s s')(es iD:Array _)(Y:∀e∈iD,lN r w w1.heap.size e):ST P r c cs gL v w (aP es s) (aP iD s'):=by
 cases h with
 |go r2 c2 a b d o2 e=>exact .go r2 c2 a b d (o.trans o2) fun x K=>(cU.1 K).elim (fun y=>(Y x y).mono o2.grow) (fun y=>(e x y).back o o2.grow)
 |ended=>exact .ended
 |lq h k=>exact .lq (by rw[qZ];have:=o.drew;omega) (by rw[qZ];have:=o.yH;omega)
theorem abN(h:FR P r bz f f'):
  FR P r bz (match f.mode with|.panicking ({recovered:=true,..}::Y)=>(match Y.dropWhile (!·.goexit)with|[]=>{f with mode:=.returning}|rest=>{f with mode:=.panicking rest})|_=>f)
   (match f'.mode with|.panicking ({recovered:=true,..}::Y)=>(match Y.dropWhile (!·.goexit)with|[]=>{f' with mode:=.returning}|rest=>{f' with mode:=.panicking rest})|_=>f'):=by
 have K:=h.mode;generalize f.mode=m at K;generalize f'.mode=m' at K;cases K with
 |run=>exact h
 |returning=>exact h
 |panicking H=>
  cases H with
  |nil=>exact h
  |cons a b=>
   rename_i x y k k';obtain⟨A,I,xg⟩:=x;obtain⟨B,D,U⟩:=y;obtain⟨a1,a2,a3⟩:=a;subst a2;cases D with
   |false=>exact h
   |true=>
    have dw:oq r (k.dropWhile (!·.goexit)) (k'.dropWhile (!·.goexit)):=by
     induction b with
     |nil=>exact .nil
     |cons p q R=>
      simp[List.dropWhile_cons,p.goexit];split
      ·omega
      ·exact .cons p q
    simp only;generalize k.dropWhile _=z at dw;generalize k'.dropWhile _=C at dw;cases dw with
    |nil=>exact⟨h.fn,h.tmps,h.todo,h.defers,.returning,h.kind,h.kinds,h.round,h.has⟩
    |cons p q=>exact⟨h.fn,h.tmps,h.todo,h.defers,.panicking (.cons p q),h.kind,h.kinds,h.round,h.has⟩
theorem V8{n:Nat}{l l':List _}(H:FR P r (n==0) f f')(R:n=0->f.roundOf=none/\f.kind=.normal)(F:SL P r cs gL n l l'):
  (bR f l=none/\bR f' l'=none)\/∃x x' m m',bR f l=some (x,m)/\bR f' l'=some (x',m')/\V r x x'/\SL P r cs gL n m m':=by
 have hk:=H.kind;unfold bR;rw[hk];rcases H.kinds with h|h
 ·simp_all
 ·rw[h];cases F with
  |base=>exact absurd ((R rfl).2.symm.trans h) (by simp)
  |cons a b d=>
   rename_i k g D l l';simp only;have Y:=a.mode;generalize I:g.mode=m at Y;generalize K:D.mode=m' at Y;cases Y with
   |run=>exact .inl ⟨rfl,rfl⟩
   |returning=>exact .inl ⟨rfl,rfl⟩
   |panicking A=>
    cases A with
    |nil=>exact .inl ⟨rfl,rfl⟩
    |cons p q=>
     rename_i x y k k';obtain⟨J,C,xg⟩:=x;obtain⟨L,B,U⟩:=y;obtain⟨a1,a2,a3⟩:=p;subst a2;subst a3;cases B<;>cases U<;>first
      |exact .inl ⟨rfl,rfl⟩
      |exact .inr ⟨_,_,_,_,rfl,rfl,a1,.cons ⟨a.fn,a.tmps,a.todo,a.defers,.panicking (.cons ⟨a1,rfl,rfl⟩ q),a.kind,a.kinds,a.round,a.has⟩ b d⟩
theorem GB{n:Nat}{l l':List _}(H:FR P r bz f f')(R:SL P r cs gL (n+1) l l')(hw:W r c v w){x x':ai}(A:V r x x')(main Y:Bool):ST P r c cs gL v w (aV P main f l none x v) (aV P Y f' l' none x' w):=by
 cases R with
 |cons a b d=>
  unfold aV;rw[H.kind];rcases H.kinds with h|h
  ·rw[h];refine .go r c (a.finish A) d ?_ (.refl hw) lh;intro K;have:=b K;unfold Frame.finish;split<;>exact this
  ·rw[h];have bd:=abN a;refine .go r c bd d ?_ (.refl hw) lh;intro K;have:=b K;split
   ·split<;>exact this
   ·omega
theorem abO{n:Nat}(H:n=0->f.roundOf=none/\f.kind=.normal)(Y:List _)(x:ai):n=0->(Frame.finish {f with defers:=Y} x).roundOf=none/\(Frame.finish {f with defers:=Y} x).kind=.normal:=fun K=>by
 have:=H K;unfold Frame.finish;split<;>exact this
theorem adC{a b:Option Nat}(h:LO r a b)(e:a=none):b=none:=by
 cases h with
 |none=>rfl
 |some _=>cases e
theorem G4(F:k_ P){n:Nat}{s s':Sem Next}(h:SR P (NX (f.roundOf.isNone)) r s s')(M:FR P r (n==0) f f')(A:n=0->f.roundOf=none/\f.kind=.normal)(p:SL P r cs gL n l l')(hw:W r c v w):
  ST P r c cs gL v w (stepG.apply P true f l none s v) (stepG.apply P true f' l' none s' w):=by
 have U:(f.kind==cW)=false:=by rcases M.kinds with h|h<;>rw[h]<;>rfl
 have B:(f'.kind==cW)=false:=by rw[M.kind];exact U
 have R:∀(x:ai),n=0->(f.finish x).roundOf=none/\(f.finish x).kind=.normal:=fun x N=>by
  have:=A N;unfold Frame.finish;split<;>exact this
 have T:∀(x:List a_),n=0->(f.raise x).roundOf=none/\(f.raise x).kind=.normal:=fun x N=>by
  have:=A N;unfold br;split<;>exact this
 have run:=h.run F.sc #[] hw;by_cases H:v.drawn+c<(s.run P v).world.drawn/\w.drawn+c<(s'.runT P w #[]).1.world.drawn
 ·refine .lq (au H.1 (MV v)) (au ?_ (MV w));have:=H.2;rw[cJ]at this;exact this
 unfold stepG.apply;simp only[if_true,U,B,cx,if_false];have ev:∀{fs:Array aO} {u:Nat},(∀e∈fs,e∈(#[]:Array aO)\/lN r w u e)->∀e∈seen P f'.fn fs,lN r w u e:=fun V e D=>(V e (mem_seen _ _ e D)).elim (fun x=>by simp at x) id;have L:(s.runT P v #[]).1=s.run P v:=by rw[cJ]
 generalize JK:s.runT P v #[]=sv at L;generalize Z:s'.runT P w #[]=sw at run;obtain⟨rv,g⟩:=sv;simp only at L;subst L;simp only;generalize X:s.run P v=rv at run;cases run with
 |lq h k=>rw[X,Z]at H;exact absurd ⟨h,k⟩ H
 |lost h=>
  rename_i x v1 y;rcases h with⟨u,rfl,hu⟩|⟨y,rfl⟩
  ·cases u<;>first|exact .ended|(simp[C1]at hu)
  ·exact .ended
 |halt r1 c1 o V D=>
  cases V with
  |panic E=>exact ST.after o (.go r1 c1 ((M.mono o.le).raise (oq.cons (x:=⟨_,false,false⟩) (y:=⟨_,false,false⟩) ⟨E,rfl,rfl⟩ .nil)) (p.mono o.le) (T _) (.refl o.wl) lh) _ _ (ev D)
 |ok r1 c1 o G D=>
  have Y:=M.mono o.le;have K:=p.mono o.le;cases G with
  |value E=>exact ST.after o (.go r1 c1 (Y.finish E) K (R _) (.refl o.wl) lh) _ _ (ev D)
  |skip=>exact ST.after o (.go r1 c1 (Y.finish (.tuple rfl (fun i x x' e=>by simp at e))) K (R _) (.refl o.wl) lh) _ _ (ev D)
  |enter b O=>
   refine ST.after o ?_ _ _ (ev D);dsimp only;have I:=M.todo;split
   ·rename_i e;rw[e]at I;generalize f'.todo=z at I;cases I with
    |cons a _=>cases a
   ·split
    ·rename_i e;rw[e]at I;generalize f.todo=z at I;cases I with
     |rest _ _ _ d=>simp[Av]at d
     |cons a _=>cases a
    ·exact .go r1 c1 (FR.enter F b O (.inl rfl)) (.cons Y A K) (fun h=>by omega) (.refl o.wl) lh
  |defer hd=>exact ST.after o (.go r1 c1 (FR.finish (f:={f with defers:=_::f.defers}) (f':={f' with defers:=_::f'.defers}) ⟨Y.fn,Y.tmps,Y.todo,.cons hd Y.defers,Y.mode,Y.kind,Y.kinds,Y.round,Y.has⟩ (.tuple rfl (fun i x x' e=>by simp at e))) K (abO A _ _) (.refl o.wl) lh) _ _ (ev D)
  |round t I O Q=>exact ST.after o (.go r1 c1 (FR.roundOf F t _ I O Q (.inl rfl)) (.cons Y A K) (fun h=>by omega) (.refl o.wl) lh) _ _ (ev D)
  |recover S=>
   have C:f.roundOf=none:=by simpa using S
   have J:f'.roundOf=none:=adC M.round C;simp only[C,J];refine ST.after o ?_ _ _ (ev D);rcases V8 Y A K with⟨q,j⟩|⟨x,x',m,m',q,j,G,hm⟩
   ·rw[q,j];exact .go r1 c1 (Y.finish .nilIface) K (R _) (.refl o.wl) lh
   ·rw[q,j];exact .go r1 c1 (Y.finish G) hm (R _) (.refl o.wl) lh
end
section
variable[gq]{P:aj}{r:Rn}{c:Nat}{cs gL:List ae}{v w:af}
theorem yJ{α:Type}{A:Rn->α->α->Prop}(F:k_ P){s s':Sem α}(h:SR P A r s s')(hw:W r c v w){H:Result α}{R:Array _}{Y:Result α×Array _}(M:s.runT P v #[]=(H,R))(N:s'.runT P w #[]=Y):RR A r c #[] v w H Y:=by
 have:=h.run F.sc #[] hw;simp_all
theorem pQ{fs:Array _}{fn:ar}{u:Nat}(H:∀e∈fs,e∈(#[])\/lN r w u e):∀e∈seen P fn fs,lN r w u e:=fun e Y=>(H e (mem_seen _ _ e Y)).elim (fun x=>by simp at x) id
omit [gq]in
theorem BV(main:Bool)(f:ae)(l:List _)(d:Option _)(x:ai)(u:af):u.drawn<=(qO (aV P main f l d x u)).drawn:=by
 unfold aV
 repeat' split
 all_goals exact ao _
theorem CB(F:k_ P){n:Nat}{l l':List _}(p:FR P r bz f f')(hs:SL P r cs gL (n+1) l l')(hw:W r c v w){b b':Nat}(e:r b=some b'){j:Option _}(a:∀c,j=some c->gq.code c)(main H:Bool){A Y:Result _}{G z:Array _}
  (O:(aZ b j).runT P v #[]=(A,G))(V:(aZ b' j).runT P w #[]=(Y,z)){s s':aY}(hk:∀x u,A=.ok x u->s=aP (seen P f.fn G) (aV P main f l none x u))(R:∀x u,Y=.ok x u->s'=aP (seen P f'.fn z) (aV P H f' l' none x u))(M:∀h u,A=.halt h u->∃o es,s=.ended o u es)(N:∀h u,Y=.halt h u->∃o es,s'=.ended o u es):
  ST P r c cs gL v w s s':=by
 have run:=yJ F (Xx e a) hw O V;cases run with
 |lq h k=>
  refine .lq ?_ ?_
  ·cases A with
   |ok x y=>rw[hk x y rfl,qZ];exact au h (BV ..)
   |halt x y=>obtain⟨o,es,e⟩:=M x y rfl;rw[e];exact h
  ·cases Y with
   |ok x y=>rw[R x y rfl,qZ];exact au k (BV ..)
   |halt x y=>obtain⟨o,es,e⟩:=N x y rfl;rw[e];exact k
 |@lost x v1 _ _=>
  obtain⟨o,es,h⟩:=M x v1 rfl;rw[h];exact ST.ended
 |@halt x _ v1 _ _ r1 c1 o I K=>
  obtain⟨o,es,h⟩:=M x v1 rfl;rw[h];exact ST.ended
 |ok r1 c1 o D K=>
  rw[hk _ _ rfl,R _ _ rfl];exact ST.after o ((GB (p.mono o.le) (hs.mono o.le) o.wl D _ _)) _ _ (pQ K)
theorem Ic{p:Prop}[Decidable p]{a b a' b':aY}(h:p->ST P r c cs gL v w a a')(k:¬p->ST P r c cs gL v w b b'):ST P r c cs gL v w (if p then a else b) (if p then a' else b'):=by
 by_cases Y:p
 ·simp_all
 ·simp_all
theorem yw.Jl{o:Oper}(h:yw P true o)(b:Bool):yw P b o:=⟨h.1,fun _=>h.2 rfl⟩
theorem lK.Jl:∀{d:Code},lK P true d->∀b,lK P b d:=by
 intro d;induction d with
 |region i ops R=>exact fun h b=>h.imp id fun h o D=>(h o D).Jl b
 |seq a b Y K=>exact fun h b=>⟨Y h.1 b,K h.2 b⟩
 |cond q a b Y K=>exact fun h b=>⟨h.1,Y h.2.1 b,K h.2.2 b⟩
 |block i d H=>exact fun h b=>H h b
 |loop d H=>exact fun h b=>H h b
 |scope d H=>exact fun h b=>H h b
 |_=>exact fun h _=>h
theorem V1{fn:ar}{tmps:Array _}{ps:Array Tmp}{ap6 bd:Code}{H:Result _}{R:Array _}(h:(bE fn tmps ps ap6 bd o).runT P v #[]=(H,R)):H.world.drawn=v.drawn:=by
 have Y:((bE fn tmps ps ap6 bd o).runT P v #[]).1=(bE fn tmps ps ap6 bd o).run P v:=by simp
 rw[h]at Y;simp only at Y;rw[Y];unfold bE;cases o with
 |none=>simp[Sem.run,Result.world]
 |some q=>
  unfold Instr.getLoop getObj;simp[bind,Sem.bind,Sem.run];cases v.heap[q]? with
  |none=>rfl
  |some K=>cases K<;>rfl
theorem adD(F:k_ P)(gi:GI r){n:Nat}(hf:FR P r (n==0) f f')(O:n=0->f.roundOf=none/\f.kind=.normal)(N:SL P r cs gL n l l')(hw:W r c v w)(main M:Bool)(hm:f.mode=.run)(p:∀i ops dr k,f.todo=.code (.region i ops dr)::k->¬gq.wall ops):
  ST P r c cs gL v w (aL P main true f l none v) (aL P M true f' l' none w):=by
 have JL:=fun x (g:jk x)=>hf.eval gi x g;have B:=hf;obtain⟨fn,tmps,todo,defers,mode,kind,ro⟩:=f;obtain⟨iO,I,ahB,K,U,Y,Q⟩:=f';obtain⟨h1,T,h3,h4,h5,h6,h7,L,h9⟩:=hf;simp only at h1 T h3 h4 h5 h6 h7 L h9 O hm;subst h1 h6;have ajk:∀{r1:Rn} {c1:Nat} {v1 w1:af} {t t':List Item},Out r r1 c c1 v w v1 w1->IL P r1 ro.isSome (n==0) t t'->ST P r1 c1 cs gL v1 w1 (.go (G ⟨iO,tmps,t,defers,mode,Y,ro⟩ l) v1) (.go (G ⟨iO,I,t',K,U,Y,Q⟩ l') w1):=
  fun{r1 c1 v1 w1 t t'} o ht=>.go r1 c1 ⟨rfl,T.mono o.le,ht,h4.mono o.le,h5.mono o.le,rfl,h7,L.mono o.le,h9⟩ (N.mono o.le) O (.refl o.wl) lh
 have tog:∀{r1:Rn} {c1:Nat} {v1 w1:af} {t t':List Item},Out r r1 c c1 v w v1 w1->IL P r1 ro.isSome (n==0) t t'->ST P r c cs gL v w (.go (G ⟨iO,tmps,t,defers,mode,Y,ro⟩ l) v1) (.go (G ⟨iO,I,t',K,U,Y,Q⟩ l') w1):=
  fun{r1 c1 v1 w1 t t'} o ht=>.go r1 c1 ⟨rfl,T.mono o.le,ht,h4.mono o.le,h5.mono o.le,rfl,h7,L.mono o.le,h9⟩ (N.mono o.le) O o lh
 have to:∀{t t':List Item},IL P r ro.isSome (n==0) t t'->ST P r c cs gL v w (.go (G ⟨iO,tmps,t,defers,mode,Y,ro⟩ l) v) (.go (G ⟨iO,I,t',K,U,Y,Q⟩ l') w):=
  fun ht=>.go r c ⟨rfl,T,ht,h4,h5,rfl,h7,L,h9⟩ N O (.refl hw) lh
 have hbr:∀(x:List a_),n=0->(br ⟨iO,tmps,todo,defers,mode,Y,ro⟩ x).roundOf=none/\(br ⟨iO,tmps,todo,defers,mode,Y,ro⟩ x).kind=.normal:=fun x h0=>by
  have:=O h0;unfold br;split<;>exact this
 have J:ro=none->ST P r c cs gL v w (.go (G ⟨iO,tmps,todo,defers,.returning,Y,ro⟩ l) v) (.go (G ⟨iO,I,ahB,K,.returning,Y,Q⟩ l') w):=
  fun _=>.go r c ⟨rfl,T,h3,h4,.returning,rfl,h7,L,h9⟩ N O (.refl hw) lh
 have pos:∀q,ro=some q->∃m,n=m+1:=fun q e=>by
  cases n with
  |zero=>have:=(O rfl).1;rw[e]at this;cases this
  |succ m=>exact⟨m,rfl⟩
 cases h3 with
 |rest a b c d=>exact ST.ended
 |nil=>
  unfold aL;dsimp only;cases L with
  |none=>exact J rfl
  |some e=>
   obtain⟨m,rfl⟩:=pos _ rfl;dsimp only;generalize H:ay P (aZ _ _) v #[]=sv;generalize D:ay P (aZ _ _) w #[]=S;obtain⟨X,e0⟩:=sv;obtain⟨C,Z⟩:=S;dsimp only;refine CB F B N hw e ?_ main M H D ?_ ?_ ?_ ?_
   ·exact fun _ x=>by cases x
   ·intro x u e;subst e;rfl
   ·intro x u e;subst e;rfl
   ·intro x u e;subst e;exact⟨_,_,rfl⟩
   ·intro x u e;subst e;exact⟨_,_,rfl⟩
 |cons hi hk=>
  cases hi with
  |inBlock i=>exact to hk
  |inScope R=>exact to hk
  |inLoop R=>exact to (.cons (.code R) (.cons (.inLoop R) hk))
  |inRangeFunc e=>exact ST.ended
  |endRangeFunc e=>
   unfold aL;dsimp only;generalize H:ay P (db _) v #[]=sv;generalize D:ay P (db _) w #[]=S;obtain⟨X,e0⟩:=sv;obtain⟨C,Z⟩:=S;dsimp only;have run:=yJ F (YI (P:=P) e) hw H D;clear H D;cases run with
   |lq h k=>
    refine .lq ?_ ?_
    ·rw[qZ];cases X with
     |ok x y=>exact h
     |halt x y=>cases x<;>exact h
    ·rw[qZ];cases C with
     |ok x y=>exact k
     |halt x y=>cases x<;>exact k
   |@lost x v1 _ hl=>
    rcases hl with⟨u,rfl,_⟩|⟨y,rfl⟩<;>exact ST.ended
   |halt r1 c1 o hh V=>
    cases hh with
    |panic hv=>exact ST.after o (.go r1 c1 ((B.mono o.le).raise (oq.cons (x:=⟨_,false,false⟩) (y:=⟨_,false,false⟩) ⟨hv,rfl,rfl⟩ .nil)) (N.mono o.le) (hbr _) (.refl o.wl) lh) _ _ (pQ V)
   |@ok jump _ _ _ _ r1 c1 o g V=>
    obtain⟨E,R⟩:=g;subst E;refine ST.after o (ajk o ?_) _ _ (pQ V);cases jump with
    |none=>exact hk.mono o.le
    |some d=>exact .cons (.code ((F.code d (R d rfl)).Jl _)) (hk.mono o.le)
  |beginRound=>
   unfold aL;dsimp only;refine G4 F ?_ B O N hw;cases L with
   |none=>exact SR.bind (A:=fun _ _ _=>False) (gy _) fun _ _ _ _ h=>h.elim
   |some e=>exact Jk (Ww e)
  |@inRegion ops is ho=>
   cases is with
   |nil=>exact to hk
   |cons i rest=>
    unfold aL;dsimp only;rw[YM T];refine Ic (fun _=>?_) (fun _=>?_)
    ·unfold stepG.oper;simp only[Frame.oper?];cases hi:ops[i]? with
     |none=>exact ST.ended
     |some o=>
      have z:=ho i (by simp) o hi;have nr:∀c,o.op=.call c->c.callee=.builtin .recover->ro.isNone=true:=fun c Z E=>by
       cases ro with
       |none=>rfl
       |some q=>exact absurd E ((z.2 rfl).2 c Z)
      have key:=G4 F (Od F.toFit (bb:=ro.isNone) JL (fun _=>⟨rfl,rfl⟩) o z.1 nr) B O N hw;cases L with
      |none=>exact key
      |some e=>
       have nd:=(z.2 rfl).1;dsimp only;split
       ·rename_i E;exact absurd E (nd _)
       ·split
        ·rename_i E;exact absurd E (nd _)
        ·exact key
    ·exact .go r c (B.finish (.tuple rfl (fun i x x' e=>by simp at e))) N (fun h0=>by have:=O h0;unfold Frame.finish;split<;>exact this) (.refl hw) lh
  |code R=>
   rename_i cd;cases cd with
   |ret=>
    unfold aL;dsimp only;cases L with
    |none=>exact J rfl
    |some e=>
     obtain⟨m,rfl⟩:=pos _ rfl;dsimp only;generalize H:ay P (aZ _ _) v #[]=sv;generalize D:ay P (aZ _ _) w #[]=S;obtain⟨X,e0⟩:=sv;obtain⟨C,Z⟩:=S;dsimp only;refine CB F B N hw e ?_ main M H D ?_ ?_ ?_ ?_
     ·exact fun _ x=>by cases x;exact F.ret
     ·intro x u e;subst e;rfl
     ·intro x u e;subst e;rfl
     ·intro x u e;subst e;exact⟨_,_,rfl⟩
     ·intro x u e;subst e;exact⟨_,_,rfl⟩
   |skip=>exact to hk
   |label i=>exact to hk
   |seq a b=>exact to (.cons (.code R.1) (.cons (.code R.2) hk))
   |cond q a b=>
    unfold aL;dsimp only;have hq:=JL q R.1;generalize bY _ q=x at hq⊢;generalize bY _ q=y at hq⊢;cases hq with
    |bool b=>
     cases b with
     |true=>exact to (.cons (.code R.2.1) hk)
     |false=>exact to (.cons (.code R.2.2) hk)
    |_=>exact ST.ended
   |block i d=>exact to (.cons (.code R) (.cons (.inBlock i) hk))
   |loop d=>exact to (.cons (.code R) (.cons (.inLoop R) hk))
   |scope d=>exact to (.cons (.code R) (.cons (.inScope R) hk))
   |exit i=>
    unfold aL;dsimp only;rcases hk.exitTo i with⟨q1,q2⟩|⟨m,m',q1,q2,hm⟩
    ·rw[q1];cases L with
     |none=>exact ST.ended
     |some e=>
      rw[q2.resolve_left (by simp)];simp only[Option.elim];obtain⟨m,rfl⟩:=pos _ rfl;generalize H:ay P (aZ _ _) v #[]=sv;generalize D:ay P (aZ _ _) w #[]=S;obtain⟨X,e0⟩:=sv;obtain⟨C,Z⟩:=S;dsimp only;refine CB F B N hw e ?_ main M H D ?_ ?_ ?_ ?_
      ·exact fun _ x=>by cases x;exact F.exit i
      ·intro x u e;subst e;rfl
      ·intro x u e;subst e;rfl
      ·intro x u e;subst e;exact⟨_,_,rfl⟩
      ·intro x u e;subst e;exact⟨_,_,rfl⟩
    ·rw[q1,q2];exact to hm
   |goto i=>
    unfold aL;dsimp only;rcases hk.gotoIn i with⟨q1,q2⟩|⟨m,m',q1,q2,hm⟩
    ·rw[q1];cases L with
     |none=>exact ST.ended
     |some e=>
      rw[q2.resolve_left (by simp)];simp only[Option.elim];obtain⟨m,rfl⟩:=pos _ rfl;generalize H:ay P (aZ _ _) v #[]=sv;generalize D:ay P (aZ _ _) w #[]=S;obtain⟨X,e0⟩:=sv;obtain⟨C,Z⟩:=S;dsimp only;refine CB F B N hw e ?_ main M H D ?_ ?_ ?_ ?_
      ·exact fun _ x=>by cases x;exact F.goto i
      ·intro x u e;subst e;rfl
      ·intro x u e;subst e;rfl
      ·intro x u e;subst e;exact⟨_,_,rfl⟩
      ·intro x u e;subst e;exact⟨_,_,rfl⟩
    ·rw[q1,q2];exact to hm
   |refuse y=>exact ST.ended
   |region id ops draw=>
    have R:=R.resolve_left (p _ _ _ _ rfl);unfold aL;dsimp only;refine Ic (fun _=>?_) (fun _=>?_)
    ·exact to (.cons (.inRegion _ fun j _ o e=>R o (bJ e)) hk)
    ·have run:=(qY (P:=P) (r:=r) (.order iO id)).run F.sc #[] hw;rw[cJ]at run;generalize H:Sem.run P (choose _) v=X at run⊢;generalize D:Sem.run P (choose _) w=C at run⊢;cases run with
     |lq h k=>
      refine .lq ?_ ?_
      ·cases X<;>exact h
      ·cases C<;>exact k
     |lost h=>exact ST.ended
     |halt r1 c1 o hh V=>exact ST.ended
     |ok r1 c1 o g V=>
      cases g;exact tog o (.cons (.inRegion _ fun j _ o e=>R o (bJ e)) (hk.mono o.le))
   |rangeFunc q ps ap6 bd=>
    unfold aL;dsimp only;generalize H:ay P (bE _ _ _ _ _ _) v #[]=sv;generalize D:ay P (bE _ _ _ _ _ _) w #[]=S;obtain⟨X,e0⟩:=sv;obtain⟨C,Z⟩:=S;dsimp only;have run:=yJ F (WZ (P:=P) iO T ps R.2.1 R.2.2 L) hw H D;have hdr:=V1 H;clear H D;cases run with
    |lq h k=>omega
    |lost h=>exact ST.ended
    |halt r1 c1 o hh V=>exact ST.ended
    |@ok a a' _ _ _ r1 c1 o g V=>
     obtain⟨b,mk⟩:=a;obtain⟨b',mk'⟩:=a';obtain⟨hl,hd⟩:=g;simp only at hl hd;have TC:FR P r1 (n==0) ⟨iO,tmps,.inRangeFunc b::_,mk++defers,mode,Y,ro⟩ ⟨iO,I,.inRangeFunc b'::_,mk'++K,U,Y,Q⟩:=⟨rfl,T.mono o.le,.cons (.inRangeFunc hl) (hk.mono o.le),hd.SG (h4.mono o.le),h5.mono o.le,rfl,h7,L.mono o.le,h9⟩;refine ST.after o (G4 F ?_ TC O (N.mono o.le) o.wl) _ _ (pQ V);have one:VA r1 #[Value.func (.yield b) #[] #[]] #[Value.func (.yield b') #[] #[]]:=VA.one (.func (.yield hl) rfl (fun i x x' e=>by simp at e) rfl (fun i x x' e=>by simp at e));unfold resolve;exact SR.bind (s:=cX _ _) (s':=cX _ _) (MU (TC.eval (gi.mono o.le) q R.1) (by simpa[bY]using one)) fun t1 d d' l1 hd=>Ck F.il F.D5 hd.1 hd.2
end
section
variable[gq]{P:aj}{r:Rn}{c:Nat}{cs gL:List ae}{v w:af}
theorem Ny{k:List Item}(h:IL P r rd bz f.todo k\/IL P r rd bz k f.todo):f.catches P=false:=by
 unfold Frame.catches;split
 ·rename_i e;rcases h with h|h
  ·rw[e]at h;cases h with|cons a _=>cases a
  ·rw[e]at h;cases h with|rest _ _ _ d=>(simp[Av]at d)|cons a _=>cases a
 ·rfl
theorem L_(F:k_ P){n:Nat}(M:FR P r (n==0) f f')(R:n=0->f.roundOf=none/\f.kind=.normal)(V:SL P r cs gL n l l')(hw:W r c v w){d:bk}(hd:Df r d d')(G:∀b,d.target≠.collected b):
  ST P r c cs gL v w (cL P f l none d v) (cL P f' l' none d' w):=by
 have L:∀(x:List a_),n=0->(f.raise x).roundOf=none/\(f.raise x).kind=.normal:=fun x T=>by
  have:=R T;unfold br;split<;>exact this
 have O:=Ck (P:=P) (bb:=false) F.il F.D5 hd G;have cond:∀{p p':Bool} {a b a' b':aY},p=p'->(∃o u es,a=.ended o u es)->ST P r c cs gL v w b b'->ST P r c cs gL v w (if p=true then a else b) (if p'=true then a' else b'):=by
  rintro p _ a b a' b' rfl ⟨o,u,es,rfl⟩ h;exact Ic (fun _=>ST.ended) (fun _=>h)
 refine cond ?_ ⟨_,_,_,rfl⟩ ?_
 ·have A:=hd.target;have U:=M.mode;generalize d.target=t at A⊢;generalize d'.target=t' at A⊢;generalize f.mode=m at U⊢;generalize f'.mode=m' at U⊢;cases A<;>cases U<;>rfl
 generalize D:ay P (invoke _ _) v #[]=sv;generalize I:ay P (invoke _ _) w #[]=z;obtain⟨j,g⟩:=sv;obtain⟨Q,s⟩:=z;have run:=yJ F O hw D I;clear D I;dsimp only;cases run with
 |lq h k=>
  refine .lq ?_ ?_
  ·rw[qZ];cases j with
   |ok a u=>
    cases a<;>(try simp only)<;>first
     |exact h
     |(rename_i b;cases b<;>exact h)
     |(rename_i b _;cases b<;>exact h)
     |((repeat' split)<;>exact h)
   |halt a u=>
    cases a<;>(try simp only)<;>first
     |exact h
     |exact au h (F4 ..)
  ·rw[qZ];cases Q with
   |ok a u=>
    cases a<;>(try simp only)<;>first
     |exact k
     |(rename_i b;cases b<;>exact k)
     |(rename_i b _;cases b<;>exact k)
     |((repeat' split)<;>exact k)
   |halt a u=>
    cases a<;>(try simp only)<;>first
     |exact k
     |exact au k (F4 ..)
 |@lost x v1 _ N=>
  rcases N with⟨u,rfl,_⟩|⟨y,rfl⟩<;>exact ST.ended
 |halt r1 c1 o Z H=>
  cases Z with
  |panic S=>exact ST.after o (.go r1 c1 ((M.mono o.le).raise (oq.cons (x:=⟨_,false,false⟩) (y:=⟨_,false,false⟩) ⟨S,rfl,rfl⟩ .nil)) (V.mono o.le) (L _) (.refl o.wl) lh) _ _ (pQ H)
 |ok r1 c1 o q H=>
  have Y:=M.mono o.le;have K:=V.mono o.le;cases q with
  |value S=>exact ST.after o (.go r1 c1 Y K R (.refl o.wl) lh) _ _ (pQ H)
  |skip=>exact ST.after o (.go r1 c1 Y K R (.refl o.wl) lh) _ _ (pQ H)
  |defer hd=>exact ST.after o (.go r1 c1 Y K R (.refl o.wl) lh) _ _ (pQ H)
  |enter X B=>exact ST.after o (.go r1 c1 (FR.enter F X B (.inr rfl)) (.cons Y R K) (fun h=>by omega) (.refl o.wl) lh) _ _ (pQ H)
  |round N E B C=>exact ST.after o (.go r1 c1 (FR.roundOf F N _ E B C (.inr rfl)) (.cons Y R K) (fun h=>by omega) (.refl o.wl) lh) _ _ (pQ H)
  |recover J=>cases J
theorem Oe(F:k_ P){n:Nat}(hf:FR P r (n==0) f f')(G:n=0->f.roundOf=none/\f.kind=.normal)(M:SL P r cs gL n l l')(hw:W r c v w)(main H:Bool)(V:n=0->f.defers≠ []):
  ST P r c cs gL v w (bh P main f l none v) (bh P H f' l' none w):=by
 have N:=hf;obtain⟨fn,tmps,todo,defers,mode,kind,ro⟩:=f;obtain⟨iO,D,R,B,K,Y,Q⟩:=f';obtain⟨h1,S,T,h4,X,h6,g,p,s⟩:=hf;subst h1 h6;cases h4 with
 |rest a b=>exact absurd rfl (V (by simpa using a))
 |nil=>
  obtain⟨m,rfl⟩:∃m,n=m+1:=by
   cases n with
   |zero=>exact absurd rfl (V rfl)
   |succ m=>exact⟨m,rfl⟩
  unfold bh;cases X with
  |run=>exact ST.ended
  |panicking hp=>
   simp[Ny (f:=⟨iO,tmps,todo,[],.panicking _,Y,ro⟩) (.inl T),Ny (.inr T)];cases M with
   |cons a b d=>
    exact .go r c (a.raise hp) d (fun h0=>by have:=b h0;unfold br;split<;>exact this) (.refl hw) lh
  |returning=>
   cases hfn:P.funcs[iO]? with
   |none=>exact GB N M hw (S.getD 0) main H
   |some fu=>
    dsimp only;generalize I:ay P _ v #[]=sv;generalize A:ay P _ w #[]=j;obtain⟨q,e0⟩:=sv;obtain⟨U,e1⟩:=j;have run:=yJ F (Nw (P:=P) S) hw I A;cases run with
    |lq h k=>
     refine .lq ?_ ?_
     ·rw[qZ];cases q with
      |ok x y=>exact au h (BV ..)
      |halt x y=>cases x<;>exact h
     ·rw[qZ];cases U with
      |ok x y=>exact au k (BV ..)
      |halt x y=>cases x<;>exact k
    |@lost x v1 _ hl=>
     rcases hl with⟨u,rfl,_⟩|⟨y,rfl⟩<;>exact ST.ended
    |halt r1 c1 o i L=>
     cases i with
     |panic hv=>exact ST.ended
    |ok r1 c1 o E L=>exact ST.after o ((GB (N.mono o.le) (M.mono o.le) o.wl E main H)) _ _ (pQ L)
 |cons hd J=>
  rename_i d d' z C;have O:FR P r (n==0) ⟨iO,tmps,todo,z,mode,Y,ro⟩ ⟨iO,D,R,C,K,Y,Q⟩:=⟨rfl,S,T,J,X,rfl,g,p,s⟩;have ht:=hd.target;obtain⟨t,ap6⟩:=d;obtain⟨t',as'⟩:=d';cases ht with
  |fn a b=>exact L_ F O G M hw hd (fun _ e=>by cases e)
  |nil=>exact L_ F O G M hw hd (fun _ e=>by cases e)
  |collected e=>
   unfold bh;dsimp only;generalize I:ay P _ v #[]=sv;generalize A:ay P _ w #[]=j;obtain⟨q,e0⟩:=sv;obtain⟨U,e1⟩:=j;have run:=yJ F (V0 (P:=P) e) hw I A;cases run with
   |lq h k=>
    refine .lq ?_ ?_
    ·cases q<;>exact h
    ·cases U<;>exact k
   |lost _=>exact ST.ended
   |halt r1 c1 o i L=>exact ST.ended
   |ok r1 c1 o E L=>
    have Z:FR P r1 (n==0) ⟨iO,tmps,todo,_++z,mode,Y,ro⟩ ⟨iO,D,R,_++C,K,Y,Q⟩:=⟨rfl,S.mono o.le,T.mono o.le,E.SG (J.mono o.le),X.mono o.le,rfl,g,p.mono o.le,s⟩;exact ST.after o (.go r1 c1 Z (M.mono o.le) G (.refl o.wl) lh) _ _ (pQ L)
theorem Hx(F:k_ P)(gi:GI r){n:Nat}{l l':List _}(A:FR P r (n==0) f f')(M:n=0->f.roundOf=none/\f.kind=.normal)(N:SL P r cs gL n l l')(hw:W r c v w)(main H:Bool)(R:n=0->f.mode=.run\/f.defers≠ [])(Y:f.mode=.run->∀i ops O k,f.todo=.code (.region i ops O)::k->¬gq.wall ops):
  ST P r c cs gL v w (ah P main (G f l) v) (ah P H (G f' l') w):=by
 have D:=A.mode;unfold ah;simp[G];cases e:f.mode<;>cases e':f'.mode<;>rw[e,e']at D<;>cases D
 ·exact adD F gi A M N hw _ _ e (Y e)
 ·exact Oe F A M N hw _ _ fun K=>(R K).elim (fun x=>by simp_all) id
 ·exact Oe F A M N hw _ _ fun K=>(R K).elim (fun x=>by simp_all) id
end
def xF(u:Nat->Prop)(o o2:Option Obj):Prop:=o2=o\/∃c c2 e fz,(∃i,u i)/\o=some (.cells c e fz)/\o2=some (.cells c2 e fz)/\c2.size=c.size/\(∀i:Nat,¬u i->c2[i]?=c[i]?)/\∀(i:Nat) x,u i->c2[i]?=some x->Hid x=true
theorem xF.trans{u:Nat->Prop}{o o2 o3:Option Obj}(h:xF u o o2)(k:xF u o2 o3):xF u o o3:=by
 rcases k with rfl|⟨c,c2,e,fz,K,H,D,R,I,A⟩
 ·exact h
 ·rcases h with rfl|⟨d,d2,e',B,g1,C,Y,F,J,L⟩
  ·exact .inr ⟨c,c2,e,fz,K,H,D,R,I,A⟩
  ·rw[H]at Y;cases Y;exact .inr ⟨d,c2,e,fz,K,C,D,R.trans F,fun i U=>(I i U).trans (J i U),A⟩
theorem xF.eq{u:Nat->Prop}{o:Option Obj}(h:xF u o o2)(H:∀i,¬u i):o2=o:=by
 rcases h with h|⟨_,_,_,_,⟨i,Y⟩,_⟩
 ·exact h
 ·simp_all
def nB(o' o:Os):=∃d:Nat,o'={o with wall:=o.wall+d,mono:=o.mono+d}
theorem nB.refl(o:Os):nB o o:=⟨0,rfl⟩
theorem nB.of{o' o:Os}(h:o'=o):nB o' o:=by subst h;exact .refl _
theorem nB.trans{o o1 o2:Os}(h:nB o2 o1)(k:nB o1 o):nB o2 o:=by
 obtain⟨d,rfl⟩:=h;obtain⟨e,rfl⟩:=k;exact⟨e+d,by simp[Nat.add_assoc]⟩
theorem nB.env{o' o:Os}(h:nB o' o):o'.env=o.env:=by obtain⟨d,rfl⟩:=h;rfl
structure gI(U:Nat->Nat->Prop)(S:Nat->Prop)(w w2:af):Prop where
 kept:∀a,S a->xF (U a) (w.heap[a]?) (w2.heap[a]?)
 grow:w.heap.size<=w2.heap.size
 env:nB w2.os w.os
theorem gI.refl(U:Nat->Nat->Prop)(S:Nat->Prop)(w:af):gI U S w w:=⟨fun _ _=>.inl rfl,ao _,.refl _⟩
theorem gI.trans{U:Nat->Nat->Prop}{S:Nat->Prop}{w w2 w3:af}(h:gI U S w w2)(k:gI U S w2 w3):gI U S w w3:=⟨fun a Y=>(h.kept a Y).trans (k.kept a Y),aQ h.grow k.grow,k.env.trans h.env⟩
def zd(S X:Nat->Prop)(w:af)(u:Nat)(e:aO):=
 (∃a:Addr,e.loc=.cell a/\e.sync=false/\((S a.block/\(e.write=true->X a.block))\/(w.heap.size<=a.block/\a.block<u)))\/
 (∃a:Nat,e.loc=.obj a/\e.sync=false/\((S a/\(e.write=true->X a))\/(w.heap.size<=a/\a<u)))\/
 (∃m,e.loc=.mark m/\(m=.noRoom\/∃f,m=.extern f))\/e.loc=.output
structure Did(S X:Nat->Prop)(w w1:af)(es:Array aO)(S1 X1:Nat->Prop):Prop where
 kept:∀a,a<w.heap.size->¬X a->w1.heap[a]?=w.heap[a]?
 grow:w.heap.size<=w1.heap.size
 held:∀a,S1 a↔S a\/(w.heap.size<=a/\a<w1.heap.size)
 may:∀a,X1 a↔X a\/(w.heap.size<=a/\a<w1.heap.size)
 ev:∀e∈es,zd S X w w1.heap.size e
 tape:w1.tape=w.tape
 env:nB w1.os w.os
 output:w1.output=w.output
inductive Tr(P:aj)(main:Bool)(U:Nat->Nat->Prop)(Done:(Nat->Prop)->(Nat->Prop)->ae->List ae->af->Prop):(Nat->Prop)->(Nat->Prop)->ae->List ae->af->Prop
 |stop {S X:Nat->Prop} {f:ae} {l:List ae} {w:af}:Done S X f l w->Tr P main U Done S X f l w
 |step {S X:Nat->Prop} {f:ae} {l:List ae} {w:af}:(∀w2,gI U S w w2->∃f1 l1 w1 es S1 X1,ah P main (G f l) w2=.go (G f1 l1) w1 es/\Did S X w2 w1 es S1 X1)->
   (∀w2 f1 l1 w1 es S1 X1,gI U S w w2->ah P main (G f l) w2=.go (G f1 l1) w1 es->Did S X w2 w1 es S1 X1->Tr P main U Done S1 X1 f1 l1 w1)->Tr P main U Done S X f l w
theorem Did.same{w1:af}{es:Array _}{S2 X2:Nat->Prop}(h:Did S X w w1 es S1 X1)(k:Did S X w w1 es S2 X2):S1=S2/\X1=X2:=
 ⟨funext fun a=>propext ((h.held a).trans (k.held a).symm),funext fun a=>propext ((h.may a).trans (k.may a).symm)⟩
inductive VR(P:aj):Nat->ae->List ae->af->ae->List ae->af->Prop
 |zero {f:ae} {l:List ae} {v:af}:VR P 0 f l v f l v
 |succ {k:Nat} {f f1 f2:ae} {l l1 l2:List ae} {v v1 v2:af} {es:Array aO}:VR P k f l v f1 l1 v1->ah P true (G f1 l1) v1=.go (G f2 l2) v2 es->VR P (k+1) f l v f2 l2 v2
theorem VR.runN{l l1:List _}{v:af}(h:VR P k f l v f1 l1 v1):runN P k (lone f l v)=.next (lone f1 l1 v1):=by
 induction h with
 |zero=>rfl
 |succ _ Y K=>
  rw[bB,K];simp[Go.runN];rw[cP,dJ rfl Y];rfl
theorem VR.A_{f2:ae}{l l1 l2:List _}{v v2:af}(h:VR P k f l v f1 l1 v1)(e:Go.runN P k (lone f l v)=.next (lone f2 l2 v2)):f1=f2/\l1=l2/\v1=v2:=by
 rw[h.runN]at e;simp[lone,dC,dt]at e;simp_all
def tp(v:af)(T:Nat->bc->Nat):={v with tape:=T}
section
variable[gq]{P:aj}{U:Nat->Nat->Prop}
def oN(U:Nat->Nat->Prop)(r:Rn):=∀b b' i,r b=some b'->U b' i->gq.ro b/\gq.jy b i
def Rd(r:Rn)(a:Nat):=∃b,r b=some a
def Wr(r:Rn)(a:Nat):=∃b,r b=some a/\¬gq.ro b
theorem W.rely{r:Rn}{c:Nat}{v w w2:af}(h:W r c v w)(A:oN U r)(hr:gI U (Rd r) w w2):W r 0 v w2:=by
 refine⟨fun b b' e=>?_,h.gv,aQ h.gw hr.grow,h.old,fun i q R=>by omega,hr.env.env.trans h.env⟩;obtain⟨o,o',C,F,J⟩:=h.obj b b' e;rcases hr.kept b' ⟨b,e⟩with k|⟨d,d2,t,fz,⟨i,R⟩,B,L,M,N,O⟩
 ·simp_all
 ·have H:=(A b b' i e R).1;rw[F]at B;cases B;cases J with
  |same n _=>exact absurd H n
  |ro t n I D=>
   refine⟨_,_,C,L,.ro t n ⟨I.size.trans M.symm,fun j x x' ex Y=>?_⟩ D⟩;by_cases K:U b' j
   ·have:=D j (A b b' j e K).2;rw[this]at ex;cases ex;exact .blank (O j x' K Y)
   ·rw[N j K]at Y;exact I.at_ j x x' ex Y
theorem W.IV{r:Rn}{v:af}(h:W r 0 v w){c:Nat}(Y:∀i q,i<c->v.tape (v.drawn+i) q=w.tape (w.drawn+i) q):W r c v w:=⟨h.obj,h.gv,h.gw,h.old,Y,h.env⟩
theorem W.tp{r:Rn}{c:Nat}{v:af}(h:W r c v w)(T:Nat->bc->Nat):W r 0 (tp v T) w:=⟨h.obj,h.gv,h.gw,h.old,fun i q Y=>by omega,h.env⟩
theorem Out.did{r r1:Rn}{c c1:Nat}{v w1:af}(o:Out r r1 c c1 v w v1 w1)(h:W r c v w){es:Array _}(F:∀e∈es,lN r w w1.heap.size e):Did (Rd r) (Wr r) w w1 es (Rd r1) (Wr r1):=by
 refine⟨fun a A B=>o.kept a A fun b Y=>bV fun K=>B ⟨b,Y,K⟩,o.grow,fun a=>⟨?_,?_⟩,fun a=>⟨?_,?_⟩,fun e U=>?_,o.tape,.of o.os,o.output⟩
 ·rintro⟨b,Y⟩;rcases o.fresh b a Y with x|x
  ·exact .inl ⟨b,x⟩
  ·exact .inr ⟨x.1,(o.wl.lt Y).2⟩
 ·rintro(⟨b,Y⟩|x)
  ·exact⟨b,o.le _ _ Y⟩
  ·exact o.range a x.1 x.2
 ·rintro⟨b,Y,K⟩;rcases o.fresh b a Y with x|x
  ·exact .inl ⟨b,x,K⟩
  ·exact .inr ⟨x.1,(o.wl.lt Y).2⟩
 ·rintro(⟨b,Y,K⟩|x)
  ·exact⟨b,o.le _ _ Y,K⟩
  ·obtain⟨b,Y⟩:=o.range a x.1 x.2;refine⟨b,Y,fun I=>?_⟩;rcases o.fresh b a Y with y|y
   ·exact absurd (h.lt y).2 (by omega)
   ·exact absurd (h.old b I) (by omega)
 ·have key:∀{a:Nat} {wr:Bool},((∃b,r b=some a/\(wr=true->¬gq.ro b))\/(w.heap.size<=a/\a<w1.heap.size))->(Rd r a/\(wr=true->Wr r a))\/(w.heap.size<=a/\a<w1.heap.size):=by
   rintro a wr (⟨b,Y,K⟩|x)
   ·exact .inl ⟨⟨b,Y⟩,fun hw=>⟨b,Y,K hw⟩⟩
   ·omega
  rcases F e U with⟨a,H,D,R⟩|⟨a,H,D,R⟩|x
  ·exact .inl ⟨a,H,D,key R⟩
  ·exact .inr (.inl ⟨a,H,D,key R⟩)
  ·exact .inr (.inr x)
theorem SL.len{r:Rn}{cs gL:List _}{n:Nat}{l l':List _}(h:SL P r cs gL n l l'):l.length=n+cs.length:=by
 induction h with
 |base=>simp
 |cons _ _ _ Y=>simp;omega
theorem SL.Q6{r:Rn}{cs gL:List _}{n:Nat}{l':List _}(h:SL P r cs gL n cs l'):n=0/\l'=gL:=by
 have:=h.len;obtain rfl:n=0:=by omega
 cases h;simp_all
variable(P)in
def re(U:Nat->Nat->Prop)(r0:Rn)(Stop:ae->List _->af->Prop)(cs gL:List _)(S X:Nat->Prop)(f':ae)(l':List _)(w:af):=
 ∃r n f l v,Le r0 r/\FR P r (n==0) f f'/\SL P r cs gL n l l'/\W r 0 v w/\S=Rd r/\X=Wr r/\Stop f l v/\oN U r/\∀a i,U a i->a<w.heap.size
variable(P)in
structure Node(U:Nat->Nat->Prop)(r0:Rn)(Stop:ae->List ae->af->Prop)(f0:ae)(cs gL:List ae)(v0:af)(k:Nat)(T0:Nat->bc->Nat)(d:Nat)(S X:Nat->Prop)(f':ae)(l':List ae)(w:af):Prop where
 alike:∀T,(∀j,j<d->T j=T0 j)->∃r n f l v,VR P k f0 cs (tp v0 T) f l v/\v.tape=T/\v.drawn=d/\Le r0 r/\FR P r (n==0) f f'/\(n=0->f.roundOf=none/\f.kind=.normal)/\SL P r cs gL n l l'/\W r 0 v w/\S=Rd r/\X=Wr r/\oN U r
 low:∀a i,U a i->a<w.heap.size
 early:∀T,(∀j,j<d->T j=T0 j)->∀i f l v,i<=k->VR P i f0 cs (tp v0 T) f l v->¬Stop f l v
theorem VR.pre{l l1:List _}{v:af}(h:VR P k f l v f1 l1 v1):∀i,i<=k->∃f2 l2 v2,VR P i f l v f2 l2 v2:=by
 induction h with
 |zero=>
  intro i Y;obtain rfl:i=0:=by omega
  exact⟨_,_,_,.zero⟩
 |succ a b K=>
  intro i Y;rcases Nat.eq_or_lt_of_le Y with e|e
  ·rw[e];exact⟨_,_,_,VR.succ a b⟩
  ·exact K i (by omega)
section path
variable{main:Bool}{r0:Rn}{Stop:ae->List ae->af->Prop}{f0:ae}{cs gL:List ae}{v0:af}{k:Nat}{T0:Nat->bc->Nat}{d:Nat}{S X:Nat->Prop}{f':ae}{l':List ae}{w:af}
theorem ZV(C:∀T,∃n f1 l1 v1,runN P n (lone f0 cs (tp v0 T))=.next (lone f1 l1 v1)/\Stop f1 l1 v1){T:Nat->bc->Nat}{l:List _}{v:af}(h:VR P k f0 cs (tp v0 T) f l v)(H:∀i f l v,i<=k->VR P i f0 cs (tp v0 T) f l v->¬Stop f l v){o:Outcome}{es:Array _}:
  ah P true (G f l) v≠.ended o v1 es:=by
 intro D;obtain⟨n,f1,l1,R,Y,gj⟩:=C T;by_cases hk:n<=k
 ·obtain⟨f2,l2,v2,K⟩:=h.pre n hk;obtain⟨rfl,rfl,rfl⟩:=K.A_ Y;exact H n _ _ _ hk K gj
 ·obtain⟨m,rfl⟩:∃m,n=k+(m+1):=⟨n-k-1,by omega⟩;rw[bB,h.runN]at Y;simp[Go.runN]at Y;rw[cQ (by show(ah P _ (G f l) v).bare=_;rw[D];rfl)]at Y;cases Y
theorem Pf(F:k_ P)(gi:GI r0)(C:∀T,∃n f1 l1 v1,runN P n (lone f0 cs (tp v0 T))=.next (lone f1 l1 v1)/\Stop f1 l1 v1)(L:∀T k f v,(∀i f l v,i<=k->VR P i f0 cs (tp v0 T) f l v->¬Stop f l v)->VR P k f0 cs (tp v0 T) f cs v->f.mode≠.run->f.defers=[]->Stop f cs v)(V:∀T k f l v i ops H q,VR P k f0 cs (tp v0 T) f l v->f.mode=.run->f.todo=.code (.region i ops H)::q->gq.wall ops->Stop f l v)
  {T:Nat->bc->Nat}(N:∀i f l v,i<=k->VR P i f0 cs (tp v0 T) f l v->¬Stop f l v){r:Rn}{n:Nat}{l:List _}{v:af}(A:VR P k f0 cs (tp v0 T) f l v)(z:Le r0 r)(p:FR P r (n==0) f f')(s:n=0->f.roundOf=none/\f.kind=.normal)(O:SL P r cs gL n l l')(h:W r 0 v w2)(c:Nat)(ht:∀i q,i<c->v.tape (v.drawn+i) q=w2.tape (w2.drawn+i) q):
  (∃(f1 R:ae) (l1 M:List _) (v1 w1:af) (es iD:Array _) (r1:Rn) (c1 n1:Nat),ah P true (G f l) v=.go (G f1 l1) v1 es/\ah P main (G f' l') w2=.go (G R M) w1 iD/\FR P r1 (n1==0) f1 R/\(n1=0->f1.roundOf=none/\f1.kind=.normal)/\SL P r1 cs gL n1 l1 M/\Out r r1 c c1 v w2 v1 w1/\∀e∈iD,lN r w2 w1.heap.size e)\/
  (v.drawn+c<(qO (ah P true (G f l) v)).drawn/\w2.drawn+c<(qO (ah P main (G f' l') w2)).drawn):=by
 have D:n=0->f.mode=.run\/f.defers≠ []:=by
  intro U;by_cases K:f.mode=.run
  ·exact .inl K
  ·refine .inr fun hd=>?_;subst U;cases O;exact N k f _ v (ao _) A (L T k f v N A K hd)
 have Y:f.mode=.run->∀i ops H q,f.todo=.code (.region i ops H)::q->¬gq.wall ops:=by
  intro K i ops H q e I;exact N k f l v (ao _) A (V T k f l v i ops H q A K e I)
 have st:=Hx F (gi.mono z) p s O (h.IV ht) true main D Y;generalize B:ah P _ _ v=sv at st;generalize hw:ah P _ _ w2=J at st;cases st with
 |ended=>exact absurd B (ZV C A N)
 |lq a b=>exact .inr ⟨a,b⟩
 |go r1 c1 a b d o e=>exact .inl ⟨_,_,_,_,_,_,_,_,r1,c1,_,rfl,rfl,a,d,b,o,e⟩
def glue(T0:Nat->bc->Nat)(d:Nat)(w2:af)(j:Nat)(q:bc):=if j<d then T0 j q else w2.tape (w2.drawn+(j-d)) q
theorem ZW(F:k_ P)(gi:GI r0)(C:∀T,∃n f1 l1 v1,runN P n (lone f0 cs (tp v0 T))=.next (lone f1 l1 v1)/\Stop f1 l1 v1)(L:∀T k f v,(∀i f l v,i<=k->VR P i f0 cs (tp v0 T) f l v->¬Stop f l v)->VR P k f0 cs (tp v0 T) f cs v->f.mode≠.run->f.defers=[]->Stop f cs v)(Wl:∀T k f l v i ops dr q,VR P k f0 cs (tp v0 T) f l v->f.mode=.run->f.todo=.code (.region i ops dr)::q->gq.wall ops->Stop f l v)
  (R:Node P U r0 Stop f0 cs gL v0 k T0 d S X f' l' w)(hT:¬Tr P main U (re P U r0 Stop cs gL) S X f' l' w):
  ∃T1 d1 S1 X1 f1 l1 w1,(∀j,j<d->T1 j=T0 j)/\d<=d1/\Node P U r0 Stop f0 cs gL v0 (k+1) T1 d1 S1 X1 f1 l1 w1/\¬Tr P main U (re P U r0 Stop cs gL) S1 X1 f1 l1 w1:=by
 have V:∀w2:af,∀j,j<d->glue T0 d w2 j=T0 j:=fun w2 j Z=>by funext q;unfold glue;rw[if_pos Z]
 have ex:∀w2,gI U S w w2->∃f1 l1 w1 es S1 X1,ah P main (G f' l') w2=.go (G f1 l1) w1 es/\Did S X w2 w1 es S1 X1/\w2.drawn<=w1.drawn:=by
  intro w2 hr;obtain⟨r,n,f,l,v,I,J,p,A,M,s,N,O,rfl,rfl,Y⟩:=R.alike (glue T0 d w2) (V w2);have K:=O.rely Y hr;have z:∀i q,i<(qO (ah P true (G f l) v)).drawn->v.tape (v.drawn+i) q=w2.tape (w2.drawn+i) q:=fun i q _=>by
   rw[J,p];unfold glue;rw[if_neg (by omega),du]
  rcases Pf (main:=main) F gi C L Wl (R.early _ (V w2)) I A M s N K _ z with⟨f1,h,l1,l1',v1,w1,es,iD,r1,c1,n1,D,c,q1,q2,q3,o,q4⟩|⟨x,_⟩
  ·exact⟨h,l1',w1,iD,_,_,c,o.did (K.IV z) q4,by have:=o.drew;have:=o.yH;have:=o.later;omega⟩
  ·omega
 have off:∃w2 f1 l1 w1 es S1 X1,gI U S w w2/\ah P main (G f' l') w2=.go (G f1 l1) w1 es/\Did S X w2 w1 es S1 X1/\¬Tr P main U (re P U r0 Stop cs gL) S1 X1 f1 l1 w1:=by
  refine bV fun hno=>hT (.step (fun w2 hr=>?_) fun w2 f1 l1 w1 es S1 X1 hr D hd=>?_)
  ·obtain⟨f1,l1,w1,es,S1,X1,D,hd,_⟩:=ex w2 hr;exact⟨f1,l1,w1,es,S1,X1,D,hd⟩
  ·exact bV fun m=>hno ⟨w2,f1,l1,w1,es,S1,X1,hr,D,hd,m⟩
 obtain⟨w2,f1,l1,w1,es,S1,X1,hr,D,hd,m⟩:=off;have E:w2.drawn<=w1.drawn:=by
  obtain⟨g1,m1,u1,t,S2,X2,c,_,E⟩:=ex w2 hr;rw[D]at c;cases c;exact E
 have key:∀T,(∀j,j<d+(w1.drawn-w2.drawn)->T j=glue T0 d w2 j)->∃r n f l v,VR P (k+1) f0 cs (tp v0 T) f l v/\v.tape=T/\v.drawn=d+(w1.drawn-w2.drawn)/\Le r0 r/\FR P r (n==0) f f1/\(n=0->f.roundOf=none/\f.kind=.normal)/\SL P r cs gL n l l1/\W r 0 v w1/\S1=Rd r/\X1=Wr r/\oN U r:=by
  intro T H;have Q:∀j,j<d->T j=T0 j:=fun j Z=>(H j (by omega)).trans (V w2 j Z);obtain⟨r,n,f,l,v,I,J,p,A,M,s,N,O,rfl,rfl,Y⟩:=R.alike T Q;have K:=O.rely Y hr;have z:∀i q,i<w1.drawn-w2.drawn->v.tape (v.drawn+i) q=w2.tape (w2.drawn+i) q:=fun i q hi=>by
   rw[J,p,H (d+i) (by omega)];unfold glue;rw[if_neg (by omega),du]
  rcases Pf (main:=main) F gi C L Wl (R.early T Q) I A M s N K _ z with⟨g1,g1',m1,m1',v1,u1,t,aou,r1,c1,n1,x1,x2,q1,q2,q3,o,q4⟩|⟨_,x⟩
  ·rw[D]at x2;cases x2;have hc:c1=0:=by have:=o.yH;omega
   subst hc;obtain⟨rfl,rfl⟩:=hd.same (o.did (K.IV z) q4);refine⟨r1,n1,g1,m1,v1,.succ I x1,o.IM.trans J,by have:=o.drew;omega,A.trans o.le,q1,q2,q3,o.wl,rfl,rfl,fun b b' i e B=>?_⟩;rcases o.fresh b b' e with y|y
   ·exact Y b b' i y B
   ·have:=R.low b' i B;have:=hr.grow;have:=y.1;omega
  ·rw[D]at x;simp only[qO]at x;omega
 refine⟨glue T0 d w2,d+(w1.drawn-w2.drawn),S1,X1,f1,l1,w1,V w2,by omega,⟨key,fun a i B=>au (R.low a i B) (aQ hr.grow hd.grow),fun T H i f l v hi hv hs=>?_⟩,m⟩;by_cases hik:i<=k
 ·exact R.early T (fun j Z=>(H j (by omega)).trans (V w2 j Z)) i f l v hik hv hs
 ·obtain rfl:i=k+1:=by omega
  obtain⟨r,n,g,l2,u,I,J,p,A,M,s,N,O,rfl,rfl,Y⟩:=key T H;obtain⟨rfl,rfl,rfl⟩:=I.A_ hv.runN;exact m (.stop ⟨r,n,_,_,_,A,M,N,O,rfl,rfl,hs,Y,fun a i B=>au (R.low a i B) (aQ hr.grow hd.grow)⟩)
open Classical in
theorem tree(F:k_ P)(gi:GI r0)(C:∀T,∃n f1 l1 v1,runN P n (lone f0 cs (tp v0 T))=.next (lone f1 l1 v1)/\Stop f1 l1 v1)(L:∀T k f v,(∀i f l v,i<=k->VR P i f0 cs (tp v0 T) f l v->¬Stop f l v)->VR P k f0 cs (tp v0 T) f cs v->f.mode≠.run->f.defers=[]->Stop f cs v)(G:∀T k f l v i ops z q,VR P k f0 cs (tp v0 T) f l v->f.mode=.run->f.todo=.code (.region i ops z)::q->gq.wall ops->Stop f l v)
  (V:FR P r0 true f0 f')(hb:f0.roundOf=none/\f0.kind=.normal)(hw:W r0 0 v0 w)(H:oN U r0)(Y:∀a i,U a i->a<w.heap.size):Tr P main U (re P U r0 Stop cs gL) (Rd r0) (Wr r0) f' gL w:=by
 refine bV fun A=>?_;have root:Node P U r0 Stop f0 cs gL v0 0 v0.tape v0.drawn (Rd r0) (Wr r0) f' gL w:=by
  refine⟨fun T _=>⟨r0,0,f0,cs,tp v0 T,.zero,rfl,rfl,.refl _,V,fun _=>hb,.base,hw.tp T,rfl,rfl,H⟩,Y,fun T _ i f l v hi t O=>A (.stop ⟨r0,0,f0,cs,tp v0 T,.refl _,V,.base,hw.tp T,rfl,rfl,?_,H,Y⟩)⟩;obtain rfl:i=0:=by omega
  cases t;exact O
 let M:={x:Nat×(Nat->bc->Nat)×Nat×(Nat->Prop)×(Nat->Prop)×ae×List ae×af//Node P U r0 Stop f0 cs gL v0 x.1 x.2.1 x.2.2.1 x.2.2.2.1 x.2.2.2.2.1 x.2.2.2.2.2.1 x.2.2.2.2.2.2.1 x.2.2.2.2.2.2.2/\¬Tr P main U (re P U r0 Stop cs gL) x.2.2.2.1 x.2.2.2.2.1 x.2.2.2.2.2.1 x.2.2.2.2.2.2.1 x.2.2.2.2.2.2.2}
 have Z:∀x:M,∃y:M,y.1.1=x.1.1+1/\(∀j,j<x.1.2.2.1->y.1.2.1 j=x.1.2.1 j)/\x.1.2.2.1<=y.1.2.2.1:=by
  rintro⟨⟨k,T0,d,S,X,f',l',w⟩,N,s⟩;obtain⟨E,d1,S1,X1,f1,l1,w1,D,c,g,o⟩:=ZW F gi C L G N s;exact⟨⟨(k+1,E,d1,S1,X1,f1,l1,w1),g,o⟩,rfl,D,c⟩
 let sz:M->M:=fun x=>bj (Z x)
 have B:=fun x=>cA (Z x)
 let p:Nat->M:=fun n=>Nat.rec ⟨(0,v0.tape,v0.drawn,Rd r0,Wr r0,f',gL,w),root,A⟩ (fun _ x=>sz x) n
 have b:∀n,p (n+1)=sz (p n):=fun _=>rfl;have hk:∀n,(p n).1.1=n:=by
  intro n;induction n with
  |zero=>rfl
  |succ n J=>rw[b,(B _).1,J]
 have mono:∀n m,(p n).1.2.2.1<=(p (n+m)).1.2.2.1/\∀j,j<(p n).1.2.2.1->(p (n+m)).1.2.1 j=(p n).1.2.1 j:=by
  intro n m;induction m with
  |zero=>exact⟨ao _,fun _ _=>rfl⟩
  |succ m J=>
   have:=B (p (n+m));exact⟨aQ J.1 this.2.2,fun j I=>(this.2.1 j (au I J.1)).trans (J.2 j I)⟩
 let T:=fun j q=>if h:∃n,j<(p n).1.2.2.1 then(p (bj h)).1.2.1 j q else 0
 have R:∀n j,j<(p n).1.2.2.1->T j=(p n).1.2.1 j:=by
  intro n j I;have h:∃n,j<(p n).1.2.2.1:=⟨n,I⟩;have e:T j=(p (bj h)).1.2.1 j:=by
   funext q;show(if h:∃n,j<(p n).1.2.2.1 then(p (bj h)).1.2.1 j q else 0)=_
   rw[dif_pos h]
  have Q:=cA h;generalize bj h=m at e Q;rw[e];rcases Nat.le_total m n with K|K
  ·obtain⟨a,rfl⟩:=dy K;exact((mono m a).2 j Q).symm
  ·obtain⟨a,rfl⟩:=dy K;exact(mono n a).2 j I
 obtain⟨n,f1,l1,v1,u,O⟩:=C T;obtain⟨N,_⟩:=(p n).2;obtain⟨r,m,f,l,v,D,_⟩:=N.alike T (R n);rw[hk n]at D;obtain⟨rfl,rfl,rfl⟩:=D.A_ u;exact N.early T (R n) n _ _ _ (by simp_all) D O
end path
end
def jm:Frame:={fn:=0,tmps:=#[],todo:=[.code (.refuse "")],defers:=[{target:=.nil,args:=#[]}],mode:=.run,kind:=.normal}
def Jm(t:ae):=(t.mode=.run/\t.todo=[.code (.refuse "")])\/∃ch,t.mode=.panicking ch/\t.defers=[{target:=.nil,args:=#[]}]
theorem YN{t:ae}(h:Jm t)(v:af):∃o v1 es,ah P true (G t []) v=.ended o v1 es:=by
 unfold ah;simp only[G];rcases h with⟨Y,K⟩|⟨ch,Y,hd⟩
 ·simp only[Y];unfold aL;simp_all
 ·unfold bh;simp only[hd];simp only[Y];exact⟨_,_,_,rfl⟩
theorem MW{x:ai}{v:af}:∃t v1 es,aV P true fr [jm] none x v=.go (G t []) v1 es/\Jm t:=by
 unfold aV;dsimp only;split
 ·exact⟨_,_,_,rfl,.inl ⟨rfl,rfl⟩⟩
 ·exact⟨_,_,_,rfl,.inl ⟨rfl,rfl⟩⟩
 ·exact⟨_,_,_,rfl,.inl ⟨rfl,rfl⟩⟩
 ·exact⟨_,_,_,rfl,.inl ⟨rfl,rfl⟩⟩
theorem YO{v:af}(R:fr.mode≠.run)(hd:fr.defers=[]):(∃o v1 es,ah P true (G fr [jm]) v=.ended o v1 es)\/∃t v1 es,ah P true (G fr [jm]) v=.go (G t []) v1 es/\Jm t:=by
 have e:ah P true (G fr [jm]) v=bh P true fr [jm] none v:=by
  unfold ah;simp only[G]
 rw[e];unfold bh;simp only[hd];split
 ·simp
 ·split
  ·simp
  ·rename_i ch _ _;exact .inr ⟨_,_,_,rfl,.inr ⟨ch,rfl,rfl⟩⟩
 ·split
  ·exact .inr MW
  ·generalize ay P _ v #[]=sv;obtain⟨K,H⟩:=sv;cases K with
   |ok x u=>
    obtain⟨t,v1,es,e,Y⟩:=MW (P:=P) (fr:=fr) (x:=x) (v:=u);simp only[e];exact .inr ⟨_,_,_,rfl,Y⟩
   |halt x u=>cases x<;>exact .inl ⟨_,_,_,rfl⟩
section
variable[gq]{P:aj}{main:Bool}{U:Nat->Nat->Prop}{r0:Rn}{v0 w:af}{gL:List ae}
theorem GC{g:ae}{u:af}(m:Nat){g1:ae}(H:g.mode≠.run)(Y:g.defers=[]):runN P (m+1) (lone g [jm] u)≠.next (lone g1 [jm] u1):=by
 intro e;simp[Go.runN]at e;rcases YO H Y with⟨o,u2,es,x⟩|⟨t,u2,es,x,D⟩
 ·rw[cQ (by show(ah P _ (G g _) u).bare=_;rw[x];rfl)]at e;cases e
 ·rw[cP,dJ rfl x]at e;cases m with
  |zero=>
   simp only[Go.runN,solo,lone,dC,dt]at e;have:=e.2.1;simp[G]at this
  |succ m=>
   obtain⟨o,u3,K,y⟩:=YN D u2;simp[Go.runN]at e;rw[<-cP,cQ (by show(ah P _ (G t []) u2).bare=_;rw[y];rfl)]at e;cases e
theorem GD{Stop:ae->af->Prop}(Y:∀f v,Stop f v->f.mode≠.run/\f.defers=[])(C:∀T,∃n f1 v1,runN P n (lone f0 [jm] (tp v0 T))=.next (lone f1 [jm] v1)/\Stop f1 v1)(T:Nat->bc->Nat)(k:Nat)(f:ae)(v:af)(h:VR P k f0 [jm] (tp v0 T) f [jm] v)(A:f.mode≠.run)(hd:f.defers=[]):Stop f v:=by
 obtain⟨n,f1,v1,K,H⟩:=C T;rcases Nat.lt_trichotomy n k with R|heq|D
 ·obtain⟨a,b⟩:=Y _ _ H;obtain⟨m,rfl⟩:∃m,k=n+(m+1):=⟨k-n-1,by omega⟩;have:=h.runN;rw[bB,K]at this;exact absurd this (GC m a b)
 ·subst heq;obtain⟨rfl,_,rfl⟩:=h.A_ K;exact H
 ·obtain⟨m,rfl⟩:∃m,n=k+(m+1):=⟨n-k-1,by omega⟩;rw[bB,h.runN]at K;exact absurd K (GC m A hd)
theorem YP(F:k_ P)(V:∀ops,¬gq.wall ops)(gi:GI r0){f:ar}{args Y:Array _}{R:aX->af->Prop}(z:∀T,Calls P f args (tp v0 T) R)(N:∀u,¬R .outgrown u)(p:gq.il f)(G:VA r0 args Y)(hw:W r0 0 v0 w)(O:oN U r0)(M:∀a i,U a i->a<w.heap.size):
  Tr P main U (re P U r0 (fun fr l v=>l=[jm]/\∃e,R e v/\fr.fn=f/\fr.leaving P v e) [jm] gL) (Rd r0) (Wr r0) (Frame.enter P f Y .normal) gL w:=by
 have C:∀T,∃n f1 v1,runN P n (lone (Frame.enter P f args .normal) [jm] (tp v0 T))=.next (lone f1 [jm] v1)/\∃e,R e v1/\f1.fn=f/\f1.leaving P v1 e:=by
  intro T;obtain⟨e,w',fr,D,I,A,K⟩:=z T _;cases e with
  |outgrown=>exact absurd D (N _)
  |returned x=>obtain⟨n,L⟩:=I;exact⟨n,fr,w',L,_,D,A,K⟩
  |panicked x=>obtain⟨n,L⟩:=I;exact⟨n,fr,w',L,_,D,A,K⟩
 have H:∀(fr:ae) (v:af),(∃e,R e v/\fr.fn=f/\fr.leaving P v e)->fr.mode≠.run/\fr.defers=[]:=by
  rintro fr v ⟨e,D,_,K⟩;cases e with
  |outgrown=>exact absurd D (N _)
  |returned x=>exact⟨(by rw[K.1];simp),K.2.1⟩
  |panicked x=>exact⟨(by rw[K.1];simp),K.2.1⟩
 refine tree F gi (fun T=>?_) (fun T k fr v _ B J Q=>⟨rfl,GD H C T k fr v B J Q⟩) (fun T k f l v i ops S q _ _ _ h=>absurd h (V ops)) (FR.enter F p G (.inl rfl)) ⟨rfl,rfl⟩ hw O M;obtain⟨n,f1,v1,B,J⟩:=C T;exact⟨n,f1,[jm],v1,B,rfl,J⟩
end
end Ren
namespace Ren
open Conc
open ConcN (sumTo upd sumTo_upd upd_ne upd_same)
theorem ofEvents_g{g:Nat}{fn:ar}{es:Array _}{op:aM}(h:op∈aK g fn pos es):op.g=g:=by
 rw[bP]at h;obtain⟨e,Y,rfl⟩:=bT.1 h;rfl
def Eu(a:Nat):Loc->Prop
 |.cell b=>b.block=a
 |.obj b=>b=a
 |_=>False
def iP(Z:Loc->Prop)(a:Nat):=∀l,Eu a l->¬Z l
def pX(Z:Loc->Prop)(B:Nat):=∀l,Z l->l.isMemory=true/\l.low B
theorem pX.mono{B':Nat}(h:pX Z B)(H:B<=B'):pX Z B':=fun l Y=>⟨(h l Y).1,Loc.low_mono H (h l Y).2⟩
theorem pX.off{a:Nat}(h:pX Z B)(R:B<=a):iP Z a:=fun l Y D=>by
 have:=(h l D).2;cases l with
 |cell b=>have K:b.block=a:=Y;have H:b.block<B:=this;omega
 |obj b=>have K:b=a:=Y;have H:b<B:=this;omega
 |_=>exact Y
theorem afW{u:Nat}(R:∀a,S a->iP Z a/\a<w.heap.size)(A:pX Z w.heap.size)(F:w.heap.size<=u)(h:zd S X w u e):EvL Z u e:=by
 obtain⟨loc,wr,U⟩:=e;rcases h with⟨a,rfl,K,I⟩|⟨a,rfl,K,I⟩|⟨m,rfl,K⟩|rfl
 ·subst K;have D:iP Z a.block/\a.block<u:=by
   rcases I with⟨h,_⟩|h
   ·exact⟨(R _ h).1,au (R _ h).2 F⟩
   ·exact⟨A.off h.1,h.2⟩
  refine⟨fun x Y H=>?_,by simp,by simp,?_⟩
  ·simp[az,aD]at Y;subst Y;exact absurd H (D.1 _ rfl)
  ·exact D.2
 ·subst K;have D:iP Z a/\a<u:=by
   rcases I with⟨h,_⟩|h
   ·exact⟨(R _ h).1,au (R _ h).2 F⟩
   ·exact⟨A.off h.1,h.2⟩
  refine⟨fun x Y H=>?_,by simp,by simp,?_⟩
  ·simp[az,aD]at Y;subst Y;exact absurd H (D.1 _ rfl)
  ·simp[az];exact D.2
 ·refine⟨fun x Y H=>?_,?_,?_,?_⟩
  ·rcases K with rfl|⟨f,rfl⟩<;>simp[az,aD]at Y
  ·rcases K with rfl|⟨f,rfl⟩<;>simp
  ·rcases K with rfl|⟨f,rfl⟩<;>simp
  ·rcases K with rfl|⟨f,rfl⟩<;>trivial
 ·refine⟨fun x Y H=>?_,by simp,by simp,trivial⟩;simp[az,aD]at Y;subst Y;have:=(A _ H).1;cases this
section
variable{P:aj}{Z:Loc->Prop}{Done:(Nat->Prop)->(Nat->Prop)->ae->List ae->af->Prop}
theorem C4{t u:ax}(h:∀op∈t,∀a,op.act≠.mark (.release a))(k:∀op∈u,∀a,op.act≠.mark (.release a)):∀op∈t++u,∀a,op.act≠.mark (.release a):=fun op gu=>(cU.1 gu).elim (h op) (k op)
theorem Q7{u g:Nat}{fn:ar}{es:Array _}(h:∀e∈es,zd S X w u e):∀op∈aK g fn pos es,∀a,op.act≠.mark (.release a):=by
 intro op gu a0;rw[bP]at gu;obtain⟨e,H,rfl⟩:=bT.1 gu;obtain⟨loc,wr,R⟩:=e;rcases h _ H with⟨a,Y,K,_⟩|⟨a,Y,K,_⟩|⟨m,Y,h⟩|Y
 ·subst Y K;nofun
 ·subst Y K;have D:az ⟨.obj a,wr,false⟩=.access ⟨.obj a,wr,false⟩:=by cases wr<;>rfl
  simp_all
 ·subst Y;rcases h with rfl|⟨f,rfl⟩<;>nofun
 ·subst Y;nofun
theorem Qj{g:Nat}{fn:ar}{es:Array _}(h:∀e∈es,e.mute=true):∀op∈aK g fn pos es,∀a,op.act≠.mark (.release a):=by
 intro op gu a0 y;rw[bP]at gu;obtain⟨e,Y,rfl⟩:=bT.1 gu;have:=h e Y;obtain⟨loc,wr,K⟩:=e;cases loc<;>simp_all[Event.mute,az]
structure Beside(P:aj)(Z:Loc->Prop)(S:Nat->Prop)(f:ae)(l:List ae)(w:af)(gs:Array ak)(t:ax)(q:Nat->Nat):Prop where
 g0:gs[0]?=some (G f l)
 rT:Leavers P t gs q
 past:Past Z w.heap.size t
 held:∀a,S a->iP Z a/\a<w.heap.size
 nQ:pX Z w.heap.size
 nr:∀op∈t,∀a,op.act≠.mark (.release a)
structure Kept(X X':Nat->Prop)(w w':af):Prop where
 kept:∀a,a<w.heap.size->¬X a->w'.heap[a]?=w.heap[a]?
 grow:w.heap.size<=w'.heap.size
 may:∀a,X' a->X a\/w.heap.size<=a
 tape:w'.tape=w.tape
 env:nB w'.os w.os
 output:w'.output=w.output
theorem Kept.refl(X:Nat->Prop)(w:af):Kept X X w w:=⟨fun _ _ _=>rfl,ao _,fun _ h=>.inl h,rfl,.refl _,rfl⟩
theorem Kept.trans{X X' TE:Nat->Prop}{w w' ze:af}(h:Kept X X' w w')(k:Kept X' TE w' ze):Kept X TE w ze:=by
 refine⟨fun a Y K=>(k.kept a (au Y h.grow) fun x=>?_).trans (h.kept a Y K),aQ h.grow k.grow,fun a Y=>?_,k.tape.trans h.tape,k.env.trans h.env,k.output.trans h.output⟩
 ·rcases h.may a x with y|y
  ·exact K y
  ·omega
 ·rcases k.may a Y with x|x
  ·exact h.may a x
  ·exact .inr (aQ h.grow x)
theorem Did.toKept{w1:af}{es:Array _}(h:Did S X w w1 es S1 X1):Kept X X1 w w1:=⟨h.kept,h.grow,fun a Y=>((h.may a).1 Y).imp id fun x=>x.1,h.tape,h.env,h.output⟩
theorem Kept.at(w:af)(d:Nat):Kept X X w (w.at d):=⟨fun _ _ _=>rfl,ao _,fun _ h=>.inl h,rfl,.refl _,rfl⟩
theorem Ai(U:Nat->Nat->Prop)(S:Nat->Prop)(w:af)(d:Nat):gI U S w (w.at d):=⟨fun _ _=>.inl rfl,ao _,.refl _⟩
theorem Xz{U:Nat->Nat->Prop}(h:Tr P true U Done S X f l w):
  ∀(gs:Array ak) (sl:Option (Nat×Nat)) (t:ax) (q:Nat->Nat),Beside P Z S f l w gs t q->
   ∃(N:Nat) (I:Array ak) (f':ae) (l':List ae) (w':af) (H:Option (Nat×Nat)) (t':ax) (s:Nat->Nat) (S' X':Nat->Prop),
    aN P N (crowd gs w sl) t=(.next (crowd I w' H),t')/\I.size=gs.size/\Done S' X' f' l' w'/\Beside P Z S' f' l' w' I t' s/\Kept X X' w w':=by
 induction h with
 |stop hd=>exact fun gs sl t q K=>⟨0,gs,_,_,_,sl,t,q,_,_,rfl,rfl,hd,K,Kept.refl _ _⟩
 |@step S X f l w ex _ ih=>
  have inner:∀(M:Nat) (gs:Array ak) (w0:af) (sl:Option (Nat×Nat)) (t:ax) (q:Nat->Nat),sumTo gs.size q=M->gI U S w w0->Beside P Z S f l w0 gs t q->
    ∃(N:Nat) (I:Array ak) (f':ae) (l':List ae) (w':af) (H:Option (Nat×Nat)) (t':ax) (s:Nat->Nat) (S' X':Nat->Prop),
     aN P N (crowd gs w0 sl) t=(.next (crowd I w' H),t')/\I.size=gs.size/\Done S' X' f' l' w'/\Beside P Z S' f' l' w' I t' s/\Kept X X' w0 w':=by
   intro M;induction M using Nat.strongRecOn with
   |_ M JM=>
   intro gs w0 sl t q hM hr K;have u:=K.rT;have m:=K.g0;have JN:∀g∈gs,awake g:=by
    intro g v;obtain⟨i,B,rfl⟩:=cV.1 v;rcases dx i with rfl|R
    ·have:gs[0]=G f l:=by simpa[bD B]using m
     rw[this];exact awake_of (.inl rfl)
    ·exact awake_of ((u.old i _ R (bD B)).status.elim .inl fun x=>.inr (.inr x))
   obtain⟨i,g,d,H,B,v,gj⟩:=crowd_pick (P:=P) (w:=w0) (sl:=sl) JN ⟨0,_,m,rfl⟩;rcases dx i with rfl|R
   ·
    obtain rfl:g=G f l:=by rw[m]at B;exact(Option.some.inj B).symm
    have qd:=hr.trans (Ai U S w0 d);obtain⟨f1,l1,w1,es,S1,X1,n,hd⟩:=ex (w0.at d) qd;have D:=dH (P:=P) (sl:=H) (i:=0) B (n);have L:((gs.map (aW P (G f l) (G f1 l1) w1)).setIfInBounds 0 (G f1 l1)).size=gs.size:=by simp
    have J:0<gs.size:=(cS.1 m).1;have Y:=hd.grow;have Q:Beside P Z S1 f1 l1 w1 ((gs.map (aW P (G f l) (G f1 l1) w1)).setIfInBounds 0 (G f1 l1)) (t++aK 0 (G f l).frame.fn (G f l).frame.place es) q:=by
     refine⟨by simp[J],⟨fun j x C p=>?_,fun j C=>?_⟩,?_,fun a ha=>?_,K.nQ.mono Y,C4 K.nr (Q7 hd.ev)⟩
     ·have E:0≠j:=by omega
      rw[bS E,bI]at p;obtain⟨y,hy,rfl⟩:=bM.1 p;have W:=u.old j y C hy;rw[dK W,bK t (by omega) _ (fun op gu=>ofEvents_g gu)];exact W
     ·rw[bK t (g':=0) (by simp at C;omega) _ (fun op gu=>ofEvents_g gu)];exact u.above j (by simpa using C)
     ·exact(K.past.mono Y).own fun e he=>afW (w:=w0.at d) K.held K.nQ Y (hd.ev e he)
     ·rcases(hd.held a).1 ha with x|x
      ·exact⟨(K.held a x).1,au (K.held a x).2 Y⟩
      ·exact⟨K.nQ.off x.1,x.2⟩
    obtain⟨N,I,f',l',w',A,t',s,S',X',c,o,T,O,V⟩:=ih (w0.at d) f1 l1 w1 es S1 X1 qd n hd _ H _ q Q;exact⟨N+1,I,f',l',w',A,t',s,S',X',by simp only[aN,gj,D];exact c,o.trans L,T,O,((Kept.at w0 d).trans hd.toKept).trans V⟩
   ·
    have W:=u.old i g R B;have Ev:(i==0)=false:=by simp;omega
    have J:i<gs.size:=(cS.1 B).1;cases z:q i with
    |zero=>rw[z]at W;rw[W.1]at v;cases v
    |succ k=>
     rw[z]at W;rcases W with⟨hf,_⟩|⟨_,r,es,hm,ajl,zf⟩
     ·rw[hf]at v;cases v
     have D:=dH (P:=P) (sl:=H) (i:=i) B (by rw[Ev];exact ajl (w0.at d));have L:((gs.map (aW P g r (w0.at d))).setIfInBounds i r).size=gs.size:=by simp
     have SH:sumTo gs.size (upd q i k)+(k+1)=sumTo gs.size q+k:=by
      have:=sumTo_upd q k id J;simpa[z]using this
     have Q:Beside P Z S f l (w0.at d) ((gs.map (aW P g r (w0.at d))).setIfInBounds i r) (t++aK i g.frame.fn g.frame.place es) (upd q i k):=by
      refine⟨?_,⟨fun j x C p=>?_,fun j C=>?_⟩,K.past.mute (by omega) hm,K.held,K.nQ,C4 K.nr (Qj hm)⟩
      ·have E:i≠0:=by omega
       rw[bS E,bI,m];simp[woken_run (b:=G f l) rfl]
      ·by_cases F:i=j
       ·subst F;rw[Array.getElem?_setIfInBounds_self_of_lt (by simpa using J)]at p;obtain rfl:=Option.some.inj p;rw[upd_same,Deaf_own];exact zf
       ·rw[bS F,bI]at p;obtain⟨y,hy,rfl⟩:=bM.1 p;have TF:=u.old j y C hy;rw[dK TF,upd_ne q k (Ne.symm F),bK t F _ (fun op gu=>ofEvents_g gu)];exact TF
      ·rw[bK t (g':=i) (by simp at C;omega) _ (fun op gu=>ofEvents_g gu)];exact u.above j (by simpa using C)
     obtain⟨N,I,f',l',w',A,t',s,S',X',c,o,T,O,V⟩:=JM (sumTo gs.size (upd q i k)) (by omega) _ (w0.at d) H _ (upd q i k) (by rw[L]) (hr.trans (Ai U S w0 d)) Q;exact⟨N+1,I,f',l',w',A,t',s,S',X',by simp only[aN,gj,D];exact c,o.trans L,T,O,(Kept.at w0 d).trans V⟩
  exact fun gs sl t q K=>inner _ gs w sl t q rfl (gI.refl U S w) K
end
end Ren
namespace Ren
open Conc
section
variable{P:aj}{main:Bool}{U:Nat->Nat->Prop}{D I:(Nat->Prop)->(Nat->Prop)->ae->List ae->af->Prop}
theorem Tr.bind{l:List _}(h:Tr P main U D S X f l w)(k:∀S X f l w,D S X f l w->Tr P main U I S X f l w):Tr P main U I S X f l w:=by
 induction h with
 |stop hd=>exact k _ _ _ _ _ hd
 |step ex _ Y=>exact .step ex fun w2 f1 l1 w1 es S1 X1 hr e hd=>Y w2 f1 l1 w1 es S1 X1 hr e hd
end
section
variable[gq]{P:aj}{main:Bool}{U:Nat->Nat->Prop}{r0:Rn}{v0 w:af}
def SI(U:Nat->Nat->Prop)(r0:Rn)(R:aX->af->Prop)(c:ae)(cs:List ae)(S X:Nat->Prop)(f':ae)(l':List _)(w:af):=
 l'=cs/\∃r v x x',Le r0 r/\V r x x'/\f'=c.finish x'/\W r 0 v w/\S=Rd r/\X=Wr r/\R (.returned x) v/\oN U r/\∀a i,U a i->a<w.heap.size
theorem G5(F:k_ P)(p:∀l,¬gq.jd l){f:ar}{R:aX->af->Prop}(M:∀e u,R e u->∃x,e=.returned x){c:ae}
  (h:re P U r0 (fun fr l v=>l=[jm]/\∃e,R e v/\fr.fn=f/\fr.leaving P v e) [jm] (c::cs) S X f' l' w):Tr P main U (SI U r0 R c cs) S X f' l' w:=by
 obtain⟨r,n,fr,l,v,Q,A,Z,hw,rfl,rfl,⟨rfl,e,q,k,hl⟩,H,K⟩:=h;obtain⟨rfl,rfl⟩:=Z.Q6;obtain⟨x,rfl⟩:=M e v q;obtain⟨hm,hd,hk,fn,j,C⟩:=hl;have T:f'.mode=.returning:=by
  have:=A.mode;rw[hm]at this;generalize f'.mode=m at this;cases this;rfl
 have N:f'.defers=[]:=by
  have:=A.defers;rw[hd]at this;generalize f'.defers=m at this;cases this with
  |nil=>rfl
  |rest _ h=>exact absurd h (p _)
 have O:=A.kind.trans hk;have B:P.funcs[f'.fn]?=some fn:=by rw[A.fn];omega
 have one:∀w2,gI U (Rd r) w w2->∃r1 x' w1 es,Le r r1/\V r1 x x'/\W r1 0 v w1/\ah P main (G f' (c::cs)) w2=.go (G (c.finish x') cs) w1 es/\Did (Rd r) (Wr r) w2 w1 es (Rd r1) (Wr r1)/\oN U r1:=by
  intro w2 hr;have J:=hw.rely H hr;have run:=(Nw (fn:=fn) A.tmps).run F.sc #[] J;rw[C]at run;generalize E:ay P _ w2 #[]=sw at run;cases run with
  |lq a b=>simp only[Result.world]at a;omega
  |@ok _ x' _ w1 fs r1 c1 o hx t=>
   have s:c1=0:=by have:=o.drew;omega
   subst s;have I:oN U r1:=by
    intro b b' i e L;rcases o.fresh b b' e with y|y
    ·exact H b b' i y L
    ·have:=K b' i L;have:=hr.grow;omega
   refine⟨r1,x',w1,_,o.le,hx,o.wl,?_,o.did J (pQ (P:=P) (fn:=f'.fn) t),I⟩;unfold ah;simp only[G];unfold bh;simp only[N,T,B,E];unfold aV;simp only[O,aP];simp
 refine .step (fun w2 hr=>?_) fun w2 f1 l1 w1 es S1 X1 hr e Y=>?_
 ·obtain⟨r1,x',w1,es,_,_,_,e,Y,_⟩:=one w2 hr;exact⟨_,_,w1,es,_,_,e,Y⟩
 ·obtain⟨r1,x',w1',iD,z,d,g,e',D,I⟩:=one w2 hr;rw[e]at e';cases e';obtain⟨rfl,rfl⟩:=Y.same D;exact .stop ⟨rfl,r1,v,x,x',Q.trans z,d,rfl,g,rfl,rfl,q,I,fun a i L=>au (K a i L) (aQ hr.grow Y.grow)⟩
theorem ZX(F:k_ P)(O:∀ops,¬gq.wall ops)(N:∀l,¬gq.jd l)(gi:GI r0){f:ar}{args Y:Array _}{R:aX->af->Prop}(G:∀T,Calls P f args (tp v0 T) R)(H:∀e u,R e u->∃x,e=.returned x)(z:gq.il f)(V:VA r0 args Y)(hw:W r0 0 v0 w)(M:oN U r0)(A:∀a i,U a i->a<w.heap.size)(c:ae)(cs:List _):
  Tr P main U (SI U r0 R c cs) (Rd r0) (Wr r0) (Frame.enter P f Y .normal) (c::cs) w:=
 (YP F O gi G (fun u h=>by obtain⟨x,e⟩:=H _ _ h;cases e) z V hw M A).bind fun S X f' l' w' h=>G5 F N H h
end
section
variable[gq]{P:aj}{main:Bool}{U:Nat->Nat->Prop}{r0:Rn}{v0 w:af}
def ts:List Item:=[.code (.refuse "")]
def Pg(b:ae)(R:Act->af->Prop)(f:ae)(l:List _)(v:af):=l=[jm]/\∃a,f=b.at a ts/\R a v
theorem Nz(F:k_ P)(N:∀ops,¬gq.wall ops)(gi:GI r0){c:Code}{b:ae}{a:Act}{R:Act->af->Prop}(V:∀T,Code.wp P c (fun e a' v'=>e=.normal/\R a' v') a (tp v0 T))
  (O:b.kind=.normal)(z:lK P false c){gL:List _}(G:FR P r0 true (b.at a (.code c::ts)) f')(hw:W r0 0 v0 w)(M:oN U r0)(A:∀a i,U a i->a<w.heap.size):
  Tr P main U (re P U r0 (Pg b R) [jm] gL) (Rd r0) (Wr r0) f' gL w:=by
 have C:∀T,∃n a' v1,runN P n (lone (b.at a (.code c::ts)) [jm] (tp v0 T))=.next (lone (b.at a' ts) [jm] v1)/\R a' v1:=by
  intro T;obtain⟨e,a',v1,⟨rfl,K⟩,n,Y⟩:=V T b _ _;exact⟨n,a',v1,Y,K⟩
 refine tree F gi (fun T=>?_) (fun T k f v L D B J=>?_) (fun T k f l v i ops S q _ _ _ h=>absurd h (N ops)) G ⟨rfl,O⟩ hw M A
 ·obtain⟨n,a',v1,Y,K⟩:=C T;exact⟨n,_,_,v1,Y,rfl,a',rfl,K⟩
 ·exfalso;obtain⟨n,a',v1,Y,K⟩:=C T;rcases ck k n with Q|H
  ·obtain⟨m,rfl⟩:∃m,n=k+(m+1):=⟨n-k-1,by omega⟩;rw[bB,D.runN]at Y;exact GC m B J Y
  ·obtain⟨g,l2,u,I⟩:=D.pre n H;obtain⟨rfl,rfl,rfl⟩:=I.A_ Y;exact L n _ _ _ H I ⟨rfl,a',rfl,K⟩
theorem Of{b:ae}{R:Act->af->Prop}(H:∀k,gq.rest k->k=kr)(h:re P U r0 (Pg b R) [jm] gL S X f' l' w):
  l'=gL/\∃r a v,Le r0 r/\W r 0 v w/\S=Rd r/\X=Wr r/\R a v/\oN U r/\(∀a i,U a i->a<w.heap.size)/\VA r a.tmps f'.tmps/\f'.fn=b.fn/\f'.kind=b.kind/\f'.mode=.run/\f'.roundOf=none/\f'.todo=kr/\DB r true a.defers f'.defers:=by
 obtain⟨r,n,f,l,v,I,Y,C,hw,K,D,⟨rfl,a,rfl,A⟩,F,B⟩:=h;obtain⟨rfl,rfl⟩:=C.Q6;refine⟨rfl,r,a,v,I,hw,K,D,A,F,B,Y.tmps,Y.fn,Y.kind,?_,?_,?_,Y.defers⟩
 ·have:=Y.mode;simp only[Frame.at]at this;generalize f'.mode=m at this;cases this;rfl
 ·have:=Y.round;simp only[Frame.at]at this;generalize f'.roundOf=m at this;cases this;rfl
 ·have:=Y.todo;simp only[Frame.at,ts]at this;generalize f'.todo=m at this;cases this with
  |rest _ _ h _=>exact H _ h
  |cons a _=>
   cases a with
   |code h=>exact absurd rfl h
end
def At(P:aj)(Z:Loc->Prop)(f:ae)(l:List _)(w:af)(m:bt)(t:ax):=
 ∃gs sl q,m=crowd gs w sl/\Beside P Z (fun _=>False) f l w gs t q
abbrev QT:=(Loc->Prop)->ae->List ae->af->Prop
def gn(P:aj)(Q:QT)(Z:Loc->Prop)(f:ae)(l:List ae)(w:af):Prop:=
 ∀m t,At P Z f l w m t->∃N m' t' Z' f' l' w',aN P N m t=(.next m',t')/\At P Z' f' l' w' m' t'/\Q Z' f' l' w'
theorem runNT_add(P:aj):∀a b m Y t t1,aN P a m t=(.next Y,t1)->aN P (a+b) m t=aN P b Y t1
 |0,b,m,Y,t,t1,h=>by
  cases h;simp_all
 |a+1,b,m,Y,t,t1,h=>by
  rw[show a+1+b=(a+b)+1 by omega];simp[aN]at h⊢;cases K:stepT P m with
  |mk s ops=>
   rw[K]at h;cases s with
   |next H=>exact runNT_add P a b H Y _ t1 h
   |ended o w=>cases h
section
variable{P:aj}{Q Q1:QT}{Z:Loc->Prop}{f:ae}{l:List ae}{w:af}
theorem gn.done(h:Q Z f l w):gn P Q Z f l w:=fun m t Y=>⟨0,m,t,Z,f,l,w,rfl,Y,h⟩
theorem gn.tree{Done:(Nat->Prop)->(Nat->Prop)->ae->List _->af->Prop}{U:Nat->Nat->Prop}(h:Tr P true U Done S X f l w)(M:∀a,S a->iP Z a/\a<w.heap.size)
  (k:∀S' X' f' l' w',Done S' X' f' l' w'->Kept X X' w w'->gn P Q Z f' l' w'):gn P Q Z f l w:=by
 rintro m t ⟨gs,sl,q,rfl,K⟩;obtain⟨N,I,f',l',w',R,t',O,S',X',hr,T,C,Y,F⟩:=Xz h gs sl t q ⟨K.g0,K.rT,K.past,M,K.nQ,K.nr⟩;obtain⟨A,L,t2,B,f2,l2,w2,J,H,D⟩:=k S' X' f' l' w' C F _ t' ⟨I,R,O,rfl,Y.g0,Y.rT,Y.past,(fun a h=>h.elim),Y.nQ,Y.nr⟩;exact⟨N+A,L,t2,B,f2,l2,w2,by rw[runNT_add P N A _ _ _ _ hr];omega,H,D⟩
end
section
variable[gq]{P:aj}{Q:QT}{Z:Loc->Prop}{w:af}
theorem gn.call(F:k_ P)(N:∀ops,¬gq.wall ops)(M:∀l,¬gq.jd l){r0:Rn}(gi:GI r0){f:ar}{args Y:Array _}{R:aX->af->Prop}(G:∀T,Calls P f args (tp v0 T) R)(H:∀e u,R e u->∃x,e=.returned x)(z:gq.il f)(A:VA r0 args Y)(hw:W r0 0 v0 w){c:ae}{cs:List _}
  (O:∀a,Rd r0 a->iP Z a)
  (k:∀r v x x' w',Le r0 r->V r x x'->W r 0 v w'->R (.returned x) v->Kept (Wr r0) (Wr r) w w'->gn P Q Z (c.finish x') cs w'):gn P Q Z (Frame.enter P f Y .normal) (c::cs) w:=by
 refine gn.tree (U:=fun _ _=>False) (ZX F N M gi G H z A hw (fun _ _ _ _ h=>h.elim) (fun _ _ h=>h.elim) c cs) (fun a A=>⟨O a A,?_⟩) ?_
 ·obtain⟨b,J⟩:=A;exact(hw.lt J).2
 ·rintro S' X' f' l' w' ⟨rfl,r,v,x,x',K,D,rfl,I,rfl,rfl,B,_⟩ C;exact k r v x x' w' K D I B C
end
section
variable[gq]
open Classical in
def mj (K:Nat->Prop):Rn where
 f b:=if K b then some b else none
 inj b b' c h h':=by
  split at h
  ·split at h'
   ·cases h;cases h';rfl
   ·cases h'
  ·cases h
 jc b c h:=by
  split at h
  ·cases h;exact Iff.rfl
  ·cases h
open Classical in
theorem rU{K:Nat->Prop}{b:Nat}(h:K b):mj K b=some b:=by
 show(if K b then some b else none)=_
 simp_all
open Classical in
theorem yi{K:Nat->Prop}{b c:Nat}:mj K b=some c↔K b/\b=c:=by
 show(if K b then some b else none)=some c↔_
 simp_all
theorem yo{K:Nat->Prop}{a:Nat}:Rd (mj K) a↔K a:=⟨(fun⟨b,Y⟩=>by obtain⟨h,rfl⟩:=yi.1 Y;exact h),fun h=>⟨a,rU h⟩⟩
theorem adE{K:Nat->Prop}{a:Nat}:Wr (mj K) a↔K a/\¬gq.ro a:=⟨(fun⟨b,Y,H⟩=>by obtain⟨h,rfl⟩:=yi.1 Y;simp_all),fun h=>⟨a,rU h.1,h.2⟩⟩
theorem Ie(Y:∀b,¬gq.ro b)(R:gq.size<=w.heap.size)(h:∀b,K b->∃o,w.heap[b]?=some o/\O (mj K) o o):W (mj K) 0 w w:=by
 refine⟨fun b b' e=>?_,R,R,fun b I=>absurd I (Y b),fun i q A=>by omega,rfl⟩;obtain⟨hk,rfl⟩:=yi.1 e;obtain⟨o,H,D⟩:=h b hk;exact⟨o,o,H,H,.same (Y b) D⟩
theorem C5{r:Rn}{c:Array _}(e:aA)(fz:Nat×Nat)(h:∀x∈c,V r x x):O r (.cells c e fz) (.cells c e fz):=.cells e fz ⟨rfl,fun i x x' e e'=>by
 obtain rfl:=Option.some.inj (e.symm.trans e');exact h x (bJ e)⟩
end
theorem NA(P:aj):∀n m Y t t1,aN P n m t=(.next Y,t1)->runN P n m=.next Y
 |0,m,Y,t,t1,h=>by
  cases h;rfl
 |n+1,m,Y,t,t1,h=>by
  simp[aN]at h;simp[Go.runN,step];cases K:stepT P m with
  |mk s ops=>
   rw[K]at h;cases s with
   |next H=>exact NA P n H Y _ t1 h
   |ended o w=>cases h
def Ends(P:aj)(Y:ai->af->Prop)(Z:Loc->Prop)(f:ae)(l:List _)(w:af):=∀w1,AtRel w w1->AtEnd P Z w.heap.size Y (G f l) w1
theorem gn.close{Y:ai->af->Prop}{W:af}(h:gn P (Ends P Y) (fun _=>False) f [] W):
  ∃M last o w' t',aN P (M+1) (solo (G f []) W) #[]=(.ended o w',t')/\runN P M (solo (G f []) W)=.next last/\step P last=.ended o w'/\Conc.Good P Y last o w' t':=by
 have B:Past (fun _=>False) W.heap.size #[]:=past_nil.mono (cG _);obtain⟨N,m',t',Z',f',l',w',hr,⟨gs,sl,q,rfl,K⟩,U⟩:=h (solo (G f []) W) #[] ⟨#[G f []],none,fun _=>0,rfl,rfl,leavers_one P _,B,(fun a h=>h.elim),(fun a h=>h.elim),by simp⟩;obtain⟨M,last,o,w2,t2,H,R,I,A⟩:=beside_ends (D:=fun _ _ _=>False) (n:=0) (sl:=sl) (fun _ _ _ h=>h.elim) K.g0 K.rT K.past U;exact⟨N+M,last,o,w2,t2,by rw[show N+M+1=N+(M+1) by omega,runNT_add P N (M+1) _ _ _ _ hr];exact H,by rw[bB,NA P N _ _ _ _ hr];exact R,I,A⟩
theorem Og{b:ae}{a:Act}{c:Code}{fn:Func}{R:aX->af->Prop}(A:P.funcs[b.fn]?=some fn)(hk:b.kind=.normal)(F:∀u,¬R .outgrown u)(h:c.wp P (cu P fn R) a w)(cs:List _):
  ∃n fr w' e,runN P n (lone (b.at a [.code c]) cs w)=.next (lone fr cs w')/\R e w'/\fr.fn=b.fn/\fr.leaving P w' e:=by
 obtain⟨e,a',w',K,Y⟩:=h b [] cs;cases e with
 |normal=>
  obtain⟨hd,v,hr,H⟩:=K;obtain⟨n,D⟩:=Steps.trans Y (.one step_end);exact⟨n,_,w',.returned v,D,H,rfl,rfl,hd,hk,fn,A,hr⟩
 |ret=>
  obtain⟨hd,v,hr,H⟩:=K;obtain⟨todo,n,D⟩:=Y;exact⟨n,_,w',.returned v,D,H,rfl,rfl,hd,hk,fn,A,hr⟩
 |panic chain=>
  obtain⟨hd,H⟩:=K;obtain⟨todo,n,D⟩:=Y;exact⟨n,_,w',.panicked _,D,H,rfl,rfl,hd,fn,A⟩
 |exit id=>exact K.elim
 |goto l=>exact K.elim
 |outgrown=>exact absurd K (F _)
section
variable[gq]{P:aj}{main:Bool}{U:Nat->Nat->Prop}{r0:Rn}{v0 w:af}{gL:List ae}
theorem ZY(F:k_ P)(V:∀ops,¬gq.wall ops)(gi:GI r0){b:ae}{a:Act}{c:Code}{fn:Func}{R:aX->af->Prop}(O:P.funcs[b.fn]?=some fn)(hk:b.kind=.normal)(G:∀T,c.wp P (cu P fn R) a (tp v0 T))(M:∀u,¬R .outgrown u)(z:FR P r0 true (b.at a [.code c]) f')(hw:W r0 0 v0 w)(N:oN U r0)(A:∀a i,U a i->a<w.heap.size):
  Tr P main U (re P U r0 (fun fr l v=>l=[jm]/\∃e,R e v/\fr.fn=b.fn/\fr.leaving P v e) [jm] gL) (Rd r0) (Wr r0) f' gL w:=by
 have C:∀T,∃n f1 v1,runN P n (lone (b.at a [.code c]) [jm] (tp v0 T))=.next (lone f1 [jm] v1)/\∃e,R e v1/\f1.fn=b.fn/\f1.leaving P v1 e:=by
  intro T;obtain⟨n,fr,w',e,J,I,K,H⟩:=Og O hk M (G T) _;exact⟨n,fr,w',J,e,I,K,H⟩
 have Y:∀(fr:ae) (v:af),(∃e,R e v/\fr.fn=b.fn/\fr.leaving P v e)->fr.mode≠.run/\fr.defers=[]:=by
  rintro fr v ⟨e,I,_,D⟩;cases e with
  |outgrown=>exact absurd I (M _)
  |returned x=>exact⟨(by rw[D.1];simp),D.2.1⟩
  |panicked x=>exact⟨(by rw[D.1];simp),D.2.1⟩
 refine tree F gi (fun T=>?_) (fun T k fr v _ K H B=>⟨rfl,GD Y C T k fr v K H B⟩) (fun T k f l v i ops L q _ _ _ h=>absurd h (V ops)) z ⟨rfl,hk⟩ hw N A;obtain⟨n,f1,v1,K,H⟩:=C T;exact⟨n,f1,[jm],v1,K,rfl,H⟩
end
section
variable[gq]{P:aj}{Q:QT}{Z:Loc->Prop}{w:af}
theorem gn.rest(F:k_ P)(N:∀ops,¬gq.wall ops)(M:∀l,¬gq.jd l){r0:Rn}(gi:GI r0){b:ae}{a:Act}{c:Code}{fn:Func}{R:aX->af->Prop}(H:P.funcs[b.fn]?=some fn)(hk:b.kind=.normal)(G:∀T,c.wp P (cu P fn R) a (tp v0 T))(Y:∀e u,R e u->∃x,e=.returned x)(z:FR P r0 true (b.at a [.code c]) f')(hw:W r0 0 v0 w){c0:ae}{cs:List _}
  (O:∀a,Rd r0 a->iP Z a)
  (k:∀r v x x' w',Le r0 r->V r x x'->W r 0 v w'->R (.returned x) v->Kept (Wr r0) (Wr r) w w'->gn P Q Z (c0.finish x') cs w'):gn P Q Z f' (c0::cs) w:=by
 have D:=ZY (main:=true) (U:=fun _ _=>False) (gL:=c0::cs) F N gi H hk G (fun u h=>by obtain⟨x,e⟩:=Y _ _ h;cases e) z hw (fun _ _ _ _ h=>h.elim) (fun _ _ h=>h.elim);refine gn.tree (D.bind fun S X f' l' w' h=>G5 F M Y h) (fun a K=>⟨O a K,?_⟩) ?_
 ·obtain⟨b,L⟩:=K;exact(hw.lt L).2
 ·rintro S' X' f' l' w' ⟨rfl,r,v,x,x',I,A,rfl,B,rfl,rfl,C,_⟩ J;exact k r v x x' w' I A B C J
end
theorem XA{b:ae}{a:Act}{c:Code}{fn:Func}{ops:Array _}{l:List Nat}{R:aX->af->Prop}(A:P.funcs[b.fn]?=some fn)(hk:b.kind=.normal)(H:∀u,¬R .outgrown u)(h:wpOps P ops (fun e a' w'=>e=.normal/\c.wp P (cu P fn R) a' w') l a w)(cs:List _):
  ∃n fr w' e,runN P n (lone (b.at a [.inRegion ops l,.code c]) cs w)=.next (lone fr cs w')/\R e w'/\fr.fn=b.fn/\fr.leaving P w' e:=by
 obtain⟨e,a',w',⟨rfl,K⟩,n1,Y⟩:=wp_ops l a w h b _ cs;obtain⟨n,fr,w2,e,D,r⟩:=Og A hk H K cs;exact⟨n1+n,fr,w2,e,by rw[bB,Y];exact D,r⟩
section
variable[gq]{P:aj}{Q:QT}{Z:Loc->Prop}{w:af}
theorem gn.lone(F:k_ P)(G:∀ops,¬gq.wall ops)(M:∀l,¬gq.jd l){r0:Rn}(gi:GI r0){b:ae}{a:Act}{Ew:List _}{fn:Func}{R:aX->af->Prop}(s:P.funcs[b.fn]?=some fn)(hk:b.kind=.normal)(hc:∀T,∃n fr w' e,runN P n (Go.lone (b.at a Ew) [jm] (tp v0 T))=.next (Go.lone fr [jm] w')/\R e w'/\fr.fn=b.fn/\fr.leaving P w' e)(Y:∀e u,R e u->∃x,e=.returned x)(p:FR P r0 true (b.at a Ew) f')(hw:W r0 0 v0 w){c0:ae}{cs:List _}
  (z:∀a,Rd r0 a->iP Z a)
  (k:∀r v x x' w',Le r0 r->V r x x'->W r 0 v w'->R (.returned x) v->Kept (Wr r0) (Wr r) w w'->gn P Q Z (c0.finish x') cs w'):gn P Q Z f' (c0::cs) w:=by
 have U:∀u,¬R .outgrown u:=fun u h=>by obtain⟨x,e⟩:=Y _ _ h;cases e
 have C:∀T,∃n f1 v1,runN P n (Go.lone (b.at a Ew) [jm] (tp v0 T))=.next (Go.lone f1 [jm] v1)/\∃e,R e v1/\f1.fn=b.fn/\f1.leaving P v1 e:=by simp_all
 have K:∀(fr:ae) (v:af),(∃e,R e v/\fr.fn=b.fn/\fr.leaving P v e)->fr.mode≠.run/\fr.defers=[]:=by
  rintro fr v ⟨e,O,_,I⟩;cases e with
  |outgrown=>exact absurd O (U _)
  |returned x=>exact⟨(by rw[I.1];simp),I.2.1⟩
  |panicked x=>exact⟨(by rw[I.1];simp),I.2.1⟩
 have J:Tr P true (fun _ _=>False) (re P (fun _ _=>False) r0 (fun fr l v=>l=[jm]/\∃e,R e v/\fr.fn=b.fn/\fr.leaving P v e) [jm] (c0::cs)) (Rd r0) (Wr r0) f' (c0::cs) w:=by
  refine Ren.tree F gi (fun T=>?_) (fun T k fr v _ H D A=>⟨rfl,GD K C T k fr v H D A⟩) (fun T k f l v i ops j q _ _ _ h=>absurd h (G ops)) p ⟨rfl,hk⟩ hw (fun _ _ _ _ h=>h.elim) (fun _ _ h=>h.elim);obtain⟨n,f1,v1,H,D⟩:=C T;exact⟨n,f1,[jm],v1,H,rfl,D⟩
 refine gn.tree (J.bind fun S X f' l' w' h=>G5 F M Y h) (fun a B=>⟨z a B,?_⟩) ?_
 ·obtain⟨b,E⟩:=B;exact(hw.lt E).2
 ·rintro S' X' f' l' w' ⟨rfl,r,v,x,x',H,D,rfl,A,rfl,rfl,L,_⟩ N;exact k r v x x' w' H D A L N
end
end Ren
namespace Ph
open Conc Ren
structure jY(U:Nat->Nat->Prop)(S X:Nat->Prop)(w w1:af)(es:Array aO)(S1 X1:Nat->Prop):Prop extends Did S X w w1 es S1 X1 where
 JO:∀e∈es,∀a:Addr,e.loc=.cell a->¬U a.block a.off
inductive Tz(P:aj)(main:Bool)(U:Nat->Nat->Prop)(Done:(Nat->Prop)->(Nat->Prop)->ak->af->Prop):(Nat->Prop)->(Nat->Prop)->ak->af->Prop
 |stop {S X:Nat->Prop} {g:ak} {w:af}:Done S X g w->Tz P main U Done S X g w
 |step {S X:Nat->Prop} {g:ak} {w:af}:g.status=.running->(∀w2,gI U S w w2->∃g1 w1 es S1 X1,ah P main g w2=.go g1 w1 es/\jY U S X w2 w1 es S1 X1)->
   (∀w2 g1 w1 es S1 X1,gI U S w w2->ah P main g w2=.go g1 w1 es->jY U S X w2 w1 es S1 X1->Tz P main U Done S1 X1 g1 w1)->Tz P main U Done S X g w
section
variable{P:aj}{main:Bool}{U:Nat->Nat->Prop}{D I:(Nat->Prop)->(Nat->Prop)->ak->af->Prop}{S X S1 X1 S2 X2:Nat->Prop}{g:ak}{f:ae}{l:List ae}{w w1 w2 w3:af}{es:Array aO}
theorem Tz.bind(h:Tz P main U D S X g w)(k:∀S X g w,D S X g w->Tz P main U I S X g w):Tz P main U I S X g w:=by
 induction h with
 |stop hd=>exact k _ _ _ _ hd
 |step Y ex _ K=>exact .step Y ex fun w2 g1 w1 es S1 X1 hr e hd=>K w2 g1 w1 es S1 X1 hr e hd
theorem Tz.one(A:g.status=.running)(h:∀w2,gI U S w w2->∃g1 w1 es S1 X1,ah P main g w2=.go g1 w1 es/\jY U S X w2 w1 es S1 X1/\Tz P main U D S1 X1 g1 w1):Tz P main U D S X g w:=by
 refine .step A (fun w2 hr=>?_) fun w2 g1 w1 es S1 X1 hr e hd=>?_
 ·obtain⟨g1,w1,es,S1,X1,e,hd,_⟩:=h w2 hr;exact⟨g1,w1,es,S1,X1,e,hd⟩
 ·obtain⟨R,B,iD,K,H,e',Y,I⟩:=h w2 hr;rw[e]at e';cases e';obtain⟨rfl,rfl⟩:=hd.toDid.same Y.toDid;exact I
theorem Pj{u:Nat}(h:zd S X w u e):zd (fun a=>S a\/SF a) (fun a=>X a\/XF a) w u e:=by
 rcases h with⟨a,Y,K,H⟩|⟨a,Y,K,H⟩|h
 ·exact .inl ⟨a,Y,K,H.imp (fun y=>⟨.inl y.1,fun z=>.inl (y.2 z)⟩) id⟩
 ·exact .inr (.inl ⟨a,Y,K,H.imp (fun y=>⟨.inl y.1,fun z=>.inl (y.2 z)⟩) id⟩)
 ·exact .inr (.inr h)
theorem Tz.of{F:(Nat->Prop)->(Nat->Prop)->ae->List ae->af->Prop}(h:Tr P main U F S X f l w)(M:∀a i,U a i->a<w.heap.size/\¬S a)(k:∀S X f l w,F S X f l w->Tz P main U I (fun a=>S a\/SF a) (fun a=>X a\/XF a) (G f l) w):
  Tz P main U I (fun a=>S a\/SF a) (fun a=>X a\/XF a) (G f l) w:=by
 induction h with
 |stop hd=>exact k _ _ _ _ _ hd
 |@step S X f l w ex _ O=>
  have C:∀{w2:af},gI U (fun a=>S a\/SF a) w w2->gI U S w w2:=fun hr=>⟨fun a H=>hr.kept a (.inl H),hr.grow,hr.env⟩;refine Tz.one rfl fun w2 hr=>?_;obtain⟨f1,l1,w1,es,S1,X1,e,hd⟩:=ex w2 (C hr);refine⟨_,w1,es,_,_,e,⟨⟨fun a H N=>hd.kept a H fun y=>N (.inl y),hd.grow,fun a=>?_,fun a=>?_,fun e D=>Pj (hd.ev e D),hd.tape,hd.env,hd.output⟩,fun e D a R A=>?_⟩,O w2 f1 l1 w1 es S1 X1 (C hr) e hd fun a i A=>?_⟩
  ·rw[hd.held];constructor
   ·rintro((y|y)|y)
    ·exact .inl (.inl y)
    ·exact .inr y
    ·exact .inl (.inr y)
   ·rintro((y|y)|y)
    ·exact .inl (.inl y)
    ·exact .inr y
    ·omega
  ·rw[hd.may];constructor
   ·rintro((y|y)|y)
    ·exact .inl (.inl y)
    ·omega
    ·exact .inl (.inr y)
   ·rintro((y|y)|y)
    ·exact .inl (.inl y)
    ·exact .inr y
    ·omega
  ·have K:=M _ _ A;have J:=hr.grow;rcases hd.ev e D with⟨a',Y,_,B⟩|⟨a',Y,_⟩|⟨m,Y,_⟩|Y
   ·rw[R]at Y;cases Y;rcases B with y|y
    ·exact K.2 y.1
    ·omega
   ·simp_all
   ·rw[R]at Y;cases Y
   ·rw[R]at Y;cases Y
  ·have K:=M a i A;have J:=hr.grow;have B:=hd.grow;refine⟨by omega,fun L=>?_⟩;rcases(hd.held a).1 L with y|y
   ·exact K.2 y
   ·omega
theorem iW{U:Nat->Nat->Prop}(S X:Nat->Prop)(w:af):jY U S X w w #[] S X:=
 ⟨⟨fun _ _ _=>rfl,ao _,fun a=>⟨.inl,fun h=>h.resolve_right fun y=>by omega⟩,fun a=>⟨.inl,fun h=>h.resolve_right fun y=>by omega⟩,fun e Y=>by simp_all,rfl,.refl _,rfl⟩,fun e Y=>by simp_all⟩
end
def j7{α:Type}(P:aj):Sem α->Option α
 |.pure a=>some a
 |.program k=>j7 P (k P)
 |_=>none
theorem Hy{α:Type}:∀{s:Sem α} {a:α},j7 P s=some a->∀w es,s.runT P w es=(.ok a w,es)
 |.pure b,a,h,w,es=>by
  simp[j7,bm]at h;simp_all
 |.program k,a,h,w,es=>by
  simp[j7]at h;exact Hy h w es
 |.load _ _ _,a,h,w,es|.store _ _ _ _,a,h,w,es|.new _ _,a,h,w,es|.shape _ _,a,h,w,es|.freeze _ _ _,a,h,w,es|.frozen _ _,a,h,w,es|.getObj _ _,a,h,w,es|.setObj _ _ _,a,h,w,es|.choose _ _,a,h,w,es|.sys _ _,a,h,w,es|.mark _ _,a,h,w,es|.halt _,a,h,w,es=>by simp[j7]at h
theorem n_{α:Type}{s:Sem α}{a:α}(h:j7 P s=some a)(w:af):s.run P w=.ok a w:=by
 have:=Hy h w #[];simp_all
theorem rY{α:Type}{s:Sem α}{a:α}(h:j7 P s=some a)(w:af)(es:Array _):s.events P w es=es:=by
 have:=Hy h w es;simp_all
def pop(P:aj)(f:ae)(l:List ae)(s:Sem Next):Option (ae×List ae):=
 match j7 P s with
 |some (.value v)=>some (f.finish v,l)
 |some .skip=>some (f.finish aJ,l)
 |some (.enter g args)=>some (Frame.enter P g args .normal,f::l)
 |some (.defer d)=>some (({f with defers:=d::f.defers}:ae).finish aJ,l)
 |_=>none
def prun(P:aj)(f:ae)(l:List _):=
 match f.todo with
 |.code .skip::k|.code (.label _)::k|.inBlock _::k|.inScope _::k=>some ({f with todo:=k},l)
 |.code (.seq a b)::k=>some ({f with todo:=.code a:: .code b::k},l)
 |.code (.cond c a b)::k=>match f.eval c with
  |.bool t=>some ({f with todo:=.code (if t then a else b)::k},l)
  |_=>none
 |.code (.block id c)::k=>some ({f with todo:=.code c:: .inBlock id::k},l)
 |.code (.loop c)::k|.inLoop c::k=>some ({f with todo:=.code c:: .inLoop c::k},l)
 |.code (.exit id)::k=>match exitTo id k with
  |some k'=>some ({f with todo:=k'},l)
  |none=>none
 |.code .ret::_|[]=>some ({f with mode:=.returning},l)
 |.code (.region _ ops false)::k=>some ({f with todo:=.inRegion ops (aU ops.size)::k},l)
 |.inRegion _ []::k=>some ({f with todo:=k},l)
 |.inRegion ops (i::_)::_=>match ops[i]? with
  |some o=>if cn o (bC ops f.tmps)then pop P f l (aT f.eval o)else some (f.finish aJ,l)
  |none=>none
 |_=>none
def Jn(P:aj)(f:ae)(l:List ae):=
 match f.defers with
 |[]=>match l with
  |c::l'=>match f.kind with
   |.normal=>match P.funcs[f.fn]? with
    |some fn=>match j7 P (bQ fn f.tmps)with
     |some v=>some (c.finish v,l')
     |none=>none
    |none=>none
   |.deferred=>match P.funcs[f.fn]?,c.mode with
    |some fn,.returning=>match j7 P (bQ fn f.tmps)with
     |some v=>some (c,l')
     |none=>none
    |_,_=>none
   |_=>none
  |[]=>none
 |d::Y=>match d.target with
  |.fn fn c=>match j7 P (invoke (.fn fn c) d.args)with
   |some (.enter g args)=>some (Frame.enter P g args .deferred,{f with defers:=Y}::l)
   |_=>none
  |_=>none
def ot(P:aj)(f:ae)(l:List _):=
 match f.roundOf,f.kind with
 |some _,_|_,.early=>none
 |none,_=>match f.mode with
  |.run=>prun P f l
  |.returning=>Jn P f l
  |_=>none
def gC(P:aj):Nat->ae->List ae->ae×List ae
 |0,f,l=>(f,l)
 |n+1,f,l=>match ot P f l with
  |some (f1,l1)=>gC P n f1 l1
  |none=>(f,l)
section
variable{P:aj}{main:Bool}{f f1:ae}{l l1:List ae}{w:af}
theorem ZZ{s:Sem _}(hk:f.kind≠.early)(h:pop P f l s=some (f1,l1))(H:∃ops is k,f.todo=.inRegion ops is::k):
  stepG.apply P true f l none s w=.go (G f1 l1) w #[]:=by
 obtain⟨ops,is,k,K⟩:=H;unfold pop at h;have Y:=by omega
 split at h
 ·rename_i v e;cases h;simp[stepG.apply,n_ e,rY e,G,aP,bg]
 ·rename_i e;cases h;simp[stepG.apply,n_ e,rY e,G,aP,bg]
 ·rename_i g args e;cases h;simp[stepG.apply,n_ e,rY e,K,G,aP,bg]
 ·rename_i d e;cases h;simp[stepG.apply,n_ e,rY e,G,aP,bg]
 ·cases h
theorem NB(hr:f.roundOf=none)(hk:f.kind≠.early)(Y:f.mode=.run)(h:prun P f l=some (f1,l1)):ah P main (G f l) w=.go (G f1 l1) w #[]:=by
 have K:ah P main (G f l) w=aL P main true f l none w:=by
  unfold ah;simp only[G,Y]
 rw[K];clear K;obtain⟨fn,tmps,todo,defers,mode,kind,ro⟩:=f;simp only at hr hk Y;subst hr Y;unfold prun at h;unfold aL;split at h<;>rename_i H<;>first|(cases h;done)|(simp only at H;subst H;dsimp only)
 ·cases h;rfl
 ·cases h;rfl
 ·cases h;rfl
 ·cases h;rfl
 ·cases h;rfl
 ·split at h
  ·rename_i t e;cases h;simp only[e];rfl
  ·cases h
 ·cases h;rfl
 ·cases h;rfl
 ·cases h;rfl
 ·split at h
  ·rename_i k' e;cases h;simp only[e];rfl
  ·cases h
 ·cases h;rfl
 ·cases h;rfl
 ·cases h;rfl
 ·cases h;rfl
 ·split at h
  ·rename_i o e;split at h
   ·rename_i hw;simp only[e,cI,hw,dB,if_true];unfold stepG.oper;simp only[Frame.oper?,e];exact ZZ (f:=⟨fn,tmps,_,defers,.run,kind,none⟩) hk h ⟨_,_,_,rfl⟩
   ·rename_i hw;cases h;simp only[e,cI,hw,dB];rfl
  ·cases h
theorem YQ(R:f.mode=.returning)(h:Jn P f l=some (f1,l1)):ah P main (G f l) w=.go (G f1 l1) w #[]:=by
 have D:ah P main (G f l) w=bh P main f l none w:=by
  unfold ah;simp only[G,R]
 rw[D];unfold Jn at h;unfold bh;split at h
 ·rename_i hd;simp only[hd,R];split at h
  ·rename_i c l';split at h
   ·rename_i Y;split at h
    ·rename_i fn H;split at h
     ·rename_i v e;cases h;simp[H,n_ e,rY e,aV,Y,G,aP,bg]
     ·cases h
    ·cases h
   ·rename_i Y;split at h
    ·rename_i fn H K;split at h
     ·rename_i v e;cases h;simp[H,n_ e,rY e,aV,Y,K,G,aP,bg]
     ·cases h
    ·cases h
   ·cases h
  ·cases h
 ·rename_i d U hd;split at h
  ·rename_i fn c I;split at h
   ·rename_i g args e;cases h;obtain⟨B,A⟩:=d;subst I;simp[hd,cL,n_ e,rY e,G,aP,bg]
   ·cases h
  ·cases h
theorem sX(h:ot P f l=some (f1,l1)):ah P main (G f l) w=.go (G f1 l1) w #[]:=by
 unfold ot at h;split at h
 ·cases h
 ·cases h
 ·rename_i hr hk;split at h
  ·rename_i Y;exact NB hr hk Y h
  ·rename_i Y;exact YQ Y h
  ·cases h
theorem Tz.pure{U:Nat->Nat->Prop}{D:(Nat->Prop)->(Nat->Prop)->ak->af->Prop}:∀n {f:ae} {l:List _} {w:af},(∀w2,gI U S w w2->Tz P main U D S X (G (gC P n f l).1 (gC P n f l).2) w2)->Tz P main U D S X (G f l) w
 |0,f,l,w,h=>h w (.refl _ _ _)
 |n+1,f,l,w,h=>by
  unfold gC at h;split at h
  ·rename_i f1 l1 e;refine Tz.one rfl fun w2 hr=>⟨_,w2,#[],S,X,sX e,iW S X w2,Tz.pure n fun w3 Y=>h w3 (hr.trans Y)⟩
  ·exact h w (.refl _ _ _)
end
def opAt(f:ae):=match f.roundOf,f.mode,f.kind with
 |some _,_,_|_,.returning,_|_,.panicking _,_|_,_,.early=>none
 |none,.run,_=>match f.todo with
  |.inRegion ops (i::_)::_=>match ops[i]? with
   |some o=>if cn o (bC ops f.tmps)then some o else none
   |none=>none
  |_=>none
def ahead(f:ae):Option (ar×Array ai):=match opAt f with
 |some o=>match o.op with
  |.call c=>match c.callee with
   |.value (.func g)=>some (g,c.args.map f.eval)
   |_=>none
  |_=>none
 |none=>none
def qv(f:ae):Option (aA×ai):=match opAt f with
 |some o=>match o.op with
  |.load t x=>some (t,f.eval x)
  |_=>none
 |none=>none
def Q8(f:ae):Option (aA×ai×Bool):=match opAt f with
 |some o=>match o.op with
  |.recv t x b=>some (t,f.eval x,b)
  |_=>none
 |none=>none
section
variable{P:aj}{main:Bool}{f:ae}{cs:List ae}{w w':af}{g:ar}{fn:Func}{I:Array ai}
theorem sY{o:Oper}(h:opAt f=some o):∃ops i rest k,f=f.at ⟨f.tmps,f.defers⟩ (.inRegion ops (i::rest)::k)/\ops[i]?=some o/\cn o (bC ops f.tmps)=true/\f.kind≠.early:=by
 obtain⟨fn,tmps,todo,defers,mode,kind,ro⟩:=f;unfold opAt at h;split at h<;>first|(cases h)|skip
 rename_i hr Y hk;simp only at hr Y hk h;subst hr Y;split at h<;>first|(cases h)|skip
 rename_i ops i rest k;split at h
 ·rename_i o' K;split at h
  ·rename_i hw;cases h;exact⟨ops,i,rest,k,rfl,K,hw,fun e=>hk e⟩
  ·cases h
 ·cases h
theorem oX{o:Oper}(h:opAt f=some o){v:ai}(hr:(aT f.eval o).run P w=.ok (.value v) w'):ah P main (G f cs) w=.go (G (f.finish v) cs) w' (seen P f.fn ((aT f.eval o).events P w #[])):=by
 obtain⟨ops,i,rest,k,e,H,hw,hk⟩:=sY h;have K:f.eval=Act.eval ⟨f.tmps,f.defers⟩:=by rw[e];exact Frame.eval_at' _ _ _
 have:=stepG_value (main:=main) (a:=⟨f.tmps,f.defers⟩) (k:=k) (cs:=cs) (rest:=rest) H hw hk (by exact hr);rw[<-e]at this;rw[this];have Y:f.finish v=f.at (bH ⟨f.tmps,f.defers⟩ o.dst v) (.inRegion ops rest::k):=by
  conv=>lhs;rw[e]
  rw[bZ,H];rfl
 rw[<-Y];unfold listed;rw[<-K]
theorem tY(h:ahead f=some (g,I)):∃o ap6 Y,opAt f=some o/\o.op=.call {callee:=.value (.func g),args:=ap6,argTypes:=Y}/\ap6.map f.eval=I:=by
 unfold ahead at h;split at h
 ·rename_i o R;split at h
  ·rename_i c H;split at h
   ·rename_i K D;cases h;obtain⟨callee,args,Y⟩:=c;simp_all
   ·cases h
  ·cases h
 ·cases h
theorem abP(h:ahead f=some (g,I))(N:P.funcs[g]?=some fn)(H:(fn.name== "runtime.NumGoroutine")=false)(F:fn.body.isNone=true)(O:da fn=none){e:Array _->Sem _}(M:Extern.find fn=some e)
  {v:ai}{Y:Array _}(R:(e I).run P w=.ok v w')(A:(e I).events P w #[⟨.mark (.extern g),false,true⟩]=#[⟨.mark (.extern g),false,true⟩]++Y)(V:∀x∈Y,x.sync=true/\∀g,x.loc≠.mark (.extern g)):
  ah P main (G f cs) w=.go (G (f.finish v) cs) w' Y:=by
 obtain⟨o,ap6,B,C,gu,rfl⟩:=tY h;obtain⟨ops,i,rest,k,D,U,hw,hk⟩:=sY C;have:=stepG_entry (main:=main) (a:=⟨f.tmps,f.defers⟩) (kk:=k) (cs:=cs) (rest:=rest) U hw hk gu N H F O M R A V;rw[<-D]at this;rw[this];have K:f.finish v=f.at (bH ⟨f.tmps,f.defers⟩ o.dst v) (.inRegion ops rest::k):=by
  conv=>lhs;rw[D]
  rw[bZ,U];rfl
 rw[<-K]
structure jf(P:aj)(g:ar)(e:Array ai->Sem ai):Prop where
 ex:∃fn,P.funcs[g]?=some fn/\(fn.name== "runtime.NumGoroutine")=false/\fn.body.isNone=true/\da fn=none/\Extern.find fn=some e
theorem sP{e:Array _->Sem _}(X:jf P g e)(h:ahead f=some (g,I)){v:ai}{Y:Array _}(H:(e I).run P w=.ok v w')(R:(e I).events P w #[⟨.mark (.extern g),false,true⟩]=#[⟨.mark (.extern g),false,true⟩]++Y)(F:∀x∈Y,x.sync=true/\∀g,x.loc≠.mark (.extern g)):
  ah P main (G f cs) w=.go (G (f.finish v) cs) w' Y:=by
 obtain⟨fn,K,D,A,U,B⟩:=X.ex;exact abP h K D A U B H R F
theorem rN{m:Mark}(Y:∀g,m≠.extern g)(X:jf P g (fun _=>do mark m;pure cC))(h:ahead f=some (g,I)):ah P main (G f cs) w=.go (G (f.finish (.tuple #[])) cs) w #[⟨.mark m,false,true⟩]:=
 sP X h (by simp[cC]) (by simp) (by simp_all)
theorem xX{mk:Addr->Mark}(Y:∀ad g,mk ad≠.extern g)(X:jf P g (cB mk))(h:ahead f=some (g,#[.pointer (some ad)])):ah P main (G f cs) w=.go (G (f.finish (.tuple #[])) cs) w #[⟨.mark (mk ad),false,true⟩]:=
 sP X h (by simp[cB,cZ,cC]) (by simp[cB,cZ]) (by simp_all)
theorem zO{k:bL}(X:jf P g (cY (.int k))){v n:Int}(h:ahead f=some (g,#[.pointer (some ad),.int k v,.int k n]))(Y:w.cell? ad=some (.int k v))(H:w.frozen? ad=false):
  ah P main (G f cs) w=.go (G (f.finish (.bool true)) cs) (w.setCell ad (.int k n)) #[⟨.cell ad,false,true⟩,⟨.cell ad,true,true⟩]:=
 sP X h (by exact run_cas_hit_entry Y H) (by rw[casT_eq,events_cas_hit_entry Y H];rfl) (sync_rw ad)
theorem zN{k:bL}(X:jf P g (cY (.int k))){v old n:Int}(h:ahead f=some (g,#[.pointer (some ad),.int k old,.int k n]))(H:w.cell? ad=some (.int k v))(R:w.frozen? ad=false)(Y:¬v=old):
  ah P main (G f cs) w=.go (G (f.finish (.bool false)) cs) w #[⟨.cell ad,false,true⟩]:=
 sP X h (by exact run_cas_miss_entry H R Y) (by rw[casT_eq,events_cas_miss_entry H R Y];rfl) (sync_r ad)
theorem CC{k:bL}(X:jf P g (Extern.Atomic.update (cH .add) k true)){v d:Int}(h:ahead f=some (g,#[.pointer (some ad),.int k d]))(Y:w.cell? ad=some (.int k v))(H:w.frozen? ad=false):
  ah P main (G f cs) w=.go (G (f.finish (.int k (k.wrap (v+d)))) cs) (w.setCell ad (.int k (k.wrap (v+d)))) #[⟨.cell ad,false,true⟩,⟨.cell ad,true,true⟩]:=
 sP X h (run_add_entry Y H) (by rw[events_add_entry Y H];rfl) (sync_rw ad)
theorem Ma(X:jf P g bX){n:Int}(h:ahead f=some (g,I))(R:I[0]?=some (.pointer (some ad)))(H:w.cell? ad=some (.int .u32 n))(Y:n≠0)(A:w.frozen? ad=false):
  ah P main (G f cs) w=.go (G (f.finish (.tuple #[])) cs) (w.setCell ad (.int .u32 (n-1))) (aH ad):=
 sP X h (by simp[bX,bW,R,H,Y,A,c_,cw P w ad (.int .u32 (n-1)) _ rfl])
  (by simp[bX,bW,R,H,Y,A,aH,dG P w _ ad (.int .u32 (n-1)) .atomic rfl,cw P w ad (.int .u32 _) .atomic rfl]) (dI ad)
theorem FM(X:jf P g cD){n:Int}(h:ahead f=some (g,I))(H:I[0]?=some (.pointer (some ad)))(Y:w.cell? ad=some (.int .u32 n))(R:w.frozen? ad=false):
  ah P main (G f cs) w=.go (G (f.finish (.tuple #[])) cs) (w.setCell ad (.int .u32 (IntKind.u32.wrap (n+1)))) (aH ad):=
 sP X h (by simp[cD,bW,H,Y,R,c_,cH,cw P w ad (.int .u32 _) _ rfl])
  (by simp[cD,bW,H,Y,R,aH,cH,dG P w _ ad (.int .u32 _) .atomic rfl,cw P w ad (.int .u32 _) .atomic rfl]) (dI ad)
theorem F5{t:aA}{x:ai}(h:qv f=some (t,x)):∃o y,opAt f=some o/\o.op=.load t y/\f.eval y=x:=by
 unfold qv at h;split at h
 ·split at h
  ·simp_all
  ·cases h
 ·cases h
theorem Pk{t:aA}{v:ai}{o:Oper}(gu:o.op=.load t y)(R:f.eval y=.pointer (some ad))(H:j7 P (isAgg t)=some false)(Y:w.cell? ad=some v):
  (aT f.eval o).run P w=.ok (.value v) w/\(aT f.eval o).events P w #[]=#[⟨.cell ad,false,false⟩]:=by
 constructor
 ·unfold aT;simp[gu,R];simp[go_sem,n_ H,Y]
 ·unfold aT;simp[gu,R];simp[go_sem,n_ H,Y]
theorem Cc{t:aA}{v:ai}(h:qv f=some (t,.pointer (some ad)))(A:j7 P (isAgg t)=some false)(Y:w.cell? ad=some v)(R:(P.funcs[f.fn]?).any (·.norace)=true):
  ah P main (G f cs) w=.go (G (f.finish v) cs) w #[]:=by
 obtain⟨o,y,H,gu,D⟩:=F5 h;obtain⟨hr,K⟩:=Pk gu D A Y;rw[oX H hr,K,seen_def,R];simp[seenStep]
theorem rP{t:aA}{v:ai}(h:qv f=some (t,.pointer (some ad)))(A:j7 P (isAgg t)=some false)(Y:w.cell? ad=some v)(R:(P.funcs[f.fn]?).any (·.norace)=false):
  ah P main (G f cs) w=.go (G (f.finish v) cs) w #[⟨.cell ad,false,false⟩]:=by
 obtain⟨o,y,H,gu,D⟩:=F5 h;obtain⟨hr,K⟩:=Pk gu D A Y;rw[oX H hr,K,seen_def,R];simp[seenStep]
theorem conv{o:Oper}(R:opAt f=some o){v:ai}{es:Array _}(h:∀ops i rest k,ops[i]?=some o->cn o (bC ops (Act.tmps ⟨f.tmps,f.defers⟩))=true->f.kind≠.early->
  ah P main (G (f.at ⟨f.tmps,f.defers⟩ (.inRegion ops (i::rest)::k)) cs) w=.go (G (f.at (bH ⟨f.tmps,f.defers⟩ o.dst v) (.inRegion ops rest::k)) cs) w' es):ah P main (G f cs) w=.go (G (f.finish v) cs) w' es:=by
 obtain⟨ops,i,rest,k,K,H,hw,hk⟩:=sY R;have:=h ops i rest k H hw hk;rw[<-K]at this;rw[this];have Y:f.finish v=f.at (bH ⟨f.tmps,f.defers⟩ o.dst v) (.inRegion ops rest::k):=by
  conv=>lhs;rw[K]
  rw[bZ,H];rfl
 rw[<-Y]
theorem evalEq(f:ae)(Y:f.mode=f.mode):f.eval=Act.eval ⟨f.tmps,f.defers⟩:=by
 funext x;cases x<;>rfl
theorem Oh(h:ahead f=some (g,I))(X:jf P g Extern.OsHooks.nano)(F:(P.funcs[g]?).any (·.norace)=true):ah P main (G f cs) w=.go (G (f.finish (.int .i64 ((w.os.mono+w.tick:Nat)))) cs) w.later #[]:=by
 obtain⟨o,ap6,H,C,gu,rfl⟩:=tY h;obtain⟨fn,K,D,R,A,U⟩:=X.ex;have Y:=by simpa[K]using F
 exact conv C fun ops i rest k B hw hk=>stepG_nanotime B hw hk gu K D R A U Y
theorem W3{k:bL}{n:Int}(h:ahead f=some (g,#[.int k n]))(X:jf P g c9)(A:4<=n):ah P main (G f cs) w=.go (G (f.finish (.bool false)) cs) w #[]:=by
 obtain⟨o,ap6,H,C,gu,K⟩:=tY h;obtain⟨fn,D,R,I,Y,U⟩:=X.ex;exact conv C fun ops i rest k B hw hk=>stepG_canSpin_no B hw hk gu D R I Y U K A
theorem Wy{k:bL}{n:Int}(h:ahead f=some (g,#[.int k n]))(X:jf P g c9)(A:n<4):ah P main (G f cs) w=.go (G (f.finish (.bool w.spins)) cs) w.asked #[]:=by
 obtain⟨o,ap6,H,C,gu,K⟩:=tY h;obtain⟨fn,D,R,I,Y,U⟩:=X.ex;exact conv C fun ops i rest k B hw hk=>stepG_canSpin_ask B hw hk gu D R I Y U K A
theorem Mm(X:jf P g bX)(h:ahead f=some (g,I))(M:I[0]?=some (.pointer (some ad)))(F:w.cell? ad=some (.int .u32 0)):ah P main (G f cs) w=.go {G f cs with status:=.blocked} w #[]:=by
 obtain⟨o,ap6,Y,C,gu,rfl⟩:=tY h;obtain⟨fn,H,D,R,A,U⟩:=X.ex;obtain⟨ops,i,rest,k,K,B,hw,hk⟩:=sY C;have:=stepG_semacquire_wait (main:=main) (b:=f) (a:=⟨f.tmps,f.defers⟩) (kk:=k) (cs:=cs) (rest:=rest) B hw gu H D R A U (by exact M) F;rw[<-K]at this;omega
theorem GF{e:Array _->Sem _}(X:jf P g e)(h:ahead f=some (g,I)):bq P (G f cs)=true:=by
 obtain⟨o,ap6,H,B,gu,rfl⟩:=tY h;obtain⟨fn,D,F,K,J,L⟩:=X.ex;obtain⟨ops,i,rest,k,Y,A,hw,hk⟩:=sY B;have U:f.mode=.run:=by rw[Y];rfl
 have C:f.todo=.inRegion ops (i::rest)::k:=by rw[Y];rfl
 unfold bq;simp[G,U,C,A,cI,gu];simp[bY,D];cases R:fn.body with
 |none=>rfl
 |some c=>rw[R]at K;cases K
theorem Oi{v:ai}(X:jf P g (fun _=>pure v))(h:ahead f=some (g,I)):ah P main (G f cs) w=.go (G (f.finish v) cs) w #[]:=sP X h (by simp) (by simp) (by simp)
end
def qw(f:ae):Option (aA×aA×ai):=match opAt f with
 |some o=>match o.op with
  |.convert s d x=>some (s,d,f.eval x)
  |_=>none
 |none=>none
section
variable{P:aj}{main:Bool}{f:ae}{cs:List ae}{w:af}
theorem XB{s d:aA}{x:ai}(h:qw f=some (s,d,x)):∃o y,opAt f=some o/\o.op=.convert s d y/\f.eval y=x:=by
 unfold qw at h;split at h
 ·split at h
  ·simp_all
  ·cases h
 ·cases h
theorem ua{s d t:aA}{a:Addr}{v:ai}(h:qw f=some (s,d,.pointer (some a)))(A:P.underlying s=some (.pointer t))(hd:P.underlying d=some .unsafePointer)(Y:(P.info? t).map (fun i=>decide (i.size=0))=some false)(R:w.cell? a=some v):
  ah P main (G f cs) w=.go (G (f.finish (.pointer (some a))) cs) w #[]:=by
 obtain⟨o,y,D,gu,U⟩:=XB h;have hr:=run_convert_to_unsafe A hd Y R;have I:=fun es=>events_convert_to_unsafe A hd Y R es;have H:(aT f.eval o).run P w=.ok (.value (.pointer (some a))) w:=by
  unfold aT;simp_all
 have K:(aT f.eval o).events P w #[]=#[]:=by
  unfold aT;simp_all
 rw[oX D H,K,bg]
end
def sz(P:aj)(f:ae):Option Next:=match opAt f with
 |some o=>j7 P (aT f.eval o)
 |none=>none
section
variable{P:aj}{main:Bool}{f:ae}{l:List ae}{w:af}
theorem Pm{x:Next}(h:sz P f=some x):∃o,opAt f=some o/\j7 P (aT f.eval o)=some x:=by
 unfold sz at h;split at h
 ·simp_all
 ·cases h
theorem Oj{cases:Array _}{b:Bool}{sh:CommShape}(h:sz P f=some (.comm cases b sh)):ah P main (G f l) w=.comm (G f l) cases b sh w #[]:=by
 obtain⟨o,H,Y⟩:=Pm h;obtain⟨ops,i,rest,k,e,K,hw,hk⟩:=sY H;rw[evalEq f rfl]at Y;have:=stepG_comm (main:=main) (a:=⟨f.tmps,f.defers⟩) (k:=k) (cs:=l) (rest:=rest) K hw hk (n_ Y w);rw[<-e]at this;rw[this];unfold listed;rw[rY Y,bg]
theorem YR{g:ar}{c H:Array _}(h:sz P f=some (.spawn {target:=.fn (.func g) c,args:=H})):ah P main (G f l) w=.spawn (G (f.finish aJ) l) (G {(default:ae)with fn:=P.funcs.size,defers:=[{target:=.fn (.func g) c,args:=H}],mode:=.panicking [goexitEntry]} []) w #[]:=by
 obtain⟨o,R,K⟩:=Pm h;obtain⟨ops,i,rest,k,e,D,hw,hk⟩:=sY R;rw[evalEq f rfl]at K;have Y:f.finish aJ=f.at (bH ⟨f.tmps,f.defers⟩ o.dst aJ) (.inRegion ops rest::k):=by
  conv=>lhs;rw[e]
  rw[bZ,D];rfl
 have:=stepG_spawn (main:=main) (a:=⟨f.tmps,f.defers⟩) (k:=k) (cs:=l) (rest:=rest) D hw hk (n_ K w) rfl;rw[<-e]at this;rw[this,Y];unfold listed;rw[rY K,bg];rfl
end
end Ph
namespace Ph
open Conc
inductive tL where
 |at
 |ro
 |pr
 |own (g:Nat)
 |no
def Started(b j g:Nat):=g=0\/(b<=g/\g<b+j)
def D6(b j:Nat)(mu:Addr)(t:ax)(i:Nat):Option Nat->Prop
 |some g=>aB t g i
 |none=>(∀g,Started b j g->aB t g i)\/∃p,t.act? p=some (.mark (.releaseMerge mu))/\t.heard p/\bU t i p
structure PT(b j:Nat)(mu wg:Addr)(iU:Loc->Prop)(cls:Loc->tL)(t:ax)(tok:Option Nat)(rel:Nat->Option Nat):Prop where
 clean:∀said,¬Race said t
 tM:∀i x,aI t i=some x->cls x.loc=.at->x.kind=.atomic\/(x.kind=.said/\aB t 0 i)\/∀g,Started b j g->aB t g i
 ro:∀i x,aI t i=some x->cls x.loc=.ro->x.write=true->∀g,Started b j g->aB t g i
 own:∀i x g,aI t i=some x->cls x.loc=.own g->aB t g i
 pr:∀i x,aI t i=some x->cls x.loc=.pr->D6 b j mu t i tok
 jn:∀i x,aI t i=some x->x.loc.isMemory=true->aB t 0 i\/(iU x.loc/\x.kind=.atomic/\¬t.counts i)\/∃k z,t[i]?=some z/\z.g=k/\b<=k/\k<b+j/\∀p,rel k=some p->bU t i p
 tC:∀k p,rel k=some p->t.act? p=some (.mark (.releaseMerge wg))/\t.heard p
 norel:cm mu t/\cm wg t
 gs:True
 mem:∀l,l.isMemory=false->cls l=.no
 sh:∀l,cls l=.at->iU l
 qI:0<b
def OkOp(mu wg:Addr)(cls:Loc->tL)(tok:Option Nat)(g:Nat)(op:aM):=
 op.g=g/\op.act≠.mark (.release mu)/\op.act≠.mark (.release wg)/\∀x,op.act.touch?=some x->
  x.loc.isMemory=false\/(cls x.loc=.at/\x.kind=.atomic)\/(cls x.loc=.at/\x.kind=.said/\g=0)\/(cls x.loc=.ro/\x.write=false)\/(cls x.loc=.pr/\tok=some g)\/cls x.loc=.own g
section
variable{b j:Nat}{mu wg:Addr}{iU:Loc->Prop}{cls:Loc->tL}{t u:ax}{tok:Option Nat}{rel:Nat->Option Nat}{g:Nat}
theorem D6.app(h:D6 b j mu t i tok)(u:ax):D6 b j mu (t++u) i tok:=by
 cases tok with
 |some g=>exact Knows.app u h
 |none=>
  rcases h with h|⟨p,Y,H,D⟩
  ·exact .inl fun g R=>(h g R).app u
  ·have K:=bO Y;exact .inr ⟨p,by rw[bN K];exact Y,(cv K).2 H,D.app u⟩
theorem q9{x:bp}(h:aI (t++u) i=some x):(i<t.size/\aI t i=some x)\/(t.size<=i/\∃op,(t++u)[i]?=some op/\op∈u/\op.act.touch?=some x):=by
 obtain⟨op,H,R⟩:=cR h;rcases getElem?_append_cases H with⟨K,Y⟩|⟨K,D⟩
 ·exact .inl ⟨K,by rw[touchAt_of Y];exact R⟩
 ·simp_all
theorem Started.lt(h:Started b j g)(Y:0<b):g<b+j:=by
 rcases h with rfl|h
 ·omega
 ·omega
theorem G6(h:∀k p,rel k=some p->t.act? p=some (.mark (.releaseMerge wg))/\t.heard p)(u:ax):∀k p,rel k=some p->(t++u).act? p=some (.mark (.releaseMerge wg))/\(t++u).heard p:=by
 intro k p hk;obtain⟨Y,H⟩:=h k p hk;have K:=bO Y;exact⟨by rw[bN K];exact Y,(cv K).2 H⟩
theorem Ig{x:bp}(R:i<t.size)(h:aB t 0 i\/(iU x.loc/\x.kind=.atomic/\¬t.counts i)\/∃k z,t[i]?=some z/\z.g=k/\b<=k/\k<b+j/\∀p,rel k=some p->bU t i p)(u:ax):
  aB (t++u) 0 i\/(iU x.loc/\x.kind=.atomic/\¬(t++u).counts i)\/∃k z,(t++u)[i]?=some z/\z.g=k/\b<=k/\k<b+j/\∀p,rel k=some p->bU (t++u) i p:=by
 rcases h with h|⟨Y,K,H⟩|⟨k,z,Y,K,H,D,I⟩
 ·exact .inl (h.app u)
 ·exact .inr (.inl ⟨Y,K,fun A=>H ((counts_old R).1 A)⟩)
 ·exact .inr (.inr ⟨k,z,by rw[cO R];exact Y,K,H,D,fun p U=>(I p U).app u⟩)
theorem PT.app(h:PT b j mu wg iU cls t tok rel)(N:Started b j g)(F:∀op∈u,OkOp mu wg cls tok g op)
  (hr:g≠0->∀p,rel g=some p->∀i x,t.size<=i->aI (t++u) i=some x->x.loc.isMemory=true->iU x.loc/\x.kind=.atomic/\¬(t++u).counts i):PT b j mu wg iU cls (t++u) tok rel:=by
 have new:∀{i:Nat} {x:bp} {op:aM},(t++u)[i]?=some op->op∈u->op.act.touch?=some x->aB (t++u) g i:=by
  intro i x op B R I;have:=knows_own B
  rwa [(F op R).1]at this
 refine⟨fun said=>noRace_append (h.clean said) (fun op gu=>(F op gu).1) fun i a M op gu c K O=>?_,fun i x C K=>?_,fun i x C K hw=>?_,fun i x k C K=>?_,fun i x C K=>?_,fun i x C A=>?_,G6 h.tC u,⟨h.norel.1.app fun op gu=>(F op gu).2.1,h.norel.2.app fun op gu=>(F op gu).2.2.1⟩,
  trivial,h.mem,h.sh,h.qI⟩
 ·obtain⟨L,Q,Z,S⟩:=O;rcases(F op gu).2.2.2 c K with A|⟨Y,hk⟩|⟨Y,hk,J⟩|⟨Y,hk⟩|⟨Y,hk⟩|Y
  ·rw[L,A]at Q;cases Q
  ·rcases h.tM i a M (by rw[L];exact Y)with H|⟨H,_⟩|H
   ·simp_all
   ·simp_all
   ·exact H g N
  ·rcases h.tM i a M (by rw[L];exact Y)with H|⟨_,H⟩|H
   ·rw[H,hk]at S;rcases S with x|x|⟨_,x,_⟩<;>cases x
   ·rw[J];exact H
   ·exact H g N
  ·have hw:a.write=true:=by simp_all
   exact h.ro i a M (by rw[L];exact Y) hw g N
  ·have:=h.pr i a M (by rw[L];exact Y);rw[hk]at this;exact this
  ·exact h.own i a g M (by rw[L];exact Y)
 ·rcases q9 C with⟨U,D⟩|⟨U,op,B,R,I⟩
  ·exact(h.tM i x D K).imp id (Or.imp (fun y=>⟨y.1,y.2.app u⟩) fun y g P=>(y g P).app u)
  ·rcases(F op R).2.2.2 x I with A|⟨Y,hk⟩|⟨Y,hk,J⟩|⟨Y,hk⟩|⟨Y,hk⟩|Y
   ·rw[h.mem _ A]at K;cases K
   ·exact .inl hk
   ·simp_all
   ·rw[K]at Y;cases Y
   ·rw[K]at Y;cases Y
   ·rw[K]at Y;cases Y
 ·rcases q9 C with⟨U,D⟩|⟨U,op,B,R,I⟩
  ·exact fun g P=>(h.ro i x D K hw g P).app u
  ·rcases(F op R).2.2.2 x I with A|⟨Y,hk⟩|⟨Y,hk,J⟩|⟨Y,hk⟩|⟨Y,hk⟩|Y
   ·rw[h.mem _ A]at K;cases K
   ·rw[K]at Y;cases Y
   ·rw[K]at Y;cases Y
   ·rw[hk]at hw;cases hw
   ·rw[K]at Y;cases Y
   ·rw[K]at Y;cases Y
 ·rcases q9 C with⟨U,D⟩|⟨U,op,B,R,I⟩
  ·exact(h.own i x k D K).app u
  ·rcases(F op R).2.2.2 x I with A|⟨Y,hk⟩|⟨Y,hk,J⟩|⟨Y,hk⟩|⟨Y,hk⟩|Y
   ·rw[h.mem _ A]at K;cases K
   ·rw[K]at Y;cases Y
   ·rw[K]at Y;cases Y
   ·rw[K]at Y;cases Y
   ·rw[K]at Y;cases Y
   ·rw[K]at Y;cases Y;exact new B R I
 ·rcases q9 C with⟨U,D⟩|⟨U,op,B,R,I⟩
  ·exact(h.pr i x D K).app u
  ·rcases(F op R).2.2.2 x I with A|⟨Y,hk⟩|⟨Y,hk,J⟩|⟨Y,hk⟩|⟨Y,hk⟩|Y
   ·rw[h.mem _ A]at K;cases K
   ·rw[K]at Y;cases Y
   ·rw[K]at Y;cases Y
   ·rw[K]at Y;cases Y
   ·rw[hk];exact new B R I
   ·rw[K]at Y;cases Y
 ·rcases q9 C with⟨U,D⟩|⟨U,op,B,R,I⟩
  ·exact Ig U (h.jn i x D A) u
  ·rcases N with J|⟨V,X⟩
   ·have:=new B R I;rw[J]at this;exact .inl this
   ·cases hrel:rel g with
    |some p=>exact .inr (.inl (hr (by have:=h.qI;omega) p hrel i x U C A))
    |none=>exact .inr (.inr ⟨g,op,B,(F op R).1,V,X,fun p T=>by rw[hrel]at T;cases T⟩)
theorem MG(h:¬Race said t)(F:∀op∈u,op.act.touch?=none):¬Race said (t++u):=by
 rintro⟨i,k,K,⟨x,y,Y,H,R⟩,n1,n2⟩;have old:∀{i:Nat} {x:bp},((t++u).act? i).bind (·.touch?)=some x->i<t.size:=by
  intro i x Y;rcases q9 (Y)with⟨D,_⟩|⟨_,op,_,I,A⟩
  ·omega
  ·simp_all
 have D:=old Y;have hk:=old H;rw[bN D]at Y;rw[bN hk]at H;exact h ⟨i,k,K,⟨x,y,Y,H,R⟩,fun e=>n1 (hb_app u e),fun e=>n2 (hb_app u e)⟩
theorem PT.still(h:PT b j mu wg iU cls t tok rel)(R:∀op∈u,op.act.touch?=none/\op.act≠.mark (.release mu)/\op.act≠.mark (.release wg)/\op.g<b+j):PT b j mu wg iU cls (t++u) tok rel:=by
 have old:∀{i:Nat} {x:bp},aI (t++u) i=some x->i<t.size/\aI t i=some x:=by
  intro i x Y;rcases q9 Y with U|⟨_,op,_,I,A⟩
  ·omega
  ·simp_all
 refine⟨fun said=>MG (h.clean _) fun op gu=>(R op gu).1,fun i x Y K=>?_,fun i x Y K hw g H=>(h.ro i x (old Y).2 K hw g H).app u,fun i x k Y K=>(h.own i x k (old Y).2 K).app u,fun i x Y K=>(h.pr i x (old Y).2 K).app u,fun i x Y D=>Ig (old Y).1 (h.jn i x (old Y).2 D) u,G6 h.tC u,⟨h.norel.1.app fun op gu=>(R op gu).2.1,h.norel.2.app fun op gu=>(R op gu).2.2.1⟩,
  trivial,h.mem,h.sh,h.qI⟩
 exact(h.tM i x (old Y).2 K).imp id (Or.imp (fun y=>⟨y.1,y.2.app u⟩) fun y g H=>(y g H).app u)
theorem PT.fresh(h:PT b j mu wg iU cls t tok rel){Y:Loc->tL}(H:∀i x,aI t i=some x->Y x.loc=cls x.loc)(A:∀l,l.isMemory=false->Y l=.no)(R:∀l,Y l=.at->iU l):PT b j mu wg iU Y t tok rel:=
 ⟨h.clean,fun i x K e=>h.tM i x K (by rw[<-H i x K];exact e),fun i x K e=>h.ro i x K (by rw[<-H i x K];exact e),fun i x g K e=>h.own i x g K (by rw[<-H i x K];exact e),fun i x K e=>h.pr i x K (by rw[<-H i x K];exact e),h.jn,h.tC,h.norel,h.gs,A,R,h.qI⟩
theorem g?_of{t:ax}{op:aM}(h:t[i]?=some op):t.g? i=some op.g:=by simp[cK,h]
theorem last_at(t:ax)(y:aM):(t++#[y])[t.size]?=some y:=by simp
theorem xY{y:aM}(hd:Deaf t y.g=0):(t++#[y]).heard t.size:=by
 refine⟨y.g,g?_of (last_at t y),?_⟩;rw[deaf_old (ao _)];exact hd
theorem l_{y:aM}{Q:aM->Prop}(h:Q y):∀op∈(#[y]),Q op:=by simp_all
theorem PT.lock(h:PT b j mu wg iU cls t none rel)(H:Started b j g){fn:ar}(hd:Deaf t g=0):PT b j mu wg iU cls (t++#[{g,fn,pos,act:=.mark (.acquire mu)}]) (some g) rel:=by
 have h':=h.still (u:=#[{g,fn,pos,act:=.mark (.acquire mu)}]) (l_ ⟨rfl,by simp,by simp,H.lt h.qI⟩);refine⟨h'.clean,h'.tM,h'.ro,h'.own,fun i x C I=>?_,h'.jn,h'.tC,h'.norel,h'.gs,h'.mem,h'.sh,h'.qI⟩;rcases h'.pr i x C I with hk|⟨p,Y,D,R⟩
 ·exact hk g H
 ·have B:p<t.size:=by
   rcases ck p _ with U|A
   ·omega
   ·have e:p=t.size:=by have:=bO Y;simp at this;omega
    rw[e,bA (last_at t _)]at Y;cases Y
  have K:=last_at t {g,fn,pos,act:=.mark (.acquire mu)};refine⟨t.size,_,K,rfl,.inr (R.hb (.single (.inr ⟨.marked B (.inr Y) (by rw[bA K]) (fun k _ _=>h'.norel.1 k),D,xY hd⟩)))⟩
theorem PT.unlock(h:PT b j mu wg iU cls t (some g) rel)(A:Started b j g){fn:ar}(hd:Deaf t g=0):PT b j mu wg iU cls (t++#[{g,fn,pos,act:=.mark (.releaseMerge mu)}]) none rel:=by
 have h':=h.still (u:=#[{g,fn,pos,act:=.mark (.releaseMerge mu)}]) (l_ ⟨rfl,by simp,by simp,A.lt h.qI⟩);refine⟨h'.clean,h'.tM,h'.ro,h'.own,fun i x I R=>?_,h'.jn,h'.tC,h'.norel,h'.gs,h'.mem,h'.sh,h'.qI⟩;have H:=last_at t {g,fn,pos,act:=.mark (.releaseMerge mu)};refine .inr ⟨t.size,by rw[bA H],xY hd,?_⟩;rcases q9 I with⟨U,Y⟩|⟨_,op,_,K,D⟩
 ·exact .inr ((h.pr i x Y R).hb_new (ao _) H rfl)
 ·simp at K;subst K;cases D
theorem PT.release(h:PT b j mu wg iU cls t tok rel)(hk:b<=k/\k<b+j){fn:ar}(hd:Deaf t k=0){jD:Nat->Option Nat}(R:jD k=some t.size)(F:∀i,i≠k->jD i=rel i):
  PT b j mu wg iU cls (t++#[{g:=k,fn,pos,act:=.mark (.releaseMerge wg)}]) tok jD:=by
 have h':=h.still (u:=#[{g:=k,fn,pos,act:=.mark (.releaseMerge wg)}]) (l_ ⟨rfl,by simp,by simp,hk.2⟩);have I:=last_at t {g:=k,fn,pos,act:=.mark (.releaseMerge wg)};refine⟨h'.clean,h'.tM,h'.ro,h'.own,h'.pr,fun i x A L=>?_,fun i p K=>?_,h'.norel,h'.gs,h'.mem,h'.sh,h'.qI⟩
 ·rcases h'.jn i x A L with y|y|⟨k',z,H,D,B,C,N⟩
  ·exact .inl y
  ·simp_all
  ·refine .inr (.inr ⟨k',z,H,D,B,C,fun p K=>?_⟩);by_cases Y:k'=k
   ·subst Y;rw[R]at K;cases K;rcases q9 A with⟨J,_⟩|⟨_,op,_,U,M⟩
    ·exact .inr (hb_po J H I D)
    ·simp at U;subst U;cases M
   ·simp_all
 ·by_cases Y:i=k
  ·subst Y;rw[R]at K;cases K;exact⟨by rw[bA I],xY hd⟩
  ·rw[F i Y]at K;exact h'.tC i p K
theorem PT.fork(h:PT b j mu wg iU cls t tok rel){fn iO:ar}{pos':String}(hd:Deaf t 0=0)(O:Deaf t (b+j)=0):
  PT b (j+1) mu wg iU cls (t++#[{g:=0,fn,pos,act:=.go (b+j)}]++#[{g:=b+j,fn:=iO,pos:=pos',act:=.start}]) tok rel:=by
 have W:=h.qI;have D:=h.still (u:=#[{g:=0,fn,pos,act:=.go (b+j)}]) (l_ ⟨rfl,by simp,by simp,by show 0<b+j;omega⟩);have T:=last_at t {g:=0,fn,pos,act:=.go (b+j)};have s1:(t++#[({g:=0,fn,pos,act:=.go (b+j)}:aM)]).size=t.size+1:=by simp
 generalize N:t++#[({g:=0,fn,pos,act:=.go (b+j)}:aM)]=U at *;have L:=last_at U {g:=b+j,fn:=iO,pos:=pos',act:=.start};have dd:Deaf U (b+j)=0:=by
  rw[<-N,bK t (g':=0) (by omega) _ (l_ rfl)];exact O
 have J:(U++#[{g:=b+j,fn:=iO,pos:=pos',act:=.start}])[t.size]?=some {g:=0,fn,pos,act:=.go (b+j)}:=by rw[cO (by omega)];exact T
 have B:HappensBefore (U++#[{g:=b+j,fn:=iO,pos:=pos',act:=.start}]) t.size U.size:=by
  refine .single (.inr ⟨.spawn (child:=b+j) (by rw[bA J]) (by rw[bA L]) (g?_of L),?_,xY dd⟩);rw[cv (by omega),<-N];exact xY hd
 have Ex:∀i,i<t.size->aB U 0 i->aB (U++#[{g:=b+j,fn:=iO,pos:=pos',act:=.start}]) (b+j) i:=by
  intro i R hk;obtain⟨q,z,S,E,I⟩:=hk;rcases ck q t.size with P|X
  ·refine⟨U.size,_,L,rfl,.inr (.trans ((I.app _).hb (hb_po P (by rw[cO (by omega)];exact S) J E)) B)⟩
  ·have:q=t.size:=by have:=lt_size_of_getElem? S;omega
   subst this;rcases I with e|I
   ·omega
   ·exact⟨U.size,_,L,rfl,.inr (.trans (hb_app _ I) B)⟩
 have old:∀{i:Nat} {x:bp},aI U i=some x->i<t.size:=by
  intro i x H;rw[<-N]at H;rcases q9 H with⟨R,_⟩|⟨_,op,_,A,F⟩
  ·exact R
  ·simp at A;subst A;cases F
 have K:∀{i:Nat} {x:bp},aI (U++#[{g:=b+j,fn:=iO,pos:=pos',act:=.start}]) i=some x->i<U.size/\aI U i=some x:=by
  intro i x H;rcases q9 H with R|⟨_,op,_,A,F⟩
  ·exact R
  ·simp at A;subst A;cases F
 have all:∀{i:Nat},i<t.size->(∀g,Started b j g->aB U g i)->∀g,Started b (j+1) g->aB (U++#[{g:=b+j,fn:=iO,pos:=pos',act:=.start}]) g i:=by
  intro i R hk g V;by_cases e:g=b+j
  ·subst e;exact Ex i R (hk 0 (.inl rfl))
  ·exact(hk g (V.imp id fun y=>⟨y.1,by omega⟩)).app _
 refine⟨fun said=>MG (D.clean said) (l_ rfl),fun i x H C=>?_,fun i x H C hw=>?_,fun i x k H C=>(D.own i x k (K H).2 C).app _,fun i x H C=>?_,fun i x H Z=>?_,G6 D.tC _,⟨D.norel.1.app (l_ (by simp)),D.norel.2.app (l_ (by simp))⟩,trivial,D.mem,D.sh,D.qI⟩
 ·obtain⟨R,Y⟩:=K H;exact(D.tM i x Y C).imp id (Or.imp (fun y=>⟨y.1,y.2.app _⟩) (all (old Y)))
 ·obtain⟨R,Y⟩:=K H;exact all (old Y) (D.ro i x Y C hw)
 ·obtain⟨R,Y⟩:=K H;have:=D.pr i x Y C;cases tok with
  |some g=>exact Knows.app _ this
  |none=>
   rcases this with y|⟨p,M,A,F⟩
   ·exact .inl (all (old Y) y)
   ·have Q:=bO M;exact .inr ⟨p,by rw[bN Q];exact M,(cv Q).2 A,F.app _⟩
 ·obtain⟨R,Y⟩:=K H;rcases Ig R (D.jn i x Y Z) _ with y|y|⟨k,z,M,A,F,c,G⟩
  ·exact .inl y
  ·exact .inr (.inl y)
  ·exact .inr (.inr ⟨k,z,M,A,F,by omega,G⟩)
theorem PT.join(h:PT b j mu wg iU cls t tok rel)(H:∀k,b<=k->k<b+j->∃p,rel k=some p){fn:ar}(hd:Deaf t 0=0)(Y:∀op∈t++#[{g:=0,fn,pos,act:=.mark (.acquire wg)}],op.act.low B):
  Past iU B (t++#[{g:=0,fn,pos,act:=.mark (.acquire wg)}]):=by
 have V:=h.qI;have h':=h.still (u:=#[{g:=0,fn,pos,act:=.mark (.acquire wg)}]) (l_ ⟨rfl,by simp,by simp,by show 0<b+j;omega⟩);have C:=last_at t {g:=0,fn,pos,act:=.mark (.acquire wg)};have known:∀i x,aI (t++#[{g:=0,fn,pos,act:=.mark (.acquire wg)}]) i=some x->x.loc.isMemory=true->aB (t++#[{g:=0,fn,pos,act:=.mark (.acquire wg)}]) 0 i\/(iU x.loc/\x.kind=.atomic/\¬(t++#[({g:=0,fn,pos,act:=.mark (.acquire wg)}:aM)]).counts i):=by
  intro i x D K;rcases h'.jn i x D K with y|y|⟨k,z,S,T,J,L,M⟩
  ·simp_all
  ·simp_all
  ·obtain⟨p,A⟩:=H k J L;obtain⟨I,F⟩:=h.tC k p A;have U:=bO I;obtain⟨R,Q⟩:=h'.tC k p A;exact .inl ⟨t.size,_,C,rfl,.inr ((M p A).hb (.single (.inr ⟨.marked U (.inr R) (by rw[bA C]) (fun k _ _=>h'.norel.2 k),Q,xY hd⟩)))⟩
 refine⟨h'.clean,fun i x D K=>(known i x D K).imp id fun y=>⟨y.1,y.2.1⟩,fun i g O P N=>?_,?_,Y⟩
 ·obtain⟨x,D,K,_⟩:=id N;rcases known i x D K with⟨q,z,I,F,R⟩|⟨_,_,y⟩
  ·rcases R with rfl|R
   ·rw[g?_of I]at O;simp_all
   ·exact⟨q,by rw[g?_of I,F],R⟩
  ·simp_all
 ·rw[Deaf_push];simpa[deafStep]using hd
theorem PT.init(h:Past IU B t)(N:0<b)(V:∀l,cls l≠.no->¬IU l)(A:∀l g,cls l=.own g->g=0)(R:∀l,l.isMemory=false->cls l=.no)(F:∀l,cls l=.at->iU l)(M:∀l,IU l->iU l)
  (hrel:cm mu t/\cm wg t):PT b 0 mu wg iU cls t none (fun _=>none):=by
 have J:∀i x,aI t i=some x->cls x.loc≠.no->aB t 0 i:=by
  intro i x K Y;have U:x.loc.isMemory=true:=by
   cases e:x.loc.isMemory with
   |true=>rfl
   |false=>exact absurd (R _ e) Y
  rcases h.known i x K U with y|y
  ·exact y
  ·simp_all
 have only:∀{g:Nat} {i:Nat},aB t 0 i->Started b 0 g->aB t g i:=by
  intro g i hk H;rcases H with rfl|H
  ·omega
  ·omega
 refine⟨h.clean,fun i x K Y=>.inr (.inr fun g H=>only (J i x K (by rw[Y];simp)) H),fun i x K Y hw g H=>only (J i x K (by rw[Y];simp)) H,fun i x g K Y=>?_,fun i x K Y=>.inl fun g H=>only (J i x K (by rw[Y];simp)) H,fun i x K U=>?_,fun k p O=>by simp at O,hrel,trivial,R,F,N⟩
 ·rw[A _ _ Y];simp_all
 ·rcases h.known i x K U with y|⟨y1,y2⟩
  ·exact .inl y
  ·by_cases Y:t.counts i
   ·obtain⟨z,L,S⟩:=cR K;by_cases D:z.g=0
    ·have:=knows_own L;rw[D]at this;exact .inl this
    ·obtain⟨q,P,I⟩:=h.over i z.g (by simp[cK,L]) D Y;obtain⟨y,Q,C⟩:=bM.1 P;exact .inl ⟨q,y,Q,C,.inr I⟩
   ·exact .inr (.inl ⟨M _ y1,y2,Y⟩)
end
end Ph
namespace Lock
structure Word where
 L:Bool
 K:Bool
 S:Bool
 W:Nat
 deriving DecidableEq
def Word.zero:Word:=⟨false,false,false,0⟩
def bn(b:Bool):=if b then 1 else 0
inductive PC where
 |out
 |l0
 |rd (aw sv:Bool) (it:Nat)
 |hw (old:Word) (aw sv:Bool) (it:Nat)
 |c1 (old:Word) (it:Nat)
 |c2 (old:Word) (aw sv:Bool) (it:Nat)
 |s1 (sv:Bool)
 |t2
 |r2 (sv:Bool)
 |a1 (old:Word) (sv:Bool)
 |cr
 |uc (old:Word)
 |ur
 |us
 |uh
def hd(old:Word)(aw sv:Bool)(it:Nat)(kW:Bool):PC:=
 if old.L=true/\old.S=false/\it<4/\kW=true then(if aw=false/\old.K=false/\old.W≠0 then .c1 old it else .rd aw sv (it+1))else .c2 old aw sv it
def hr(m:Word)(aw sv:Bool)(it:Nat):PC:=if m.L=true/\m.S=false then .hw m aw sv it else .c2 m aw sv it
def nw(old:Word)(aw sv:Bool):Word:=
 ⟨if old.S then old.L else true,if aw then false else old.K,old.S||(sv&&old.L),if old.L||old.S then old.W+1 else old.W⟩
def dec(m:Word):PC:=if m.W=0\/m.L=true\/m.K=true\/m.S=true then .out else .uc m
def low(m:Word):={m with L:=false}
inductive Mv:PC->Word->Nat->PC->Word->Nat->Prop where
 |Ey (c:Nat):Mv .l0 .zero c .cr ⟨true,false,false,0⟩ c
 |JP (m:Word) (c:Nat) (h:m≠.zero):Mv .l0 m c (.rd false false 0) m c
 |rd (m:Word) (c:Nat) (aw sv:Bool) (it:Nat):Mv (.rd aw sv it) m c (hr m aw sv it) m c
 |hw (m old:Word) (c:Nat) (aw sv:Bool) (it:Nat) (kW:Bool):Mv (.hw old aw sv it) m c (hd old aw sv it kW) m c
 |JQ (m:Word) (c:Nat) (it:Nat):Mv (.c1 m it) m c (.rd true false (it+1)) {m with K:=true} c
 |JR (m old:Word) (c:Nat) (it:Nat) (h:m≠old):Mv (.c1 old it) m c (.rd false false (it+1)) m c
 |Ez (m:Word) (c:Nat) (aw sv:Bool) (it:Nat):Mv (.c2 m aw sv it) m c (if m.L=false/\m.S=false then .cr else .s1 sv) (nw m aw sv) c
 |JS (m old:Word) (c:Nat) (aw sv:Bool) (it:Nat) (h:m≠old):Mv (.c2 old aw sv it) m c (.rd aw sv it) m c
 |JU (m:Word) (c:Nat):Mv (.s1 false) m (c+1) .t2 m c
 |JV (m:Word) (c:Nat):Mv (.s1 true) m (c+1) (.r2 true) m c
 |t2 (m:Word) (c:Nat) (sv:Bool):Mv .t2 m c (.r2 sv) m c
 |EB (m:Word) (c:Nat) (sv:Bool) (h:m.S=false):Mv (.r2 sv) m c (hr m true sv 0) m c
 |JW (m:Word) (c:Nat) (sv:Bool) (h:m.S=true):Mv (.r2 sv) m c (.a1 m sv) m c
 |a1 (m old:Word) (c:Nat) (sv:Bool):Mv (.a1 old sv) m c .cr ⟨true,m.K,if sv=false\/old.W=1 then false else m.S,m.W-1⟩ c
 |u0 (m:Word) (c:Nat):Mv .cr m c (if m.S=true then .uh else dec (low m)) (low m) c
 |Ba (m:Word) (c:Nat):Mv (.uc m) m c .us {m with W:=m.W-1,K:=true} c
 |Bb (m old:Word) (c:Nat) (h:m≠old):Mv (.uc old) m c .ur m c
 |ur (m:Word) (c:Nat):Mv .ur m c (dec m) m c
 |us (m:Word) (c:Nat):Mv .us m c .out m (c+1)
 |uh (m:Word) (c:Nat):Mv .uh m c .out m (c+1)
def gT(f:PC->Nat)(gE:Nat->PC)
 |0=>0
 |k+1=>gT f gE k+f (gE k)
def put(gE:Nat->PC)(i:Nat)(p:PC):=fun j=>if j=i then p else gE j
theorem Qk(f:PC->Nat)(gE:Nat->PC)(i:Nat)(p:PC):∀n,n<=i->gT f (put gE i p) n=gT f gE n
 |0,_=>rfl
 |n+1,h=>by
  have e:put gE i p n=gE n:=by unfold put;rw[if_neg (by omega)]
  rw[gT,gT,Qk f gE i p n (by omega),e]
theorem tg(f:PC->Nat)(gE:Nat->PC)(i:Nat)(p:PC):∀n,i<n->gT f (put gE i p) n+f (gE i)=gT f gE n+f p
 |0,h=>by omega
 |n+1,h=>by
  rw[gT,gT];by_cases Y:i=n
  ·subst Y;have e:put gE i p i=p:=by unfold put;simp_all
   rw[Qk f gE i p i (ao _),e];omega
  ·have:=tg f gE i p n (by omega);have e:put gE i p n=gE n:=by unfold put;rw[if_neg (by omega)]
   rw[e];omega
theorem mR(f:PC->Nat)(gE:Nat->PC):∀n i,i<n->f (gE i)<=gT f gE n
 |0,i,h=>by omega
 |n+1,i,h=>by
  rw[gT];by_cases Y:i=n
  ·simp_all
  ·have:=mR f gE n i (by omega);omega
theorem Hz(f:PC->Nat)(gE:Nat->PC):∀n i j,i<n->j<n->i≠j->f (gE i)+f (gE j)<=gT f gE n
 |0,i,j,h,_,_=>by omega
 |n+1,i,j,h,k,Y=>by
  rw[gT];by_cases K:i=n
  ·subst K;have:=mR f gE i j (by omega);omega
  ·by_cases H:j=n
   ·subst H;have:=mR f gE j i (by omega);omega
   ·have:=Hz f gE n i j (by omega) (by omega) Y;omega
theorem Ql(f:PC->Nat)(gE:Nat->PC):∀n,0<gT f gE n->∃i,i<n/\0<f (gE i)
 |0,h=>by simp[gT]at h
 |n+1,h=>by
  rw[gT]at h;by_cases Y:0<f (gE n)
  ·exact⟨n,by omega,Y⟩
  ·obtain⟨i,H,K⟩:=Ql f gE n (by omega);exact⟨i,by omega,K⟩
def jw:PC->Nat|.cr=>1|_=>0
def jq:PC->Nat|.rd aw _ _=>bn aw|.hw _ aw _ _=>bn aw|.c2 _ aw _ _=>bn aw|_=>0
def gS:PC->Nat|.r2 _=>1|.t2=>1|_=>0
def iJ:PC->Nat|.a1 .. =>1|_=>0
def ji:PC->Nat|.s1 _=>1|_=>0
def km:PC->Nat|.uc _=>1|.ur=>1|_=>0
def jE:PC->Nat|.us=>1|_=>0
def jT:PC->Nat|.uh=>1|_=>0
def Ok(m:Word):PC->Prop
 |.rd aw sv it=>(sv=true->aw=true)/\it<=4
 |.hw old aw sv it=>(sv=true->aw=true)/\(aw=true->old.K=true)/\it<=4/\old.L=true/\old.S=false
 |.c1 old it=>old.L=true/\old.S=false/\old.K=false/\0<old.W/\it<4
 |.c2 old aw sv it=>(sv=true->aw=true)/\(aw=true->old.K=true)/\it<=4
 |.a1 old sv=>0<old.W/\old.W<=m.W
 |.uc old=>old.L=false/\old.S=false/\old.K=false/\0<old.W
 |_=>True
structure Inv(gE:Nat->PC)(n:Nat)(m:Word)(c:Nat):Prop where
 ok:∀i,i<n->Ok m (gE i)
 held:gT jw gE n=bn m.L
 calm:m.S=false->bn m.K=gT jq gE n+gT gS gE n+c+gT jE gE n/\gT ji gE n=m.W+c+gT jE gE n/\gT jT gE n=0/\gT iJ gE n=0/\(m.L=false->m.K=false->0<m.W->0<gT km gE n)
 lF:m.S=true->m.K=false/\gT jq gE n=0/\gT jE gE n=0/\bn m.L+gT jT gE n+c+gT gS gE n+gT iJ gE n=1/\gT ji gE n+gT gS gE n+gT iJ gE n=m.W/\0<m.W
theorem Inv.one{gE:Nat->PC}{n:Nat}{m:Word}{c:Nat}(h:Inv gE n m c){j:Nat}(A:i<n)(F:j<n)(H:gE i=.cr)(R:gE j=.cr):i=j:=by
 by_cases Y:i=j
 ·omega
 ·have:=Hz jw gE n i j A F Y;rw[H,R,h.held]at this;have K:jw .cr=1:=rfl;have:bn m.L<=1:=by unfold bn;split<;>omega
  omega
theorem rj(b:Bool):bn b<=1:=by unfold bn;split<;>omega
theorem Inv.live{gE:Nat->PC}{n:Nat}{m:Word}{c:Nat}(h:Inv gE n m c)(V:i<n){sv:Bool}(F:gE i=.s1 sv)(G:c=0):
  ∃j,j<n/\(∀sv,gE j≠.s1 sv)/\gE j≠.out:=by
 have T:=mR ji gE n i V;rw[F]at T;have X:ji (.s1 sv)=1:=rfl;have fin:∀f,(∀sv,f (.s1 sv)=0)->f .out=0->0<gT f gE n->∃j,j<n/\(∀sv,gE j≠.s1 sv)/\gE j≠.out:=by
  intro f f1 f2 Q;obtain⟨j,P,O⟩:=Ql f gE n Q;refine⟨j,P,fun sv e=>?_,fun e=>?_⟩
  ·rw[e,f1]at O;omega
  ·simp_all
 have M:=h.held;by_cases Y:m.L=true
 ·exact fin jw (fun _=>rfl) rfl (by rw[M,Y];decide)
 ·rw[cy]at Y;by_cases D:m.S=true
  ·obtain⟨A,C,J,U,B,Z⟩:=h.lF D;rw[Y]at U;have N:bn false=0:=rfl;by_cases I:0<gT jT gE n
   ·exact fin _ (fun _=>rfl) rfl I
   ·by_cases R:0<gT gS gE n
    ·exact fin gS (fun _=>rfl) rfl R
    ·exact fin iJ (fun _=>rfl) rfl (by omega)
  ·rw[cy]at D;obtain⟨A,C,J,U,B⟩:=h.calm D;by_cases I:0<gT jE gE n
   ·exact fin _ (fun _=>rfl) rfl I
   ·by_cases H:m.K=true
    ·rw[H]at A;have N:bn true=1:=rfl;by_cases R:0<gT gS gE n
     ·exact fin gS (fun _=>rfl) rfl R
     ·exact fin jq (fun _=>rfl) rfl (by omega)
    ·rw[cy]at H;exact fin _ (fun _=>rfl) rfl (B Y H (by omega))
theorem adF{m m':Word}(h:m.W<=m'.W){p:PC}(k:Ok m p):Ok m' p:=by
 cases p with
 |a1 old sv=>exact⟨k.1,aQ k.2 h⟩
 |_=>exact k
theorem ma{gE:Nat->PC}{n:Nat}{m m':Word}{c:Nat}{p':PC}(h:Inv gE n m c)(R:Ok m' p')(Y:m.W<=m'.W\/∀j,j<n->j≠i->iJ (gE j)=0):
  ∀j,j<n->Ok m' (put gE i p' j):=by
 intro j H;unfold put;split
 ·omega
 ·rename_i K;have k:=h.ok j H;rcases Y with Y|Y
  ·exact adF Y k
  ·have:=Y j H K;generalize gE j=p at *;cases p with
   |a1 old sv=>simp[iJ]at this
   |_=>exact k
theorem adG{gE:Nat->PC}{n:Nat}(h:gT iJ gE n=0):∀j,j<n->j≠i->iJ (gE j)=0:=fun j Y _=>by
 have:=mR iJ gE n j Y;omega
theorem afX{gE:Nat->PC}{n:Nat}(H:i<n)(h:gT iJ gE n<=1)(R:iJ (gE i)=1):∀j,j<n->j≠i->iJ (gE j)=0:=fun j K Y=>by
 have:=Hz iJ gE n i j H K (fun e=>Y e.symm);omega
structure ajm(gE:Nat->PC)(n i:Nat)(p p':PC):Prop where
 H:gT jw (put gE i p') n+jw p=gT jw gE n+jw p'
 A:gT jq (put gE i p') n+jq p=gT jq gE n+jq p'
 G:gT gS (put gE i p') n+gS p=gT gS gE n+gS p'
 Ga:gT iJ (put gE i p') n+iJ p=gT iJ gE n+iJ p'
 Q:gT ji (put gE i p') n+ji p=gT ji gE n+ji p'
 U1:gT km (put gE i p') n+km p=gT km gE n+km p'
 U2:gT jE (put gE i p') n+jE p=gT jE gE n+jE p'
 U3:gT jT (put gE i p') n+jT p=gT jT gE n+jT p'
 gH:jw p<=gT jw gE n
 gA:jq p<=gT jq gE n
 gG:gS p<=gT gS gE n
 mz:iJ p<=gT iJ gE n
 gQ:ji p<=gT ji gE n
 gU1:km p<=gT km gE n
 gU2:jE p<=gT jE gE n
 gU3:jT p<=gT jT gE n
theorem nC{gE:Nat->PC}{n:Nat}{p:PC}(Y:i<n)(e:gE i=p)(p':PC):ajm gE n i p p':=by
 subst e;exact⟨tg _ _ _ _ _ Y,tg _ _ _ _ _ Y,tg _ _ _ _ _ Y,tg _ _ _ _ _ Y,tg _ _ _ _ _ Y,tg _ _ _ _ _ Y,tg _ _ _ _ _ Y,tg _ _ _ _ _ Y,
  mR _ _ _ _ Y,mR _ _ _ _ Y,mR _ _ _ _ Y,mR _ _ _ _ Y,mR _ _ _ _ Y,mR _ _ _ _ Y,mR _ _ _ _ Y,mR _ _ _ _ Y⟩
theorem sQ{gE:Nat->PC}{n:Nat}{m:Word}{c:Nat}{p p':PC}(h:Inv gE n m c)(F:i<n)(e:gE i=p)(R:Ok m p')
  (V:jw p'=jw p)(W:jq p'=jq p)(z:gS p'=gS p)(a:iJ p'=iJ p)(h5:ji p'=ji p)(h6:km p'=km p)(h7:jE p'=jE p)(h8:jT p'=jT p):Inv (put gE i p') n m c:=by
 have s:=nC F e p';have P:=s.H;have N:=s.A;have O:=s.G;have K:=s.Ga;have S:=s.Q;have J:=s.U1;have L:=s.U2;have M:=s.U3;refine⟨ma h R (.inl (ao _)),?_,fun Y=>?_,fun Y=>?_⟩
 ·have:=h.held;omega
 ·obtain⟨D,I,U,B,C⟩:=h.calm Y;simp_all
 ·obtain⟨D,I,U,B,C,T⟩:=h.lF Y;simp_all
theorem abQ(m:Word)(aw sv:Bool)(it:Nat)(kW:Bool):jw (hd m aw sv it kW)=0/\jq (hd m aw sv it kW)=bn aw/\gS (hd m aw sv it kW)=0/\iJ (hd m aw sv it kW)=0/\ji (hd m aw sv it kW)=0/\km (hd m aw sv it kW)=0/\jE (hd m aw sv it kW)=0/\jT (hd m aw sv it kW)=0:=by
 unfold hd;split
 ·split
  ·rename_i h;rw[h.1];exact⟨rfl,rfl,rfl,rfl,rfl,rfl,rfl,rfl⟩
  ·exact⟨rfl,rfl,rfl,rfl,rfl,rfl,rfl,rfl⟩
 ·exact⟨rfl,rfl,rfl,rfl,rfl,rfl,rfl,rfl⟩
theorem ahC(m:Word)(aw sv:Bool)(it:Nat)(kW:Bool)(Y:sv=true->aw=true)(H:aw=true->m.K=true)(R:it<=4):Ok m (hd m aw sv it kW):=by
 unfold hd;split
 ·rename_i h;split
  ·rename_i k;exact⟨h.1,h.2.1,k.2.1,cE k.2.2,h.2.2.1⟩
  ·exact⟨Y,by omega⟩
 ·exact⟨Y,H,R⟩
theorem Pn(m:Word)(aw sv:Bool)(it:Nat):jw (hr m aw sv it)=0/\jq (hr m aw sv it)=bn aw/\gS (hr m aw sv it)=0/\iJ (hr m aw sv it)=0/\ji (hr m aw sv it)=0/\km (hr m aw sv it)=0/\jE (hr m aw sv it)=0/\jT (hr m aw sv it)=0:=by
 unfold hr;split<;>exact⟨rfl,rfl,rfl,rfl,rfl,rfl,rfl,rfl⟩
theorem R4(m:Word)(aw sv:Bool)(it:Nat)(Y:sv=true->aw=true)(H:aw=true->m.K=true)(R:it<=4):Ok m (hr m aw sv it):=by
 unfold hr;split
 ·rename_i h;exact⟨Y,H,R,h.1,h.2⟩
 ·exact⟨Y,H,R⟩
theorem awake{gE:Nat->PC}{n:Nat}{m:Word}{c:Nat}{p:PC}(h:Inv gE n m c)(R:i<n)(e:gE i=p)(Y:0<jq p\/(0<gS p/\m.S=false)):m.K=true/\m.S=false:=by
 have g1:=mR jq gE n i R;have D:=mR gS gE n i R;rw[e]at g1 D;have H:m.S=false:=by
  rcases Y with Y|Y
  ·cases A:m.S with
   |false=>rfl
   |true=>have:=(h.lF A).2.1;omega
  simp_all
 refine⟨?_,H⟩;cases I:m.K with
 |true=>rfl
 |false=>
  have k:=(h.calm H).1;rw[I]at k;have:bn false=0:=rfl;omega
def JX(m:Word):PC->Prop
 |.rd aw _ _=>aw=true->m.K=true
 |.r2 _=>(m.S=true->m.L=false/\m.K=false/\0<m.W)/\(m.S=false->m.K=true)
 |.a1 _ _=>m.L=false/\m.S=true/\0<m.W
 |.cr=>m.L=true
 |_=>True
theorem Inv.pre{gE:Nat->PC}{n:Nat}{m:Word}{c:Nat}(h:Inv gE n m c)(H:i<n):JX m (gE i):=by
 have gH:=mR jw gE n i H;have gG:=mR gS gE n i H;have mz:=mR iJ gE n i H;have b0:bn false=0:=rfl;have A:bn true=1:=rfl;cases e:gE i with
 |rd aw sv it=>exact fun U=>(awake h H e (.inl (by simp[jq,U,A]))).1
 |r2 sv=>
  rw[e]at gG;simp[gS]at gG;refine⟨fun Y=>?_,fun Y=>(awake h H e (.inr ⟨by simp[gS],Y⟩)).1⟩;obtain⟨I,B,C,D,F,R⟩:=h.lF Y;refine⟨?_,I,R⟩;cases K:m.L with
  |false=>rfl
  |true=>rw[K]at D;omega
 |a1 old sv=>
  rw[e]at mz;simp[iJ]at mz;have Y:m.S=true:=by
   cases Y:m.S with
   |true=>rfl
   |false=>have:=(h.calm Y).2.2.2.1;omega
  obtain⟨I,B,C,D,F,R⟩:=h.lF Y;refine⟨?_,Y,R⟩;cases K:m.L with
  |false=>rfl
  |true=>rw[K]at D;omega
 |cr=>
  rw[e]at gH;simp[jw]at gH;have:=h.held;show m.L=true
  cases K:m.L with
  |true=>rfl
  |false=>rw[K]at this;omega
 |_=>trivial
theorem Inv.step{gE:Nat->PC}{n i:Nat}{m m':Word}{c c':Nat}{p p':PC}(h:Inv gE n m c)(R:i<n)(e:gE i=p)(hm:Mv p m c p' m' c'):Inv (put gE i p') n m' c':=by
 have I:=h.ok i R;rw[e]at I;have b0:bn false=0:=rfl;have u:bn true=1:=rfl;cases hm with
 |Ey=>
  have s:=nC R e .cr;obtain⟨O,sA,sG,D,P,s1,M,N,gH,gA,gG,mz,gQ,g1,Q,T⟩:=s;simp only[jw,jq,gS,iJ,ji,km,jE,jT]at *;obtain⟨H,C,F,A,U⟩:=h.calm rfl;have B:=h.held;simp only[Word.zero]at *;exact⟨ma h trivial (.inl (ao _)),by simp only;omega,fun _=>⟨by simp only;omega,by simp only;omega,by omega,by omega,fun a=>by simp at a⟩,fun a=>by simp at a⟩
 |JP _ _ E=>exact sQ h R e ⟨fun a=>by simp at a,by omega⟩ rfl rfl rfl rfl rfl rfl rfl rfl
 |rd _ _ aw sv it=>
  have X:aw=true->m.K=true:=fun l=>(awake h R e (.inl (by simp[jq,l,u]))).1;obtain⟨a1,a2,a3,a4,a5,j,z,f⟩:=Pn m aw sv it;exact sQ h R e (R4 m aw sv it I.1 X I.2) a1 a2 a3 a4 a5 j z f
 |hw _ old _ aw sv it kW=>
  obtain⟨a1,a2,a3,a4,a5,j,z,f⟩:=abQ old aw sv it kW;have hk:Ok old (hd old aw sv it kW):=ahC old aw sv it kW I.1 I.2.1 I.2.2.1;refine sQ h R e ?_ a1 a2 a3 a4 a5 j z f;generalize hd old aw sv it kW=p at *;cases p with
  |a1 o s=>simp[iJ]at a4
  |_=>exact hk
 |JQ _ _ it=>
  obtain⟨r,G,g,t,q5⟩:=I;have s:=nC R e (.rd true false (it+1));obtain⟨O,sA,sG,D,P,s1,M,N,gH,gA,gG,mz,gQ,g1,Q,T⟩:=s;simp only[jw,jq,gS,iJ,ji,km,jE,jT]at *;obtain⟨H,C,F,A,U⟩:=h.calm G;have B:=h.held;rw[g]at H;exact⟨ma h ⟨fun _=>rfl,by omega⟩ (.inl (ao _)),by simp only;omega,fun _=>⟨by simp only;omega,by simp only;omega,by omega,by omega,fun a b=>by simp at b⟩,fun a=>by simp only at a;rw[G]at a;cases a⟩
 |JR _ _ _ it E=>exact sQ h R e ⟨fun a=>by simp at a,by have:=I.2.2.2.2;omega⟩ rfl rfl rfl rfl rfl rfl rfl rfl
 |Ez _ _ aw sv it=>
  obtain⟨r,G,g⟩:=I;have w:jq (.c2 m aw sv it)=bn aw:=rfl;cases J:m.L with
  |false=>
   cases Y:m.S with
   |false=>
    rw[if_pos ⟨rfl,rfl⟩];have s:=nC R e .cr;obtain⟨O,sA,sG,D,P,s1,M,N,gH,gA,gG,mz,gQ,g1,Q,T⟩:=s;simp only[jw,jq,gS,iJ,ji,km,jE,jT]at *;obtain⟨H,C,F,A,U⟩:=h.calm Y;have B:=h.held;rw[J]at B;have en:nw m aw sv=⟨true,if aw then false else m.K,false,m.W⟩:=by unfold nw;rw[J,Y];simp
    rw[en];refine⟨ma h trivial (.inl (ao _)),by simp only;omega,fun _=>⟨?_,by simp only;omega,by omega,by omega,fun a=>by simp at a⟩,fun a=>by simp at a⟩;cases aw with
    |false=>simp only[cx,if_false];omega
    |true=>
     rw[G rfl]at H;simp only[if_true];omega
   |true=>
    rw[if_neg (by simp)];have s:=nC R e (.s1 sv);obtain⟨O,sA,sG,D,P,s1,M,N,gH,gA,gG,mz,gQ,g1,Q,T⟩:=s;simp only[jw,jq,gS,iJ,ji,km,jE,jT]at *;obtain⟨H,C,F,A,U,V⟩:=h.lF Y;have B:=h.held;have X:aw=false:=by
     cases aw with
     |false=>rfl
     |true=>omega
    subst X;rw[J]at B A;have en:nw m false sv=⟨false,m.K,true,m.W+1⟩:=by unfold nw;rw[J,Y];simp
    rw[en];exact⟨ma h trivial (.inl (by simp)),by simp only;omega,fun a=>by simp at a,fun _=>⟨H,by omega,by omega,by simp only;omega,by simp only;omega,by simp⟩⟩
  |true=>
   rw[if_neg (by simp)];have s:=nC R e (.s1 sv);obtain⟨O,sA,sG,D,P,s1,M,N,gH,gA,gG,mz,gQ,g1,Q,T⟩:=s;simp only[jw,jq,gS,iJ,ji,km,jE,jT]at *;have B:=h.held;rw[J]at B;cases Y:m.S with
   |false=>
    obtain⟨H,C,F,A,U⟩:=h.calm Y;cases sv with
    |false=>
     have en:nw m aw false=⟨true,if aw then false else m.K,false,m.W+1⟩:=by unfold nw;rw[J,Y];simp
     rw[en];refine⟨ma h trivial (.inl (by simp)),by simp only;omega,fun _=>⟨?_,by simp only;omega,by omega,by omega,fun a=>by simp at a⟩,fun a=>by simp at a⟩;cases aw with
     |false=>simp only[cx,if_false];omega
     |true=>
      rw[G rfl]at H;simp only[if_true];omega
    |true=>
     have X:=r rfl;subst X;rw[G rfl]at H;have en:nw m true true=⟨true,false,true,m.W+1⟩:=by unfold nw;rw[J,Y];simp
     rw[en];exact⟨ma h trivial (.inl (by simp)),by simp only;omega,fun a=>by simp at a,fun _=>⟨rfl,by omega,by omega,by simp only;omega,by simp only;omega,by simp⟩⟩
   |true=>
    obtain⟨H,C,F,A,U,V⟩:=h.lF Y;have X:aw=false:=by
     cases aw with
     |false=>rfl
     |true=>omega
    subst X;rw[J]at A;have en:nw m false sv=⟨true,m.K,true,m.W+1⟩:=by unfold nw;rw[J,Y];simp
    rw[en];exact⟨ma h trivial (.inl (by simp)),by simp only;omega,fun a=>by simp at a,fun _=>⟨H,by omega,by omega,by simp only;omega,by simp only;omega,by simp⟩⟩
 |JS _ _ _ aw sv it E=>exact sQ h R e ⟨I.1,I.2.2⟩ rfl rfl rfl rfl rfl rfl rfl rfl
 |JU=>
  have s:=nC R e .t2;obtain⟨O,sA,sG,D,P,s1,M,N,gH,gA,gG,mz,gQ,g1,Q,T⟩:=s;simp only[jw,jq,gS,iJ,ji,km,jE,jT]at *;have B:=h.held;refine⟨ma h trivial (.inl (ao _)),by omega,fun Y=>?_,fun Y=>?_⟩
  ·obtain⟨H,C,F,A,U⟩:=h.calm Y;exact⟨by omega,by omega,by omega,by omega,fun a b d=>by have:=U a b d;omega⟩
  ·obtain⟨H,C,F,A,U,V⟩:=h.lF Y;exact⟨H,by omega,by omega,by omega,by omega,V⟩
 |JV=>
  have s:=nC R e (.r2 true);obtain⟨O,sA,sG,D,P,s1,M,N,gH,gA,gG,mz,gQ,g1,Q,T⟩:=s;simp only[jw,jq,gS,iJ,ji,km,jE,jT]at *;have B:=h.held;refine⟨ma h trivial (.inl (ao _)),by omega,fun Y=>?_,fun Y=>?_⟩
  ·obtain⟨H,C,F,A,U⟩:=h.calm Y;exact⟨by omega,by omega,by omega,by omega,fun a b d=>by have:=U a b d;omega⟩
  ·obtain⟨H,C,F,A,U,V⟩:=h.lF Y;exact⟨H,by omega,by omega,by omega,by omega,V⟩
 |t2 _ _ sv=>exact sQ h R e trivial rfl rfl rfl rfl rfl rfl rfl rfl
 |EB _ _ sv Y=>
  have l:=awake h R e (.inr ⟨by simp[gS],Y⟩);obtain⟨a1,a2,a3,a4,a5,j,z,f⟩:=Pn m true sv 0;have s:=nC R e (hr m true sv 0);obtain⟨O,sA,sG,D,P,s1,M,N,gH,gA,gG,mz,gQ,g1,Q,T⟩:=s;rw[a1]at O;rw[a2]at sA;rw[a3]at sG;rw[a4]at D;rw[a5]at P;rw[j]at s1;rw[z]at M;rw[f]at N;simp only[jw,jq,gS,iJ,ji,km,jE,jT]at *;have B:=h.held;obtain⟨H,C,F,A,U⟩:=h.calm Y;exact⟨ma h (R4 m true sv 0 (fun _=>rfl) (fun _=>l.1) (by omega)) (.inl (ao _)),by omega,fun _=>⟨by omega,by omega,by omega,by omega,fun a b d=>by have:=U a b d;omega⟩,fun a=>by rw[Y]at a;cases a⟩
 |JW _ _ sv Y=>
  have s:=nC R e (.a1 m sv);obtain⟨O,sA,sG,D,P,s1,M,N,gH,gA,gG,mz,gQ,g1,Q,T⟩:=s;simp only[jw,jq,gS,iJ,ji,km,jE,jT]at *;have B:=h.held;obtain⟨H,C,F,A,U,V⟩:=h.lF Y;exact⟨ma h ⟨V,ao _⟩ (.inl (ao _)),by omega,(fun a=>by rw[Y]at a;cases a),fun _=>⟨H,by omega,by omega,by omega,by omega,V⟩⟩
 |a1 _ old _ sv=>
  have s:=nC R e .cr;obtain⟨O,sA,sG,D,P,s1,M,N,gH,gA,gG,mz,gQ,g1,Q,T⟩:=s;simp only[jw,jq,gS,iJ,ji,km,jE,jT]at *;have B:=h.held;have Y:m.S=true:=by
   cases Y:m.S with
   |true=>rfl
   |false=>have:=(h.calm Y).2.2.2.1;omega
  obtain⟨H,C,F,A,U,V⟩:=h.lF Y;have J:m.L=false:=by
   cases J:m.L with
   |false=>rfl
   |true=>rw[J]at A;omega
  rw[J]at A B;have y:0<old.W/\old.W<=m.W:=I;refine⟨ma h trivial (.inr (afX R (by omega) (by rw[e];rfl))),by simp only;omega,?_,?_⟩
  ·intro Z;simp only at Z⊢;rw[H];exact⟨by omega,by omega,by omega,by omega,fun a=>by simp at a⟩
  ·intro Z;simp only at Z⊢;split at Z
   ·simp at Z
   ·rename_i E;have k:¬old.W=1:=fun x=>E (.inr x);exact⟨H,by omega,by omega,by omega,by omega,by omega⟩
 |u0=>
  have B:=h.held;have l1:bn (low m).L=0:=rfl;have l2:(low m).W=m.W:=rfl;have l3:bn (low m).K=bn m.K:=rfl;have l4:(low m).S=m.S:=rfl;have gH:=mR jw gE n i R;rw[e]at gH;have J:m.L=true:=by
   cases J:m.L with
   |true=>rfl
   |false=>rw[J]at B;simp only[jw]at gH;omega
  rw[J]at B;cases Y:m.S with
  |true=>
   rw[if_pos rfl];have s:=nC R e .uh;obtain⟨O,sA,sG,D,P,s1,M,N,gH,gA,gG,mz,gQ,g1,Q,T⟩:=s;simp only[jw,jq,gS,iJ,ji,km,jE,jT]at *;obtain⟨H,C,F,A,U,V⟩:=h.lF Y;rw[J]at A;exact⟨ma h trivial (.inl (ao _)),by omega,(fun a=>by rw[l4,Y]at a;cases a),fun _=>⟨H,by omega,by omega,by omega,by omega,V⟩⟩
  |false=>
   rw[if_neg (by simp)];obtain⟨H,C,F,A,U⟩:=h.calm Y;by_cases hd:m.W=0\/m.K=true
   ·have q:dec (low m)=.out:=by
     unfold dec;rw[if_pos];rcases hd with hd|hd
     ·exact .inl hd
     ·exact .inr (.inr (.inl hd))
    rw[q];have s:=nC R e .out;obtain⟨O,sA,sG,D,P,s1,M,N,gH,gA,gG,mz,gQ,g1,Q,T⟩:=s;simp only[jw,jq,gS,iJ,ji,km,jE,jT]at *;refine⟨ma h trivial (.inl (ao _)),by omega,fun _=>⟨by omega,by omega,by omega,by omega,fun _ a b=>?_⟩,fun a=>by rw[l4,Y]at a;cases a⟩;rcases hd with hd|hd
    ·omega
    ·have a':m.K=false:=a;rw[hd]at a';cases a'
   ·have q:dec (low m)=.uc (low m):=by
     unfold dec;rw[if_neg];rintro(x|x|x|x)
     ·exact hd (.inl x)
     ·simp[low]at x
     ·exact hd (.inr x)
     ·rw[l4,Y]at x;cases x
    rw[q];have s:=nC R e (.uc (low m));obtain⟨O,sA,sG,D,P,s1,M,N,gH,gA,gG,mz,gQ,g1,Q,T⟩:=s;simp only[jw,jq,gS,iJ,ji,km,jE,jT]at *;have v:m.K=false:=by simpa using fun x=>hd (.inr x)
    refine⟨ma h ⟨rfl,Y,v,cE fun x=>hd (.inl x)⟩ (.inl (ao _)),by omega,fun _=>⟨by omega,by omega,by omega,by omega,fun _ _ _=>by omega⟩,fun a=>by rw[l4,Y]at a;cases a⟩
 |Ba=>
  obtain⟨r,G,g,t⟩:=I;have s:=nC R e .us;obtain⟨O,sA,sG,D,P,s1,M,N,gH,gA,gG,mz,gQ,g1,Q,T⟩:=s;simp only[jw,jq,gS,iJ,ji,km,jE,jT]at *;have B:=h.held;obtain⟨H,C,F,A,U⟩:=h.calm G;rw[g]at H;exact⟨ma h trivial (.inr (adG A)),by simp only;omega,fun _=>⟨by simp only;omega,by simp only;omega,by omega,by omega,fun a b=>by simp at b⟩,fun a=>by simp only at a;rw[G]at a;cases a⟩
 |Bb _ old _ E=>exact sQ h R e trivial rfl rfl rfl rfl rfl rfl rfl rfl
 |ur=>
  by_cases hd:m.W=0\/m.L=true\/m.K=true\/m.S=true
  ·have q:dec m=.out:=if_pos hd;rw[q];have s:=nC R e .out;obtain⟨O,sA,sG,D,P,s1,M,N,gH,gA,gG,mz,gQ,g1,Q,T⟩:=s;simp only[jw,jq,gS,iJ,ji,km,jE,jT]at *;have B:=h.held;refine⟨ma h trivial (.inl (ao _)),by omega,fun Y=>?_,fun Y=>?_⟩
   ·obtain⟨H,C,F,A,U⟩:=h.calm Y;refine⟨by omega,by omega,by omega,by omega,fun a b d=>?_⟩;rcases hd with x|x|x|x
    ·omega
    ·rw[a]at x;cases x
    ·rw[b]at x;cases x
    ·rw[Y]at x;cases x
   ·obtain⟨H,C,F,A,U,V⟩:=h.lF Y;exact⟨H,by omega,by omega,by omega,by omega,V⟩
  ·have q:dec m=.uc m:=if_neg hd;rw[q];refine sQ h R e ⟨?_,?_,?_,cE fun x=>hd (.inl x)⟩ rfl rfl rfl rfl rfl rfl rfl rfl
   ·simpa using fun x=>hd (.inr (.inl x))
   ·simpa using fun x=>hd (.inr (.inr (.inr x)))
   ·simpa using fun x=>hd (.inr (.inr (.inl x)))
 |us=>
  have s:=nC R e .out;obtain⟨O,sA,sG,D,P,s1,M,N,gH,gA,gG,mz,gQ,g1,Q,T⟩:=s;simp only[jw,jq,gS,iJ,ji,km,jE,jT]at *;have B:=h.held;refine⟨ma h trivial (.inl (ao _)),by omega,fun Y=>?_,fun Y=>?_⟩
  ·obtain⟨H,C,F,A,U⟩:=h.calm Y;exact⟨by omega,by omega,by omega,by omega,fun a b d=>by have:=U a b d;omega⟩
  ·obtain⟨H,C,F,A,U,V⟩:=h.lF Y;omega
 |uh=>
  have s:=nC R e .out;obtain⟨O,sA,sG,D,P,s1,M,N,gH,gA,gG,mz,gQ,g1,Q,T⟩:=s;simp only[jw,jq,gS,iJ,ji,km,jE,jT]at *;have B:=h.held;refine⟨ma h trivial (.inl (ao _)),by omega,fun Y=>?_,fun Y=>?_⟩
  ·have:=(h.calm Y).2.2.1;omega
  ·obtain⟨H,C,F,A,U,V⟩:=h.lF Y;exact⟨H,by omega,by omega,by omega,by omega,V⟩
def iH:PC->Nat
 |.out=>0|.cr=>1|.uc _=>0|.ur=>0|.us=>0|.uh=>0
 |_=>2
def bw:PC->Nat
 |.out=>0|.l0=>6|.rd aw _ _=>5-bn aw|.hw _ aw _ _=>5-bn aw|.c1 .. =>5|.c2 _ aw _ _=>5-bn aw|.s1 _=>0|.t2=>6|.r2 _=>5|.a1 .. =>4|.cr=>0|.uc _=>9|.ur=>9|.us=>8|.uh=>8
def dw(m:Word):PC->Nat
 |.rd _ _ it=>2 *(5-it)
 |.hw old _ _ it=>if old=m then 2 *(5-it)-1 else 2 *(5-it)+2
 |.c1 old it=>if old=m then 0 else 2 *(5-it)-1
 |.c2 old _ _ it=>if old=m then 0 else 2 *(5-it)+1
 |.uc old=>if old=m then 1 else 3
 |.ur=>2
 |_=>0
theorem adH(m old:Word)(aw sv:Bool)(it:Nat)(kW:Bool)(h:it<=4):iH (hd old aw sv it kW)=2/\bw (hd old aw sv it kW)=5-bn aw/\dw m (hd old aw sv it kW)<dw m (.hw old aw sv it):=by
 unfold hd;split
 ·split
  ·rename_i Y;refine⟨rfl,by rw[Y.1];rfl,?_⟩;simp only[dw];split<;>omega
  ·refine⟨rfl,rfl,?_⟩;simp only[dw];split<;>omega
 ·refine⟨rfl,rfl,?_⟩;simp only[dw];split<;>omega
theorem Qm(m:Word)(aw sv:Bool)(it:Nat)(h:it<=4):iH (hr m aw sv it)=2/\bw (hr m aw sv it)=5-bn aw/\dw m (hr m aw sv it)<2 *(5-it):=by
 unfold hr;split
 ·refine⟨rfl,rfl,?_⟩;simp[dw,if_true];omega
 ·refine⟨rfl,rfl,?_⟩;simp[dw,if_true];omega
theorem Mv.down{p p':PC}{m m':Word}{c:Nat}(h:Mv p m c p' m' c')(H:Ok m p):
  iH p'<iH p\/(iH p'=iH p/\bw p'+7 *c'<bw p+7 *c)\/(iH p'=iH p/\bw p'+7 *c'=bw p+7 *c/\m'=m/\c'=c/\dw m p'<dw m p):=by
 have b0:bn false=0:=rfl;have A:bn true=1:=rfl;cases h with
 |Ey=>exact .inl (by decide)
 |JP=>exact .inr (.inl ⟨rfl,by simp only[bw];omega⟩)
 |rd _ _ aw sv it=>
  obtain⟨K,D,R⟩:=Qm m aw sv it H.2;exact .inr (.inr ⟨K,by rw[D];rfl,rfl,rfl,R⟩)
 |hw _ old _ aw sv it kW=>
  obtain⟨K,D,R⟩:=adH m old aw sv it kW H.2.2.1;exact .inr (.inr ⟨K,by rw[D];rfl,rfl,rfl,R⟩)
 |JQ _ _ it=>exact .inr (.inl ⟨rfl,by simp only[bw];omega⟩)
 |JR _ old _ it Y=>
  have:=H.2.2.2.2;refine .inr (.inr ⟨rfl,by simp only[bw];omega,rfl,rfl,?_⟩);simp only[dw];rw[if_neg (fun e=>Y e.symm)];omega
 |Ez _ _ aw sv it=>
  by_cases I:m.L=false/\m.S=false
  ·rw[if_pos I];exact .inl (by simp only[iH];omega)
  ·rw[if_neg I];refine .inr (.inl ⟨rfl,?_⟩);simp only[bw];have:=rj aw;omega
 |JS _ old _ aw sv it Y=>
  refine .inr (.inr ⟨rfl,rfl,rfl,rfl,?_⟩);simp only[dw];rw[if_neg (fun e=>Y e.symm)];omega
 |JU=>exact .inr (.inl ⟨rfl,by simp only[bw];omega⟩)
 |JV=>exact .inr (.inl ⟨rfl,by simp only[bw];omega⟩)
 |t2=>exact .inr (.inl ⟨rfl,by simp only[bw];omega⟩)
 |EB _ _ sv U=>
  obtain⟨K,D,R⟩:=Qm m true sv 0 (by omega);exact .inr (.inl ⟨K,by rw[D];simp only[bw];omega⟩)
 |JW=>exact .inr (.inl ⟨rfl,by simp only[bw];omega⟩)
 |a1=>exact .inl (by simp only[iH];omega)
 |u0=>
  refine .inl ?_;split
  ·decide
  ·unfold dec;split<;>(simp only[iH];omega)
 |Ba=>exact .inr (.inl ⟨rfl,by simp only[bw];omega⟩)
 |Bb _ old _ Y=>
  refine .inr (.inr ⟨rfl,rfl,rfl,rfl,?_⟩);simp only[dw];rw[if_neg (fun e=>Y e.symm)];omega
 |ur=>
  unfold dec;split
  ·exact .inr (.inl ⟨rfl,by simp only[bw];omega⟩)
  ·refine .inr (.inr ⟨rfl,rfl,rfl,rfl,?_⟩);simp only[dw,if_true];omega
 |us=>exact .inr (.inl ⟨rfl,by simp only[bw];omega⟩)
 |uh=>exact .inr (.inl ⟨rfl,by simp only[bw];omega⟩)
end Lock
namespace Ph
open Lock (Word bn)
def val(m:Word):Int:=(bn m.L+2 *bn m.K+4 *bn m.S+8 *m.W:Nat)
end Ph
namespace Ph
open Conc Ren
open Lock (Word PC Mv bn)
structure Env where
 Fd:Nat
 Mp:Nat
 Wg:Nat
 tF:aA
 tW:aA
 zc:ai
 Γ:Type
 upd:Γ->Nat->Γ
 mi:Γ->Option Obj->Prop
namespace Env
variable(E:Env)
abbrev mu:Addr:=⟨E.Fd,0,none⟩
abbrev ms:Addr:=⟨E.Fd,1,none⟩
abbrev st:Addr:=⟨E.Wg,0,none⟩
abbrev sm:Addr:=⟨E.Wg,1,none⟩
def U(a i:Nat):=(a=E.Fd\/a=E.Wg)/\i<2
def MuAt(w:af)(m:Word)(c:Nat):=w.heap[E.Fd]?=some (.cells #[.int .i32 (val m),.int .u32 c,.map (some E.Mp)] E.tF)
def WgAt(w:af)(v wt ws:Nat):Prop:=w.heap[E.Wg]?=some (.cells #[.int .u64 ((v *4294967296+wt:Nat):Int),.int .u32 ws] E.tW)
structure Eff(b:Nat)(w w1:af):Prop where
 heap:∀a,a≠b->w1.heap[a]?=w.heap[a]?
 size:w1.heap.size=w.heap.size
 tape:w1.tape=w.tape
 env:nB w1.os w.os
 output:w1.output=w.output
def EvA(b:Nat)(es:Array _):=(∀e∈es,∃a wr,e=⟨.cell a,wr,true⟩/\a.block=b/\a.off<2/\a.spot=none)\/∃o,o<2/\es=aH ⟨b,o,none⟩
inductive kv where
 |recv
 |ld (x:Nat)
 |lk (p:PC) (x:Nat)
 |le (x:Nat)
 |la (x:Nat)
 |ur (x:E.Γ)
 |ud
 |u0
 |un (p:PC)
 |ue
 |wr
variable(P:aj)(main:Bool)
abbrev Tree(D:(Nat->Prop)->(Nat->Prop)->ak->af->Prop):=Tz P main E.U D
def rV(m:Mark)(Nx:(Nat->Prop)->(Nat->Prop)->ak->af->Prop)(S X:Nat->Prop)(g:ak)(w:af):=
 ∀w2,gI E.U S w w2->∃g1,ah P main g w2=.go g1 w2 #[⟨.mark m,false,true⟩]/\Nx S X g1 w2
def IW(p:PC)(Nx:PC->(Nat->Prop)->(Nat->Prop)->ak->af->Prop)(S X:Nat->Prop)(g:ak)(w:af):=
 ∀w2 m c,gI E.U S w w2->E.MuAt w2 m c->Lock.Ok m p->Lock.JX m p->m.W<=8->c<=1->
  (∃sv,p=.s1 sv/\c=0/\ah P main g w2=.go {g with status:=.blocked} w2 #[])\/
  ∃p' m' c' g1 w1 es,Mv p m c p' m' c'/\ah P main g w2=.go g1 w1 es/\E.MuAt w1 m' c'/\Eff E.Fd w2 w1/\EvA E.Fd es/\(c<c'->bq P g=true)/\Nx p' S X g1 w1
def R5(g:ak):=∃q,QuitsD P q 1 g
def oj(P:aj)(Q:ak->Prop):Nat->ak->Prop
 |0,g=>Q g
 |n+1,g=>g.status=.running/\∃Y,(∀w,ah P false g w=.go Y w #[])/\oj P Q n Y
def JY(P:aj)(g:ak):=g.status=.running/\bq P g=true/\∀w2,E.WgAt w2 0 0 0->∃g1 w1 es,ah P false g w2=.go g1 w1 es/\E.WgAt w1 0 0 1/\Eff E.Wg w2 w1/\EvA E.Wg es/\R5 P g1
def JZ(P:aj)(g:ak):=g.status=.running/\∀w2,E.WgAt w2 0 1 0->∃g1 w1 es,ah P false g w2=.go g1 w1 es/\E.WgAt w1 0 0 0/\Eff E.Wg w2 w1/\EvA E.Wg es/\∃n,oj P (E.JY P) n g1
def J0(P:aj)(g:ak):=g.status=.running/\∀w2,E.WgAt w2 0 1 0->∃g1 es,ah P false g w2=.go g1 w2 es/\EvA E.Wg es/\∃n,oj P (E.JZ P) n g1
def J_(P:aj)(g:ak):=g.status=.running/\∀w2 v wt,v<=8->wt<=1->E.WgAt w2 (v+1) wt 0->∃g1 w1 es,ah P false g w2=.go g1 w1 es/\E.WgAt w1 v wt 0/\Eff E.Wg w2 w1/\EvA E.Wg es/\
    ((v=0/\wt=1->∃n,oj P (E.J0 P) n g1)/\(¬(v=0/\wt=1)->R5 P g1))
def TG(P:aj)(g:ak):=g.status=.running/\∃g1,(∀w2,ah P false g w2=.go g1 w2 #[⟨.mark .disable,false,true⟩])/\∃n,oj P (E.J_ P) n g1
def tD(P:aj)
 |0=>E.JY P
 |1=>E.JZ P
 |2=>E.J0 P
 |3=>E.J_ P
 |_+4=>E.TG P
variable{E}in
def behind(p:PC)(x:Nat):E.kv:=match p with
 |.cr=>.le x
 |p=>.lk p x
variable{E}in
def vV(p:PC):E.kv:=match p with
 |.out=>.ue
 |p=>.un p
def i_(P:aj)(A:(Nat->Prop)->(Nat->Prop)->ak->af->Prop):Nat->E.kv->(Nat->Prop)->(Nat->Prop)->ak->af->Prop
 |_,.recv,S,X,g,w=>A S X g w
 |0,_,_,_,_,_=>True
 |k+1,pc,S,X,g,w=>g.status=.running/\g.offers=none/\match pc with
  |.recv=>True
  |.ld x=>E.rV P false .disable (E.Tree P false (i_ P A k (.lk .l0 x))) S X g w
  |.lk p x=>E.IW P false p (fun p'=>E.Tree P false (i_ P A k (behind p' x))) S X g w
  |.le x=>E.rV P false .enable (E.Tree P false (i_ P A k (.la x))) S X g w
  |.la x=>∀w2 γ,gI E.U S w w2->E.mi γ (w2.heap[E.Mp]?)->∃g1,ah P false g w2=.go g1 w2 #[⟨.mark (.acquire E.mu),false,true⟩]/\E.Tree P false (i_ P A k (.ur (E.upd γ x))) (fun a=>S a\/a=E.Mp) (fun a=>X a\/a=E.Mp) g1 w2
  |.ur γ=>∀w2,gI E.U S w w2->E.mi γ (w2.heap[E.Mp]?)/\∃g1,ah P false g w2=.go g1 w2 #[⟨.mark (.releaseMerge E.mu),false,true⟩]/\E.Tree P false (i_ P A k .ud) (fun a=>S a/\a≠E.Mp) (fun a=>X a/\a≠E.Mp) g1 w2
  |.ud=>E.rV P false .disable (E.Tree P false (i_ P A k .u0)) S X g w
  |.u0=>E.IW P false .cr (fun p'=>E.Tree P false (i_ P A k (vV p'))) S X g w
  |.un p=>E.IW P false p (fun p'=>E.Tree P false (i_ P A k (vV p'))) S X g w
  |.ue=>E.rV P false .enable (E.Tree P false (i_ P A k .recv)) S X g w
  |.wr=>∀w2,gI E.U S w w2->∃g1,ah P false g w2=.go g1 w2 #[⟨.mark (.releaseMerge E.st),false,true⟩]/\∃n,oj P (E.tD P 4) n g1
end Env
namespace Env
variable{E:Env}{w w1 w2:af}{m m':Word}{c c' v wt ws:Nat}{b:Nat}
theorem zP{b:Nat}{x:ai}{cs:Array _}{t:aA}{fz:Nat×Nat}(h:w.heap[b]?=some (.cells cs t fz)):(w.setCell ⟨b,i,none⟩ x).heap[b]?=some (.cells (cs.setIfInBounds i x) t fz):=by
 rw[setCell_eq_setRow w b i cs t fz x h];exact setRow_heap w b cs _ t fz h
theorem Eff.refl(b:Nat)(w:af):Eff b w w:=⟨fun _ _=>rfl,rfl,rfl,.refl _,rfl⟩
theorem Eff.set(b i:Nat)(x:ai)(w:af):Eff b w (w.setCell ⟨b,i,none⟩ x):=by
 refine⟨fun a Y=>?_,by simp,rfl,.refl _,rfl⟩;simp[World.setCell];rw[Array.getElem?_modify];rw[if_neg (fun e=>Y e.symm)]
theorem Eff.later(b:Nat)(w:af):Eff b w w.later:=⟨fun _ _=>rfl,rfl,rfl,⟨w.tick,rfl⟩,rfl⟩
theorem Eff.asked(b:Nat)(w:af):Eff b w w.asked:=⟨fun _ _=>rfl,rfl,rfl,.refl _,rfl⟩
theorem MuAt.cell0(h:E.MuAt w m c):w.cell? E.mu=some (.int .i32 (val m)):=by unfold MuAt at h;simp[bu,h]
theorem MuAt.rk(h:E.MuAt w m c):w.cell? E.ms=some (.int .u32 c):=by unfold MuAt at h;simp[bu,h]
theorem MuAt.thaw(h:E.MuAt w m c)(i:Nat):w.frozen? ⟨E.Fd,i,none⟩=false:=by unfold MuAt at h;simp[dD,h]
theorem MuAt.mY(h:E.MuAt w m c)(m':Word):E.MuAt (w.setCell E.mu (.int .i32 (val m'))) m' c:=by
 unfold MuAt at h⊢;rw[zP h];simp
theorem MuAt.qJ(h:E.MuAt w m c)(c':Nat):E.MuAt (w.setCell E.ms (.int .u32 c')) m c':=by
 unfold MuAt at h⊢;rw[zP h];simp
theorem MuAt.later(h:E.MuAt w m c):E.MuAt w.later m c:=h
theorem MuAt.asked(h:E.MuAt w m c):E.MuAt w.asked m c:=h
theorem WgAt.cell0(h:E.WgAt w v wt ws):w.cell? E.st=some (.int .u64 ((v *4294967296+wt:Nat))):=by unfold WgAt at h;simp[bu,h]
theorem WgAt.rk(h:E.WgAt w v wt ws):w.cell? E.sm=some (.int .u32 ws):=by unfold WgAt at h;simp[bu,h]
theorem WgAt.thaw(h:E.WgAt w v wt ws)(i:Nat):w.frozen? ⟨E.Wg,i,none⟩=false:=by unfold WgAt at h;simp[dD,h]
theorem WgAt.mY(h:E.WgAt w v wt ws)(v' gY:Nat):E.WgAt (w.setCell E.st (.int .u64 ((v' *4294967296+gY:Nat)))) v' gY ws:=by
 unfold WgAt at h⊢;rw[zP h];simp
theorem WgAt.qJ(h:E.WgAt w v wt ws)(gV:Nat):E.WgAt (w.setCell E.sm (.int .u32 gV)) v wt gV:=by
 unfold WgAt at h⊢;rw[zP h];simp
def uR(E:Env)(w:af):=∃cs t fz,w.heap[E.Fd]?=some (.cells cs t fz)/\cs.size=3
theorem uR.rely{S:Nat->Prop}(h:E.uR w)(A:S E.Fd)(hr:gI E.U S w w2):E.uR w2:=by
 obtain⟨cs,t,fz,K,H⟩:=h;rcases hr.kept _ A with e|⟨d,d2,t',I,_,Y,D,R,_⟩
 ·exact⟨cs,t,fz,e.trans K,H⟩
 ·rw[K]at Y;cases Y;exact⟨d2,_,_,D,R.trans H⟩
theorem uR.cell0(h:E.uR w):∃v,w.cell? E.mu=some v:=by
 obtain⟨cs,t,fz,Y,K⟩:=h;exact⟨cs[0],by simp[bu,Y]⟩
def pe(E:Env)(w:af):=∃cs t fz,w.heap[E.Wg]?=some (.cells cs t fz)/\cs.size=2
theorem pe.rely{S:Nat->Prop}(h:E.pe w)(A:S E.Wg)(hr:gI E.U S w w2):E.pe w2:=by
 obtain⟨cs,t,fz,K,H⟩:=h;rcases hr.kept _ A with e|⟨d,d2,t',I,_,Y,D,R,_⟩
 ·exact⟨cs,t,fz,e.trans K,H⟩
 ·rw[K]at Y;cases Y;exact⟨d2,_,_,D,R.trans H⟩
theorem pe.cell0(h:E.pe w):∃v,w.cell? E.st=some v:=by
 obtain⟨cs,t,fz,Y,K⟩:=h;exact⟨cs[0],by simp[bu,Y]⟩
theorem pe.rk(h:E.pe w):∃v,w.cell? E.sm=some v:=by
 obtain⟨cs,t,fz,Y,K⟩:=h;exact⟨cs[1],by simp[bu,Y]⟩
structure Kn(E:Env)(S:Nat->Prop)(Fx:af->Prop):Prop where
 rely:∀{w w2:af},Fx w->gI E.U S w w2->Fx w2
 fd:∀{w:af},Fx w->E.uR w
 lG:∀{w w1:af} {m m':Word} {c c':Nat},Fx w->E.MuAt w m c->Eff E.Fd w w1->E.MuAt w1 m' c'->Fx w1
 later:∀{w:af},Fx w->Fx w.later
theorem Ol{U:Nat->Nat->Prop}(h:∀a,S' a->S a)(hr:gI U S w w2):gI U S' w w2:=⟨fun a Y=>hr.kept a (h a Y),hr.grow,hr.env⟩
theorem EvA.nil(b:Nat):EvA b #[]:=.inl fun e Y=>by simp_all
theorem EvA.one(b i:Nat)(wr:Bool)(H:i<2):EvA b #[⟨.cell ⟨b,i,none⟩,wr,true⟩]:=.inl fun e Y=>by simp_all
theorem EvA.two(b i:Nat)(H:i<2):EvA b #[⟨.cell ⟨b,i,none⟩,false,true⟩,⟨.cell ⟨b,i,none⟩,true,true⟩]:=.inl fun e Y=>by
 simp at Y;rcases Y with rfl|rfl
 ·simp_all
 ·simp_all
theorem EvA.zg(b i:Nat)(Y:i<2):EvA b (aH ⟨b,i,none⟩):=.inr ⟨i,Y,rfl⟩
end Env
def ru(P:aj):Nat->ae->List ae->ae×List ae
 |0,f,l=>(f,l)
 |n+1,f,l=>match f.todo with
  |.inLoop _::_|.code (.loop _)::_=>(ot P f l).getD (f,l)
  |_=>match ot P f l with
   |some (f1,l1)=>ru P n f1 l1
   |none=>(f,l)
theorem Tz.AP{U:Nat->Nat->Prop}{D:(Nat->Prop)->(Nat->Prop)->ak->af->Prop}:∀n {f:ae} {l:List _} {w:af},(∀w2,gI U S w w2->Tz P main U D S X (G (ru P n f l).1 (ru P n f l).2) w2)->Tz P main U D S X (G f l) w
 |0,f,l,w,h=>h w (.refl _ _ _)
 |n+1,f,l,w,h=>by
  unfold ru at h;have one:(∀w2,gI U S w w2->Tz P main U D S X (G ((ot P f l).getD (f,l)).1 ((ot P f l).getD (f,l)).2) w2)->Tz P main U D S X (G f l) w:=by
   intro h;cases e:ot P f l with
   |none=>rw[e]at h;exact h w (.refl _ _ _)
   |some x=>
    rw[e]at h;exact Tz.one rfl fun w2 hr=>⟨_,w2,#[],S,X,sX e,iW S X w2,h w2 hr⟩
  split at h
  ·simp_all
  ·simp_all
  ·split at h
   ·rename_i f1 l1 e;refine Tz.one rfl fun w2 hr=>⟨_,w2,#[],S,X,sX e,iW S X w2,Tz.AP n fun w3 Y=>h w3 (hr.trans Y)⟩
   ·simp_all
def Jo(s:Nat->Option _)(j:Nat->ai):=((aU 139).map fun i=>(s i).getD (j i)).toArray
def lf(site:List Item)(s:Nat->Option ai)(j:Nat->ai):Frame:={fn:=205,tmps:=Jo s j,todo:=site,defers:=[],mode:=.run,kind:=.normal}
structure Fr(site:List Item)(s:Nat->Option ai)(f:ae):Prop where
 fn:f.fn=205
 todo:f.todo=site
 defers:f.defers=[]
 mode:f.mode=.run
 kind:f.kind=.normal
 round:f.roundOf=none
 size:f.tmps.size=139
 slot:∀i v,s i=some v->f.tmps.getD i aJ=v
theorem Fr.eq{site:List _}{s:Nat->Option _}(h:Fr site s f):f=lf site s (fun i=>f.tmps.getD i aJ):=by
 obtain⟨fn,tmps,todo,defers,mode,kind,ro⟩:=f;obtain⟨D,R,I,A,U,B,K,H⟩:=h;congr 1;apply Array.ext
 ·simp[Jo,K]
 ·intro i Y _;simp[Jo,dk,di,dj];cases e:s i with
  |none=>simp[bD Y]
  |some v=>
   rw[<-H i v e];simp[bD Y]
def sA(al:List (Nat×ai))(i:Nat):=al.lookup i
structure ry where
 callers:List ae
 fn:ar
 todo:List Item
 defers:List bk
 mode:b_
 kind:cz
 round:Option Nat
 size:Nat
 aor:List ai
 call:Option (ar×Array ai)
 load:Option (aA×ai)
def look(ks:List Nat)(r:ae×List ae):ry:=⟨r.2,r.1.fn,r.1.todo,r.1.defers,r.1.mode,r.1.kind,r.1.roundOf,r.1.tmps.size,ks.map (r.1.tmps.getD · aJ),ahead r.1,qv r.1⟩
def jZ(l:List ae)(site:List Item)(al:List (Nat×ai))(call:Option (ar×Array ai))(load:Option (aA×ai)):ry:=⟨l,205,site,[],.run,.normal,none,139,al.map (·.2),call,load⟩
theorem GG{al:List _}{g:Nat->ai}(h:al.map (fun x=>g x.1)=al.map (·.2)):∀i v,al.lookup i=some v->g i=v:=by
 induction al with
 |nil=>intro i v e;cases e
 |cons x al Y=>
  obtain⟨k,y⟩:=x;simp only[List.map_cons,List.cons.injEq]at h;intro i v e;rw[List.lookup_cons]at e;by_cases hk:i=k
  ·simp_all
  ·have:(i==k)=false:=by simp_all
   simp_all
structure oa(l:List ae)(site:List Item)(al:List (Nat×ai))(call:Option (ar×Array ai))(load:Option (aA×ai))(r:ae×List ae):Prop where
 callers:r.2=l
 fr:Fr site (sA al) r.1
 call:ahead r.1=call
 load:qv r.1=load
theorem stands{r:ae×List _}{l:List _}{site:List _}{al:List _}{call:Option _}{load:Option _}(h:look (al.map (·.1)) r=jZ l site al call load):oa l site al call load r:=by
 simp only[look,jZ,ry.mk.injEq,dq]at h;obtain⟨H,D,R,I,A,U,B,C,F,Y,K⟩:=h;exact⟨H,⟨D,R,I,A,U,B,C,GG F⟩,Y,K⟩
theorem iV{α Y:Type}{xs:List α}{F G:α->Y}(h:xs.map F=xs.map G){x:α}(H:x∈xs):F x=G x:=by simp_all
noncomputable abbrev PR:=Tryz.prog
def iQ(Fd:Nat)(gm:Int)(sv aw:Bool)(it:Int):List (Nat×ai):=[(0,.pointer (some ⟨Fd,0,none⟩)),(2,.int .i64 gm),(3,.bool sv),(4,.bool aw),(5,.int .i64 it)]
def rD(Fd:Nat)(gm:Int)(sv aw:Bool)(it old:Int):=(6,.int .i32 old)::iQ Fd gm sv aw it
def ptr(Fd:Nat):Value:=.pointer (some ⟨Fd,0,none⟩)
def jz(i:Nat):=aJ
def Po (Fd:Nat) (l:List _):=gC PR 60 (Frame.enter PR 205 #[ptr Fd] .normal) l
def IX:=(Po 0 []).1.todo
def yK:=(ru PR 60 ((Po 0 []).1.finish (.int .i32 0)) []).1.todo
def yL (Fd:Nat) (gm:Int) (sv aw:Bool) (it old:Int) (j:Nat->ai) (l:List _):=gC PR 300 (lf yK (sA (rD Fd gm sv aw it old)) j) l
def G7:=(yL 0 0 false false 0 1 jz []).1.todo
def Ih:=(yL 0 0 false false 0 0 jz []).1.todo
def Ka(Fd:Nat)(gm:Int)(sv aw:Bool)(it old:Int):=(17,.bool true)::rD Fd gm sv aw it old
def s_ (Fd:Nat) (gm:Int) (sv aw:Bool) (it old:Int) (b:Bool) (j:Nat->ai) (l:List _):=gC PR 300 ((lf G7 (sA (Ka Fd gm sv aw it old)) j).finish (.bool b)) l
def Ii:=(s_ 0 0 false false 0 9 true jz []).1.todo
def yx:=(s_ 0 0 false false 0 1 true jz []).1.todo
def Kb(Fd:Nat)(gm:Int)(sv aw:Bool)(it old:Int):=(33,.bool true)::rD Fd gm sv aw it old
def Q9 (Fd:Nat) (gm:Int) (sv aw:Bool) (it old:Int) (b:Bool) (j:Nat->ai) (l:List _):=gC PR 300 ((lf Ii (sA (Kb Fd gm sv aw it old)) j).finish (.bool b)) l
def Q_ (Fd:Nat) (gm:Int) (sv aw:Bool) (it:Int) (j:Nat->ai) (l:List _):=gC PR 300 ((lf yx (sA (iQ Fd gm sv aw it)) j).finish (.tuple #[])) l
def Ij:=(Q_ 0 0 false false 0 jz []).1.todo
def yy (Fd:Nat) (gm:Int) (sv aw:Bool) (it old:Int) (b:Bool) (j:Nat->ai) (l:List _):=gC PR 300 ((lf Ih (sA (rD Fd gm sv aw it old)) j).finish (.bool b)) l
def C6:=(yy 0 0 false false 0 0 false jz []).1.todo
def C7:=(yy 0 0 false false 0 0 true jz []).1.todo
def Ra:=(yy 0 0 false false 0 1 true jz []).1.todo
def C8:=(yy 0 1 false false 0 1 true jz []).1.todo
section
variable{Fd:Nat}{gm it old:Int}{sv aw:Bool}{j:Nat->ai}{l:List ae}
theorem YS:look [6,0,2,3,4,5] (ru PR 60 ((lf IX (sA (iQ Fd gm sv aw it)) j).finish (.int .i32 old)) l)=jZ l yK (rD Fd gm sv aw it old) none none:=by kernel_rfl
theorem XC:look [6,0,2,3,4,5] (ru PR 60 ((lf Ij (sA (iQ Fd gm sv aw it)) j).finish (.int .i32 old)) l)=jZ l yK (rD Fd gm sv aw it old) none none:=by kernel_rfl
theorem XD:look [6,0,2,3,4,5] (ru PR 60 ((lf C6 (sA (iQ Fd gm sv aw it)) j).finish (.int .i32 old)) l)=jZ l yK (rD Fd gm sv aw it old) none none:=by kernel_rfl
def spins:=(aU 72).filter fun i=>i%2==1&&i/4%2==0
theorem abR:(spins.map fun i:Nat=>look [17,6,0,2,3,4,5] (yL Fd gm sv aw it i j l))=spins.map fun i:Nat=>jZ l G7 (Ka Fd gm sv aw it (i:Int)) (some (214,#[.int .i64 it])) none:=by kernel_rfl
theorem adI:look [0,2,3,4,5] (Q_ Fd gm sv aw it j l)=jZ l Ij (iQ Fd gm sv aw (IntKind.i64.wrap (it+1))) none (some (21,ptr Fd)):=by kernel_rfl
theorem abS:look [0,2,3,4,5] (Q9 Fd gm sv aw it old true j l)=jZ l yx (iQ Fd gm sv true it) (some (215,#[])) none:=by kernel_rfl
theorem abT:look [0,2,3,4,5] (Q9 Fd gm sv aw it old false j l)=jZ l yx (iQ Fd gm sv aw it) (some (215,#[])) none:=by kernel_rfl
theorem abU:look [0,2,3,4,5] (yy Fd gm sv aw it old false j l)=jZ l C6 (iQ Fd gm sv aw it) none (some (21,ptr Fd)):=by kernel_rfl
end
def wd(i:Nat):Word:=⟨i%2==1,i/2%2==1,i/4%2==1,i/8⟩
def tG(P:aj)(t:Nat):Nat->ae->List ae->ae×List ae
 |0,f,l=>(f,l)
 |n+1,f,l=>match f.todo with
  |.code (.cond (.tmp u) _ _)::_=>if u==t then(f,l)else match ot P f l with
   |some (f1,l1)=>tG P t n f1 l1
   |none=>(f,l)
  |_=>match ot P f l with
   |some (f1,l1)=>tG P t n f1 l1
   |none=>(f,l)
theorem Tz.R6{U:Nat->Nat->Prop}{D:(Nat->Prop)->(Nat->Prop)->ak->af->Prop}(t:Nat):∀(n:Nat) {f:ae} {l:List ae} {w:af},(∀w2,gI U S w w2->Tz P main U D S X (G (tG P t n f l).1 (tG P t n f l).2) w2)->Tz P main U D S X (G f l) w
 |0,f,l,w,h=>h w (.refl _ _ _)
 |n+1,f,l,w,h=>by
  unfold tG at h;have go:(∀w2,gI U S w w2->Tz P main U D S X (G (match ot P f l with|some (f1,l1)=>tG P t n f1 l1|none=>(f,l)).1 (match ot P f l with|some (f1,l1)=>tG P t n f1 l1|none=>(f,l)).2) w2)->Tz P main U D S X (G f l) w:=by
   intro h;split at h
   ·rename_i f1 l1 e;exact Tz.one rfl fun w2 hr=>⟨_,w2,#[],S,X,sX e,iW S X w2,Tz.R6 t n fun w3 Y=>h w3 (hr.trans Y)⟩
   ·exact h w (.refl _ _ _)
  split at h
  ·split at h
   ·exact h w (.refl _ _ _)
   ·exact go h
  ·exact go h
def wV(aw:Bool):List Nat:=(aU 72).filter fun i=>!(i%2==1&&i/4%2==0)&&(!aw||i/2%2==1)
def wh(aw:Bool):List Nat:=(aU 72).filter fun i=>(i%2==1&&i/4%2==0)&&(!aw||i/2%2==1)
def toC2 (l:List ae) (Fd:Nat) (gm:Int) (sv aw:Bool) (it:Int) (i:Nat):ry:=jZ l Ih (rD Fd gm sv aw it (i:Int)) (some (204,#[ptr Fd,.int .i32 (i:Int),.int .i32 (val (Lock.nw (wd i) aw sv))])) none
section
variable{Fd:Nat}{gm it:Int}{j:Nat->ai}{l:List ae}
theorem Z3:((wV false).map fun i:Nat=>look [6,0,2,3,4,5] (yL Fd gm false false it (i:Int) j l))=(wV false).map (toC2 l Fd gm false false it):=by kernel_rfl
theorem Z4:((wV true).map fun i:Nat=>look [6,0,2,3,4,5] (yL Fd gm false true it (i:Int) j l))=(wV true).map (toC2 l Fd gm false true it):=by kernel_rfl
theorem Z5:((wV true).map fun i:Nat=>look [6,0,2,3,4,5] (yL Fd gm true true it (i:Int) j l))=(wV true).map (toC2 l Fd gm true true it):=by kernel_rfl
theorem Z6:((wh false).map fun i:Nat=>look [6,0,2,3,4,5] (s_ Fd gm false false it (i:Int) false j l))=(wh false).map (toC2 l Fd gm false false it):=by kernel_rfl
theorem Z8:((wh true).map fun i:Nat=>look [6,0,2,3,4,5] (s_ Fd gm false true it (i:Int) false j l))=(wh true).map (toC2 l Fd gm false true it):=by kernel_rfl
theorem Z9:((wh true).map fun i:Nat=>look [6,0,2,3,4,5] (s_ Fd gm true true it (i:Int) false j l))=(wh true).map (toC2 l Fd gm true true it):=by kernel_rfl
end
def toDo (l:List ae) (Fd:Nat) (gm:Int) (sv aw:Bool) (it:Int):ry:=jZ l yx (iQ Fd gm sv aw it) (some (215,#[])) none
def IY:List Nat:=(aU 72).filter fun i=>i%2==1&&i/4%2==0&&i/2%2==0&&!(i/8==0)
def R7:List Nat:=(aU 72).filter fun i=>i%2==1&&i/4%2==0&&!(i/2%2==0&&!(i/8==0))
def TH:List Nat:=(aU 72).filter fun i=>i%2==0&&i/4%2==0
def nf:List Nat:=(aU 72).filter fun i=>!(i%2==0&&i/4%2==0)
def Aj (Fd:Nat) (gm:Int) (sv aw:Bool) (it old:Int) (j:Nat->ai) (l:List ae):ae×List Frame:=tG PR 87 300 ((lf Ih (sA (rD Fd gm sv aw it old)) j).finish (.bool true)) l
def Ik:List Item:=(Aj 0 0 false false 0 1 jz []).1.todo
def Il (Fd:Nat) (gm:Int) (sv aw b:Bool) (it:Int) (v8:ai) (j:Nat->ai) (l:List ae):ae×List Frame:=gC PR 300 (lf Ik (sA ((87,.bool b)::(8,v8)::iQ Fd gm sv aw it)) j) l
def afY (Fd:Nat) (sv aw:Bool) (it T:Int) (v8:ai) (gm:Int) (j:Nat->ai) (l:List ae):ae×List Frame:=gC PR 300 ((lf Ra (sA ((8,v8)::iQ Fd gm sv aw it)) j).finish (.int .i64 T)) l
def C9 (Fd:Nat) (gm:Int) (sv aw:Bool) (it:Int) (j:Nat->ai) (l:List ae):ae×List Frame:=gC PR 300 ((lf C8 (sA (iQ Fd gm sv aw it)) j).finish (.tuple #[])) l
def Im:List Item:=(C9 0 0 false false 0 jz []).1.todo
def C_:List Item:=(C9 0 0 true false 0 jz []).1.todo
def afZ (Fd:Nat) (gm T:Int) (aw:Bool) (it:Int) (j:Nat->ai) (l:List ae):ae×List Frame:=gC PR 300 ((lf Im (sA ((95,.bool false)::iQ Fd gm false aw it)) j).finish (.int .i64 T)) l
def wi (Fd:Nat) (gm:Int) (sv aw:Bool) (it old:Int) (j:Nat->ai) (l:List ae):ae×List Frame:=ru PR 300 ((lf C_ (sA (iQ Fd gm sv aw it)) j).finish (.int .i32 old)) l
def Aw:List Item:=(wi 0 0 false false 0 12 jz []).1.todo
def af0 (Fd:Nat) (gm:Int) (sv aw:Bool) (it x:Int) (j:Nat->ai) (l:List ae):ae×List Frame:=gC PR 300 ((lf Aw (sA (iQ Fd gm sv aw it)) j).finish (.int .i32 x)) l
def yz (Fd:Nat) (gm:Int) (sv aw:Bool) (it:Int) (j:Nat->ai) (l:List ae):ae×List Frame:=gC PR 300 ((lf C7 (sA (iQ Fd gm sv aw it)) j).finish (.tuple #[])) l
def Re:List Item:=(yz 0 0 false false 0 jz []).1.todo
def calm:List Nat:=(aU 72).filter fun i=>i/4%2==0
def lF:List Nat:=(aU 72).filter fun i=>i%4==0&&i/4%2==1&&!(i/8==0)
def delta(sv:Bool)(i:Nat):Int:=if sv==false||i/8==1 then-11 else-7
section
variable{Fd:Nat}{gm it T x:Int}{sv aw:Bool}{v8:ai}{j:Nat->ai}{l:List ae}
theorem Z_:(IY.map fun i:Nat=>look [33,6,0,2,3,4,5] (s_ Fd gm sv false it (i:Int) true j l))=IY.map fun i:Nat=>jZ l Ii (Kb Fd gm sv false it (i:Int)) (some (204,#[ptr Fd,.int .i32 (i:Int),.int .i32 (val {wd i with K:=true})])) none:=by kernel_rfl
theorem aac:(R7.map fun i:Nat=>look [0,2,3,4,5] (s_ Fd gm sv false it (i:Int) true j l))=R7.map fun i:Nat=>toDo l Fd gm sv false it:=by kernel_rfl
theorem aad:(spins.map fun i:Nat=>look [0,2,3,4,5] (s_ Fd gm sv true it (i:Int) true j l))=spins.map fun i:Nat=>toDo l Fd gm sv true it:=by kernel_rfl
theorem adJ:(TH.map fun i:Nat=>look [0,2,3,4,5] (yy Fd gm sv aw it (i:Int) true j l))=TH.map fun i:Nat=>jZ l C7 (iQ Fd gm sv aw it) (some (170,#[])) none:=by kernel_rfl
theorem adK:(nf.map fun i:Nat=>look [87,0,2,3,4,5] (Aj Fd gm sv aw it (i:Int) j l))=nf.map fun i:Nat=>jZ l Ik ((87,.bool (decide (gm=0)))::iQ Fd gm sv aw it) none none:=by kernel_rfl
theorem abV:look [8,0,2,3,4,5] (Il Fd gm sv aw true it v8 j l)=jZ l Ra ((8,v8)::iQ Fd gm sv aw it) (some (217,#[])) none:=by kernel_rfl
theorem abW:look [0,2,3,4,5] (Il Fd gm sv aw false it v8 j l)=jZ l C8 (iQ Fd gm sv aw it) (some (218,#[.pointer (some ⟨Fd,1,none⟩),v8,.int .i64 2])) none:=by kernel_rfl
theorem adM:look [0,2,3,4,5] (afY Fd sv aw it T v8 gm j l)=jZ l C8 (iQ Fd T sv aw it) (some (218,#[.pointer (some ⟨Fd,1,none⟩),v8,.int .i64 2])) none:=by kernel_rfl
theorem abX:look [95,0,2,3,4,5] (C9 Fd gm false aw it j l)=jZ l Im ((95,.bool false)::iQ Fd gm false aw it) (some (217,#[])) none:=by kernel_rfl
theorem abY:look [0,2,3,4,5] (C9 Fd gm true aw it j l)=jZ l C_ (iQ Fd gm true aw it) none (some (21,ptr Fd)):=by kernel_rfl
theorem adN:look [0,2,3,4,5] (afZ Fd gm T aw it j l)=jZ l C_ (iQ Fd gm (decide (1000000<IntKind.i64.wrap (T-gm))) aw it) none (some (21,ptr Fd)):=by kernel_rfl
theorem abZ:(calm.map fun i:Nat=>look [6,0,2,3,4,5] (wi Fd gm sv aw it (i:Int) j l))=calm.map fun i:Nat=>jZ l yK (rD Fd gm sv true 0 (i:Int)) none none:=by kernel_rfl
theorem YT:(lF.map fun i:Nat=>look [0,2,3,4,5] (wi Fd gm false aw it (i:Int) j l))=lF.map fun i:Nat=>jZ l Aw (iQ Fd gm false aw it) (some (206,#[ptr Fd,.int .i32 (delta false i)])) none:=by kernel_rfl
theorem YU:(lF.map fun i:Nat=>look [0,2,3,4,5] (wi Fd gm true aw it (i:Int) j l))=lF.map fun i:Nat=>jZ l Aw (iQ Fd gm true aw it) (some (206,#[ptr Fd,.int .i32 (delta true i)])) none:=by kernel_rfl
theorem adO:look [0,2,3,4,5] (af0 Fd gm sv aw it x j l)=jZ l C7 (iQ Fd gm sv aw it) (some (170,#[])) none:=by kernel_rfl
theorem adP:look [0,2,3,4,5] (yz Fd gm sv aw it j l)=jZ l Re (iQ Fd gm sv aw it) none none:=by kernel_rfl
end
def unit:Value:=.tuple #[]
section
variable(Fd:Nat)(c:ae)(cs:List ae)
def Kc:ae×List Frame:=gC PR 60 (Frame.enter PR 160 #[ptr Fd] .normal) (c::cs)
def Bc:ae×List Frame:=gC PR 60 ((Kc Fd c cs).1.finish unit) (Kc Fd c cs).2
def Kd:ae×List Frame:=gC PR 60 ((Bc Fd c cs).1.finish (.bool true)) (Bc Fd c cs).2
def Kf:ae×List Frame:=gC PR 60 ((Kd Fd c cs).1.finish unit) (Kd Fd c cs).2
def Kg:ae×List Frame:=gC PR 60 ((Kf Fd c cs).1.finish (ptr Fd)) (Kf Fd c cs).2
def zh:ae×List Frame:=gC PR 60 ((Bc Fd c cs).1.finish (.bool false)) (Bc Fd c cs).2
end
section
variable{Fd:Nat}{c:ae}{cs:List ae}{gm it:Int}{sv aw:Bool}{j:Nat->ai}{l:List ae}
theorem la0:ahead (Kc Fd c cs).1=some (169,#[]):=by kernel_rfl
theorem TI:ahead (Bc Fd c cs).1=some (204,#[ptr Fd,.int .i32 0,.int .i32 1]):=by kernel_rfl
theorem la2:ahead (Kd Fd c cs).1=some (170,#[]):=by kernel_rfl
theorem la3:qw (Kf Fd c cs).1=some (253,159,ptr Fd):=by kernel_rfl
theorem la4:ahead (Kg Fd c cs).1=some (182,#[ptr Fd]):=by kernel_rfl
theorem la5:gC PR 6 ((Kg Fd c cs).1.finish unit) (Kg Fd c cs).2=(c.finish unit,cs):=by kernel_rfl
theorem las:look [0,2,3,4,5] (zh Fd c cs)=jZ (zh Fd c cs).2 IX (iQ Fd 0 false false 0) none (some (21,ptr Fd)):=by kernel_rfl
theorem adQ:qw (yz Fd gm sv aw it j l).1=some (253,159,ptr Fd):=by kernel_rfl
def Da (Fd:Nat) (gm:Int) (sv aw:Bool) (it:Int) (j:Nat->ai) (l:List ae):ae×List Frame:=gC PR 300 ((lf Re (sA (iQ Fd gm sv aw it)) j).finish (ptr Fd)) l
def Rg:List Item:=(Da 0 0 false false 0 jz []).1.todo
theorem adR:look [0,2,3,4,5] (Da Fd gm sv aw it j l)=jZ l Rg (iQ Fd gm sv aw it) (some (182,#[ptr Fd])) none:=by kernel_rfl
theorem af1:gC PR 9 ((lf Rg (sA (iQ Fd gm sv aw it)) j).finish unit) (zh Fd c cs).2=(c.finish unit,cs):=by kernel_rfl
end
end Ph
namespace Ph
open Conc Ren
inductive jj where
 |st (L:List Nat)
 |a2 (L:List Nat) (c:Nat)
 |a3 (L:List Nat) (c:Nat)
 |a4 (L:List Nat) (c:Nat)
 |go (L:List Nat) (c:Nat)
 |send (L:List Nat) (i:Nat)
 |close (L:List Nat) (j:Nat)
 |kd
 |w1
 |w2 (v:Nat)
 |wx
 |w3
 |w4
 |ke
 |aq
def ob(w:af)(c s:Nat):=w.heap[c]?=some (.chan 0 #[] false s s false)
structure im where
 n:Nat
 gB:List Nat
def im.sends(J:im)(L:List Nat)(i:Nat):jj:=if i<J.gB.length then .send L i else .close L 0
def im.closes(J:im)(L:List Nat)(j:Nat):jj:=if j<L.length then .close L j else .kd
def im.kh(J:im)(L:List Nat):=if L.length<J.n then .st L else J.sends L 0
namespace Env
def ll(E:Env)(P:aj)(J:im)(j8:Nat->ak->af->Prop)(Fin:(Nat->Prop)->(Nat->Prop)->ak->af->Prop):Nat->jj->(Nat->Prop)->(Nat->Prop)->ak->af->Prop
 |0,_,_,_,_,_=>True
 |k+1,pc,S,X,g,w=>g.status=.running/\g.offers=none/\match pc with
  |.st L=>∃c,E.rV P true .disable (E.Tree P true (ll E P J j8 Fin k (.a2 L c))) S X g w
  |.a2 L c=>∀w2,gI E.U S w w2->E.WgAt w2 L.length 0 0->∃g1 w1 es,ah P true g w2=.go g1 w1 es/\E.WgAt w1 (L.length+1) 0 0/\Eff E.Wg w2 w1/\EvA E.Wg es/\E.Tree P true (ll E P J j8 Fin k (if L=[]then .a3 L c else .a4 L c)) S X g1 w1
  |.a3 L c=>E.rV P true (.read E.sm) (E.Tree P true (ll E P J j8 Fin k (.a4 L c))) S X g w
  |.a4 L c=>E.rV P true .enable (E.Tree P true (ll E P J j8 Fin k (.go L c))) S X g w
  |.go L c=>S c/\X c/\∀w2,gI E.U S w w2->ob w2 c 0/\∃g1 Y,ah P true g w2=.spawn g1 Y w2 #[]/\j8 c Y w2/\E.Tree P true (ll E P J j8 Fin k (J.kh (L++[c]))) (fun a=>S a/\a≠c) (fun a=>X a/\a≠c) g1 w2
  |.send L i=>∃c x,L[i%J.n]?=some c/\J.gB[i]?=some x/\∃z,(∀w2 s,gI E.U S w w2->ob w2 c s->ah P true g w2=.comm g #[scase c (.int .i64 (x:Int)) z] true .send w2 #[])/\
    ∀w2,gI E.U S w w2->E.Tree P true (ll E P J j8 Fin k (J.sends L (i+1))) S X (Go.Conc.served g aJ) w2
  |.close L j=>bq P g=true/\∃c,L[j]?=some c/\∀w2 s,gI E.U S w w2->ob w2 c s->∃g1,g1.status=.running/\ah P true g w2=.go g1 (w2.setChan c 0 #[] true s s false) (closeEvents c)/\E.Tree P true (ll E P J j8 Fin k (J.closes L (j+1))) S X g1 (w2.setChan c 0 #[] true s s false)
  |.kd=>E.rV P true .disable (E.Tree P true (ll E P J j8 Fin k .w1)) S X g w
  |.w1=>∀w2 v,gI E.U S w w2->v<=8->E.WgAt w2 v 0 0->∃g1 es,ah P true g w2=.go g1 w2 es/\EvA E.Wg es/\(v=0->E.Tree P true (ll E P J j8 Fin k .ke) S X g1 w2)/\(v≠0->E.Tree P true (ll E P J j8 Fin k (.w2 v)) S X g1 w2)
  |.w2 v0=>∀w2 v,gI E.U S w w2->v<=8->E.WgAt w2 v 0 0->(v=v0->∃g1 w1 es,ah P true g w2=.go g1 w1 es/\E.WgAt w1 v 1 0/\Eff E.Wg w2 w1/\EvA E.Wg es/\E.Tree P true (ll E P J j8 Fin k .wx) S X g1 w1)/\
    (v≠v0->∃g1 es,ah P true g w2=.go g1 w2 es/\EvA E.Wg es/\E.Tree P true (ll E P J j8 Fin k .w1) S X g1 w2)
  |.wx=>E.rV P true (.write E.sm) (E.Tree P true (ll E P J j8 Fin k .w3)) S X g w
  |.w3=>(∀w2 v wt,gI E.U S w w2->E.WgAt w2 v wt 0->ah P true g w2=.go {g with status:=.blocked} w2 #[])/\
    (∀w2,gI E.U S w w2->E.WgAt w2 0 0 1->∃g1 w1 es,ah P true g w2=.go g1 w1 es/\E.WgAt w1 0 0 0/\Eff E.Wg w2 w1/\EvA E.Wg es/\E.Tree P true (ll E P J j8 Fin k .w4) S X g1 w1)
  |.w4=>∀w2,gI E.U S w w2->E.WgAt w2 0 0 0->∃g1 es,ah P true g w2=.go g1 w2 es/\EvA E.Wg es/\E.Tree P true (ll E P J j8 Fin k .ke) S X g1 w2
  |.ke=>E.rV P true .enable (E.Tree P true (ll E P J j8 Fin k .aq)) S X g w
  |.aq=>∀w2,gI E.U S w w2->∃g1,ah P true g w2=.go g1 w2 #[⟨.mark (.acquire E.st),false,true⟩]/\Fin S X g1 w2
end Env
def Down{α:Type}(r:Nat->α->α->Prop)(n:Nat)(y x:Nat->α):=∃i,i<n/\r i (y i) (x i)/\∀k,k<n->k≠i->y k=x k
theorem Pp{α:Type}(r:Nat->α->α->Prop):∀n x,(∀i,i<n->Acc (r i) (x i))->Acc (Down r n) x
 |0,x,_=>⟨x,fun y ⟨i,B,_⟩=>by omega⟩
 |n+1,x,h=>by
  have C:=Pp r n x fun i B=>h i (by omega);have J:=h n (by omega)
  suffices key:∀x,Acc (Down r n) x->∀a,Acc _ a->∀z:Nat->α,(∀k,k<n->z k=x k)->z n=a->Acc _ z from key x C _ J x (fun _ _=>rfl) rfl
  intro x L;induction L with
  |intro x _ U=>
   intro a F;induction F with
   |intro a K A=>
    intro z I Y;refine⟨z,fun y ⟨i,B,hr,R⟩=>?_⟩;by_cases H:i=n
    ·subst H;rw[Y]at hr;exact A _ hr y (fun k hk=>(R k (by omega) (by omega)).trans (I k hk)) rfl
    ·refine U y ⟨i,by omega,?_,fun k hk D=>(R k (by omega) D).trans (I k hk)⟩ a ⟨a,K⟩ y (fun _ _=>rfl) ((R n (by omega) (by omega)).trans Y);rw[<-I i (by omega)];exact hr
def Reach(P:aj)(F:bt->ax->Prop)(m:bt)(t:ax):=∃N m' t',aN P N m t=(.next m',t')/\F m' t'
theorem Reach.here{F:bt->ax->Prop}{m:bt}{t:ax}(h:F m t):Reach P F m t:=⟨0,m,t,rfl,h⟩
theorem Reach.step{P:aj}{F:bt->ax->Prop}{m Y:bt}{t:ax}{ops:Array _}(R:stepT P m=(.next Y,ops))(h:Reach P F Y (t++ops)):Reach P F m t:=by
 obtain⟨N,m',t',K,H⟩:=h;exact⟨N+1,m',t',by simp[aN,R];exact K,H⟩
structure Nd where
 S:Nat->Prop
 X:Nat->Prop
 g:ak
 w:af
def Nx(P:aj)(main:Bool)(U:Nat->Nat->Prop)(D:(Nat->Prop)->(Nat->Prop)->ak->af->Prop)(y x:Nd):=
 ¬D x.S x.X x.g x.w/\∃w2 es,gI U x.S x.w w2/\ah P main x.g w2=.go y.g y.w es/\jY U x.S x.X w2 y.w es y.S y.X
section
variable{P:aj}{main:Bool}{U:Nat->Nat->Prop}{D:(Nat->Prop)->(Nat->Prop)->ak->af->Prop}{S X:Nat->Prop}{g:ak}{w:af}
theorem Tz.acc(h:Tz P main U D S X g w):Acc (Nx P main U D) ⟨S,X,g,w⟩:=by
 induction h with
 |stop hd=>exact⟨_,fun y ⟨Y,_⟩=>absurd hd Y⟩
 |step H ex _ K=>exact⟨_,fun y ⟨_,w2,es,hr,e,hd⟩=>K w2 y.g y.w es y.S y.X hr e hd⟩
theorem Tz.look(h:Tz P main U D S X g w):D S X g w\/(¬D S X g w/\g.status=.running/\∀w2,gI U S w w2->∃g1 w1 es S1 X1,ah P main g w2=.go g1 w1 es/\jY U S X w2 w1 es S1 X1/\Tz P main U D S1 X1 g1 w1):=by
 by_cases Y:D S X g w
 ·simp_all
 ·cases h with
  |stop hd=>exact absurd hd Y
  |step K ex k=>
   refine .inr ⟨Y,K,fun w2 hr=>?_⟩;obtain⟨g1,w1,es,S1,X1,e,hd⟩:=ex w2 hr;exact⟨g1,w1,es,S1,X1,e,hd,k w2 g1 w1 es S1 X1 hr e hd⟩
end
def TN(n:Nat)(s:Nat->Option _)(j:Nat->ai):=((aU n).map fun i=>(s i).getD (j i)).toArray
def kX(fn:ar)(n:Nat)(site:List Item)(s:Nat->Option ai)(j:Nat->ai):Frame:={fn:=fn,tmps:=TN n s j,todo:=site,defers:=[],mode:=.run,kind:=.normal}
structure ky(fn:ar)(n:Nat)(site:List Item)(s:Nat->Option ai)(f:ae):Prop where
 fn:f.fn=fn
 todo:f.todo=site
 defers:f.defers=[]
 mode:f.mode=.run
 kind:f.kind=.normal
 round:f.roundOf=none
 size:f.tmps.size=n
 slot:∀i v,s i=some v->f.tmps.getD i aJ=v
theorem ky.eq{fn:ar}{n:Nat}{site:List _}{s:Nat->Option _}(h:ky fn n site s f):f=kX fn n site s (fun i=>f.tmps.getD i aJ):=by
 obtain⟨fn,tmps,todo,defers,mode,kind,ro⟩:=f;obtain⟨D,R,I,A,U,B,K,H⟩:=h;congr 1;apply Array.ext
 ·simp[TN,K]
 ·intro i Y _;simp[TN,dk,di,dj];cases e:s i with
  |none=>simp[bD Y]
  |some v=>
   rw[<-H i v e];simp[bD Y]
def iu(fn:ar)(n:Nat)(l:List ae)(site:List Item)(al:List (Nat×ai))(call:Option (ar×Array ai))(load:Option (aA×ai)):ry:=⟨l,fn,site,[],.run,.normal,none,n,al.map (·.2),call,load⟩
structure CR(fn:ar)(n:Nat)(l:List ae)(site:List Item)(al:List (Nat×ai))(call:Option (ar×Array ai))(load:Option (aA×ai))(r:ae×List ae):Prop where
 callers:r.2=l
 fr:ky fn n site (sA al) r.1
 call:ahead r.1=call
 load:qv r.1=load
theorem jO{fn:ar}{n:Nat}{r:ae×List _}{l:List _}{site:List _}{al:List _}{call:Option _}{load:Option _}(h:look ks r=iu fn n l site al call load)(hk:al.map (·.1)=ks):CR fn n l site al call load r:=by
 subst hk;simp only[look,iu,ry.mk.injEq,dq]at h;obtain⟨H,D,R,I,A,U,B,C,F,Y,K⟩:=h;exact⟨H,⟨D,R,I,A,U,B,C,GG F⟩,Y,K⟩
end Ph
namespace Ph
open Conc Ren
open Lock (Word PC Mv bn iH bw dw)
open ConcN (sumTo upd sumTo_upd upd_ne upd_same sumTo_congr le_sumTo sumTo_le)
inductive Md where
 |run
 |blk
 |gU
 |jM
 deriving DecidableEq
inductive gN(E:Env) where
 |no
 |at(pc:E.kv) (md:Md)
 |gP (i n:Nat)
 |qt (q:Nat)
structure iw(E:Env) where
 j:Nat
 L:List Nat
 ks:Nat->gN E
 d:jj
 dm:Md
 m:Word
 c:Nat
 v:Nat
 wt:Nat
 ws:Nat
 γ:E.Γ
 dn:List Nat
 tok:Option Nat
section
variable{E:Env}
def oO:E.kv->PC
 |.recv=>.out
 |.ld _=>.l0
 |.lk p _=>p
 |.le _=>.cr
 |.la _=>.cr
 |.ur _=>.cr
 |.ud=>.cr
 |.u0=>.cr
 |.un p=>p
 |.ue=>.out
 |.wr=>.out
def iI:gN E->PC
 |.at pc _=>oO pc
 |_=>.out
def qD(y:Nat):E.kv->Nat
 |.ld x=>if x=y then 1 else 0
 |.lk _ x=>if x=y then 1 else 0
 |.le x=>if x=y then 1 else 0
 |.la x=>if x=y then 1 else 0
 |_=>0
def qE(y:Nat):gN E->Nat
 |.at pc _=>qD y pc
 |_=>0
def qe:E.kv->Nat
 |.recv=>7
 |.ld _=>17
 |.lk p _=>14+iH p
 |.le _=>14
 |.la _=>13
 |.ur _=>12
 |.ud=>11
 |.u0=>10
 |.un p=>9+iH p
 |.ue=>8
 |.wr=>6
def lY:gN E->Nat
 |.at pc _=>qe pc
 |.gP i _=>i+1
 |_=>0
def kE:gN E->Nat
 |.gP i _=>if i<=2 then 1 else 0
 |.qt _=>1
 |_=>0
def ja:gN E->Nat
 |.gP i _=>if i=1\/i=2 then 1 else 0
 |_=>0
def je:gN E->Nat
 |.gP i _=>if i=0 then 1 else 0
 |_=>0
def Gone:gN E->Prop
 |.at .wr _=>True
 |.at .recv .jM=>True
 |.gP _ _=>True
 |.qt _=>True
 |_=>False
def uI:E.kv->Nat
 |.lk _ _=>1
 |.le _=>1
 |.u0=>1
 |.un _=>1
 |.ue=>1
 |_=>0
def AQ:gN E->Nat
 |.at pc _=>uI pc
 |.gP i _=>if i<=3 then 1 else 0
 |_=>0
end
def o_:jj->Nat
 |.a2 _ _=>1
 |.a3 _ _=>1
 |.a4 _ _=>1
 |.w1=>1
 |.w2 _=>1
 |.wx=>1
 |.w3=>1
 |.w4=>1
 |.ke=>1
 |_=>0
def o8:jj->Nat
 |.a3 _ _=>1
 |.a4 _ _=>1
 |.go _ _=>1
 |_=>0
def r4(J:im):jj->Nat
 |.st _=>0
 |.a2 _ _=>0
 |.a3 _ _=>0
 |.a4 _ _=>0
 |.go _ _=>0
 |.send _ i=>i
 |_=>J.gB.length
def iM(J:im):jj->Nat
 |.st _=>0
 |.a2 _ _=>0
 |.a3 _ _=>0
 |.a4 _ _=>0
 |.go _ _=>0
 |.send _ _=>0
 |.close _ i=>i
 |_=>J.n
def iq(J:im)(v:Nat):jj->Nat
 |.st L=>60+20 *J.gB.length+20 *(J.n-L.length)
 |.a2 L _=>59+20 *J.gB.length+20 *(J.n-L.length)
 |.a3 L _=>58+20 *J.gB.length+20 *(J.n-L.length)
 |.a4 L _=>57+20 *J.gB.length+20 *(J.n-L.length)
 |.go L _=>56+20 *J.gB.length+20 *(J.n-L.length)
 |.send _ i=>40+20 *(J.gB.length-i)
 |.close _ i=>25+(J.n-i)
 |.kd=>24
 |.w1=>7+2 *v
 |.w2 v0=>6+2 *v0
 |.wx=>5
 |.w3=>4
 |.w4=>3
 |.ke=>2
 |.aq=>1
def yA:jj->Prop
 |.wx=>True
 |.w3=>True
 |_=>False
def yM:jj->Prop
 |.w4=>True
 |.ke=>True
 |.aq=>True
 |_=>False
def EC(J:im)(Y:List Nat)(j:Nat):jj->Prop
 |.st L=>L=Y/\j<J.n
 |.a2 L _=>L=Y/\j<J.n
 |.a3 L _=>L=Y/\j<J.n
 |.a4 L _=>L=Y/\j<J.n
 |.go L _=>L=Y/\j<J.n
 |.send L i=>L=Y/\j=J.n/\i<J.gB.length
 |.close L i=>L=Y/\j=J.n/\i<J.n
 |_=>j=J.n
def ng(d:jj)(v wt ws H Y:Nat):=
 (wt=0/\ws=0/\H=0/\Y=0/\¬yA d/\(yM d->v=0))\/
 (yA d/\((wt=1/\ws=0/\0<v/\H=0/\Y=0)\/(wt=1/\ws=0/\v=0/\H=1/\Y=0)\/(wt=0/\ws=0/\v=0/\H=0/\Y=1)\/(wt=0/\ws=1/\v=0/\H=0/\Y=0)))
section
variable{E:Env}
structure CI(J:im)(gK:E.Γ)(C:iw E):Prop where
 jn:C.j<=J.n
 len:C.L.length=C.j
 Bd:C.L.Nodup
 no:∀k,C.j<=k->C.ks k=.no
 yes:∀k,k<C.j->C.ks k≠.no
 lock:Lock.Inv (fun k=>iI (C.ks k)) J.n C.m C.c
 rz:∀k,C.tok=some k->∃md,C.ks k=.at (.ur C.γ) md
 xf:∀k γ md,C.ks k=.at (.ur γ) md->C.tok=some k
 md:∀k pc md,C.ks k=.at pc md->(md=.blk->∃sv x,pc=.lk (.s1 sv) x)/\(md=.gU\/md=.jM->pc=.recv)
 pw:(C.dm=.blk->C.d=.w3)/\(C.dm=.gU->∃i,C.d=.send C.L i)/\C.dm≠.jM
 num:∀y,C.dn.count y+sumTo J.n (fun k=>qE y (C.ks k))=(J.gB.take (r4 J C.d)).count y
 fold:C.γ=C.dn.foldl E.upd gK
 px:C.v+sumTo J.n (fun k=>kE (C.ks k))=C.j+o8 C.d
 ph:ng C.d C.v C.wt C.ws (sumTo J.n fun k=>ja (C.ks k)) (sumTo J.n fun k=>je (C.ks k))
 gone:∀k,Gone (C.ks k)->k<iM J C.d
 nT:EC J C.L C.j C.d
 qP:∀k p x md,C.ks k=.at (.lk p x) md->iH p=2
 oP:∀k p md,C.ks k=.at (.un p) md->iH p=0/\p≠.out
 gP:∀k i n,C.ks k=.gP i n->i<=4
 w2:∀v0,C.d=.w2 v0->0<v0/\C.v<=v0
structure Calm(J:im)(C:iw E):Prop where
 blk:∀k pc,C.ks k=.at pc .blk->C.c=0
 gU:∀k pc,C.ks k=.at pc .gU->¬k<iM J C.d
 Jp:C.dm=.blk->C.ws=0
 pf:∀i,C.dm=.gU->C.d=.send C.L i->∀pc,C.ks (i%J.n)≠.at pc .gU
def kY(J:im)(C:iw E):=iq J C.v C.d+sumTo J.n (fun k=>lY (C.ks k))
def oQ(J:im)(C:iw E):=sumTo J.n (fun k=>bw (iI (C.ks k)))+7 *C.c
def pY(J:im)(C:iw E):=sumTo J.n (fun k=>dw C.m (iI (C.ks k)))
def mu(J:im)(C:iw E):=(kY J C *128+oQ J C) *128+pY J C
theorem ahD(p:PC):bw p<=9:=by
 cases p<;>simp[bw]<;>omega
theorem ahE(m:Word)(p:PC):dw m p<=12:=by
 cases p<;>simp[dw]<;>(try split)<;>omega
theorem af2{J:im}{C:iw E}(H:J.n<=8)(Y:C.c<=1):oQ J C<128:=by
 have h:=sumTo_le (f:=fun k=>bw (iI (C.ks k))) (j:=J.n) fun i _=>ahD _;unfold oQ;omega
theorem Qn{J:im}{C:iw E}(Y:J.n<=8):pY J C<128:=by
 have h:=sumTo_le (f:=fun k=>dw C.m (iI (C.ks k))) (j:=J.n) fun i _=>ahE _ _;unfold pY;omega
theorem xh{J:im}{C C':iw E}(Y:J.n<=8)(H:C'.c<=1)(h:kY J C'<kY J C):mu J C'<mu J C:=by
 have K:=af2 Y H;have D:=Qn (C:=C') Y;unfold mu;omega
theorem ajn{J:im}{C C':iw E}(Y:J.n<=8)(h:kY J C'=kY J C)(H:oQ J C'<oQ J C):mu J C'<mu J C:=by
 have K:=Qn (C:=C') Y;unfold mu;omega
theorem ajo{J:im}{C C':iw E}(h:kY J C'=kY J C)(Y:oQ J C'=oQ J C)(H:pY J C'<pY J C):mu J C'<mu J C:=by
 unfold mu;omega
theorem Om(f:PC->Nat)(gE:Nat->PC):∀n,Lock.gT f gE n=sumTo n fun k=>f (gE k)
 |0=>rfl
 |n+1=>by rw[Lock.gT,sumTo,Om f gE n]
theorem adS(ks:Nat->gN E)(k:Nat)(s:gN E):(fun i=>iI (upd ks k s i))=Lock.put (fun i=>iI (ks i)) k (iI s):=by
 funext i;unfold upd Lock.put;split<;>rfl
theorem Pq(f g h:PC->Nat)(gE:Nat->PC):∀n,Lock.gT (fun p=>f p+g p+h p) gE n=Lock.gT f gE n+Lock.gT g gE n+Lock.gT h gE n
 |0=>rfl
 |n+1=>by simp[Lock.gT,Pq f g h gE n];omega
theorem Gk{gE:Nat->PC}{n:Nat}{m:Word}{c:Nat}(h:Lock.Inv gE n m c):c<=1/\m.W<=n:=by
 have one:∀f,(∀p,f p<=1)->Lock.gT f gE n<=n:=by
  intro f R;rw[Om];have:=sumTo_le (f:=fun k=>f (gE k)) (j:=n) fun i _=>R _;omega
 have F:=Lock.rj m.K;have I:∀p,Lock.ji p+Lock.gS p+Lock.iJ p<=1:=by intro p;cases p<;>simp[Lock.ji,Lock.gS,Lock.iJ]
 cases Y:m.S with
 |false=>
  obtain⟨H,D,_⟩:=h.calm Y;have:=one Lock.ji (by intro p;cases p<;>simp[Lock.ji]);omega
 |true=>
  obtain⟨H,D,A,U,B,C⟩:=h.lF Y;have:=one _ I;have e:=Pq Lock.ji Lock.gS Lock.iJ gE n;omega
end
end Ph
namespace Ph
open Conc Ren
open Lock (Word PC Mv bn iH bw dw)
open ConcN (sumTo upd sumTo_upd upd_ne upd_same sumTo_congr le_sumTo sumTo_le sumTo_upd_out)
section
variable{E:Env}{J:im}{gK:E.Γ}{C:iw E}
def iw.wk(C:iw E)(k:Nat)(s':gN E)(d':jj)(Y:Md)(m':Word)(c' v' gY gV:Nat)(H:E.Γ)(jQ:List Nat)(ju:Option Nat):=
 {C with ks:=upd C.ks k s',d:=d',dm:=Y,m:=m',c:=c',v:=v',wt:=gY,ws:=gV,γ:=H,dn:=jQ,tok:=ju}
theorem rh{C:iw E}{s s':gN E}(f:gN E->Nat)(n:Nat)(hk:k<n)(e:C.ks k=s):sumTo n (fun i=>f (upd C.ks k s' i))+f s=sumTo n (fun i=>f (C.ks i))+f s':=by
 have:=sumTo_upd C.ks s' f hk;simp_all
theorem CI.wk{s s':gN E}{d':jj}{R:Md}{m':Word}{A:E.Γ}(h:CI J gK C)(hk:k<C.j)(e:C.ks k=s)(ne:s'≠.no)
  (lock:Lock.Inv (Lock.put (fun i=>iI (C.ks i)) k (iI s')) J.n m' c')
  (rz:∀i,ju=some i->(i=k/\∃md,s'=.at (.ur A) md)\/(i≠k/\C.tok=some i/\A=C.γ))(xf:∀γ md,s'=.at (.ur γ) md->ju=some k)(F:∀i,i≠k->C.tok=some i->ju=some i)
  (md:∀pc md,s'=.at pc md->(md=.blk->∃sv x,pc=.lk (.s1 sv) x)/\(md=.gU\/md=.jM->pc=.recv))
  (pw:(R=.blk->d'=.w3)/\(R=.gU->∃i,d'=.send C.L i)/\R≠.jM)
  (num:∀y,jQ.count y+qE y s'+(J.gB.take (r4 J C.d)).count y=C.dn.count y+qE y s+(J.gB.take (r4 J d')).count y)
  (fold:A=jQ.foldl E.upd gK)(px:v'+kE s'+o8 C.d=C.v+kE s+o8 d')
  (ph:∀N M,ng C.d C.v C.wt C.ws (N+ja s) (M+je s)->ng d' v' gY gV (N+ja s') (M+je s'))
  (gone:Gone s'->k<iM J d')(cl:iM J C.d<=iM J d')(nT:EC J C.L C.j d')
  (qP:∀p x md,s'=.at (.lk p x) md->iH p=2)(oP:∀p md,s'=.at (.un p) md->iH p=0/\p≠.out)(gP:∀i n,s'=.gP i n->i<=4)(w2:∀v0,d'=.w2 v0->0<v0/\v'<=v0):
  CI J gK (C.wk k s' d' R m' c' v' gY gV A jQ ju):=by
 have D:k<J.n:=au hk h.jn;have us:upd C.ks k s' k=s':=upd_same _ _ _;have un:∀i,i≠k->upd C.ks k s' i=C.ks i:=fun i Y=>upd_ne _ _ Y;refine⟨h.jn,h.len,h.Bd,fun i Y=>?_,fun i Y=>?_,?_,fun i Y=>?_,fun i γ H Y=>?_,fun i pc H Y=>?_,pw,fun y=>?_,fold,?_,?_,fun i Y=>?_,nT,fun i p x H Y=>?_,fun i p H Y=>?_,fun i n0 n1 Y=>?_,w2⟩
 ·have:i≠k:=by have:C.j<=i:=Y;omega
  show upd C.ks k s' i=_
  rw[un i this];exact h.no i Y
 ·show upd C.ks k s' i≠_
  by_cases K:i=k
  ·subst K;rw[us];exact ne
  ·rw[un i K];exact h.yes i Y
 ·show Lock.Inv (fun i=>iI (upd C.ks k s' i)) J.n m' c'
  rw[adS];exact lock
 ·show∃md,upd C.ks k s' i=_
  rcases rz i Y with⟨rfl,I⟩|⟨I,B,U⟩
  ·rw[us];exact I
  ·rw[un i I];rw[U];exact h.rz i B
 ·change upd C.ks k s' i=_ at Y;show ju=some i
  by_cases K:i=k
  ·subst K;rw[us]at Y;exact xf γ H Y
  ·rw[un i K]at Y;exact F i K (h.xf i γ H Y)
 ·change upd C.ks k s' i=_ at Y;by_cases K:i=k
  ·subst K;rw[us]at Y;exact md pc H Y
  ·rw[un i K]at Y;exact h.md i pc H Y
 ·have I:=h.num y;have B:=num y;have U:=rh (C:=C) (s':=s') (qE y) J.n D e;show jQ.count y+sumTo J.n (fun i=>qE y (upd C.ks k s' i))=(J.gB.take (r4 J d')).count y
  omega
 ·have I:=h.px;have U:=rh (C:=C) (s':=s') kE J.n D e;show v'+sumTo J.n (fun i=>kE (upd C.ks k s' i))=C.j+o8 d'
  omega
 ·have I:=h.ph;have U:=rh (C:=C) (s':=s') ja J.n D e;have S:=rh (C:=C) (s':=s') je J.n D e;have l2:=le_sumTo (f:=fun i=>ja (C.ks i)) D;have l0:=le_sumTo (f:=fun i=>je (C.ks i)) D;simp only[e]at l2 l0;have Q:=ph (sumTo J.n (fun i=>ja (C.ks i))-ja s) (sumTo J.n (fun i=>je (C.ks i))-je s) (by simp_all);show ng d' v' gY gV (sumTo J.n fun i=>ja (upd C.ks k s' i)) (sumTo J.n fun i=>je (upd C.ks k s' i))
  have O:sumTo J.n (fun i=>ja (upd C.ks k s' i))=sumTo J.n (fun i=>ja (C.ks i))-ja s+ja s':=by omega
  have P:sumTo J.n (fun i=>je (upd C.ks k s' i))=sumTo J.n (fun i=>je (C.ks i))-je s+je s':=by omega
  rw[O,P];exact Q
 ·change Gone (upd C.ks k s' i)at Y;show i<iM J d'
  by_cases K:i=k
  ·subst K;rw[us]at Y;exact gone Y
  ·rw[un i K]at Y;exact au (h.gone i Y) cl
 ·change upd C.ks k s' i=_ at Y;by_cases K:i=k
  ·subst K;rw[us]at Y;exact qP p x H Y
  ·rw[un i K]at Y;exact h.qP i p x H Y
 ·change upd C.ks k s' i=_ at Y;by_cases K:i=k
  ·subst K;rw[us]at Y;exact oP p H Y
  ·rw[un i K]at Y;exact h.oP i p H Y
 ·change upd C.ks k s' i=_ at Y;by_cases K:i=k
  ·subst K;rw[us]at Y;exact gP n0 n1 Y
  ·rw[un i K]at Y;exact h.gP i n0 n1 Y
theorem wj{s s':gN E}{d':jj}{ou:Md}{m':Word}{kH:E.Γ}(hk:k<J.n)(e:C.ks k=s):
  kY J (C.wk k s' d' ou m' c' v' gY gV kH jQ ju)+iq J C.v C.d+lY s=kY J C+iq J v' d'+lY s':=by
 have Y:=rh (s':=s') lY J.n hk e;show iq J v' d'+sumTo J.n (fun i=>lY (upd _ k s' i))+iq J C.v C.d+lY s=iq J C.v C.d+sumTo J.n _+iq J v' d'+lY s'
 omega
theorem Rh{s s':gN E}{d':jj}{ou:Md}{m':Word}{kH:E.Γ}(hk:k<J.n)(e:C.ks k=s):
  oQ J (C.wk k s' d' ou m' c' v' gY gV kH jQ ju)+bw (iI s)+7 *C.c=oQ J C+bw (iI s')+7 *c':=by
 have Y:=rh (s':=s') (fun s=>bw (iI s)) J.n hk e;show sumTo J.n (fun i=>bw (iI (upd _ k s' i)))+7 *c'+bw _+7 *C.c=sumTo J.n _+7 *C.c+bw _+7 *c'
 omega
theorem Qo{s s':gN E}{d':jj}{ou:Md}{kH:E.Γ}(hk:k<J.n)(e:C.ks k=s):
  pY J (C.wk k s' d' ou C.m c' v' gY gV kH jQ ju)+dw C.m (iI s)=pY J C+dw C.m (iI s'):=by
 have Y:=rh (s':=s') (fun s=>dw C.m (iI s)) J.n hk e;exact Y
def iw.dd(C:iw E)(d':jj)(Y:Md)(v' gY gV:Nat):={C with d:=d',dm:=Y,v:=v',wt:=gY,ws:=gV}
theorem CI.dd{d':jj}{Y:Md}(h:CI J gK C)(pw:(Y=.blk->d'=.w3)/\(Y=.gU->∃i,d'=.send C.L i)/\Y≠.jM)(num:J.gB.take (r4 J d')=J.gB.take (r4 J C.d))(px:v'+o8 C.d=C.v+o8 d')
  (ph:∀R H,ng C.d C.v C.wt C.ws R H->ng d' v' gY gV R H)(cl:iM J C.d<=iM J d')(nT:EC J C.L C.j d')(w2:∀v0,d'=.w2 v0->0<v0/\v'<=v0):CI J gK (C.dd d' Y v' gY gV):=by
 refine⟨h.jn,h.len,h.Bd,h.no,h.yes,h.lock,h.rz,h.xf,h.md,pw,fun y=>?_,h.fold,?_,ph _ _ h.ph,fun k hk=>au (h.gone k hk) cl,nT,h.qP,h.oP,h.gP,w2⟩
 ·have:=h.num y;rw[<-num]at this;exact this
 ·have:=h.px;show v'+sumTo J.n (fun k=>kE (C.ks k))=C.j+o8 d'
  omega
theorem Dr{d':jj}{Y:Md}(h:iq J v' d'<iq J C.v C.d):mu J (C.dd d' Y v' gY gV)<mu J C:=by
 unfold mu;have K:kY J (C.dd d' Y v' gY gV)+iq J C.v C.d=kY J C+iq J v' d':=by
  show iq J v' d'+sumTo J.n (fun k=>lY (C.ks k))+iq J C.v C.d=iq J C.v C.d+sumTo J.n _+iq J v' d'
  omega
 have H:oQ J (C.dd d' Y v' gY gV)=oQ J C:=rfl;have D:pY J (C.dd d' Y v' gY gV)=pY J C:=rfl;omega
def iw.spawn(J:im)(C:iw E)(c:Nat):={C with j:=C.j+1,L:=C.L++[c],ks:=upd C.ks C.j (.at .recv .run),d:=J.kh (C.L++[c]),dm:=.run}
theorem Ak(f:gN E->Nat)(s':gN E)(h:CI J gK C)(Y:C.j<J.n)(f0:f .no=0):sumTo J.n (fun i=>f (upd C.ks C.j s' i))=sumTo J.n (fun i=>f (C.ks i))+f s':=by
 have:=rh (s':=s') f J.n Y (h.no C.j (ao _));omega
theorem uf:(L.length<J.n/\J.kh L=.st L)\/(¬L.length<J.n/\0<J.gB.length/\J.kh L=.send L 0)\/(¬L.length<J.n/\J.gB.length=0/\J.kh L=.close L 0):=by
 unfold im.kh im.sends;by_cases Y:L.length<J.n
 ·simp_all
 ·by_cases K:0<J.gB.length
  ·simp_all
  ·simp_all
theorem CI.spawn{c:Nat}(h:CI J gK C)(G:0<J.n)(W:J.n<=8)(hd:C.d=.go C.L c)(V:c∉C.L):CI J gK (C.spawn J c)/\kY J (C.spawn J c)<kY J C:=by
 have H:C.j<J.n:=by have:=h.nT;rw[hd]at this;exact this.2
 have us:upd C.ks C.j (.at .recv .run) C.j=.at .recv .run:=upd_same _ _ _;have un:∀i,i≠C.j->upd C.ks C.j (.at .recv .run) i=C.ks i:=fun i P=>upd_ne _ _ P;have I:C.wt=0/\C.ws=0/\sumTo J.n (fun k=>ja (C.ks k))=0/\sumTo J.n (fun k=>je (C.ks k))=0:=by
  rcases h.ph with y|y
  ·exact⟨y.1,y.2.1,y.2.2.1,y.2.2.2.1⟩
  ·rw[hd]at y;exact y.1.elim
 have R:(C.L++[c]).length=C.j+1:=by simp[h.len]
 have S:r4 J (J.kh (C.L++[c]))=0:=by
  rcases uf (J:=J) (L:=C.L++[c])with⟨_,e⟩|⟨_,_,e⟩|⟨_,D,e⟩<;>rw[e]
  ·rfl
  ·rfl
  ·exact D
 have F:o8 (J.kh (C.L++[c]))=0:=by
  rcases uf (J:=J) (L:=C.L++[c])with⟨_,e⟩|⟨_,_,e⟩|⟨_,D,e⟩<;>rw[e]<;>rfl
 have B:¬yA (J.kh (C.L++[c]))/\¬yM (J.kh (C.L++[c])):=by
  rcases uf (J:=J) (L:=C.L++[c])with⟨_,e⟩|⟨_,_,e⟩|⟨_,D,e⟩<;>rw[e]<;>exact⟨id,id⟩
 have Q:∀k,¬Gone (C.ks k):=fun k hk=>by
  have:=h.gone k hk;rw[hd]at this;exact absurd this (dA _)
 refine⟨⟨H,R,?_,fun k hk=>?_,fun k hk=>?_,?_,fun k hk=>?_,fun k γ md hk=>?_,fun k pc md hk=>?_,⟨nofun,nofun,nofun⟩,fun y=>?_,h.fold,?_,?_,fun k hk=>?_,?_,fun k p x md hk=>?_,fun k p md hk=>?_,fun k i n hk=>?_,fun v0 A=>?_⟩,?_⟩
 ·show(C.L++[c]).Nodup
  rw[List.nodup_append];exact⟨h.Bd,by simp,fun a O b U=>by
   simp at U;subst U;exact fun e=>V (e▸O)⟩
 ·have:k≠C.j:=by have:C.j+1<=k:=hk;omega
  show upd C.ks C.j _ k=_
  rw[un k this];exact h.no k (by have:C.j+1<=k:=hk;omega)
 ·show upd C.ks C.j _ k≠_
  by_cases e:k=C.j
  ·subst e;rw[us];exact nofun
  ·rw[un k e];exact h.yes k (by have:k<C.j+1:=hk;omega)
 ·show Lock.Inv (fun i=>iI (upd C.ks C.j (.at .recv .run) i)) J.n C.m C.c
  have:(fun i=>iI (upd C.ks C.j (gN.at Env.kv.recv Md.run:gN E) i))=fun i=>iI (C.ks i):=by
   funext i;by_cases e:i=C.j
   ·subst e;rw[us,h.no C.j (ao _)];rfl
   ·rw[un i e]
  rw[this];exact h.lock
 ·obtain⟨md,e⟩:=h.rz k hk;have:k≠C.j:=fun e'=>by rw[e',h.no C.j (ao _)]at e;cases e
  exact⟨md,by show upd C.ks C.j _ k=_;rw[un k this];exact e⟩
 ·change upd C.ks C.j _ k=_ at hk;by_cases e:k=C.j
  ·subst e;rw[us]at hk;cases hk
  ·rw[un k e]at hk;exact h.xf k γ md hk
 ·change upd C.ks C.j _ k=_ at hk;by_cases e:k=C.j
  ·subst e;rw[us]at hk;cases hk;exact⟨nofun,fun _=>rfl⟩
  ·rw[un k e]at hk;exact h.md k pc md hk
 ·have Y:=h.num y;rw[hd]at Y;have K:=Ak (qE y) (.at .recv .run) h H rfl;show C.dn.count y+sumTo J.n (fun i=>qE y (upd C.ks C.j (.at .recv .run) i))=(J.gB.take (r4 J (J.kh (C.L++[c])))).count y
  rw[S,K];exact Y
 ·have Y:=h.px;rw[hd]at Y;have K:=Ak kE (.at .recv .run) h H rfl;show C.v+sumTo J.n (fun i=>kE (upd C.ks C.j (.at .recv .run) i))=C.j+1+o8 (J.kh (C.L++[c]))
  rw[F,K];exact Y
 ·have K:=Ak ja (.at .recv .run) h H rfl;have N:=Ak je (.at .recv .run) h H rfl;show ng (J.kh (C.L++[c])) C.v C.wt C.ws (sumTo J.n fun i=>ja (upd C.ks C.j (.at .recv .run) i)) (sumTo J.n fun i=>je (upd C.ks C.j (.at .recv .run) i))
  rw[K,N];exact .inl ⟨I.1,I.2.1,I.2.2.1,I.2.2.2,B.1,fun y=>absurd y B.2⟩
 ·change Gone (upd C.ks C.j _ k)at hk;by_cases e:k=C.j
  ·subst e;rw[us]at hk;exact hk.elim
  ·rw[un k e]at hk;exact absurd hk (Q k)
 ·show EC J (C.L++[c]) (C.j+1) (J.kh (C.L++[c]))
  rcases uf (J:=J) (L:=C.L++[c])with⟨Y,e⟩|⟨Y,K,e⟩|⟨Y,D,e⟩<;>rw[e]<;>rw[R]at Y
  ·exact⟨rfl,Y⟩
  ·exact⟨rfl,by omega,K⟩
  ·exact⟨rfl,by omega,G⟩
 ·change upd C.ks C.j _ k=_ at hk;by_cases e:k=C.j
  ·subst e;rw[us]at hk;cases hk
  ·rw[un k e]at hk;exact h.qP k p x md hk
 ·change upd C.ks C.j _ k=_ at hk;by_cases e:k=C.j
  ·subst e;rw[us]at hk;cases hk
  ·rw[un k e]at hk;exact h.oP k p md hk
 ·change upd C.ks C.j _ k=_ at hk;by_cases e:k=C.j
  ·subst e;rw[us]at hk;cases hk
  ·rw[un k e]at hk;exact h.gP k i n hk
 ·change J.kh (C.L++[c])=_ at A;rcases uf (J:=J) (L:=C.L++[c])with⟨_,e⟩|⟨_,_,e⟩|⟨_,_,e⟩<;>rw[e]at A<;>cases A
 ·have K:=Ak lY (.at .recv .run) h H rfl;show iq J C.v (J.kh (C.L++[c]))+sumTo J.n (fun i=>lY (upd C.ks C.j (.at .recv .run) i))<iq J C.v C.d+sumTo J.n (fun k=>lY (C.ks k))
  rw[K,hd];have M:lY (gN.at Env.kv.recv Md.run:gN E)=7:=rfl;have T:=h.len;rcases uf (J:=J) (L:=C.L++[c])with⟨Y,e⟩|⟨Y,K,e⟩|⟨Y,D,e⟩<;>rw[e]<;>rw[R]at Y<;>simp only[iq,R,M]<;>omega
def pR(b:Bool):gN E->gN E
 |.at pc .blk=>.at pc .run
 |.at pc .gU=>if b then .at pc .jM else .at pc .gU
 |s=>s
def wW:Md->Md
 |.blk=>.run
 |x=>x
def iw.oG(J:im)(C:iw E):={C with ks:=fun k=>pR (decide (k<iM J C.d)) (C.ks k),dm:=wW C.dm}
theorem vN{α:Type}(f:gN E->α)(H:∀pc md Y,f (.at pc md)=f (.at pc Y))(b:Bool)(s:gN E):f (pR b s)=f s:=by
 cases s with
 |«at» pc md=>
  cases md with
  |run=>rfl
  |blk=>exact H _ _ _
  |gU=>
   cases b
   ·rfl
   ·exact H _ _ _
  |jM=>rfl
 |_=>rfl
theorem vO{b:Bool}{s:gN E}{pc:E.kv}{md:Md}(h:pR b s=.at pc md):∃Y,s=.at pc Y/\(Y=md\/(Y=.blk/\md=.run)\/(Y=.gU/\md=.jM/\b=true))/\md≠.blk/\(md=.gU->b=false):=by
 cases s with
 |«at» K Y=>
  cases Y with
  |run=>cases h;simp_all
  |blk=>cases h;simp_all
  |gU=>
   cases b
   ·cases h;simp_all
   ·cases h;simp_all
  |jM=>cases h;simp_all
 |_=>cases h
theorem CI.oG(h:CI J gK C):CI J gK (C.oG J):=by
 have H:∀{α:Type} (f:gN E->α),(∀pc md B,f _=f _)->(fun k=>f ((C.oG J).ks k))=fun k=>f (C.ks k):=fun f U=>funext fun k=>vN f U _ _;refine⟨h.jn,h.len,h.Bd,fun k hk=>?_,fun k hk e=>?_,?_,fun k hk=>?_,fun k γ md hk=>?_,fun k pc md hk=>?_,?_,fun y=>?_,h.fold,?_,?_,fun k hk=>?_,h.nT,fun k p x md hk=>?_,fun k p md hk=>?_,fun k i n hk=>?_,h.w2⟩
 ·show pR _ (C.ks k)=_
  rw[h.no k hk];rfl
 ·change pR _ (C.ks k)=_ at e;have:=h.yes k hk;cases Y:C.ks k with
  |«at» pc md=>
   rw[Y]at e;cases md with
   |gU=>revert e;simp only[pR];split<;>intro e<;>cases e
   |_=>cases e
  |no=>exact this Y
  |gP i n=>rw[Y]at e;cases e
  |qt q=>rw[Y]at e;cases e
 ·rw[H iI fun _ _ _=>rfl];exact h.lock
 ·obtain⟨md,e⟩:=h.rz k hk;show∃md,pR _ (C.ks k)=_
  rw[e];cases md with
  |run=>exact⟨_,rfl⟩
  |blk=>exact⟨_,rfl⟩
  |gU=>
   have:=(h.md k _ _ e).2 (.inl rfl);cases this
  |jM=>exact⟨_,rfl⟩
 ·obtain⟨K,e,_⟩:=vO hk;exact h.xf k γ K e
 ·obtain⟨K,e,I,A,F⟩:=vO hk;refine⟨fun y=>absurd y A,fun y=>?_⟩;rcases I with rfl|⟨_,rfl⟩|⟨rfl,rfl,_⟩
  ·exact(h.md k _ _ e).2 y
  ·simp_all
  ·exact(h.md k _ _ e).2 (.inl rfl)
 ·have hd:=h.pw;show(wW C.dm=.blk->C.d=.w3)/\(wW C.dm=.gU->∃i,C.d=.send C.L i)/\wW C.dm≠.jM
  cases R:C.dm with
  |run=>exact⟨nofun,nofun,nofun⟩
  |blk=>exact⟨nofun,nofun,nofun⟩
  |gU=>exact⟨nofun,fun _=>hd.2.1 R,nofun⟩
  |jM=>exact absurd R hd.2.2
 ·rw[H _ fun _ _ _=>rfl];exact h.num y
 ·rw[H kE fun _ _ _=>rfl];exact h.px
 ·rw[H ja fun _ _ _=>rfl,H je fun _ _ _=>rfl];exact h.ph
 ·change Gone (pR _ (C.ks k))at hk;cases Y:C.ks k with
  |«at» pc md=>
   rw[Y]at hk;cases md with
   |gU=>
    by_cases D:k<iM J C.d
    ·exact D
    ·rw[decide_eq_false D]at hk;have e:=(h.md k _ _ Y).2 (.inl rfl);subst e;exact hk.elim
   |blk=>
    obtain⟨sv,x,e⟩:=(h.md k _ _ Y).1 rfl;subst e;exact hk.elim
   |run=>exact h.gone k (by rw[Y];exact hk)
   |jM=>exact h.gone k (by rw[Y];exact hk)
  |no=>rw[Y]at hk;exact hk.elim
  |gP i n=>exact h.gone k (by rw[Y];trivial)
  |qt q=>exact h.gone k (by rw[Y];trivial)
 ·obtain⟨K,e,_⟩:=vO hk;exact h.qP k p x K e
 ·obtain⟨K,e,_⟩:=vO hk;exact h.oP k p K e
 ·change pR _ _=_ at hk;cases Y:C.ks k with
  |«at» pc md=>
   rw[Y]at hk;cases md with
   |gU=>revert hk;simp only[pR];split<;>intro e<;>cases e
   |_=>cases hk
  |no=>rw[Y]at hk;cases hk
  |gP i' M=>rw[Y]at hk;cases hk;exact h.gP k _ _ Y
  |qt q=>rw[Y]at hk;cases hk
theorem Qp:mu J (C.oG J)=mu J C:=by
 have Y:∀{α:Type} (f:gN E->α),(∀pc md H,f _=f _)->(fun k=>f ((C.oG J).ks k))=fun k=>f _:=fun f K=>funext fun k=>vN f K _ _;unfold mu kY oQ pY;rw[Y lY fun _ _ _=>rfl,Y (fun s=>bw (iI s)) fun _ _ _=>rfl,Y (fun s=>dw _ (iI s)) fun _ _ _=>rfl];rfl
theorem aae(h:∀i,C.dm=.gU->C.d=.send C.L i->∀pc,C.ks (i%J.n)≠.at pc .gU):Calm J (C.oG J):=by
 refine⟨fun k pc hk=>?_,fun k pc hk D=>?_,fun hd=>?_,fun i R hd pc hk=>?_⟩
 ·obtain⟨_,_,_,A,_⟩:=vO hk;simp_all
 ·obtain⟨_,_,_,_,H⟩:=vO hk;have:=H rfl;simp only[decide_eq_false_iff_not]at this;exact this D
 ·revert hd;show wW _=.blk->_
  cases C.dm<;>intro e<;>cases e
 ·have K:C.dm=.gU:=by
   revert R;show wW _=.gU->_
   cases C.dm<;>intro e<;>first|rfl|cases e
  obtain⟨I,e,Y,_⟩:=vO hk;rcases Y with rfl|⟨_,Y⟩|⟨_,Y,_⟩
  ·exact h i K hd pc e
  ·cases Y
  ·cases Y
end
theorem CD(f:Nat->PC)(k:Nat):Lock.put f k (f k)=f:=by
 funext i;unfold Lock.put;simp_all
theorem af3{p p':PC}{m m':Word}{c:Nat}(h:Mv p m c p' m' c')(Y:iH p=2):p'=.cr\/iH p'=2:=by
 cases h with
 |Ey=>exact .inl rfl
 |rd=>right;unfold Lock.hr;split<;>rfl
 |hw=>right;unfold Lock.hd;split<;>(try split)<;>rfl
 |Ez=>
  split
  ·simp
  ·exact .inr rfl
 |EB=>right;unfold Lock.hr;split<;>rfl
 |a1=>exact .inl rfl
 |u0=>cases Y
 |Ba=>cases Y
 |Bb=>cases Y
 |ur=>cases Y
 |us=>cases Y
 |uh=>cases Y
 |_=>exact .inr rfl
theorem adT{p p':PC}{m m':Word}{c:Nat}(h:Mv p m c p' m' c')(Y:iH p=0/\p≠.out\/p=.cr):p'=.out\/(iH p'=0/\p'≠.out):=by
 have hd:∀m,Lock.dec m=.out\/(iH (Lock.dec m)=0/\Lock.dec m≠.out):=by
  intro m;unfold Lock.dec;split
  ·simp
  ·exact .inr ⟨rfl,nofun⟩
 cases h with
 |u0=>
  split
  ·exact .inr ⟨rfl,nofun⟩
  simp_all
 |Ba=>exact .inr ⟨rfl,nofun⟩
 |Bb=>exact .inr ⟨rfl,nofun⟩
 |ur=>exact hd _
 |us=>exact .inl rfl
 |uh=>exact .inl rfl
 |_=>rcases Y with⟨Y,_⟩|Y<;>cases Y
section
variable{E:Env}{J:im}{gK:E.Γ}{C:iw E}
def iw.w1(C:iw E)(k:Nat)(s':gN E):=C.wk k s' C.d C.dm C.m C.c C.v C.wt C.ws C.γ C.dn C.tok
theorem CI.c1(h:CI J gK C):C.c<=1:=(Gk h.lock).1
theorem CI.IZ(h:CI J gK C){pc:E.kv}{md:Md}(e:C.ks k=.at pc md)(n1:∀γ,pc≠.ur γ)(Y:C.tok=some i):i≠k:=by
 rintro rfl;obtain⟨K,e'⟩:=h.rz i Y;rw[e]at e';simp_all
theorem CI.quiet{pc Y:E.kv}{md H:Md}(h:CI J gK C)(hk:k<C.j)(e:C.ks k=.at pc md)(M:oO Y=oO pc)(F:∀y,qD y Y=qD y pc)(n1:∀γ,pc≠.ur γ)(n2:∀γ,Y≠.ur γ)
  (N:(H=.blk->∃sv x,Y=.lk (.s1 sv) x)/\(H=.gU\/H=.jM->Y=.recv))(A:Gone (.at Y H)->k<iM J C.d)(qP:∀p x,Y=.lk p x->iH p=2)(oP:∀p,Y=.un p->iH p=0/\p≠.out):CI J gK (C.w1 k (.at Y H)):=by
 refine h.wk hk e nofun ?_ (fun i R=>.inr ⟨h.IZ e n1 R,R,rfl⟩) (fun γ md e'=>by simp_all) (fun i _ R=>R) (fun U D K=>by cases K;omega) h.pw (fun y=>?_) h.fold rfl (fun B K I=>I) A (ao _) h.nT (fun p x D K=>by simp_all) (fun p D K=>by simp_all) (fun i n K=>by cases K) h.w2
 ·have:iI (gN.at Y H)=(fun i=>iI (C.ks i)) k:=by
   show oO Y=iI (C.ks k)
   rw[e];exact M
  rw[this,CD];exact h.lock
 ·show C.dn.count y+qD y Y+_=C.dn.count y+qD y pc+_
  rw[F]
theorem Ds{s s':gN E}(H:J.n<=8)(Y:C.c<=1)(hk:k<J.n)(e:C.ks k=s)(hr:lY s'<lY s):mu J (C.w1 k s')<mu J C:=by
 refine xh H Y ?_;have:=wj (s':=s') (d':=C.d) (ou:=C.dm) (m':=C.m) (c':=C.c) (v':=C.v) (gY:=C.wt) (gV:=C.ws) (kH:=C.γ) (jQ:=C.dn) (ju:=C.tok) hk e;change kY J (C.w1 k s')+_+_=_ at this;omega
theorem Qr{s s':gN E}(hk:k<J.n)(e:C.ks k=s)(hr:lY s'=lY s)(R:iI s'=iI s):mu J (C.w1 k s')=mu J C:=by
 have H:=wj (s':=s') (d':=C.d) (ou:=C.dm) (m':=C.m) (c':=C.c) (v':=C.v) (gY:=C.wt) (gV:=C.ws) (kH:=C.γ) (jQ:=C.dn) (ju:=C.tok) hk e;have Y:=Rh (s':=s') (d':=C.d) (ou:=C.dm) (m':=C.m) (c':=C.c) (v':=C.v) (gY:=C.wt) (gV:=C.ws) (kH:=C.γ) (jQ:=C.dn) (ju:=C.tok) hk e;have K:=Qo (s':=s') (d':=C.d) (ou:=C.dm) (c':=C.c) (v':=C.v) (gY:=C.wt) (gV:=C.ws) (kH:=C.γ) (jQ:=C.dn) (ju:=C.tok) hk e;change kY J (C.w1 k s')+_+_=_ at H;change oQ J (C.w1 k s')+_+_=_ at Y;change pY J (C.w1 k s')+_=_ at K;rw[R]at Y K;unfold mu;omega
def iw.mv(C:iw E)(k:Nat)(Y:E.kv)(m':Word)(c':Nat):=C.wk k (.at Y .run) C.d C.dm m' c' C.v C.wt C.ws C.γ C.dn C.tok
theorem CI.mv{pc Y:E.kv}{p p':PC}{m':Word}(h:CI J gK C)(V:J.n<=8)(hk:k<C.j)(e:C.ks k=.at pc .run)(R:oO pc=p)(H:oO Y=p')(O:Mv p C.m C.c p' m' c')(G:∀y,qD y Y=qD y pc)(n1:∀γ,pc≠.ur γ)(n2:∀γ,Y≠.ur γ)(n3:Y≠.wr)
  (hr:qe Y<qe pc\/(qe Y=qe pc/\iH p'=iH p))(qP:∀p x,Y=.lk p x->iH p=2)(oP:∀p,Y=.un p->iH p=0/\p≠.out):CI J gK (C.mv k Y m' c')/\mu J (C.mv k Y m' c')<mu J C:=by
 have K:k<J.n:=au hk h.jn;have P:=by
  show iI (C.ks k)=p
  rw[e];exact R
 have N:=by
  show Lock.Inv (Lock.put (fun i=>iI (C.ks i)) k (oO Y)) J.n m' c'
  rw[H];exact h.lock.step K P O
 refine⟨?_,?_⟩
 ·refine h.wk hk e nofun N (fun i A=>.inr ⟨h.IZ e n1 A,A,rfl⟩) (fun γ md e'=>by simp_all) (fun i _ A=>A) (fun T I D=>by cases D;simp_all) h.pw (fun y=>?_) h.fold rfl (fun X D R=>R) (fun S=>?_) (ao _) h.nT (fun p x I D=>by simp_all) (fun p I D=>by simp_all) (fun i n D=>by cases D) h.w2
  ·show C.dn.count y+qD y Y+_=C.dn.count y+qD y pc+_
   rw[G]
  ·cases Y with
   |wr=>exact absurd rfl n3
   |_=>exact S.elim
 ·have Q:=wj (C:=C) (J:=J) (s':=.at Y .run) (d':=C.d) (ou:=C.dm) (m':=m') (c':=c') (v':=C.v) (gY:=C.wt) (gV:=C.ws) (kH:=C.γ) (jQ:=C.dn) (ju:=C.tok) K e;have F:=Rh (C:=C) (J:=J) (s':=.at Y .run) (d':=C.d) (ou:=C.dm) (m':=m') (c':=c') (v':=C.v) (gY:=C.wt) (gV:=C.ws) (kH:=C.γ) (jQ:=C.dn) (ju:=C.tok) K e;change kY J (C.mv k Y m' c')+iq J C.v C.d+qe pc=kY J C+iq J C.v C.d+qe Y at Q;change oQ J (C.mv k Y m' c')+bw (oO pc)+7 *C.c=oQ J C+bw (oO Y)+7 *c' at F;rw[R,H]at F;have U:=(Gk N).1;have B:Lock.Ok C.m p:=by
   have:=h.lock.ok k K;simp_all
  rcases hr with hr|⟨hr,W⟩
  ·exact xh V U (by omega)
  ·rcases O.down B with L|⟨_,L⟩|⟨_,L,rfl,rfl,Z⟩
   ·omega
   ·exact ajn V (by omega) (by omega)
   ·have M:=Qo (C:=C) (J:=J) (s':=.at Y .run) (d':=C.d) (ou:=C.dm) (c':=C.c) (v':=C.v) (gY:=C.wt) (gV:=C.ws) (kH:=C.γ) (jQ:=C.dn) (ju:=C.tok) K e;change pY J (C.mv k Y C.m C.c)+dw C.m (oO pc)=pY J C+dw C.m (oO Y)at M;rw[R,H]at M;exact ajo (by omega) (by omega) (by omega)
theorem CI.mvL{x:Nat}{p p':PC}{m':Word}(h:CI J gK C)(H:J.n<=8)(hk:k<C.j)(e:C.ks k=.at (.lk p x) .run)(Y:Mv p C.m C.c p' m' c'):CI J gK (C.mv k (Env.behind p' x) m' c')/\mu J (C.mv k (Env.behind p' x) m' c')<mu J C:=by
 have I:=h.qP k p x _ e;rcases af3 Y I with rfl|K
 ·exact h.mv H hk e rfl rfl Y (fun y=>rfl) nofun nofun nofun (.inl (by show 14<14+iH p;omega)) nofun nofun
 ·have R:Env.behind (E:=E) p' x=.lk p' x:=by
   cases p'<;>first|rfl|(cases K;done)
  rw[R];exact h.mv H hk e rfl rfl Y (fun y=>rfl) nofun nofun nofun (.inr ⟨by show 14+iH p'=14+iH p;omega,by show iH p'=iH p;omega⟩) (fun A x0 D=>by cases D;exact K) nofun
theorem CI.TJ{pc:E.kv}{p p':PC}{m':Word}(h:CI J gK C)(F:J.n<=8)(hk:k<C.j)(e:C.ks k=.at pc .run)(Y:(pc=.u0/\p=.cr)\/pc=.un p)(H:Mv p C.m C.c p' m' c'):CI J gK (C.mv k (Env.vV p') m' c')/\mu J (C.mv k (Env.vV p') m' c')<mu J C:=by
 have L:iH p=0/\p≠.out\/p=.cr:=by
  rcases Y with⟨rfl,rfl⟩|rfl
  ·exact .inr rfl
  ·exact .inl (h.oP k p _ e)
 have A:oO pc=p:=by rcases Y with⟨rfl,rfl⟩|rfl<;>rfl
 have I:∀y,qD y pc=0:=by rcases Y with⟨rfl,rfl⟩|rfl<;>exact fun y=>rfl
 have n1:∀γ,pc≠.ur γ:=by rcases Y with⟨rfl,rfl⟩|rfl<;>nofun
 have K:9<=qe pc/\(pc=.un p->qe pc=9)/\(pc=.u0->qe pc=10):=by
  rcases Y with⟨rfl,rfl⟩|rfl
  ·exact⟨by show 9<=10;omega,nofun,fun _=>rfl⟩
  ·have:=h.oP k p _ e;exact⟨by show 9<=9+iH p;omega,fun _=>by show 9+iH p=9;omega,nofun⟩
 rcases adT H L with rfl|⟨D,R⟩
 ·exact h.mv F hk e A rfl H (fun y=>by rw[I];rfl) n1 nofun nofun (.inl (by have:=K.1;show 8<qe pc;omega)) nofun nofun
 ·have B:Env.vV (E:=E) p'=.un p':=by
   cases p'<;>first|rfl|exact absurd rfl R
  rw[B];refine h.mv F hk e A rfl H (fun y=>by rw[I];rfl) n1 nofun nofun ?_ nofun (fun M U=>by cases U;exact⟨D,R⟩);rcases Y with⟨rfl,rfl⟩|rfl
  ·exact .inl (by show 9+iH p'<10;omega)
  ·exact .inr ⟨by rw[K.2.1 rfl];show 9+iH p'=9;omega,by show iH p'=iH p;rw[D];exact(h.oP k p _ e).1.symm⟩
def iw.take(C:iw E)(k x:Nat):=C.wk k (.at (.ur (E.upd C.γ x)) .run) C.d C.dm C.m C.c C.v C.wt C.ws (E.upd C.γ x) (C.dn++[x]) (some k)
theorem CI.free{x:Nat}{md:Md}(h:CI J gK C)(hk:k<C.j)(e:C.ks k=.at (.la x) md):C.tok=none:=by
 cases K:C.tok with
 |none=>rfl
 |some i=>
  obtain⟨H,e'⟩:=h.rz i K;have Y:=au (Nat.lt_of_not_le fun y=>by rw[h.no i y]at e';cases e') h.jn;have:=h.lock.one Y (au hk h.jn) (by rw[e'];rfl) (by rw[e];rfl);simp_all
theorem CI.take{x:Nat}(h:CI J gK C)(A:J.n<=8)(hk:k<C.j)(e:C.ks k=.at (.la x) .run):CI J gK (C.take k x)/\mu J (C.take k x)<mu J C:=by
 have K:k<J.n:=au hk h.jn;have U:=h.free hk e;refine⟨h.wk hk e nofun ?_ (fun i Y=>.inl ⟨(Option.some.inj Y).symm,_,rfl⟩) (fun γ md e'=>rfl) (fun i _ Y=>by rw[U]at Y;cases Y) (fun F B H=>by cases H;exact⟨nofun,fun y=>by rcases y with y|y<;>cases y⟩) h.pw (fun y=>?_) ?_ rfl (fun L H I=>I) (fun R=>R.elim) (ao _) h.nT nofun nofun nofun h.w2,xh A h.c1 ?_⟩
 ·have:iI (gN.at (.ur (E.upd C.γ x)) .run:gN E)=(fun i=>iI (C.ks i)) k:=by
   show PC.cr=iI (C.ks k)
   rw[e];rfl
  rw[this,CD];exact h.lock
 ·show(C.dn++[x]).count y+0+_=C.dn.count y+(if x=y then 1 else 0)+_
  rw[dc,de,dh];simp only[beq_iff_eq];omega
 ·rw[List.foldl_append,<-h.fold];rfl
 ·have D:=wj (C:=C) (J:=J) (s':=.at (.ur (E.upd C.γ x)) .run) (d':=C.d) (ou:=C.dm) (m':=C.m) (c':=C.c) (v':=C.v) (gY:=C.wt) (gV:=C.ws) (kH:=E.upd C.γ x) (jQ:=C.dn++[x]) (ju:=some k) K e;change kY J (C.take k x)+iq J C.v C.d+13=kY J C+iq J C.v C.d+12 at D;omega
def iw.give(C:iw E)(k:Nat):=C.wk k (.at .ud .run) C.d C.dm C.m C.c C.v C.wt C.ws C.γ C.dn none
theorem CI.give{γ:E.Γ}(h:CI J gK C)(F:J.n<=8)(hk:k<C.j)(e:C.ks k=.at (.ur γ) .run):CI J gK (C.give k)/\mu J (C.give k)<mu J C/\C.tok=some k/\C.γ=γ:=by
 have K:k<J.n:=au hk h.jn;have H:=h.xf k γ _ e;refine⟨h.wk hk e nofun ?_ nofun (fun γ md e'=>by cases e') (fun i A Y=>by rw[H]at Y;exact absurd (Option.some.inj Y).symm A) (fun L B D=>by cases D;exact⟨nofun,fun y=>by rcases y with y|y<;>cases y⟩) h.pw (fun y=>rfl) h.fold rfl (fun M D U=>U) (fun I=>I.elim) (ao _) h.nT nofun nofun nofun h.w2,xh F h.c1 ?_,H,?_⟩
 ·have:iI (gN.at .ud .run:gN E)=(fun i=>iI (C.ks i)) k:=by
   show PC.cr=iI (C.ks k)
   rw[e];rfl
  rw[this,CD];exact h.lock
 ·have R:=wj (C:=C) (J:=J) (s':=.at .ud .run) (d':=C.d) (ou:=C.dm) (m':=C.m) (c':=C.c) (v':=C.v) (gY:=C.wt) (gV:=C.ws) (kH:=C.γ) (jQ:=C.dn) (ju:=none) K e;change kY J (C.give k)+iq J C.v C.d+12=kY J C+iq J C.v C.d+11 at R;omega
 ·obtain⟨md,e'⟩:=h.rz k H;rw[e]at e';cases e';rfl
def iw.hand(J:im)(C:iw E)(k x i:Nat):=C.wk k (.at (.ld x) .run) (J.sends C.L (i+1)) .run C.m C.c C.v C.wt C.ws C.γ C.dn C.tok
theorem uk:(i<J.gB.length/\J.sends L i=.send L i)\/(¬i<J.gB.length/\J.sends L i=.close L 0):=by
 unfold im.sends;by_cases Y:i<J.gB.length
 ·simp_all
 ·simp_all
theorem ng.early{d:jj}{v wt ws e2 e0:Nat}(h:ng d v wt ws e2 e0)(hw:¬yA d):wt=0/\ws=0/\e2=0/\e0=0:=by
 rcases h with y|y
 ·omega
 ·simp_all
theorem CI.hand{x:Nat}{md:Md}(h:CI J gK C)(A:0<J.n)(N:J.n<=8)(hk:k<C.j)(e:C.ks k=.at .recv md)(hd:C.d=.send C.L i)(O:J.gB[i]?=some x):CI J gK (C.hand J k x i)/\mu J (C.hand J k x i)<mu J C:=by
 have R:k<J.n:=au hk h.jn;have H:=h.nT;rw[hd]at H;have F:Lock.Inv (Lock.put (fun i=>iI (C.ks i)) k (iI (gN.at (.ld x) .run:gN E))) J.n C.m C.c:=
  Lock.sQ h.lock R (p:=.out) (by show iI (C.ks k)=.out;rw[e];rfl) trivial rfl rfl rfl rfl rfl rfl rfl rfl
 refine⟨h.wk hk e nofun F (fun i I=>.inr ⟨h.IZ e nofun I,I,rfl⟩) nofun (fun i _ I=>I) (fun Q P D=>by cases D;exact⟨nofun,fun y=>by rcases y with y|y<;>cases y⟩) ⟨nofun,nofun,nofun⟩ (fun y=>?_) h.fold ?_ (fun S D B=>?_) (fun M=>M.elim) ?_ ?_ nofun nofun nofun (fun v0 D=>by rcases uk (J:=J) (L:=C.L) (i:=i+1)with⟨_,Y⟩|⟨_,Y⟩<;>rw[Y]at D<;>cases D),xh N h.c1 ?_⟩
 ·have s1:r4 J (J.sends C.L (i+1))=i+1:=by
   rcases uk (J:=J) (L:=C.L) (i:=i+1)with⟨K,Y⟩|⟨K,Y⟩<;>rw[Y]
   ·rfl
   ·show J.gB.length=i+1
    have:=H.2.2;omega
  rw[s1,hd];show C.dn.count y+(if x=y then 1 else 0)+(J.gB.take i).count y=C.dn.count y+0+(J.gB.take (i+1)).count y
  rw[List.take_add_one,O,dc];show _=_+(_+List.count y [x])
  rw[de,dh];simp only[beq_iff_eq];omega
 ·rw[hd];rcases uk (J:=J) (L:=C.L) (i:=i+1)with⟨K,Y⟩|⟨K,Y⟩<;>rw[Y]<;>rfl
 ·rw[hd]at B;obtain⟨a1,a2,a3,a4⟩:=B.early id;rcases uk (J:=J) (L:=C.L) (i:=i+1)with⟨K,Y⟩|⟨K,Y⟩<;>rw[Y]<;>exact .inl ⟨a1,a2,a3,a4,id,fun y=>y.elim⟩
 ·rw[hd];exact cG _
 ·rcases uk (J:=J) (L:=C.L) (i:=i+1)with⟨K,Y⟩|⟨K,Y⟩<;>rw[Y]
  ·exact⟨rfl,H.2.1,K⟩
  ·exact⟨rfl,H.2.1,A⟩
 ·have K:=wj (C:=C) (J:=J) (s':=.at (.ld x) .run) (d':=J.sends C.L (i+1)) (ou:=.run) (m':=C.m) (c':=C.c) (v':=C.v) (gY:=C.wt) (gV:=C.ws) (kH:=C.γ) (jQ:=C.dn) (ju:=C.tok) R e;change kY J (C.hand J k x i)+iq J C.v C.d+7=kY J C+iq J C.v (J.sends C.L (i+1))+17 at K;have:=H.2.2;rw[hd]at K;rcases uk (J:=J) (L:=C.L) (i:=i+1)with⟨Y,U⟩|⟨Y,U⟩<;>rw[U]at K<;>simp only[iq]at K<;>omega
theorem CI.shut{md:Md}(h:CI J gK C)(H:J.n<=8)(hk:k<C.j)(e:C.ks k=.at .recv md)(Y:k<iM J C.d):CI J gK (C.w1 k (.at .wr .run))/\mu J (C.w1 k (.at .wr .run))<mu J C:=
 ⟨h.quiet hk e rfl (fun y=>rfl) nofun nofun ⟨nofun,fun y=>by simp_all⟩ (fun _=>Y) nofun nofun,Ds H h.c1 (au hk h.jn) e (by show 6<7;omega)⟩
theorem CI.slip{s s':gN E}(h:CI J gK C)(hk:k<C.j)(e:C.ks k=s)(V:iI s=.out)(A:iI s'=.out)(ne:s'≠.no)(H:∀pc md,s'≠.at pc md)(O:∀y,qE y s=0)(G:∀γ md,s≠.at (.ur γ) md)
  (px:v'+kE s'=C.v+kE s)(ph:∀R Y,ng C.d C.v C.wt C.ws (R+ja s) (Y+je s)->ng C.d v' gY gV (R+ja s') (Y+je s'))(N:Gone s)(F:∀i n,s'=.gP i n->i<=4)(M:v'<=C.v):CI J gK (C.wk k s' C.d C.dm C.m C.c v' gY gV C.γ C.dn C.tok):=by
 refine h.wk hk e ne ?_ (fun i K=>.inr ⟨?_,K,rfl⟩) (fun γ md e'=>absurd e' (H _ _)) (fun i _ K=>K) (fun pc md e'=>absurd e' (H _ _)) h.pw (fun y=>?_) h.fold (by omega) ph (fun _=>h.gone k (by simp_all)) (ao _) h.nT (fun p x md e'=>absurd e' (H _ _)) (fun p md e'=>absurd e' (H _ _)) F (fun v0 Y=>⟨(h.w2 v0 Y).1,aQ M (h.w2 v0 Y).2⟩)
 ·have:iI s'=(fun i=>iI (C.ks i)) k:=by simp_all
  rw[this,CD];exact h.lock
 ·rintro rfl;obtain⟨D,e'⟩:=h.rz i K;rw[e]at e';simp_all
 ·have:qE y s'=0:=by
   cases s' with
   |«at» pc md=>exact absurd rfl (H pc md)
   |_=>rfl
  simp_all
end
end Ph
namespace Ph
open Conc Ren
section
variable(E:Env)(RO:Nat->Prop)(b:Nat)
def Seen(B:Nat)(op:aM):=op.act.low B/\∀a,op.act≠.mark (.release a)
def gi(b:Nat)
 |0=>0
 |k+1=>b+k
open Classical in
def mm (I:Nat->Nat->Prop) (a:Nat):tL:=if RO a then .ro else if a=E.Mp then .pr else if h:∃i,I i a then .own (gi b (bj h))else .no
open Classical in
def mU (I:Nat->Nat->Prop):Loc->tL
 |.cell a=>if E.U a.block a.off then .at else mm E RO b I a.block
 |.obj a=>mm E RO b I a
 |_=>.no
end
section
variable{E:Env}{RO:Nat->Prop}{b:Nat}{I vg:Nat->Nat->Prop}
theorem adU{a:Nat}(h:RO a):mm E RO b I a=.ro:=by unfold mm;simp_all
theorem HA(h:¬RO E.Mp):mm E RO b I E.Mp=.pr:=by unfold mm;simp_all
theorem Pr{a:Nat}(h:¬RO a)(H:a≠E.Mp)(Y:I i a)(R:∀i',I i' a->i'=i):mm E RO b I a=.own (gi b i):=by
 unfold mm;rw[if_neg h,if_neg H,dif_pos ⟨i,Y⟩,R _ (cA (⟨i,Y⟩:∃i,I i a))]
theorem GH{a:Nat}(h:∀i,vg i a↔I i a):mm E RO b vg a=mm E RO b I a:=by
 have:=funext fun i=>propext (h i);have key:∀p p':Nat->Prop,p'=p->(open Classical in(if RO a then tL.ro else if a=E.Mp then .pr else if h:∃i,p' i then .own (gi b (bj h))else .no))=(open Classical in(if RO a then tL.ro else if a=E.Mp then .pr else if h:∃i,p i then .own (gi b (bj h))else .no)):=by simp
 exact key _ _ this
theorem NC(h:∀i a,a<B->(vg i a↔I i a)){l:Loc}(Y:l.low B):mU E RO b vg l=mU E RO b I l:=by
 cases l with
 |cell a=>simp[mU];rw[GH fun i=>h i _ Y]
 |obj a=>exact GH fun i=>h i _ Y
 |_=>rfl
theorem On:∀l,l.isMemory=false->mU E RO b I l=.no
 |.cell _,h=>by cases h
 |.obj _,h=>by cases h
 |.output,_=>rfl
 |.goroutines,_=>rfl
 |.mark _,_=>rfl
def rA(E:Env):Loc->Prop
 |.cell a=>E.U a.block a.off
 |_=>False
theorem Qs(a:Nat):mm E RO b I a≠.at:=by
 unfold mm;split
 ·nofun
 ·split
  ·nofun
  ·split<;>nofun
theorem Ps{l:Loc}(h:mU E RO b I l=.at):rA E l:=by
 cases l with
 |cell a=>
  simp only[mU]at h;split at h
  ·assumption
  ·exact absurd h (Qs _)
 |obj a=>exact absurd h (Qs _)
 |_=>cases h
theorem W4{op:aM}{x:bp}(h:op.act.low B)(Y:op.act.touch?=some x):x.loc.low B:=by
 obtain⟨g,fn,pos,act⟩:=op;cases act with
 |access e=>simp[aD,bm]at Y;subst Y;exact h
 |mark m=>
  cases m<;>simp[aD,bm]at Y<;>first|(subst Y;exact h)|cases Y
 |_=>simp[aD]at Y
variable{j:Nat}{iU:Loc->Prop}{t:ax}{tok:Option Nat}{rel:Nat->Option Nat}{w w1:af}{S X S1 X1:Nat->Prop}{es:Array aO}{i:Nat}{fn:ar}{pos:String}
theorem pJ{g:Nat}{op:aM}(h:op∈aK g fn pos es):∃e∈es,op={g,fn,pos,act:=.ofEvent e}:=by
 rw[bP]at h;obtain⟨e,Y,rfl⟩:=bT.1 h;exact⟨e,Y,rfl⟩
theorem ab0{mu:Addr}(hd:jY E.U S X w w1 es S1 X1)(g:Nat)(cls:Loc->tL)(F:∀a:Nat,S a->(cls (.obj a)=.ro/\¬X a)\/(cls (.obj a)=.pr/\tok=some g)\/cls (.obj a)=.own g)(M:∀a:Addr,¬E.U a.block a.off->cls (.cell a)=cls (.obj a.block))(N:∀a,w.heap.size<=a->a<w1.heap.size->cls (.obj a)=.own g):
  ∀op∈aK g fn pos es,OkOp mu wg cls tok g op:=by
 intro op gu;obtain⟨e,A,rfl⟩:=pJ gu;obtain⟨loc,wr,C⟩:=e;have fin:∀{a:Nat} {l:Loc},cls l=cls (.obj a)->((S a/\(wr=true->X a))\/(w.heap.size<=a/\a<w1.heap.size))->(cls l=.ro/\wr=false)\/(cls l=.pr/\tok=some g)\/cls l=.own g:=by
  intro a l B h;rw[B];rcases h with⟨D,I⟩|⟨D,I⟩
  ·rcases F a D with⟨y,z⟩|y|y
   ·simp_all
   ·exact .inr (.inl y)
   ·exact .inr (.inr y)
  ·exact .inr (.inr (N a D I))
 rcases hd.ev _ A with⟨a,Y,H,h⟩|⟨a,Y,H,h⟩|⟨m,Y,h⟩|Y
 ·simp only at Y H;subst Y H;refine⟨rfl,nofun,nofun,fun x K=>?_⟩;simp only[az,aD,bm]at K;subst K;rcases fin (M a (hd.JO _ A a rfl)) h with y|y|y
  ·simp_all
  ·exact .inr (.inr (.inr (.inr (.inl y))))
  ·simp_all
 ·simp only at Y H;subst Y H;have R:az ⟨.obj a,wr,false⟩=.access ⟨.obj a,wr,false⟩:=by cases wr<;>rfl
  refine⟨rfl,by rw[R];nofun,by rw[R];nofun,fun x K=>?_⟩;simp only[R,aD,bm]at K;subst K;rcases fin rfl h with y|y|y
  ·exact .inr (.inr (.inr (.inl y)))
  ·exact .inr (.inr (.inr (.inr (.inl y))))
  ·simp_all
 ·simp only at Y;subst Y;refine⟨rfl,?_,?_,fun x K=>?_⟩
  ·rcases h with rfl|⟨f,rfl⟩<;>nofun
  ·rcases h with rfl|⟨f,rfl⟩<;>nofun
  ·rcases h with rfl|⟨f,rfl⟩<;>simp[az,aD]at K
 ·simp only at Y;subst Y;refine⟨rfl,nofun,nofun,fun x K=>?_⟩;simp only[az,aD,bm]at K;subst K;exact .inl rfl
theorem ab1(hd:jY E.U S X w w1 es S1 X1)(g:Nat):∀op∈aK g fn pos es,∀a,op.act≠.mark (.release a):=by
 intro op gu a0;obtain⟨e,H,rfl⟩:=pJ gu;obtain⟨loc,wr,R⟩:=e;rcases hd.ev _ H with⟨a,Y,K,h⟩|⟨a,Y,K,h⟩|⟨m,Y,h⟩|Y
 ·subst Y K;nofun
 ·subst Y K;have D:az ⟨.obj a,wr,false⟩=.access ⟨.obj a,wr,false⟩:=by cases wr<;>rfl
  simp_all
 ·subst Y;rcases h with rfl|⟨f,rfl⟩<;>nofun
 ·subst Y;nofun
theorem adV(hd:jY E.U S X w w1 es S1 X1)(H:∀a,S a->a<w.heap.size)(g:Nat):∀op∈aK g fn pos es,op.act.low w1.heap.size:=by
 intro op gu;obtain⟨e,R,rfl⟩:=pJ gu;obtain⟨loc,wr,A⟩:=e;have I:=hd.grow;rcases hd.ev _ R with⟨a,Y,K,h⟩|⟨a,Y,K,h⟩|⟨m,Y,h⟩|Y
 ·subst Y K;show a.block<_
  rcases h with⟨h,_⟩|h
  ·have:=H _ h;omega
  ·omega
 ·subst Y K;have D:az ⟨.obj a,wr,false⟩=.access ⟨.obj a,wr,false⟩:=by cases wr<;>rfl
  rw[D];show a<_
  rcases h with⟨h,_⟩|h
  ·have:=H _ h;omega
  ·omega
 ·subst Y;rcases h with rfl|⟨f,rfl⟩<;>trivial
 ·subst Y;trivial
theorem Pt(hd:jY E.U S X w w1 es S1 X1)(d:Nat):bG d es=d:=by
 refine cM (fun e H=>?_) d;obtain⟨loc,wr,D⟩:=e;rcases hd.ev _ H with⟨a,Y,K,h⟩|⟨a,Y,K,h⟩|⟨m,Y,h⟩|Y<;>simp only at Y<;>subst Y
 ·simp
 ·simp
 ·rcases h with rfl|⟨f,rfl⟩<;>exact⟨nofun,nofun⟩
 ·simp
theorem Pu(hd:jY E.U S X w w1 es S1 X1)(Y:∀a,S a->a<w.heap.size)(g:Nat):∀op∈aK g fn pos es,Seen w1.heap.size op:=fun op gu=>⟨adV hd Y g op gu,ab1 hd g op gu⟩
theorem G8{mu:Addr}(h:Env.EvA bl es)(R:bl=E.Fd\/bl=E.Wg)(g:Nat):∀op∈aK g fn pos es,OkOp mu wg (mU E RO b I) tok g op:=by
 intro op gu;obtain⟨e,H,rfl⟩:=pJ gu;have cell:∀(a:Addr) (wr:Bool),a.block=bl->a.off<2->OkOp mu wg (mU E RO b I) tok g {g,fn,pos,act:=.ofEvent ⟨.cell a,wr,true⟩}:=by
  intro a wr D K;refine⟨rfl,nofun,nofun,fun x Y=>?_⟩;simp[az,aD,bm]at Y;subst Y;refine .inr (.inl ⟨?_,rfl⟩);have B:E.U a.block _:=⟨by omega,K⟩;simp[mU];simp_all
 rcases h with h|⟨o,A,rfl⟩
 ·obtain⟨a,wr,rfl,D,K,_⟩:=h e H;exact cell a wr D K
 ·simp[aH,cg,cf,cj,or_false]at H;rcases H with rfl|rfl|rfl|rfl
  ·exact⟨rfl,nofun,nofun,fun x Y=>by simp[az,aD]at Y⟩
  ·simp_all
  ·simp_all
  ·exact⟨rfl,nofun,nofun,fun x Y=>by simp[az,aD]at Y⟩
theorem adW(h:Env.EvA bl es)(H:bl<B)(g:Nat):∀op∈aK g fn pos es,op.act.low B:=by
 intro op gu;obtain⟨e,Y,rfl⟩:=pJ gu;rcases h with h|⟨o,R,rfl⟩
 ·obtain⟨a,wr,rfl,K,D,_⟩:=h e Y;show a.block<B
  omega
 ·simp[aH,cg,cf,cj,or_false]at Y;rcases Y with rfl|rfl|rfl|rfl
  ·trivial
  ·exact H
  ·exact H
  ·trivial
theorem G9(h:Env.EvA bl es)(H:bl<B)(g:Nat):∀op∈aK g fn pos es,Seen B op:=by
 intro op gu;refine⟨adW h H g op gu,fun a0=>?_⟩;obtain⟨e,Y,rfl⟩:=pJ gu;rcases h with h|⟨o,R,rfl⟩
 ·obtain⟨a,wr,rfl,K,D,_⟩:=h e Y;nofun
 ·simp[aH,cg,cf,cj,or_false]at Y;rcases Y with rfl|rfl|rfl|rfl<;>nofun
theorem CE(h:Env.EvA bl es)(d:Nat):bG d es=d:=by
 rcases h with h|⟨o,K,rfl⟩
 ·refine cM (fun e Y=>?_) d;obtain⟨a,wr,rfl,_⟩:=h e Y;simp_all
 ·simp[aH,bG]
theorem Wz(h:Env.EvA bl es){g:Nat}(hd:0<Deaf t g):∀i x,t.size<=i->aI (t++aK g fn pos es) i=some x->x.loc.isMemory=true->x.kind=.atomic/\¬(t++aK g fn pos es).counts i/\∃a:Addr,x.loc=.cell a/\a.block=bl/\a.off<2:=by
 intro i x Q O X;obtain⟨op,R,H⟩:=cR O;have F:=by
  rw[Array.getElem?_append]at R;simpa[Nat.not_lt.2 Q]using R
 have S:=F;rw[bP,bI]at F;obtain⟨e,K,rfl⟩:=bM.1 F;have D:i-t.size<=es.size:=by
  rcases ck (i-t.size) es.size with h'|h'
  ·omega
  ·simp_all
 have B:∀n,n<=es.size->(∃e,es[n]?=some e/\∃a wr,e=⟨.cell a,wr,true⟩)->0<bG (Deaf t g) (es.extract 0 n):=by
  intro n Z Y;rcases h with h|⟨o,R,rfl⟩
  ·rw[cM (fun e K=>?_)]
   ·exact hd
   ·obtain⟨a,wr,rfl,_⟩:=h e (by
     obtain⟨k,hk,rfl⟩:=cV.1 K;simp only[Array.getElem_extract];exact Array.getElem_mem _)
    exact⟨nofun,nofun⟩
  ·have E:(aH ⟨bl,o,none⟩).size=4:=rfl;obtain⟨e,K,a,wr,rfl⟩:=Y;have:n=0\/n=1\/n=2\/n=3\/n=4:=by omega
   rcases this with rfl|rfl|rfl|rfl|rfl
   ·simp[aH]at K
   ·simp[aH,bG]
   ·simp[aH,bG]
   ·simp[aH]at K
   ·simp[aH]at K
 have Y:∃a wr,e=⟨.cell a,wr,true⟩/\a.block=bl/\a.off<2:=by
  rcases h with h|⟨o,J,rfl⟩
  ·obtain⟨a,wr,rfl,I,A,_⟩:=h e (bJ K);exact⟨a,wr,rfl,I,A⟩
  ·have:=bJ K;simp only[aH,cg,cf,cj,or_false]at this;rcases this with rfl|rfl|rfl|rfl
   ·simp[az,aD]at H
   ·exact⟨_,_,rfl,rfl,J⟩
   ·simp_all
   ·simp[az,aD]at H
 obtain⟨a,wr,rfl,I,A⟩:=Y;have L:=by
  simp only[az,aD,bm]at H;exact H.symm
 subst L;refine⟨rfl,?_,a,rfl,I,A⟩;rintro⟨y,T,_,hk⟩;have:=Option.some.inj (T.symm.trans O);subst this;rcases hk with hk|⟨M,N,U⟩
 ·exact hk rfl
 ·have C:M=g:=by simp[cK,R]at N;exact N.symm
  subst C;have P:=Go.Conc.deaf_inside t M fn pos es (i-t.size) D;rw[show t.size+(i-t.size)=i by omega,U]at P;have V:=B _ D ⟨_,K,a,wr,rfl⟩;omega
end
end Ph
namespace Ph
open Conc Ren
open Lock (Word PC Mv bn iH bw dw)
open ConcN (sumTo upd sumTo_upd upd_ne upd_same)
structure gD where
 P:aj
 E:Env
 J:im
 b:Nat
 A:Nat->(Nat->Prop)->(Nat->Prop)->ak->af->Prop
 j8:Nat->ak->af->Prop
 Fin:(Nat->Prop)->(Nat->Prop)->ak->af->Prop
 RO:Nat->Prop
 iU:Loc->Prop
 ok:Nat->Prop
 gK:E.Γ
 w0:af
structure gD.Laws(Q:gD):Prop where
 n0:0<Q.J.n
 n8:Q.J.n<=8
 b0:0<Q.b
 Kh:∀x∈Q.J.gB,Q.ok x
 fw:Q.E.Fd≠Q.E.Wg
 mf:Q.E.Mp≠Q.E.Fd
 mw:Q.E.Mp≠Q.E.Wg
 rf:Q.RO Q.E.Fd
 rw:Q.RO Q.E.Wg
 rm:¬Q.RO Q.E.Mp
 Ki:∀l,rA Q.E l->Q.iU l
 I0:∀{c:Nat} {S X:Nat->Prop} {g:ak} {w:af},Q.A c S X g w->g.status=.running/\g.offers=none
 I1:∀{c:Nat} {S X:Nat->Prop} {g:ak} {w:af},Q.A c S X g w->∀w2,ah Q.P false g w2=.comm g #[rcase c Q.E.zc] true (.recv true) w2 #[]
 Jq:∀{c:Nat} {S X:Nat->Prop} {g:ak} {w w2:af} {x:Nat},Q.A c S X g w->gI Q.E.U S w w2->Q.ok x->∀k,Q.E.Tree Q.P false (Q.E.i_ Q.P (Q.A c) k (.ld x)) S X (Go.Conc.served g (recvd true (.int .i64 (x:Int)) true)) w2
 R8:∀{c:Nat} {S X:Nat->Prop} {g:ak} {w w2:af},Q.A c S X g w->gI Q.E.U S w w2->∀k,Q.E.Tree Q.P false (Q.E.i_ Q.P (Q.A c) k .wr) S X (Go.Conc.served g (recvd true Q.E.zc false)) w2
 Ex:∀{c:Nat} {g:ak} {w:af},Q.j8 c g w->Q.E.Tree Q.P false (Q.A c) Q.RO (fun _=>False) g w
def I2(c:Nat)(z:ai):Md->ak->ak
 |.run,g=>g
 |.blk,g=>{g with status:=.blocked}
 |.gU,g=>parked g #[rcase c z] (.recv true)
 |.jM,g=>{parked g #[rcase c z] (.recv true)with status:=.running}
namespace gD
variable(Q:gD)
def ch(C:iw Q.E)(k:Nat):=C.L.getD k 0
abbrev DS(fu:Nat)(d:jj):=Q.E.ll Q.P Q.J Q.j8 Q.Fin fu d
abbrev WS(c fu:Nat)(pc:Q.E.kv):=Q.E.i_ Q.P (Q.A c) fu pc
def tN(c:Nat)(gs:Array ak)(t:ax)(k:Nat)(nd:Nd)(fu:Nat):gN Q.E->Prop
 |.no=>False
 |.at pc md=>gs[Q.b+k]?=some (I2 c Q.E.zc md nd.g)/\Tz Q.P false Q.E.U (Q.WS c fu pc) nd.S nd.X nd.g nd.w/\(md≠.run->Q.WS c fu pc nd.S nd.X nd.g nd.w)
 |.gP i n=>∃g,gs[Q.b+k]?=some g/\Env.oj Q.P (Q.E.tD Q.P i) n g
 |.qt q=>∃g,gs[Q.b+k]?=some g/\QuitsD Q.P q (Deaf t (Q.b+k)) g
def xi(gs:Array ak)(nd:Nd)(fu:Nat)(L:List Nat)(d:jj):Md->Prop
 |.run=>gs[0]?=some nd.g/\Tz Q.P true Q.E.U (Q.DS fu d) nd.S nd.X nd.g nd.w
 |.blk=>gs[0]?=some {nd.g with status:=.blocked}/\nd.g.offers=none/\nd.g.status=.running/\Q.DS fu d nd.S nd.X nd.g nd.w
 |.gU=>Q.DS fu d nd.S nd.X nd.g nd.w/\∃i c x z Y,d=.send L i/\fu=Y+1/\L[i%Q.J.n]?=some c/\Q.J.gB[i]?=some x/\gs[0]?=some (parked nd.g #[scase c (.int .i64 (x:Int)) z] .send)/\
   ∀w2,gI Q.E.U nd.S nd.w w2->Q.E.Tree Q.P true (Q.DS Y (Q.J.sends L (i+1))) nd.S nd.X (Go.Conc.served nd.g aJ) w2
 |.jM=>False
def om(nd:Nat->Nd)(j:Nat)(L:List Nat)(i a:Nat):=(i<=j/\(nd i).X a)\/(i=0/\a∈L)
structure Sets(nd:Nat->Nd)(j:Nat)(L:List Nat)(tok:Option Nat)(B:Nat):Prop where
 xj:∀i i',i<=j->i'<=j->i≠i'->∀a,(nd i).X a->¬(nd i').S a
 low:∀i,i<=j->∀a,(nd i).S a->a<B
 sub:∀i,i<=j->∀a,(nd i).S a->Q.RO a\/(nd i).X a
 mB:∀i,i<=j->∀a,Q.RO a->¬(nd i).X a
 xs:∀i,i<=j->∀a,(nd i).X a->(nd i).S a
 mp:∀i,i<=j->(nd i).S Q.E.Mp->∃k,i=k+1/\tok=some k
 nN:∀a,Q.RO a->a<B
 tO:Q.E.Mp<B
 nU:∀c∈L,c<B/\¬Q.RO c/\c≠Q.E.Mp/\∀i,i<=j->¬(nd i).S c
structure Wd(C:iw Q.E)(w:af):Prop where
 mu:Q.E.MuAt w C.m C.c
 wg:Q.E.WgAt w C.v C.wt C.ws
 map:C.tok=none->Q.E.mi C.γ (w.heap[Q.E.Mp]?)
 shut:∀k,k<C.j->k<iM Q.J C.d->∃s,w.heap[Q.ch C k]?=some (.chan 0 #[] true s s false)
 opn:∀k,k<C.j->¬k<iM Q.J C.d->∃s,ob w (Q.ch C k) s
 tape:w.tape=Q.w0.tape
 out:w.output=Q.w0.output
def xk{E:Env}:gN E->Prop
 |.gP _ _=>True
 |.qt _=>True
 |_=>False
abbrev cls (nd:Nat->Nd) (j:Nat) (L:List Nat):=mU Q.E Q.RO Q.b (om nd j L)
structure MI(C:iw Q.E)(nd:Nat->Nd)(fu:Nat->Nat)(gs:Array ak)(w:af)(t:ax)(q:Nat->Nat)(rel:Nat->Option Nat):Prop where
 size:gs.size=Q.b+C.j
 g0:Q.xi gs (nd 0) (fu 0) C.L C.d C.dm
 wk:∀k,k<C.j->Q.tN (Q.ch C k) gs t k (nd (k+1)) (fu (k+1)) (C.ks k)
 old:∀i g,0<i->i<Q.b->gs[i]?=some g->QuitsD Q.P (q i) (Deaf t i) g
 fuel:∀i,i<=C.j->mu Q.J C<=fu i
 nV:∀i,i<=C.j->gI Q.E.U (nd i).S (nd i).w w
 gZ:Q.Sets nd C.j C.L C.tok w.heap.size
 wd:Q.Wd C w
 tr:PT Q.b C.j Q.E.mu Q.E.st Q.iU (Q.cls nd C.j C.L) t (C.tok.map (Q.b+ ·)) rel
 deaf0:Deaf t 0=o_ C.d
 mV:∀k,k<C.j->(∀q,C.ks k≠.qt q)->Deaf t (Q.b+k)=AQ (C.ks k)
 above:∀i,Q.b+C.j<=i->Deaf t i=0
 pg:∀k,k<C.j->((∃p,rel (Q.b+k)=some p)↔xk (C.ks k))
 uS:∀k,C.j<=k->rel (Q.b+k)=none
 seen:∀op∈t,Seen w.heap.size op
end gD
section
variable{Q:gD}{nd:Nat->Nd}{j:Nat}{L:List Nat}{tok:Option Nat}{B:Nat}{C:iw Q.E}{w w1:af}{gs I:Array ak}{t t':ax}
theorem gD.Sets.uniq(h:Q.Sets nd j L tok B){a:Nat}(H:gD.om nd j L i a)(R:gD.om nd j L i' a):i=i':=by
 rcases H with⟨a1,a2⟩|⟨rfl,a2⟩<;>rcases R with⟨Y,K⟩|⟨rfl,K⟩
 ·by_cases e:i=i'
  ·exact e
  ·exact absurd (h.xs i' Y a K) (h.xj i i' a1 Y e a a2)
 ·exact absurd (h.xs i a1 a a2) ((h.nU a K).2.2.2 i a1)
 ·exact absurd (h.xs i' Y a K) ((h.nU a a2).2.2.2 i' Y)
 ·rfl
theorem gD.Sets.own(h:Q.Sets nd j L tok B){a:Nat}(Y:i<=j)(H:(nd i).X a)(R:a≠Q.E.Mp):mm Q.E Q.RO Q.b (gD.om nd j L) a=.own (gi Q.b i):=
 Pr (fun y=>h.mB i Y a y H) R (.inl ⟨Y,H⟩) fun i' h'=>h.uniq h' (.inl ⟨Y,H⟩)
theorem gD.Sets.held(h:Q.Sets nd j L tok B)(H:¬Q.RO Q.E.Mp){a:Nat}(Y:i<=j)(R:(nd i).S a):(Q.cls nd j L (.obj a)=.ro/\¬(nd i).X a)\/(Q.cls nd j L (.obj a)=.pr/\tok.map (Q.b+ ·)=some (gi Q.b i))\/Q.cls nd j L (.obj a)=.own (gi Q.b i):=by
 rcases h.sub i Y a R with y|y
 ·exact .inl ⟨adU y,h.mB i Y a y⟩
 ·by_cases K:a=Q.E.Mp
  ·subst K;obtain⟨k,rfl,rfl⟩:=h.mp i Y R;exact .inr (.inl ⟨HA H,rfl⟩)
  ·exact .inr (.inr (h.own Y y K))
theorem ab2{a:Addr}(h:¬Q.E.U a.block a.off):Q.cls nd j L (.cell a)=Q.cls nd j L (.obj a.block):=by
 simp[mU];simp_all
theorem gD.Sets.did(h:Q.Sets nd j L tok w.heap.size)(N:i<=j){H:Nd}(hd:jY Q.E.U (nd i).S (nd i).X w w1 es H.S H.X):Q.Sets (upd nd i H) j L tok w1.heap.size:=by
 have us:upd nd i H i=H:=upd_same _ _ _;have un:∀k,k≠i->upd nd i H k=nd k:=fun k hk=>upd_ne _ _ hk;have R:=hd.grow;have S':∀k a,k<=j->(upd nd i H k).S a->(nd k).S a\/(k=i/\w.heap.size<=a/\a<w1.heap.size):=by
  intro k a hk Y;by_cases e:k=i
  ·subst e;rw[us]at Y;exact((hd.held a).1 Y).imp id fun y=>⟨rfl,y⟩
  ·simp_all
 have X':∀k a,k<=j->(upd nd i H k).X a->(nd k).X a\/(k=i/\w.heap.size<=a/\a<w1.heap.size):=by
  intro k a hk Y;by_cases e:k=i
  ·subst e;rw[us]at Y;exact((hd.may a).1 Y).imp id fun y=>⟨rfl,y⟩
  ·simp_all
 refine⟨fun k k' hk D I a K Y=>?_,fun k hk a Y=>?_,fun k hk a Y=>?_,fun k hk a hr K=>?_,fun k hk a K=>?_,fun k hk Y=>?_,fun a F=>au (h.nN a F) R,au h.tO R,fun c J=>?_⟩
 ·rcases X' k a hk K with y|⟨rfl,y⟩<;>rcases S' k' a D Y with z|⟨rfl,z⟩
  ·exact h.xj k k' hk D I a y z
  ·have:=h.low k hk a (h.xs k hk a y);omega
  ·have:=h.low k' D a z;omega
  ·omega
 ·rcases S' k a hk Y with y|⟨_,y⟩
  ·exact au (h.low k hk a y) R
  ·omega
 ·by_cases e:k=i
  ·subst e;rw[us]at Y⊢;rcases(hd.held a).1 Y with y|y
   ·exact(h.sub k hk a y).imp id fun z=>(hd.may a).2 (.inl z)
   ·exact .inr ((hd.may a).2 (.inr y))
  ·rw[un k e]at Y⊢;exact h.sub k hk a Y
 ·rcases X' k a hk K with y|⟨_,y⟩
  ·exact h.mB k hk a hr y
  ·have:=h.nN a hr;omega
 ·by_cases e:k=i
  ·subst e;rw[us]at K⊢;exact(hd.held a).2 (((hd.may a).1 K).imp (h.xs k hk a) id)
  ·rw[un k e]at K⊢;exact h.xs k hk a K
 ·rcases S' k _ hk Y with y|⟨_,y⟩
  ·exact h.mp k hk y
  ·have:=h.tO;omega
 ·obtain⟨A,B,C,M⟩:=h.nU c J;refine⟨au A R,B,C,fun k hk Y=>?_⟩;rcases S' k c hk Y with y|⟨_,y⟩
  ·simp_all
  ·omega
theorem gD.af4(h:Q.Sets nd j L tok w.heap.size)(H:i<=j){es:Array _}{Y:Nd}(hd:jY Q.E.U (nd i).S (nd i).X w w1 es Y.S Y.X):∀k a,a<w.heap.size->(gD.om (upd nd i Y) j L k a↔gD.om nd j L k a):=by
 intro k a K;unfold gD.om;by_cases e:k=i
 ·subst e;rw[upd_same];have:Y.X a↔(nd k).X a:=⟨fun y=>((hd.may a).1 y).resolve_right fun z=>by omega,fun y=>(hd.may a).2 (.inl y)⟩;rw[this]
 ·rw[upd_ne _ _ e]
theorem gD.Sets.same(h:Q.Sets nd j L tok B){n':Nd}(R:n'.S=(nd i).S)(hX:n'.X=(nd i).X):Q.Sets (upd nd i n') j L tok B:=by
 have Y:∀k,(upd nd i n' k).S=(nd k).S:=fun k=>by
  by_cases e:k=i
  ·subst e;rw[upd_same];exact R
  ·rw[upd_ne _ _ e]
 have K:∀k,(upd nd i n' k).X=(nd k).X:=fun k=>by
  by_cases e:k=i
  ·subst e;rw[upd_same];exact hX
  ·rw[upd_ne _ _ e]
 refine⟨fun k k' hk H D a=>?_,fun k hk a=>?_,fun k hk a=>?_,fun k hk a=>?_,fun k hk a=>?_,fun k hk=>?_,h.nN,h.tO,fun c I=>?_⟩
 ·rw[K,Y];exact h.xj k k' hk H D a
 ·rw[Y];exact h.low k hk a
 ·rw[K,Y];exact h.sub k hk a
 ·rw[K];exact h.mB k hk a
 ·rw[K,Y];exact h.xs k hk a
 ·rw[Y];exact h.mp k hk
 ·obtain⟨A,U,C,F⟩:=h.nU c I;simp_all
theorem gD.CS{n':Nd}(hX:n'.X=(nd i).X):gD.om (upd nd i n') j L=gD.om nd j L:=by
 funext k a;unfold gD.om;by_cases e:k=i
 ·subst e;rw[upd_same,hX]
 ·rw[upd_ne _ _ e]
theorem Pv(h:Q.Sets nd j L tok w.heap.size)(R:i<=j)(Y:i'<=j)(H:i≠i'){es:Array _}(hd:jY Q.E.U (nd i).S (nd i).X w w1 es S1 X1):gI Q.E.U (nd i').S w w1:=
 ⟨fun a K=>.inl (hd.kept a (h.low i' Y a K) fun D=>h.xj i i' R Y H a D K),hd.grow,hd.env⟩
theorem Qt{E:Env}{w1:af}{m m':Word}{c:Nat}(S:Nat->Prop)(h:E.MuAt w m c)(h':E.MuAt w1 m' c')(H:Env.Eff E.Fd w w1):gI E.U S w w1:=by
 refine⟨fun a _=>?_,dz H.size.symm,H.env⟩;by_cases e:a=E.Fd
 ·subst e;refine .inr ⟨_,_,_,_,⟨0,.inl rfl,by omega⟩,h,h',rfl,fun i Y=>?_,fun i x Y K=>?_⟩
  ·match i with
   |0=>exact absurd ⟨.inl rfl,by omega⟩ Y
   |1=>exact absurd ⟨.inl rfl,by omega⟩ Y
   |i+2=>simp
  ·match i with
   |0=>simp at K;subst K;rfl
   |1=>simp at K;subst K;rfl
   |i+2=>exact absurd Y.2 (by omega)
 ·exact .inl (H.heap a e)
theorem HD{E:Env}{w1:af}{v wt ws:Nat}(S:Nat->Prop)(h:E.WgAt w v wt ws)(h':E.WgAt w1 v' gY gV)(H:Env.Eff E.Wg w w1):gI E.U S w w1:=by
 refine⟨fun a _=>?_,dz H.size.symm,H.env⟩;by_cases e:a=E.Wg
 ·subst e;unfold Env.WgAt at h h';generalize((v *4294967296+wt))=z at h;refine .inr ⟨_,_,_,_,⟨0,.inr rfl,by omega⟩,h,h',rfl,fun i Y=>?_,fun i x Y K=>?_⟩
  ·match i with
   |0=>exact absurd ⟨.inr rfl,by omega⟩ Y
   |1=>exact absurd ⟨.inr rfl,by omega⟩ Y
   |i+2=>simp
  ·match i with
   |0=>simp at K;subst K;rfl
   |1=>simp at K;subst K;rfl
   |i+2=>exact absurd Y.2 (by omega)
 ·exact .inl (H.heap a e)
theorem vD{E:Env}{c s:Nat}(Y:¬S c):gI E.U S w (w.setChan c 0 #[] cl s s false):=by
 refine⟨fun a K=>.inl ?_,by simp[dE],.refl _⟩;have:c≠a:=fun e=>Y (e▸K);simp[dE];simp_all
theorem gD.Wd.keep(h:Q.Wd C w)(hF:w1.heap[Q.E.Fd]?=w.heap[Q.E.Fd]?)(M:w1.heap[Q.E.Wg]?=w.heap[Q.E.Wg]?)(H:C.tok=none->w1.heap[Q.E.Mp]?=w.heap[Q.E.Mp]?)(R:∀k,k<C.j->w1.heap[Q.ch C k]?=w.heap[Q.ch C k]?)(F:w1.tape=w.tape)(A:w1.output=w.output):Q.Wd C w1:=by
 refine⟨?_,?_,fun e=>?_,fun k hk Y=>?_,fun k hk Y=>?_,F.trans h.tape,A.trans h.out⟩
 ·have:=h.mu;unfold Env.MuAt at this⊢;simp_all
 ·have:=h.wg;unfold Env.WgAt at this⊢;simp_all
 ·rw[H e];exact h.map e
 ·rw[R k hk];exact h.shut k hk Y
 ·obtain⟨s,K⟩:=h.opn k hk Y;exact⟨s,by unfold ob at K⊢;simp_all⟩
theorem qx(Y:C.L.length=C.j)(hk:k<C.j):Q.ch C k∈C.L:=by
 unfold gD.ch;simp_all
theorem gD.Wd.did(h:Q.Wd C w)(Y:Q.Sets nd C.j C.L C.tok w.heap.size)(R:Q.Laws)(A:C.L.length=C.j)(H:i<=C.j){es:Array _}(hd:jY Q.E.U (nd i).S (nd i).X w w1 es S1 X1):Q.Wd C w1:=by
 refine h.keep (hd.kept _ (Y.nN _ R.rf) (Y.mB i H _ R.rf)) (hd.kept _ (Y.nN _ R.rw) (Y.mB i H _ R.rw)) (fun e=>hd.kept _ Y.tO fun K=>?_) (fun k hk=>?_) hd.tape hd.output
 ·obtain⟨k,_,B⟩:=Y.mp i H (Y.xs i H _ K);simp_all
 ·obtain⟨D,_,_,I⟩:=Y.nU _ (qx A hk);exact hd.kept _ D fun K=>I i H (Y.xs i H _ K)
theorem gD.Wd.cfg{C':iw Q.E}(h:Q.Wd C w)(M:C'.m=C.m)(N:C'.c=C.c)(O:C'.v=C.v)(V:C'.wt=C.wt)(G:C'.ws=C.ws)(H:C'.tok=none->C.tok=none/\C'.γ=C.γ)(R:C'.L=C.L)(A:C'.j=C.j)(F:iM Q.J C'.d=iM Q.J C.d):Q.Wd C' w:=by
 refine⟨by rw[M,N];exact h.mu,by rw[O,V,G];exact h.wg,fun e=>by rw[(H e).2];exact h.map (H e).1,fun k hk Y=>?_,fun k hk Y=>?_,h.tape,h.out⟩
 ·unfold gD.ch;rw[R];exact h.shut k (A▸hk) (F▸Y)
 ·unfold gD.ch;rw[R];exact h.opn k (A▸hk) (F▸Y)
theorem gD.Wd.mv(h:Q.Wd C w)(R:Q.Laws)(A:Q.Sets nd C.j C.L C.tok w.heap.size)(F:C.L.length=C.j){m':Word}(H:Env.Eff Q.E.Fd w w1)(M:Q.E.MuAt w1 m' c'):Q.Wd {C with m:=m',c:=c'} w1:=by
 have K:∀k,k<C.j->w1.heap[Q.ch C k]?=w.heap[Q.ch C k]?:=fun k hk=>H.heap _ fun e=>(A.nU _ (qx F hk)).2.1 (e▸R.rf);refine⟨M,?_,fun e=>?_,fun k hk Y=>?_,fun k hk Y=>?_,H.tape.trans h.tape,H.output.trans h.out⟩
 ·have:=h.wg;unfold Env.WgAt at this⊢;rw[H.heap _ fun e=>R.fw e.symm];omega
 ·rw[H.heap _ R.mf];exact h.map e
 ·show∃s,w1.heap[Q.ch C k]?=_
  rw[K k hk];exact h.shut k hk Y
 ·obtain⟨s,A⟩:=h.opn k hk Y;exact⟨s,by show w1.heap[Q.ch C k]?=_;rw[K k hk];exact A⟩
theorem gD.Wd.gp(h:Q.Wd C w)(R:Q.Laws)(A:Q.Sets nd C.j C.L C.tok w.heap.size)(F:C.L.length=C.j)(H:Env.Eff Q.E.Wg w w1)(M:Q.E.WgAt w1 v' gY gV):Q.Wd {C with v:=v',wt:=gY,ws:=gV} w1:=by
 have K:∀k,k<C.j->w1.heap[Q.ch C k]?=w.heap[Q.ch C k]?:=fun k hk=>H.heap _ fun e=>(A.nU _ (qx F hk)).2.1 (e▸R.rw);refine⟨?_,M,fun e=>?_,fun k hk Y=>?_,fun k hk Y=>?_,H.tape.trans h.tape,H.output.trans h.out⟩
 ·have:=h.mu;unfold Env.MuAt at this⊢;rw[H.heap _ R.fw];omega
 ·rw[H.heap _ R.mw];exact h.map e
 ·show∃s,w1.heap[Q.ch C k]?=_
  rw[K k hk];exact h.shut k hk Y
 ·obtain⟨s,A⟩:=h.opn k hk Y;exact⟨s,by show w1.heap[Q.ch C k]?=_;rw[K k hk];exact A⟩
theorem gD.Wd.at(h:Q.Wd C w)(d:Nat):Q.Wd C (w.at d):=⟨h.mu,h.wg,h.map,h.shut,h.opn,h.tape,h.out⟩
theorem gD.tN.keep{c:Nat}{n:Nd}{fu:Nat}{s:gN Q.E}(h:Q.tN c gs t k n fu s)(H:I[Q.b+k]?=gs[Q.b+k]?)(hd:Deaf t' (Q.b+k)=Deaf t (Q.b+k)):Q.tN c I t' k n fu s:=by
 cases s with
 |no=>exact h
 |«at» pc md=>exact⟨H.trans h.1,h.2⟩
 |gP i n=>obtain⟨g,Y,K⟩:=h;exact⟨g,H.trans Y,K⟩
 |qt q=>obtain⟨g,Y,K⟩:=h;exact⟨g,H.trans Y,by simp_all⟩
theorem gD.xi.keep{n:Nd}{fu:Nat}{d:jj}{md:Md}(h:Q.xi gs n fu L d md)(H:I[0]?=gs[0]?):Q.xi I n fu L d md:=by
 cases md with
 |run=>exact⟨H.trans h.1,h.2⟩
 |blk=>exact⟨H.trans h.1,h.2⟩
 |gU=>
  obtain⟨K,i,c,x,z,Y,D,R,A,U,B,C⟩:=h;exact⟨K,i,c,x,z,Y,D,R,A,U,H.trans B,C⟩
 |jM=>exact h.elim
end
section
variable{Q:gD}{nd:Nat->Nd}{fu:Nat->Nat}{C C':iw Q.E}{w w':af}{gs I:Array ak}{t t':ax}{q:Nat->Nat}{rel jD:Nat->Option Nat}
theorem ns{gs:Array _}{g:ak}(h:i≠k):(gs.setIfInBounds i g)[k]?=gs[k]?:=bS h
theorem gD.MI.Be(M:Q.MI C nd fu gs w t q rel)(hb:0<Q.b)(hk:k<C.j)(R:C'.j=C.j)(V:C'.L=C.L)(hd:C'.d=C.d)(W:C'.dm=C.dm)(A:∀i,i≠k->C'.ks i=C.ks i){N:Nd}{f':Nat}(z:I=gs.setIfInBounds (Q.b+k) g1)
  (a:Q.tN (Q.ch C k) I t' k N f' (C'.ks k))(h:∀i,i<=C.j->i≠k+1->gI Q.E.U (nd i).S w w')(n:gI Q.E.U N.S N.w w')(mf:mu Q.J C'<=f')(s:mu Q.J C'<=mu Q.J C)
  (gZ:Q.Sets (upd nd (k+1) N) C.j C.L C'.tok w'.heap.size)(wd:Q.Wd C' w')(tr:PT Q.b C.j Q.E.mu Q.E.st Q.iU (Q.cls (upd nd (k+1) N) C.j C.L) t' (C'.tok.map (Q.b+ ·)) jD)
  (G:(∀q,C'.ks k≠.qt q)->Deaf t' (Q.b+k)=AQ (C'.ks k))(H:∀g,g≠Q.b+k->Deaf t' g=Deaf t g)(O:(∃p,jD (Q.b+k)=some p)↔gD.xk (C'.ks k))(F:∀i,i≠k->jD (Q.b+i)=rel (Q.b+i))(seen:∀op∈t',Seen w'.heap.size op):
  Q.MI C' (upd nd (k+1) N) (upd fu (k+1) f') I w' t' q jD:=by
 subst z;have n0:upd nd (k+1) N 0=nd 0:=upd_ne _ _ (by omega);have f0:upd fu (k+1) f' 0=fu 0:=upd_ne _ _ (by omega);refine⟨?_,?_,fun i Y=>?_,fun i g Y K B=>?_,fun i Y=>?_,fun i Y=>?_,?_,wd,?_,?_,fun i Y D=>?_,fun i Y=>?_,fun i Y=>?_,fun i Y=>by rw[R]at Y;rw[F i (by omega)];exact M.uS i Y,seen⟩
 ·rw[R];simp[M.size]
 ·rw[n0,f0,V,hd,W];exact M.g0.keep (ns (by omega))
 ·rw[R]at Y;by_cases e:i=k
  ·subst e;rw[upd_same,upd_same];unfold gD.ch;rw[V];exact a
  ·rw[upd_ne _ _ (by omega),upd_ne _ _ (by omega),A i e];unfold gD.ch;rw[V];exact(M.wk i Y).keep (ns (by omega)) (H _ (by omega))
 ·rw[ns (by omega)]at B;rw[H i (by omega)];exact M.old i g Y K B
 ·rw[R]at Y;by_cases e:i=k+1
  ·subst e;rw[upd_same];exact mf
  ·rw[upd_ne _ _ e];exact aQ s (M.fuel i Y)
 ·rw[R]at Y;by_cases e:i=k+1
  ·subst e;rw[upd_same];exact n
  ·rw[upd_ne _ _ e];exact(M.nV i Y).trans (h i Y e)
 ·simp_all
 ·rw[R,V];exact tr
 ·rw[H 0 (by omega),hd];exact M.deaf0
 ·rw[R]at Y;by_cases e:i=k
  ·subst e;exact G D
  ·rw[H _ (by omega),A i e];rw[A i e]at D;exact M.mV i Y D
 ·rw[R]at Y;rw[H i (by omega)];exact M.above i Y
 ·rw[R]at Y;by_cases e:i=k
  ·subst e;exact O
  ·rw[F i e,A i e];exact M.pg i Y
theorem gD.MI.m0(M:Q.MI C nd fu gs w t q rel)(s:0<Q.b)(A:C'.j=C.j)(z:C'.L=C.L)(R:C'.ks=C.ks){F:Nd}{f':Nat}(O:I=gs.setIfInBounds 0 g1)
  (W:Q.xi I F f' C.L C'.d C'.dm)(p:∀i,i<=C.j->i≠0->gI Q.E.U (nd i).S w w')(G:gI Q.E.U F.S F.w w')(mf:mu Q.J C'<=f')(V:mu Q.J C'<=mu Q.J C)
  (gZ:Q.Sets (upd nd 0 F) C.j C.L C'.tok w'.heap.size)(wd:Q.Wd C' w')(tr:PT Q.b C.j Q.E.mu Q.E.st Q.iU (Q.cls (upd nd 0 F) C.j C.L) t' (C'.tok.map (Q.b+ ·)) rel)
  (N:Deaf t' 0=o_ C'.d)(H:∀g,g≠0->Deaf t' g=Deaf t g)(seen:∀op∈t',Seen w'.heap.size op):
  Q.MI C' (upd nd 0 F) (upd fu 0 f') I w' t' q rel:=by
 subst O;refine⟨?_,?_,fun i Y=>?_,fun i g Y K D=>?_,fun i Y=>?_,fun i Y=>?_,?_,wd,?_,N,fun i Y B=>?_,fun i Y=>?_,fun i Y=>?_,fun i Y=>M.uS i (A▸Y),seen⟩
 ·rw[A];simp[M.size]
 ·rw[upd_same,upd_same,z];exact W
 ·rw[A]at Y;rw[upd_ne _ _ (by omega),upd_ne _ _ (by omega),R];unfold gD.ch;rw[z];exact(M.wk i Y).keep (ns (by omega)) (H _ (by omega))
 ·rw[ns (by omega)]at D;rw[H i (by omega)];exact M.old i g Y K D
 ·rw[A]at Y;by_cases e:i=0
  ·subst e;exact mf
  ·rw[upd_ne _ _ e];exact aQ V (M.fuel i Y)
 ·rw[A]at Y;by_cases e:i=0
  ·subst e;exact G
  ·rw[upd_ne _ _ e];exact(M.nV i Y).trans (p i Y e)
 ·simp_all
 ·simp_all
 ·rw[A]at Y;rw[H _ (by omega),R];rw[R]at B;exact M.mV i Y B
 ·rw[A]at Y;rw[H i (by omega)];exact M.above i Y
 ·rw[A]at Y;rw[R];exact M.pg i Y
theorem vt(Y:Q.Laws){c fu:Nat}{pc:Q.E.kv}{g:ak}(H:0<fu)(h:Q.WS c fu pc S X g w):g.status=.running/\g.offers=none:=by
 cases fu with
 |zero=>omega
 |succ f=>
  cases pc with
  |recv=>exact Y.I0 h
  |_=>exact⟨h.1,h.2.1⟩
theorem B6{fu:Nat}{d:jj}{g:ak}(Y:0<fu)(h:Q.DS fu d S X g w):g.status=.running/\g.offers=none:=by
 cases fu with
 |zero=>omega
 |succ f=>exact⟨h.1,h.2.1⟩
theorem sZ{U:Nat->Nat->Prop}{D:(Nat->Prop)->(Nat->Prop)->ak->af->Prop}{g:ak}(h:Tz P main U D S X g w)(Y:D S X g w->g.status=.running):g.status=.running:=by
 rcases h.look with h|⟨_,h,_⟩
 ·exact Y h
 omega
theorem B7{E:Env}{n:Nat}{g:ak}(h:Env.oj P (E.tD P i) n g):g.status=.running:=by
 cases n with
 |zero=>
  match i,h with
  |0,h=>exact h.1
  |1,h=>exact h.1
  |2,h=>exact h.1
  |3,h=>exact h.1
  |i+4,h=>exact h.1
 |succ n=>exact h.1
theorem adX(J:im)(v:Nat)(d:jj):0<iq J v d:=by cases d<;>simp[iq]<;>omega
theorem Ri{E:Env}(J:im)(C:iw E):0<mu J C:=by
 have:=adX J C.v C.d;unfold mu kY;omega
theorem gD.MI.sd(M:Q.MI C nd fu gs w t q rel)(Y:i<=C.j):0<fu i:=au (Ri Q.J C) (M.fuel i Y)
theorem again_blocked{g:ak}(w:af)(Y:g.status=.running)(H:g.offers=none):({g with status:=.blocked}).again w=g:=by
 obtain⟨f,c,st,o⟩:=g;subst Y H;rfl
theorem gD.MI.oG(M:Q.MI C nd fu gs w t q rel)(V:Q.Laws)(h:CI Q.J Q.gK C):Q.MI (C.oG Q.J) nd fu (gs.map (·.again w)) w t q rel:=by
 have mp:∀i,(gs.map (·.again w))[i]?=(gs[i]?).map _:=fun i=>bI;have fm:mu Q.J _=mu Q.J C:=Qp;refine⟨by simp[M.size];rfl,?_,fun k hk=>?_,fun i g N O X=>?_,fun i N=>by rw[fm];exact M.fuel i N,M.nV,M.gZ,?_,M.tr,M.deaf0,fun k hk o=>?_,M.above,fun k hk=>?_,M.uS,M.seen⟩
 ·have K:=M.g0;show Q.xi _ _ _ C.L C.d (wW C.dm)
  have f0:=M.sd (cG _);cases U:C.dm with
  |run=>
   rw[U]at K;refine⟨?_,K.2⟩;rw[mp,K.1];exact congrArg some (bF _ (.inl (sZ K.2 fun y=>(B6 f0 y).1)))
  |blk=>
   rw[U]at K;refine⟨?_,.stop K.2.2.2⟩;rw[mp,K.1];exact congrArg some (again_blocked w K.2.2.1 K.2.1)
  |gU=>
   rw[U]at K;obtain⟨H,i,c,x,z,F,P,Z,B,G,W,f⟩:=K;refine⟨H,i,c,x,z,F,P,Z,B,G,?_,f⟩;have I:∃k,k<C.j/\Q.ch C k=c:=by
    refine⟨i%Q.J.n,?_,?_⟩
    ·have:=(List.getElem?_eq_some_iff.1 B).1;rw[h.len]at this;exact this
    ·unfold gD.ch;rw[List.getD_eq_getElem?_getD,B];rfl
   obtain⟨k,hk,rfl⟩:=I;obtain⟨s,Y⟩:=M.wd.opn k hk (by rw[P];exact dA _);rw[mp,W];exact congrArg some (again_send_open Y)
  |jM=>rw[U]at K;exact K.elim
 ·have Y:=M.wk k hk;have S:=M.sd hk;show Q.tN _ _ t k _ _ (pR _ _)
  cases I:C.ks k with
  |no=>rw[I]at Y;exact Y.elim
  |«at» pc md=>
   rw[I]at Y;obtain⟨H,D,A⟩:=Y;cases md with
   |run=>
    refine⟨?_,D,A⟩;rw[mp,H];exact congrArg some (bF _ (.inl (sZ D fun y=>(vt V S y).1)))
   |blk=>
    have T:=vt V S (A nofun);refine⟨?_,D,fun y=>absurd rfl y⟩;rw[mp,H];exact congrArg some (again_blocked w T.1 T.2)
   |gU=>
    by_cases R:k<iM Q.J C.d
    ·rw[decide_eq_true R];obtain⟨s,Y⟩:=M.wd.shut k hk R;refine⟨?_,D,fun _=>A nofun⟩;rw[mp,H];exact congrArg some (again_recv_closed Y)
    ·rw[decide_eq_false R];obtain⟨s,Y⟩:=M.wd.opn k hk R;refine⟨?_,D,A⟩;rw[mp,H];exact congrArg some (again_recv_open Y)
   |jM=>
    refine⟨?_,D,A⟩;rw[mp,H];exact congrArg some (bF _ (.inl rfl))
  |gP i n=>
   rw[I]at Y;obtain⟨g,H,D⟩:=Y;refine⟨g,?_,D⟩;rw[mp,H];exact congrArg some (bF _ (.inl (B7 D)))
  |qt p=>
   rw[I]at Y;obtain⟨g,H,D⟩:=Y;refine⟨g,?_,D⟩;rw[mp,H];exact congrArg some (bF _ D.status)
 ·rw[mp]at X;obtain⟨l,H,rfl⟩:=bM.1 X;have:=M.old i l N O H;rw[bF _ this.status];exact this
 ·exact M.wd.cfg rfl rfl rfl rfl rfl (fun e=>⟨e,rfl⟩) rfl rfl rfl
 ·have e:∀s:gN Q.E,∀b,(∀q,pR b s≠.qt q)->∀q,s≠.qt q:=fun s b Y q e=>Y q (by rw[e];rfl);rw[M.mV k hk (e _ _ o)];exact(vN AQ (fun _ _ _=>rfl) _ _).symm
 ·rw[M.pg k hk];show gD.xk _↔gD.xk (pR _ _)
  rw[vN (fun s=>gD.xk s) fun _ _ _=>rfl]
theorem aaf{g:ak}{w1:af}(gs:Array _)(i:Nat):
  (((gs.map (aW P g g1 w1)).setIfInBounds i g1=gs.setIfInBounds i g1)/\¬(bq P g=true/\(g1.status=.running\/g1.status=.finished)))\/(gs.map (aW P g g1 w1)).setIfInBounds i g1=(gs.setIfInBounds i g1).map (·.again w1):=by
 by_cases K:(bq P g&&g1.status != .blocked&&g1.status != .waiting)=true
 ·right;have H:aW P g g1 w1=(·.again w1):=by funext o;simp[aW,K]
  have R:g1.again w1=g1:=by
   unfold Goroutine.again;simp_all
  simp_all
 ·left;have H:aW P g g1 w1=id:=by funext o;simp[aW,K]
  refine⟨by simp_all,fun⟨D,Y⟩=>K ?_⟩;rcases Y with Y|Y<;>rw[D,Y]<;>rfl
theorem gD.MI.finish(A:Q.Laws){Y:iw Q.E}{g:ak}{w1:af}{R:Nat->Nd}(h:CI Q.J Q.gK Y)(M:Q.MI Y R TB (gs.setIfInBounds i g1) w1 t q rel)(N:Calm Q.J Y\/(bq Q.P g=true/\(g1.status=.running\/g1.status=.finished)))(F:∀i,Y.dm=.gU->Y.d=.send Y.L i->∀pc,Y.ks (i%Q.J.n)≠.at pc .gU):
  ∃H,(H=Y\/H=Y.oG Q.J)/\CI Q.J Q.gK H/\Calm Q.J H/\Q.MI H R TB ((gs.map (aW Q.P g g1 w1)).setIfInBounds i g1) w1 t q rel:=by
 rcases aaf (P:=Q.P) (g:=g) (g1:=g1) (w1:=w1) gs i with⟨e,K⟩|e
 ·simp_all
 ·rw[e];exact⟨Y.oG Q.J,.inr rfl,h.oG,aae F,M.oG A h⟩
end
end Ph
end
end Go.Proofs.YtdcjnhipenbcfaaGreatDoor
