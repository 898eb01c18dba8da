/-
  Own text. Part 2 of what the claim rests on.
-/
import Derived.Test.YtdcjnhipenbcfaaGreatDoorPk1
import Derived.Conc.Own
import Derived.Conc.LoneCalls
import Derived.Conc.Beside
import Derived.Conc.WrSpec
import Derived.Conc.AtomicLaws2
import Derived.Conc.ClockLaws
import Derived.Conc.MarkLaws
import Derived.Conc.SmallLaws
import Derived.Conc.TokenWalk
import Derived.Laws.LoneSync
import Derived.Conc.Own2
import Derived.Conc.CrowdComm
import Derived.Laws.Tables
import Derived.Test.YtdcjnhipenbcfaaGreatDoorProg
import Derived.KernelRfl
import Derived.Conc.CrowdBase
set_option linter.unusedVariables false
set_option linter.unusedSectionVars false
set_option linter.unusedSimpArgs false
set_option maxRecDepth 100000
set_option maxHeartbeats 16000000
open Array renaming getElem?_eq_getElem->bG,getElem?_map->bM,mem_of_getElem?->bN,getElem?_setIfInBounds_ne->bX,mem_map->bY,getElem?_eq_some_iff->cX,mapM_eq_mapM_toList->cY,mem_append->cZ,mem_iff_getElem->c7
open Bool renaming false_eq_true->cC,not_eq_true->cD
open Classical renaming choose->bp,byContradiction->b_,choose_spec->cG
open Go renaming Frame->ae,World->af,stepG->ah,Value->ai,Program->aj,Goroutine->ak,FuncId->ar,Trace->ax,TypeId->aH,undef->aM,MemOp->aP,runNT->aQ,Event->aT,execOp->aW,doReturn->aY,Ending->a_,GStep->bc,PanicEntry->bh,Question->bj,unwind->bm,Deferred->bq,Touch->bt,mayWake->bu,Machine->bB,runN_add->bE,yielded->bF,deafBehind->bK,IntKind->bP,results->bV,tryRecover->bW,FrameMode->cm,bodyPost->cz,run_store->cB,CallKind->cE,callDeferred->cR,step_lone_ended->cV,events_store->dK
open Go.Act renaming put->bL
open Go.CallKind renaming early->c9
open Go.Conc renaming Knows->aI,semEvents->aK,touchAt->aL,woken->aZ,seen_none->bk,act?_of->bD,again_running->bI,Deaf_other->bO,act?_old->bR,lt_of_act?->bT,ofEvents_eq->bU,Before->bZ,NoRelease->cx,heard_old->cA,deafBehind_still->cS,getElem?_append_old->cT,lone_eq_solo->cU,touch_of->cW,runT_crowd_go->dL,semEvents_sync->dM,step_solo_go->dO,woken_quitsD->dP
open Go.Deferred renaming ofValue->c_
open Go.Extern renaming findNext->dh
open Go.Extern.Atomic renaming casT->da
open Go.Extern.Race renaming marked->cH,none_->cI,at_->db
open Go.Extern.Sync renaming count->cf,semacquire->cg,semrelease->cJ,canSpin->dc,none_->de
open Go.Frame renaming raise->bA,eval->cj,finish_at->ck
open Go.GStep renaming after->aU
open Go.Instr renaming endRound->bg,enterLoop->bH,endLoop->di
open Go.Machine.mk renaming injEq->dz
open Go.MemAct renaming ofEvent->az,touch?->aJ
open Go.MemOp renaming ofEvents->aN
open Go.Op renaming intArith->cM
open Go.Region renaming wanted->cy
open Go.Sem renaming runT->ay,runT_eq->cP
open Go.Stepped.next renaming injEq->dH
open Go.Trace renaming g?->cQ
open Go.World renaming cell?->bC,frozen?->dI,setChan->dJ
open Go.stepG renaming exec->aO
open List renaming range->aX,mem_cons->cn,mem_toArray->cu,not_mem_nil->cv,count_append->dj,count_cons->dk,count_nil->dp,getElem_map->dq,getElem_range->dt,getElem_toArray->du,mapM_cons->dx,map_map->dy
open Nat renaming le_refl->ao,lt_of_lt_of_le->au,le_trans->aV,lt_or_ge->cw,pos_of_ne_zero->cK,zero_le->cL,add_sub_cancel_left->dA,eq_zero_or_pos->dB,exists_eq_add_of_le->dC,le_of_eq->dD,not_lt_zero->dE
open Option renaming map_eq_some_iff->bQ,map_some->cO,getD_some->dG
open Option.some renaming injEq->br
namespace Go.Proofs.YtdcjnhipenbcfaaGreatDoor
noncomputable section
variable {ad wg:Addr}{es:Array aT}{bz cl main rd said:Bool}{d':bq}{e:aT}{f f' f0 f1 fr:ae}{g1:ak}{cs gW l l':List ae}{k' kr:List Item}{L kh ks:List Nat}{Jw Z:Loc->Prop}{B bl c' i i' k v' ig il:Nat}{Um:Nat->Nat}{K S S' S1 SF X X1 XF:Nat->Prop}{y:Operand}{o jQ:Option Nat}{o2:Option Obj}{P:aj}{pos:String}{u1 v0 v1 w w2:af}
namespace Ren
open Conc
section
variable[gK]{P:aj}{r:Rn}
def yU(P:aj)(rd:Bool)(o:Oper):=Ez P o.op/\(rd=true->(∀c,o.op≠.defer c)/\∀c,o.op=.call c->c.callee≠.builtin .recover)
def mb(P:aj)(rd:Bool):Code->Prop
 |.skip|.label _|.exit _|.goto _|.ret=>True
 |.refuse y=>y≠ ""
 |.region _ ops _=>gK.wall ops\/∀o∈ops,yU P rd o
 |.seq a b=>mb P rd a/\mb P rd b
 |.cond c a b=>jF c/\mb P rd a/\mb P rd b
 |.block _ c|.loop c|.scope c=>mb P rd c
 |.rangeFunc f _ aqY bd=>jF f/\gK.code aqY/\gK.code bd
structure lF(P:aj):Prop extends Fit P where
 code:∀c,gK.code c->mb P true c
 ret:gK.code .ret
 exit:∀i,gK.code (.exit i)
 goto:∀i,gK.code (.goto i)
 body:∀f fn c,gK.iz f->P.funcs[f]?=some fn->fn.body=some c->mb P false c
inductive IT(P:aj)(r:Rn)(rd:Bool):Item->Item->Prop
 |code {c:Code}:mb P rd c->IT P r rd (.code c) (.code c)
 |inBlock (i:Nat):IT P r rd (.inBlock i) (.inBlock i)
 |inLoop {c:Code}:mb P rd c->IT P r rd (.inLoop c) (.inLoop c)
 |inScope {c:Code}:mb P rd c->IT P r rd (.inScope c) (.inScope c)
 |inRegion {ops:Array Oper} (l:List Nat):(∀i∈l,∀o,ops[i]?=some o->yU P rd o)->IT P r rd (.inRegion ops l) (.inRegion ops l)
 |inRangeFunc {l l':Nat}:r l=some l'->IT P r rd (.inRangeFunc l) (.inRangeFunc l')
 |endRangeFunc {l l':Nat}:r l=some l'->IT P r rd (.endRangeFunc l) (.endRangeFunc l')
 |beginRound:IT P r rd .beginRound .beginRound
def A4:List Item->Bool
 |[]|.code _::_|.inBlock _::_|.inLoop _::_|.inScope _::_=>true
 |_=>false
inductive IL(P:aj)(r:Rn)(rd bz:Bool):List Item->List Item->Prop
 |nil:IL P r rd bz [] []
 |rest {k':List Item}:rd=false->bz=true->gK.rest k'->A4 k'=true->IL P r rd bz [.code (.refuse "")] k'
 |cons {x y:Item} {k k':List Item}:IT P r rd x y->IL P r rd bz k k'->IL P r rd bz (x::k) (y::k')
structure PE(r:Rn)(x y:bh):Prop where
 v:V r x.v y.v
 recovered:y.recovered=x.recovered
 goexit:y.goexit=x.goexit
inductive oA(r:Rn):List bh->List bh->Prop
 |nil:oA r [] []
 |cons {x y:bh} {k k':List bh}:PE r x y->oA r k k'->oA r (x::k) (y::k')
inductive MD(r:Rn):cm->cm->Prop
 |run:MD r .run .run
 |returning:MD r .returning .returning
 |panicking {k k':List bh}:oA r k k'->MD r (.panicking k) (.panicking k')
inductive DB(r:Rn)(bz:Bool):List bq->List bq->Prop
 |nil:DB r bz [] []
 |rest {l':List bq}:bz=true->gK.jm l'->DB r bz [] l'
 |cons {d d':bq} {l l':List bq}:Df r d d'->DB r bz l l'->DB r bz (d::l) (d'::l')
structure FR(P:aj)(r:Rn)(bz:Bool)(f f':ae):Prop where
 fn:f'.fn=f.fn
 tmps:VA r f.tmps f'.tmps
 todo:IL P r f.roundOf.isSome bz f.todo f'.todo
 defers:DB r bz f.defers f'.defers
 mode:MD r f.mode f'.mode
 kind:f'.kind=f.kind
 kinds:f.kind=.normal\/f.kind=.deferred
 round:LO r f.roundOf f'.roundOf
 has:f.roundOf=none->∃fn,P.funcs[f.fn]?=some fn
inductive SL(P:aj)(r:Rn)(cs gW:List ae):Nat->List ae->List ae->Prop
 |base:SL P r cs gW 0 cs gW
 |cons {n:Nat} {f f':ae} {l l':List ae}:FR P r (n==0) f f'->(n=0->f.roundOf=none/\f.kind=.normal)->SL P r cs gW n l l'->SL P r cs gW (n+1) (f::l) (f'::l')
theorem IT.mono{s:Rn}(h:Le r s){x y:Item}(k:IT P r rd x y):IT P s rd x y:=by
 cases k with
 |code c=>exact .code c
 |inBlock i=>exact .inBlock i
 |inLoop c=>exact .inLoop c
 |inScope c=>exact .inScope c
 |inRegion l o=>exact .inRegion l o
 |inRangeFunc e=>exact .inRangeFunc (h _ _ e)
 |endRangeFunc e=>exact .endRangeFunc (h _ _ e)
 |beginRound=>exact .beginRound
theorem IL.mono{s:Rn}(h:Le r s){x y:List Item}(k:IL P r rd bz x y):IL P s rd bz x y:=by
 induction k with
 |nil=>exact .nil
 |rest a b c d=>exact .rest a b c d
 |cons a _ Y=>exact .cons (a.mono h) Y
theorem PE.mono{s:Rn}(h:Le r s){x y:bh}(k:PE r x y):PE s x y:=⟨k.v.mono h,k.recovered,k.goexit⟩
theorem oA.mono{s:Rn}(h:Le r s){x y:List _}(k:oA r x y):oA s x y:=by
 induction k with
 |nil=>exact .nil
 |cons a _ Y=>exact .cons (a.mono h) Y
theorem oA.append{x y x' Y:List _}(h:oA r x y)(k:oA r x' Y):oA r (x++x') (y++Y):=by
 induction h with
 |nil=>exact k
 |cons a _ K=>exact .cons a K
theorem MD.mono{s:Rn}(h:Le r s){x y:cm}(k:MD r x y):MD s x y:=by
 cases k with
 |run=>exact .run
 |returning=>exact .returning
 |panicking p=>exact .panicking (p.mono h)
theorem DB.mono{s:Rn}(h:Le r s){x y:List _}(k:DB r bz x y):DB s bz x y:=by
 induction k with
 |nil=>exact .nil
 |rest a b=>exact .rest a b
 |cons a _ Y=>exact .cons (a.mono h) Y
theorem DL.Tv{x y x' Y:List _}(h:DL r x y)(k:DB r bz x' Y):DB r bz (x++x') (y++Y):=by
 induction h with
 |nil=>exact k
 |cons a _ K=>exact .cons a K
theorem FR.mono{s:Rn}(h:Le r s)(k:FR P r bz f f'):FR P s bz f f':=⟨k.fn,k.tmps.mono h,k.todo.mono h,k.defers.mono h,k.mode.mono h,k.kind,k.kinds,k.round.mono h,k.has⟩
theorem SL.mono{s:Rn}{cs gW:List _}(h:Le r s){n:Nat}{l l':List _}(k:SL P r cs gW n l l'):SL P s cs gW n l l':=by
 induction k with
 |base=>exact .base
 |cons f b _ Y=>exact .cons (f.mono h) b Y
theorem VA.getD{c c':Array _}(h:VA r c c')(i:Nat):V r (c.getD i aM) (c'.getD i aM):=by
 have e:∀a:Array _,a.getD i aM=(a[i]?).getD undef:=fun a=>by simp
 rw[e,e];cases Y:c[i]? with
 |some x=>obtain⟨x',e',K⟩:=h.get Y;simp_all
 |none=>rw[h.none Y];exact .tuple rfl (fun i x x' e=>by simp)
def GI(r:Rn):=∀g,gK.rQ g->r g=some g
theorem GI.mono{s:Rn}(h:Le r s)(k:GI r):GI s:=fun g Y=>h _ _ (k g Y)
theorem FR.eval(h:FR P r bz f f')(g:GI r)(x:Operand)(Y:jF x):V r (f.eval x) (f'.eval x):=by
 cases x with
 |tmp t=>exact h.tmps.getD t
 |const v=>exact Y r
 |global i=>exact .ptr ⟨g i Y,rfl,rfl⟩
 |func f=>exact .func (.func Y) rfl (fun i x x' e=>by simp) rfl (fun i x x' e=>by simp)
theorem Zd{ops:Array _}{c c':Array _}(h:VA r c c'):bF ops c'=bF ops c:=by
 funext j;unfold bF;cases hd:(ops[j]?).bind _ with
 |none=>rfl
 |some d=>
  simp;cases Y:c[d]? with
  |none=>rw[h.none Y]
  |some x=>
   obtain⟨x',e,H⟩:=h.get Y;rw[e];cases H with
   |blank K=>cases x'<;>first|rfl|(simp[Hid]at K)
   |_=>rfl
theorem FR.finish(h:FR P r bz f f'){v v':ai}(G:V r v v'):FR P r bz (f.finish v) (f'.finish v'):=by
 obtain⟨fn,tmps,todo,defers,mode,kind,ro⟩:=f;obtain⟨je,L,B,C,J,F,S⟩:=f';obtain⟨K,Y,M,H,D,R,I,A,U⟩:=h;simp only at K Y M H D R I A U;unfold Frame.finish;cases M with
 |nil=>exact⟨K,Y,.nil,H,D,R,I,A,U⟩
 |rest a b c d=>
  cases B with
  |nil=>exact⟨K,Y,.rest a b c d,H,D,R,I,A,U⟩
  |cons x q=>cases x<;>first|exact⟨K,Y,.rest a b c d,H,D,R,I,A,U⟩|(simp[A4]at d)
 |cons O hk=>
  cases O with
  |code c=>exact⟨K,Y,.cons (.code c) hk,H,D,R,I,A,U⟩
  |inBlock i=>exact⟨K,Y,.cons (.inBlock i) hk,H,D,R,I,A,U⟩
  |inLoop c=>exact⟨K,Y,.cons (.inLoop c) hk,H,D,R,I,A,U⟩
  |inScope c=>exact⟨K,Y,.cons (.inScope c) hk,H,D,R,I,A,U⟩
  |inRegion l N=>
   cases l with
   |nil=>exact⟨K,Y,.cons (.inRegion [] N) hk,H,D,R,I,A,U⟩
   |cons i rest=>
    refine⟨K,?_,.cons (.inRegion rest fun j Q=>N j (by simp[Q])) hk,H,D,R,I,A,U⟩;simp only;split
    ·exact Y.set _ G
    ·exact Y
  |inRangeFunc e=>exact⟨K,Y,.cons (.endRangeFunc e) hk,H,D,R,I,A,U⟩
  |endRangeFunc e=>exact⟨K,Y,.cons (.endRangeFunc e) hk,H,D,R,I,A,U⟩
  |beginRound=>exact⟨K,Y,hk,H,D,R,I,A,U⟩
theorem FR.raise(h:FR P r bz f f'){x y:List _}(H:oA r x y):FR P r bz (f.raise x) (f'.raise y):=by
 have D:=h.mode;unfold bA;cases Y:f.mode<;>cases K:f'.mode<;>rw[Y,K]at D<;>cases D
 ·exact⟨h.fn,h.tmps,h.todo,h.defers,.panicking H,h.kind,h.kinds,h.round,h.has⟩
 ·exact⟨h.fn,h.tmps,h.todo,h.defers,.panicking H,h.kind,h.kinds,h.round,h.has⟩
 ·rename_i R;exact⟨h.fn,h.tmps,h.todo,h.defers,.panicking (H.append R),h.kind,h.kinds,h.round,h.has⟩
theorem FR.enter(F:lF P){f:ar}(R:gK.iz f){a a':Array _}(H:VA r a a'){k:cE}(hk:k=.normal\/k=.deferred):FR P r bz (Frame.enter P f a k) (Frame.enter P f a' k):=by
 obtain⟨fn,Y⟩:=F.iz f R;unfold Frame.enter;refine⟨rfl,?_,.cons (.code ?_) .nil,.nil,.run,rfl,hk,.none,fun _=>⟨fn,Y.has⟩⟩
 ·simp[<-H.size];exact H.append (.rep _ (.tuple rfl (fun i x x' e=>by simp)))
 ·simp[Y.has,Option.bind_some];cases K:fn.body with
  |none=>exact(by simp:("unsupported: a function without a Go body is entered")≠ "")
  |some c=>exact F.body f fn c R Y.has K
theorem FR.roundOf(F:lF P){l l':Nat}(R:r l=some l')(f:ar){t t':Array _}(A:VA r t t'){aqY bd:Code}(Y:gK.code aqY)(H:gK.code bd){k:cE}(hk:k=.normal\/k=.deferred):FR P r bz (Frame.round l f t aqY bd k) (Frame.round l' f t' aqY bd k):=
 ⟨rfl,A,.cons (.code (F.code aqY Y)) (.cons .beginRound (.cons (.code (F.code bd H)) .nil)),.nil,.run,rfl,hk,.some R,fun h=>by cases h⟩
theorem IL.exitTo(i:Nat){k:List Item}(h:IL P r rd bz k k'):(exitTo i k=none/\(rd=false\/exitTo i k'=none))\/∃m m',exitTo i k=some m/\exitTo i k'=some m'/\IL P r rd bz m m':=by
 induction h with
 |nil=>exact .inl ⟨rfl,.inr rfl⟩
 |rest a b c d=>exact .inl ⟨rfl,.inl a⟩
 |cons a b K=>
  cases a with
  |inBlock j=>
   unfold Go.exitTo;by_cases Y:(j==i)=true
   ·rw[if_pos Y,if_pos Y];exact .inr ⟨_,_,rfl,rfl,b⟩
   ·rw[if_neg Y,if_neg Y];exact K
  |_=>exact K
theorem mb.findLabel:∀{c:Code} {l:Nat} {d:Code},mb P rd c->findLabel c l=some d->mb P rd d:=by
 intro c;induction c with
 |seq a b K H=>
  intro l d h e;unfold Go.findLabel at e;cases Y:Go.findLabel a l with
  |some x=>rw[Y]at e;rw[<-Option.some.inj e];exact⟨K h.1 Y,h.2⟩
  |none=>rw[Y]at e;exact H h.2 e
 |label j=>
  intro l d h e;unfold Go.findLabel at e;split at e
  ·rw[<-Option.some.inj e];exact trivial
  ·cases e
 |_=>intro l d h e;simp[Go.findLabel]at e
theorem IL.gotoIn(i:Nat){k:List Item}(h:IL P r rd bz k k'):(gotoIn i k=none/\(rd=false\/gotoIn i k'=none))\/∃m m',gotoIn i k=some m/\gotoIn i k'=some m'/\IL P r rd bz m m':=by
 induction h with
 |nil=>exact .inl ⟨rfl,.inr rfl⟩
 |rest a b c d=>exact .inl ⟨rfl,.inl a⟩
 |cons a b K=>
  cases a with
  |inScope Y=>
   rename_i c;unfold Go.gotoIn;cases H:Go.findLabel c i with
   |some d=>exact .inr ⟨_,_,rfl,rfl,.cons (.code (Y.findLabel H)) (.cons (.inScope Y) b)⟩
   |none=>exact K
  |_=>exact K
theorem QZ{H:Type}(g Y:H->Sem _):∀(l:List H) r,(∀b s,Le r s->SR P V s (g b) (Y b))->SR P VL r (l.mapM g) (l.mapM Y)
 |[],r,h=>by exact .pure .nil
 |b::l,r,h=>by
  rw[dx,dx];refine SR.bind (h b r (.refl _)) ?_;intro t x x' l1 D;refine SR.bind (QZ g Y l t fun b s l2=>h b s (l1.trans l2)) ?_;intro u xs R l2 K;exact .pure (.cons (D.mono l2) K)
theorem Og{fn:Func}{c c':Array _}(h:VA r c c'):SR P V r (bV fn c) (bV fn c'):=by
 unfold bV;rw[cY,cY];refine SR.bind (SR.bind (QZ _ _ _ r ?_) fun _ _ _ _ e=>.pure e.toArray) ?_
 ·intro D s l;cases D with
  |tmp t=>exact .pure ((h.getD t).mono l)
  |cell a t=>exact SR.bind (OS ((h.getD a).mono l)) fun _ _ _ _ e=>Ob t e
 ·intro t x y l Y;by_cases H:x.size=1
  ·have K:y.size=1:=by rw[<-Y.size];exact H
   exact .pure (Y.at_ 0 _ _ (by simp[H]) (by simp_all))
  ·have K:¬y.size=1:=by rw[<-Y.size];exact H
   rw[dif_neg H,dif_neg K];exact .pure (.tuple Y.size Y.at_)
end
section
variable[gK]{P:aj}{r:Rn}{c:Nat}{cs gW:List ae}{v w:af}
def qT:bc->af
 |.go _ w _|.comm _ _ _ _ w _|.spawn _ _ w _|.count _ w _|.timer _ _ w _|.alone _ _ w _|.newcoro _ _ _ w _|.coroswitch _ _ _ w _|.collect _ w _|.watch _ w _|.ended _ w _=>w
inductive ST(P:aj)(r:Rn)(c:Nat)(cs gW:List ae)(v w:af):bc->bc->Prop
 |go {n:Nat} {f f':ae} {l l':List ae} {v1 w1:af} {es iK:Array aT} (r1:Rn) (c1:Nat):FR P r1 (n==0) f f'->SL P r1 cs gW n l l'->(n=0->f.roundOf=none/\f.kind=.normal)->Out r r1 c c1 v w v1 w1->(∀e∈iK,mj r w w1.heap.size e)->
   ST P r c cs gW v w (.go (G f l) v1 es) (.go (G f' l') w1 iK)
 |ended {o:Outcome} {v1:af} {es:Array aT} {x:bc}:ST P r c cs gW v w (.ended o v1 es) x
 |lM {s x:bc}:v.drawn+c<(qT s).drawn->w.drawn+c<(qT x).drawn->ST P r c cs gW v w s x
omit [gK]in
theorem ri(es:Array _)(s:bc):qT (aU es s)=qT s:=by cases s<;>rfl
omit [gK]in
theorem C3{α:Type}{s:Sem α}{a:α}{u:af}(h:s.run P u=.ok a u1):u.drawn<=u1.drawn:=by
 have:=CJ (P:=P) s u;rw[h]at this;exact this
omit [gK]in
theorem G0{α:Type}{s:Sem α}{a:Halt}{u:af}(h:s.run P u=.halt a u1):u.drawn<=u1.drawn:=by
 have:=CJ (P:=P) s u;rw[h]at this;exact this
omit [gK]in
theorem X3(fr:ae)(l:List ae)(d:Option Dying)(g:Nat)(u:af):u.drawn<=(qT (early P fr l d g u)).drawn:=by
 unfold early;dsimp only
 repeat' split
 all_goals first|exact ao _|skip
 ·rename_i e _ _ _ _;exact aV (C3 e) (ao _)
 ·rename_i e _ _;exact C3 e
 ·rename_i e;exact C3 e
 ·rename_i e;exact G0 e
omit [gK]in
theorem GG(f:ae)(l:List ae)(d:Option Dying)(m:String)(u:af):u.drawn<=(qT (endFatal P f l d m u)).drawn:=by
 unfold endFatal dieOf;dsimp only;split
 ·rename_i e;exact C3 e
 ·rename_i e;exact G0 e
 ·first|exact G0 ‹_›
omit [gK]in
theorem NG{s:Sem Next}{d:Option Dying}(u:af):(s.run P u).world.drawn<=(qT (stepG.apply P true f l d s u)).drawn:=by
 unfold stepG.apply;simp only[if_true,ri];have Y:(s.runT P u #[]).1=s.run P u:=by simp
 generalize s.runT P u #[]=sv at Y;obtain⟨D,H⟩:=sv;subst Y;cases s.run P u with
 |ok a v=>
  cases a<;>(try simp only)<;>first
   |exact ao _
   |(repeat' split)<;>exact ao _
 |halt a v=>
  cases a<;>(try simp only)<;>first
   |exact ao _
   |exact GG _ _ _ _ _
   |(rename_i K;cases K<;>first|exact ao _|exact X3 _ _ _ _ _)
theorem lK{u:Nat}:∀e∈(#[]),mj r w u e:=by simp
theorem P1(f:Bool×Array _->aT->Bool×Array _)(Y:∀x a,e∈(f x a).2->e∈x.2\/e=a):∀(l:List _) x,e∈(l.foldl f x).2->e∈x.2\/e∈l
 |[],x,h=>.inl h
 |a::l,x,h=>by
  rcases P1 f Y l _ h with y|y
  ·exact(Y x a y).imp id fun z=>by simp_all
  ·simp_all
theorem mem_seen(fn:ar)(es:Array _):∀e∈seen P fn es,e∈es:=by
 intro e Y;dsimp only[seen]at Y;rw[<-Array.foldl_toList]at Y;refine(P1 _ ?_ _ _ Y).elim (fun x=>by simp at x) (fun x=>Array.mem_toList_iff.1 x);rintro⟨q,kept⟩ a h;split at h
 ·simp_all
 ·split at h
  ·simp_all
  ·simp_all
theorem ST.after{r1:Rn}{c1:Nat}{w1:af}{s s':bc}(o:Out r r1 c c1 v w v1 w1)(h:ST P r1 c1 cs gW v1 w1 s s')(es iK:Array _)(Y:∀e∈iK,mj r w w1.heap.size e):ST P r c cs gW v w (aU es s) (aU iK s'):=by
 cases h with
 |go r2 c2 a b d o2 e=>exact .go r2 c2 a b d (o.trans o2) fun x K=>(cZ.1 K).elim (fun y=>(Y x y).mono o2.grow) (fun y=>(e x y).back o o2.grow)
 |ended=>exact .ended
 |lM h k=>exact .lM (by rw[ri];have:=o.drew;omega) (by rw[ri];have:=o.zf;omega)
theorem acz(h:FR P r bz f f'):
  FR P r bz (match f.mode with|.panicking ({recovered:=true,..}::Y)=>(match Y.dropWhile (!·.goexit)with|[]=>{f with mode:=.returning}|rest=>{f with mode:=.panicking rest})|_=>f)
   (match f'.mode with|.panicking ({recovered:=true,..}::Y)=>(match Y.dropWhile (!·.goexit)with|[]=>{f' with mode:=.returning}|rest=>{f' with mode:=.panicking rest})|_=>f'):=by
 have K:=h.mode;generalize f.mode=m at K;generalize f'.mode=m' at K;cases K with
 |run=>exact h
 |returning=>exact h
 |panicking H=>
  cases H with
  |nil=>exact h
  |cons a b=>
   rename_i x y k k';obtain⟨A,I,xg⟩:=x;obtain⟨B,D,U⟩:=y;obtain⟨a1,a2,a3⟩:=a;subst a2;cases D with
   |false=>exact h
   |true=>
    have dw:oA r (k.dropWhile (!·.goexit)) (k'.dropWhile (!·.goexit)):=by
     induction b with
     |nil=>exact .nil
     |cons p q R=>
      simp[List.dropWhile_cons,p.goexit];split
      ·omega
      ·exact .cons p q
    simp only;generalize k.dropWhile _=z at dw;generalize k'.dropWhile _=C at dw;cases dw with
    |nil=>exact⟨h.fn,h.tmps,h.todo,h.defers,.returning,h.kind,h.kinds,h.round,h.has⟩
    |cons p q=>exact⟨h.fn,h.tmps,h.todo,h.defers,.panicking (.cons p q),h.kind,h.kinds,h.round,h.has⟩
theorem WK{n:Nat}{l l':List _}(H:FR P r (n==0) f f')(R:n=0->f.roundOf=none/\f.kind=.normal)(F:SL P r cs gW n l l'):
  (bW f l=none/\bW f' l'=none)\/∃x x' m m',bW f l=some (x,m)/\bW f' l'=some (x',m')/\V r x x'/\SL P r cs gW n m m':=by
 have hk:=H.kind;unfold bW;rw[hk];rcases H.kinds with h|h
 ·simp_all
 ·rw[h];cases F with
  |base=>exact absurd ((R rfl).2.symm.trans h) (by simp)
  |cons a b d=>
   rename_i k g D l l';simp only;have Y:=a.mode;generalize I:g.mode=m at Y;generalize K:D.mode=m' at Y;cases Y with
   |run=>exact .inl ⟨rfl,rfl⟩
   |returning=>exact .inl ⟨rfl,rfl⟩
   |panicking A=>
    cases A with
    |nil=>exact .inl ⟨rfl,rfl⟩
    |cons p q=>
     rename_i x y k k';obtain⟨J,C,xg⟩:=x;obtain⟨L,B,U⟩:=y;obtain⟨a1,a2,a3⟩:=p;subst a2;subst a3;cases B<;>cases U<;>first
      |exact .inl ⟨rfl,rfl⟩
      |exact .inr ⟨_,_,_,_,rfl,rfl,a1,.cons ⟨a.fn,a.tmps,a.todo,a.defers,.panicking (.cons ⟨a1,rfl,rfl⟩ q),a.kind,a.kinds,a.round,a.has⟩ b d⟩
theorem Hi{n:Nat}{l l':List _}(H:FR P r bz f f')(R:SL P r cs gW (n+1) l l')(hw:W r c v w){x x':ai}(A:V r x x')(main Y:Bool):ST P r c cs gW v w (aY P main f l none x v) (aY P Y f' l' none x' w):=by
 cases R with
 |cons a b d=>
  unfold aY;rw[H.kind];rcases H.kinds with h|h
  ·rw[h];refine .go r c (a.finish A) d ?_ (.refl hw) lK;intro K;have:=b K;unfold Frame.finish;split<;>exact this
  ·rw[h];have bd:=acz a;refine .go r c bd d ?_ (.refl hw) lK;intro K;have:=b K;split
   ·split<;>exact this
   ·omega
theorem acA{n:Nat}(H:n=0->f.roundOf=none/\f.kind=.normal)(Y:List _)(x:ai):n=0->(Frame.finish {f with defers:=Y} x).roundOf=none/\(Frame.finish {f with defers:=Y} x).kind=.normal:=fun K=>by
 have:=H K;unfold Frame.finish;split<;>exact this
theorem aes{a b:Option Nat}(h:LO r a b)(e:a=none):b=none:=by
 cases h with
 |none=>rfl
 |some _=>cases e
theorem H0(F:lF P){n:Nat}{s s':Sem Next}(h:SR P (NX (f.roundOf.isNone)) r s s')(M:FR P r (n==0) f f')(A:n=0->f.roundOf=none/\f.kind=.normal)(p:SL P r cs gW n l l')(hw:W r c v w):
  ST P r c cs gW v w (stepG.apply P true f l none s v) (stepG.apply P true f' l' none s' w):=by
 have U:(f.kind==c9)=false:=by rcases M.kinds with h|h<;>rw[h]<;>rfl
 have B:(f'.kind==c9)=false:=by rw[M.kind];exact U
 have R:∀(x:ai),n=0->(f.finish x).roundOf=none/\(f.finish x).kind=.normal:=fun x N=>by
  have:=A N;unfold Frame.finish;split<;>exact this
 have T:∀(x:List bh),n=0->(f.raise x).roundOf=none/\(f.raise x).kind=.normal:=fun x N=>by
  have:=A N;unfold bA;split<;>exact this
 have run:=h.run F.sC #[] hw;by_cases H:v.drawn+c<(s.run P v).world.drawn/\w.drawn+c<(s'.runT P w #[]).1.world.drawn
 ·refine .lM (au H.1 (NG v)) (au ?_ (NG w));have:=H.2;rw[cP]at this;exact this
 unfold stepG.apply;simp only[if_true,U,B,cC,if_false];have ev:∀{fs:Array aT} {u:Nat},(∀e∈fs,e∈(#[]:Array aT)\/mj r w u e)->∀e∈seen P f'.fn fs,mj r w u e:=fun V e D=>(V e (mem_seen _ _ e D)).elim (fun x=>by simp at x) id;have L:(s.runT P v #[]).1=s.run P v:=by rw[cP]
 generalize Ks:s.runT P v #[]=sv at L;generalize Z:s'.runT P w #[]=sw at run;obtain⟨rv,g⟩:=sv;simp only at L;subst L;simp only;generalize X:s.run P v=rv at run;cases run with
 |lM h k=>rw[X,Z]at H;exact absurd ⟨h,k⟩ H
 |lost h=>
  rename_i x v1 y;rcases h with⟨u,rfl,hu⟩|⟨y,rfl⟩
  ·cases u<;>first|exact .ended|(simp[Dy]at hu)
  ·exact .ended
 |halt r1 c1 o V D=>
  cases V with
  |panic E=>exact ST.after o (.go r1 c1 ((M.mono o.le).raise (oA.cons (x:=⟨_,false,false⟩) (y:=⟨_,false,false⟩) ⟨E,rfl,rfl⟩ .nil)) (p.mono o.le) (T _) (.refl o.wl) lK) _ _ (ev D)
 |ok r1 c1 o G D=>
  have Y:=M.mono o.le;have K:=p.mono o.le;cases G with
  |value E=>exact ST.after o (.go r1 c1 (Y.finish E) K (R _) (.refl o.wl) lK) _ _ (ev D)
  |skip=>exact ST.after o (.go r1 c1 (Y.finish (.tuple rfl (fun i x x' e=>by simp at e))) K (R _) (.refl o.wl) lK) _ _ (ev D)
  |enter b O=>
   refine ST.after o ?_ _ _ (ev D);dsimp only;have I:=M.todo;split
   ·rename_i e;rw[e]at I;generalize f'.todo=z at I;cases I with
    |cons a _=>cases a
   ·split
    ·rename_i e;rw[e]at I;generalize f.todo=z at I;cases I with
     |rest _ _ _ d=>simp[A4]at d
     |cons a _=>cases a
    ·exact .go r1 c1 (FR.enter F b O (.inl rfl)) (.cons Y A K) (fun h=>by omega) (.refl o.wl) lK
  |defer hd=>exact ST.after o (.go r1 c1 (FR.finish (f:={f with defers:=_::f.defers}) (f':={f' with defers:=_::f'.defers}) ⟨Y.fn,Y.tmps,Y.todo,.cons hd Y.defers,Y.mode,Y.kind,Y.kinds,Y.round,Y.has⟩ (.tuple rfl (fun i x x' e=>by simp at e))) K (acA A _ _) (.refl o.wl) lK) _ _ (ev D)
  |round t I O Q=>exact ST.after o (.go r1 c1 (FR.roundOf F t _ I O Q (.inl rfl)) (.cons Y A K) (fun h=>by omega) (.refl o.wl) lK) _ _ (ev D)
  |recover S=>
   have C:f.roundOf=none:=by simpa using S
   have J:f'.roundOf=none:=aes M.round C;simp only[C,J];refine ST.after o ?_ _ _ (ev D);rcases WK Y A K with⟨q,j⟩|⟨x,x',m,m',q,j,G,hm⟩
   ·rw[q,j];exact .go r1 c1 (Y.finish .nilIface) K (R _) (.refl o.wl) lK
   ·rw[q,j];exact .go r1 c1 (Y.finish G) hm (R _) (.refl o.wl) lK
end
section
variable[gK]{P:aj}{r:Rn}{c:Nat}{cs gW:List ae}{v w:af}
theorem zh{α:Type}{A:Rn->α->α->Prop}(F:lF P){s s':Sem α}(h:SR P A r s s')(hw:W r c v w){H:Result α}{R:Array _}{Y:Result α×Array _}(M:s.runT P v #[]=(H,R))(N:s'.runT P w #[]=Y):RR A r c #[] v w H Y:=by
 have:=h.run F.sC #[] hw;simp_all
theorem p_{fs:Array _}{fn:ar}{u:Nat}(H:∀e∈fs,e∈(#[])\/mj r w u e):∀e∈seen P fn fs,mj r w u e:=fun e Y=>(H e (mem_seen _ _ e Y)).elim (fun x=>by simp at x) id
omit [gK]in
theorem Cm(main:Bool)(f:ae)(l:List _)(d:Option _)(x:ai)(u:af):u.drawn<=(qT (aY P main f l d x u)).drawn:=by
 unfold aY
 repeat' split
 all_goals exact ao _
theorem C4(F:lF P){n:Nat}{l l':List _}(p:FR P r bz f f')(hs:SL P r cs gW (n+1) l l')(hw:W r c v w){b b':Nat}(e:r b=some b'){j:Option _}(a:∀c,j=some c->gK.code c)(main H:Bool){A Y:Result _}{G z:Array _}
  (O:(bg b j).runT P v #[]=(A,G))(V:(bg b' j).runT P w #[]=(Y,z)){s s':bc}(hk:∀x u,A=.ok x u->s=aU (seen P f.fn G) (aY P main f l none x u))(R:∀x u,Y=.ok x u->s'=aU (seen P f'.fn z) (aY P H f' l' none x u))(M:∀h u,A=.halt h u->∃o es,s=.ended o u es)(N:∀h u,Y=.halt h u->∃o es,s'=.ended o u es):
  ST P r c cs gW v w s s':=by
 have run:=zh F (X0 e a) hw O V;cases run with
 |lM h k=>
  refine .lM ?_ ?_
  ·cases A with
   |ok x y=>rw[hk x y rfl,ri];exact au h (Cm ..)
   |halt x y=>obtain⟨o,es,e⟩:=M x y rfl;rw[e];exact h
  ·cases Y with
   |ok x y=>rw[R x y rfl,ri];exact au k (Cm ..)
   |halt x y=>obtain⟨o,es,e⟩:=N x y rfl;rw[e];exact k
 |@lost x v1 _ _=>
  obtain⟨o,es,h⟩:=M x v1 rfl;rw[h];exact ST.ended
 |@halt x _ v1 _ _ r1 c1 o I K=>
  obtain⟨o,es,h⟩:=M x v1 rfl;rw[h];exact ST.ended
 |ok r1 c1 o D K=>
  rw[hk _ _ rfl,R _ _ rfl];exact ST.after o ((Hi (p.mono o.le) (hs.mono o.le) o.wl D _ _)) _ _ (p_ K)
theorem IY{p:Prop}[Decidable p]{a b a' b':bc}(h:p->ST P r c cs gW v w a a')(k:¬p->ST P r c cs gW v w b b'):ST P r c cs gW v w (if p then a else b) (if p then a' else b'):=by
 by_cases Y:p
 ·simp_all
 ·simp_all
theorem yU.JX{o:Oper}(h:yU P true o)(b:Bool):yU P b o:=⟨h.1,fun _=>h.2 rfl⟩
theorem mb.JX:∀{d:Code},mb P true d->∀b,mb P b d:=by
 intro d;induction d with
 |region i ops R=>exact fun h b=>h.imp id fun h o D=>(h o D).JX b
 |seq a b Y K=>exact fun h b=>⟨Y h.1 b,K h.2 b⟩
 |cond q a b Y K=>exact fun h b=>⟨h.1,Y h.2.1 b,K h.2.2 b⟩
 |block i d H=>exact fun h b=>H h b
 |loop d H=>exact fun h b=>H h b
 |scope d H=>exact fun h b=>H h b
 |_=>exact fun h _=>h
theorem Ww{fn:ar}{tmps:Array _}{ps:Array Tmp}{aqY bd:Code}{H:Result _}{R:Array _}(h:(bH fn tmps ps aqY bd o).runT P v #[]=(H,R)):H.world.drawn=v.drawn:=by
 have Y:((bH fn tmps ps aqY bd o).runT P v #[]).1=(bH fn tmps ps aqY bd o).run P v:=by simp
 rw[h]at Y;simp only at Y;rw[Y];unfold bH;cases o with
 |none=>simp[Sem.run,Result.world]
 |some q=>
  unfold Instr.getLoop getObj;simp[bind,Sem.bind,Sem.run];cases v.heap[q]? with
  |none=>rfl
  |some K=>cases K<;>rfl
theorem aet(F:lF P)(gi:GI r){n:Nat}(hf:FR P r (n==0) f f')(O:n=0->f.roundOf=none/\f.kind=.normal)(N:SL P r cs gW n l l')(hw:W r c v w)(main M:Bool)(hm:f.mode=.run)(p:∀i ops dr k,f.todo=.code (.region i ops dr)::k->¬gK.wall ops):
  ST P r c cs gW v w (aO P main true f l none v) (aO P M true f' l' none w):=by
 have Ku:=fun x (g:jF x)=>hf.eval gi x g;have B:=hf;obtain⟨fn,tmps,todo,defers,mode,kind,ro⟩:=f;obtain⟨je,I,aip,K,U,Y,Q⟩:=f';obtain⟨h1,T,h3,h4,h5,h6,h7,L,h9⟩:=hf;simp only at h1 T h3 h4 h5 h6 h7 L h9 O hm;subst h1 h6;have aj5:∀{r1:Rn} {c1:Nat} {v1 w1:af} {t t':List Item},Out r r1 c c1 v w v1 w1->IL P r1 ro.isSome (n==0) t t'->ST P r1 c1 cs gW v1 w1 (.go (G ⟨je,tmps,t,defers,mode,Y,ro⟩ l) v1) (.go (G ⟨je,I,t',K,U,Y,Q⟩ l') w1):=
  fun{r1 c1 v1 w1 t t'} o ht=>.go r1 c1 ⟨rfl,T.mono o.le,ht,h4.mono o.le,h5.mono o.le,rfl,h7,L.mono o.le,h9⟩ (N.mono o.le) O (.refl o.wl) lK
 have tog:∀{r1:Rn} {c1:Nat} {v1 w1:af} {t t':List Item},Out r r1 c c1 v w v1 w1->IL P r1 ro.isSome (n==0) t t'->ST P r c cs gW v w (.go (G ⟨je,tmps,t,defers,mode,Y,ro⟩ l) v1) (.go (G ⟨je,I,t',K,U,Y,Q⟩ l') w1):=
  fun{r1 c1 v1 w1 t t'} o ht=>.go r1 c1 ⟨rfl,T.mono o.le,ht,h4.mono o.le,h5.mono o.le,rfl,h7,L.mono o.le,h9⟩ (N.mono o.le) O o lK
 have to:∀{t t':List Item},IL P r ro.isSome (n==0) t t'->ST P r c cs gW v w (.go (G ⟨je,tmps,t,defers,mode,Y,ro⟩ l) v) (.go (G ⟨je,I,t',K,U,Y,Q⟩ l') w):=
  fun ht=>.go r c ⟨rfl,T,ht,h4,h5,rfl,h7,L,h9⟩ N O (.refl hw) lK
 have hbr:∀(x:List bh),n=0->(bA ⟨je,tmps,todo,defers,mode,Y,ro⟩ x).roundOf=none/\(bA ⟨je,tmps,todo,defers,mode,Y,ro⟩ x).kind=.normal:=fun x h0=>by
  have:=O h0;unfold bA;split<;>exact this
 have J:ro=none->ST P r c cs gW v w (.go (G ⟨je,tmps,todo,defers,.returning,Y,ro⟩ l) v) (.go (G ⟨je,I,aip,K,.returning,Y,Q⟩ l') w):=
  fun _=>.go r c ⟨rfl,T,h3,h4,.returning,rfl,h7,L,h9⟩ N O (.refl hw) lK
 have pos:∀q,ro=some q->∃m,n=m+1:=fun q e=>by
  cases n with
  |zero=>have:=(O rfl).1;rw[e]at this;cases this
  |succ m=>exact⟨m,rfl⟩
 cases h3 with
 |rest a b c d=>exact ST.ended
 |nil=>
  unfold aO;dsimp only;cases L with
  |none=>exact J rfl
  |some e=>
   obtain⟨m,rfl⟩:=pos _ rfl;dsimp only;generalize H:ay P (bg _ _) v #[]=sv;generalize D:ay P (bg _ _) w #[]=S;obtain⟨X,e0⟩:=sv;obtain⟨C,Z⟩:=S;dsimp only;refine C4 F B N hw e ?_ main M H D ?_ ?_ ?_ ?_
   ·exact fun _ x=>by cases x
   ·intro x u e;subst e;rfl
   ·intro x u e;subst e;rfl
   ·intro x u e;subst e;exact⟨_,_,rfl⟩
   ·intro x u e;subst e;exact⟨_,_,rfl⟩
 |cons hi hk=>
  cases hi with
  |inBlock i=>exact to hk
  |inScope R=>exact to hk
  |inLoop R=>exact to (.cons (.code R) (.cons (.inLoop R) hk))
  |inRangeFunc e=>exact ST.ended
  |endRangeFunc e=>
   unfold aO;dsimp only;generalize H:ay P (di _) v #[]=sv;generalize D:ay P (di _) w #[]=S;obtain⟨X,e0⟩:=sv;obtain⟨C,Z⟩:=S;dsimp only;have run:=zh F (Y_ (P:=P) e) hw H D;clear H D;cases run with
   |lM h k=>
    refine .lM ?_ ?_
    ·rw[ri];cases X with
     |ok x y=>exact h
     |halt x y=>cases x<;>exact h
    ·rw[ri];cases C with
     |ok x y=>exact k
     |halt x y=>cases x<;>exact k
   |@lost x v1 _ hl=>
    rcases hl with⟨u,rfl,_⟩|⟨y,rfl⟩<;>exact ST.ended
   |halt r1 c1 o hh V=>
    cases hh with
    |panic hv=>exact ST.after o (.go r1 c1 ((B.mono o.le).raise (oA.cons (x:=⟨_,false,false⟩) (y:=⟨_,false,false⟩) ⟨hv,rfl,rfl⟩ .nil)) (N.mono o.le) (hbr _) (.refl o.wl) lK) _ _ (p_ V)
   |@ok jump _ _ _ _ r1 c1 o g V=>
    obtain⟨E,R⟩:=g;subst E;refine ST.after o (aj5 o ?_) _ _ (p_ V);cases jump with
    |none=>exact hk.mono o.le
    |some d=>exact .cons (.code ((F.code d (R d rfl)).JX _)) (hk.mono o.le)
  |beginRound=>
   unfold aO;dsimp only;refine H0 F ?_ B O N hw;cases L with
   |none=>exact SR.bind (A:=fun _ _ _=>False) (gO _) fun _ _ _ _ h=>h.elim
   |some e=>exact JW (W9 e)
  |@inRegion ops is ho=>
   cases is with
   |nil=>exact to hk
   |cons i rest=>
    unfold aO;dsimp only;rw[Zd T];refine IY (fun _=>?_) (fun _=>?_)
    ·unfold stepG.oper;simp only[Frame.oper?];cases hi:ops[i]? with
     |none=>exact ST.ended
     |some o=>
      have z:=ho i (by simp) o hi;have nr:∀c,o.op=.call c->c.callee=.builtin .recover->ro.isNone=true:=fun c Z E=>by
       cases ro with
       |none=>rfl
       |some q=>exact absurd E ((z.2 rfl).2 c Z)
      have key:=H0 F (OY F.toFit (bb:=ro.isNone) Ku (fun _=>⟨rfl,rfl⟩) o z.1 nr) B O N hw;cases L with
      |none=>exact key
      |some e=>
       have nd:=(z.2 rfl).1;dsimp only;split
       ·rename_i E;exact absurd E (nd _)
       ·split
        ·rename_i E;exact absurd E (nd _)
        ·exact key
    ·exact .go r c (B.finish (.tuple rfl (fun i x x' e=>by simp at e))) N (fun h0=>by have:=O h0;unfold Frame.finish;split<;>exact this) (.refl hw) lK
  |code R=>
   rename_i cd;cases cd with
   |ret=>
    unfold aO;dsimp only;cases L with
    |none=>exact J rfl
    |some e=>
     obtain⟨m,rfl⟩:=pos _ rfl;dsimp only;generalize H:ay P (bg _ _) v #[]=sv;generalize D:ay P (bg _ _) w #[]=S;obtain⟨X,e0⟩:=sv;obtain⟨C,Z⟩:=S;dsimp only;refine C4 F B N hw e ?_ main M H D ?_ ?_ ?_ ?_
     ·exact fun _ x=>by cases x;exact F.ret
     ·intro x u e;subst e;rfl
     ·intro x u e;subst e;rfl
     ·intro x u e;subst e;exact⟨_,_,rfl⟩
     ·intro x u e;subst e;exact⟨_,_,rfl⟩
   |skip=>exact to hk
   |label i=>exact to hk
   |seq a b=>exact to (.cons (.code R.1) (.cons (.code R.2) hk))
   |cond q a b=>
    unfold aO;dsimp only;have hq:=Ku q R.1;generalize cj _ q=x at hq⊢;generalize cj _ q=y at hq⊢;cases hq with
    |bool b=>
     cases b with
     |true=>exact to (.cons (.code R.2.1) hk)
     |false=>exact to (.cons (.code R.2.2) hk)
    |_=>exact ST.ended
   |block i d=>exact to (.cons (.code R) (.cons (.inBlock i) hk))
   |loop d=>exact to (.cons (.code R) (.cons (.inLoop R) hk))
   |scope d=>exact to (.cons (.code R) (.cons (.inScope R) hk))
   |exit i=>
    unfold aO;dsimp only;rcases hk.exitTo i with⟨q1,q2⟩|⟨m,m',q1,q2,hm⟩
    ·rw[q1];cases L with
     |none=>exact ST.ended
     |some e=>
      rw[q2.resolve_left (by simp)];simp only[Option.elim];obtain⟨m,rfl⟩:=pos _ rfl;generalize H:ay P (bg _ _) v #[]=sv;generalize D:ay P (bg _ _) w #[]=S;obtain⟨X,e0⟩:=sv;obtain⟨C,Z⟩:=S;dsimp only;refine C4 F B N hw e ?_ main M H D ?_ ?_ ?_ ?_
      ·exact fun _ x=>by cases x;exact F.exit i
      ·intro x u e;subst e;rfl
      ·intro x u e;subst e;rfl
      ·intro x u e;subst e;exact⟨_,_,rfl⟩
      ·intro x u e;subst e;exact⟨_,_,rfl⟩
    ·rw[q1,q2];exact to hm
   |goto i=>
    unfold aO;dsimp only;rcases hk.gotoIn i with⟨q1,q2⟩|⟨m,m',q1,q2,hm⟩
    ·rw[q1];cases L with
     |none=>exact ST.ended
     |some e=>
      rw[q2.resolve_left (by simp)];simp only[Option.elim];obtain⟨m,rfl⟩:=pos _ rfl;generalize H:ay P (bg _ _) v #[]=sv;generalize D:ay P (bg _ _) w #[]=S;obtain⟨X,e0⟩:=sv;obtain⟨C,Z⟩:=S;dsimp only;refine C4 F B N hw e ?_ main M H D ?_ ?_ ?_ ?_
      ·exact fun _ x=>by cases x;exact F.goto i
      ·intro x u e;subst e;rfl
      ·intro x u e;subst e;rfl
      ·intro x u e;subst e;exact⟨_,_,rfl⟩
      ·intro x u e;subst e;exact⟨_,_,rfl⟩
    ·rw[q1,q2];exact to hm
   |refuse y=>exact ST.ended
   |region id ops draw=>
    have R:=R.resolve_left (p _ _ _ _ rfl);unfold aO;dsimp only;refine IY (fun _=>?_) (fun _=>?_)
    ·exact to (.cons (.inRegion _ fun j _ o e=>R o (bN e)) hk)
    ·have run:=(rh (P:=P) (r:=r) (.order je id)).run F.sC #[] hw;rw[cP]at run;generalize H:Sem.run P (choose _) v=X at run⊢;generalize D:Sem.run P (choose _) w=C at run⊢;cases run with
     |lM h k=>
      refine .lM ?_ ?_
      ·cases X<;>exact h
      ·cases C<;>exact k
     |lost h=>exact ST.ended
     |halt r1 c1 o hh V=>exact ST.ended
     |ok r1 c1 o g V=>
      cases g;exact tog o (.cons (.inRegion _ fun j _ o e=>R o (bN e)) (hk.mono o.le))
   |rangeFunc q ps aqY bd=>
    unfold aO;dsimp only;generalize H:ay P (bH _ _ _ _ _ _) v #[]=sv;generalize D:ay P (bH _ _ _ _ _ _) w #[]=S;obtain⟨X,e0⟩:=sv;obtain⟨C,Z⟩:=S;dsimp only;have run:=zh F (Xu (P:=P) je T ps R.2.1 R.2.2 L) hw H D;have hdr:=Ww H;clear H D;cases run with
    |lM h k=>omega
    |lost h=>exact ST.ended
    |halt r1 c1 o hh V=>exact ST.ended
    |@ok a a' _ _ _ r1 c1 o g V=>
     obtain⟨b,mk⟩:=a;obtain⟨b',mk'⟩:=a';obtain⟨hl,hd⟩:=g;simp only at hl hd;have Un:FR P r1 (n==0) ⟨je,tmps,.inRangeFunc b::_,mk++defers,mode,Y,ro⟩ ⟨je,I,.inRangeFunc b'::_,mk'++K,U,Y,Q⟩:=⟨rfl,T.mono o.le,.cons (.inRangeFunc hl) (hk.mono o.le),hd.Tv (h4.mono o.le),h5.mono o.le,rfl,h7,L.mono o.le,h9⟩;refine ST.after o (H0 F ?_ Un O (N.mono o.le) o.wl) _ _ (p_ V);have one:VA r1 #[Value.func (.yield b) #[] #[]] #[Value.func (.yield b') #[] #[]]:=VA.one (.func (.yield hl) rfl (fun i x x' e=>by simp at e) rfl (fun i x x' e=>by simp at e));unfold resolve;exact SR.bind (s:=c_ _ _) (s':=c_ _ _) (NF (Un.eval (gi.mono o.le) q R.1) (by simpa[cj]using one)) fun t1 d d' l1 hd=>CM F.iz F.EB hd.1 hd.2
end
section
variable[gK]{P:aj}{r:Rn}{c:Nat}{cs gW:List ae}{v w:af}
theorem Oh{k:List Item}(h:IL P r rd bz f.todo k\/IL P r rd bz k f.todo):f.catches P=false:=by
 unfold Frame.catches;split
 ·rename_i e;rcases h with h|h
  ·rw[e]at h;cases h with|cons a _=>cases a
  ·rw[e]at h;cases h with|rest _ _ _ d=>(simp[A4]at d)|cons a _=>cases a
 ·rfl
theorem MK(F:lF P){n:Nat}(M:FR P r (n==0) f f')(R:n=0->f.roundOf=none/\f.kind=.normal)(V:SL P r cs gW n l l')(hw:W r c v w){d:bq}(hd:Df r d d')(G:∀b,d.target≠.collected b):
  ST P r c cs gW v w (cR P f l none d v) (cR P f' l' none d' w):=by
 have L:∀(x:List bh),n=0->(f.raise x).roundOf=none/\(f.raise x).kind=.normal:=fun x T=>by
  have:=R T;unfold bA;split<;>exact this
 have O:=CM (P:=P) (bb:=false) F.iz F.EB hd G;have cond:∀{p p':Bool} {a b a' b':bc},p=p'->(∃o u es,a=.ended o u es)->ST P r c cs gW v w b b'->ST P r c cs gW v w (if p=true then a else b) (if p'=true then a' else b'):=by
  rintro p _ a b a' b' rfl ⟨o,u,es,rfl⟩ h;exact IY (fun _=>ST.ended) (fun _=>h)
 refine cond ?_ ⟨_,_,_,rfl⟩ ?_
 ·have A:=hd.target;have U:=M.mode;generalize d.target=t at A⊢;generalize d'.target=t' at A⊢;generalize f.mode=m at U⊢;generalize f'.mode=m' at U⊢;cases A<;>cases U<;>rfl
 generalize D:ay P (invoke _ _) v #[]=sv;generalize I:ay P (invoke _ _) w #[]=z;obtain⟨j,g⟩:=sv;obtain⟨Q,s⟩:=z;have run:=zh F O hw D I;clear D I;dsimp only;cases run with
 |lM h k=>
  refine .lM ?_ ?_
  ·rw[ri];cases j with
   |ok a u=>
    cases a<;>(try simp only)<;>first
     |exact h
     |(rename_i b;cases b<;>exact h)
     |(rename_i b _;cases b<;>exact h)
     |((repeat' split)<;>exact h)
   |halt a u=>
    cases a<;>(try simp only)<;>first
     |exact h
     |exact au h (GG ..)
  ·rw[ri];cases Q with
   |ok a u=>
    cases a<;>(try simp only)<;>first
     |exact k
     |(rename_i b;cases b<;>exact k)
     |(rename_i b _;cases b<;>exact k)
     |((repeat' split)<;>exact k)
   |halt a u=>
    cases a<;>(try simp only)<;>first
     |exact k
     |exact au k (GG ..)
 |@lost x v1 _ N=>
  rcases N with⟨u,rfl,_⟩|⟨y,rfl⟩<;>exact ST.ended
 |halt r1 c1 o Z H=>
  cases Z with
  |panic S=>exact ST.after o (.go r1 c1 ((M.mono o.le).raise (oA.cons (x:=⟨_,false,false⟩) (y:=⟨_,false,false⟩) ⟨S,rfl,rfl⟩ .nil)) (V.mono o.le) (L _) (.refl o.wl) lK) _ _ (p_ H)
 |ok r1 c1 o q H=>
  have Y:=M.mono o.le;have K:=V.mono o.le;cases q with
  |value S=>exact ST.after o (.go r1 c1 Y K R (.refl o.wl) lK) _ _ (p_ H)
  |skip=>exact ST.after o (.go r1 c1 Y K R (.refl o.wl) lK) _ _ (p_ H)
  |defer hd=>exact ST.after o (.go r1 c1 Y K R (.refl o.wl) lK) _ _ (p_ H)
  |enter X B=>exact ST.after o (.go r1 c1 (FR.enter F X B (.inr rfl)) (.cons Y R K) (fun h=>by omega) (.refl o.wl) lK) _ _ (p_ H)
  |round N E B C=>exact ST.after o (.go r1 c1 (FR.roundOf F N _ E B C (.inr rfl)) (.cons Y R K) (fun h=>by omega) (.refl o.wl) lK) _ _ (p_ H)
  |recover J=>cases J
theorem OZ(F:lF P){n:Nat}(hf:FR P r (n==0) f f')(G:n=0->f.roundOf=none/\f.kind=.normal)(M:SL P r cs gW n l l')(hw:W r c v w)(main H:Bool)(V:n=0->f.defers≠ []):
  ST P r c cs gW v w (bm P main f l none v) (bm P H f' l' none w):=by
 have N:=hf;obtain⟨fn,tmps,todo,defers,mode,kind,ro⟩:=f;obtain⟨je,D,R,B,K,Y,Q⟩:=f';obtain⟨h1,S,T,h4,X,h6,g,p,s⟩:=hf;subst h1 h6;cases h4 with
 |rest a b=>exact absurd rfl (V (by simpa using a))
 |nil=>
  obtain⟨m,rfl⟩:∃m,n=m+1:=by
   cases n with
   |zero=>exact absurd rfl (V rfl)
   |succ m=>exact⟨m,rfl⟩
  unfold bm;cases X with
  |run=>exact ST.ended
  |panicking hp=>
   simp[Oh (f:=⟨je,tmps,todo,[],.panicking _,Y,ro⟩) (.inl T),Oh (.inr T)];cases M with
   |cons a b d=>
    exact .go r c (a.raise hp) d (fun h0=>by have:=b h0;unfold bA;split<;>exact this) (.refl hw) lK
  |returning=>
   cases EX:P.funcs[je]? with
   |none=>exact Hi N M hw (S.getD 0) main H
   |some fu=>
    dsimp only;generalize I:ay P _ v #[]=sv;generalize A:ay P _ w #[]=j;obtain⟨q,e0⟩:=sv;obtain⟨U,e1⟩:=j;have run:=zh F (Og (P:=P) S) hw I A;cases run with
    |lM h k=>
     refine .lM ?_ ?_
     ·rw[ri];cases q with
      |ok x y=>exact au h (Cm ..)
      |halt x y=>cases x<;>exact h
     ·rw[ri];cases U with
      |ok x y=>exact au k (Cm ..)
      |halt x y=>cases x<;>exact k
    |@lost x v1 _ hl=>
     rcases hl with⟨u,rfl,_⟩|⟨y,rfl⟩<;>exact ST.ended
    |halt r1 c1 o i L=>
     cases i with
     |panic hv=>exact ST.ended
    |ok r1 c1 o E L=>exact ST.after o ((Hi (N.mono o.le) (M.mono o.le) o.wl E main H)) _ _ (p_ L)
 |cons hd J=>
  rename_i d d' z C;have O:FR P r (n==0) ⟨je,tmps,todo,z,mode,Y,ro⟩ ⟨je,D,R,C,K,Y,Q⟩:=⟨rfl,S,T,J,X,rfl,g,p,s⟩;have ht:=hd.target;obtain⟨t,aqY⟩:=d;obtain⟨t',as'⟩:=d';cases ht with
  |fn a b=>exact MK F O G M hw hd (fun _ e=>by cases e)
  |nil=>exact MK F O G M hw hd (fun _ e=>by cases e)
  |collected e=>
   unfold bm;dsimp only;generalize I:ay P _ v #[]=sv;generalize A:ay P _ w #[]=j;obtain⟨q,e0⟩:=sv;obtain⟨U,e1⟩:=j;have run:=zh F (Wv (P:=P) e) hw I A;cases run with
   |lM h k=>
    refine .lM ?_ ?_
    ·cases q<;>exact h
    ·cases U<;>exact k
   |lost _=>exact ST.ended
   |halt r1 c1 o i L=>exact ST.ended
   |ok r1 c1 o E L=>
    have Z:FR P r1 (n==0) ⟨je,tmps,todo,_++z,mode,Y,ro⟩ ⟨je,D,R,_++C,K,Y,Q⟩:=⟨rfl,S.mono o.le,T.mono o.le,E.Tv (J.mono o.le),X.mono o.le,rfl,g,p.mono o.le,s⟩;exact ST.after o (.go r1 c1 Z (M.mono o.le) G (.refl o.wl) lK) _ _ (p_ L)
theorem Iu(F:lF P)(gi:GI r){n:Nat}{l l':List _}(A:FR P r (n==0) f f')(M:n=0->f.roundOf=none/\f.kind=.normal)(N:SL P r cs gW n l l')(hw:W r c v w)(main H:Bool)(R:n=0->f.mode=.run\/f.defers≠ [])(Y:f.mode=.run->∀i ops O k,f.todo=.code (.region i ops O)::k->¬gK.wall ops):
  ST P r c cs gW v w (ah P main (G f l) v) (ah P H (G f' l') w):=by
 have D:=A.mode;unfold ah;simp[G];cases e:f.mode<;>cases e':f'.mode<;>rw[e,e']at D<;>cases D
 ·exact aet F gi A M N hw _ _ e (Y e)
 ·exact OZ F A M N hw _ _ fun K=>(R K).elim (fun x=>by simp_all) id
 ·exact OZ F A M N hw _ _ fun K=>(R K).elim (fun x=>by simp_all) id
end
def xY(u:Nat->Prop)(o o2:Option Obj):Prop:=o2=o\/∃c c2 e fz,(∃i,u i)/\o=some (.cells c e fz)/\o2=some (.cells c2 e fz)/\c2.size=c.size/\(∀i:Nat,¬u i->c2[i]?=c[i]?)/\∀(i:Nat) x,u i->c2[i]?=some x->Ew x=true
theorem xY.trans{u:Nat->Prop}{o o2 o3:Option Obj}(h:xY u o o2)(k:xY u o2 o3):xY u o o3:=by
 rcases k with rfl|⟨c,c2,e,fz,K,H,D,R,I,A⟩
 ·exact h
 ·rcases h with rfl|⟨d,d2,e',B,g1,C,Y,F,J,L⟩
  ·exact .inr ⟨c,c2,e,fz,K,H,D,R,I,A⟩
  ·rw[H]at Y;cases Y;exact .inr ⟨d,c2,e,fz,K,C,D,R.trans F,fun i U=>(I i U).trans (J i U),A⟩
theorem xY.eq{u:Nat->Prop}{o:Option Obj}(h:xY u o o2)(H:∀i,¬u i):o2=o:=by
 rcases h with h|⟨_,_,_,_,⟨i,Y⟩,_⟩
 ·exact h
 ·simp_all
def nH(o' o:Os):=∃d:Nat,o'={o with wall:=o.wall+d,mono:=o.mono+d}
theorem nH.refl(o:Os):nH o o:=⟨0,rfl⟩
theorem nH.of{o' o:Os}(h:o'=o):nH o' o:=by subst h;exact .refl _
theorem nH.trans{o o1 o2:Os}(h:nH o2 o1)(k:nH o1 o):nH o2 o:=by
 obtain⟨d,rfl⟩:=h;obtain⟨e,rfl⟩:=k;exact⟨e+d,by simp[Nat.add_assoc]⟩
theorem nH.env{o' o:Os}(h:nH o' o):o'.env=o.env:=by obtain⟨d,rfl⟩:=h;rfl
structure gU(U:Nat->Nat->Prop)(S:Nat->Prop)(w w2:af):Prop where
 kept:∀a,S a->xY (U a) (w.heap[a]?) (w2.heap[a]?)
 grow:w.heap.size<=w2.heap.size
 env:nH w2.os w.os
theorem gU.refl(U:Nat->Nat->Prop)(S:Nat->Prop)(w:af):gU U S w w:=⟨fun _ _=>.inl rfl,ao _,.refl _⟩
theorem gU.trans{U:Nat->Nat->Prop}{S:Nat->Prop}{w w2 w3:af}(h:gU U S w w2)(k:gU U S w2 w3):gU U S w w3:=⟨fun a Y=>(h.kept a Y).trans (k.kept a Y),aV h.grow k.grow,k.env.trans h.env⟩
def zL(S X:Nat->Prop)(w:af)(u:Nat)(e:aT):=
 (∃a:Addr,e.loc=.cell a/\e.sync=false/\((S a.block/\(e.write=true->X a.block))\/(w.heap.size<=a.block/\a.block<u)))\/
 (∃a:Nat,e.loc=.obj a/\e.sync=false/\((S a/\(e.write=true->X a))\/(w.heap.size<=a/\a<u)))\/
 (∃m,e.loc=.mark m/\(m=.noRoom\/∃f,m=.extern f))\/e.loc=.output
structure Did(S X:Nat->Prop)(w w1:af)(es:Array aT)(S1 X1:Nat->Prop):Prop where
 kept:∀a,a<w.heap.size->¬X a->w1.heap[a]?=w.heap[a]?
 grow:w.heap.size<=w1.heap.size
 held:∀a,S1 a↔S a\/(w.heap.size<=a/\a<w1.heap.size)
 may:∀a,X1 a↔X a\/(w.heap.size<=a/\a<w1.heap.size)
 ev:∀e∈es,zL S X w w1.heap.size e
 tape:w1.tape=w.tape
 env:nH w1.os w.os
 output:w1.output=w.output
inductive Tr(P:aj)(main:Bool)(U:Nat->Nat->Prop)(Done:(Nat->Prop)->(Nat->Prop)->ae->List ae->af->Prop):(Nat->Prop)->(Nat->Prop)->ae->List ae->af->Prop
 |stop {S X:Nat->Prop} {f:ae} {l:List ae} {w:af}:Done S X f l w->Tr P main U Done S X f l w
 |step {S X:Nat->Prop} {f:ae} {l:List ae} {w:af}:(∀w2,gU U S w w2->∃f1 l1 w1 es S1 X1,ah P main (G f l) w2=.go (G f1 l1) w1 es/\Did S X w2 w1 es S1 X1)->
   (∀w2 f1 l1 w1 es S1 X1,gU U S w w2->ah P main (G f l) w2=.go (G f1 l1) w1 es->Did S X w2 w1 es S1 X1->Tr P main U Done S1 X1 f1 l1 w1)->Tr P main U Done S X f l w
theorem Did.same{w1:af}{es:Array _}{S2 X2:Nat->Prop}(h:Did S X w w1 es S1 X1)(k:Did S X w w1 es S2 X2):S1=S2/\X1=X2:=
 ⟨funext fun a=>propext ((h.held a).trans (k.held a).symm),funext fun a=>propext ((h.may a).trans (k.may a).symm)⟩
inductive VR(P:aj):Nat->ae->List ae->af->ae->List ae->af->Prop
 |zero {f:ae} {l:List ae} {v:af}:VR P 0 f l v f l v
 |succ {k:Nat} {f f1 f2:ae} {l l1 l2:List ae} {v v1 v2:af} {es:Array aT}:VR P k f l v f1 l1 v1->ah P true (G f1 l1) v1=.go (G f2 l2) v2 es->VR P (k+1) f l v f2 l2 v2
theorem VR.runN{l l1:List _}{v:af}(h:VR P k f l v f1 l1 v1):runN P k (lone f l v)=.next (lone f1 l1 v1):=by
 induction h with
 |zero=>rfl
 |succ _ Y K=>
  rw[bE,K];simp[Go.runN];rw[cU,dO rfl Y];rfl
theorem VR.BA{f2:ae}{l l1 l2:List _}{v v2:af}(h:VR P k f l v f1 l1 v1)(e:Go.runN P k (lone f l v)=.next (lone f2 l2 v2)):f1=f2/\l1=l2/\v1=v2:=by
 rw[h.runN]at e;simp[lone,dH,dz]at e;simp_all
def tp(v:af)(T:Nat->bj->Nat):={v with tape:=T}
section
variable[gK]{P:aj}{U:Nat->Nat->Prop}
def oR(U:Nat->Nat->Prop)(r:Rn):=∀b b' i,r b=some b'->U b' i->gK.ro b/\gK.jC b i
def Rd(r:Rn)(a:Nat):=∃b,r b=some a
def Wr(r:Rn)(a:Nat):=∃b,r b=some a/\¬gK.ro b
theorem W.rely{r:Rn}{c:Nat}{v w w2:af}(h:W r c v w)(F:oR U r)(hr:gU U (Rd r) w w2):W r 0 v w2:=by
 refine⟨fun b b' e=>?_,h.gv,aV h.gw hr.grow,h.old,fun i q B=>by omega,hr.env.env.trans h.env⟩;obtain⟨o,o',D,R,I⟩:=h.obj b b' e;rcases hr.kept b' ⟨b,e⟩with k|⟨d,d2,t,fz,⟨i,B⟩,J,L,M,N,O⟩
 ·exact⟨o,o',D,k.trans R,I⟩
 ·have H:=(F b b' i e B).1;rw[R]at J;cases J;cases I with
  |same n _=>exact absurd H n
  |ro t n C A=>
   refine⟨_,_,D,L,.ro t n ⟨C.size.trans M.symm,fun j x x' ex Y=>?_⟩ A⟩;by_cases K:U b' j
   ·have:=A j (F b b' j e K).2;rw[this]at ex;cases ex;exact .blank (Ew.up (O j x' K Y))
   ·rw[N j K]at Y;exact C.at_ j x x' ex Y
theorem W.Jx{r:Rn}{v:af}(h:W r 0 v w){c:Nat}(Y:∀i q,i<c->v.tape (v.drawn+i) q=w.tape (w.drawn+i) q):W r c v w:=⟨h.obj,h.gv,h.gw,h.old,Y,h.env⟩
theorem W.tp{r:Rn}{c:Nat}{v:af}(h:W r c v w)(T:Nat->bj->Nat):W r 0 (tp v T) w:=⟨h.obj,h.gv,h.gw,h.old,fun i q Y=>by omega,h.env⟩
theorem Out.did{r r1:Rn}{c c1:Nat}{v w1:af}(o:Out r r1 c c1 v w v1 w1)(h:W r c v w){es:Array _}(F:∀e∈es,mj r w w1.heap.size e):Did (Rd r) (Wr r) w w1 es (Rd r1) (Wr r1):=by
 refine⟨fun a A B=>o.kept a A fun b Y=>b_ fun K=>B ⟨b,Y,K⟩,o.grow,fun a=>⟨?_,?_⟩,fun a=>⟨?_,?_⟩,fun e U=>?_,o.tape,.of o.os,o.output⟩
 ·rintro⟨b,Y⟩;rcases o.fresh b a Y with x|x
  ·exact .inl ⟨b,x⟩
  ·exact .inr ⟨x.1,(o.wl.lt Y).2⟩
 ·rintro(⟨b,Y⟩|x)
  ·exact⟨b,o.le _ _ Y⟩
  ·exact o.range a x.1 x.2
 ·rintro⟨b,Y,K⟩;rcases o.fresh b a Y with x|x
  ·exact .inl ⟨b,x,K⟩
  ·exact .inr ⟨x.1,(o.wl.lt Y).2⟩
 ·rintro(⟨b,Y,K⟩|x)
  ·exact⟨b,o.le _ _ Y,K⟩
  ·obtain⟨b,Y⟩:=o.range a x.1 x.2;refine⟨b,Y,fun I=>?_⟩;rcases o.fresh b a Y with y|y
   ·exact absurd (h.lt y).2 (by omega)
   ·exact absurd (h.old b I) (by omega)
 ·have key:∀{a:Nat} {wr:Bool},((∃b,r b=some a/\(wr=true->¬gK.ro b))\/(w.heap.size<=a/\a<w1.heap.size))->(Rd r a/\(wr=true->Wr r a))\/(w.heap.size<=a/\a<w1.heap.size):=by
   rintro a wr (⟨b,Y,K⟩|x)
   ·exact .inl ⟨⟨b,Y⟩,fun hw=>⟨b,Y,K hw⟩⟩
   ·omega
  rcases F e U with⟨a,H,D,R⟩|⟨a,H,D,R⟩|x
  ·exact .inl ⟨a,H,D,key R⟩
  ·exact .inr (.inl ⟨a,H,D,key R⟩)
  ·exact .inr (.inr x)
theorem SL.len{r:Rn}{cs gW:List _}{n:Nat}{l l':List _}(h:SL P r cs gW n l l'):l.length=n+cs.length:=by
 induction h with
 |base=>simp
 |cons _ _ _ Y=>simp;omega
theorem SL.R5{r:Rn}{cs gW:List _}{n:Nat}{l':List _}(h:SL P r cs gW n cs l'):n=0/\l'=gW:=by
 have:=h.len;obtain rfl:n=0:=by omega
 cases h;simp_all
variable(P)in
def ru(U:Nat->Nat->Prop)(r0:Rn)(Stop:ae->List _->af->Prop)(cs gW:List _)(S X:Nat->Prop)(f':ae)(l':List _)(w:af):=
 ∃r n f l v,Le r0 r/\FR P r (n==0) f f'/\SL P r cs gW n l l'/\W r 0 v w/\S=Rd r/\X=Wr r/\Stop f l v/\oR U r/\∀a i,U a i->a<w.heap.size
variable(P)in
structure Node(U:Nat->Nat->Prop)(r0:Rn)(Stop:ae->List ae->af->Prop)(f0:ae)(cs gW:List ae)(v0:af)(k:Nat)(T0:Nat->bj->Nat)(d:Nat)(S X:Nat->Prop)(f':ae)(l':List ae)(w:af):Prop where
 alike:∀T,(∀j,j<d->T j=T0 j)->∃r n f l v,VR P k f0 cs (tp v0 T) f l v/\v.tape=T/\v.drawn=d/\Le r0 r/\FR P r (n==0) f f'/\(n=0->f.roundOf=none/\f.kind=.normal)/\SL P r cs gW n l l'/\W r 0 v w/\S=Rd r/\X=Wr r/\oR U r
 low:∀a i,U a i->a<w.heap.size
 early:∀T,(∀j,j<d->T j=T0 j)->∀i f l v,i<=k->VR P i f0 cs (tp v0 T) f l v->¬Stop f l v
theorem VR.pre{l l1:List _}{v:af}(h:VR P k f l v f1 l1 v1):∀i,i<=k->∃f2 l2 v2,VR P i f l v f2 l2 v2:=by
 induction h with
 |zero=>
  intro i Y;obtain rfl:i=0:=by omega
  exact⟨_,_,_,.zero⟩
 |succ a b K=>
  intro i Y;rcases Nat.eq_or_lt_of_le Y with e|e
  ·rw[e];exact⟨_,_,_,VR.succ a b⟩
  ·exact K i (by omega)
section path
variable{main:Bool}{r0:Rn}{Stop:ae->List ae->af->Prop}{f0:ae}{cs gW:List ae}{v0:af}{k:Nat}{T0:Nat->bj->Nat}{d:Nat}{S X:Nat->Prop}{f':ae}{l':List ae}{w:af}
theorem aaB(C:∀T,∃n f1 l1 v1,runN P n (lone f0 cs (tp v0 T))=.next (lone f1 l1 v1)/\Stop f1 l1 v1){T:Nat->bj->Nat}{l:List _}{v:af}(h:VR P k f0 cs (tp v0 T) f l v)(H:∀i f l v,i<=k->VR P i f0 cs (tp v0 T) f l v->¬Stop f l v){o:Outcome}{es:Array _}:
  ah P true (G f l) v≠.ended o v1 es:=by
 intro D;obtain⟨n,f1,l1,R,Y,gF⟩:=C T;by_cases hk:n<=k
 ·obtain⟨f2,l2,v2,K⟩:=h.pre n hk;obtain⟨rfl,rfl,rfl⟩:=K.BA Y;exact H n _ _ _ hk K gF
 ·obtain⟨m,rfl⟩:∃m,n=k+(m+1):=⟨n-k-1,by omega⟩;rw[bE,h.runN]at Y;simp[Go.runN]at Y;rw[cV (by show(ah P _ (G f l) v).bare=_;rw[D];rfl)]at Y;cases Y
theorem P2(F:lF P)(gi:GI r0)(C:∀T,∃n f1 l1 v1,runN P n (lone f0 cs (tp v0 T))=.next (lone f1 l1 v1)/\Stop f1 l1 v1)(L:∀T k f v,(∀i f l v,i<=k->VR P i f0 cs (tp v0 T) f l v->¬Stop f l v)->VR P k f0 cs (tp v0 T) f cs v->f.mode≠.run->f.defers=[]->Stop f cs v)(V:∀T k f l v i ops H q,VR P k f0 cs (tp v0 T) f l v->f.mode=.run->f.todo=.code (.region i ops H)::q->gK.wall ops->Stop f l v)
  {T:Nat->bj->Nat}(N:∀i f l v,i<=k->VR P i f0 cs (tp v0 T) f l v->¬Stop f l v){r:Rn}{n:Nat}{l:List _}{v:af}(A:VR P k f0 cs (tp v0 T) f l v)(z:Le r0 r)(p:FR P r (n==0) f f')(s:n=0->f.roundOf=none/\f.kind=.normal)(O:SL P r cs gW n l l')(h:W r 0 v w2)(c:Nat)(ht:∀i q,i<c->v.tape (v.drawn+i) q=w2.tape (w2.drawn+i) q):
  (∃(f1 R:ae) (l1 M:List _) (v1 w1:af) (es iK:Array _) (r1:Rn) (c1 n1:Nat),ah P true (G f l) v=.go (G f1 l1) v1 es/\ah P main (G f' l') w2=.go (G R M) w1 iK/\FR P r1 (n1==0) f1 R/\(n1=0->f1.roundOf=none/\f1.kind=.normal)/\SL P r1 cs gW n1 l1 M/\Out r r1 c c1 v w2 v1 w1/\∀e∈iK,mj r w2 w1.heap.size e)\/
  (v.drawn+c<(qT (ah P true (G f l) v)).drawn/\w2.drawn+c<(qT (ah P main (G f' l') w2)).drawn):=by
 have D:n=0->f.mode=.run\/f.defers≠ []:=by
  intro U;by_cases K:f.mode=.run
  ·exact .inl K
  ·refine .inr fun hd=>?_;subst U;cases O;exact N k f _ v (ao _) A (L T k f v N A K hd)
 have Y:f.mode=.run->∀i ops H q,f.todo=.code (.region i ops H)::q->¬gK.wall ops:=by
  intro K i ops H q e I;exact N k f l v (ao _) A (V T k f l v i ops H q A K e I)
 have st:=Iu F (gi.mono z) p s O (h.Jx ht) true main D Y;generalize B:ah P _ _ v=sv at st;generalize hw:ah P _ _ w2=J at st;cases st with
 |ended=>exact absurd B (aaB C A N)
 |lM a b=>exact .inr ⟨a,b⟩
 |go r1 c1 a b d o e=>exact .inl ⟨_,_,_,_,_,_,_,_,r1,c1,_,rfl,rfl,a,d,b,o,e⟩
def glue(T0:Nat->bj->Nat)(d:Nat)(w2:af)(j:Nat)(q:bj):=if j<d then T0 j q else w2.tape (w2.drawn+(j-d)) q
theorem aaC(F:lF P)(gi:GI r0)(C:∀T,∃n f1 l1 v1,runN P n (lone f0 cs (tp v0 T))=.next (lone f1 l1 v1)/\Stop f1 l1 v1)(L:∀T k f v,(∀i f l v,i<=k->VR P i f0 cs (tp v0 T) f l v->¬Stop f l v)->VR P k f0 cs (tp v0 T) f cs v->f.mode≠.run->f.defers=[]->Stop f cs v)(Wl:∀T k f l v i ops dr q,VR P k f0 cs (tp v0 T) f l v->f.mode=.run->f.todo=.code (.region i ops dr)::q->gK.wall ops->Stop f l v)
  (R:Node P U r0 Stop f0 cs gW v0 k T0 d S X f' l' w)(hT:¬Tr P main U (ru P U r0 Stop cs gW) S X f' l' w):
  ∃T1 d1 S1 X1 f1 l1 w1,(∀j,j<d->T1 j=T0 j)/\d<=d1/\Node P U r0 Stop f0 cs gW v0 (k+1) T1 d1 S1 X1 f1 l1 w1/\¬Tr P main U (ru P U r0 Stop cs gW) S1 X1 f1 l1 w1:=by
 have V:∀w2:af,∀j,j<d->glue T0 d w2 j=T0 j:=fun w2 j Z=>by funext q;unfold glue;rw[if_pos Z]
 have ex:∀w2,gU U S w w2->∃f1 l1 w1 es S1 X1,ah P main (G f' l') w2=.go (G f1 l1) w1 es/\Did S X w2 w1 es S1 X1/\w2.drawn<=w1.drawn:=by
  intro w2 hr;obtain⟨r,n,f,l,v,I,J,p,A,M,s,N,O,rfl,rfl,Y⟩:=R.alike (glue T0 d w2) (V w2);have K:=O.rely Y hr;have z:∀i q,i<(qT (ah P true (G f l) v)).drawn->v.tape (v.drawn+i) q=w2.tape (w2.drawn+i) q:=fun i q _=>by
   rw[J,p];unfold glue;rw[if_neg (by omega),dA]
  rcases P2 (main:=main) F gi C L Wl (R.early _ (V w2)) I A M s N K _ z with⟨f1,h,l1,l1',v1,w1,es,iK,r1,c1,n1,D,c,q1,q2,q3,o,q4⟩|⟨x,_⟩
  ·exact⟨h,l1',w1,iK,_,_,c,o.did (K.Jx z) q4,by have:=o.drew;have:=o.zf;have:=o.later;omega⟩
  ·omega
 have off:∃w2 f1 l1 w1 es S1 X1,gU U S w w2/\ah P main (G f' l') w2=.go (G f1 l1) w1 es/\Did S X w2 w1 es S1 X1/\¬Tr P main U (ru P U r0 Stop cs gW) S1 X1 f1 l1 w1:=by
  refine b_ fun hno=>hT (.step (fun w2 hr=>?_) fun w2 f1 l1 w1 es S1 X1 hr D hd=>?_)
  ·obtain⟨f1,l1,w1,es,S1,X1,D,hd,_⟩:=ex w2 hr;exact⟨f1,l1,w1,es,S1,X1,D,hd⟩
  ·exact b_ fun m=>hno ⟨w2,f1,l1,w1,es,S1,X1,hr,D,hd,m⟩
 obtain⟨w2,f1,l1,w1,es,S1,X1,hr,D,hd,m⟩:=off;have E:w2.drawn<=w1.drawn:=by
  obtain⟨g1,m1,u1,t,S2,X2,c,_,E⟩:=ex w2 hr;rw[D]at c;cases c;exact E
 have key:∀T,(∀j,j<d+(w1.drawn-w2.drawn)->T j=glue T0 d w2 j)->∃r n f l v,VR P (k+1) f0 cs (tp v0 T) f l v/\v.tape=T/\v.drawn=d+(w1.drawn-w2.drawn)/\Le r0 r/\FR P r (n==0) f f1/\(n=0->f.roundOf=none/\f.kind=.normal)/\SL P r cs gW n l l1/\W r 0 v w1/\S1=Rd r/\X1=Wr r/\oR U r:=by
  intro T H;have Q:∀j,j<d->T j=T0 j:=fun j Z=>(H j (by omega)).trans (V w2 j Z);obtain⟨r,n,f,l,v,I,J,p,A,M,s,N,O,rfl,rfl,Y⟩:=R.alike T Q;have K:=O.rely Y hr;have z:∀i q,i<w1.drawn-w2.drawn->v.tape (v.drawn+i) q=w2.tape (w2.drawn+i) q:=fun i q hi=>by
   rw[J,p,H (d+i) (by omega)];unfold glue;rw[if_neg (by omega),dA]
  rcases P2 (main:=main) F gi C L Wl (R.early T Q) I A M s N K _ z with⟨g1,g1',m1,m1',v1,u1,t,apn,r1,c1,n1,x1,x2,q1,q2,q3,o,q4⟩|⟨_,x⟩
  ·rw[D]at x2;cases x2;have hc:c1=0:=by have:=o.zf;omega
   subst hc;obtain⟨rfl,rfl⟩:=hd.same (o.did (K.Jx z) q4);refine⟨r1,n1,g1,m1,v1,.succ I x1,o.Jt.trans J,by have:=o.drew;omega,A.trans o.le,q1,q2,q3,o.wl,rfl,rfl,fun b b' i e B=>?_⟩;rcases o.fresh b b' e with y|y
   ·exact Y b b' i y B
   ·have:=R.low b' i B;have:=hr.grow;have:=y.1;omega
  ·rw[D]at x;simp only[qT]at x;omega
 refine⟨glue T0 d w2,d+(w1.drawn-w2.drawn),S1,X1,f1,l1,w1,V w2,by omega,⟨key,fun a i B=>au (R.low a i B) (aV hr.grow hd.grow),fun T H i f l v hi hv hs=>?_⟩,m⟩;by_cases hik:i<=k
 ·exact R.early T (fun j Z=>(H j (by omega)).trans (V w2 j Z)) i f l v hik hv hs
 ·obtain rfl:i=k+1:=by omega
  obtain⟨r,n,g,l2,u,I,J,p,A,M,s,N,O,rfl,rfl,Y⟩:=key T H;obtain⟨rfl,rfl,rfl⟩:=I.BA hv.runN;exact m (.stop ⟨r,n,_,_,_,A,M,N,O,rfl,rfl,hs,Y,fun a i B=>au (R.low a i B) (aV hr.grow hd.grow)⟩)
open Classical in
theorem tree(F:lF P)(gi:GI r0)(C:∀T,∃n f1 l1 v1,runN P n (lone f0 cs (tp v0 T))=.next (lone f1 l1 v1)/\Stop f1 l1 v1)(L:∀T k f v,(∀i f l v,i<=k->VR P i f0 cs (tp v0 T) f l v->¬Stop f l v)->VR P k f0 cs (tp v0 T) f cs v->f.mode≠.run->f.defers=[]->Stop f cs v)(G:∀T k f l v i ops z q,VR P k f0 cs (tp v0 T) f l v->f.mode=.run->f.todo=.code (.region i ops z)::q->gK.wall ops->Stop f l v)
  (V:FR P r0 true f0 f')(hb:f0.roundOf=none/\f0.kind=.normal)(hw:W r0 0 v0 w)(H:oR U r0)(Y:∀a i,U a i->a<w.heap.size):Tr P main U (ru P U r0 Stop cs gW) (Rd r0) (Wr r0) f' gW w:=by
 refine b_ fun A=>?_;have root:Node P U r0 Stop f0 cs gW v0 0 v0.tape v0.drawn (Rd r0) (Wr r0) f' gW w:=by
  refine⟨fun T _=>⟨r0,0,f0,cs,tp v0 T,.zero,rfl,rfl,.refl _,V,fun _=>hb,.base,hw.tp T,rfl,rfl,H⟩,Y,fun T _ i f l v hi t O=>A (.stop ⟨r0,0,f0,cs,tp v0 T,.refl _,V,.base,hw.tp T,rfl,rfl,?_,H,Y⟩)⟩;obtain rfl:i=0:=by omega
  cases t;exact O
 let M:={x:Nat×(Nat->bj->Nat)×Nat×(Nat->Prop)×(Nat->Prop)×ae×List ae×af//Node P U r0 Stop f0 cs gW v0 x.1 x.2.1 x.2.2.1 x.2.2.2.1 x.2.2.2.2.1 x.2.2.2.2.2.1 x.2.2.2.2.2.2.1 x.2.2.2.2.2.2.2/\¬Tr P main U (ru P U r0 Stop cs gW) x.2.2.2.1 x.2.2.2.2.1 x.2.2.2.2.2.1 x.2.2.2.2.2.2.1 x.2.2.2.2.2.2.2}
 have Z:∀x:M,∃y:M,y.1.1=x.1.1+1/\(∀j,j<x.1.2.2.1->y.1.2.1 j=x.1.2.1 j)/\x.1.2.2.1<=y.1.2.2.1:=by
  rintro⟨⟨k,T0,d,S,X,f',l',w⟩,N,s⟩;obtain⟨E,d1,S1,X1,f1,l1,w1,D,c,g,o⟩:=aaC F gi C L G N s;exact⟨⟨(k+1,E,d1,S1,X1,f1,l1,w1),g,o⟩,rfl,D,c⟩
 let sU:M->M:=fun x=>bp (Z x)
 have B:=fun x=>cG (Z x)
 let p:Nat->M:=fun n=>Nat.rec ⟨(0,v0.tape,v0.drawn,Rd r0,Wr r0,f',gW,w),root,A⟩ (fun _ x=>sU x) n
 have b:∀n,p (n+1)=sU (p n):=fun _=>rfl;have hk:∀n,(p n).1.1=n:=by
  intro n;induction n with
  |zero=>rfl
  |succ n J=>rw[b,(B _).1,J]
 have mono:∀n m,(p n).1.2.2.1<=(p (n+m)).1.2.2.1/\∀j,j<(p n).1.2.2.1->(p (n+m)).1.2.1 j=(p n).1.2.1 j:=by
  intro n m;induction m with
  |zero=>exact⟨ao _,fun _ _=>rfl⟩
  |succ m J=>
   have:=B (p (n+m));exact⟨aV J.1 this.2.2,fun j I=>(this.2.1 j (au I J.1)).trans (J.2 j I)⟩
 let T:=fun j q=>if h:∃n,j<(p n).1.2.2.1 then(p (bp h)).1.2.1 j q else 0
 have R:∀n j,j<(p n).1.2.2.1->T j=(p n).1.2.1 j:=by
  intro n j I;have h:∃n,j<(p n).1.2.2.1:=⟨n,I⟩;have e:T j=(p (bp h)).1.2.1 j:=by
   funext q;show(if h:∃n,j<(p n).1.2.2.1 then(p (bp h)).1.2.1 j q else 0)=_
   rw[dif_pos h]
  have Q:=cG h;generalize bp h=m at e Q;rw[e];rcases Nat.le_total m n with K|K
  ·obtain⟨a,rfl⟩:=dC K;exact((mono m a).2 j Q).symm
  ·obtain⟨a,rfl⟩:=dC K;exact(mono n a).2 j I
 obtain⟨n,f1,l1,v1,u,O⟩:=C T;obtain⟨N,_⟩:=(p n).2;obtain⟨r,m,f,l,v,D,_⟩:=N.alike T (R n);rw[hk n]at D;obtain⟨rfl,rfl,rfl⟩:=D.BA u;exact N.early T (R n) n _ _ _ (by simp_all) D O
end path
end
def jL:Frame:={fn:=0,tmps:=#[],todo:=[.code (.refuse "")],defers:=[{target:=.nil,args:=#[]}],mode:=.run,kind:=.normal}
def JY(t:ae):=(t.mode=.run/\t.todo=[.code (.refuse "")])\/∃ch,t.mode=.panicking ch/\t.defers=[{target:=.nil,args:=#[]}]
theorem Ze{t:ae}(h:JY t)(v:af):∃o v1 es,ah P true (G t []) v=.ended o v1 es:=by
 unfold ah;simp only[G];rcases h with⟨Y,K⟩|⟨ch,Y,hd⟩
 ·simp only[Y];unfold aO;simp_all
 ·unfold bm;simp only[hd];simp only[Y];exact⟨_,_,_,rfl⟩
theorem NH{x:ai}{v:af}:∃t v1 es,aY P true fr [jL] none x v=.go (G t []) v1 es/\JY t:=by
 unfold aY;dsimp only;split
 ·exact⟨_,_,_,rfl,.inl ⟨rfl,rfl⟩⟩
 ·exact⟨_,_,_,rfl,.inl ⟨rfl,rfl⟩⟩
 ·exact⟨_,_,_,rfl,.inl ⟨rfl,rfl⟩⟩
 ·exact⟨_,_,_,rfl,.inl ⟨rfl,rfl⟩⟩
theorem Zf{v:af}(R:fr.mode≠.run)(hd:fr.defers=[]):(∃o v1 es,ah P true (G fr [jL]) v=.ended o v1 es)\/∃t v1 es,ah P true (G fr [jL]) v=.go (G t []) v1 es/\JY t:=by
 have e:ah P true (G fr [jL]) v=bm P true fr [jL] none v:=by
  unfold ah;simp only[G]
 rw[e];unfold bm;simp only[hd];split
 ·simp
 ·split
  ·simp
  ·rename_i ch _ _;exact .inr ⟨_,_,_,rfl,.inr ⟨ch,rfl,rfl⟩⟩
 ·split
  ·exact .inr NH
  ·generalize ay P _ v #[]=sv;obtain⟨K,H⟩:=sv;cases K with
   |ok x u=>
    obtain⟨t,v1,es,e,Y⟩:=NH (P:=P) (fr:=fr) (x:=x) (v:=u);simp only[e];exact .inr ⟨_,_,_,rfl,Y⟩
   |halt x u=>cases x<;>exact .inl ⟨_,_,_,rfl⟩
section
variable[gK]{P:aj}{main:Bool}{U:Nat->Nat->Prop}{r0:Rn}{v0 w:af}{gW:List ae}
theorem Hj{g:ae}{u:af}(m:Nat){g1:ae}(H:g.mode≠.run)(Y:g.defers=[]):runN P (m+1) (lone g [jL] u)≠.next (lone g1 [jL] u1):=by
 intro e;simp[Go.runN]at e;rcases Zf H Y with⟨o,u2,es,x⟩|⟨t,u2,es,x,D⟩
 ·rw[cV (by show(ah P _ (G g _) u).bare=_;rw[x];rfl)]at e;cases e
 ·rw[cU,dO rfl x]at e;cases m with
  |zero=>
   simp only[Go.runN,solo,lone,dH,dz]at e;have:=e.2.1;simp[G]at this
  |succ m=>
   obtain⟨o,u3,K,y⟩:=Ze D u2;simp[Go.runN]at e;rw[<-cU,cV (by show(ah P _ (G t []) u2).bare=_;rw[y];rfl)]at e;cases e
theorem Hk{Stop:ae->af->Prop}(Y:∀f v,Stop f v->f.mode≠.run/\f.defers=[])(C:∀T,∃n f1 v1,runN P n (lone f0 [jL] (tp v0 T))=.next (lone f1 [jL] v1)/\Stop f1 v1)(T:Nat->bj->Nat)(k:Nat)(f:ae)(v:af)(h:VR P k f0 [jL] (tp v0 T) f [jL] v)(A:f.mode≠.run)(hd:f.defers=[]):Stop f v:=by
 obtain⟨n,f1,v1,K,H⟩:=C T;rcases Nat.lt_trichotomy n k with R|heq|D
 ·obtain⟨a,b⟩:=Y _ _ H;obtain⟨m,rfl⟩:∃m,k=n+(m+1):=⟨k-n-1,by omega⟩;have:=h.runN;rw[bE,K]at this;exact absurd this (Hj m a b)
 ·subst heq;obtain⟨rfl,_,rfl⟩:=h.BA K;exact H
 ·obtain⟨m,rfl⟩:∃m,n=k+(m+1):=⟨n-k-1,by omega⟩;rw[bE,h.runN]at K;exact absurd K (Hj m A hd)
theorem Zg(F:lF P)(V:∀ops,¬gK.wall ops)(gi:GI r0){f:ar}{args Y:Array _}{R:a_->af->Prop}(z:∀T,Calls P f args (tp v0 T) R)(N:∀u,¬R .outgrown u)(p:gK.iz f)(G:VA r0 args Y)(hw:W r0 0 v0 w)(O:oR U r0)(M:∀a i,U a i->a<w.heap.size):
  Tr P main U (ru P U r0 (fun fr l v=>l=[jL]/\∃e,R e v/\fr.fn=f/\fr.leaving P v e) [jL] gW) (Rd r0) (Wr r0) (Frame.enter P f Y .normal) gW w:=by
 have C:∀T,∃n f1 v1,runN P n (lone (Frame.enter P f args .normal) [jL] (tp v0 T))=.next (lone f1 [jL] v1)/\∃e,R e v1/\f1.fn=f/\f1.leaving P v1 e:=by
  intro T;obtain⟨e,w',fr,D,I,A,K⟩:=z T _;cases e with
  |outgrown=>exact absurd D (N _)
  |returned x=>obtain⟨n,L⟩:=I;exact⟨n,fr,w',L,_,D,A,K⟩
  |panicked x=>obtain⟨n,L⟩:=I;exact⟨n,fr,w',L,_,D,A,K⟩
 have H:∀(fr:ae) (v:af),(∃e,R e v/\fr.fn=f/\fr.leaving P v e)->fr.mode≠.run/\fr.defers=[]:=by
  rintro fr v ⟨e,D,_,K⟩;cases e with
  |outgrown=>exact absurd D (N _)
  |returned x=>exact⟨(by rw[K.1];simp),K.2.1⟩
  |panicked x=>exact⟨(by rw[K.1];simp),K.2.1⟩
 refine tree F gi (fun T=>?_) (fun T k fr v _ B J Q=>⟨rfl,Hk H C T k fr v B J Q⟩) (fun T k f l v i ops S q _ _ _ h=>absurd h (V ops)) (FR.enter F p G (.inl rfl)) ⟨rfl,rfl⟩ hw O M;obtain⟨n,f1,v1,B,J⟩:=C T;exact⟨n,f1,[jL],v1,B,rfl,J⟩
end
end Ren
namespace Ren
open Conc
open ConcN (sumTo upd sumTo_upd upd_ne upd_same)
theorem ofEvents_g{g:Nat}{fn:ar}{es:Array _}{op:aP}(h:op∈aN g fn pos es):op.g=g:=by
 rw[bU]at h;obtain⟨e,Y,rfl⟩:=bY.1 h;rfl
def EY(a:Nat):Loc->Prop
 |.cell b=>b.block=a
 |.obj b=>b=a
 |_=>False
def jf(Z:Loc->Prop)(a:Nat):=∀l,EY a l->¬Z l
def qh(Z:Loc->Prop)(B:Nat):=∀l,Z l->l.isMemory=true/\l.low B
theorem qh.mono{B':Nat}(h:qh Z B)(H:B<=B'):qh Z B':=fun l Y=>⟨(h l Y).1,Loc.low_mono H (h l Y).2⟩
theorem qh.off{a:Nat}(h:qh Z B)(R:B<=a):jf Z a:=fun l Y D=>by
 have:=(h l D).2;cases l with
 |cell b=>have K:b.block=a:=Y;have H:b.block<B:=this;omega
 |obj b=>have K:b=a:=Y;have H:b<B:=this;omega
 |_=>exact Y
theorem agK{u:Nat}(R:∀a,S a->jf Z a/\a<w.heap.size)(A:qh Z w.heap.size)(F:w.heap.size<=u)(h:zL S X w u e):EvL Z u e:=by
 obtain⟨loc,wr,U⟩:=e;rcases h with⟨a,rfl,K,I⟩|⟨a,rfl,K,I⟩|⟨m,rfl,K⟩|rfl
 ·subst K;have D:jf Z a.block/\a.block<u:=by
   rcases I with⟨h,_⟩|h
   ·exact⟨(R _ h).1,au (R _ h).2 F⟩
   ·exact⟨A.off h.1,h.2⟩
  refine⟨fun x Y H=>?_,by simp,by simp,?_⟩
  ·simp[az,aJ]at Y;subst Y;exact absurd H (D.1 _ rfl)
  ·exact D.2
 ·subst K;have D:jf Z a/\a<u:=by
   rcases I with⟨h,_⟩|h
   ·exact⟨(R _ h).1,au (R _ h).2 F⟩
   ·exact⟨A.off h.1,h.2⟩
  refine⟨fun x Y H=>?_,by simp,by simp,?_⟩
  ·simp[az,aJ]at Y;subst Y;exact absurd H (D.1 _ rfl)
  ·simp[az];exact D.2
 ·refine⟨fun x Y H=>?_,?_,?_,?_⟩
  ·rcases K with rfl|⟨f,rfl⟩<;>simp[az,aJ]at Y
  ·rcases K with rfl|⟨f,rfl⟩<;>simp
  ·rcases K with rfl|⟨f,rfl⟩<;>simp
  ·rcases K with rfl|⟨f,rfl⟩<;>trivial
 ·refine⟨fun x Y H=>?_,by simp,by simp,trivial⟩;simp[az,aJ]at Y;subst Y;have:=(A _ H).1;cases this
section
variable{P:aj}{Z:Loc->Prop}{Done:(Nat->Prop)->(Nat->Prop)->ae->List ae->af->Prop}
theorem DD{t u:ax}(h:∀op∈t,∀a,op.act≠.mark (.release a))(k:∀op∈u,∀a,op.act≠.mark (.release a)):∀op∈t++u,∀a,op.act≠.mark (.release a):=fun op gN=>(cZ.1 gN).elim (h op) (k op)
theorem R6{u g:Nat}{fn:ar}{es:Array _}(h:∀e∈es,zL S X w u e):∀op∈aN g fn pos es,∀a,op.act≠.mark (.release a):=by
 intro op gN a0;rw[bU]at gN;obtain⟨e,H,rfl⟩:=bY.1 gN;obtain⟨loc,wr,R⟩:=e;rcases h _ H with⟨a,Y,K,_⟩|⟨a,Y,K,_⟩|⟨m,Y,h⟩|Y
 ·subst Y K;nofun
 ·subst Y K;have D:az ⟨.obj a,wr,false⟩=.access ⟨.obj a,wr,false⟩:=by cases wr<;>rfl
  simp_all
 ·subst Y;rcases h with rfl|⟨f,rfl⟩<;>nofun
 ·subst Y;nofun
theorem Q0{g:Nat}{fn:ar}{es:Array _}(h:∀e∈es,e.mute=true):∀op∈aN g fn pos es,∀a,op.act≠.mark (.release a):=by
 intro op gN a0 y;rw[bU]at gN;obtain⟨e,Y,rfl⟩:=bY.1 gN;have:=h e Y;obtain⟨loc,wr,K⟩:=e;cases loc<;>simp_all[Event.mute,az]
structure Beside(P:aj)(Z:Loc->Prop)(S:Nat->Prop)(f:ae)(l:List ae)(w:af)(gs:Array ak)(t:ax)(q:Nat->Nat):Prop where
 g0:gs[0]?=some (G f l)
 r_:Leavers P t gs q
 past:Past Z w.heap.size t
 held:∀a,S a->jf Z a/\a<w.heap.size
 nU:qh Z w.heap.size
 nr:∀op∈t,∀a,op.act≠.mark (.release a)
structure Kept(X X':Nat->Prop)(w w':af):Prop where
 kept:∀a,a<w.heap.size->¬X a->w'.heap[a]?=w.heap[a]?
 grow:w.heap.size<=w'.heap.size
 may:∀a,X' a->X a\/w.heap.size<=a
 tape:w'.tape=w.tape
 env:nH w'.os w.os
 output:w'.output=w.output
theorem Kept.refl(X:Nat->Prop)(w:af):Kept X X w w:=⟨fun _ _ _=>rfl,ao _,fun _ h=>.inl h,rfl,.refl _,rfl⟩
theorem Kept.trans{X X' Uo:Nat->Prop}{w w' zM:af}(h:Kept X X' w w')(k:Kept X' Uo w' zM):Kept X Uo w zM:=by
 refine⟨fun a Y K=>(k.kept a (au Y h.grow) fun x=>?_).trans (h.kept a Y K),aV h.grow k.grow,fun a Y=>?_,k.tape.trans h.tape,k.env.trans h.env,k.output.trans h.output⟩
 ·rcases h.may a x with y|y
  ·exact K y
  ·omega
 ·rcases k.may a Y with x|x
  ·exact h.may a x
  ·exact .inr (aV h.grow x)
theorem Did.toKept{w1:af}{es:Array _}(h:Did S X w w1 es S1 X1):Kept X X1 w w1:=⟨h.kept,h.grow,fun a Y=>((h.may a).1 Y).imp id fun x=>x.1,h.tape,h.env,h.output⟩
theorem Kept.at(w:af)(d:Nat):Kept X X w (w.at d):=⟨fun _ _ _=>rfl,ao _,fun _ h=>.inl h,rfl,.refl _,rfl⟩
theorem AU(U:Nat->Nat->Prop)(S:Nat->Prop)(w:af)(d:Nat):gU U S w (w.at d):=⟨fun _ _=>.inl rfl,ao _,.refl _⟩
theorem X4{U:Nat->Nat->Prop}(h:Tr P true U Done S X f l w):
  ∀(gs:Array ak) (sl:Option (Nat×Nat)) (t:ax) (q:Nat->Nat),Beside P Z S f l w gs t q->
   ∃(N:Nat) (I:Array ak) (f':ae) (l':List ae) (w':af) (H:Option (Nat×Nat)) (t':ax) (s:Nat->Nat) (S' X':Nat->Prop),
    aQ P N (crowd gs w sl) t=(.next (crowd I w' H),t')/\I.size=gs.size/\Done S' X' f' l' w'/\Beside P Z S' f' l' w' I t' s/\Kept X X' w w':=by
 induction h with
 |stop hd=>exact fun gs sl t q K=>⟨0,gs,_,_,_,sl,t,q,_,_,rfl,rfl,hd,K,Kept.refl _ _⟩
 |@step S X f l w ex _ ih=>
  have inner:∀(M:Nat) (gs:Array ak) (w0:af) (sl:Option (Nat×Nat)) (t:ax) (q:Nat->Nat),sumTo gs.size q=M->gU U S w w0->Beside P Z S f l w0 gs t q->
    ∃(N:Nat) (I:Array ak) (f':ae) (l':List ae) (w':af) (H:Option (Nat×Nat)) (t':ax) (s:Nat->Nat) (S' X':Nat->Prop),
     aQ P N (crowd gs w0 sl) t=(.next (crowd I w' H),t')/\I.size=gs.size/\Done S' X' f' l' w'/\Beside P Z S' f' l' w' I t' s/\Kept X X' w0 w':=by
   intro M;induction M using Nat.strongRecOn with
   |_ M Kv=>
   intro gs w0 sl t q hM hr K;have u:=K.r_;have m:=K.g0;have Kx:∀g∈gs,awake g:=by
    intro g v;obtain⟨i,B,rfl⟩:=c7.1 v;rcases dB i with rfl|R
    ·have:gs[0]=G f l:=by simpa[bG B]using m
     rw[this];exact awake_of (.inl rfl)
    ·exact awake_of ((u.old i _ R (bG B)).status.elim .inl fun x=>.inr (.inr x))
   obtain⟨i,g,d,H,B,v,gF⟩:=crowd_pick (P:=P) (w:=w0) (sl:=sl) Kx ⟨0,_,m,rfl⟩;rcases dB i with rfl|R
   ·
    obtain rfl:g=G f l:=by rw[m]at B;exact(Option.some.inj B).symm
    have qu:=hr.trans (AU U S w0 d);obtain⟨f1,l1,w1,es,S1,X1,n,hd⟩:=ex (w0.at d) qu;have D:=dL (P:=P) (sl:=H) (i:=0) B (n);have L:((gs.map (aZ P (G f l) (G f1 l1) w1)).setIfInBounds 0 (G f1 l1)).size=gs.size:=by simp
    have J:0<gs.size:=(cX.1 m).1;have Y:=hd.grow;have Q:Beside P Z S1 f1 l1 w1 ((gs.map (aZ P (G f l) (G f1 l1) w1)).setIfInBounds 0 (G f1 l1)) (t++aN 0 (G f l).frame.fn (G f l).frame.place es) q:=by
     refine⟨by simp[J],⟨fun j x C p=>?_,fun j C=>?_⟩,?_,fun a ha=>?_,K.nU.mono Y,DD K.nr (R6 hd.ev)⟩
     ·have E:0≠j:=by omega
      rw[bX E,bM]at p;obtain⟨y,hy,rfl⟩:=bQ.1 p;have W:=u.old j y C hy;rw[dP W,bO t (by omega) _ (fun op gN=>ofEvents_g gN)];exact W
     ·rw[bO t (g':=0) (by simp at C;omega) _ (fun op gN=>ofEvents_g gN)];exact u.above j (by simpa using C)
     ·exact(K.past.mono Y).own fun e he=>agK (w:=w0.at d) K.held K.nU Y (hd.ev e he)
     ·rcases(hd.held a).1 ha with x|x
      ·exact⟨(K.held a x).1,au (K.held a x).2 Y⟩
      ·exact⟨K.nU.off x.1,x.2⟩
    obtain⟨N,I,f',l',w',A,t',s,S',X',c,o,T,O,V⟩:=ih (w0.at d) f1 l1 w1 es S1 X1 qu n hd _ H _ q Q;exact⟨N+1,I,f',l',w',A,t',s,S',X',by simp only[aQ,gF,D];exact c,o.trans L,T,O,((Kept.at w0 d).trans hd.toKept).trans V⟩
   ·
    have W:=u.old i g R B;have EZ:(i==0)=false:=by simp;omega
    have J:i<gs.size:=(cX.1 B).1;cases z:q i with
    |zero=>rw[z]at W;rw[W.1]at v;cases v
    |succ k=>
     rw[z]at W;rcases W with⟨hf,_⟩|⟨_,r,es,hm,aj6,sW⟩
     ·rw[hf]at v;cases v
     have D:=dL (P:=P) (sl:=H) (i:=i) B (by rw[EZ];exact aj6 (w0.at d));have L:((gs.map (aZ P g r (w0.at d))).setIfInBounds i r).size=gs.size:=by simp
     have Tw:sumTo gs.size (upd q i k)+(k+1)=sumTo gs.size q+k:=by
      have:=sumTo_upd q k id J;simpa[z]using this
     have Q:Beside P Z S f l (w0.at d) ((gs.map (aZ P g r (w0.at d))).setIfInBounds i r) (t++aN i g.frame.fn g.frame.place es) (upd q i k):=by
      refine⟨?_,⟨fun j x C p=>?_,fun j C=>?_⟩,K.past.mute (by omega) hm,K.held,K.nU,DD K.nr (Q0 hm)⟩
      ·have E:i≠0:=by omega
       rw[bX E,bM,m];simp[woken_run (b:=G f l) rfl]
      ·by_cases F:i=j
       ·subst F;rw[Array.getElem?_setIfInBounds_self_of_lt (by simpa using J)]at p;obtain rfl:=Option.some.inj p;rw[upd_same,Deaf_own];exact sW
       ·rw[bX F,bM]at p;obtain⟨y,hy,rfl⟩:=bQ.1 p;have Up:=u.old j y C hy;rw[dP Up,upd_ne q k (Ne.symm F),bO t F _ (fun op gN=>ofEvents_g gN)];exact Up
      ·rw[bO t (g':=i) (by simp at C;omega) _ (fun op gN=>ofEvents_g gN)];exact u.above j (by simpa using C)
     obtain⟨N,I,f',l',w',A,t',s,S',X',c,o,T,O,V⟩:=Kv (sumTo gs.size (upd q i k)) (by omega) _ (w0.at d) H _ (upd q i k) (by rw[L]) (hr.trans (AU U S w0 d)) Q;exact⟨N+1,I,f',l',w',A,t',s,S',X',by simp only[aQ,gF,D];exact c,o.trans L,T,O,(Kept.at w0 d).trans V⟩
  exact fun gs sl t q K=>inner _ gs w sl t q rfl (gU.refl U S w) K
end
end Ren
namespace Ren
open Conc
section
variable{P:aj}{main:Bool}{U:Nat->Nat->Prop}{D I:(Nat->Prop)->(Nat->Prop)->ae->List ae->af->Prop}
theorem Tr.bind{l:List _}(h:Tr P main U D S X f l w)(k:∀S X f l w,D S X f l w->Tr P main U I S X f l w):Tr P main U I S X f l w:=by
 induction h with
 |stop hd=>exact k _ _ _ _ _ hd
 |step ex _ Y=>exact .step ex fun w2 f1 l1 w1 es S1 X1 hr e hd=>Y w2 f1 l1 w1 es S1 X1 hr e hd
end
section
variable[gK]{P:aj}{main:Bool}{U:Nat->Nat->Prop}{r0:Rn}{v0 w:af}
def Tx(U:Nat->Nat->Prop)(r0:Rn)(R:a_->af->Prop)(c:ae)(cs:List ae)(S X:Nat->Prop)(f':ae)(l':List _)(w:af):=
 l'=cs/\∃r v x x',Le r0 r/\V r x x'/\f'=c.finish x'/\W r 0 v w/\S=Rd r/\X=Wr r/\R (.returned x) v/\oR U r/\∀a i,U a i->a<w.heap.size
theorem H2(F:lF P)(p:∀l,¬gK.jm l){f:ar}{R:a_->af->Prop}(M:∀e u,R e u->∃x,e=.returned x){c:ae}
  (h:ru P U r0 (fun fr l v=>l=[jL]/\∃e,R e v/\fr.fn=f/\fr.leaving P v e) [jL] (c::cs) S X f' l' w):Tr P main U (Tx U r0 R c cs) S X f' l' w:=by
 obtain⟨r,n,fr,l,v,Q,A,Z,hw,rfl,rfl,⟨rfl,e,q,k,hl⟩,H,K⟩:=h;obtain⟨rfl,rfl⟩:=Z.R5;obtain⟨x,rfl⟩:=M e v q;obtain⟨hm,hd,hk,fn,j,C⟩:=hl;have T:f'.mode=.returning:=by
  have:=A.mode;rw[hm]at this;generalize f'.mode=m at this;cases this;rfl
 have N:f'.defers=[]:=by
  have:=A.defers;rw[hd]at this;generalize f'.defers=m at this;cases this with
  |nil=>rfl
  |rest _ h=>exact absurd h (p _)
 have O:=A.kind.trans hk;have B:P.funcs[f'.fn]?=some fn:=by rw[A.fn];omega
 have one:∀w2,gU U (Rd r) w w2->∃r1 x' w1 es,Le r r1/\V r1 x x'/\W r1 0 v w1/\ah P main (G f' (c::cs)) w2=.go (G (c.finish x') cs) w1 es/\Did (Rd r) (Wr r) w2 w1 es (Rd r1) (Wr r1)/\oR U r1:=by
  intro w2 hr;have J:=hw.rely H hr;have run:=(Og (fn:=fn) A.tmps).run F.sC #[] J;rw[C]at run;generalize E:ay P _ w2 #[]=sw at run;cases run with
  |lM a b=>simp only[Result.world]at a;omega
  |@ok _ x' _ w1 fs r1 c1 o hx t=>
   have s:c1=0:=by have:=o.drew;omega
   subst s;have I:oR U r1:=by
    intro b b' i e L;rcases o.fresh b b' e with y|y
    ·exact H b b' i y L
    ·have:=K b' i L;have:=hr.grow;omega
   refine⟨r1,x',w1,_,o.le,hx,o.wl,?_,o.did J (p_ (P:=P) (fn:=f'.fn) t),I⟩;unfold ah;simp only[G];unfold bm;simp only[N,T,B,E];unfold aY;simp only[O,aU];simp
 refine .step (fun w2 hr=>?_) fun w2 f1 l1 w1 es S1 X1 hr e Y=>?_
 ·obtain⟨r1,x',w1,es,_,_,_,e,Y,_⟩:=one w2 hr;exact⟨_,_,w1,es,_,_,e,Y⟩
 ·obtain⟨r1,x',w1',iK,z,d,g,e',D,I⟩:=one w2 hr;rw[e]at e';cases e';obtain⟨rfl,rfl⟩:=Y.same D;exact .stop ⟨rfl,r1,v,x,x',Q.trans z,d,rfl,g,rfl,rfl,q,I,fun a i L=>au (K a i L) (aV hr.grow Y.grow)⟩
theorem aaD(F:lF P)(O:∀ops,¬gK.wall ops)(N:∀l,¬gK.jm l)(gi:GI r0){f:ar}{args Y:Array _}{R:a_->af->Prop}(G:∀T,Calls P f args (tp v0 T) R)(H:∀e u,R e u->∃x,e=.returned x)(z:gK.iz f)(V:VA r0 args Y)(hw:W r0 0 v0 w)(M:oR U r0)(A:∀a i,U a i->a<w.heap.size)(c:ae)(cs:List _):
  Tr P main U (Tx U r0 R c cs) (Rd r0) (Wr r0) (Frame.enter P f Y .normal) (c::cs) w:=
 (Zg F O gi G (fun u h=>by obtain⟨x,e⟩:=H _ _ h;cases e) z V hw M A).bind fun S X f' l' w' h=>H2 F N H h
end
section
variable[gK]{P:aj}{main:Bool}{U:Nat->Nat->Prop}{r0:Rn}{v0 w:af}
def tS:List Item:=[.code (.refuse "")]
def P3(b:ae)(R:Act->af->Prop)(f:ae)(l:List _)(v:af):=l=[jL]/\∃a,f=b.at a tS/\R a v
theorem Oi(F:lF P)(N:∀ops,¬gK.wall ops)(gi:GI r0){c:Code}{b:ae}{a:Act}{R:Act->af->Prop}(V:∀T,Code.wp P c (fun e a' v'=>e=.normal/\R a' v') a (tp v0 T))
  (O:b.kind=.normal)(z:mb P false c){gW:List _}(G:FR P r0 true (b.at a (.code c::tS)) f')(hw:W r0 0 v0 w)(M:oR U r0)(A:∀a i,U a i->a<w.heap.size):
  Tr P main U (ru P U r0 (P3 b R) [jL] gW) (Rd r0) (Wr r0) f' gW w:=by
 have C:∀T,∃n a' v1,runN P n (lone (b.at a (.code c::tS)) [jL] (tp v0 T))=.next (lone (b.at a' tS) [jL] v1)/\R a' v1:=by
  intro T;obtain⟨e,a',v1,⟨rfl,K⟩,n,Y⟩:=V T b _ _;exact⟨n,a',v1,Y,K⟩
 refine tree F gi (fun T=>?_) (fun T k f v L D B J=>?_) (fun T k f l v i ops S q _ _ _ h=>absurd h (N ops)) G ⟨rfl,O⟩ hw M A
 ·obtain⟨n,a',v1,Y,K⟩:=C T;exact⟨n,_,_,v1,Y,rfl,a',rfl,K⟩
 ·exfalso;obtain⟨n,a',v1,Y,K⟩:=C T;rcases cw k n with Q|H
  ·obtain⟨m,rfl⟩:∃m,n=k+(m+1):=⟨n-k-1,by omega⟩;rw[bE,D.runN]at Y;exact Hj m B J Y
  ·obtain⟨g,l2,u,I⟩:=D.pre n H;obtain⟨rfl,rfl,rfl⟩:=I.BA Y;exact L n _ _ _ H I ⟨rfl,a',rfl,K⟩
theorem O0{b:ae}{R:Act->af->Prop}(H:∀k,gK.rest k->k=kr)(h:ru P U r0 (P3 b R) [jL] gW S X f' l' w):
  l'=gW/\∃r a v,Le r0 r/\W r 0 v w/\S=Rd r/\X=Wr r/\R a v/\oR U r/\(∀a i,U a i->a<w.heap.size)/\VA r a.tmps f'.tmps/\f'.fn=b.fn/\f'.kind=b.kind/\f'.mode=.run/\f'.roundOf=none/\f'.todo=kr/\DB r true a.defers f'.defers:=by
 obtain⟨r,n,f,l,v,I,Y,C,hw,K,D,⟨rfl,a,rfl,A⟩,F,B⟩:=h;obtain⟨rfl,rfl⟩:=C.R5;refine⟨rfl,r,a,v,I,hw,K,D,A,F,B,Y.tmps,Y.fn,Y.kind,?_,?_,?_,Y.defers⟩
 ·have:=Y.mode;simp only[Frame.at]at this;generalize f'.mode=m at this;cases this;rfl
 ·have:=Y.round;simp only[Frame.at]at this;generalize f'.roundOf=m at this;cases this;rfl
 ·have:=Y.todo;simp only[Frame.at,tS]at this;generalize f'.todo=m at this;cases this with
  |rest _ _ h _=>exact H _ h
  |cons a _=>
   cases a with
   |code h=>exact absurd rfl h
end
def At(P:aj)(Z:Loc->Prop)(f:ae)(l:List _)(w:af)(m:bB)(t:ax):=
 ∃gs sl q,m=crowd gs w sl/\Beside P Z (fun _=>False) f l w gs t q
abbrev QT:=(Loc->Prop)->ae->List ae->af->Prop
def gL(P:aj)(Q:QT)(Z:Loc->Prop)(f:ae)(l:List ae)(w:af):Prop:=
 ∀m t,At P Z f l w m t->∃N m' t' Z' f' l' w',aQ P N m t=(.next m',t')/\At P Z' f' l' w' m' t'/\Q Z' f' l' w'
theorem runNT_add(P:aj):∀a b m Y t t1,aQ P a m t=(.next Y,t1)->aQ P (a+b) m t=aQ P b Y t1
 |0,b,m,Y,t,t1,h=>by
  cases h;simp_all
 |a+1,b,m,Y,t,t1,h=>by
  rw[show a+1+b=(a+b)+1 by omega];simp[aQ]at h⊢;cases K:stepT P m with
  |mk s ops=>
   rw[K]at h;cases s with
   |next H=>exact runNT_add P a b H Y _ t1 h
   |ended o w=>cases h
section
variable{P:aj}{Q Q1:QT}{Z:Loc->Prop}{f:ae}{l:List ae}{w:af}
theorem gL.done(h:Q Z f l w):gL P Q Z f l w:=fun m t Y=>⟨0,m,t,Z,f,l,w,rfl,Y,h⟩
theorem gL.tree{Done:(Nat->Prop)->(Nat->Prop)->ae->List _->af->Prop}{U:Nat->Nat->Prop}(h:Tr P true U Done S X f l w)(M:∀a,S a->jf Z a/\a<w.heap.size)
  (k:∀S' X' f' l' w',Done S' X' f' l' w'->Kept X X' w w'->gL P Q Z f' l' w'):gL P Q Z f l w:=by
 rintro m t ⟨gs,sl,q,rfl,K⟩;obtain⟨N,I,f',l',w',R,t',O,S',X',hr,T,C,Y,F⟩:=X4 h gs sl t q ⟨K.g0,K.r_,K.past,M,K.nU,K.nr⟩;obtain⟨A,L,t2,B,f2,l2,w2,J,H,D⟩:=k S' X' f' l' w' C F _ t' ⟨I,R,O,rfl,Y.g0,Y.r_,Y.past,(fun a h=>h.elim),Y.nU,Y.nr⟩;exact⟨N+A,L,t2,B,f2,l2,w2,by rw[runNT_add P N A _ _ _ _ hr];omega,H,D⟩
end
section
variable[gK]{P:aj}{Q:QT}{Z:Loc->Prop}{w:af}
theorem gL.call(F:lF P)(N:∀ops,¬gK.wall ops)(M:∀l,¬gK.jm l){r0:Rn}(gi:GI r0){f:ar}{args Y:Array _}{R:a_->af->Prop}(G:∀T,Calls P f args (tp v0 T) R)(H:∀e u,R e u->∃x,e=.returned x)(z:gK.iz f)(A:VA r0 args Y)(hw:W r0 0 v0 w){c:ae}{cs:List _}
  (O:∀a,Rd r0 a->jf Z a)
  (k:∀r v x x' w',Le r0 r->V r x x'->W r 0 v w'->R (.returned x) v->Kept (Wr r0) (Wr r) w w'->gL P Q Z (c.finish x') cs w'):gL P Q Z (Frame.enter P f Y .normal) (c::cs) w:=by
 refine gL.tree (U:=fun _ _=>False) (aaD F N M gi G H z A hw (fun _ _ _ _ h=>h.elim) (fun _ _ h=>h.elim) c cs) (fun a A=>⟨O a A,?_⟩) ?_
 ·obtain⟨b,J⟩:=A;exact(hw.lt J).2
 ·rintro S' X' f' l' w' ⟨rfl,r,v,x,x',K,D,rfl,I,rfl,rfl,B,_⟩ C;exact k r v x x' w' K D I B C
end
section
variable[gK]
open Classical in
def mq (K:Nat->Prop):Rn where
 f b:=if K b then some b else none
 inj b b' c h h':=by
  split at h
  ·split at h'
   ·cases h;cases h';rfl
   ·cases h'
  ·cases h
 jo b c h:=by
  split at h
  ·cases h;exact Iff.rfl
  ·cases h
open Classical in
theorem rp{K:Nat->Prop}{b:Nat}(h:K b):mq K b=some b:=by
 show(if K b then some b else none)=_
 simp_all
open Classical in
theorem wW{K:Nat->Prop}{b c:Nat}:mq K b=some c↔K b/\b=c:=by
 show(if K b then some b else none)=some c↔_
 simp_all
theorem xf{K:Nat->Prop}{a:Nat}:Rd (mq K) a↔K a:=⟨(fun⟨b,Y⟩=>by obtain⟨h,rfl⟩:=wW.1 Y;exact h),fun h=>⟨a,rp h⟩⟩
theorem Iv{K:Nat->Prop}{a:Nat}:Wr (mq K) a↔K a/\¬gK.ro a:=⟨(fun⟨b,Y,H⟩=>by obtain⟨h,rfl⟩:=wW.1 Y;simp_all),fun h=>⟨a,rp h.1,h.2⟩⟩
theorem IZ(Y:∀b,¬gK.ro b)(R:gK.size<=w.heap.size)(h:∀b,K b->∃o,w.heap[b]?=some o/\O (mq K) o o):W (mq K) 0 w w:=by
 refine⟨fun b b' e=>?_,R,R,fun b I=>absurd I (Y b),fun i q A=>by omega,rfl⟩;obtain⟨hk,rfl⟩:=wW.1 e;obtain⟨o,H,D⟩:=h b hk;exact⟨o,o,H,H,.same (Y b) D⟩
theorem DG{r:Rn}{c:Array _}(e:aH)(fz:Nat×Nat)(h:∀x∈c,V r x x):O r (.cells c e fz) (.cells c e fz):=.cells e fz ⟨rfl,fun i x x' e e'=>by
 obtain rfl:=Option.some.inj (e.symm.trans e');exact h x (bN e)⟩
end
theorem Oj(P:aj):∀n m Y t t1,aQ P n m t=(.next Y,t1)->runN P n m=.next Y
 |0,m,Y,t,t1,h=>by
  cases h;rfl
 |n+1,m,Y,t,t1,h=>by
  simp[aQ]at h;simp[Go.runN,step];cases K:stepT P m with
  |mk s ops=>
   rw[K]at h;cases s with
   |next H=>exact Oj P n H Y _ t1 h
   |ended o w=>cases h
def Ends(P:aj)(Y:ai->af->Prop)(Z:Loc->Prop)(f:ae)(l:List _)(w:af):=∀w1,AtRel w w1->AtEnd P Z w.heap.size Y (G f l) w1
theorem gL.close{Y:ai->af->Prop}{W:af}(h:gL P (Ends P Y) (fun _=>False) f [] W):
  ∃M last o w' t',aQ P (M+1) (solo (G f []) W) #[]=(.ended o w',t')/\runN P M (solo (G f []) W)=.next last/\step P last=.ended o w'/\Conc.Good P Y last o w' t':=by
 have B:Past (fun _=>False) W.heap.size #[]:=past_nil.mono (cL _);obtain⟨N,m',t',Z',f',l',w',hr,⟨gs,sl,q,rfl,K⟩,U⟩:=h (solo (G f []) W) #[] ⟨#[G f []],none,fun _=>0,rfl,rfl,leavers_one P _,B,(fun a h=>h.elim),(fun a h=>h.elim),by simp⟩;obtain⟨M,last,o,w2,t2,H,R,I,A⟩:=beside_ends (D:=fun _ _ _=>False) (n:=0) (sl:=sl) (fun _ _ _ h=>h.elim) K.g0 K.r_ K.past U;exact⟨N+M,last,o,w2,t2,by rw[show N+M+1=N+(M+1) by omega,runNT_add P N (M+1) _ _ _ _ hr];exact H,by rw[bE,Oj P N _ _ _ _ hr];exact R,I,A⟩
theorem O1{b:ae}{a:Act}{c:Code}{fn:Func}{R:a_->af->Prop}(A:P.funcs[b.fn]?=some fn)(hk:b.kind=.normal)(F:∀u,¬R .outgrown u)(h:c.wp P (cz P fn R) a w)(cs:List _):
  ∃n fr w' e,runN P n (lone (b.at a [.code c]) cs w)=.next (lone fr cs w')/\R e w'/\fr.fn=b.fn/\fr.leaving P w' e:=by
 obtain⟨e,a',w',K,Y⟩:=h b [] cs;cases e with
 |normal=>
  obtain⟨hd,v,hr,H⟩:=K;obtain⟨n,D⟩:=Steps.trans Y (.one step_end);exact⟨n,_,w',.returned v,D,H,rfl,rfl,hd,hk,fn,A,hr⟩
 |ret=>
  obtain⟨hd,v,hr,H⟩:=K;obtain⟨todo,n,D⟩:=Y;exact⟨n,_,w',.returned v,D,H,rfl,rfl,hd,hk,fn,A,hr⟩
 |panic chain=>
  obtain⟨hd,H⟩:=K;obtain⟨todo,n,D⟩:=Y;exact⟨n,_,w',.panicked _,D,H,rfl,rfl,hd,fn,A⟩
 |exit id=>exact K.elim
 |goto l=>exact K.elim
 |outgrown=>exact absurd K (F _)
section
variable[gK]{P:aj}{main:Bool}{U:Nat->Nat->Prop}{r0:Rn}{v0 w:af}{gW:List ae}
theorem aaE(F:lF P)(V:∀ops,¬gK.wall ops)(gi:GI r0){b:ae}{a:Act}{c:Code}{fn:Func}{R:a_->af->Prop}(O:P.funcs[b.fn]?=some fn)(hk:b.kind=.normal)(G:∀T,c.wp P (cz P fn R) a (tp v0 T))(M:∀u,¬R .outgrown u)(z:FR P r0 true (b.at a [.code c]) f')(hw:W r0 0 v0 w)(N:oR U r0)(A:∀a i,U a i->a<w.heap.size):
  Tr P main U (ru P U r0 (fun fr l v=>l=[jL]/\∃e,R e v/\fr.fn=b.fn/\fr.leaving P v e) [jL] gW) (Rd r0) (Wr r0) f' gW w:=by
 have C:∀T,∃n f1 v1,runN P n (lone (b.at a [.code c]) [jL] (tp v0 T))=.next (lone f1 [jL] v1)/\∃e,R e v1/\f1.fn=b.fn/\f1.leaving P v1 e:=by
  intro T;obtain⟨n,fr,w',e,J,I,K,H⟩:=O1 O hk M (G T) _;exact⟨n,fr,w',J,e,I,K,H⟩
 have Y:∀(fr:ae) (v:af),(∃e,R e v/\fr.fn=b.fn/\fr.leaving P v e)->fr.mode≠.run/\fr.defers=[]:=by
  rintro fr v ⟨e,I,_,D⟩;cases e with
  |outgrown=>exact absurd I (M _)
  |returned x=>exact⟨(by rw[D.1];simp),D.2.1⟩
  |panicked x=>exact⟨(by rw[D.1];simp),D.2.1⟩
 refine tree F gi (fun T=>?_) (fun T k fr v _ K H B=>⟨rfl,Hk Y C T k fr v K H B⟩) (fun T k f l v i ops L q _ _ _ h=>absurd h (V ops)) z ⟨rfl,hk⟩ hw N A;obtain⟨n,f1,v1,K,H⟩:=C T;exact⟨n,f1,[jL],v1,K,rfl,H⟩
end
section
variable[gK]{P:aj}{Q:QT}{Z:Loc->Prop}{w:af}
theorem gL.rest(F:lF P)(N:∀ops,¬gK.wall ops)(M:∀l,¬gK.jm l){r0:Rn}(gi:GI r0){b:ae}{a:Act}{c:Code}{fn:Func}{R:a_->af->Prop}(H:P.funcs[b.fn]?=some fn)(hk:b.kind=.normal)(G:∀T,c.wp P (cz P fn R) a (tp v0 T))(Y:∀e u,R e u->∃x,e=.returned x)(z:FR P r0 true (b.at a [.code c]) f')(hw:W r0 0 v0 w){c0:ae}{cs:List _}
  (O:∀a,Rd r0 a->jf Z a)
  (k:∀r v x x' w',Le r0 r->V r x x'->W r 0 v w'->R (.returned x) v->Kept (Wr r0) (Wr r) w w'->gL P Q Z (c0.finish x') cs w'):gL P Q Z f' (c0::cs) w:=by
 have D:=aaE (main:=true) (U:=fun _ _=>False) (gW:=c0::cs) F N gi H hk G (fun u h=>by obtain⟨x,e⟩:=Y _ _ h;cases e) z hw (fun _ _ _ _ h=>h.elim) (fun _ _ h=>h.elim);refine gL.tree (D.bind fun S X f' l' w' h=>H2 F M Y h) (fun a K=>⟨O a K,?_⟩) ?_
 ·obtain⟨b,L⟩:=K;exact(hw.lt L).2
 ·rintro S' X' f' l' w' ⟨rfl,r,v,x,x',I,A,rfl,B,rfl,rfl,C,_⟩ J;exact k r v x x' w' I A B C J
end
theorem X5{b:ae}{a:Act}{c:Code}{fn:Func}{ops:Array _}{l:List Nat}{R:a_->af->Prop}(A:P.funcs[b.fn]?=some fn)(hk:b.kind=.normal)(H:∀u,¬R .outgrown u)(h:wpOps P ops (fun e a' w'=>e=.normal/\c.wp P (cz P fn R) a' w') l a w)(cs:List _):
  ∃n fr w' e,runN P n (lone (b.at a [.inRegion ops l,.code c]) cs w)=.next (lone fr cs w')/\R e w'/\fr.fn=b.fn/\fr.leaving P w' e:=by
 obtain⟨e,a',w',⟨rfl,K⟩,n1,Y⟩:=wp_ops l a w h b _ cs;obtain⟨n,fr,w2,e,D,r⟩:=O1 A hk H K cs;exact⟨n1+n,fr,w2,e,by rw[bE,Y];exact D,r⟩
section
variable[gK]{P:aj}{Q:QT}{Z:Loc->Prop}{w:af}
theorem gL.lone(F:lF P)(G:∀ops,¬gK.wall ops)(M:∀l,¬gK.jm l){r0:Rn}(gi:GI r0){b:ae}{a:Act}{E0:List _}{fn:Func}{R:a_->af->Prop}(s:P.funcs[b.fn]?=some fn)(hk:b.kind=.normal)(hc:∀T,∃n fr w' e,runN P n (Go.lone (b.at a E0) [jL] (tp v0 T))=.next (Go.lone fr [jL] w')/\R e w'/\fr.fn=b.fn/\fr.leaving P w' e)(Y:∀e u,R e u->∃x,e=.returned x)(p:FR P r0 true (b.at a E0) f')(hw:W r0 0 v0 w){c0:ae}{cs:List _}
  (z:∀a,Rd r0 a->jf Z a)
  (k:∀r v x x' w',Le r0 r->V r x x'->W r 0 v w'->R (.returned x) v->Kept (Wr r0) (Wr r) w w'->gL P Q Z (c0.finish x') cs w'):gL P Q Z f' (c0::cs) w:=by
 have U:∀u,¬R .outgrown u:=fun u h=>by obtain⟨x,e⟩:=Y _ _ h;cases e
 have C:∀T,∃n f1 v1,runN P n (Go.lone (b.at a E0) [jL] (tp v0 T))=.next (Go.lone f1 [jL] v1)/\∃e,R e v1/\f1.fn=b.fn/\f1.leaving P v1 e:=by simp_all
 have K:∀(fr:ae) (v:af),(∃e,R e v/\fr.fn=b.fn/\fr.leaving P v e)->fr.mode≠.run/\fr.defers=[]:=by
  rintro fr v ⟨e,O,_,I⟩;cases e with
  |outgrown=>exact absurd O (U _)
  |returned x=>exact⟨(by rw[I.1];simp),I.2.1⟩
  |panicked x=>exact⟨(by rw[I.1];simp),I.2.1⟩
 have J:Tr P true (fun _ _=>False) (ru P (fun _ _=>False) r0 (fun fr l v=>l=[jL]/\∃e,R e v/\fr.fn=b.fn/\fr.leaving P v e) [jL] (c0::cs)) (Rd r0) (Wr r0) f' (c0::cs) w:=by
  refine Ren.tree F gi (fun T=>?_) (fun T k fr v _ H D A=>⟨rfl,Hk K C T k fr v H D A⟩) (fun T k f l v i ops j q _ _ _ h=>absurd h (G ops)) p ⟨rfl,hk⟩ hw (fun _ _ _ _ h=>h.elim) (fun _ _ h=>h.elim);obtain⟨n,f1,v1,H,D⟩:=C T;exact⟨n,f1,[jL],v1,H,rfl,D⟩
 refine gL.tree (J.bind fun S X f' l' w' h=>H2 F M Y h) (fun a B=>⟨z a B,?_⟩) ?_
 ·obtain⟨b,E⟩:=B;exact(hw.lt E).2
 ·rintro S' X' f' l' w' ⟨rfl,r,v,x,x',H,D,rfl,A,rfl,rfl,L,_⟩ N;exact k r v x x' w' H D A L N
end
end Ren
namespace Ph
open Conc Ren
structure kz(U:Nat->Nat->Prop)(S X:Nat->Prop)(w w1:af)(es:Array aT)(S1 X1:Nat->Prop):Prop extends Did S X w w1 es S1 X1 where
 Ky:∀e∈es,∀a:Addr,e.loc=.cell a->¬U a.block a.off
inductive Tz(P:aj)(main:Bool)(U:Nat->Nat->Prop)(Done:(Nat->Prop)->(Nat->Prop)->ak->af->Prop):(Nat->Prop)->(Nat->Prop)->ak->af->Prop
 |stop {S X:Nat->Prop} {g:ak} {w:af}:Done S X g w->Tz P main U Done S X g w
 |step {S X:Nat->Prop} {g:ak} {w:af}:g.status=.running->(∀w2,gU U S w w2->∃g1 w1 es S1 X1,ah P main g w2=.go g1 w1 es/\kz U S X w2 w1 es S1 X1)->
   (∀w2 g1 w1 es S1 X1,gU U S w w2->ah P main g w2=.go g1 w1 es->kz U S X w2 w1 es S1 X1->Tz P main U Done S1 X1 g1 w1)->Tz P main U Done S X g w
section
variable{P:aj}{main:Bool}{U:Nat->Nat->Prop}{D I:(Nat->Prop)->(Nat->Prop)->ak->af->Prop}{S X S1 X1 S2 X2:Nat->Prop}{g:ak}{f:ae}{l:List ae}{w w1 w2 w3:af}{es:Array aT}
theorem Tz.bind(h:Tz P main U D S X g w)(k:∀S X g w,D S X g w->Tz P main U I S X g w):Tz P main U I S X g w:=by
 induction h with
 |stop hd=>exact k _ _ _ _ hd
 |step Y ex _ K=>exact .step Y ex fun w2 g1 w1 es S1 X1 hr e hd=>K w2 g1 w1 es S1 X1 hr e hd
theorem Tz.one(A:g.status=.running)(h:∀w2,gU U S w w2->∃g1 w1 es S1 X1,ah P main g w2=.go g1 w1 es/\kz U S X w2 w1 es S1 X1/\Tz P main U D S1 X1 g1 w1):Tz P main U D S X g w:=by
 refine .step A (fun w2 hr=>?_) fun w2 g1 w1 es S1 X1 hr e hd=>?_
 ·obtain⟨g1,w1,es,S1,X1,e,hd,_⟩:=h w2 hr;exact⟨g1,w1,es,S1,X1,e,hd⟩
 ·obtain⟨R,B,iK,K,H,e',Y,I⟩:=h w2 hr;rw[e]at e';cases e';obtain⟨rfl,rfl⟩:=hd.toDid.same Y.toDid;exact I
theorem P4{u:Nat}(h:zL S X w u e):zL (fun a=>S a\/SF a) (fun a=>X a\/XF a) w u e:=by
 rcases h with⟨a,Y,K,H⟩|⟨a,Y,K,H⟩|h
 ·exact .inl ⟨a,Y,K,H.imp (fun y=>⟨.inl y.1,fun z=>.inl (y.2 z)⟩) id⟩
 ·exact .inr (.inl ⟨a,Y,K,H.imp (fun y=>⟨.inl y.1,fun z=>.inl (y.2 z)⟩) id⟩)
 ·exact .inr (.inr h)
theorem Tz.of{F:(Nat->Prop)->(Nat->Prop)->ae->List ae->af->Prop}(h:Tr P main U F S X f l w)(M:∀a i,U a i->a<w.heap.size/\¬S a)(k:∀S X f l w,F S X f l w->Tz P main U I (fun a=>S a\/SF a) (fun a=>X a\/XF a) (G f l) w):
  Tz P main U I (fun a=>S a\/SF a) (fun a=>X a\/XF a) (G f l) w:=by
 induction h with
 |stop hd=>exact k _ _ _ _ _ hd
 |@step S X f l w ex _ O=>
  have C:∀{w2:af},gU U (fun a=>S a\/SF a) w w2->gU U S w w2:=fun hr=>⟨fun a H=>hr.kept a (.inl H),hr.grow,hr.env⟩;refine Tz.one rfl fun w2 hr=>?_;obtain⟨f1,l1,w1,es,S1,X1,e,hd⟩:=ex w2 (C hr);refine⟨_,w1,es,_,_,e,⟨⟨fun a H N=>hd.kept a H fun y=>N (.inl y),hd.grow,fun a=>?_,fun a=>?_,fun e D=>P4 (hd.ev e D),hd.tape,hd.env,hd.output⟩,fun e D a R A=>?_⟩,O w2 f1 l1 w1 es S1 X1 (C hr) e hd fun a i A=>?_⟩
  ·rw[hd.held];constructor
   ·rintro((y|y)|y)
    ·exact .inl (.inl y)
    ·exact .inr y
    ·exact .inl (.inr y)
   ·rintro((y|y)|y)
    ·exact .inl (.inl y)
    ·exact .inr y
    ·omega
  ·rw[hd.may];constructor
   ·rintro((y|y)|y)
    ·exact .inl (.inl y)
    ·omega
    ·exact .inl (.inr y)
   ·rintro((y|y)|y)
    ·exact .inl (.inl y)
    ·exact .inr y
    ·omega
  ·have K:=M _ _ A;have J:=hr.grow;rcases hd.ev e D with⟨a',Y,_,B⟩|⟨a',Y,_⟩|⟨m,Y,_⟩|Y
   ·rw[R]at Y;cases Y;rcases B with y|y
    ·exact K.2 y.1
    ·omega
   ·simp_all
   ·rw[R]at Y;cases Y
   ·rw[R]at Y;cases Y
  ·have K:=M a i A;have J:=hr.grow;have B:=hd.grow;refine⟨by omega,fun L=>?_⟩;rcases(hd.held a).1 L with y|y
   ·exact K.2 y
   ·omega
theorem js{U:Nat->Nat->Prop}(S X:Nat->Prop)(w:af):kz U S X w w #[] S X:=
 ⟨⟨fun _ _ _=>rfl,ao _,fun a=>⟨.inl,fun h=>h.resolve_right fun y=>by omega⟩,fun a=>⟨.inl,fun h=>h.resolve_right fun y=>by omega⟩,fun e Y=>by simp_all,rfl,.refl _,rfl⟩,fun e Y=>by simp_all⟩
end
def kE{α:Type}(P:aj):Sem α->Option α
 |.pure a=>some a
 |.program k=>kE P (k P)
 |_=>none
theorem Iw{α:Type}:∀{s:Sem α} {a:α},kE P s=some a->∀w es,s.runT P w es=(.ok a w,es)
 |.pure b,a,h,w,es=>by
  simp[kE,br]at h;simp_all
 |.program k,a,h,w,es=>by
  simp[kE]at h;exact Iw h w es
 |.load _ _ _,a,h,w,es|.store _ _ _ _,a,h,w,es|.new _ _,a,h,w,es|.shape _ _,a,h,w,es|.freeze _ _ _,a,h,w,es|.frozen _ _,a,h,w,es|.getObj _ _,a,h,w,es|.setObj _ _ _,a,h,w,es|.choose _ _,a,h,w,es|.sys _ _,a,h,w,es|.mark _ _,a,h,w,es|.halt _,a,h,w,es=>by simp[kE]at h
theorem oe{α:Type}{s:Sem α}{a:α}(h:kE P s=some a)(w:af):s.run P w=.ok a w:=by
 have:=Iw h w #[];simp_all
theorem sd{α:Type}{s:Sem α}{a:α}(h:kE P s=some a)(w:af)(es:Array _):s.events P w es=es:=by
 have:=Iw h w es;simp_all
def pop(P:aj)(f:ae)(l:List ae)(s:Sem Next):Option (ae×List ae):=
 match kE P s with
 |some (.value v)=>some (f.finish v,l)
 |some .skip=>some (f.finish aM,l)
 |some (.enter g args)=>some (Frame.enter P g args .normal,f::l)
 |some (.defer d)=>some (({f with defers:=d::f.defers}:ae).finish aM,l)
 |_=>none
def prun(P:aj)(f:ae)(l:List _):=
 match f.todo with
 |.code .skip::k|.code (.label _)::k|.inBlock _::k|.inScope _::k=>some ({f with todo:=k},l)
 |.code (.seq a b)::k=>some ({f with todo:=.code a:: .code b::k},l)
 |.code (.cond c a b)::k=>match f.eval c with
  |.bool t=>some ({f with todo:=.code (if t then a else b)::k},l)
  |_=>none
 |.code (.block id c)::k=>some ({f with todo:=.code c:: .inBlock id::k},l)
 |.code (.loop c)::k|.inLoop c::k=>some ({f with todo:=.code c:: .inLoop c::k},l)
 |.code (.exit id)::k=>match exitTo id k with
  |some k'=>some ({f with todo:=k'},l)
  |none=>none
 |.code .ret::_|[]=>some ({f with mode:=.returning},l)
 |.code (.region _ ops false)::k=>some ({f with todo:=.inRegion ops (aX ops.size)::k},l)
 |.inRegion _ []::k=>some ({f with todo:=k},l)
 |.inRegion ops (i::_)::_=>match ops[i]? with
  |some o=>if cy o (bF ops f.tmps)then pop P f l (aW f.eval o)else some (f.finish aM,l)
  |none=>none
 |_=>none
def JZ(P:aj)(f:ae)(l:List ae):=
 match f.defers with
 |[]=>match l with
  |c::l'=>match f.kind with
   |.normal=>match P.funcs[f.fn]? with
    |some fn=>match kE P (bV fn f.tmps)with
     |some v=>some (c.finish v,l')
     |none=>none
    |none=>none
   |.deferred=>match P.funcs[f.fn]?,c.mode with
    |some fn,.returning=>match kE P (bV fn f.tmps)with
     |some v=>some (c,l')
     |none=>none
    |_,_=>none
   |_=>none
  |[]=>none
 |d::Y=>match d.target with
  |.fn fn c=>match kE P (invoke (.fn fn c) d.args)with
   |some (.enter g args)=>some (Frame.enter P g args .deferred,{f with defers:=Y}::l)
   |_=>none
  |_=>none
def oB(P:aj)(f:ae)(l:List _):=
 match f.roundOf,f.kind with
 |some _,_|_,.early=>none
 |none,_=>match f.mode with
  |.run=>prun P f l
  |.returning=>JZ P f l
  |_=>none
def gS(P:aj):Nat->ae->List ae->ae×List ae
 |0,f,l=>(f,l)
 |n+1,f,l=>match oB P f l with
  |some (f1,l1)=>gS P n f1 l1
  |none=>(f,l)
section
variable{P:aj}{main:Bool}{f f1:ae}{l l1:List ae}{w:af}
theorem aaF{s:Sem _}(hk:f.kind≠.early)(h:pop P f l s=some (f1,l1))(H:∃ops is k,f.todo=.inRegion ops is::k):
  stepG.apply P true f l none s w=.go (G f1 l1) w #[]:=by
 obtain⟨ops,is,k,K⟩:=H;unfold pop at h;have Y:=by omega
 split at h
 ·rename_i v e;cases h;simp[stepG.apply,oe e,sd e,G,aU,bk]
 ·rename_i e;cases h;simp[stepG.apply,oe e,sd e,G,aU,bk]
 ·rename_i g args e;cases h;simp[stepG.apply,oe e,sd e,K,G,aU,bk]
 ·rename_i d e;cases h;simp[stepG.apply,oe e,sd e,G,aU,bk]
 ·cases h
theorem Ol(hr:f.roundOf=none)(hk:f.kind≠.early)(Y:f.mode=.run)(h:prun P f l=some (f1,l1)):ah P main (G f l) w=.go (G f1 l1) w #[]:=by
 have K:ah P main (G f l) w=aO P main true f l none w:=by
  unfold ah;simp only[G,Y]
 rw[K];clear K;obtain⟨fn,tmps,todo,defers,mode,kind,ro⟩:=f;simp only at hr hk Y;subst hr Y;unfold prun at h;unfold aO;split at h<;>rename_i H<;>first|(cases h;done)|(simp only at H;subst H;dsimp only)
 ·cases h;rfl
 ·cases h;rfl
 ·cases h;rfl
 ·cases h;rfl
 ·cases h;rfl
 ·split at h
  ·rename_i t e;cases h;simp only[e];rfl
  ·cases h
 ·cases h;rfl
 ·cases h;rfl
 ·cases h;rfl
 ·split at h
  ·rename_i k' e;cases h;simp only[e];rfl
  ·cases h
 ·cases h;rfl
 ·cases h;rfl
 ·cases h;rfl
 ·cases h;rfl
 ·split at h
  ·rename_i o e;split at h
   ·rename_i hw;simp only[e,cO,hw,dG,if_true];unfold stepG.oper;simp only[Frame.oper?,e];exact aaF (f:=⟨fn,tmps,_,defers,.run,kind,none⟩) hk h ⟨_,_,_,rfl⟩
   ·rename_i hw;cases h;simp only[e,cO,hw,dG];rfl
  ·cases h
theorem Zh(R:f.mode=.returning)(h:JZ P f l=some (f1,l1)):ah P main (G f l) w=.go (G f1 l1) w #[]:=by
 have D:ah P main (G f l) w=bm P main f l none w:=by
  unfold ah;simp only[G,R]
 rw[D];unfold JZ at h;unfold bm;split at h
 ·rename_i hd;simp only[hd,R];split at h
  ·rename_i c l';split at h
   ·rename_i Y;split at h
    ·rename_i fn H;split at h
     ·rename_i v e;cases h;simp[H,oe e,sd e,aY,Y,G,aU,bk]
     ·cases h
    ·cases h
   ·rename_i Y;split at h
    ·rename_i fn H K;split at h
     ·rename_i v e;cases h;simp[H,oe e,sd e,aY,Y,K,G,aU,bk]
     ·cases h
    ·cases h
   ·cases h
  ·cases h
 ·rename_i d U hd;split at h
  ·rename_i fn c I;split at h
   ·rename_i g args e;cases h;obtain⟨B,A⟩:=d;subst I;simp[hd,cR,oe e,sd e,G,aU,bk]
   ·cases h
  ·cases h
theorem tu(h:oB P f l=some (f1,l1)):ah P main (G f l) w=.go (G f1 l1) w #[]:=by
 unfold oB at h;split at h
 ·cases h
 ·cases h
 ·rename_i hr hk;split at h
  ·rename_i Y;exact Ol hr hk Y h
  ·rename_i Y;exact Zh Y h
  ·cases h
theorem Tz.pure{U:Nat->Nat->Prop}{D:(Nat->Prop)->(Nat->Prop)->ak->af->Prop}:∀n {f:ae} {l:List _} {w:af},(∀w2,gU U S w w2->Tz P main U D S X (G (gS P n f l).1 (gS P n f l).2) w2)->Tz P main U D S X (G f l) w
 |0,f,l,w,h=>h w (.refl _ _ _)
 |n+1,f,l,w,h=>by
  unfold gS at h;split at h
  ·rename_i f1 l1 e;refine Tz.one rfl fun w2 hr=>⟨_,w2,#[],S,X,tu e,js S X w2,Tz.pure n fun w3 Y=>h w3 (hr.trans Y)⟩
  ·exact h w (.refl _ _ _)
end
def opAt(f:ae):=match f.roundOf,f.mode,f.kind with
 |some _,_,_|_,.returning,_|_,.panicking _,_|_,_,.early=>none
 |none,.run,_=>match f.todo with
  |.inRegion ops (i::_)::_=>match ops[i]? with
   |some o=>if cy o (bF ops f.tmps)then some o else none
   |none=>none
  |_=>none
def ahead(f:ae):Option (ar×Array ai):=match opAt f with
 |some o=>match o.op with
  |.call c=>match c.callee with
   |.value (.func g)=>some (g,c.args.map f.eval)
   |_=>none
  |_=>none
 |none=>none
def ry(f:ae):Option (aH×ai):=match opAt f with
 |some o=>match o.op with
  |.load t x=>some (t,f.eval x)
  |_=>none
 |none=>none
def R7(f:ae):Option (aH×ai×Bool):=match opAt f with
 |some o=>match o.op with
  |.recv t x b=>some (t,f.eval x,b)
  |_=>none
 |none=>none
section
variable{P:aj}{main:Bool}{f:ae}{cs:List ae}{w w':af}{g:ar}{fn:Func}{I:Array ai}
theorem tv{o:Oper}(h:opAt f=some o):∃ops i rest k,f=f.at ⟨f.tmps,f.defers⟩ (.inRegion ops (i::rest)::k)/\ops[i]?=some o/\cy o (bF ops f.tmps)=true/\f.kind≠.early:=by
 obtain⟨fn,tmps,todo,defers,mode,kind,ro⟩:=f;unfold opAt at h;split at h<;>first|(cases h)|skip
 rename_i hr Y hk;simp only at hr Y hk h;subst hr Y;split at h<;>first|(cases h)|skip
 rename_i ops i rest k;split at h
 ·rename_i o' K;split at h
  ·rename_i hw;cases h;exact⟨ops,i,rest,k,rfl,K,hw,fun e=>hk e⟩
  ·cases h
 ·cases h
theorem pN{o:Oper}(h:opAt f=some o){v:ai}(hr:(aW f.eval o).run P w=.ok (.value v) w'):ah P main (G f cs) w=.go (G (f.finish v) cs) w' (seen P f.fn ((aW f.eval o).events P w #[])):=by
 obtain⟨ops,i,rest,k,e,H,hw,hk⟩:=tv h;have K:f.eval=Act.eval ⟨f.tmps,f.defers⟩:=by rw[e];exact Frame.eval_at' _ _ _
 have:=stepG_value (main:=main) (a:=⟨f.tmps,f.defers⟩) (k:=k) (cs:=cs) (rest:=rest) H hw hk (by exact hr);rw[<-e]at this;rw[this];have Y:f.finish v=f.at (bL ⟨f.tmps,f.defers⟩ o.dst v) (.inRegion ops rest::k):=by
  conv=>lhs;rw[e]
  rw[ck,H];rfl
 rw[<-Y];unfold listed;rw[<-K]
theorem uD(h:ahead f=some (g,I)):∃o aqY Y,opAt f=some o/\o.op=.call {callee:=.value (.func g),args:=aqY,argTypes:=Y}/\aqY.map f.eval=I:=by
 unfold ahead at h;split at h
 ·rename_i o R;split at h
  ·rename_i c H;split at h
   ·rename_i K D;cases h;obtain⟨callee,args,Y⟩:=c;simp_all
   ·cases h
  ·cases h
 ·cases h
theorem acB(h:ahead f=some (g,I))(N:P.funcs[g]?=some fn)(H:(fn.name== "runtime.NumGoroutine")=false)(F:fn.body.isNone=true)(O:dh fn=none){e:Array _->Sem _}(M:Extern.find fn=some e)
  {v:ai}{Y:Array _}(R:(e I).run P w=.ok v w')(A:(e I).events P w #[⟨.mark (.extern g),false,true⟩]=#[⟨.mark (.extern g),false,true⟩]++Y)(V:∀x∈Y,x.sync=true/\∀g,x.loc≠.mark (.extern g)):
  ah P main (G f cs) w=.go (G (f.finish v) cs) w' Y:=by
 obtain⟨o,aqY,B,C,gN,rfl⟩:=uD h;obtain⟨ops,i,rest,k,D,U,hw,hk⟩:=tv C;have:=stepG_entry (main:=main) (a:=⟨f.tmps,f.defers⟩) (kk:=k) (cs:=cs) (rest:=rest) U hw hk gN N H F O M R A V;rw[<-D]at this;rw[this];have K:f.finish v=f.at (bL ⟨f.tmps,f.defers⟩ o.dst v) (.inRegion ops rest::k):=by
  conv=>lhs;rw[D]
  rw[ck,U];rfl
 rw[<-K]
structure jG(P:aj)(g:ar)(e:Array ai->Sem ai):Prop where
 ex:∃fn,P.funcs[g]?=some fn/\(fn.name== "runtime.NumGoroutine")=false/\fn.body.isNone=true/\dh fn=none/\Extern.find fn=some e
theorem tm{e:Array _->Sem _}(X:jG P g e)(h:ahead f=some (g,I)){v:ai}{Y:Array _}(H:(e I).run P w=.ok v w')(R:(e I).events P w #[⟨.mark (.extern g),false,true⟩]=#[⟨.mark (.extern g),false,true⟩]++Y)(F:∀x∈Y,x.sync=true/\∀g,x.loc≠.mark (.extern g)):
  ah P main (G f cs) w=.go (G (f.finish v) cs) w' Y:=by
 obtain⟨fn,K,D,A,U,B⟩:=X.ex;exact acB h K D A U B H R F
theorem r7{m:Mark}(Y:∀g,m≠.extern g)(X:jG P g (fun _=>do mark m;pure cI))(h:ahead f=some (g,I)):ah P main (G f cs) w=.go (G (f.finish (.tuple #[])) cs) w #[⟨.mark m,false,true⟩]:=
 tm X h (by simp[cI]) (by simp) (by simp_all)
theorem yl{mk:Addr->Mark}(Y:∀ad g,mk ad≠.extern g)(X:jG P g (cH mk))(h:ahead f=some (g,#[.pointer (some ad)])):ah P main (G f cs) w=.go (G (f.finish (.tuple #[])) cs) w #[⟨.mark (mk ad),false,true⟩]:=
 tm X h (by simp[cH,db,cI]) (by simp[cH,db]) (by simp_all)
theorem Au{k:bP}(X:jG P g (da (.int k))){v n:Int}(h:ahead f=some (g,#[.pointer (some ad),.int k v,.int k n]))(Y:w.cell? ad=some (.int k v))(H:w.frozen? ad=false):
  ah P main (G f cs) w=.go (G (f.finish (.bool true)) cs) (w.setCell ad (.int k n)) #[⟨.cell ad,false,true⟩,⟨.cell ad,true,true⟩]:=
 tm X h (by exact run_cas_hit_entry Y H) (by rw[casT_eq,events_cas_hit_entry Y H];rfl) (sync_rw ad)
theorem As{k:bP}(X:jG P g (da (.int k))){v old n:Int}(h:ahead f=some (g,#[.pointer (some ad),.int k old,.int k n]))(H:w.cell? ad=some (.int k v))(R:w.frozen? ad=false)(Y:¬v=old):
  ah P main (G f cs) w=.go (G (f.finish (.bool false)) cs) w #[⟨.cell ad,false,true⟩]:=
 tm X h (by exact run_cas_miss_entry H R Y) (by rw[casT_eq,events_cas_miss_entry H R Y];rfl) (sync_r ad)
theorem C5{k:bP}(X:jG P g (Extern.Atomic.update (cM .add) k true)){v d:Int}(h:ahead f=some (g,#[.pointer (some ad),.int k d]))(Y:w.cell? ad=some (.int k v))(H:w.frozen? ad=false):
  ah P main (G f cs) w=.go (G (f.finish (.int k (k.wrap (v+d)))) cs) (w.setCell ad (.int k (k.wrap (v+d)))) #[⟨.cell ad,false,true⟩,⟨.cell ad,true,true⟩]:=
 tm X h (run_add_entry Y H) (by rw[events_add_entry Y H];rfl) (sync_rw ad)
theorem ML(X:jG P g cg){n:Int}(h:ahead f=some (g,I))(R:I[0]?=some (.pointer (some ad)))(H:w.cell? ad=some (.int .u32 n))(Y:n≠0)(A:w.frozen? ad=false):
  ah P main (G f cs) w=.go (G (f.finish (.tuple #[])) cs) (w.setCell ad (.int .u32 (n-1))) (aK ad):=
 tm X h (by simp[cg,cf,R,H,Y,A,de,cB P w ad (.int .u32 (n-1)) _ rfl])
  (by simp[cg,cf,R,H,Y,A,aK,dK P w _ ad (.int .u32 (n-1)) .atomic rfl,cB P w ad (.int .u32 _) .atomic rfl]) (dM ad)
theorem Gj(X:jG P g cJ){n:Int}(h:ahead f=some (g,I))(H:I[0]?=some (.pointer (some ad)))(Y:w.cell? ad=some (.int .u32 n))(R:w.frozen? ad=false):
  ah P main (G f cs) w=.go (G (f.finish (.tuple #[])) cs) (w.setCell ad (.int .u32 (IntKind.u32.wrap (n+1)))) (aK ad):=
 tm X h (by simp[cJ,cf,H,Y,R,de,cM,cB P w ad (.int .u32 _) _ rfl])
  (by simp[cJ,cf,H,Y,R,aK,cM,dK P w _ ad (.int .u32 _) .atomic rfl,cB P w ad (.int .u32 _) .atomic rfl]) (dM ad)
theorem GH{t:aH}{x:ai}(h:ry f=some (t,x)):∃o y,opAt f=some o/\o.op=.load t y/\f.eval y=x:=by
 unfold ry at h;split at h
 ·split at h
  ·simp_all
  ·cases h
 ·cases h
theorem P5{t:aH}{v:ai}{o:Oper}(gN:o.op=.load t y)(R:f.eval y=.pointer (some ad))(H:kE P (isAgg t)=some false)(Y:w.cell? ad=some v):
  (aW f.eval o).run P w=.ok (.value v) w/\(aW f.eval o).events P w #[]=#[⟨.cell ad,false,false⟩]:=by
 constructor
 ·unfold aW;simp[gN,R];simp[go_sem,oe H,Y]
 ·unfold aW;simp[gN,R];simp[go_sem,oe H,Y]
theorem CD{t:aH}{v:ai}(h:ry f=some (t,.pointer (some ad)))(A:kE P (isAgg t)=some false)(Y:w.cell? ad=some v)(R:(P.funcs[f.fn]?).any (·.norace)=true):
  ah P main (G f cs) w=.go (G (f.finish v) cs) w #[]:=by
 obtain⟨o,y,H,gN,D⟩:=GH h;obtain⟨hr,K⟩:=P5 gN D A Y;rw[pN H hr,K,seen_def,R];simp[seenStep]
theorem tw{t:aH}{v:ai}(h:ry f=some (t,.pointer (some ad)))(A:kE P (isAgg t)=some false)(Y:w.cell? ad=some v)(R:(P.funcs[f.fn]?).any (·.norace)=false):
  ah P main (G f cs) w=.go (G (f.finish v) cs) w #[⟨.cell ad,false,false⟩]:=by
 obtain⟨o,y,H,gN,D⟩:=GH h;obtain⟨hr,K⟩:=P5 gN D A Y;rw[pN H hr,K,seen_def,R];simp[seenStep]
theorem conv{o:Oper}(R:opAt f=some o){v:ai}{es:Array _}(h:∀ops i rest k,ops[i]?=some o->cy o (bF ops (Act.tmps ⟨f.tmps,f.defers⟩))=true->f.kind≠.early->
  ah P main (G (f.at ⟨f.tmps,f.defers⟩ (.inRegion ops (i::rest)::k)) cs) w=.go (G (f.at (bL ⟨f.tmps,f.defers⟩ o.dst v) (.inRegion ops rest::k)) cs) w' es):ah P main (G f cs) w=.go (G (f.finish v) cs) w' es:=by
 obtain⟨ops,i,rest,k,K,H,hw,hk⟩:=tv R;have:=h ops i rest k H hw hk;rw[<-K]at this;rw[this];have Y:f.finish v=f.at (bL ⟨f.tmps,f.defers⟩ o.dst v) (.inRegion ops rest::k):=by
  conv=>lhs;rw[K]
  rw[ck,H];rfl
 rw[<-Y]
theorem evalEq(f:ae)(Y:f.mode=f.mode):f.eval=Act.eval ⟨f.tmps,f.defers⟩:=by
 funext x;cases x<;>rfl
theorem O2(h:ahead f=some (g,I))(X:jG P g Extern.OsHooks.nano)(F:(P.funcs[g]?).any (·.norace)=true):ah P main (G f cs) w=.go (G (f.finish (.int .i64 ((w.os.mono+w.tick:Nat)))) cs) w.later #[]:=by
 obtain⟨o,aqY,H,C,gN,rfl⟩:=uD h;obtain⟨fn,K,D,R,A,U⟩:=X.ex;have Y:=by simpa[K]using F
 exact conv C fun ops i rest k B hw hk=>stepG_nanotime B hw hk gN K D R A U Y
theorem Xv{k:bP}{n:Int}(h:ahead f=some (g,#[.int k n]))(X:jG P g dc)(A:4<=n):ah P main (G f cs) w=.go (G (f.finish (.bool false)) cs) w #[]:=by
 obtain⟨o,aqY,H,C,gN,K⟩:=uD h;obtain⟨fn,D,R,I,Y,U⟩:=X.ex;exact conv C fun ops i rest k B hw hk=>stepG_canSpin_no B hw hk gN D R I Y U K A
theorem Xa{k:bP}{n:Int}(h:ahead f=some (g,#[.int k n]))(X:jG P g dc)(A:n<4):ah P main (G f cs) w=.go (G (f.finish (.bool w.spins)) cs) w.asked #[]:=by
 obtain⟨o,aqY,H,C,gN,K⟩:=uD h;obtain⟨fn,D,R,I,Y,U⟩:=X.ex;exact conv C fun ops i rest k B hw hk=>stepG_canSpin_ask B hw hk gN D R I Y U K A
theorem MZ(X:jG P g cg)(h:ahead f=some (g,I))(M:I[0]?=some (.pointer (some ad)))(F:w.cell? ad=some (.int .u32 0)):ah P main (G f cs) w=.go {G f cs with status:=.blocked} w #[]:=by
 obtain⟨o,aqY,Y,C,gN,rfl⟩:=uD h;obtain⟨fn,H,D,R,A,U⟩:=X.ex;obtain⟨ops,i,rest,k,K,B,hw,hk⟩:=tv C;have:=stepG_semacquire_wait (main:=main) (b:=f) (a:=⟨f.tmps,f.defers⟩) (kk:=k) (cs:=cs) (rest:=rest) B hw gN H D R A U (by exact M) F;rw[<-K]at this;omega
theorem Hm{e:Array _->Sem _}(X:jG P g e)(h:ahead f=some (g,I)):bu P (G f cs)=true:=by
 obtain⟨o,aqY,H,B,gN,rfl⟩:=uD h;obtain⟨fn,D,F,K,J,L⟩:=X.ex;obtain⟨ops,i,rest,k,Y,A,hw,hk⟩:=tv B;have U:f.mode=.run:=by rw[Y];rfl
 have C:f.todo=.inRegion ops (i::rest)::k:=by rw[Y];rfl
 unfold bu;simp[G,U,C,A,cO,gN];simp[cj,D];cases R:fn.body with
 |none=>rfl
 |some c=>rw[R]at K;cases K
theorem O3{v:ai}(X:jG P g (fun _=>pure v))(h:ahead f=some (g,I)):ah P main (G f cs) w=.go (G (f.finish v) cs) w #[]:=tm X h (by simp) (by simp) (by simp)
end
def qC(f:ae):Option (aH×aH×ai):=match opAt f with
 |some o=>match o.op with
  |.convert s d x=>some (s,d,f.eval x)
  |_=>none
 |none=>none
section
variable{P:aj}{main:Bool}{f:ae}{cs:List ae}{w:af}
theorem X6{s d:aH}{x:ai}(h:qC f=some (s,d,x)):∃o y,opAt f=some o/\o.op=.convert s d y/\f.eval y=x:=by
 unfold qC at h;split at h
 ·split at h
  ·simp_all
  ·cases h
 ·cases h
theorem uG{s d t:aH}{a:Addr}{v:ai}(h:qC f=some (s,d,.pointer (some a)))(A:P.underlying s=some (.pointer t))(hd:P.underlying d=some .unsafePointer)(Y:(P.info? t).map (fun i=>decide (i.size=0))=some false)(R:w.cell? a=some v):
  ah P main (G f cs) w=.go (G (f.finish (.pointer (some a))) cs) w #[]:=by
 obtain⟨o,y,D,gN,U⟩:=X6 h;have hr:=run_convert_to_unsafe A hd Y R;have I:=fun es=>events_convert_to_unsafe A hd Y R es;have H:(aW f.eval o).run P w=.ok (.value (.pointer (some a))) w:=by
  unfold aW;simp_all
 have K:(aW f.eval o).events P w #[]=#[]:=by
  unfold aW;simp_all
 rw[pN D H,K,bk]
end
def sU(P:aj)(f:ae):Option Next:=match opAt f with
 |some o=>kE P (aW f.eval o)
 |none=>none
section
variable{P:aj}{main:Bool}{f:ae}{l:List ae}{w:af}
theorem P6{x:Next}(h:sU P f=some x):∃o,opAt f=some o/\kE P (aW f.eval o)=some x:=by
 unfold sU at h;split at h
 ·simp_all
 ·cases h
theorem O4{cases:Array _}{b:Bool}{sh:CommShape}(h:sU P f=some (.comm cases b sh)):ah P main (G f l) w=.comm (G f l) cases b sh w #[]:=by
 obtain⟨o,H,Y⟩:=P6 h;obtain⟨ops,i,rest,k,e,K,hw,hk⟩:=tv H;rw[evalEq f rfl]at Y;have:=stepG_comm (main:=main) (a:=⟨f.tmps,f.defers⟩) (k:=k) (cs:=l) (rest:=rest) K hw hk (oe Y w);rw[<-e]at this;rw[this];unfold listed;rw[sd Y,bk]
theorem Zi{g:ar}{c H:Array _}(h:sU P f=some (.spawn {target:=.fn (.func g) c,args:=H})):ah P main (G f l) w=.spawn (G (f.finish aM) l) (G {(default:ae)with fn:=P.funcs.size,defers:=[{target:=.fn (.func g) c,args:=H}],mode:=.panicking [goexitEntry]} []) w #[]:=by
 obtain⟨o,R,K⟩:=P6 h;obtain⟨ops,i,rest,k,e,D,hw,hk⟩:=tv R;rw[evalEq f rfl]at K;have Y:f.finish aM=f.at (bL ⟨f.tmps,f.defers⟩ o.dst aM) (.inRegion ops rest::k):=by
  conv=>lhs;rw[e]
  rw[ck,D];rfl
 have:=stepG_spawn (main:=main) (a:=⟨f.tmps,f.defers⟩) (k:=k) (cs:=l) (rest:=rest) D hw hk (oe K w) rfl;rw[<-e]at this;rw[this,Y];unfold listed;rw[sd K,bk];rfl
end
end Ph
namespace Ph
open Conc
inductive ui where
 |at
 |ro
 |pr
 |own (g:Nat)
 |no
def Started(b j g:Nat):=g=0\/(b<=g/\g<b+j)
def EC(b j:Nat)(mu:Addr)(t:ax)(i:Nat):Option Nat->Prop
 |some g=>aI t g i
 |none=>(∀g,Started b j g->aI t g i)\/∃p,t.act? p=some (.mark (.releaseMerge mu))/\t.heard p/\bZ t i p
structure PT(b j:Nat)(mu wg:Addr)(jl:Loc->Prop)(cls:Loc->ui)(t:ax)(tok:Option Nat)(rel:Nat->Option Nat):Prop where
 clean:∀said,¬Race said t
 uj:∀i x,aL t i=some x->cls x.loc=.at->x.kind=.atomic\/(x.kind=.said/\aI t 0 i)\/∀g,Started b j g->aI t g i
 ro:∀i x,aL t i=some x->cls x.loc=.ro->x.write=true->∀g,Started b j g->aI t g i
 own:∀i x g,aL t i=some x->cls x.loc=.own g->aI t g i
 pr:∀i x,aL t i=some x->cls x.loc=.pr->EC b j mu t i tok
 jn:∀i x,aL t i=some x->x.loc.isMemory=true->aI t 0 i\/(jl x.loc/\x.kind=.atomic/\¬t.counts i)\/∃k z,t[i]?=some z/\z.g=k/\b<=k/\k<b+j/\∀p,rel k=some p->bZ t i p
 tZ:∀k p,rel k=some p->t.act? p=some (.mark (.releaseMerge wg))/\t.heard p
 norel:cx mu t/\cx wg t
 gs:True
 mem:∀l,l.isMemory=false->cls l=.no
 sh:∀l,cls l=.at->jl l
 qO:0<b
def OkOp(mu wg:Addr)(cls:Loc->ui)(tok:Option Nat)(g:Nat)(op:aP):=
 op.g=g/\op.act≠.mark (.release mu)/\op.act≠.mark (.release wg)/\∀x,op.act.touch?=some x->
  x.loc.isMemory=false\/(cls x.loc=.at/\x.kind=.atomic)\/(cls x.loc=.at/\x.kind=.said/\g=0)\/(cls x.loc=.ro/\x.write=false)\/(cls x.loc=.pr/\tok=some g)\/cls x.loc=.own g
section
variable{b j:Nat}{mu wg:Addr}{jl:Loc->Prop}{cls:Loc->ui}{t u:ax}{tok:Option Nat}{rel:Nat->Option Nat}{g:Nat}
theorem EC.app(h:EC b j mu t i tok)(u:ax):EC b j mu (t++u) i tok:=by
 cases tok with
 |some g=>exact Knows.app u h
 |none=>
  rcases h with h|⟨p,Y,H,D⟩
  ·exact .inl fun g R=>(h g R).app u
  ·have K:=bT Y;exact .inr ⟨p,by rw[bR K];exact Y,(cA K).2 H,D.app u⟩
theorem rj{x:bt}(h:aL (t++u) i=some x):(i<t.size/\aL t i=some x)\/(t.size<=i/\∃op,(t++u)[i]?=some op/\op∈u/\op.act.touch?=some x):=by
 obtain⟨op,H,R⟩:=cW h;rcases getElem?_append_cases H with⟨K,Y⟩|⟨K,D⟩
 ·exact .inl ⟨K,by rw[touchAt_of Y];exact R⟩
 ·simp_all
theorem Started.lt(h:Started b j g)(Y:0<b):g<b+j:=by
 rcases h with rfl|h
 ·omega
 ·omega
theorem H3(h:∀k p,rel k=some p->t.act? p=some (.mark (.releaseMerge wg))/\t.heard p)(u:ax):∀k p,rel k=some p->(t++u).act? p=some (.mark (.releaseMerge wg))/\(t++u).heard p:=by
 intro k p hk;obtain⟨Y,H⟩:=h k p hk;have K:=bT Y;exact⟨by rw[bR K];exact Y,(cA K).2 H⟩
theorem I0{x:bt}(R:i<t.size)(h:aI t 0 i\/(jl x.loc/\x.kind=.atomic/\¬t.counts i)\/∃k z,t[i]?=some z/\z.g=k/\b<=k/\k<b+j/\∀p,rel k=some p->bZ t i p)(u:ax):
  aI (t++u) 0 i\/(jl x.loc/\x.kind=.atomic/\¬(t++u).counts i)\/∃k z,(t++u)[i]?=some z/\z.g=k/\b<=k/\k<b+j/\∀p,rel k=some p->bZ (t++u) i p:=by
 rcases h with h|⟨Y,K,H⟩|⟨k,z,Y,K,H,D,I⟩
 ·exact .inl (h.app u)
 ·exact .inr (.inl ⟨Y,K,fun A=>H ((counts_old R).1 A)⟩)
 ·exact .inr (.inr ⟨k,z,by rw[cT R];exact Y,K,H,D,fun p U=>(I p U).app u⟩)
theorem PT.app(h:PT b j mu wg jl cls t tok rel)(N:Started b j g)(F:∀op∈u,OkOp mu wg cls tok g op)
  (hr:g≠0->∀p,rel g=some p->∀i x,t.size<=i->aL (t++u) i=some x->x.loc.isMemory=true->jl x.loc/\x.kind=.atomic/\¬(t++u).counts i):PT b j mu wg jl cls (t++u) tok rel:=by
 have new:∀{i:Nat} {x:bt} {op:aP},(t++u)[i]?=some op->op∈u->op.act.touch?=some x->aI (t++u) g i:=by
  intro i x op B R I;have:=knows_own B
  rwa [(F op R).1]at this
 refine⟨fun said=>noRace_append (h.clean said) (fun op gN=>(F op gN).1) fun i a M op gN c K O=>?_,fun i x C K=>?_,fun i x C K hw=>?_,fun i x k C K=>?_,fun i x C K=>?_,fun i x C A=>?_,H3 h.tZ u,⟨h.norel.1.app fun op gN=>(F op gN).2.1,h.norel.2.app fun op gN=>(F op gN).2.2.1⟩,
  trivial,h.mem,h.sh,h.qO⟩
 ·obtain⟨L,Q,Z,S⟩:=O;rcases(F op gN).2.2.2 c K with A|⟨Y,hk⟩|⟨Y,hk,J⟩|⟨Y,hk⟩|⟨Y,hk⟩|Y
  ·rw[L,A]at Q;cases Q
  ·rcases h.uj i a M (by rw[L];exact Y)with H|⟨H,_⟩|H
   ·simp_all
   ·simp_all
   ·exact H g N
  ·rcases h.uj i a M (by rw[L];exact Y)with H|⟨_,H⟩|H
   ·rw[H,hk]at S;rcases S with x|x|⟨_,x,_⟩<;>cases x
   ·rw[J];exact H
   ·exact H g N
  ·have hw:a.write=true:=by simp_all
   exact h.ro i a M (by rw[L];exact Y) hw g N
  ·have:=h.pr i a M (by rw[L];exact Y);rw[hk]at this;exact this
  ·exact h.own i a g M (by rw[L];exact Y)
 ·rcases rj C with⟨U,D⟩|⟨U,op,B,R,I⟩
  ·exact(h.uj i x D K).imp id (Or.imp (fun y=>⟨y.1,y.2.app u⟩) fun y g P=>(y g P).app u)
  ·rcases(F op R).2.2.2 x I with A|⟨Y,hk⟩|⟨Y,hk,J⟩|⟨Y,hk⟩|⟨Y,hk⟩|Y
   ·rw[h.mem _ A]at K;cases K
   ·exact .inl hk
   ·simp_all
   ·rw[K]at Y;cases Y
   ·rw[K]at Y;cases Y
   ·rw[K]at Y;cases Y
 ·rcases rj C with⟨U,D⟩|⟨U,op,B,R,I⟩
  ·exact fun g P=>(h.ro i x D K hw g P).app u
  ·rcases(F op R).2.2.2 x I with A|⟨Y,hk⟩|⟨Y,hk,J⟩|⟨Y,hk⟩|⟨Y,hk⟩|Y
   ·rw[h.mem _ A]at K;cases K
   ·rw[K]at Y;cases Y
   ·rw[K]at Y;cases Y
   ·rw[hk]at hw;cases hw
   ·rw[K]at Y;cases Y
   ·rw[K]at Y;cases Y
 ·rcases rj C with⟨U,D⟩|⟨U,op,B,R,I⟩
  ·exact(h.own i x k D K).app u
  ·rcases(F op R).2.2.2 x I with A|⟨Y,hk⟩|⟨Y,hk,J⟩|⟨Y,hk⟩|⟨Y,hk⟩|Y
   ·rw[h.mem _ A]at K;cases K
   ·rw[K]at Y;cases Y
   ·rw[K]at Y;cases Y
   ·rw[K]at Y;cases Y
   ·rw[K]at Y;cases Y
   ·rw[K]at Y;cases Y;exact new B R I
 ·rcases rj C with⟨U,D⟩|⟨U,op,B,R,I⟩
  ·exact(h.pr i x D K).app u
  ·rcases(F op R).2.2.2 x I with A|⟨Y,hk⟩|⟨Y,hk,J⟩|⟨Y,hk⟩|⟨Y,hk⟩|Y
   ·rw[h.mem _ A]at K;cases K
   ·rw[K]at Y;cases Y
   ·rw[K]at Y;cases Y
   ·rw[K]at Y;cases Y
   ·rw[hk];exact new B R I
   ·rw[K]at Y;cases Y
 ·rcases rj C with⟨U,D⟩|⟨U,op,B,R,I⟩
  ·exact I0 U (h.jn i x D A) u
  ·rcases N with J|⟨V,X⟩
   ·have:=new B R I;rw[J]at this;exact .inl this
   ·cases hrel:rel g with
    |some p=>exact .inr (.inl (hr (by have:=h.qO;omega) p hrel i x U C A))
    |none=>exact .inr (.inr ⟨g,op,B,(F op R).1,V,X,fun p T=>by rw[hrel]at T;cases T⟩)
theorem Nl(h:¬Race said t)(F:∀op∈u,op.act.touch?=none):¬Race said (t++u):=by
 rintro⟨i,k,K,⟨x,y,Y,H,R⟩,n1,n2⟩;have old:∀{i:Nat} {x:bt},((t++u).act? i).bind (·.touch?)=some x->i<t.size:=by
  intro i x Y;rcases rj (Y)with⟨D,_⟩|⟨_,op,_,I,A⟩
  ·omega
  ·simp_all
 have D:=old Y;have hk:=old H;rw[bR D]at Y;rw[bR hk]at H;exact h ⟨i,k,K,⟨x,y,Y,H,R⟩,fun e=>n1 (hb_app u e),fun e=>n2 (hb_app u e)⟩
theorem PT.still(h:PT b j mu wg jl cls t tok rel)(R:∀op∈u,op.act.touch?=none/\op.act≠.mark (.release mu)/\op.act≠.mark (.release wg)/\op.g<b+j):PT b j mu wg jl cls (t++u) tok rel:=by
 have old:∀{i:Nat} {x:bt},aL (t++u) i=some x->i<t.size/\aL t i=some x:=by
  intro i x Y;rcases rj Y with U|⟨_,op,_,I,A⟩
  ·omega
  ·simp_all
 refine⟨fun said=>Nl (h.clean _) fun op gN=>(R op gN).1,fun i x Y K=>?_,fun i x Y K hw g H=>(h.ro i x (old Y).2 K hw g H).app u,fun i x k Y K=>(h.own i x k (old Y).2 K).app u,fun i x Y K=>(h.pr i x (old Y).2 K).app u,fun i x Y D=>I0 (old Y).1 (h.jn i x (old Y).2 D) u,H3 h.tZ u,⟨h.norel.1.app fun op gN=>(R op gN).2.1,h.norel.2.app fun op gN=>(R op gN).2.2.1⟩,
  trivial,h.mem,h.sh,h.qO⟩
 exact(h.uj i x (old Y).2 K).imp id (Or.imp (fun y=>⟨y.1,y.2.app u⟩) fun y g H=>(y g H).app u)
theorem PT.fresh(h:PT b j mu wg jl cls t tok rel){Y:Loc->ui}(H:∀i x,aL t i=some x->Y x.loc=cls x.loc)(A:∀l,l.isMemory=false->Y l=.no)(R:∀l,Y l=.at->jl l):PT b j mu wg jl Y t tok rel:=
 ⟨h.clean,fun i x K e=>h.uj i x K (by rw[<-H i x K];exact e),fun i x K e=>h.ro i x K (by rw[<-H i x K];exact e),fun i x g K e=>h.own i x g K (by rw[<-H i x K];exact e),fun i x K e=>h.pr i x K (by rw[<-H i x K];exact e),h.jn,h.tZ,h.norel,h.gs,A,R,h.qO⟩
theorem g?_of{t:ax}{op:aP}(h:t[i]?=some op):t.g? i=some op.g:=by simp[cQ,h]
theorem last_at(t:ax)(y:aP):(t++#[y])[t.size]?=some y:=by simp
theorem yn{y:aP}(hd:Deaf t y.g=0):(t++#[y]).heard t.size:=by
 refine⟨y.g,g?_of (last_at t y),?_⟩;rw[deaf_old (ao _)];exact hd
theorem mE{y:aP}{Q:aP->Prop}(h:Q y):∀op∈(#[y]),Q op:=by simp_all
theorem PT.lock(h:PT b j mu wg jl cls t none rel)(H:Started b j g){fn:ar}(hd:Deaf t g=0):PT b j mu wg jl cls (t++#[{g,fn,pos,act:=.mark (.acquire mu)}]) (some g) rel:=by
 have h':=h.still (u:=#[{g,fn,pos,act:=.mark (.acquire mu)}]) (mE ⟨rfl,by simp,by simp,H.lt h.qO⟩);refine⟨h'.clean,h'.uj,h'.ro,h'.own,fun i x C I=>?_,h'.jn,h'.tZ,h'.norel,h'.gs,h'.mem,h'.sh,h'.qO⟩;rcases h'.pr i x C I with hk|⟨p,Y,D,R⟩
 ·exact hk g H
 ·have B:p<t.size:=by
   rcases cw p _ with U|A
   ·omega
   ·have e:p=t.size:=by have:=bT Y;simp at this;omega
    rw[e,bD (last_at t _)]at Y;cases Y
  have K:=last_at t {g,fn,pos,act:=.mark (.acquire mu)};refine⟨t.size,_,K,rfl,.inr (R.hb (.single (.inr ⟨.marked B (.inr Y) (by rw[bD K]) (fun k _ _=>h'.norel.1 k),D,yn hd⟩)))⟩
theorem PT.unlock(h:PT b j mu wg jl cls t (some g) rel)(A:Started b j g){fn:ar}(hd:Deaf t g=0):PT b j mu wg jl cls (t++#[{g,fn,pos,act:=.mark (.releaseMerge mu)}]) none rel:=by
 have h':=h.still (u:=#[{g,fn,pos,act:=.mark (.releaseMerge mu)}]) (mE ⟨rfl,by simp,by simp,A.lt h.qO⟩);refine⟨h'.clean,h'.uj,h'.ro,h'.own,fun i x I R=>?_,h'.jn,h'.tZ,h'.norel,h'.gs,h'.mem,h'.sh,h'.qO⟩;have H:=last_at t {g,fn,pos,act:=.mark (.releaseMerge mu)};refine .inr ⟨t.size,by rw[bD H],yn hd,?_⟩;rcases rj I with⟨U,Y⟩|⟨_,op,_,K,D⟩
 ·exact .inr ((h.pr i x Y R).hb_new (ao _) H rfl)
 ·simp at K;subst K;cases D
theorem PT.release(h:PT b j mu wg jl cls t tok rel)(hk:b<=k/\k<b+j){fn:ar}(hd:Deaf t k=0){jX:Nat->Option Nat}(R:jX k=some t.size)(F:∀i,i≠k->jX i=rel i):
  PT b j mu wg jl cls (t++#[{g:=k,fn,pos,act:=.mark (.releaseMerge wg)}]) tok jX:=by
 have h':=h.still (u:=#[{g:=k,fn,pos,act:=.mark (.releaseMerge wg)}]) (mE ⟨rfl,by simp,by simp,hk.2⟩);have I:=last_at t {g:=k,fn,pos,act:=.mark (.releaseMerge wg)};refine⟨h'.clean,h'.uj,h'.ro,h'.own,h'.pr,fun i x A L=>?_,fun i p K=>?_,h'.norel,h'.gs,h'.mem,h'.sh,h'.qO⟩
 ·rcases h'.jn i x A L with y|y|⟨k',z,H,D,B,C,N⟩
  ·exact .inl y
  ·simp_all
  ·refine .inr (.inr ⟨k',z,H,D,B,C,fun p K=>?_⟩);by_cases Y:k'=k
   ·subst Y;rw[R]at K;cases K;rcases rj A with⟨J,_⟩|⟨_,op,_,U,M⟩
    ·exact .inr (hb_po J H I D)
    ·simp at U;subst U;cases M
   ·simp_all
 ·by_cases Y:i=k
  ·subst Y;rw[R]at K;cases K;exact⟨by rw[bD I],yn hd⟩
  ·rw[F i Y]at K;exact h'.tZ i p K
theorem PT.fork(h:PT b j mu wg jl cls t tok rel){fn je:ar}{pos':String}(hd:Deaf t 0=0)(O:Deaf t (b+j)=0):
  PT b (j+1) mu wg jl cls (t++#[{g:=0,fn,pos,act:=.go (b+j)}]++#[{g:=b+j,fn:=je,pos:=pos',act:=.start}]) tok rel:=by
 have W:=h.qO;have D:=h.still (u:=#[{g:=0,fn,pos,act:=.go (b+j)}]) (mE ⟨rfl,by simp,by simp,by show 0<b+j;omega⟩);have T:=last_at t {g:=0,fn,pos,act:=.go (b+j)};have s1:(t++#[({g:=0,fn,pos,act:=.go (b+j)}:aP)]).size=t.size+1:=by simp
 generalize N:t++#[({g:=0,fn,pos,act:=.go (b+j)}:aP)]=U at *;have L:=last_at U {g:=b+j,fn:=je,pos:=pos',act:=.start};have dd:Deaf U (b+j)=0:=by
  rw[<-N,bO t (g':=0) (by omega) _ (mE rfl)];exact O
 have J:(U++#[{g:=b+j,fn:=je,pos:=pos',act:=.start}])[t.size]?=some {g:=0,fn,pos,act:=.go (b+j)}:=by rw[cT (by omega)];exact T
 have B:HappensBefore (U++#[{g:=b+j,fn:=je,pos:=pos',act:=.start}]) t.size U.size:=by
  refine .single (.inr ⟨.spawn (child:=b+j) (by rw[bD J]) (by rw[bD L]) (g?_of L),?_,yn dd⟩);rw[cA (by omega),<-N];exact yn hd
 have E2:∀i,i<t.size->aI U 0 i->aI (U++#[{g:=b+j,fn:=je,pos:=pos',act:=.start}]) (b+j) i:=by
  intro i R hk;obtain⟨q,z,S,E,I⟩:=hk;rcases cw q t.size with P|X
  ·refine⟨U.size,_,L,rfl,.inr (.trans ((I.app _).hb (hb_po P (by rw[cT (by omega)];exact S) J E)) B)⟩
  ·have:q=t.size:=by have:=lt_size_of_getElem? S;omega
   subst this;rcases I with e|I
   ·omega
   ·exact⟨U.size,_,L,rfl,.inr (.trans (hb_app _ I) B)⟩
 have old:∀{i:Nat} {x:bt},aL U i=some x->i<t.size:=by
  intro i x H;rw[<-N]at H;rcases rj H with⟨R,_⟩|⟨_,op,_,A,F⟩
  ·exact R
  ·simp at A;subst A;cases F
 have K:∀{i:Nat} {x:bt},aL (U++#[{g:=b+j,fn:=je,pos:=pos',act:=.start}]) i=some x->i<U.size/\aL U i=some x:=by
  intro i x H;rcases rj H with R|⟨_,op,_,A,F⟩
  ·exact R
  ·simp at A;subst A;cases F
 have all:∀{i:Nat},i<t.size->(∀g,Started b j g->aI U g i)->∀g,Started b (j+1) g->aI (U++#[{g:=b+j,fn:=je,pos:=pos',act:=.start}]) g i:=by
  intro i R hk g V;by_cases e:g=b+j
  ·subst e;exact E2 i R (hk 0 (.inl rfl))
  ·exact(hk g (V.imp id fun y=>⟨y.1,by omega⟩)).app _
 refine⟨fun said=>Nl (D.clean said) (mE rfl),fun i x H C=>?_,fun i x H C hw=>?_,fun i x k H C=>(D.own i x k (K H).2 C).app _,fun i x H C=>?_,fun i x H Z=>?_,H3 D.tZ _,⟨D.norel.1.app (mE (by simp)),D.norel.2.app (mE (by simp))⟩,trivial,D.mem,D.sh,D.qO⟩
 ·obtain⟨R,Y⟩:=K H;exact(D.uj i x Y C).imp id (Or.imp (fun y=>⟨y.1,y.2.app _⟩) (all (old Y)))
 ·obtain⟨R,Y⟩:=K H;exact all (old Y) (D.ro i x Y C hw)
 ·obtain⟨R,Y⟩:=K H;have:=D.pr i x Y C;cases tok with
  |some g=>exact Knows.app _ this
  |none=>
   rcases this with y|⟨p,M,A,F⟩
   ·exact .inl (all (old Y) y)
   ·have Q:=bT M;exact .inr ⟨p,by rw[bR Q];exact M,(cA Q).2 A,F.app _⟩
 ·obtain⟨R,Y⟩:=K H;rcases I0 R (D.jn i x Y Z) _ with y|y|⟨k,z,M,A,F,c,G⟩
  ·exact .inl y
  ·exact .inr (.inl y)
  ·exact .inr (.inr ⟨k,z,M,A,F,by omega,G⟩)
theorem PT.join(h:PT b j mu wg jl cls t tok rel)(H:∀k,b<=k->k<b+j->∃p,rel k=some p){fn:ar}(hd:Deaf t 0=0)(Y:∀op∈t++#[{g:=0,fn,pos,act:=.mark (.acquire wg)}],op.act.low B):
  Past jl B (t++#[{g:=0,fn,pos,act:=.mark (.acquire wg)}]):=by
 have V:=h.qO;have h':=h.still (u:=#[{g:=0,fn,pos,act:=.mark (.acquire wg)}]) (mE ⟨rfl,by simp,by simp,by show 0<b+j;omega⟩);have C:=last_at t {g:=0,fn,pos,act:=.mark (.acquire wg)};have known:∀i x,aL (t++#[{g:=0,fn,pos,act:=.mark (.acquire wg)}]) i=some x->x.loc.isMemory=true->aI (t++#[{g:=0,fn,pos,act:=.mark (.acquire wg)}]) 0 i\/(jl x.loc/\x.kind=.atomic/\¬(t++#[({g:=0,fn,pos,act:=.mark (.acquire wg)}:aP)]).counts i):=by
  intro i x D K;rcases h'.jn i x D K with y|y|⟨k,z,S,T,J,L,M⟩
  ·simp_all
  ·simp_all
  ·obtain⟨p,A⟩:=H k J L;obtain⟨I,F⟩:=h.tZ k p A;have U:=bT I;obtain⟨R,Q⟩:=h'.tZ k p A;exact .inl ⟨t.size,_,C,rfl,.inr ((M p A).hb (.single (.inr ⟨.marked U (.inr R) (by rw[bD C]) (fun k _ _=>h'.norel.2 k),Q,yn hd⟩)))⟩
 refine⟨h'.clean,fun i x D K=>(known i x D K).imp id fun y=>⟨y.1,y.2.1⟩,fun i g O P N=>?_,?_,Y⟩
 ·obtain⟨x,D,K,_⟩:=id N;rcases known i x D K with⟨q,z,I,F,R⟩|⟨_,_,y⟩
  ·rcases R with rfl|R
   ·rw[g?_of I]at O;simp_all
   ·exact⟨q,by rw[g?_of I,F],R⟩
  ·simp_all
 ·rw[Deaf_push];simpa[deafStep]using hd
theorem PT.init(h:Past Jw B t)(N:0<b)(V:∀l,cls l≠.no->¬Jw l)(A:∀l g,cls l=.own g->g=0)(R:∀l,l.isMemory=false->cls l=.no)(F:∀l,cls l=.at->jl l)(M:∀l,Jw l->jl l)
  (hrel:cx mu t/\cx wg t):PT b 0 mu wg jl cls t none (fun _=>none):=by
 have J:∀i x,aL t i=some x->cls x.loc≠.no->aI t 0 i:=by
  intro i x K Y;have U:x.loc.isMemory=true:=by
   cases e:x.loc.isMemory with
   |true=>rfl
   |false=>exact absurd (R _ e) Y
  rcases h.known i x K U with y|y
  ·exact y
  ·simp_all
 have only:∀{g:Nat} {i:Nat},aI t 0 i->Started b 0 g->aI t g i:=by
  intro g i hk H;rcases H with rfl|H
  ·omega
  ·omega
 refine⟨h.clean,fun i x K Y=>.inr (.inr fun g H=>only (J i x K (by rw[Y];simp)) H),fun i x K Y hw g H=>only (J i x K (by rw[Y];simp)) H,fun i x g K Y=>?_,fun i x K Y=>.inl fun g H=>only (J i x K (by rw[Y];simp)) H,fun i x K U=>?_,fun k p O=>by simp at O,hrel,trivial,R,F,N⟩
 ·rw[A _ _ Y];simp_all
 ·rcases h.known i x K U with y|⟨y1,y2⟩
  ·exact .inl y
  ·by_cases Y:t.counts i
   ·obtain⟨z,L,S⟩:=cW K;by_cases D:z.g=0
    ·have:=knows_own L;rw[D]at this;exact .inl this
    ·obtain⟨q,P,I⟩:=h.over i z.g (by simp[cQ,L]) D Y;obtain⟨y,Q,C⟩:=bQ.1 P;exact .inl ⟨q,y,Q,C,.inr I⟩
   ·exact .inr (.inl ⟨M _ y1,y2,Y⟩)
end
end Ph
namespace Lock
structure Word where
 L:Bool
 K:Bool
 S:Bool
 W:Nat
 deriving DecidableEq
def Word.zero:Word:=⟨false,false,false,0⟩
def bn(b:Bool):=if b then 1 else 0
inductive PC where
 |out
 |l0
 |rd (aw sv:Bool) (it:Nat)
 |hw (old:Word) (aw sv:Bool) (it:Nat)
 |c1 (old:Word) (it:Nat)
 |c2 (old:Word) (aw sv:Bool) (it:Nat)
 |s1 (sv:Bool)
 |t2
 |r2 (sv:Bool)
 |a1 (old:Word) (sv:Bool)
 |cr
 |uc (old:Word)
 |ur
 |us
 |uh
def hd(old:Word)(aw sv:Bool)(it:Nat)(lG:Bool):PC:=
 if old.L=true/\old.S=false/\it<4/\lG=true then(if aw=false/\old.K=false/\old.W≠0 then .c1 old it else .rd aw sv (it+1))else .c2 old aw sv it
def hr(m:Word)(aw sv:Bool)(it:Nat):PC:=if m.L=true/\m.S=false then .hw m aw sv it else .c2 m aw sv it
def nw(old:Word)(aw sv:Bool):Word:=
 ⟨if old.S then old.L else true,if aw then false else old.K,old.S||(sv&&old.L),if old.L||old.S then old.W+1 else old.W⟩
def dec(m:Word):PC:=if m.W=0\/m.L=true\/m.K=true\/m.S=true then .out else .uc m
def low(m:Word):={m with L:=false}
inductive Mv:PC->Word->Nat->PC->Word->Nat->Prop where
 |E3 (c:Nat):Mv .l0 .zero c .cr ⟨true,false,false,0⟩ c
 |KA (m:Word) (c:Nat) (h:m≠.zero):Mv .l0 m c (.rd false false 0) m c
 |rd (m:Word) (c:Nat) (aw sv:Bool) (it:Nat):Mv (.rd aw sv it) m c (hr m aw sv it) m c
 |hw (m old:Word) (c:Nat) (aw sv:Bool) (it:Nat) (lG:Bool):Mv (.hw old aw sv it) m c (hd old aw sv it lG) m c
 |KC (m:Word) (c:Nat) (it:Nat):Mv (.c1 m it) m c (.rd true false (it+1)) {m with K:=true} c
 |KD (m old:Word) (c:Nat) (it:Nat) (h:m≠old):Mv (.c1 old it) m c (.rd false false (it+1)) m c
 |E4 (m:Word) (c:Nat) (aw sv:Bool) (it:Nat):Mv (.c2 m aw sv it) m c (if m.L=false/\m.S=false then .cr else .s1 sv) (nw m aw sv) c
 |KF (m old:Word) (c:Nat) (aw sv:Bool) (it:Nat) (h:m≠old):Mv (.c2 old aw sv it) m c (.rd aw sv it) m c
 |KG (m:Word) (c:Nat):Mv (.s1 false) m (c+1) .t2 m c
 |KH (m:Word) (c:Nat):Mv (.s1 true) m (c+1) (.r2 true) m c
 |t2 (m:Word) (c:Nat) (sv:Bool):Mv .t2 m c (.r2 sv) m c
 |E5 (m:Word) (c:Nat) (sv:Bool) (h:m.S=false):Mv (.r2 sv) m c (hr m true sv 0) m c
 |KI (m:Word) (c:Nat) (sv:Bool) (h:m.S=true):Mv (.r2 sv) m c (.a1 m sv) m c
 |a1 (m old:Word) (c:Nat) (sv:Bool):Mv (.a1 old sv) m c .cr ⟨true,m.K,if sv=false\/old.W=1 then false else m.S,m.W-1⟩ c
 |u0 (m:Word) (c:Nat):Mv .cr m c (if m.S=true then .uh else dec (low m)) (low m) c
 |BB (m:Word) (c:Nat):Mv (.uc m) m c .us {m with W:=m.W-1,K:=true} c
 |BC (m old:Word) (c:Nat) (h:m≠old):Mv (.uc old) m c .ur m c
 |ur (m:Word) (c:Nat):Mv .ur m c (dec m) m c
 |us (m:Word) (c:Nat):Mv .us m c .out m (c+1)
 |uh (m:Word) (c:Nat):Mv .uh m c .out m (c+1)
def ib(f:PC->Nat)(gT:Nat->PC)
 |0=>0
 |k+1=>ib f gT k+f (gT k)
def put(gT:Nat->PC)(i:Nat)(p:PC):=fun j=>if j=i then p else gT j
theorem Q2(f:PC->Nat)(gT:Nat->PC)(i:Nat)(p:PC):∀n,n<=i->ib f (put gT i p) n=ib f gT n
 |0,_=>rfl
 |n+1,h=>by
  have e:put gT i p n=gT n:=by unfold put;rw[if_neg (by omega)]
  rw[ib,ib,Q2 f gT i p n (by omega),e]
theorem tL(f:PC->Nat)(gT:Nat->PC)(i:Nat)(p:PC):∀n,i<n->ib f (put gT i p) n+f (gT i)=ib f gT n+f p
 |0,h=>by omega
 |n+1,h=>by
  rw[ib,ib];by_cases Y:i=n
  ·subst Y;have e:put gT i p i=p:=by unfold put;simp_all
   rw[Q2 f gT i p i (ao _),e];omega
  ·have:=tL f gT i p n (by omega);have e:put gT i p n=gT n:=by unfold put;rw[if_neg (by omega)]
   rw[e];omega
theorem m_(f:PC->Nat)(gT:Nat->PC):∀n i,i<n->f (gT i)<=ib f gT n
 |0,i,h=>by omega
 |n+1,i,h=>by
  rw[ib];by_cases Y:i=n
  ·simp_all
  ·have:=m_ f gT n i (by omega);omega
theorem Ix(f:PC->Nat)(gT:Nat->PC):∀n i j,i<n->j<n->i≠j->f (gT i)+f (gT j)<=ib f gT n
 |0,i,j,h,_,_=>by omega
 |n+1,i,j,h,k,Y=>by
  rw[ib];by_cases K:i=n
  ·subst K;have:=m_ f gT i j (by omega);omega
  ·by_cases H:j=n
   ·subst H;have:=m_ f gT j i (by omega);omega
   ·have:=Ix f gT n i j (by omega) (by omega) Y;omega
theorem Q3(f:PC->Nat)(gT:Nat->PC):∀n,0<ib f gT n->∃i,i<n/\0<f (gT i)
 |0,h=>by simp[ib]at h
 |n+1,h=>by
  rw[ib]at h;by_cases Y:0<f (gT n)
  ·exact⟨n,by omega,Y⟩
  ·obtain⟨i,H,K⟩:=Q3 f gT n (by omega);exact⟨i,by omega,K⟩
def jR:PC->Nat|.cr=>1|_=>0
def jN:PC->Nat|.rd aw _ _=>bn aw|.hw _ aw _ _=>bn aw|.c2 _ aw _ _=>bn aw|_=>0
def g_:PC->Nat|.r2 _=>1|.t2=>1|_=>0
def iX:PC->Nat|.a1 .. =>1|_=>0
def jJ:PC->Nat|.s1 _=>1|_=>0
def kQ:PC->Nat|.uc _=>1|.ur=>1|_=>0
def jY:PC->Nat|.us=>1|_=>0
def kq:PC->Nat|.uh=>1|_=>0
def Ok(m:Word):PC->Prop
 |.rd aw sv it=>(sv=true->aw=true)/\it<=4
 |.hw old aw sv it=>(sv=true->aw=true)/\(aw=true->old.K=true)/\it<=4/\old.L=true/\old.S=false
 |.c1 old it=>old.L=true/\old.S=false/\old.K=false/\0<old.W/\it<4
 |.c2 old aw sv it=>(sv=true->aw=true)/\(aw=true->old.K=true)/\it<=4
 |.a1 old sv=>0<old.W/\old.W<=m.W
 |.uc old=>old.L=false/\old.S=false/\old.K=false/\0<old.W
 |_=>True
structure Inv(gT:Nat->PC)(n:Nat)(m:Word)(c:Nat):Prop where
 ok:∀i,i<n->Ok m (gT i)
 held:ib jR gT n=bn m.L
 calm:m.S=false->bn m.K=ib jN gT n+ib g_ gT n+c+ib jY gT n/\ib jJ gT n=m.W+c+ib jY gT n/\ib kq gT n=0/\ib iX gT n=0/\(m.L=false->m.K=false->0<m.W->0<ib kQ gT n)
 lW:m.S=true->m.K=false/\ib jN gT n=0/\ib jY gT n=0/\bn m.L+ib kq gT n+c+ib g_ gT n+ib iX gT n=1/\ib jJ gT n+ib g_ gT n+ib iX gT n=m.W/\0<m.W
theorem Inv.one{gT:Nat->PC}{n:Nat}{m:Word}{c:Nat}(h:Inv gT n m c){j:Nat}(A:i<n)(F:j<n)(H:gT i=.cr)(R:gT j=.cr):i=j:=by
 by_cases Y:i=j
 ·omega
 ·have:=Ix jR gT n i j A F Y;rw[H,R,h.held]at this;have K:jR .cr=1:=rfl;have:bn m.L<=1:=by unfold bn;split<;>omega
  omega
theorem rB(b:Bool):bn b<=1:=by unfold bn;split<;>omega
theorem Inv.live{gT:Nat->PC}{n:Nat}{m:Word}{c:Nat}(h:Inv gT n m c)(V:i<n){sv:Bool}(F:gT i=.s1 sv)(G:c=0):
  ∃j,j<n/\(∀sv,gT j≠.s1 sv)/\gT j≠.out:=by
 have T:=m_ jJ gT n i V;rw[F]at T;have X:jJ (.s1 sv)=1:=rfl;have fin:∀f,(∀sv,f (.s1 sv)=0)->f .out=0->0<ib f gT n->∃j,j<n/\(∀sv,gT j≠.s1 sv)/\gT j≠.out:=by
  intro f f1 f2 Q;obtain⟨j,P,O⟩:=Q3 f gT n Q;refine⟨j,P,fun sv e=>?_,fun e=>?_⟩
  ·rw[e,f1]at O;omega
  ·simp_all
 have M:=h.held;by_cases Y:m.L=true
 ·exact fin jR (fun _=>rfl) rfl (by rw[M,Y];decide)
 ·rw[cD]at Y;by_cases D:m.S=true
  ·obtain⟨A,C,J,U,B,Z⟩:=h.lW D;rw[Y]at U;have N:bn false=0:=rfl;by_cases I:0<ib kq gT n
   ·exact fin _ (fun _=>rfl) rfl I
   ·by_cases R:0<ib g_ gT n
    ·exact fin g_ (fun _=>rfl) rfl R
    ·exact fin iX (fun _=>rfl) rfl (by omega)
  ·rw[cD]at D;obtain⟨A,C,J,U,B⟩:=h.calm D;by_cases I:0<ib jY gT n
   ·exact fin _ (fun _=>rfl) rfl I
   ·by_cases H:m.K=true
    ·rw[H]at A;have N:bn true=1:=rfl;by_cases R:0<ib g_ gT n
     ·exact fin g_ (fun _=>rfl) rfl R
     ·exact fin jN (fun _=>rfl) rfl (by omega)
    ·rw[cD]at H;exact fin _ (fun _=>rfl) rfl (B Y H (by omega))
theorem aeu{m m':Word}(h:m.W<=m'.W){p:PC}(k:Ok m p):Ok m' p:=by
 cases p with
 |a1 old sv=>exact⟨k.1,aV k.2 h⟩
 |_=>exact k
theorem mG{gT:Nat->PC}{n:Nat}{m m':Word}{c:Nat}{p':PC}(h:Inv gT n m c)(R:Ok m' p')(Y:m.W<=m'.W\/∀j,j<n->j≠i->iX (gT j)=0):
  ∀j,j<n->Ok m' (put gT i p' j):=by
 intro j H;unfold put;split
 ·omega
 ·rename_i K;have k:=h.ok j H;rcases Y with Y|Y
  ·exact aeu Y k
  ·have:=Y j H K;generalize gT j=p at *;cases p with
   |a1 old sv=>simp[iX]at this
   |_=>exact k
theorem aev{gT:Nat->PC}{n:Nat}(h:ib iX gT n=0):∀j,j<n->j≠i->iX (gT j)=0:=fun j Y _=>by
 have:=m_ iX gT n j Y;omega
theorem agL{gT:Nat->PC}{n:Nat}(H:i<n)(h:ib iX gT n<=1)(R:iX (gT i)=1):∀j,j<n->j≠i->iX (gT j)=0:=fun j K Y=>by
 have:=Ix iX gT n i j H K (fun e=>Y e.symm);omega
structure aj7(gT:Nat->PC)(n i:Nat)(p p':PC):Prop where
 H:ib jR (put gT i p') n+jR p=ib jR gT n+jR p'
 A:ib jN (put gT i p') n+jN p=ib jN gT n+jN p'
 G:ib g_ (put gT i p') n+g_ p=ib g_ gT n+g_ p'
 Ga:ib iX (put gT i p') n+iX p=ib iX gT n+iX p'
 Q:ib jJ (put gT i p') n+jJ p=ib jJ gT n+jJ p'
 U1:ib kQ (put gT i p') n+kQ p=ib kQ gT n+kQ p'
 U2:ib jY (put gT i p') n+jY p=ib jY gT n+jY p'
 U3:ib kq (put gT i p') n+kq p=ib kq gT n+kq p'
 gH:jR p<=ib jR gT n
 gA:jN p<=ib jN gT n
 gG:g_ p<=ib g_ gT n
 mQ:iX p<=ib iX gT n
 gQ:jJ p<=ib jJ gT n
 gU1:kQ p<=ib kQ gT n
 gU2:jY p<=ib jY gT n
 gU3:kq p<=ib kq gT n
theorem nI{gT:Nat->PC}{n:Nat}{p:PC}(Y:i<n)(e:gT i=p)(p':PC):aj7 gT n i p p':=by
 subst e;exact⟨tL _ _ _ _ _ Y,tL _ _ _ _ _ Y,tL _ _ _ _ _ Y,tL _ _ _ _ _ Y,tL _ _ _ _ _ Y,tL _ _ _ _ _ Y,tL _ _ _ _ _ Y,tL _ _ _ _ _ Y,
  m_ _ _ _ _ Y,m_ _ _ _ _ Y,m_ _ _ _ _ Y,m_ _ _ _ _ Y,m_ _ _ _ _ Y,m_ _ _ _ _ Y,m_ _ _ _ _ Y,m_ _ _ _ _ Y⟩
theorem tq{gT:Nat->PC}{n:Nat}{m:Word}{c:Nat}{p p':PC}(h:Inv gT n m c)(F:i<n)(e:gT i=p)(R:Ok m p')
  (V:jR p'=jR p)(W:jN p'=jN p)(z:g_ p'=g_ p)(a:iX p'=iX p)(h5:jJ p'=jJ p)(h6:kQ p'=kQ p)(h7:jY p'=jY p)(h8:kq p'=kq p):Inv (put gT i p') n m c:=by
 have s:=nI F e p';have P:=s.H;have N:=s.A;have O:=s.G;have K:=s.Ga;have S:=s.Q;have J:=s.U1;have L:=s.U2;have M:=s.U3;refine⟨mG h R (.inl (ao _)),?_,fun Y=>?_,fun Y=>?_⟩
 ·have:=h.held;omega
 ·obtain⟨D,I,U,B,C⟩:=h.calm Y;simp_all
 ·obtain⟨D,I,U,B,C,T⟩:=h.lW Y;simp_all
theorem acC(m:Word)(aw sv:Bool)(it:Nat)(lG:Bool):jR (hd m aw sv it lG)=0/\jN (hd m aw sv it lG)=bn aw/\g_ (hd m aw sv it lG)=0/\iX (hd m aw sv it lG)=0/\jJ (hd m aw sv it lG)=0/\kQ (hd m aw sv it lG)=0/\jY (hd m aw sv it lG)=0/\kq (hd m aw sv it lG)=0:=by
 unfold hd;split
 ·split
  ·rename_i h;rw[h.1];exact⟨rfl,rfl,rfl,rfl,rfl,rfl,rfl,rfl⟩
  ·exact⟨rfl,rfl,rfl,rfl,rfl,rfl,rfl,rfl⟩
 ·exact⟨rfl,rfl,rfl,rfl,rfl,rfl,rfl,rfl⟩
theorem aiq(m:Word)(aw sv:Bool)(it:Nat)(lG:Bool)(Y:sv=true->aw=true)(H:aw=true->m.K=true)(R:it<=4):Ok m (hd m aw sv it lG):=by
 unfold hd;split
 ·rename_i h;split
  ·rename_i k;exact⟨h.1,h.2.1,k.2.1,cK k.2.2,h.2.2.1⟩
  ·exact⟨Y,by omega⟩
 ·exact⟨Y,H,R⟩
theorem P7(m:Word)(aw sv:Bool)(it:Nat):jR (hr m aw sv it)=0/\jN (hr m aw sv it)=bn aw/\g_ (hr m aw sv it)=0/\iX (hr m aw sv it)=0/\jJ (hr m aw sv it)=0/\kQ (hr m aw sv it)=0/\jY (hr m aw sv it)=0/\kq (hr m aw sv it)=0:=by
 unfold hr;split<;>exact⟨rfl,rfl,rfl,rfl,rfl,rfl,rfl,rfl⟩
theorem SM(m:Word)(aw sv:Bool)(it:Nat)(Y:sv=true->aw=true)(H:aw=true->m.K=true)(R:it<=4):Ok m (hr m aw sv it):=by
 unfold hr;split
 ·rename_i h;exact⟨Y,H,R,h.1,h.2⟩
 ·exact⟨Y,H,R⟩
theorem awake{gT:Nat->PC}{n:Nat}{m:Word}{c:Nat}{p:PC}(h:Inv gT n m c)(R:i<n)(e:gT i=p)(Y:0<jN p\/(0<g_ p/\m.S=false)):m.K=true/\m.S=false:=by
 have g1:=m_ jN gT n i R;have D:=m_ g_ gT n i R;rw[e]at g1 D;have H:m.S=false:=by
  rcases Y with Y|Y
  ·cases A:m.S with
   |false=>rfl
   |true=>have:=(h.lW A).2.1;omega
  simp_all
 refine⟨?_,H⟩;cases I:m.K with
 |true=>rfl
 |false=>
  have k:=(h.calm H).1;rw[I]at k;have:bn false=0:=rfl;omega
def KJ(m:Word):PC->Prop
 |.rd aw _ _=>aw=true->m.K=true
 |.r2 _=>(m.S=true->m.L=false/\m.K=false/\0<m.W)/\(m.S=false->m.K=true)
 |.a1 _ _=>m.L=false/\m.S=true/\0<m.W
 |.cr=>m.L=true
 |_=>True
theorem Inv.pre{gT:Nat->PC}{n:Nat}{m:Word}{c:Nat}(h:Inv gT n m c)(H:i<n):KJ m (gT i):=by
 have gH:=m_ jR gT n i H;have gG:=m_ g_ gT n i H;have mQ:=m_ iX gT n i H;have b0:bn false=0:=rfl;have b1:bn true=1:=rfl;cases e:gT i with
 |rd aw sv it=>exact fun A=>(awake h H e (.inl (by simp[jN,A,b1]))).1
 |r2 sv=>
  rw[e]at gG;simp[g_]at gG;refine⟨fun Y=>?_,fun Y=>(awake h H e (.inr ⟨by simp[g_],Y⟩)).1⟩;obtain⟨I,U,B,D,C,R⟩:=h.lW Y;refine⟨?_,I,R⟩;cases K:m.L with
  |false=>rfl
  |true=>rw[K]at D;omega
 |a1 old sv=>
  rw[e]at mQ;simp[iX]at mQ;have Y:m.S=true:=by
   cases Y:m.S with
   |true=>rfl
   |false=>have:=(h.calm Y).2.2.2.1;omega
  obtain⟨I,U,B,D,C,R⟩:=h.lW Y;refine⟨?_,Y,R⟩;cases K:m.L with
  |false=>rfl
  |true=>rw[K]at D;omega
 |cr=>
  rw[e]at gH;simp[jR]at gH;have:=h.held;show m.L=true
  cases K:m.L with
  |true=>rfl
  |false=>rw[K]at this;omega
 |_=>trivial
theorem Inv.step{gT:Nat->PC}{n i:Nat}{m m':Word}{c c':Nat}{p p':PC}(h:Inv gT n m c)(R:i<n)(e:gT i=p)(hm:Mv p m c p' m' c'):Inv (put gT i p') n m' c':=by
 have I:=h.ok i R;rw[e]at I;have b0:bn false=0:=rfl;have b1:bn true=1:=rfl;cases hm with
 |E3=>
  have s:=nI R e .cr;obtain⟨O,sA,sG,D,P,s1,M,N,gH,gA,gG,mQ,gQ,g1,Q,T⟩:=s;simp only[jR,jN,g_,iX,jJ,kQ,jY,kq]at *;obtain⟨H,C,F,A,U⟩:=h.calm rfl;have B:=h.held;simp only[Word.zero]at *;exact⟨mG h trivial (.inl (ao _)),by simp only;omega,fun _=>⟨by simp only;omega,by simp only;omega,by omega,by omega,fun a=>by simp at a⟩,fun a=>by simp at a⟩
 |KA _ _ E=>exact tq h R e ⟨fun a=>by simp at a,by omega⟩ rfl rfl rfl rfl rfl rfl rfl rfl
 |rd _ _ aw sv it=>
  have X:aw=true->m.K=true:=fun l=>(awake h R e (.inl (by simp[jN,l,b1]))).1;obtain⟨a1,a2,a3,a4,a5,j,z,f⟩:=P7 m aw sv it;exact tq h R e (SM m aw sv it I.1 X I.2) a1 a2 a3 a4 a5 j z f
 |hw _ old _ aw sv it lG=>
  obtain⟨a1,a2,a3,a4,a5,j,z,f⟩:=acC old aw sv it lG;have hk:Ok old (hd old aw sv it lG):=aiq old aw sv it lG I.1 I.2.1 I.2.2.1;refine tq h R e ?_ a1 a2 a3 a4 a5 j z f;generalize hd old aw sv it lG=p at *;cases p with
  |a1 o s=>simp[iX]at a4
  |_=>exact hk
 |KC _ _ it=>
  obtain⟨r,G,g,y,q5⟩:=I;have s:=nI R e (.rd true false (it+1));obtain⟨O,sA,sG,D,P,s1,M,N,gH,gA,gG,mQ,gQ,g1,Q,T⟩:=s;simp only[jR,jN,g_,iX,jJ,kQ,jY,kq]at *;obtain⟨H,C,F,A,U⟩:=h.calm G;have B:=h.held;rw[g]at H;exact⟨mG h ⟨fun _=>rfl,by omega⟩ (.inl (ao _)),by simp only;omega,fun _=>⟨by simp only;omega,by simp only;omega,by omega,by omega,fun a b=>by simp at b⟩,fun a=>by simp only at a;rw[G]at a;cases a⟩
 |KD _ _ _ it E=>exact tq h R e ⟨fun a=>by simp at a,by have:=I.2.2.2.2;omega⟩ rfl rfl rfl rfl rfl rfl rfl rfl
 |E4 _ _ aw sv it=>
  obtain⟨r,G,g⟩:=I;have k:jN (.c2 m aw sv it)=bn aw:=rfl;cases J:m.L with
  |false=>
   cases Y:m.S with
   |false=>
    rw[if_pos ⟨rfl,rfl⟩];have s:=nI R e .cr;obtain⟨O,sA,sG,D,P,s1,M,N,gH,gA,gG,mQ,gQ,g1,Q,T⟩:=s;simp only[jR,jN,g_,iX,jJ,kQ,jY,kq]at *;obtain⟨H,C,F,A,U⟩:=h.calm Y;have B:=h.held;rw[J]at B;have en:nw m aw sv=⟨true,if aw then false else m.K,false,m.W⟩:=by unfold nw;rw[J,Y];simp
    rw[en];refine⟨mG h trivial (.inl (ao _)),by simp only;omega,fun _=>⟨?_,by simp only;omega,by omega,by omega,fun a=>by simp at a⟩,fun a=>by simp at a⟩;cases aw with
    |false=>simp only[cC,if_false];omega
    |true=>
     rw[G rfl]at H;simp only[if_true];omega
   |true=>
    rw[if_neg (by simp)];have s:=nI R e (.s1 sv);obtain⟨O,sA,sG,D,P,s1,M,N,gH,gA,gG,mQ,gQ,g1,Q,T⟩:=s;simp only[jR,jN,g_,iX,jJ,kQ,jY,kq]at *;obtain⟨H,C,F,A,U,V⟩:=h.lW Y;have B:=h.held;have X:aw=false:=by
     cases aw with
     |false=>rfl
     |true=>omega
    subst X;rw[J]at B A;have en:nw m false sv=⟨false,m.K,true,m.W+1⟩:=by unfold nw;rw[J,Y];simp
    rw[en];exact⟨mG h trivial (.inl (by simp)),by simp only;omega,fun a=>by simp at a,fun _=>⟨H,by omega,by omega,by simp only;omega,by simp only;omega,by simp⟩⟩
  |true=>
   rw[if_neg (by simp)];have s:=nI R e (.s1 sv);obtain⟨O,sA,sG,D,P,s1,M,N,gH,gA,gG,mQ,gQ,g1,Q,T⟩:=s;simp only[jR,jN,g_,iX,jJ,kQ,jY,kq]at *;have B:=h.held;rw[J]at B;cases Y:m.S with
   |false=>
    obtain⟨H,C,F,A,U⟩:=h.calm Y;cases sv with
    |false=>
     have en:nw m aw false=⟨true,if aw then false else m.K,false,m.W+1⟩:=by unfold nw;rw[J,Y];simp
     rw[en];refine⟨mG h trivial (.inl (by simp)),by simp only;omega,fun _=>⟨?_,by simp only;omega,by omega,by omega,fun a=>by simp at a⟩,fun a=>by simp at a⟩;cases aw with
     |false=>simp only[cC,if_false];omega
     |true=>
      rw[G rfl]at H;simp only[if_true];omega
    |true=>
     have X:=r rfl;subst X;rw[G rfl]at H;have en:nw m true true=⟨true,false,true,m.W+1⟩:=by unfold nw;rw[J,Y];simp
     rw[en];exact⟨mG h trivial (.inl (by simp)),by simp only;omega,fun a=>by simp at a,fun _=>⟨rfl,by omega,by omega,by simp only;omega,by simp only;omega,by simp⟩⟩
   |true=>
    obtain⟨H,C,F,A,U,V⟩:=h.lW Y;have X:aw=false:=by
     cases aw with
     |false=>rfl
     |true=>omega
    subst X;rw[J]at A;have en:nw m false sv=⟨true,m.K,true,m.W+1⟩:=by unfold nw;rw[J,Y];simp
    rw[en];exact⟨mG h trivial (.inl (by simp)),by simp only;omega,fun a=>by simp at a,fun _=>⟨H,by omega,by omega,by simp only;omega,by simp only;omega,by simp⟩⟩
 |KF _ _ _ aw sv it E=>exact tq h R e ⟨I.1,I.2.2⟩ rfl rfl rfl rfl rfl rfl rfl rfl
 |KG=>
  have s:=nI R e .t2;obtain⟨O,sA,sG,D,P,s1,M,N,gH,gA,gG,mQ,gQ,g1,Q,T⟩:=s;simp only[jR,jN,g_,iX,jJ,kQ,jY,kq]at *;have B:=h.held;refine⟨mG h trivial (.inl (ao _)),by omega,fun Y=>?_,fun Y=>?_⟩
  ·obtain⟨H,C,F,A,U⟩:=h.calm Y;exact⟨by omega,by omega,by omega,by omega,fun a b d=>by have:=U a b d;omega⟩
  ·obtain⟨H,C,F,A,U,V⟩:=h.lW Y;exact⟨H,by omega,by omega,by omega,by omega,V⟩
 |KH=>
  have s:=nI R e (.r2 true);obtain⟨O,sA,sG,D,P,s1,M,N,gH,gA,gG,mQ,gQ,g1,Q,T⟩:=s;simp only[jR,jN,g_,iX,jJ,kQ,jY,kq]at *;have B:=h.held;refine⟨mG h trivial (.inl (ao _)),by omega,fun Y=>?_,fun Y=>?_⟩
  ·obtain⟨H,C,F,A,U⟩:=h.calm Y;exact⟨by omega,by omega,by omega,by omega,fun a b d=>by have:=U a b d;omega⟩
  ·obtain⟨H,C,F,A,U,V⟩:=h.lW Y;exact⟨H,by omega,by omega,by omega,by omega,V⟩
 |t2 _ _ sv=>exact tq h R e trivial rfl rfl rfl rfl rfl rfl rfl rfl
 |E5 _ _ sv Y=>
  have l:=awake h R e (.inr ⟨by simp[g_],Y⟩);obtain⟨a1,a2,a3,a4,a5,j,z,f⟩:=P7 m true sv 0;have s:=nI R e (hr m true sv 0);obtain⟨O,sA,sG,D,P,s1,M,N,gH,gA,gG,mQ,gQ,g1,Q,T⟩:=s;rw[a1]at O;rw[a2]at sA;rw[a3]at sG;rw[a4]at D;rw[a5]at P;rw[j]at s1;rw[z]at M;rw[f]at N;simp only[jR,jN,g_,iX,jJ,kQ,jY,kq]at *;have B:=h.held;obtain⟨H,C,F,A,U⟩:=h.calm Y;exact⟨mG h (SM m true sv 0 (fun _=>rfl) (fun _=>l.1) (by omega)) (.inl (ao _)),by omega,fun _=>⟨by omega,by omega,by omega,by omega,fun a b d=>by have:=U a b d;omega⟩,fun a=>by rw[Y]at a;cases a⟩
 |KI _ _ sv Y=>
  have s:=nI R e (.a1 m sv);obtain⟨O,sA,sG,D,P,s1,M,N,gH,gA,gG,mQ,gQ,g1,Q,T⟩:=s;simp only[jR,jN,g_,iX,jJ,kQ,jY,kq]at *;have B:=h.held;obtain⟨H,C,F,A,U,V⟩:=h.lW Y;exact⟨mG h ⟨V,ao _⟩ (.inl (ao _)),by omega,(fun a=>by rw[Y]at a;cases a),fun _=>⟨H,by omega,by omega,by omega,by omega,V⟩⟩
 |a1 _ old _ sv=>
  have s:=nI R e .cr;obtain⟨O,sA,sG,D,P,s1,M,N,gH,gA,gG,mQ,gQ,g1,Q,T⟩:=s;simp only[jR,jN,g_,iX,jJ,kQ,jY,kq]at *;have B:=h.held;have Y:m.S=true:=by
   cases Y:m.S with
   |true=>rfl
   |false=>have:=(h.calm Y).2.2.2.1;omega
  obtain⟨H,C,F,A,U,V⟩:=h.lW Y;have J:m.L=false:=by
   cases J:m.L with
   |false=>rfl
   |true=>rw[J]at A;omega
  rw[J]at A B;have v:0<old.W/\old.W<=m.W:=I;refine⟨mG h trivial (.inr (agL R (by omega) (by rw[e];rfl))),by simp only;omega,?_,?_⟩
  ·intro Z;simp only at Z⊢;rw[H];exact⟨by omega,by omega,by omega,by omega,fun a=>by simp at a⟩
  ·intro Z;simp only at Z⊢;split at Z
   ·simp at Z
   ·rename_i E;have t:¬old.W=1:=fun x=>E (.inr x);exact⟨H,by omega,by omega,by omega,by omega,by omega⟩
 |u0=>
  have B:=h.held;have l1:bn (low m).L=0:=rfl;have l2:(low m).W=m.W:=rfl;have w:bn (low m).K=bn m.K:=rfl;have l4:(low m).S=m.S:=rfl;have gH:=m_ jR gT n i R;rw[e]at gH;have J:m.L=true:=by
   cases J:m.L with
   |true=>rfl
   |false=>rw[J]at B;simp only[jR]at gH;omega
  rw[J]at B;cases Y:m.S with
  |true=>
   rw[if_pos rfl];have s:=nI R e .uh;obtain⟨O,sA,sG,D,P,s1,M,N,gH,gA,gG,mQ,gQ,g1,Q,T⟩:=s;simp only[jR,jN,g_,iX,jJ,kQ,jY,kq]at *;obtain⟨H,C,F,A,U,V⟩:=h.lW Y;rw[J]at A;exact⟨mG h trivial (.inl (ao _)),by omega,(fun a=>by rw[l4,Y]at a;cases a),fun _=>⟨H,by omega,by omega,by omega,by omega,V⟩⟩
  |false=>
   rw[if_neg (by simp)];obtain⟨H,C,F,A,U⟩:=h.calm Y;by_cases hd:m.W=0\/m.K=true
   ·have q:dec (low m)=.out:=by
     unfold dec;rw[if_pos];rcases hd with hd|hd
     ·exact .inl hd
     ·exact .inr (.inr (.inl hd))
    rw[q];have s:=nI R e .out;obtain⟨O,sA,sG,D,P,s1,M,N,gH,gA,gG,mQ,gQ,g1,Q,T⟩:=s;simp only[jR,jN,g_,iX,jJ,kQ,jY,kq]at *;refine⟨mG h trivial (.inl (ao _)),by omega,fun _=>⟨by omega,by omega,by omega,by omega,fun _ a b=>?_⟩,fun a=>by rw[l4,Y]at a;cases a⟩;rcases hd with hd|hd
    ·omega
    ·have a':m.K=false:=a;rw[hd]at a';cases a'
   ·have q:dec (low m)=.uc (low m):=by
     unfold dec;rw[if_neg];rintro(x|x|x|x)
     ·exact hd (.inl x)
     ·simp[low]at x
     ·exact hd (.inr x)
     ·rw[l4,Y]at x;cases x
    rw[q];have s:=nI R e (.uc (low m));obtain⟨O,sA,sG,D,P,s1,M,N,gH,gA,gG,mQ,gQ,g1,Q,T⟩:=s;simp only[jR,jN,g_,iX,jJ,kQ,jY,kq]at *;have u:m.K=false:=by simpa using fun x=>hd (.inr x)
    refine⟨mG h ⟨rfl,Y,u,cK fun x=>hd (.inl x)⟩ (.inl (ao _)),by omega,fun _=>⟨by omega,by omega,by omega,by omega,fun _ _ _=>by omega⟩,fun a=>by rw[l4,Y]at a;cases a⟩
 |BB=>
  obtain⟨r,G,g,y⟩:=I;have s:=nI R e .us;obtain⟨O,sA,sG,D,P,s1,M,N,gH,gA,gG,mQ,gQ,g1,Q,T⟩:=s;simp only[jR,jN,g_,iX,jJ,kQ,jY,kq]at *;have B:=h.held;obtain⟨H,C,F,A,U⟩:=h.calm G;rw[g]at H;exact⟨mG h trivial (.inr (aev A)),by simp only;omega,fun _=>⟨by simp only;omega,by simp only;omega,by omega,by omega,fun a b=>by simp at b⟩,fun a=>by simp only at a;rw[G]at a;cases a⟩
 |BC _ old _ E=>exact tq h R e trivial rfl rfl rfl rfl rfl rfl rfl rfl
 |ur=>
  by_cases hd:m.W=0\/m.L=true\/m.K=true\/m.S=true
  ·have q:dec m=.out:=if_pos hd;rw[q];have s:=nI R e .out;obtain⟨O,sA,sG,D,P,s1,M,N,gH,gA,gG,mQ,gQ,g1,Q,T⟩:=s;simp only[jR,jN,g_,iX,jJ,kQ,jY,kq]at *;have B:=h.held;refine⟨mG h trivial (.inl (ao _)),by omega,fun Y=>?_,fun Y=>?_⟩
   ·obtain⟨H,C,F,A,U⟩:=h.calm Y;refine⟨by omega,by omega,by omega,by omega,fun a b d=>?_⟩;rcases hd with x|x|x|x
    ·omega
    ·rw[a]at x;cases x
    ·rw[b]at x;cases x
    ·rw[Y]at x;cases x
   ·obtain⟨H,C,F,A,U,V⟩:=h.lW Y;exact⟨H,by omega,by omega,by omega,by omega,V⟩
  ·have q:dec m=.uc m:=if_neg hd;rw[q];refine tq h R e ⟨?_,?_,?_,cK fun x=>hd (.inl x)⟩ rfl rfl rfl rfl rfl rfl rfl rfl
   ·simpa using fun x=>hd (.inr (.inl x))
   ·simpa using fun x=>hd (.inr (.inr (.inr x)))
   ·simpa using fun x=>hd (.inr (.inr (.inl x)))
 |us=>
  have s:=nI R e .out;obtain⟨O,sA,sG,D,P,s1,M,N,gH,gA,gG,mQ,gQ,g1,Q,T⟩:=s;simp only[jR,jN,g_,iX,jJ,kQ,jY,kq]at *;have B:=h.held;refine⟨mG h trivial (.inl (ao _)),by omega,fun Y=>?_,fun Y=>?_⟩
  ·obtain⟨H,C,F,A,U⟩:=h.calm Y;exact⟨by omega,by omega,by omega,by omega,fun a b d=>by have:=U a b d;omega⟩
  ·obtain⟨H,C,F,A,U,V⟩:=h.lW Y;omega
 |uh=>
  have s:=nI R e .out;obtain⟨O,sA,sG,D,P,s1,M,N,gH,gA,gG,mQ,gQ,g1,Q,T⟩:=s;simp only[jR,jN,g_,iX,jJ,kQ,jY,kq]at *;have B:=h.held;refine⟨mG h trivial (.inl (ao _)),by omega,fun Y=>?_,fun Y=>?_⟩
  ·have:=(h.calm Y).2.2.1;omega
  ·obtain⟨H,C,F,A,U,V⟩:=h.lW Y;exact⟨H,by omega,by omega,by omega,by omega,V⟩
def iT:PC->Nat
 |.out=>0|.cr=>1|.uc _=>0|.ur=>0|.us=>0|.uh=>0
 |_=>2
def bw:PC->Nat
 |.out=>0|.l0=>6|.rd aw _ _=>5-bn aw|.hw _ aw _ _=>5-bn aw|.c1 .. =>5|.c2 _ aw _ _=>5-bn aw|.s1 _=>0|.t2=>6|.r2 _=>5|.a1 .. =>4|.cr=>0|.uc _=>9|.ur=>9|.us=>8|.uh=>8
def dw(m:Word):PC->Nat
 |.rd _ _ it=>2 *(5-it)
 |.hw old _ _ it=>if old=m then 2 *(5-it)-1 else 2 *(5-it)+2
 |.c1 old it=>if old=m then 0 else 2 *(5-it)-1
 |.c2 old _ _ it=>if old=m then 0 else 2 *(5-it)+1
 |.uc old=>if old=m then 1 else 3
 |.ur=>2
 |_=>0
theorem aew(m old:Word)(aw sv:Bool)(it:Nat)(lG:Bool)(h:it<=4):iT (hd old aw sv it lG)=2/\bw (hd old aw sv it lG)=5-bn aw/\dw m (hd old aw sv it lG)<dw m (.hw old aw sv it):=by
 unfold hd;split
 ·split
  ·rename_i Y;refine⟨rfl,by rw[Y.1];rfl,?_⟩;simp only[dw];split<;>omega
  ·refine⟨rfl,rfl,?_⟩;simp only[dw];split<;>omega
 ·refine⟨rfl,rfl,?_⟩;simp only[dw];split<;>omega
theorem Q4(m:Word)(aw sv:Bool)(it:Nat)(h:it<=4):iT (hr m aw sv it)=2/\bw (hr m aw sv it)=5-bn aw/\dw m (hr m aw sv it)<2 *(5-it):=by
 unfold hr;split
 ·refine⟨rfl,rfl,?_⟩;simp[dw,if_true];omega
 ·refine⟨rfl,rfl,?_⟩;simp[dw,if_true];omega
theorem Mv.down{p p':PC}{m m':Word}{c:Nat}(h:Mv p m c p' m' c')(H:Ok m p):
  iT p'<iT p\/(iT p'=iT p/\bw p'+7 *c'<bw p+7 *c)\/(iT p'=iT p/\bw p'+7 *c'=bw p+7 *c/\m'=m/\c'=c/\dw m p'<dw m p):=by
 have b0:bn false=0:=rfl;have b1:bn true=1:=rfl;cases h with
 |E3=>exact .inl (by decide)
 |KA=>exact .inr (.inl ⟨rfl,by simp only[bw];omega⟩)
 |rd _ _ aw sv it=>
  obtain⟨K,D,R⟩:=Q4 m aw sv it H.2;exact .inr (.inr ⟨K,by rw[D];rfl,rfl,rfl,R⟩)
 |hw _ old _ aw sv it lG=>
  obtain⟨K,D,R⟩:=aew m old aw sv it lG H.2.2.1;exact .inr (.inr ⟨K,by rw[D];rfl,rfl,rfl,R⟩)
 |KC _ _ it=>exact .inr (.inl ⟨rfl,by simp only[bw];omega⟩)
 |KD _ old _ it Y=>
  have:=H.2.2.2.2;refine .inr (.inr ⟨rfl,by simp only[bw];omega,rfl,rfl,?_⟩);simp only[dw];rw[if_neg (fun e=>Y e.symm)];omega
 |E4 _ _ aw sv it=>
  by_cases I:m.L=false/\m.S=false
  ·rw[if_pos I];exact .inl (by simp only[iT];omega)
  ·rw[if_neg I];refine .inr (.inl ⟨rfl,?_⟩);simp only[bw];have:=rB aw;omega
 |KF _ old _ aw sv it Y=>
  refine .inr (.inr ⟨rfl,rfl,rfl,rfl,?_⟩);simp only[dw];rw[if_neg (fun e=>Y e.symm)];omega
 |KG=>exact .inr (.inl ⟨rfl,by simp only[bw];omega⟩)
 |KH=>exact .inr (.inl ⟨rfl,by simp only[bw];omega⟩)
 |t2=>exact .inr (.inl ⟨rfl,by simp only[bw];omega⟩)
 |E5 _ _ sv A=>
  obtain⟨K,D,R⟩:=Q4 m true sv 0 (by omega);exact .inr (.inl ⟨K,by rw[D];simp only[bw];omega⟩)
 |KI=>exact .inr (.inl ⟨rfl,by simp only[bw];omega⟩)
 |a1=>exact .inl (by simp only[iT];omega)
 |u0=>
  refine .inl ?_;split
  ·decide
  ·unfold dec;split<;>(simp only[iT];omega)
 |BB=>exact .inr (.inl ⟨rfl,by simp only[bw];omega⟩)
 |BC _ old _ Y=>
  refine .inr (.inr ⟨rfl,rfl,rfl,rfl,?_⟩);simp only[dw];rw[if_neg (fun e=>Y e.symm)];omega
 |ur=>
  unfold dec;split
  ·exact .inr (.inl ⟨rfl,by simp only[bw];omega⟩)
  ·refine .inr (.inr ⟨rfl,rfl,rfl,rfl,?_⟩);simp only[dw,if_true];omega
 |us=>exact .inr (.inl ⟨rfl,by simp only[bw];omega⟩)
 |uh=>exact .inr (.inl ⟨rfl,by simp only[bw];omega⟩)
end Lock
namespace Ph
open Lock (Word bn)
def val(m:Word):Int:=(bn m.L+2 *bn m.K+4 *bn m.S+8 *m.W:Nat)
end Ph
namespace Ph
open Conc Ren
open Lock (Word PC Mv bn)
structure Env where
 Fd:Nat
 Mp:Nat
 Wg:Nat
 tF:aH
 tW:aH
 zc:ai
 Γ:Type
 upd:Γ->Nat->Γ
 mJ:Γ->Option Obj->Prop
namespace Env
variable(E:Env)
abbrev mu:Addr:=⟨E.Fd,0,none⟩
abbrev ms:Addr:=⟨E.Fd,1,none⟩
abbrev st:Addr:=⟨E.Wg,0,none⟩
abbrev sm:Addr:=⟨E.Wg,1,none⟩
def U(a i:Nat):=(a=E.Fd\/a=E.Wg)/\i<2
def MuAt(w:af)(m:Word)(c:Nat):=w.heap[E.Fd]?=some (.cells #[.int .i32 (val m),.int .u32 c,.map (some E.Mp)] E.tF)
def WgAt(w:af)(v wt ws:Nat):Prop:=w.heap[E.Wg]?=some (.cells #[.int .u64 ((v *4294967296+wt:Nat):Int),.int .u32 ws] E.tW)
structure Eff(b:Nat)(w w1:af):Prop where
 heap:∀a,a≠b->w1.heap[a]?=w.heap[a]?
 size:w1.heap.size=w.heap.size
 tape:w1.tape=w.tape
 env:nH w1.os w.os
 output:w1.output=w.output
def EvA(b:Nat)(es:Array _):=(∀e∈es,∃a wr,e=⟨.cell a,wr,true⟩/\a.block=b/\a.off<2/\a.spot=none)\/∃o,o<2/\es=aK ⟨b,o,none⟩
inductive kU where
 |recv
 |ld (x:Nat)
 |lk (p:PC) (x:Nat)
 |le (x:Nat)
 |la (x:Nat)
 |ur (x:E.Γ)
 |ud
 |u0
 |un (p:PC)
 |ue
 |wr
variable(P:aj)(main:Bool)
abbrev Tree(D:(Nat->Prop)->(Nat->Prop)->ak->af->Prop):=Tz P main E.U D
def sa(m:Mark)(Nx:(Nat->Prop)->(Nat->Prop)->ak->af->Prop)(S X:Nat->Prop)(g:ak)(w:af):=
 ∀w2,gU E.U S w w2->∃g1,ah P main g w2=.go g1 w2 #[⟨.mark m,false,true⟩]/\Nx S X g1 w2
def Jy(p:PC)(Nx:PC->(Nat->Prop)->(Nat->Prop)->ak->af->Prop)(S X:Nat->Prop)(g:ak)(w:af):=
 ∀w2 m c,gU E.U S w w2->E.MuAt w2 m c->Lock.Ok m p->Lock.KJ m p->m.W<=8->c<=1->
  (∃sv,p=.s1 sv/\c=0/\ah P main g w2=.go {g with status:=.blocked} w2 #[])\/
  ∃p' m' c' g1 w1 es,Mv p m c p' m' c'/\ah P main g w2=.go g1 w1 es/\E.MuAt w1 m' c'/\Eff E.Fd w2 w1/\EvA E.Fd es/\(c<c'->bu P g=true)/\Nx p' S X g1 w1
def SN(g:ak):=∃q,QuitsD P q 1 g
def ou(P:aj)(Q:ak->Prop):Nat->ak->Prop
 |0,g=>Q g
 |n+1,g=>g.status=.running/\∃Y,(∀w,ah P false g w=.go Y w #[])/\ou P Q n Y
def KM(P:aj)(g:ak):=g.status=.running/\bu P g=true/\∀w2,E.WgAt w2 0 0 0->∃g1 w1 es,ah P false g w2=.go g1 w1 es/\E.WgAt w1 0 0 1/\Eff E.Wg w2 w1/\EvA E.Wg es/\SN P g1
def KN(P:aj)(g:ak):=g.status=.running/\∀w2,E.WgAt w2 0 1 0->∃g1 w1 es,ah P false g w2=.go g1 w1 es/\E.WgAt w1 0 0 0/\Eff E.Wg w2 w1/\EvA E.Wg es/\∃n,ou P (E.KM P) n g1
def KO(P:aj)(g:ak):=g.status=.running/\∀w2,E.WgAt w2 0 1 0->∃g1 es,ah P false g w2=.go g1 w2 es/\EvA E.Wg es/\∃n,ou P (E.KN P) n g1
def KP(P:aj)(g:ak):=g.status=.running/\∀w2 v wt,v<=8->wt<=1->E.WgAt w2 (v+1) wt 0->∃g1 w1 es,ah P false g w2=.go g1 w1 es/\E.WgAt w1 v wt 0/\Eff E.Wg w2 w1/\EvA E.Wg es/\
    ((v=0/\wt=1->∃n,ou P (E.KO P) n g1)/\(¬(v=0/\wt=1)->SN P g1))
def Uq(P:aj)(g:ak):=g.status=.running/\∃g1,(∀w2,ah P false g w2=.go g1 w2 #[⟨.mark .disable,false,true⟩])/\∃n,ou P (E.KP P) n g1
def t_(P:aj)
 |0=>E.KM P
 |1=>E.KN P
 |2=>E.KO P
 |3=>E.KP P
 |_+4=>E.Uq P
variable{E}in
def behind(p:PC)(x:Nat):E.kU:=match p with
 |.cr=>.le x
 |p=>.lk p x
variable{E}in
def xh(p:PC):E.kU:=match p with
 |.out=>.ue
 |p=>.un p
def jw(P:aj)(A:(Nat->Prop)->(Nat->Prop)->ak->af->Prop):Nat->E.kU->(Nat->Prop)->(Nat->Prop)->ak->af->Prop
 |_,.recv,S,X,g,w=>A S X g w
 |0,_,_,_,_,_=>True
 |k+1,pc,S,X,g,w=>g.status=.running/\g.offers=none/\match pc with
  |.recv=>True
  |.ld x=>E.sa P false .disable (E.Tree P false (jw P A k (.lk .l0 x))) S X g w
  |.lk p x=>E.Jy P false p (fun p'=>E.Tree P false (jw P A k (behind p' x))) S X g w
  |.le x=>E.sa P false .enable (E.Tree P false (jw P A k (.la x))) S X g w
  |.la x=>∀w2 γ,gU E.U S w w2->E.mJ γ (w2.heap[E.Mp]?)->∃g1,ah P false g w2=.go g1 w2 #[⟨.mark (.acquire E.mu),false,true⟩]/\E.Tree P false (jw P A k (.ur (E.upd γ x))) (fun a=>S a\/a=E.Mp) (fun a=>X a\/a=E.Mp) g1 w2
  |.ur γ=>∀w2,gU E.U S w w2->E.mJ γ (w2.heap[E.Mp]?)/\∃g1,ah P false g w2=.go g1 w2 #[⟨.mark (.releaseMerge E.mu),false,true⟩]/\E.Tree P false (jw P A k .ud) (fun a=>S a/\a≠E.Mp) (fun a=>X a/\a≠E.Mp) g1 w2
  |.ud=>E.sa P false .disable (E.Tree P false (jw P A k .u0)) S X g w
  |.u0=>E.Jy P false .cr (fun p'=>E.Tree P false (jw P A k (xh p'))) S X g w
  |.un p=>E.Jy P false p (fun p'=>E.Tree P false (jw P A k (xh p'))) S X g w
  |.ue=>E.sa P false .enable (E.Tree P false (jw P A k .recv)) S X g w
  |.wr=>∀w2,gU E.U S w w2->∃g1,ah P false g w2=.go g1 w2 #[⟨.mark (.releaseMerge E.st),false,true⟩]/\∃n,ou P (E.t_ P 4) n g1
end Env
namespace Env
variable{E:Env}{w w1 w2:af}{m m':Word}{c c' v wt ws:Nat}{b:Nat}
theorem Av{b:Nat}{x:ai}{cs:Array _}{t:aH}{fz:Nat×Nat}(h:w.heap[b]?=some (.cells cs t fz)):(w.setCell ⟨b,i,none⟩ x).heap[b]?=some (.cells (cs.setIfInBounds i x) t fz):=by
 rw[setCell_eq_setRow w b i cs t fz x h];exact setRow_heap w b cs _ t fz h
theorem Eff.refl(b:Nat)(w:af):Eff b w w:=⟨fun _ _=>rfl,rfl,rfl,.refl _,rfl⟩
theorem Eff.set(b i:Nat)(x:ai)(w:af):Eff b w (w.setCell ⟨b,i,none⟩ x):=by
 refine⟨fun a Y=>?_,by simp,rfl,.refl _,rfl⟩;simp[World.setCell];rw[Array.getElem?_modify];rw[if_neg (fun e=>Y e.symm)]
theorem Eff.later(b:Nat)(w:af):Eff b w w.later:=⟨fun _ _=>rfl,rfl,rfl,⟨w.tick,rfl⟩,rfl⟩
theorem Eff.asked(b:Nat)(w:af):Eff b w w.asked:=⟨fun _ _=>rfl,rfl,rfl,.refl _,rfl⟩
theorem MuAt.cell0(h:E.MuAt w m c):w.cell? E.mu=some (.int .i32 (val m)):=by unfold MuAt at h;simp[bC,h]
theorem MuAt.rC(h:E.MuAt w m c):w.cell? E.ms=some (.int .u32 c):=by unfold MuAt at h;simp[bC,h]
theorem MuAt.thaw(h:E.MuAt w m c)(i:Nat):w.frozen? ⟨E.Fd,i,none⟩=false:=by unfold MuAt at h;simp[dI,h]
theorem MuAt.nh(h:E.MuAt w m c)(m':Word):E.MuAt (w.setCell E.mu (.int .i32 (val m'))) m' c:=by
 unfold MuAt at h⊢;rw[Av h];simp
theorem MuAt.qP(h:E.MuAt w m c)(c':Nat):E.MuAt (w.setCell E.ms (.int .u32 c')) m c':=by
 unfold MuAt at h⊢;rw[Av h];simp
theorem MuAt.later(h:E.MuAt w m c):E.MuAt w.later m c:=h
theorem MuAt.asked(h:E.MuAt w m c):E.MuAt w.asked m c:=h
theorem WgAt.cell0(h:E.WgAt w v wt ws):w.cell? E.st=some (.int .u64 ((v *4294967296+wt:Nat))):=by unfold WgAt at h;simp[bC,h]
theorem WgAt.rC(h:E.WgAt w v wt ws):w.cell? E.sm=some (.int .u32 ws):=by unfold WgAt at h;simp[bC,h]
theorem WgAt.thaw(h:E.WgAt w v wt ws)(i:Nat):w.frozen? ⟨E.Wg,i,none⟩=false:=by unfold WgAt at h;simp[dI,h]
theorem WgAt.nh(h:E.WgAt w v wt ws)(v' il:Nat):E.WgAt (w.setCell E.st (.int .u64 ((v' *4294967296+il:Nat)))) v' il ws:=by
 unfold WgAt at h⊢;rw[Av h];simp
theorem WgAt.qP(h:E.WgAt w v wt ws)(ig:Nat):E.WgAt (w.setCell E.sm (.int .u32 ig)) v wt ig:=by
 unfold WgAt at h⊢;rw[Av h];simp
def vp(E:Env)(w:af):=∃cs t fz,w.heap[E.Fd]?=some (.cells cs t fz)/\cs.size=3
theorem vp.rely{S:Nat->Prop}(h:E.vp w)(A:S E.Fd)(hr:gU E.U S w w2):E.vp w2:=by
 obtain⟨cs,t,fz,K,H⟩:=h;rcases hr.kept _ A with e|⟨d,d2,t',I,_,Y,D,R,_⟩
 ·exact⟨cs,t,fz,e.trans K,H⟩
 ·rw[K]at Y;cases Y;exact⟨d2,_,_,D,R.trans H⟩
theorem vp.cell0(h:E.vp w):∃v,w.cell? E.mu=some v:=by
 obtain⟨cs,t,fz,Y,K⟩:=h;exact⟨cs[0],by simp[bC,Y]⟩
def po(E:Env)(w:af):=∃cs t fz,w.heap[E.Wg]?=some (.cells cs t fz)/\cs.size=2
theorem po.rely{S:Nat->Prop}(h:E.po w)(A:S E.Wg)(hr:gU E.U S w w2):E.po w2:=by
 obtain⟨cs,t,fz,K,H⟩:=h;rcases hr.kept _ A with e|⟨d,d2,t',I,_,Y,D,R,_⟩
 ·exact⟨cs,t,fz,e.trans K,H⟩
 ·rw[K]at Y;cases Y;exact⟨d2,_,_,D,R.trans H⟩
theorem po.cell0(h:E.po w):∃v,w.cell? E.st=some v:=by
 obtain⟨cs,t,fz,Y,K⟩:=h;exact⟨cs[0],by simp[bC,Y]⟩
theorem po.rC(h:E.po w):∃v,w.cell? E.sm=some v:=by
 obtain⟨cs,t,fz,Y,K⟩:=h;exact⟨cs[1],by simp[bC,Y]⟩
structure Kn(E:Env)(S:Nat->Prop)(Fx:af->Prop):Prop where
 rely:∀{w w2:af},Fx w->gU E.U S w w2->Fx w2
 fd:∀{w:af},Fx w->E.vp w
 lX:∀{w w1:af} {m m':Word} {c c':Nat},Fx w->E.MuAt w m c->Eff E.Fd w w1->E.MuAt w1 m' c'->Fx w1
 later:∀{w:af},Fx w->Fx w.later
theorem O5{U:Nat->Nat->Prop}(h:∀a,S' a->S a)(hr:gU U S w w2):gU U S' w w2:=⟨fun a Y=>hr.kept a (h a Y),hr.grow,hr.env⟩
theorem EvA.nil(b:Nat):EvA b #[]:=.inl fun e Y=>by simp_all
theorem EvA.one(b i:Nat)(wr:Bool)(H:i<2):EvA b #[⟨.cell ⟨b,i,none⟩,wr,true⟩]:=.inl fun e Y=>by simp_all
theorem EvA.two(b i:Nat)(H:i<2):EvA b #[⟨.cell ⟨b,i,none⟩,false,true⟩,⟨.cell ⟨b,i,none⟩,true,true⟩]:=.inl fun e Y=>by
 simp at Y;rcases Y with rfl|rfl
 ·simp_all
 ·simp_all
theorem EvA.zN(b i:Nat)(Y:i<2):EvA b (aK ⟨b,i,none⟩):=.inr ⟨i,Y,rfl⟩
end Env
def rJ(P:aj):Nat->ae->List ae->ae×List ae
 |0,f,l=>(f,l)
 |n+1,f,l=>match f.todo with
  |.inLoop _::_|.code (.loop _)::_=>(oB P f l).getD (f,l)
  |_=>match oB P f l with
   |some (f1,l1)=>rJ P n f1 l1
   |none=>(f,l)
theorem Tz.Bd{U:Nat->Nat->Prop}{D:(Nat->Prop)->(Nat->Prop)->ak->af->Prop}:∀n {f:ae} {l:List _} {w:af},(∀w2,gU U S w w2->Tz P main U D S X (G (rJ P n f l).1 (rJ P n f l).2) w2)->Tz P main U D S X (G f l) w
 |0,f,l,w,h=>h w (.refl _ _ _)
 |n+1,f,l,w,h=>by
  unfold rJ at h;have one:(∀w2,gU U S w w2->Tz P main U D S X (G ((oB P f l).getD (f,l)).1 ((oB P f l).getD (f,l)).2) w2)->Tz P main U D S X (G f l) w:=by
   intro h;cases e:oB P f l with
   |none=>rw[e]at h;exact h w (.refl _ _ _)
   |some x=>
    rw[e]at h;exact Tz.one rfl fun w2 hr=>⟨_,w2,#[],S,X,tu e,js S X w2,h w2 hr⟩
  split at h
  ·simp_all
  ·simp_all
  ·split at h
   ·rename_i f1 l1 e;refine Tz.one rfl fun w2 hr=>⟨_,w2,#[],S,X,tu e,js S X w2,Tz.Bd n fun w3 Y=>h w3 (hr.trans Y)⟩
   ·simp_all
def J0(s:Nat->Option _)(j:Nat->ai):=((aX 139).map fun i=>(s i).getD (j i)).toArray
def lf(site:List Item)(s:Nat->Option ai)(j:Nat->ai):Frame:={fn:=205,tmps:=J0 s j,todo:=site,defers:=[],mode:=.run,kind:=.normal}
structure Fr(site:List Item)(s:Nat->Option ai)(f:ae):Prop where
 fn:f.fn=205
 todo:f.todo=site
 defers:f.defers=[]
 mode:f.mode=.run
 kind:f.kind=.normal
 round:f.roundOf=none
 size:f.tmps.size=139
 slot:∀i v,s i=some v->f.tmps.getD i aM=v
theorem Fr.eq{site:List _}{s:Nat->Option _}(h:Fr site s f):f=lf site s (fun i=>f.tmps.getD i aM):=by
 obtain⟨fn,tmps,todo,defers,mode,kind,ro⟩:=f;obtain⟨D,R,I,A,U,B,K,H⟩:=h;congr 1;apply Array.ext
 ·simp[J0,K]
 ·intro i Y _;simp[J0,du,dq,dt];cases e:s i with
  |none=>simp[bG Y]
  |some v=>
   rw[<-H i v e];simp[bG Y]
def sA(al:List (Nat×ai))(i:Nat):=al.lookup i
structure rK where
 callers:List ae
 fn:ar
 todo:List Item
 defers:List bq
 mode:cm
 kind:cE
 round:Option Nat
 size:Nat
 apk:List ai
 call:Option (ar×Array ai)
 load:Option (aH×ai)
def look(ks:List Nat)(r:ae×List ae):rK:=⟨r.2,r.1.fn,r.1.todo,r.1.defers,r.1.mode,r.1.kind,r.1.roundOf,r.1.tmps.size,ks.map (r.1.tmps.getD · aM),ahead r.1,ry r.1⟩
def kD(l:List ae)(site:List Item)(al:List (Nat×ai))(call:Option (ar×Array ai))(load:Option (aH×ai)):rK:=⟨l,205,site,[],.run,.normal,none,139,al.map (·.2),call,load⟩
theorem Hn{al:List _}{g:Nat->ai}(h:al.map (fun x=>g x.1)=al.map (·.2)):∀i v,al.lookup i=some v->g i=v:=by
 induction al with
 |nil=>intro i v e;cases e
 |cons x al Y=>
  obtain⟨k,y⟩:=x;simp only[List.map_cons,List.cons.injEq]at h;intro i v e;rw[List.lookup_cons]at e;by_cases hk:i=k
  ·simp_all
  ·have:(i==k)=false:=by simp_all
   simp_all
structure oh(l:List ae)(site:List Item)(al:List (Nat×ai))(call:Option (ar×Array ai))(load:Option (aH×ai))(r:ae×List ae):Prop where
 callers:r.2=l
 fr:Fr site (sA al) r.1
 call:ahead r.1=call
 load:ry r.1=load
theorem stands{r:ae×List _}{l:List _}{site:List _}{al:List _}{call:Option _}{load:Option _}(h:look (al.map (·.1)) r=kD l site al call load):oh l site al call load r:=by
 simp only[look,kD,rK.mk.injEq,dy]at h;obtain⟨H,D,R,I,A,U,B,C,F,Y,K⟩:=h;exact⟨H,⟨D,R,I,A,U,B,C,Hn F⟩,Y,K⟩
theorem jr{α Y:Type}{xs:List α}{F G:α->Y}(h:xs.map F=xs.map G){x:α}(H:x∈xs):F x=G x:=by simp_all
noncomputable abbrev PR:=Tryz.prog
def jg(Fd:Nat)(gI:Int)(sv aw:Bool)(it:Int):List (Nat×ai):=[(0,.pointer (some ⟨Fd,0,none⟩)),(2,.int .i64 gI),(3,.bool sv),(4,.bool aw),(5,.int .i64 it)]
def rR(Fd:Nat)(gI:Int)(sv aw:Bool)(it old:Int):=(6,.int .i32 old)::jg Fd gI sv aw it
def ptr(Fd:Nat):Value:=.pointer (some ⟨Fd,0,none⟩)
def jz(i:Nat):=aM
def P8 (Fd:Nat) (l:List _):=gS PR 60 (Frame.enter PR 205 #[ptr Fd] .normal) l
def Jz:=(P8 0 []).1.todo
def zi:=(rJ PR 60 ((P8 0 []).1.finish (.int .i32 0)) []).1.todo
def zj (Fd:Nat) (gI:Int) (sv aw:Bool) (it old:Int) (j:Nat->ai) (l:List _):=gS PR 300 (lf zi (sA (rR Fd gI sv aw it old)) j) l
def H4:=(zj 0 0 false false 0 1 jz []).1.todo
def I1:=(zj 0 0 false false 0 0 jz []).1.todo
def KQ(Fd:Nat)(gI:Int)(sv aw:Bool)(it old:Int):=(17,.bool true)::rR Fd gI sv aw it old
def tA (Fd:Nat) (gI:Int) (sv aw:Bool) (it old:Int) (b:Bool) (j:Nat->ai) (l:List _):=gS PR 300 ((lf H4 (sA (KQ Fd gI sv aw it old)) j).finish (.bool b)) l
def I2:=(tA 0 0 false false 0 9 true jz []).1.todo
def yV:=(tA 0 0 false false 0 1 true jz []).1.todo
def KR(Fd:Nat)(gI:Int)(sv aw:Bool)(it old:Int):=(33,.bool true)::rR Fd gI sv aw it old
def R8 (Fd:Nat) (gI:Int) (sv aw:Bool) (it old:Int) (b:Bool) (j:Nat->ai) (l:List _):=gS PR 300 ((lf I2 (sA (KR Fd gI sv aw it old)) j).finish (.bool b)) l
def R9 (Fd:Nat) (gI:Int) (sv aw:Bool) (it:Int) (j:Nat->ai) (l:List _):=gS PR 300 ((lf yV (sA (jg Fd gI sv aw it)) j).finish (.tuple #[])) l
def I3:=(R9 0 0 false false 0 jz []).1.todo
def yW (Fd:Nat) (gI:Int) (sv aw:Bool) (it old:Int) (b:Bool) (j:Nat->ai) (l:List _):=gS PR 300 ((lf I1 (sA (rR Fd gI sv aw it old)) j).finish (.bool b)) l
def DI:=(yW 0 0 false false 0 0 false jz []).1.todo
def DJ:=(yW 0 0 false false 0 0 true jz []).1.todo
def R_:=(yW 0 0 false false 0 1 true jz []).1.todo
def DK:=(yW 0 1 false false 0 1 true jz []).1.todo
section
variable{Fd:Nat}{gI it old:Int}{sv aw:Bool}{j:Nat->ai}{l:List ae}
theorem Zj:look [6,0,2,3,4,5] (rJ PR 60 ((lf Jz (sA (jg Fd gI sv aw it)) j).finish (.int .i32 old)) l)=kD l zi (rR Fd gI sv aw it old) none none:=by kernel_rfl
theorem X7:look [6,0,2,3,4,5] (rJ PR 60 ((lf I3 (sA (jg Fd gI sv aw it)) j).finish (.int .i32 old)) l)=kD l zi (rR Fd gI sv aw it old) none none:=by kernel_rfl
theorem X8:look [6,0,2,3,4,5] (rJ PR 60 ((lf DI (sA (jg Fd gI sv aw it)) j).finish (.int .i32 old)) l)=kD l zi (rR Fd gI sv aw it old) none none:=by kernel_rfl
def spins:=(aX 72).filter fun i=>i%2==1&&i/4%2==0
theorem acD:(spins.map fun i:Nat=>look [17,6,0,2,3,4,5] (zj Fd gI sv aw it i j l))=spins.map fun i:Nat=>kD l H4 (KQ Fd gI sv aw it (i:Int)) (some (214,#[.int .i64 it])) none:=by kernel_rfl
theorem aex:look [0,2,3,4,5] (R9 Fd gI sv aw it j l)=kD l I3 (jg Fd gI sv aw (IntKind.i64.wrap (it+1))) none (some (21,ptr Fd)):=by kernel_rfl
theorem acE:look [0,2,3,4,5] (R8 Fd gI sv aw it old true j l)=kD l yV (jg Fd gI sv true it) (some (215,#[])) none:=by kernel_rfl
theorem acF:look [0,2,3,4,5] (R8 Fd gI sv aw it old false j l)=kD l yV (jg Fd gI sv aw it) (some (215,#[])) none:=by kernel_rfl
theorem acG:look [0,2,3,4,5] (yW Fd gI sv aw it old false j l)=kD l DI (jg Fd gI sv aw it) none (some (21,ptr Fd)):=by kernel_rfl
end
def wd(i:Nat):Word:=⟨i%2==1,i/2%2==1,i/4%2==1,i/8⟩
def ua(P:aj)(t:Nat):Nat->ae->List ae->ae×List ae
 |0,f,l=>(f,l)
 |n+1,f,l=>match f.todo with
  |.code (.cond (.tmp u) _ _)::_=>if u==t then(f,l)else match oB P f l with
   |some (f1,l1)=>ua P t n f1 l1
   |none=>(f,l)
  |_=>match oB P f l with
   |some (f1,l1)=>ua P t n f1 l1
   |none=>(f,l)
theorem Tz.SO{U:Nat->Nat->Prop}{D:(Nat->Prop)->(Nat->Prop)->ak->af->Prop}(t:Nat):∀(n:Nat) {f:ae} {l:List ae} {w:af},(∀w2,gU U S w w2->Tz P main U D S X (G (ua P t n f l).1 (ua P t n f l).2) w2)->Tz P main U D S X (G f l) w
 |0,f,l,w,h=>h w (.refl _ _ _)
 |n+1,f,l,w,h=>by
  unfold ua at h;have go:(∀w2,gU U S w w2->Tz P main U D S X (G (match oB P f l with|some (f1,l1)=>ua P t n f1 l1|none=>(f,l)).1 (match oB P f l with|some (f1,l1)=>ua P t n f1 l1|none=>(f,l)).2) w2)->Tz P main U D S X (G f l) w:=by
   intro h;split at h
   ·rename_i f1 l1 e;exact Tz.one rfl fun w2 hr=>⟨_,w2,#[],S,X,tu e,js S X w2,Tz.SO t n fun w3 Y=>h w3 (hr.trans Y)⟩
   ·exact h w (.refl _ _ _)
  split at h
  ·split at h
   ·exact h w (.refl _ _ _)
   ·exact go h
  ·exact go h
def xu(aw:Bool):List Nat:=(aX 72).filter fun i=>!(i%2==1&&i/4%2==0)&&(!aw||i/2%2==1)
def xl(aw:Bool):List Nat:=(aX 72).filter fun i=>(i%2==1&&i/4%2==0)&&(!aw||i/2%2==1)
def toC2 (l:List ae) (Fd:Nat) (gI:Int) (sv aw:Bool) (it:Int) (i:Nat):rK:=kD l I1 (rR Fd gI sv aw it (i:Int)) (some (204,#[ptr Fd,.int .i32 (i:Int),.int .i32 (val (Lock.nw (wd i) aw sv))])) none
section
variable{Fd:Nat}{gI it:Int}{j:Nat->ai}{l:List ae}
theorem aaG:((xu false).map fun i:Nat=>look [6,0,2,3,4,5] (zj Fd gI false false it (i:Int) j l))=(xu false).map (toC2 l Fd gI false false it):=by kernel_rfl
theorem aaH:((xu true).map fun i:Nat=>look [6,0,2,3,4,5] (zj Fd gI false true it (i:Int) j l))=(xu true).map (toC2 l Fd gI false true it):=by kernel_rfl
theorem aaI:((xu true).map fun i:Nat=>look [6,0,2,3,4,5] (zj Fd gI true true it (i:Int) j l))=(xu true).map (toC2 l Fd gI true true it):=by kernel_rfl
theorem aaJ:((xl false).map fun i:Nat=>look [6,0,2,3,4,5] (tA Fd gI false false it (i:Int) false j l))=(xl false).map (toC2 l Fd gI false false it):=by kernel_rfl
theorem aaK:((xl true).map fun i:Nat=>look [6,0,2,3,4,5] (tA Fd gI false true it (i:Int) false j l))=(xl true).map (toC2 l Fd gI false true it):=by kernel_rfl
theorem aaL:((xl true).map fun i:Nat=>look [6,0,2,3,4,5] (tA Fd gI true true it (i:Int) false j l))=(xl true).map (toC2 l Fd gI true true it):=by kernel_rfl
end
def toDo (l:List ae) (Fd:Nat) (gI:Int) (sv aw:Bool) (it:Int):rK:=kD l yV (jg Fd gI sv aw it) (some (215,#[])) none
def JD:List Nat:=(aX 72).filter fun i=>i%2==1&&i/4%2==0&&i/2%2==0&&!(i/8==0)
def SP:List Nat:=(aX 72).filter fun i=>i%2==1&&i/4%2==0&&!(i/2%2==0&&!(i/8==0))
def Ur:List Nat:=(aX 72).filter fun i=>i%2==0&&i/4%2==0
def ny:List Nat:=(aX 72).filter fun i=>!(i%2==0&&i/4%2==0)
def AV (Fd:Nat) (gI:Int) (sv aw:Bool) (it old:Int) (j:Nat->ai) (l:List ae):ae×List Frame:=ua PR 87 300 ((lf I1 (sA (rR Fd gI sv aw it old)) j).finish (.bool true)) l
def I4:List Item:=(AV 0 0 false false 0 1 jz []).1.todo
def I5 (Fd:Nat) (gI:Int) (sv aw b:Bool) (it:Int) (v8:ai) (j:Nat->ai) (l:List ae):ae×List Frame:=gS PR 300 (lf I4 (sA ((87,.bool b)::(8,v8)::jg Fd gI sv aw it)) j) l
def agM (Fd:Nat) (sv aw:Bool) (it T:Int) (v8:ai) (gI:Int) (j:Nat->ai) (l:List ae):ae×List Frame:=gS PR 300 ((lf R_ (sA ((8,v8)::jg Fd gI sv aw it)) j).finish (.int .i64 T)) l
def DN (Fd:Nat) (gI:Int) (sv aw:Bool) (it:Int) (j:Nat->ai) (l:List ae):ae×List Frame:=gS PR 300 ((lf DK (sA (jg Fd gI sv aw it)) j).finish (.tuple #[])) l
def I6:List Item:=(DN 0 0 false false 0 jz []).1.todo
def DR:List Item:=(DN 0 0 true false 0 jz []).1.todo
def agN (Fd:Nat) (gI T:Int) (aw:Bool) (it:Int) (j:Nat->ai) (l:List ae):ae×List Frame:=gS PR 300 ((lf I6 (sA ((95,.bool false)::jg Fd gI false aw it)) j).finish (.int .i64 T)) l
def xo (Fd:Nat) (gI:Int) (sv aw:Bool) (it old:Int) (j:Nat->ai) (l:List ae):ae×List Frame:=rJ PR 300 ((lf DR (sA (jg Fd gI sv aw it)) j).finish (.int .i32 old)) l
def A5:List Item:=(xo 0 0 false false 0 12 jz []).1.todo
def agO (Fd:Nat) (gI:Int) (sv aw:Bool) (it x:Int) (j:Nat->ai) (l:List ae):ae×List Frame:=gS PR 300 ((lf A5 (sA (jg Fd gI sv aw it)) j).finish (.int .i32 x)) l
def yX (Fd:Nat) (gI:Int) (sv aw:Bool) (it:Int) (j:Nat->ai) (l:List ae):ae×List Frame:=gS PR 300 ((lf DJ (sA (jg Fd gI sv aw it)) j).finish (.tuple #[])) l
def Sa:List Item:=(yX 0 0 false false 0 jz []).1.todo
def calm:List Nat:=(aX 72).filter fun i=>i/4%2==0
def lW:List Nat:=(aX 72).filter fun i=>i%4==0&&i/4%2==1&&!(i/8==0)
def delta(sv:Bool)(i:Nat):Int:=if sv==false||i/8==1 then-11 else-7
section
variable{Fd:Nat}{gI it T x:Int}{sv aw:Bool}{v8:ai}{j:Nat->ai}{l:List ae}
theorem aaM:(JD.map fun i:Nat=>look [33,6,0,2,3,4,5] (tA Fd gI sv false it (i:Int) true j l))=JD.map fun i:Nat=>kD l I2 (KR Fd gI sv false it (i:Int)) (some (204,#[ptr Fd,.int .i32 (i:Int),.int .i32 (val {wd i with K:=true})])) none:=by kernel_rfl
theorem aaN:(SP.map fun i:Nat=>look [0,2,3,4,5] (tA Fd gI sv false it (i:Int) true j l))=SP.map fun i:Nat=>toDo l Fd gI sv false it:=by kernel_rfl
theorem aaO:(spins.map fun i:Nat=>look [0,2,3,4,5] (tA Fd gI sv true it (i:Int) true j l))=spins.map fun i:Nat=>toDo l Fd gI sv true it:=by kernel_rfl
theorem aey:(Ur.map fun i:Nat=>look [0,2,3,4,5] (yW Fd gI sv aw it (i:Int) true j l))=Ur.map fun i:Nat=>kD l DJ (jg Fd gI sv aw it) (some (170,#[])) none:=by kernel_rfl
theorem aez:(ny.map fun i:Nat=>look [87,0,2,3,4,5] (AV Fd gI sv aw it (i:Int) j l))=ny.map fun i:Nat=>kD l I4 ((87,.bool (decide (gI=0)))::jg Fd gI sv aw it) none none:=by kernel_rfl
theorem acH:look [8,0,2,3,4,5] (I5 Fd gI sv aw true it v8 j l)=kD l R_ ((8,v8)::jg Fd gI sv aw it) (some (217,#[])) none:=by kernel_rfl
theorem acI:look [0,2,3,4,5] (I5 Fd gI sv aw false it v8 j l)=kD l DK (jg Fd gI sv aw it) (some (218,#[.pointer (some ⟨Fd,1,none⟩),v8,.int .i64 2])) none:=by kernel_rfl
theorem aeA:look [0,2,3,4,5] (agM Fd sv aw it T v8 gI j l)=kD l DK (jg Fd T sv aw it) (some (218,#[.pointer (some ⟨Fd,1,none⟩),v8,.int .i64 2])) none:=by kernel_rfl
theorem acJ:look [95,0,2,3,4,5] (DN Fd gI false aw it j l)=kD l I6 ((95,.bool false)::jg Fd gI false aw it) (some (217,#[])) none:=by kernel_rfl
theorem acK:look [0,2,3,4,5] (DN Fd gI true aw it j l)=kD l DR (jg Fd gI true aw it) none (some (21,ptr Fd)):=by kernel_rfl
theorem aeB:look [0,2,3,4,5] (agN Fd gI T aw it j l)=kD l DR (jg Fd gI (decide (1000000<IntKind.i64.wrap (T-gI))) aw it) none (some (21,ptr Fd)):=by kernel_rfl
theorem acL:(calm.map fun i:Nat=>look [6,0,2,3,4,5] (xo Fd gI sv aw it (i:Int) j l))=calm.map fun i:Nat=>kD l zi (rR Fd gI sv true 0 (i:Int)) none none:=by kernel_rfl
theorem Zk:(lW.map fun i:Nat=>look [0,2,3,4,5] (xo Fd gI false aw it (i:Int) j l))=lW.map fun i:Nat=>kD l A5 (jg Fd gI false aw it) (some (206,#[ptr Fd,.int .i32 (delta false i)])) none:=by kernel_rfl
theorem Zl:(lW.map fun i:Nat=>look [0,2,3,4,5] (xo Fd gI true aw it (i:Int) j l))=lW.map fun i:Nat=>kD l A5 (jg Fd gI true aw it) (some (206,#[ptr Fd,.int .i32 (delta true i)])) none:=by kernel_rfl
theorem aeC:look [0,2,3,4,5] (agO Fd gI sv aw it x j l)=kD l DJ (jg Fd gI sv aw it) (some (170,#[])) none:=by kernel_rfl
theorem aeD:look [0,2,3,4,5] (yX Fd gI sv aw it j l)=kD l Sa (jg Fd gI sv aw it) none none:=by kernel_rfl
end
def unit:Value:=.tuple #[]
section
variable(Fd:Nat)(c:ae)(cs:List ae)
def KS:ae×List Frame:=gS PR 60 (Frame.enter PR 160 #[ptr Fd] .normal) (c::cs)
def BD:ae×List Frame:=gS PR 60 ((KS Fd c cs).1.finish unit) (KS Fd c cs).2
def KT:ae×List Frame:=gS PR 60 ((BD Fd c cs).1.finish (.bool true)) (BD Fd c cs).2
def KU:ae×List Frame:=gS PR 60 ((KT Fd c cs).1.finish unit) (KT Fd c cs).2
def KV:ae×List Frame:=gS PR 60 ((KU Fd c cs).1.finish (ptr Fd)) (KU Fd c cs).2
def zO:ae×List Frame:=gS PR 60 ((BD Fd c cs).1.finish (.bool false)) (BD Fd c cs).2
end
section
variable{Fd:Nat}{c:ae}{cs:List ae}{gI it:Int}{sv aw:Bool}{j:Nat->ai}{l:List ae}
theorem la0:ahead (KS Fd c cs).1=some (169,#[]):=by kernel_rfl
theorem Us:ahead (BD Fd c cs).1=some (204,#[ptr Fd,.int .i32 0,.int .i32 1]):=by kernel_rfl
theorem la2:ahead (KT Fd c cs).1=some (170,#[]):=by kernel_rfl
theorem la3:qC (KU Fd c cs).1=some (253,159,ptr Fd):=by kernel_rfl
theorem la4:ahead (KV Fd c cs).1=some (182,#[ptr Fd]):=by kernel_rfl
theorem la5:gS PR 6 ((KV Fd c cs).1.finish unit) (KV Fd c cs).2=(c.finish unit,cs):=by kernel_rfl
theorem las:look [0,2,3,4,5] (zO Fd c cs)=kD (zO Fd c cs).2 Jz (jg Fd 0 false false 0) none (some (21,ptr Fd)):=by kernel_rfl
theorem aeE:qC (yX Fd gI sv aw it j l).1=some (253,159,ptr Fd):=by kernel_rfl
def DT (Fd:Nat) (gI:Int) (sv aw:Bool) (it:Int) (j:Nat->ai) (l:List ae):ae×List Frame:=gS PR 300 ((lf Sa (sA (jg Fd gI sv aw it)) j).finish (ptr Fd)) l
def Sb:List Item:=(DT 0 0 false false 0 jz []).1.todo
theorem aeF:look [0,2,3,4,5] (DT Fd gI sv aw it j l)=kD l Sb (jg Fd gI sv aw it) (some (182,#[ptr Fd])) none:=by kernel_rfl
theorem agP:gS PR 9 ((lf Sb (sA (jg Fd gI sv aw it)) j).finish unit) (zO Fd c cs).2=(c.finish unit,cs):=by kernel_rfl
end
end Ph
namespace Ph
open Conc Ren
inductive jK where
 |st (L:List Nat)
 |a2 (L:List Nat) (c:Nat)
 |a3 (L:List Nat) (c:Nat)
 |a4 (L:List Nat) (c:Nat)
 |go (L:List Nat) (c:Nat)
 |send (L:List Nat) (i:Nat)
 |close (L:List Nat) (j:Nat)
 |kd
 |w1
 |w2 (v:Nat)
 |wx
 |w3
 |w4
 |ke
 |aq
def oi(w:af)(c s:Nat):=w.heap[c]?=some (.chan 0 #[] false s s false)
structure iE where
 n:Nat
 gP:List Nat
def iE.sends(J:iE)(L:List Nat)(i:Nat):jK:=if i<J.gP.length then .send L i else .close L 0
def iE.closes(J:iE)(L:List Nat)(j:Nat):jK:=if j<L.length then .close L j else .kd
def iE.kM(J:iE)(L:List Nat):=if L.length<J.n then .st L else J.sends L 0
namespace Env
def lL(E:Env)(P:aj)(J:iE)(kG:Nat->ak->af->Prop)(Fin:(Nat->Prop)->(Nat->Prop)->ak->af->Prop):Nat->jK->(Nat->Prop)->(Nat->Prop)->ak->af->Prop
 |0,_,_,_,_,_=>True
 |k+1,pc,S,X,g,w=>g.status=.running/\g.offers=none/\match pc with
  |.st L=>∃c,E.sa P true .disable (E.Tree P true (lL E P J kG Fin k (.a2 L c))) S X g w
  |.a2 L c=>∀w2,gU E.U S w w2->E.WgAt w2 L.length 0 0->∃g1 w1 es,ah P true g w2=.go g1 w1 es/\E.WgAt w1 (L.length+1) 0 0/\Eff E.Wg w2 w1/\EvA E.Wg es/\E.Tree P true (lL E P J kG Fin k (if L=[]then .a3 L c else .a4 L c)) S X g1 w1
  |.a3 L c=>E.sa P true (.read E.sm) (E.Tree P true (lL E P J kG Fin k (.a4 L c))) S X g w
  |.a4 L c=>E.sa P true .enable (E.Tree P true (lL E P J kG Fin k (.go L c))) S X g w
  |.go L c=>S c/\X c/\∀w2,gU E.U S w w2->oi w2 c 0/\∃g1 Y,ah P true g w2=.spawn g1 Y w2 #[]/\kG c Y w2/\E.Tree P true (lL E P J kG Fin k (J.kM (L++[c]))) (fun a=>S a/\a≠c) (fun a=>X a/\a≠c) g1 w2
  |.send L i=>∃c x,L[i%J.n]?=some c/\J.gP[i]?=some x/\∃z,(∀w2 s,gU E.U S w w2->oi w2 c s->ah P true g w2=.comm g #[scase c (.int .i64 (x:Int)) z] true .send w2 #[])/\
    ∀w2,gU E.U S w w2->E.Tree P true (lL E P J kG Fin k (J.sends L (i+1))) S X (Go.Conc.served g aM) w2
  |.close L j=>bu P g=true/\∃c,L[j]?=some c/\∀w2 s,gU E.U S w w2->oi w2 c s->∃g1,g1.status=.running/\ah P true g w2=.go g1 (w2.setChan c 0 #[] true s s false) (closeEvents c)/\E.Tree P true (lL E P J kG Fin k (J.closes L (j+1))) S X g1 (w2.setChan c 0 #[] true s s false)
  |.kd=>E.sa P true .disable (E.Tree P true (lL E P J kG Fin k .w1)) S X g w
  |.w1=>∀w2 v,gU E.U S w w2->v<=8->E.WgAt w2 v 0 0->∃g1 es,ah P true g w2=.go g1 w2 es/\EvA E.Wg es/\(v=0->E.Tree P true (lL E P J kG Fin k .ke) S X g1 w2)/\(v≠0->E.Tree P true (lL E P J kG Fin k (.w2 v)) S X g1 w2)
  |.w2 v0=>∀w2 v,gU E.U S w w2->v<=8->E.WgAt w2 v 0 0->(v=v0->∃g1 w1 es,ah P true g w2=.go g1 w1 es/\E.WgAt w1 v 1 0/\Eff E.Wg w2 w1/\EvA E.Wg es/\E.Tree P true (lL E P J kG Fin k .wx) S X g1 w1)/\
    (v≠v0->∃g1 es,ah P true g w2=.go g1 w2 es/\EvA E.Wg es/\E.Tree P true (lL E P J kG Fin k .w1) S X g1 w2)
  |.wx=>E.sa P true (.write E.sm) (E.Tree P true (lL E P J kG Fin k .w3)) S X g w
  |.w3=>(∀w2 v wt,gU E.U S w w2->E.WgAt w2 v wt 0->ah P true g w2=.go {g with status:=.blocked} w2 #[])/\
    (∀w2,gU E.U S w w2->E.WgAt w2 0 0 1->∃g1 w1 es,ah P true g w2=.go g1 w1 es/\E.WgAt w1 0 0 0/\Eff E.Wg w2 w1/\EvA E.Wg es/\E.Tree P true (lL E P J kG Fin k .w4) S X g1 w1)
  |.w4=>∀w2,gU E.U S w w2->E.WgAt w2 0 0 0->∃g1 es,ah P true g w2=.go g1 w2 es/\EvA E.Wg es/\E.Tree P true (lL E P J kG Fin k .ke) S X g1 w2
  |.ke=>E.sa P true .enable (E.Tree P true (lL E P J kG Fin k .aq)) S X g w
  |.aq=>∀w2,gU E.U S w w2->∃g1,ah P true g w2=.go g1 w2 #[⟨.mark (.acquire E.st),false,true⟩]/\Fin S X g1 w2
end Env
def Down{α:Type}(r:Nat->α->α->Prop)(n:Nat)(y x:Nat->α):=∃i,i<n/\r i (y i) (x i)/\∀k,k<n->k≠i->y k=x k
theorem P9{α:Type}(r:Nat->α->α->Prop):∀n x,(∀i,i<n->Acc (r i) (x i))->Acc (Down r n) x
 |0,x,_=>⟨x,fun y ⟨i,B,_⟩=>by omega⟩
 |n+1,x,h=>by
  have C:=P9 r n x fun i B=>h i (by omega);have J:=h n (by omega)
  suffices key:∀x,Acc (Down r n) x->∀a,Acc _ a->∀z:Nat->α,(∀k,k<n->z k=x k)->z n=a->Acc _ z from key x C _ J x (fun _ _=>rfl) rfl
  intro x L;induction L with
  |intro x _ U=>
   intro a F;induction F with
   |intro a K A=>
    intro z I Y;refine⟨z,fun y ⟨i,B,hr,R⟩=>?_⟩;by_cases H:i=n
    ·subst H;rw[Y]at hr;exact A _ hr y (fun k hk=>(R k (by omega) (by omega)).trans (I k hk)) rfl
    ·refine U y ⟨i,by omega,?_,fun k hk D=>(R k (by omega) D).trans (I k hk)⟩ a ⟨a,K⟩ y (fun _ _=>rfl) ((R n (by omega) (by omega)).trans Y);rw[<-I i (by omega)];exact hr
def Reach(P:aj)(F:bB->ax->Prop)(m:bB)(t:ax):=∃N m' t',aQ P N m t=(.next m',t')/\F m' t'
theorem Reach.here{F:bB->ax->Prop}{m:bB}{t:ax}(h:F m t):Reach P F m t:=⟨0,m,t,rfl,h⟩
theorem Reach.step{P:aj}{F:bB->ax->Prop}{m Y:bB}{t:ax}{ops:Array _}(R:stepT P m=(.next Y,ops))(h:Reach P F Y (t++ops)):Reach P F m t:=by
 obtain⟨N,m',t',K,H⟩:=h;exact⟨N+1,m',t',by simp[aQ,R];exact K,H⟩
structure Nd where
 S:Nat->Prop
 X:Nat->Prop
 g:ak
 w:af
def Nx(P:aj)(main:Bool)(U:Nat->Nat->Prop)(D:(Nat->Prop)->(Nat->Prop)->ak->af->Prop)(y x:Nd):=
 ¬D x.S x.X x.g x.w/\∃w2 es,gU U x.S x.w w2/\ah P main x.g w2=.go y.g y.w es/\kz U x.S x.X w2 y.w es y.S y.X
section
variable{P:aj}{main:Bool}{U:Nat->Nat->Prop}{D:(Nat->Prop)->(Nat->Prop)->ak->af->Prop}{S X:Nat->Prop}{g:ak}{w:af}
theorem Tz.acc(h:Tz P main U D S X g w):Acc (Nx P main U D) ⟨S,X,g,w⟩:=by
 induction h with
 |stop hd=>exact⟨_,fun y ⟨Y,_⟩=>absurd hd Y⟩
 |step H ex _ K=>exact⟨_,fun y ⟨_,w2,es,hr,e,hd⟩=>K w2 y.g y.w es y.S y.X hr e hd⟩
theorem Tz.look(h:Tz P main U D S X g w):D S X g w\/(¬D S X g w/\g.status=.running/\∀w2,gU U S w w2->∃g1 w1 es S1 X1,ah P main g w2=.go g1 w1 es/\kz U S X w2 w1 es S1 X1/\Tz P main U D S1 X1 g1 w1):=by
 by_cases Y:D S X g w
 ·simp_all
 ·cases h with
  |stop hd=>exact absurd hd Y
  |step K ex k=>
   refine .inr ⟨Y,K,fun w2 hr=>?_⟩;obtain⟨g1,w1,es,S1,X1,e,hd⟩:=ex w2 hr;exact⟨g1,w1,es,S1,X1,e,hd,k w2 g1 w1 es S1 X1 hr e hd⟩
end
def TN(n:Nat)(s:Nat->Option _)(j:Nat->ai):=((aX n).map fun i=>(s i).getD (j i)).toArray
def nz(fn:ar)(n:Nat)(site:List Item)(s:Nat->Option ai)(j:Nat->ai):Frame:={fn:=fn,tmps:=TN n s j,todo:=site,defers:=[],mode:=.run,kind:=.normal}
structure lN(fn:ar)(n:Nat)(site:List Item)(s:Nat->Option ai)(f:ae):Prop where
 fn:f.fn=fn
 todo:f.todo=site
 defers:f.defers=[]
 mode:f.mode=.run
 kind:f.kind=.normal
 round:f.roundOf=none
 size:f.tmps.size=n
 slot:∀i v,s i=some v->f.tmps.getD i aM=v
theorem lN.eq{fn:ar}{n:Nat}{site:List _}{s:Nat->Option _}(h:lN fn n site s f):f=nz fn n site s (fun i=>f.tmps.getD i aM):=by
 obtain⟨fn,tmps,todo,defers,mode,kind,ro⟩:=f;obtain⟨D,R,I,A,U,B,K,H⟩:=h;congr 1;apply Array.ext
 ·simp[TN,K]
 ·intro i Y _;simp[TN,du,dq,dt];cases e:s i with
  |none=>simp[bG Y]
  |some v=>
   rw[<-H i v e];simp[bG Y]
def iQ(fn:ar)(n:Nat)(l:List ae)(site:List Item)(al:List (Nat×ai))(call:Option (ar×Array ai))(load:Option (aH×ai)):rK:=⟨l,fn,site,[],.run,.normal,none,n,al.map (·.2),call,load⟩
structure Dr(fn:ar)(n:Nat)(l:List ae)(site:List Item)(al:List (Nat×ai))(call:Option (ar×Array ai))(load:Option (aH×ai))(r:ae×List ae):Prop where
 callers:r.2=l
 fr:lN fn n site (sA al) r.1
 call:ahead r.1=call
 load:ry r.1=load
theorem kj{fn:ar}{n:Nat}{r:ae×List _}{l:List _}{site:List _}{al:List _}{call:Option _}{load:Option _}(h:look ks r=iQ fn n l site al call load)(hk:al.map (·.1)=ks):Dr fn n l site al call load r:=by
 subst hk;simp only[look,iQ,rK.mk.injEq,dy]at h;obtain⟨H,D,R,I,A,U,B,C,F,Y,K⟩:=h;exact⟨H,⟨D,R,I,A,U,B,C,Hn F⟩,Y,K⟩
end Ph
namespace Ph
open Conc Ren
open Lock (Word PC Mv bn iT bw dw)
open ConcN (sumTo upd sumTo_upd upd_ne upd_same sumTo_congr le_sumTo sumTo_le)
inductive Md where
 |run
 |blk
 |ic
 |j_
 deriving DecidableEq
inductive gZ(E:Env) where
 |no
 |at(pc:E.kU) (md:Md)
 |h_ (i n:Nat)
 |qt (q:Nat)
structure iI(E:Env) where
 j:Nat
 L:List Nat
 ks:Nat->gZ E
 d:jK
 dm:Md
 m:Word
 c:Nat
 v:Nat
 wt:Nat
 ws:Nat
 γ:E.Γ
 dn:List Nat
 tok:Option Nat
section
variable{E:Env}
def oS:E.kU->PC
 |.recv=>.out
 |.ld _=>.l0
 |.lk p _=>p
 |.le _=>.cr
 |.la _=>.cr
 |.ur _=>.cr
 |.ud=>.cr
 |.u0=>.cr
 |.un p=>p
 |.ue=>.out
 |.wr=>.out
def iV:gZ E->PC
 |.at pc _=>oS pc
 |_=>.out
def qI(y:Nat):E.kU->Nat
 |.ld x=>if x=y then 1 else 0
 |.lk _ x=>if x=y then 1 else 0
 |.le x=>if x=y then 1 else 0
 |.la x=>if x=y then 1 else 0
 |_=>0
def qJ(y:Nat):gZ E->Nat
 |.at pc _=>qI y pc
 |_=>0
def qv:E.kU->Nat
 |.recv=>7
 |.ld _=>17
 |.lk p _=>14+iT p
 |.le _=>14
 |.la _=>13
 |.ur _=>12
 |.ud=>11
 |.u0=>10
 |.un p=>9+iT p
 |.ue=>8
 |.wr=>6
def mB:gZ E->Nat
 |.at pc _=>qv pc
 |.h_ i _=>i+1
 |_=>0
def ll:gZ E->Nat
 |.h_ i _=>if i<=2 then 1 else 0
 |.qt _=>1
 |_=>0
def jy:gZ E->Nat
 |.h_ i _=>if i=1\/i=2 then 1 else 0
 |_=>0
def jD:gZ E->Nat
 |.h_ i _=>if i=0 then 1 else 0
 |_=>0
def Gone:gZ E->Prop
 |.at .wr _=>True
 |.at .recv .j_=>True
 |.h_ _ _=>True
 |.qt _=>True
 |_=>False
def vg:E.kU->Nat
 |.lk _ _=>1
 |.le _=>1
 |.u0=>1
 |.un _=>1
 |.ue=>1
 |_=>0
def Be:gZ E->Nat
 |.at pc _=>vg pc
 |.h_ i _=>if i<=3 then 1 else 0
 |_=>0
end
def pe:jK->Nat
 |.a2 _ _=>1
 |.a3 _ _=>1
 |.a4 _ _=>1
 |.w1=>1
 |.w2 _=>1
 |.wx=>1
 |.w3=>1
 |.w4=>1
 |.ke=>1
 |_=>0
def pd:jK->Nat
 |.a3 _ _=>1
 |.a4 _ _=>1
 |.go _ _=>1
 |_=>0
def si(J:iE):jK->Nat
 |.st _=>0
 |.a2 _ _=>0
 |.a3 _ _=>0
 |.a4 _ _=>0
 |.go _ _=>0
 |.send _ i=>i
 |_=>J.gP.length
def jc(J:iE):jK->Nat
 |.st _=>0
 |.a2 _ _=>0
 |.a3 _ _=>0
 |.a4 _ _=>0
 |.go _ _=>0
 |.send _ _=>0
 |.close _ i=>i
 |_=>J.n
def iF(J:iE)(v:Nat):jK->Nat
 |.st L=>60+20 *J.gP.length+20 *(J.n-L.length)
 |.a2 L _=>59+20 *J.gP.length+20 *(J.n-L.length)
 |.a3 L _=>58+20 *J.gP.length+20 *(J.n-L.length)
 |.a4 L _=>57+20 *J.gP.length+20 *(J.n-L.length)
 |.go L _=>56+20 *J.gP.length+20 *(J.n-L.length)
 |.send _ i=>40+20 *(J.gP.length-i)
 |.close _ i=>25+(J.n-i)
 |.kd=>24
 |.w1=>7+2 *v
 |.w2 v0=>6+2 *v0
 |.wx=>5
 |.w3=>4
 |.w4=>3
 |.ke=>2
 |.aq=>1
def yY:jK->Prop
 |.wx=>True
 |.w3=>True
 |_=>False
def zk:jK->Prop
 |.w4=>True
 |.ke=>True
 |.aq=>True
 |_=>False
def E6(J:iE)(Y:List Nat)(j:Nat):jK->Prop
 |.st L=>L=Y/\j<J.n
 |.a2 L _=>L=Y/\j<J.n
 |.a3 L _=>L=Y/\j<J.n
 |.a4 L _=>L=Y/\j<J.n
 |.go L _=>L=Y/\j<J.n
 |.send L i=>L=Y/\j=J.n/\i<J.gP.length
 |.close L i=>L=Y/\j=J.n/\i<J.n
 |_=>j=J.n
def nA(d:jK)(v wt ws H Y:Nat):=
 (wt=0/\ws=0/\H=0/\Y=0/\¬yY d/\(zk d->v=0))\/
 (yY d/\((wt=1/\ws=0/\0<v/\H=0/\Y=0)\/(wt=1/\ws=0/\v=0/\H=1/\Y=0)\/(wt=0/\ws=0/\v=0/\H=0/\Y=1)\/(wt=0/\ws=1/\v=0/\H=0/\Y=0)))
section
variable{E:Env}
structure CI(J:iE)(gX:E.Γ)(C:iI E):Prop where
 jn:C.j<=J.n
 len:C.L.length=C.j
 BE:C.L.Nodup
 no:∀k,C.j<=k->C.ks k=.no
 yes:∀k,k<C.j->C.ks k≠.no
 lock:Lock.Inv (fun k=>iV (C.ks k)) J.n C.m C.c
 rM:∀k,C.tok=some k->∃md,C.ks k=.at (.ur C.γ) md
 xF:∀k γ md,C.ks k=.at (.ur γ) md->C.tok=some k
 md:∀k pc md,C.ks k=.at pc md->(md=.blk->∃sv x,pc=.lk (.s1 sv) x)/\(md=.ic\/md=.j_->pc=.recv)
 pE:(C.dm=.blk->C.d=.w3)/\(C.dm=.ic->∃i,C.d=.send C.L i)/\C.dm≠.j_
 num:∀y,C.dn.count y+sumTo J.n (fun k=>qJ y (C.ks k))=(J.gP.take (si J C.d)).count y
 fold:C.γ=C.dn.foldl E.upd gX
 pF:C.v+sumTo J.n (fun k=>ll (C.ks k))=C.j+pd C.d
 ph:nA C.d C.v C.wt C.ws (sumTo J.n fun k=>jy (C.ks k)) (sumTo J.n fun k=>jD (C.ks k))
 gone:∀k,Gone (C.ks k)->k<jc J C.d
 nW:E6 J C.L C.j C.d
 qU:∀k p x md,C.ks k=.at (.lk p x) md->iT p=2
 oT:∀k p md,C.ks k=.at (.un p) md->iT p=0/\p≠.out
 h_:∀k i n,C.ks k=.h_ i n->i<=4
 w2:∀v0,C.d=.w2 v0->0<v0/\C.v<=v0
structure Calm(J:iE)(C:iI E):Prop where
 blk:∀k pc,C.ks k=.at pc .blk->C.c=0
 ic:∀k pc,C.ks k=.at pc .ic->¬k<jc J C.d
 J_:C.dm=.blk->C.ws=0
 pq:∀i,C.dm=.ic->C.d=.send C.L i->∀pc,C.ks (i%J.n)≠.at pc .ic
def lH(J:iE)(C:iI E):=iF J C.v C.d+sumTo J.n (fun k=>mB (C.ks k))
def oU(J:iE)(C:iI E):=sumTo J.n (fun k=>bw (iV (C.ks k)))+7 *C.c
def qi(J:iE)(C:iI E):=sumTo J.n (fun k=>dw C.m (iV (C.ks k)))
def mu(J:iE)(C:iI E):=(lH J C *128+oU J C) *128+qi J C
theorem air(p:PC):bw p<=9:=by
 cases p<;>simp[bw]<;>omega
theorem ais(m:Word)(p:PC):dw m p<=12:=by
 cases p<;>simp[dw]<;>(try split)<;>omega
theorem agQ{J:iE}{C:iI E}(H:J.n<=8)(Y:C.c<=1):oU J C<128:=by
 have h:=sumTo_le (f:=fun k=>bw (iV (C.ks k))) (j:=J.n) fun i _=>air _;unfold oU;omega
theorem Q5{J:iE}{C:iI E}(Y:J.n<=8):qi J C<128:=by
 have h:=sumTo_le (f:=fun k=>dw C.m (iV (C.ks k))) (j:=J.n) fun i _=>ais _ _;unfold qi;omega
theorem xG{J:iE}{C C':iI E}(Y:J.n<=8)(H:C'.c<=1)(h:lH J C'<lH J C):mu J C'<mu J C:=by
 have K:=agQ Y H;have D:=Q5 (C:=C') Y;unfold mu;omega
theorem aj8{J:iE}{C C':iI E}(Y:J.n<=8)(h:lH J C'=lH J C)(H:oU J C'<oU J C):mu J C'<mu J C:=by
 have K:=Q5 (C:=C') Y;unfold mu;omega
theorem aj9{J:iE}{C C':iI E}(h:lH J C'=lH J C)(Y:oU J C'=oU J C)(H:qi J C'<qi J C):mu J C'<mu J C:=by
 unfold mu;omega
theorem O6(f:PC->Nat)(gT:Nat->PC):∀n,Lock.ib f gT n=sumTo n fun k=>f (gT k)
 |0=>rfl
 |n+1=>by rw[Lock.ib,sumTo,O6 f gT n]
theorem aeG(ks:Nat->gZ E)(k:Nat)(s:gZ E):(fun i=>iV (upd ks k s i))=Lock.put (fun i=>iV (ks i)) k (iV s):=by
 funext i;unfold upd Lock.put;split<;>rfl
theorem P_(f g h:PC->Nat)(gT:Nat->PC):∀n,Lock.ib (fun p=>f p+g p+h p) gT n=Lock.ib f gT n+Lock.ib g gT n+Lock.ib h gT n
 |0=>rfl
 |n+1=>by simp[Lock.ib,P_ f g h gT n];omega
theorem G1{gT:Nat->PC}{n:Nat}{m:Word}{c:Nat}(h:Lock.Inv gT n m c):c<=1/\m.W<=n:=by
 have one:∀f,(∀p,f p<=1)->Lock.ib f gT n<=n:=by
  intro f R;rw[O6];have:=sumTo_le (f:=fun k=>f (gT k)) (j:=n) fun i _=>R _;omega
 have F:=Lock.rB m.K;have I:∀p,Lock.jJ p+Lock.g_ p+Lock.iX p<=1:=by intro p;cases p<;>simp[Lock.jJ,Lock.g_,Lock.iX]
 cases Y:m.S with
 |false=>
  obtain⟨H,D,_⟩:=h.calm Y;have:=one Lock.jJ (by intro p;cases p<;>simp[Lock.jJ]);omega
 |true=>
  obtain⟨H,D,A,U,B,C⟩:=h.lW Y;have:=one _ I;have e:=P_ Lock.jJ Lock.g_ Lock.iX gT n;omega
end
end Ph
namespace Ph
open Conc Ren
open Lock (Word PC Mv bn iT bw dw)
open ConcN (sumTo upd sumTo_upd upd_ne upd_same sumTo_congr le_sumTo sumTo_le sumTo_upd_out)
section
variable{E:Env}{J:iE}{gX:E.Γ}{C:iI E}
def iI.wk(C:iI E)(k:Nat)(s':gZ E)(d':jK)(Y:Md)(m':Word)(c' v' il ig:Nat)(H:E.Γ)(kh:List Nat)(jQ:Option Nat):=
 {C with ks:=upd C.ks k s',d:=d',dm:=Y,m:=m',c:=c',v:=v',wt:=il,ws:=ig,γ:=H,dn:=kh,tok:=jQ}
theorem rz{C:iI E}{s s':gZ E}(f:gZ E->Nat)(n:Nat)(hk:k<n)(e:C.ks k=s):sumTo n (fun i=>f (upd C.ks k s' i))+f s=sumTo n (fun i=>f (C.ks i))+f s':=by
 have:=sumTo_upd C.ks s' f hk;simp_all
theorem CI.wk{s s':gZ E}{d':jK}{R:Md}{m':Word}{A:E.Γ}(h:CI J gX C)(hk:k<C.j)(e:C.ks k=s)(ne:s'≠.no)
  (lock:Lock.Inv (Lock.put (fun i=>iV (C.ks i)) k (iV s')) J.n m' c')
  (rM:∀i,jQ=some i->(i=k/\∃md,s'=.at (.ur A) md)\/(i≠k/\C.tok=some i/\A=C.γ))(xF:∀γ md,s'=.at (.ur γ) md->jQ=some k)(F:∀i,i≠k->C.tok=some i->jQ=some i)
  (md:∀pc md,s'=.at pc md->(md=.blk->∃sv x,pc=.lk (.s1 sv) x)/\(md=.ic\/md=.j_->pc=.recv))
  (pE:(R=.blk->d'=.w3)/\(R=.ic->∃i,d'=.send C.L i)/\R≠.j_)
  (num:∀y,kh.count y+qJ y s'+(J.gP.take (si J C.d)).count y=C.dn.count y+qJ y s+(J.gP.take (si J d')).count y)
  (fold:A=kh.foldl E.upd gX)(pF:v'+ll s'+pd C.d=C.v+ll s+pd d')
  (ph:∀N M,nA C.d C.v C.wt C.ws (N+jy s) (M+jD s)->nA d' v' il ig (N+jy s') (M+jD s'))
  (gone:Gone s'->k<jc J d')(cl:jc J C.d<=jc J d')(nW:E6 J C.L C.j d')
  (qU:∀p x md,s'=.at (.lk p x) md->iT p=2)(oT:∀p md,s'=.at (.un p) md->iT p=0/\p≠.out)(h_:∀i n,s'=.h_ i n->i<=4)(w2:∀v0,d'=.w2 v0->0<v0/\v'<=v0):
  CI J gX (C.wk k s' d' R m' c' v' il ig A kh jQ):=by
 have D:k<J.n:=au hk h.jn;have us:upd C.ks k s' k=s':=upd_same _ _ _;have un:∀i,i≠k->upd C.ks k s' i=C.ks i:=fun i Y=>upd_ne _ _ Y;refine⟨h.jn,h.len,h.BE,fun i Y=>?_,fun i Y=>?_,?_,fun i Y=>?_,fun i γ H Y=>?_,fun i pc H Y=>?_,pE,fun y=>?_,fold,?_,?_,fun i Y=>?_,nW,fun i p x H Y=>?_,fun i p H Y=>?_,fun i n0 n1 Y=>?_,w2⟩
 ·have:i≠k:=by have:C.j<=i:=Y;omega
  show upd C.ks k s' i=_
  rw[un i this];exact h.no i Y
 ·show upd C.ks k s' i≠_
  by_cases K:i=k
  ·subst K;rw[us];exact ne
  ·rw[un i K];exact h.yes i Y
 ·show Lock.Inv (fun i=>iV (upd C.ks k s' i)) J.n m' c'
  rw[aeG];exact lock
 ·show∃md,upd C.ks k s' i=_
  rcases rM i Y with⟨rfl,I⟩|⟨I,B,U⟩
  ·rw[us];exact I
  ·rw[un i I];rw[U];exact h.rM i B
 ·change upd C.ks k s' i=_ at Y;show jQ=some i
  by_cases K:i=k
  ·subst K;rw[us]at Y;exact xF γ H Y
  ·rw[un i K]at Y;exact F i K (h.xF i γ H Y)
 ·change upd C.ks k s' i=_ at Y;by_cases K:i=k
  ·subst K;rw[us]at Y;exact md pc H Y
  ·rw[un i K]at Y;exact h.md i pc H Y
 ·have I:=h.num y;have B:=num y;have U:=rz (C:=C) (s':=s') (qJ y) J.n D e;show kh.count y+sumTo J.n (fun i=>qJ y (upd C.ks k s' i))=(J.gP.take (si J d')).count y
  omega
 ·have I:=h.pF;have U:=rz (C:=C) (s':=s') ll J.n D e;show v'+sumTo J.n (fun i=>ll (upd C.ks k s' i))=C.j+pd d'
  omega
 ·have I:=h.ph;have U:=rz (C:=C) (s':=s') jy J.n D e;have S:=rz (C:=C) (s':=s') jD J.n D e;have l2:=le_sumTo (f:=fun i=>jy (C.ks i)) D;have l0:=le_sumTo (f:=fun i=>jD (C.ks i)) D;simp only[e]at l2 l0;have Q:=ph (sumTo J.n (fun i=>jy (C.ks i))-jy s) (sumTo J.n (fun i=>jD (C.ks i))-jD s) (by simp_all);show nA d' v' il ig (sumTo J.n fun i=>jy (upd C.ks k s' i)) (sumTo J.n fun i=>jD (upd C.ks k s' i))
  have O:sumTo J.n (fun i=>jy (upd C.ks k s' i))=sumTo J.n (fun i=>jy (C.ks i))-jy s+jy s':=by omega
  have P:sumTo J.n (fun i=>jD (upd C.ks k s' i))=sumTo J.n (fun i=>jD (C.ks i))-jD s+jD s':=by omega
  rw[O,P];exact Q
 ·change Gone (upd C.ks k s' i)at Y;show i<jc J d'
  by_cases K:i=k
  ·subst K;rw[us]at Y;exact gone Y
  ·rw[un i K]at Y;exact au (h.gone i Y) cl
 ·change upd C.ks k s' i=_ at Y;by_cases K:i=k
  ·subst K;rw[us]at Y;exact qU p x H Y
  ·rw[un i K]at Y;exact h.qU i p x H Y
 ·change upd C.ks k s' i=_ at Y;by_cases K:i=k
  ·subst K;rw[us]at Y;exact oT p H Y
  ·rw[un i K]at Y;exact h.oT i p H Y
 ·change upd C.ks k s' i=_ at Y;by_cases K:i=k
  ·subst K;rw[us]at Y;exact h_ n0 n1 Y
  ·rw[un i K]at Y;exact h.h_ i n0 n1 Y
theorem xp{s s':gZ E}{d':jK}{oC:Md}{m':Word}{lq:E.Γ}(hk:k<J.n)(e:C.ks k=s):
  lH J (C.wk k s' d' oC m' c' v' il ig lq kh jQ)+iF J C.v C.d+mB s=lH J C+iF J v' d'+mB s':=by
 have Y:=rz (s':=s') mB J.n hk e;show iF J v' d'+sumTo J.n (fun i=>mB (upd _ k s' i))+iF J C.v C.d+mB s=iF J C.v C.d+sumTo J.n _+iF J v' d'+mB s'
 omega
theorem Sc{s s':gZ E}{d':jK}{oC:Md}{m':Word}{lq:E.Γ}(hk:k<J.n)(e:C.ks k=s):
  oU J (C.wk k s' d' oC m' c' v' il ig lq kh jQ)+bw (iV s)+7 *C.c=oU J C+bw (iV s')+7 *c':=by
 have Y:=rz (s':=s') (fun s=>bw (iV s)) J.n hk e;show sumTo J.n (fun i=>bw (iV (upd _ k s' i)))+7 *c'+bw _+7 *C.c=sumTo J.n _+7 *C.c+bw _+7 *c'
 omega
theorem Q6{s s':gZ E}{d':jK}{oC:Md}{lq:E.Γ}(hk:k<J.n)(e:C.ks k=s):
  qi J (C.wk k s' d' oC C.m c' v' il ig lq kh jQ)+dw C.m (iV s)=qi J C+dw C.m (iV s'):=by
 have Y:=rz (s':=s') (fun s=>dw C.m (iV s)) J.n hk e;exact Y
def iI.dd(C:iI E)(d':jK)(Y:Md)(v' il ig:Nat):={C with d:=d',dm:=Y,v:=v',wt:=il,ws:=ig}
theorem CI.dd{d':jK}{Y:Md}(h:CI J gX C)(pE:(Y=.blk->d'=.w3)/\(Y=.ic->∃i,d'=.send C.L i)/\Y≠.j_)(num:J.gP.take (si J d')=J.gP.take (si J C.d))(pF:v'+pd C.d=C.v+pd d')
  (ph:∀R H,nA C.d C.v C.wt C.ws R H->nA d' v' il ig R H)(cl:jc J C.d<=jc J d')(nW:E6 J C.L C.j d')(w2:∀v0,d'=.w2 v0->0<v0/\v'<=v0):CI J gX (C.dd d' Y v' il ig):=by
 refine⟨h.jn,h.len,h.BE,h.no,h.yes,h.lock,h.rM,h.xF,h.md,pE,fun y=>?_,h.fold,?_,ph _ _ h.ph,fun k hk=>au (h.gone k hk) cl,nW,h.qU,h.oT,h.h_,w2⟩
 ·have:=h.num y;rw[<-num]at this;exact this
 ·have:=h.pF;show v'+sumTo J.n (fun k=>ll (C.ks k))=C.j+pd d'
  omega
theorem D_{d':jK}{Y:Md}(h:iF J v' d'<iF J C.v C.d):mu J (C.dd d' Y v' il ig)<mu J C:=by
 unfold mu;have K:lH J (C.dd d' Y v' il ig)+iF J C.v C.d=lH J C+iF J v' d':=by
  show iF J v' d'+sumTo J.n (fun k=>mB (C.ks k))+iF J C.v C.d=iF J C.v C.d+sumTo J.n _+iF J v' d'
  omega
 have H:oU J (C.dd d' Y v' il ig)=oU J C:=rfl;have D:qi J (C.dd d' Y v' il ig)=qi J C:=rfl;omega
def iI.spawn(J:iE)(C:iI E)(c:Nat):={C with j:=C.j+1,L:=C.L++[c],ks:=upd C.ks C.j (.at .recv .run),d:=J.kM (C.L++[c]),dm:=.run}
theorem AW(f:gZ E->Nat)(s':gZ E)(h:CI J gX C)(Y:C.j<J.n)(f0:f .no=0):sumTo J.n (fun i=>f (upd C.ks C.j s' i))=sumTo J.n (fun i=>f (C.ks i))+f s':=by
 have:=rz (s':=s') f J.n Y (h.no C.j (ao _));omega
theorem uH:(L.length<J.n/\J.kM L=.st L)\/(¬L.length<J.n/\0<J.gP.length/\J.kM L=.send L 0)\/(¬L.length<J.n/\J.gP.length=0/\J.kM L=.close L 0):=by
 unfold iE.kM iE.sends;by_cases Y:L.length<J.n
 ·simp_all
 ·by_cases K:0<J.gP.length
  ·simp_all
  ·simp_all
theorem CI.spawn{c:Nat}(h:CI J gX C)(G:0<J.n)(W:J.n<=8)(hd:C.d=.go C.L c)(V:c∉C.L):CI J gX (C.spawn J c)/\lH J (C.spawn J c)<lH J C:=by
 have H:C.j<J.n:=by have:=h.nW;rw[hd]at this;exact this.2
 have us:upd C.ks C.j (.at .recv .run) C.j=.at .recv .run:=upd_same _ _ _;have un:∀i,i≠C.j->upd C.ks C.j (.at .recv .run) i=C.ks i:=fun i P=>upd_ne _ _ P;have I:C.wt=0/\C.ws=0/\sumTo J.n (fun k=>jy (C.ks k))=0/\sumTo J.n (fun k=>jD (C.ks k))=0:=by
  rcases h.ph with y|y
  ·exact⟨y.1,y.2.1,y.2.2.1,y.2.2.2.1⟩
  ·rw[hd]at y;exact y.1.elim
 have R:(C.L++[c]).length=C.j+1:=by simp[h.len]
 have S:si J (J.kM (C.L++[c]))=0:=by
  rcases uH (J:=J) (L:=C.L++[c])with⟨_,e⟩|⟨_,_,e⟩|⟨_,D,e⟩<;>rw[e]
  ·rfl
  ·rfl
  ·exact D
 have F:pd (J.kM (C.L++[c]))=0:=by
  rcases uH (J:=J) (L:=C.L++[c])with⟨_,e⟩|⟨_,_,e⟩|⟨_,D,e⟩<;>rw[e]<;>rfl
 have B:¬yY (J.kM (C.L++[c]))/\¬zk (J.kM (C.L++[c])):=by
  rcases uH (J:=J) (L:=C.L++[c])with⟨_,e⟩|⟨_,_,e⟩|⟨_,D,e⟩<;>rw[e]<;>exact⟨id,id⟩
 have Q:∀k,¬Gone (C.ks k):=fun k hk=>by
  have:=h.gone k hk;rw[hd]at this;exact absurd this (dE _)
 refine⟨⟨H,R,?_,fun k hk=>?_,fun k hk=>?_,?_,fun k hk=>?_,fun k γ md hk=>?_,fun k pc md hk=>?_,⟨nofun,nofun,nofun⟩,fun y=>?_,h.fold,?_,?_,fun k hk=>?_,?_,fun k p x md hk=>?_,fun k p md hk=>?_,fun k i n hk=>?_,fun v0 A=>?_⟩,?_⟩
 ·show(C.L++[c]).Nodup
  rw[List.nodup_append];exact⟨h.BE,by simp,fun a O b U=>by
   simp at U;subst U;exact fun e=>V (e▸O)⟩
 ·have:k≠C.j:=by have:C.j+1<=k:=hk;omega
  show upd C.ks C.j _ k=_
  rw[un k this];exact h.no k (by have:C.j+1<=k:=hk;omega)
 ·show upd C.ks C.j _ k≠_
  by_cases e:k=C.j
  ·subst e;rw[us];exact nofun
  ·rw[un k e];exact h.yes k (by have:k<C.j+1:=hk;omega)
 ·show Lock.Inv (fun i=>iV (upd C.ks C.j (.at .recv .run) i)) J.n C.m C.c
  have:(fun i=>iV (upd C.ks C.j (gZ.at Env.kU.recv Md.run:gZ E) i))=fun i=>iV (C.ks i):=by
   funext i;by_cases e:i=C.j
   ·subst e;rw[us,h.no C.j (ao _)];rfl
   ·rw[un i e]
  rw[this];exact h.lock
 ·obtain⟨md,e⟩:=h.rM k hk;have:k≠C.j:=fun e'=>by rw[e',h.no C.j (ao _)]at e;cases e
  exact⟨md,by show upd C.ks C.j _ k=_;rw[un k this];exact e⟩
 ·change upd C.ks C.j _ k=_ at hk;by_cases e:k=C.j
  ·subst e;rw[us]at hk;cases hk
  ·rw[un k e]at hk;exact h.xF k γ md hk
 ·change upd C.ks C.j _ k=_ at hk;by_cases e:k=C.j
  ·subst e;rw[us]at hk;cases hk;exact⟨nofun,fun _=>rfl⟩
  ·rw[un k e]at hk;exact h.md k pc md hk
 ·have Y:=h.num y;rw[hd]at Y;have K:=AW (qJ y) (.at .recv .run) h H rfl;show C.dn.count y+sumTo J.n (fun i=>qJ y (upd C.ks C.j (.at .recv .run) i))=(J.gP.take (si J (J.kM (C.L++[c])))).count y
  rw[S,K];exact Y
 ·have Y:=h.pF;rw[hd]at Y;have K:=AW ll (.at .recv .run) h H rfl;show C.v+sumTo J.n (fun i=>ll (upd C.ks C.j (.at .recv .run) i))=C.j+1+pd (J.kM (C.L++[c]))
  rw[F,K];exact Y
 ·have K:=AW jy (.at .recv .run) h H rfl;have N:=AW jD (.at .recv .run) h H rfl;show nA (J.kM (C.L++[c])) C.v C.wt C.ws (sumTo J.n fun i=>jy (upd C.ks C.j (.at .recv .run) i)) (sumTo J.n fun i=>jD (upd C.ks C.j (.at .recv .run) i))
  rw[K,N];exact .inl ⟨I.1,I.2.1,I.2.2.1,I.2.2.2,B.1,fun y=>absurd y B.2⟩
 ·change Gone (upd C.ks C.j _ k)at hk;by_cases e:k=C.j
  ·subst e;rw[us]at hk;exact hk.elim
  ·rw[un k e]at hk;exact absurd hk (Q k)
 ·show E6 J (C.L++[c]) (C.j+1) (J.kM (C.L++[c]))
  rcases uH (J:=J) (L:=C.L++[c])with⟨Y,e⟩|⟨Y,K,e⟩|⟨Y,D,e⟩<;>rw[e]<;>rw[R]at Y
  ·exact⟨rfl,Y⟩
  ·exact⟨rfl,by omega,K⟩
  ·exact⟨rfl,by omega,G⟩
 ·change upd C.ks C.j _ k=_ at hk;by_cases e:k=C.j
  ·subst e;rw[us]at hk;cases hk
  ·rw[un k e]at hk;exact h.qU k p x md hk
 ·change upd C.ks C.j _ k=_ at hk;by_cases e:k=C.j
  ·subst e;rw[us]at hk;cases hk
  ·rw[un k e]at hk;exact h.oT k p md hk
 ·change upd C.ks C.j _ k=_ at hk;by_cases e:k=C.j
  ·subst e;rw[us]at hk;cases hk
  ·rw[un k e]at hk;exact h.h_ k i n hk
 ·change J.kM (C.L++[c])=_ at A;rcases uH (J:=J) (L:=C.L++[c])with⟨_,e⟩|⟨_,_,e⟩|⟨_,_,e⟩<;>rw[e]at A<;>cases A
 ·have K:=AW mB (.at .recv .run) h H rfl;show iF J C.v (J.kM (C.L++[c]))+sumTo J.n (fun i=>mB (upd C.ks C.j (.at .recv .run) i))<iF J C.v C.d+sumTo J.n (fun k=>mB (C.ks k))
  rw[K,hd];have M:mB (gZ.at Env.kU.recv Md.run:gZ E)=7:=rfl;have T:=h.len;rcases uH (J:=J) (L:=C.L++[c])with⟨Y,e⟩|⟨Y,K,e⟩|⟨Y,D,e⟩<;>rw[e]<;>rw[R]at Y<;>simp only[iF,R,M]<;>omega
def qa(b:Bool):gZ E->gZ E
 |.at pc .blk=>.at pc .run
 |.at pc .ic=>if b then .at pc .j_ else .at pc .ic
 |s=>s
def xw:Md->Md
 |.blk=>.run
 |x=>x
def iI.oM(J:iE)(C:iI E):={C with ks:=fun k=>qa (decide (k<jc J C.d)) (C.ks k),dm:=xw C.dm}
theorem wX{α:Type}(f:gZ E->α)(H:∀pc md Y,f (.at pc md)=f (.at pc Y))(b:Bool)(s:gZ E):f (qa b s)=f s:=by
 cases s with
 |«at» pc md=>
  cases md with
  |run=>rfl
  |blk=>exact H _ _ _
  |ic=>
   cases b
   ·rfl
   ·exact H _ _ _
  |j_=>rfl
 |_=>rfl
theorem wY{b:Bool}{s:gZ E}{pc:E.kU}{md:Md}(h:qa b s=.at pc md):∃Y,s=.at pc Y/\(Y=md\/(Y=.blk/\md=.run)\/(Y=.ic/\md=.j_/\b=true))/\md≠.blk/\(md=.ic->b=false):=by
 cases s with
 |«at» K Y=>
  cases Y with
  |run=>cases h;simp_all
  |blk=>cases h;simp_all
  |ic=>
   cases b
   ·cases h;simp_all
   ·cases h;simp_all
  |j_=>cases h;simp_all
 |_=>cases h
theorem CI.oM(h:CI J gX C):CI J gX (C.oM J):=by
 have H:∀{α:Type} (f:gZ E->α),(∀pc md B,f _=f _)->(fun k=>f ((C.oM J).ks k))=fun k=>f (C.ks k):=fun f U=>funext fun k=>wX f U _ _;refine⟨h.jn,h.len,h.BE,fun k hk=>?_,fun k hk e=>?_,?_,fun k hk=>?_,fun k γ md hk=>?_,fun k pc md hk=>?_,?_,fun y=>?_,h.fold,?_,?_,fun k hk=>?_,h.nW,fun k p x md hk=>?_,fun k p md hk=>?_,fun k i n hk=>?_,h.w2⟩
 ·show qa _ (C.ks k)=_
  rw[h.no k hk];rfl
 ·change qa _ (C.ks k)=_ at e;have:=h.yes k hk;cases Y:C.ks k with
  |«at» pc md=>
   rw[Y]at e;cases md with
   |ic=>revert e;simp only[qa];split<;>intro e<;>cases e
   |_=>cases e
  |no=>exact this Y
  |h_ i n=>rw[Y]at e;cases e
  |qt q=>rw[Y]at e;cases e
 ·rw[H iV fun _ _ _=>rfl];exact h.lock
 ·obtain⟨md,e⟩:=h.rM k hk;show∃md,qa _ (C.ks k)=_
  rw[e];cases md with
  |run=>exact⟨_,rfl⟩
  |blk=>exact⟨_,rfl⟩
  |ic=>
   have:=(h.md k _ _ e).2 (.inl rfl);cases this
  |j_=>exact⟨_,rfl⟩
 ·obtain⟨K,e,_⟩:=wY hk;exact h.xF k γ K e
 ·obtain⟨K,e,I,A,F⟩:=wY hk;refine⟨fun y=>absurd y A,fun y=>?_⟩;rcases I with rfl|⟨_,rfl⟩|⟨rfl,rfl,_⟩
  ·exact(h.md k _ _ e).2 y
  ·simp_all
  ·exact(h.md k _ _ e).2 (.inl rfl)
 ·have hd:=h.pE;show(xw C.dm=.blk->C.d=.w3)/\(xw C.dm=.ic->∃i,C.d=.send C.L i)/\xw C.dm≠.j_
  cases R:C.dm with
  |run=>exact⟨nofun,nofun,nofun⟩
  |blk=>exact⟨nofun,nofun,nofun⟩
  |ic=>exact⟨nofun,fun _=>hd.2.1 R,nofun⟩
  |j_=>exact absurd R hd.2.2
 ·rw[H _ fun _ _ _=>rfl];exact h.num y
 ·rw[H ll fun _ _ _=>rfl];exact h.pF
 ·rw[H jy fun _ _ _=>rfl,H jD fun _ _ _=>rfl];exact h.ph
 ·change Gone (qa _ (C.ks k))at hk;cases Y:C.ks k with
  |«at» pc md=>
   rw[Y]at hk;cases md with
   |ic=>
    by_cases D:k<jc J C.d
    ·exact D
    ·rw[decide_eq_false D]at hk;have e:=(h.md k _ _ Y).2 (.inl rfl);subst e;exact hk.elim
   |blk=>
    obtain⟨sv,x,e⟩:=(h.md k _ _ Y).1 rfl;subst e;exact hk.elim
   |run=>exact h.gone k (by rw[Y];exact hk)
   |j_=>exact h.gone k (by rw[Y];exact hk)
  |no=>rw[Y]at hk;exact hk.elim
  |h_ i n=>exact h.gone k (by rw[Y];trivial)
  |qt q=>exact h.gone k (by rw[Y];trivial)
 ·obtain⟨K,e,_⟩:=wY hk;exact h.qU k p x K e
 ·obtain⟨K,e,_⟩:=wY hk;exact h.oT k p K e
 ·change qa _ _=_ at hk;cases Y:C.ks k with
  |«at» pc md=>
   rw[Y]at hk;cases md with
   |ic=>revert hk;simp only[qa];split<;>intro e<;>cases e
   |_=>cases hk
  |no=>rw[Y]at hk;cases hk
  |h_ i' M=>rw[Y]at hk;cases hk;exact h.h_ k _ _ Y
  |qt q=>rw[Y]at hk;cases hk
theorem Q7:mu J (C.oM J)=mu J C:=by
 have Y:∀{α:Type} (f:gZ E->α),(∀pc md H,f _=f _)->(fun k=>f ((C.oM J).ks k))=fun k=>f _:=fun f K=>funext fun k=>wX f K _ _;unfold mu lH oU qi;rw[Y mB fun _ _ _=>rfl,Y (fun s=>bw (iV s)) fun _ _ _=>rfl,Y (fun s=>dw _ (iV s)) fun _ _ _=>rfl];rfl
theorem aaP(h:∀i,C.dm=.ic->C.d=.send C.L i->∀pc,C.ks (i%J.n)≠.at pc .ic):Calm J (C.oM J):=by
 refine⟨fun k pc hk=>?_,fun k pc hk D=>?_,fun hd=>?_,fun i R hd pc hk=>?_⟩
 ·obtain⟨_,_,_,A,_⟩:=wY hk;simp_all
 ·obtain⟨_,_,_,_,H⟩:=wY hk;have:=H rfl;simp only[decide_eq_false_iff_not]at this;exact this D
 ·revert hd;show xw _=.blk->_
  cases C.dm<;>intro e<;>cases e
 ·have K:C.dm=.ic:=by
   revert R;show xw _=.ic->_
   cases C.dm<;>intro e<;>first|rfl|cases e
  obtain⟨I,e,Y,_⟩:=wY hk;rcases Y with rfl|⟨_,Y⟩|⟨_,Y,_⟩
  ·exact h i K hd pc e
  ·cases Y
  ·cases Y
end
theorem C6(f:Nat->PC)(k:Nat):Lock.put f k (f k)=f:=by
 funext i;unfold Lock.put;simp_all
theorem agR{p p':PC}{m m':Word}{c:Nat}(h:Mv p m c p' m' c')(Y:iT p=2):p'=.cr\/iT p'=2:=by
 cases h with
 |E3=>exact .inl rfl
 |rd=>right;unfold Lock.hr;split<;>rfl
 |hw=>right;unfold Lock.hd;split<;>(try split)<;>rfl
 |E4=>
  split
  ·simp
  ·exact .inr rfl
 |E5=>right;unfold Lock.hr;split<;>rfl
 |a1=>exact .inl rfl
 |u0=>cases Y
 |BB=>cases Y
 |BC=>cases Y
 |ur=>cases Y
 |us=>cases Y
 |uh=>cases Y
 |_=>exact .inr rfl
theorem aeH{p p':PC}{m m':Word}{c:Nat}(h:Mv p m c p' m' c')(Y:iT p=0/\p≠.out\/p=.cr):p'=.out\/(iT p'=0/\p'≠.out):=by
 have hd:∀m,Lock.dec m=.out\/(iT (Lock.dec m)=0/\Lock.dec m≠.out):=by
  intro m;unfold Lock.dec;split
  ·simp
  ·exact .inr ⟨rfl,nofun⟩
 cases h with
 |u0=>
  split
  ·exact .inr ⟨rfl,nofun⟩
  simp_all
 |BB=>exact .inr ⟨rfl,nofun⟩
 |BC=>exact .inr ⟨rfl,nofun⟩
 |ur=>exact hd _
 |us=>exact .inl rfl
 |uh=>exact .inl rfl
 |_=>rcases Y with⟨Y,_⟩|Y<;>cases Y
section
variable{E:Env}{J:iE}{gX:E.Γ}{C:iI E}
def iI.w1(C:iI E)(k:Nat)(s':gZ E):=C.wk k s' C.d C.dm C.m C.c C.v C.wt C.ws C.γ C.dn C.tok
theorem CI.c1(h:CI J gX C):C.c<=1:=(G1 h.lock).1
theorem CI.JE(h:CI J gX C){pc:E.kU}{md:Md}(e:C.ks k=.at pc md)(n1:∀γ,pc≠.ur γ)(Y:C.tok=some i):i≠k:=by
 rintro rfl;obtain⟨K,e'⟩:=h.rM i Y;rw[e]at e';simp_all
theorem CI.quiet{pc Y:E.kU}{md H:Md}(h:CI J gX C)(hk:k<C.j)(e:C.ks k=.at pc md)(M:oS Y=oS pc)(F:∀y,qI y Y=qI y pc)(n1:∀γ,pc≠.ur γ)(n2:∀γ,Y≠.ur γ)
  (N:(H=.blk->∃sv x,Y=.lk (.s1 sv) x)/\(H=.ic\/H=.j_->Y=.recv))(A:Gone (.at Y H)->k<jc J C.d)(qU:∀p x,Y=.lk p x->iT p=2)(oT:∀p,Y=.un p->iT p=0/\p≠.out):CI J gX (C.w1 k (.at Y H)):=by
 refine h.wk hk e nofun ?_ (fun i R=>.inr ⟨h.JE e n1 R,R,rfl⟩) (fun γ md e'=>by simp_all) (fun i _ R=>R) (fun U D K=>by cases K;omega) h.pE (fun y=>?_) h.fold rfl (fun B K I=>I) A (ao _) h.nW (fun p x D K=>by simp_all) (fun p D K=>by simp_all) (fun i n K=>by cases K) h.w2
 ·have:iV (gZ.at Y H)=(fun i=>iV (C.ks i)) k:=by
   show oS Y=iV (C.ks k)
   rw[e];exact M
  rw[this,C6];exact h.lock
 ·show C.dn.count y+qI y Y+_=C.dn.count y+qI y pc+_
  rw[F]
theorem Ea{s s':gZ E}(H:J.n<=8)(Y:C.c<=1)(hk:k<J.n)(e:C.ks k=s)(hr:mB s'<mB s):mu J (C.w1 k s')<mu J C:=by
 refine xG H Y ?_;have:=xp (s':=s') (d':=C.d) (oC:=C.dm) (m':=C.m) (c':=C.c) (v':=C.v) (il:=C.wt) (ig:=C.ws) (lq:=C.γ) (kh:=C.dn) (jQ:=C.tok) hk e;change lH J (C.w1 k s')+_+_=_ at this;omega
theorem Q8{s s':gZ E}(hk:k<J.n)(e:C.ks k=s)(hr:mB s'=mB s)(R:iV s'=iV s):mu J (C.w1 k s')=mu J C:=by
 have H:=xp (s':=s') (d':=C.d) (oC:=C.dm) (m':=C.m) (c':=C.c) (v':=C.v) (il:=C.wt) (ig:=C.ws) (lq:=C.γ) (kh:=C.dn) (jQ:=C.tok) hk e;have Y:=Sc (s':=s') (d':=C.d) (oC:=C.dm) (m':=C.m) (c':=C.c) (v':=C.v) (il:=C.wt) (ig:=C.ws) (lq:=C.γ) (kh:=C.dn) (jQ:=C.tok) hk e;have K:=Q6 (s':=s') (d':=C.d) (oC:=C.dm) (c':=C.c) (v':=C.v) (il:=C.wt) (ig:=C.ws) (lq:=C.γ) (kh:=C.dn) (jQ:=C.tok) hk e;change lH J (C.w1 k s')+_+_=_ at H;change oU J (C.w1 k s')+_+_=_ at Y;change qi J (C.w1 k s')+_=_ at K;rw[R]at Y K;unfold mu;omega
def iI.mv(C:iI E)(k:Nat)(Y:E.kU)(m':Word)(c':Nat):=C.wk k (.at Y .run) C.d C.dm m' c' C.v C.wt C.ws C.γ C.dn C.tok
theorem CI.mv{pc Y:E.kU}{p p':PC}{m':Word}(h:CI J gX C)(V:J.n<=8)(hk:k<C.j)(e:C.ks k=.at pc .run)(R:oS pc=p)(H:oS Y=p')(O:Mv p C.m C.c p' m' c')(G:∀y,qI y Y=qI y pc)(n1:∀γ,pc≠.ur γ)(n2:∀γ,Y≠.ur γ)(n3:Y≠.wr)
  (hr:qv Y<qv pc\/(qv Y=qv pc/\iT p'=iT p))(qU:∀p x,Y=.lk p x->iT p=2)(oT:∀p,Y=.un p->iT p=0/\p≠.out):CI J gX (C.mv k Y m' c')/\mu J (C.mv k Y m' c')<mu J C:=by
 have K:k<J.n:=au hk h.jn;have P:=by
  show iV (C.ks k)=p
  rw[e];exact R
 have N:=by
  show Lock.Inv (Lock.put (fun i=>iV (C.ks i)) k (oS Y)) J.n m' c'
  rw[H];exact h.lock.step K P O
 refine⟨?_,?_⟩
 ·refine h.wk hk e nofun N (fun i A=>.inr ⟨h.JE e n1 A,A,rfl⟩) (fun γ md e'=>by simp_all) (fun i _ A=>A) (fun T I D=>by cases D;simp_all) h.pE (fun y=>?_) h.fold rfl (fun X D R=>R) (fun S=>?_) (ao _) h.nW (fun p x I D=>by simp_all) (fun p I D=>by simp_all) (fun i n D=>by cases D) h.w2
  ·show C.dn.count y+qI y Y+_=C.dn.count y+qI y pc+_
   rw[G]
  ·cases Y with
   |wr=>exact absurd rfl n3
   |_=>exact S.elim
 ·have Q:=xp (C:=C) (J:=J) (s':=.at Y .run) (d':=C.d) (oC:=C.dm) (m':=m') (c':=c') (v':=C.v) (il:=C.wt) (ig:=C.ws) (lq:=C.γ) (kh:=C.dn) (jQ:=C.tok) K e;have F:=Sc (C:=C) (J:=J) (s':=.at Y .run) (d':=C.d) (oC:=C.dm) (m':=m') (c':=c') (v':=C.v) (il:=C.wt) (ig:=C.ws) (lq:=C.γ) (kh:=C.dn) (jQ:=C.tok) K e;change lH J (C.mv k Y m' c')+iF J C.v C.d+qv pc=lH J C+iF J C.v C.d+qv Y at Q;change oU J (C.mv k Y m' c')+bw (oS pc)+7 *C.c=oU J C+bw (oS Y)+7 *c' at F;rw[R,H]at F;have U:=(G1 N).1;have B:Lock.Ok C.m p:=by
   have:=h.lock.ok k K;simp_all
  rcases hr with hr|⟨hr,W⟩
  ·exact xG V U (by omega)
  ·rcases O.down B with L|⟨_,L⟩|⟨_,L,rfl,rfl,Z⟩
   ·omega
   ·exact aj8 V (by omega) (by omega)
   ·have M:=Q6 (C:=C) (J:=J) (s':=.at Y .run) (d':=C.d) (oC:=C.dm) (c':=C.c) (v':=C.v) (il:=C.wt) (ig:=C.ws) (lq:=C.γ) (kh:=C.dn) (jQ:=C.tok) K e;change qi J (C.mv k Y C.m C.c)+dw C.m (oS pc)=qi J C+dw C.m (oS Y)at M;rw[R,H]at M;exact aj9 (by omega) (by omega) (by omega)
theorem CI.mvL{x:Nat}{p p':PC}{m':Word}(h:CI J gX C)(H:J.n<=8)(hk:k<C.j)(e:C.ks k=.at (.lk p x) .run)(Y:Mv p C.m C.c p' m' c'):CI J gX (C.mv k (Env.behind p' x) m' c')/\mu J (C.mv k (Env.behind p' x) m' c')<mu J C:=by
 have I:=h.qU k p x _ e;rcases agR Y I with rfl|K
 ·exact h.mv H hk e rfl rfl Y (fun y=>rfl) nofun nofun nofun (.inl (by show 14<14+iT p;omega)) nofun nofun
 ·have R:Env.behind (E:=E) p' x=.lk p' x:=by
   cases p'<;>first|rfl|(cases K;done)
  rw[R];exact h.mv H hk e rfl rfl Y (fun y=>rfl) nofun nofun nofun (.inr ⟨by show 14+iT p'=14+iT p;omega,by show iT p'=iT p;omega⟩) (fun A x0 D=>by cases D;exact K) nofun
theorem CI.Ut{pc:E.kU}{p p':PC}{m':Word}(h:CI J gX C)(F:J.n<=8)(hk:k<C.j)(e:C.ks k=.at pc .run)(Y:(pc=.u0/\p=.cr)\/pc=.un p)(H:Mv p C.m C.c p' m' c'):CI J gX (C.mv k (Env.xh p') m' c')/\mu J (C.mv k (Env.xh p') m' c')<mu J C:=by
 have L:iT p=0/\p≠.out\/p=.cr:=by
  rcases Y with⟨rfl,rfl⟩|rfl
  ·exact .inr rfl
  ·exact .inl (h.oT k p _ e)
 have A:oS pc=p:=by rcases Y with⟨rfl,rfl⟩|rfl<;>rfl
 have I:∀y,qI y pc=0:=by rcases Y with⟨rfl,rfl⟩|rfl<;>exact fun y=>rfl
 have n1:∀γ,pc≠.ur γ:=by rcases Y with⟨rfl,rfl⟩|rfl<;>nofun
 have K:9<=qv pc/\(pc=.un p->qv pc=9)/\(pc=.u0->qv pc=10):=by
  rcases Y with⟨rfl,rfl⟩|rfl
  ·exact⟨by show 9<=10;omega,nofun,fun _=>rfl⟩
  ·have:=h.oT k p _ e;exact⟨by show 9<=9+iT p;omega,fun _=>by show 9+iT p=9;omega,nofun⟩
 rcases aeH H L with rfl|⟨D,R⟩
 ·exact h.mv F hk e A rfl H (fun y=>by rw[I];rfl) n1 nofun nofun (.inl (by have:=K.1;show 8<qv pc;omega)) nofun nofun
 ·have B:Env.xh (E:=E) p'=.un p':=by
   cases p'<;>first|rfl|exact absurd rfl R
  rw[B];refine h.mv F hk e A rfl H (fun y=>by rw[I];rfl) n1 nofun nofun ?_ nofun (fun M U=>by cases U;exact⟨D,R⟩);rcases Y with⟨rfl,rfl⟩|rfl
  ·exact .inl (by show 9+iT p'<10;omega)
  ·exact .inr ⟨by rw[K.2.1 rfl];show 9+iT p'=9;omega,by show iT p'=iT p;rw[D];exact(h.oT k p _ e).1.symm⟩
def iI.take(C:iI E)(k x:Nat):=C.wk k (.at (.ur (E.upd C.γ x)) .run) C.d C.dm C.m C.c C.v C.wt C.ws (E.upd C.γ x) (C.dn++[x]) (some k)
theorem CI.free{x:Nat}{md:Md}(h:CI J gX C)(hk:k<C.j)(e:C.ks k=.at (.la x) md):C.tok=none:=by
 cases K:C.tok with
 |none=>rfl
 |some i=>
  obtain⟨H,e'⟩:=h.rM i K;have Y:=au (Nat.lt_of_not_le fun y=>by rw[h.no i y]at e';cases e') h.jn;have:=h.lock.one Y (au hk h.jn) (by rw[e'];rfl) (by rw[e];rfl);simp_all
theorem CI.take{x:Nat}(h:CI J gX C)(A:J.n<=8)(hk:k<C.j)(e:C.ks k=.at (.la x) .run):CI J gX (C.take k x)/\mu J (C.take k x)<mu J C:=by
 have K:k<J.n:=au hk h.jn;have U:=h.free hk e;refine⟨h.wk hk e nofun ?_ (fun i Y=>.inl ⟨(Option.some.inj Y).symm,_,rfl⟩) (fun γ md e'=>rfl) (fun i _ Y=>by rw[U]at Y;cases Y) (fun F B H=>by cases H;exact⟨nofun,fun y=>by rcases y with y|y<;>cases y⟩) h.pE (fun y=>?_) ?_ rfl (fun L H I=>I) (fun R=>R.elim) (ao _) h.nW nofun nofun nofun h.w2,xG A h.c1 ?_⟩
 ·have:iV (gZ.at (.ur (E.upd C.γ x)) .run:gZ E)=(fun i=>iV (C.ks i)) k:=by
   show PC.cr=iV (C.ks k)
   rw[e];rfl
  rw[this,C6];exact h.lock
 ·show(C.dn++[x]).count y+0+_=C.dn.count y+(if x=y then 1 else 0)+_
  rw[dj,dk,dp];simp only[beq_iff_eq];omega
 ·rw[List.foldl_append,<-h.fold];rfl
 ·have D:=xp (C:=C) (J:=J) (s':=.at (.ur (E.upd C.γ x)) .run) (d':=C.d) (oC:=C.dm) (m':=C.m) (c':=C.c) (v':=C.v) (il:=C.wt) (ig:=C.ws) (lq:=E.upd C.γ x) (kh:=C.dn++[x]) (jQ:=some k) K e;change lH J (C.take k x)+iF J C.v C.d+13=lH J C+iF J C.v C.d+12 at D;omega
def iI.give(C:iI E)(k:Nat):=C.wk k (.at .ud .run) C.d C.dm C.m C.c C.v C.wt C.ws C.γ C.dn none
theorem CI.give{γ:E.Γ}(h:CI J gX C)(F:J.n<=8)(hk:k<C.j)(e:C.ks k=.at (.ur γ) .run):CI J gX (C.give k)/\mu J (C.give k)<mu J C/\C.tok=some k/\C.γ=γ:=by
 have K:k<J.n:=au hk h.jn;have H:=h.xF k γ _ e;refine⟨h.wk hk e nofun ?_ nofun (fun γ md e'=>by cases e') (fun i A Y=>by rw[H]at Y;exact absurd (Option.some.inj Y).symm A) (fun L B D=>by cases D;exact⟨nofun,fun y=>by rcases y with y|y<;>cases y⟩) h.pE (fun y=>rfl) h.fold rfl (fun M D U=>U) (fun I=>I.elim) (ao _) h.nW nofun nofun nofun h.w2,xG F h.c1 ?_,H,?_⟩
 ·have:iV (gZ.at .ud .run:gZ E)=(fun i=>iV (C.ks i)) k:=by
   show PC.cr=iV (C.ks k)
   rw[e];rfl
  rw[this,C6];exact h.lock
 ·have R:=xp (C:=C) (J:=J) (s':=.at .ud .run) (d':=C.d) (oC:=C.dm) (m':=C.m) (c':=C.c) (v':=C.v) (il:=C.wt) (ig:=C.ws) (lq:=C.γ) (kh:=C.dn) (jQ:=none) K e;change lH J (C.give k)+iF J C.v C.d+12=lH J C+iF J C.v C.d+11 at R;omega
 ·obtain⟨md,e'⟩:=h.rM k H;rw[e]at e';cases e';rfl
def iI.hand(J:iE)(C:iI E)(k x i:Nat):=C.wk k (.at (.ld x) .run) (J.sends C.L (i+1)) .run C.m C.c C.v C.wt C.ws C.γ C.dn C.tok
theorem uN:(i<J.gP.length/\J.sends L i=.send L i)\/(¬i<J.gP.length/\J.sends L i=.close L 0):=by
 unfold iE.sends;by_cases Y:i<J.gP.length
 ·simp_all
 ·simp_all
theorem nA.early{d:jK}{v wt ws e2 e0:Nat}(h:nA d v wt ws e2 e0)(hw:¬yY d):wt=0/\ws=0/\e2=0/\e0=0:=by
 rcases h with y|y
 ·omega
 ·simp_all
theorem CI.hand{x:Nat}{md:Md}(h:CI J gX C)(A:0<J.n)(N:J.n<=8)(hk:k<C.j)(e:C.ks k=.at .recv md)(hd:C.d=.send C.L i)(O:J.gP[i]?=some x):CI J gX (C.hand J k x i)/\mu J (C.hand J k x i)<mu J C:=by
 have R:k<J.n:=au hk h.jn;have H:=h.nW;rw[hd]at H;have F:Lock.Inv (Lock.put (fun i=>iV (C.ks i)) k (iV (gZ.at (.ld x) .run:gZ E))) J.n C.m C.c:=
  Lock.tq h.lock R (p:=.out) (by show iV (C.ks k)=.out;rw[e];rfl) trivial rfl rfl rfl rfl rfl rfl rfl rfl
 refine⟨h.wk hk e nofun F (fun i I=>.inr ⟨h.JE e nofun I,I,rfl⟩) nofun (fun i _ I=>I) (fun Q P D=>by cases D;exact⟨nofun,fun y=>by rcases y with y|y<;>cases y⟩) ⟨nofun,nofun,nofun⟩ (fun y=>?_) h.fold ?_ (fun S D B=>?_) (fun M=>M.elim) ?_ ?_ nofun nofun nofun (fun v0 D=>by rcases uN (J:=J) (L:=C.L) (i:=i+1)with⟨_,Y⟩|⟨_,Y⟩<;>rw[Y]at D<;>cases D),xG N h.c1 ?_⟩
 ·have s1:si J (J.sends C.L (i+1))=i+1:=by
   rcases uN (J:=J) (L:=C.L) (i:=i+1)with⟨K,Y⟩|⟨K,Y⟩<;>rw[Y]
   ·rfl
   ·show J.gP.length=i+1
    have:=H.2.2;omega
  rw[s1,hd];show C.dn.count y+(if x=y then 1 else 0)+(J.gP.take i).count y=C.dn.count y+0+(J.gP.take (i+1)).count y
  rw[List.take_add_one,O,dj];show _=_+(_+List.count y [x])
  rw[dk,dp];simp only[beq_iff_eq];omega
 ·rw[hd];rcases uN (J:=J) (L:=C.L) (i:=i+1)with⟨K,Y⟩|⟨K,Y⟩<;>rw[Y]<;>rfl
 ·rw[hd]at B;obtain⟨a1,a2,a3,a4⟩:=B.early id;rcases uN (J:=J) (L:=C.L) (i:=i+1)with⟨K,Y⟩|⟨K,Y⟩<;>rw[Y]<;>exact .inl ⟨a1,a2,a3,a4,id,fun y=>y.elim⟩
 ·rw[hd];exact cL _
 ·rcases uN (J:=J) (L:=C.L) (i:=i+1)with⟨K,Y⟩|⟨K,Y⟩<;>rw[Y]
  ·exact⟨rfl,H.2.1,K⟩
  ·exact⟨rfl,H.2.1,A⟩
 ·have K:=xp (C:=C) (J:=J) (s':=.at (.ld x) .run) (d':=J.sends C.L (i+1)) (oC:=.run) (m':=C.m) (c':=C.c) (v':=C.v) (il:=C.wt) (ig:=C.ws) (lq:=C.γ) (kh:=C.dn) (jQ:=C.tok) R e;change lH J (C.hand J k x i)+iF J C.v C.d+7=lH J C+iF J C.v (J.sends C.L (i+1))+17 at K;have:=H.2.2;rw[hd]at K;rcases uN (J:=J) (L:=C.L) (i:=i+1)with⟨Y,U⟩|⟨Y,U⟩<;>rw[U]at K<;>simp only[iF]at K<;>omega
theorem CI.shut{md:Md}(h:CI J gX C)(H:J.n<=8)(hk:k<C.j)(e:C.ks k=.at .recv md)(Y:k<jc J C.d):CI J gX (C.w1 k (.at .wr .run))/\mu J (C.w1 k (.at .wr .run))<mu J C:=
 ⟨h.quiet hk e rfl (fun y=>rfl) nofun nofun ⟨nofun,fun y=>by simp_all⟩ (fun _=>Y) nofun nofun,Ea H h.c1 (au hk h.jn) e (by show 6<7;omega)⟩
theorem CI.slip{s s':gZ E}(h:CI J gX C)(hk:k<C.j)(e:C.ks k=s)(V:iV s=.out)(A:iV s'=.out)(ne:s'≠.no)(H:∀pc md,s'≠.at pc md)(O:∀y,qJ y s=0)(G:∀γ md,s≠.at (.ur γ) md)
  (pF:v'+ll s'=C.v+ll s)(ph:∀R Y,nA C.d C.v C.wt C.ws (R+jy s) (Y+jD s)->nA C.d v' il ig (R+jy s') (Y+jD s'))(N:Gone s)(F:∀i n,s'=.h_ i n->i<=4)(M:v'<=C.v):CI J gX (C.wk k s' C.d C.dm C.m C.c v' il ig C.γ C.dn C.tok):=by
 refine h.wk hk e ne ?_ (fun i K=>.inr ⟨?_,K,rfl⟩) (fun γ md e'=>absurd e' (H _ _)) (fun i _ K=>K) (fun pc md e'=>absurd e' (H _ _)) h.pE (fun y=>?_) h.fold (by omega) ph (fun _=>h.gone k (by simp_all)) (ao _) h.nW (fun p x md e'=>absurd e' (H _ _)) (fun p md e'=>absurd e' (H _ _)) F (fun v0 Y=>⟨(h.w2 v0 Y).1,aV M (h.w2 v0 Y).2⟩)
 ·have:iV s'=(fun i=>iV (C.ks i)) k:=by simp_all
  rw[this,C6];exact h.lock
 ·rintro rfl;obtain⟨D,e'⟩:=h.rM i K;rw[e]at e';simp_all
 ·have:qJ y s'=0:=by
   cases s' with
   |«at» pc md=>exact absurd rfl (H pc md)
   |_=>rfl
  simp_all
end
end Ph
namespace Ph
open Conc Ren
section
variable(E:Env)(RO:Nat->Prop)(b:Nat)
def Seen(B:Nat)(op:aP):=op.act.low B/\∀a,op.act≠.mark (.release a)
def gi(b:Nat)
 |0=>0
 |k+1=>b+k
open Classical in
def mK (I:Nat->Nat->Prop) (a:Nat):ui:=if RO a then .ro else if a=E.Mp then .pr else if h:∃i,I i a then .own (gi b (bp h))else .no
open Classical in
def nc (I:Nat->Nat->Prop):Loc->ui
 |.cell a=>if E.U a.block a.off then .at else mK E RO b I a.block
 |.obj a=>mK E RO b I a
 |_=>.no
end
section
variable{E:Env}{RO:Nat->Prop}{b:Nat}{I vQ:Nat->Nat->Prop}
theorem aeI{a:Nat}(h:RO a):mK E RO b I a=.ro:=by unfold mK;simp_all
theorem Iy(h:¬RO E.Mp):mK E RO b I E.Mp=.pr:=by unfold mK;simp_all
theorem Qa{a:Nat}(h:¬RO a)(H:a≠E.Mp)(Y:I i a)(R:∀i',I i' a->i'=i):mK E RO b I a=.own (gi b i):=by
 unfold mK;rw[if_neg h,if_neg H,dif_pos ⟨i,Y⟩,R _ (cG (⟨i,Y⟩:∃i,I i a))]
theorem Ho{a:Nat}(h:∀i,vQ i a↔I i a):mK E RO b vQ a=mK E RO b I a:=by
 have:=funext fun i=>propext (h i);have key:∀p p':Nat->Prop,p'=p->(open Classical in(if RO a then ui.ro else if a=E.Mp then .pr else if h:∃i,p' i then .own (gi b (bp h))else .no))=(open Classical in(if RO a then ui.ro else if a=E.Mp then .pr else if h:∃i,p i then .own (gi b (bp h))else .no)):=by simp
 exact key _ _ this
theorem Om(h:∀i a,a<B->(vQ i a↔I i a)){l:Loc}(Y:l.low B):nc E RO b vQ l=nc E RO b I l:=by
 cases l with
 |cell a=>simp[nc];rw[Ho fun i=>h i _ Y]
 |obj a=>exact Ho fun i=>h i _ Y
 |_=>rfl
theorem O7:∀l,l.isMemory=false->nc E RO b I l=.no
 |.cell _,h=>by cases h
 |.obj _,h=>by cases h
 |.output,_=>rfl
 |.goroutines,_=>rfl
 |.mark _,_=>rfl
def rN(E:Env):Loc->Prop
 |.cell a=>E.U a.block a.off
 |_=>False
theorem Q9(a:Nat):mK E RO b I a≠.at:=by
 unfold mK;split
 ·nofun
 ·split
  ·nofun
  ·split<;>nofun
theorem Qb{l:Loc}(h:nc E RO b I l=.at):rN E l:=by
 cases l with
 |cell a=>
  simp only[nc]at h;split at h
  ·assumption
  ·exact absurd h (Q9 _)
 |obj a=>exact absurd h (Q9 _)
 |_=>cases h
theorem Xw{op:aP}{x:bt}(h:op.act.low B)(Y:op.act.touch?=some x):x.loc.low B:=by
 obtain⟨g,fn,pos,act⟩:=op;cases act with
 |access e=>simp[aJ,br]at Y;subst Y;exact h
 |mark m=>
  cases m<;>simp[aJ,br]at Y<;>first|(subst Y;exact h)|cases Y
 |_=>simp[aJ]at Y
variable{j:Nat}{jl:Loc->Prop}{t:ax}{tok:Option Nat}{rel:Nat->Option Nat}{w w1:af}{S X S1 X1:Nat->Prop}{es:Array aT}{i:Nat}{fn:ar}{pos:String}
theorem pS{g:Nat}{op:aP}(h:op∈aN g fn pos es):∃e∈es,op={g,fn,pos,act:=.ofEvent e}:=by
 rw[bU]at h;obtain⟨e,Y,rfl⟩:=bY.1 h;exact⟨e,Y,rfl⟩
theorem acM{mu:Addr}(hd:kz E.U S X w w1 es S1 X1)(g:Nat)(cls:Loc->ui)(F:∀a:Nat,S a->(cls (.obj a)=.ro/\¬X a)\/(cls (.obj a)=.pr/\tok=some g)\/cls (.obj a)=.own g)(M:∀a:Addr,¬E.U a.block a.off->cls (.cell a)=cls (.obj a.block))(N:∀a,w.heap.size<=a->a<w1.heap.size->cls (.obj a)=.own g):
  ∀op∈aN g fn pos es,OkOp mu wg cls tok g op:=by
 intro op gN;obtain⟨e,A,rfl⟩:=pS gN;obtain⟨loc,wr,C⟩:=e;have fin:∀{a:Nat} {l:Loc},cls l=cls (.obj a)->((S a/\(wr=true->X a))\/(w.heap.size<=a/\a<w1.heap.size))->(cls l=.ro/\wr=false)\/(cls l=.pr/\tok=some g)\/cls l=.own g:=by
  intro a l B h;rw[B];rcases h with⟨D,I⟩|⟨D,I⟩
  ·rcases F a D with⟨y,z⟩|y|y
   ·simp_all
   ·exact .inr (.inl y)
   ·exact .inr (.inr y)
  ·exact .inr (.inr (N a D I))
 rcases hd.ev _ A with⟨a,Y,H,h⟩|⟨a,Y,H,h⟩|⟨m,Y,h⟩|Y
 ·simp only at Y H;subst Y H;refine⟨rfl,nofun,nofun,fun x K=>?_⟩;simp only[az,aJ,br]at K;subst K;rcases fin (M a (hd.Ky _ A a rfl)) h with y|y|y
  ·simp_all
  ·exact .inr (.inr (.inr (.inr (.inl y))))
  ·simp_all
 ·simp only at Y H;subst Y H;have R:az ⟨.obj a,wr,false⟩=.access ⟨.obj a,wr,false⟩:=by cases wr<;>rfl
  refine⟨rfl,by rw[R];nofun,by rw[R];nofun,fun x K=>?_⟩;simp only[R,aJ,br]at K;subst K;rcases fin rfl h with y|y|y
  ·exact .inr (.inr (.inr (.inl y)))
  ·exact .inr (.inr (.inr (.inr (.inl y))))
  ·simp_all
 ·simp only at Y;subst Y;refine⟨rfl,?_,?_,fun x K=>?_⟩
  ·rcases h with rfl|⟨f,rfl⟩<;>nofun
  ·rcases h with rfl|⟨f,rfl⟩<;>nofun
  ·rcases h with rfl|⟨f,rfl⟩<;>simp[az,aJ]at K
 ·simp only at Y;subst Y;refine⟨rfl,nofun,nofun,fun x K=>?_⟩;simp only[az,aJ,br]at K;subst K;exact .inl rfl
theorem acN(hd:kz E.U S X w w1 es S1 X1)(g:Nat):∀op∈aN g fn pos es,∀a,op.act≠.mark (.release a):=by
 intro op gN a0;obtain⟨e,H,rfl⟩:=pS gN;obtain⟨loc,wr,R⟩:=e;rcases hd.ev _ H with⟨a,Y,K,h⟩|⟨a,Y,K,h⟩|⟨m,Y,h⟩|Y
 ·subst Y K;nofun
 ·subst Y K;have D:az ⟨.obj a,wr,false⟩=.access ⟨.obj a,wr,false⟩:=by cases wr<;>rfl
  simp_all
 ·subst Y;rcases h with rfl|⟨f,rfl⟩<;>nofun
 ·subst Y;nofun
theorem aeJ(hd:kz E.U S X w w1 es S1 X1)(H:∀a,S a->a<w.heap.size)(g:Nat):∀op∈aN g fn pos es,op.act.low w1.heap.size:=by
 intro op gN;obtain⟨e,R,rfl⟩:=pS gN;obtain⟨loc,wr,A⟩:=e;have I:=hd.grow;rcases hd.ev _ R with⟨a,Y,K,h⟩|⟨a,Y,K,h⟩|⟨m,Y,h⟩|Y
 ·subst Y K;show a.block<_
  rcases h with⟨h,_⟩|h
  ·have:=H _ h;omega
  ·omega
 ·subst Y K;have D:az ⟨.obj a,wr,false⟩=.access ⟨.obj a,wr,false⟩:=by cases wr<;>rfl
  rw[D];show a<_
  rcases h with⟨h,_⟩|h
  ·have:=H _ h;omega
  ·omega
 ·subst Y;rcases h with rfl|⟨f,rfl⟩<;>trivial
 ·subst Y;trivial
theorem Qc(hd:kz E.U S X w w1 es S1 X1)(d:Nat):bK d es=d:=by
 refine cS (fun e H=>?_) d;obtain⟨loc,wr,D⟩:=e;rcases hd.ev _ H with⟨a,Y,K,h⟩|⟨a,Y,K,h⟩|⟨m,Y,h⟩|Y<;>simp only at Y<;>subst Y
 ·simp
 ·simp
 ·rcases h with rfl|⟨f,rfl⟩<;>exact⟨nofun,nofun⟩
 ·simp
theorem Qd(hd:kz E.U S X w w1 es S1 X1)(Y:∀a,S a->a<w.heap.size)(g:Nat):∀op∈aN g fn pos es,Seen w1.heap.size op:=fun op gN=>⟨aeJ hd Y g op gN,acN hd g op gN⟩
theorem H7{mu:Addr}(h:Env.EvA bl es)(R:bl=E.Fd\/bl=E.Wg)(g:Nat):∀op∈aN g fn pos es,OkOp mu wg (nc E RO b I) tok g op:=by
 intro op gN;obtain⟨e,H,rfl⟩:=pS gN;have cell:∀(a:Addr) (wr:Bool),a.block=bl->a.off<2->OkOp mu wg (nc E RO b I) tok g {g,fn,pos,act:=.ofEvent ⟨.cell a,wr,true⟩}:=by
  intro a wr D K;refine⟨rfl,nofun,nofun,fun x Y=>?_⟩;simp[az,aJ,br]at Y;subst Y;refine .inr (.inl ⟨?_,rfl⟩);have B:E.U a.block _:=⟨by omega,K⟩;simp[nc];simp_all
 rcases h with h|⟨o,A,rfl⟩
 ·obtain⟨a,wr,rfl,D,K,_⟩:=h e H;exact cell a wr D K
 ·simp[aK,cu,cn,cv,or_false]at H;rcases H with rfl|rfl|rfl|rfl
  ·exact⟨rfl,nofun,nofun,fun x Y=>by simp[az,aJ]at Y⟩
  ·simp_all
  ·simp_all
  ·exact⟨rfl,nofun,nofun,fun x Y=>by simp[az,aJ]at Y⟩
theorem aeK(h:Env.EvA bl es)(H:bl<B)(g:Nat):∀op∈aN g fn pos es,op.act.low B:=by
 intro op gN;obtain⟨e,Y,rfl⟩:=pS gN;rcases h with h|⟨o,R,rfl⟩
 ·obtain⟨a,wr,rfl,K,D,_⟩:=h e Y;show a.block<B
  omega
 ·simp[aK,cu,cn,cv,or_false]at Y;rcases Y with rfl|rfl|rfl|rfl
  ·trivial
  ·exact H
  ·exact H
  ·trivial
theorem H8(h:Env.EvA bl es)(H:bl<B)(g:Nat):∀op∈aN g fn pos es,Seen B op:=by
 intro op gN;refine⟨aeK h H g op gN,fun a0=>?_⟩;obtain⟨e,Y,rfl⟩:=pS gN;rcases h with h|⟨o,R,rfl⟩
 ·obtain⟨a,wr,rfl,K,D,_⟩:=h e Y;nofun
 ·simp[aK,cu,cn,cv,or_false]at Y;rcases Y with rfl|rfl|rfl|rfl<;>nofun
theorem C7(h:Env.EvA bl es)(d:Nat):bK d es=d:=by
 rcases h with h|⟨o,K,rfl⟩
 ·refine cS (fun e Y=>?_) d;obtain⟨a,wr,rfl,_⟩:=h e Y;simp_all
 ·simp[aK,bK]
theorem Xb(h:Env.EvA bl es){g:Nat}(hd:0<Deaf t g):∀i x,t.size<=i->aL (t++aN g fn pos es) i=some x->x.loc.isMemory=true->x.kind=.atomic/\¬(t++aN g fn pos es).counts i/\∃a:Addr,x.loc=.cell a/\a.block=bl/\a.off<2:=by
 intro i x Q O X;obtain⟨op,R,H⟩:=cW O;have F:=by
  rw[Array.getElem?_append]at R;simpa[Nat.not_lt.2 Q]using R
 have S:=F;rw[bU,bM]at F;obtain⟨e,K,rfl⟩:=bQ.1 F;have D:i-t.size<=es.size:=by
  rcases cw (i-t.size) es.size with h'|h'
  ·omega
  ·simp_all
 have B:∀n,n<=es.size->(∃e,es[n]?=some e/\∃a wr,e=⟨.cell a,wr,true⟩)->0<bK (Deaf t g) (es.extract 0 n):=by
  intro n Z Y;rcases h with h|⟨o,R,rfl⟩
  ·rw[cS (fun e K=>?_)]
   ·exact hd
   ·obtain⟨a,wr,rfl,_⟩:=h e (by
     obtain⟨k,hk,rfl⟩:=c7.1 K;simp only[Array.getElem_extract];exact Array.getElem_mem _)
    exact⟨nofun,nofun⟩
  ·have E:(aK ⟨bl,o,none⟩).size=4:=rfl;obtain⟨e,K,a,wr,rfl⟩:=Y;have:n=0\/n=1\/n=2\/n=3\/n=4:=by omega
   rcases this with rfl|rfl|rfl|rfl|rfl
   ·simp[aK]at K
   ·simp[aK,bK]
   ·simp[aK,bK]
   ·simp[aK]at K
   ·simp[aK]at K
 have Y:∃a wr,e=⟨.cell a,wr,true⟩/\a.block=bl/\a.off<2:=by
  rcases h with h|⟨o,J,rfl⟩
  ·obtain⟨a,wr,rfl,I,A,_⟩:=h e (bN K);exact⟨a,wr,rfl,I,A⟩
  ·have:=bN K;simp only[aK,cu,cn,cv,or_false]at this;rcases this with rfl|rfl|rfl|rfl
   ·simp[az,aJ]at H
   ·exact⟨_,_,rfl,rfl,J⟩
   ·simp_all
   ·simp[az,aJ]at H
 obtain⟨a,wr,rfl,I,A⟩:=Y;have L:=by
  simp only[az,aJ,br]at H;exact H.symm
 subst L;refine⟨rfl,?_,a,rfl,I,A⟩;rintro⟨y,T,_,hk⟩;have:=Option.some.inj (T.symm.trans O);subst this;rcases hk with hk|⟨M,N,U⟩
 ·exact hk rfl
 ·have C:M=g:=by simp[cQ,R]at N;exact N.symm
  subst C;have P:=Go.Conc.deaf_inside t M fn pos es (i-t.size) D;rw[show t.size+(i-t.size)=i by omega,U]at P;have V:=B _ D ⟨_,K,a,wr,rfl⟩;omega
end
end Ph
namespace Ph
open Conc Ren
open Lock (Word PC Mv bn iT bw dw)
open ConcN (sumTo upd sumTo_upd upd_ne upd_same)
structure gR where
 P:aj
 E:Env
 J:iE
 b:Nat
 A:Nat->(Nat->Prop)->(Nat->Prop)->ak->af->Prop
 kG:Nat->ak->af->Prop
 Fin:(Nat->Prop)->(Nat->Prop)->ak->af->Prop
 RO:Nat->Prop
 jl:Loc->Prop
 ok:Nat->Prop
 gX:E.Γ
 w0:af
structure gR.Laws(Q:gR):Prop where
 n0:0<Q.J.n
 n8:Q.J.n<=8
 b0:0<Q.b
 KW:∀x∈Q.J.gP,Q.ok x
 fw:Q.E.Fd≠Q.E.Wg
 mf:Q.E.Mp≠Q.E.Fd
 mw:Q.E.Mp≠Q.E.Wg
 rf:Q.RO Q.E.Fd
 rw:Q.RO Q.E.Wg
 rm:¬Q.RO Q.E.Mp
 KX:∀l,rN Q.E l->Q.jl l
 JG:∀{c:Nat} {S X:Nat->Prop} {g:ak} {w:af},Q.A c S X g w->g.status=.running/\g.offers=none
 JH:∀{c:Nat} {S X:Nat->Prop} {g:ak} {w:af},Q.A c S X g w->∀w2,ah Q.P false g w2=.comm g #[rcase c Q.E.zc] true (.recv true) w2 #[]
 Ka:∀{c:Nat} {S X:Nat->Prop} {g:ak} {w w2:af} {x:Nat},Q.A c S X g w->gU Q.E.U S w w2->Q.ok x->∀k,Q.E.Tree Q.P false (Q.E.jw Q.P (Q.A c) k (.ld x)) S X (Go.Conc.served g (recvd true (.int .i64 (x:Int)) true)) w2
 SQ:∀{c:Nat} {S X:Nat->Prop} {g:ak} {w w2:af},Q.A c S X g w->gU Q.E.U S w w2->∀k,Q.E.Tree Q.P false (Q.E.jw Q.P (Q.A c) k .wr) S X (Go.Conc.served g (recvd true Q.E.zc false)) w2
 E2:∀{c:Nat} {g:ak} {w:af},Q.kG c g w->Q.E.Tree Q.P false (Q.A c) Q.RO (fun _=>False) g w
def JI(c:Nat)(z:ai):Md->ak->ak
 |.run,g=>g
 |.blk,g=>{g with status:=.blocked}
 |.ic,g=>parked g #[rcase c z] (.recv true)
 |.j_,g=>{parked g #[rcase c z] (.recv true)with status:=.running}
namespace gR
variable(Q:gR)
def ch(C:iI Q.E)(k:Nat):=C.L.getD k 0
abbrev DS(fu:Nat)(d:jK):=Q.E.lL Q.P Q.J Q.kG Q.Fin fu d
abbrev WS(c fu:Nat)(pc:Q.E.kU):=Q.E.jw Q.P (Q.A c) fu pc
def uk(c:Nat)(gs:Array ak)(t:ax)(k:Nat)(nd:Nd)(fu:Nat):gZ Q.E->Prop
 |.no=>False
 |.at pc md=>gs[Q.b+k]?=some (JI c Q.E.zc md nd.g)/\Tz Q.P false Q.E.U (Q.WS c fu pc) nd.S nd.X nd.g nd.w/\(md≠.run->Q.WS c fu pc nd.S nd.X nd.g nd.w)
 |.h_ i n=>∃g,gs[Q.b+k]?=some g/\Env.ou Q.P (Q.E.t_ Q.P i) n g
 |.qt q=>∃g,gs[Q.b+k]?=some g/\QuitsD Q.P q (Deaf t (Q.b+k)) g
def xH(gs:Array ak)(nd:Nd)(fu:Nat)(L:List Nat)(d:jK):Md->Prop
 |.run=>gs[0]?=some nd.g/\Tz Q.P true Q.E.U (Q.DS fu d) nd.S nd.X nd.g nd.w
 |.blk=>gs[0]?=some {nd.g with status:=.blocked}/\nd.g.offers=none/\nd.g.status=.running/\Q.DS fu d nd.S nd.X nd.g nd.w
 |.ic=>Q.DS fu d nd.S nd.X nd.g nd.w/\∃i c x z Y,d=.send L i/\fu=Y+1/\L[i%Q.J.n]?=some c/\Q.J.gP[i]?=some x/\gs[0]?=some (parked nd.g #[scase c (.int .i64 (x:Int)) z] .send)/\
   ∀w2,gU Q.E.U nd.S nd.w w2->Q.E.Tree Q.P true (Q.DS Y (Q.J.sends L (i+1))) nd.S nd.X (Go.Conc.served nd.g aM) w2
 |.j_=>False
def ov(nd:Nat->Nd)(j:Nat)(L:List Nat)(i a:Nat):=(i<=j/\(nd i).X a)\/(i=0/\a∈L)
structure Sets(nd:Nat->Nd)(j:Nat)(L:List Nat)(tok:Option Nat)(B:Nat):Prop where
 xI:∀i i',i<=j->i'<=j->i≠i'->∀a,(nd i).X a->¬(nd i').S a
 low:∀i,i<=j->∀a,(nd i).S a->a<B
 sub:∀i,i<=j->∀a,(nd i).S a->Q.RO a\/(nd i).X a
 mR:∀i,i<=j->∀a,Q.RO a->¬(nd i).X a
 xs:∀i,i<=j->∀a,(nd i).X a->(nd i).S a
 mp:∀i,i<=j->(nd i).S Q.E.Mp->∃k,i=k+1/\tok=some k
 nR:∀a,Q.RO a->a<B
 uo:Q.E.Mp<B
 nY:∀c∈L,c<B/\¬Q.RO c/\c≠Q.E.Mp/\∀i,i<=j->¬(nd i).S c
structure Wd(C:iI Q.E)(w:af):Prop where
 mu:Q.E.MuAt w C.m C.c
 wg:Q.E.WgAt w C.v C.wt C.ws
 map:C.tok=none->Q.E.mJ C.γ (w.heap[Q.E.Mp]?)
 shut:∀k,k<C.j->k<jc Q.J C.d->∃s,w.heap[Q.ch C k]?=some (.chan 0 #[] true s s false)
 opn:∀k,k<C.j->¬k<jc Q.J C.d->∃s,oi w (Q.ch C k) s
 tape:w.tape=Q.w0.tape
 out:w.output=Q.w0.output
def xJ{E:Env}:gZ E->Prop
 |.h_ _ _=>True
 |.qt _=>True
 |_=>False
abbrev cls (nd:Nat->Nd) (j:Nat) (L:List Nat):=nc Q.E Q.RO Q.b (ov nd j L)
structure MI(C:iI Q.E)(nd:Nat->Nd)(fu:Nat->Nat)(gs:Array ak)(w:af)(t:ax)(q:Nat->Nat)(rel:Nat->Option Nat):Prop where
 size:gs.size=Q.b+C.j
 g0:Q.xH gs (nd 0) (fu 0) C.L C.d C.dm
 wk:∀k,k<C.j->Q.uk (Q.ch C k) gs t k (nd (k+1)) (fu (k+1)) (C.ks k)
 old:∀i g,0<i->i<Q.b->gs[i]?=some g->QuitsD Q.P (q i) (Deaf t i) g
 fuel:∀i,i<=C.j->mu Q.J C<=fu i
 nZ:∀i,i<=C.j->gU Q.E.U (nd i).S (nd i).w w
 iq:Q.Sets nd C.j C.L C.tok w.heap.size
 wd:Q.Wd C w
 tr:PT Q.b C.j Q.E.mu Q.E.st Q.jl (Q.cls nd C.j C.L) t (C.tok.map (Q.b+ ·)) rel
 deaf0:Deaf t 0=pe C.d
 nf:∀k,k<C.j->(∀q,C.ks k≠.qt q)->Deaf t (Q.b+k)=Be (C.ks k)
 above:∀i,Q.b+C.j<=i->Deaf t i=0
 pw:∀k,k<C.j->((∃p,rel (Q.b+k)=some p)↔xJ (C.ks k))
 vq:∀k,C.j<=k->rel (Q.b+k)=none
 seen:∀op∈t,Seen w.heap.size op
end gR
section
variable{Q:gR}{nd:Nat->Nd}{j:Nat}{L:List Nat}{tok:Option Nat}{B:Nat}{C:iI Q.E}{w w1:af}{gs I:Array ak}{t t':ax}
theorem gR.Sets.uniq(h:Q.Sets nd j L tok B){a:Nat}(Y:gR.ov nd j L i a)(H:gR.ov nd j L i' a):i=i':=by
 rcases Y with⟨a1,a2⟩|⟨rfl,a2⟩<;>rcases H with⟨b1,b2⟩|⟨rfl,b2⟩
 ·by_cases e:i=i'
  ·exact e
  ·exact absurd (h.xs i' b1 a b2) (h.xI i i' a1 b1 e a a2)
 ·exact absurd (h.xs i a1 a a2) ((h.nY a b2).2.2.2 i a1)
 ·exact absurd (h.xs i' b1 a b2) ((h.nY a a2).2.2.2 i' b1)
 ·rfl
theorem gR.Sets.own(h:Q.Sets nd j L tok B){a:Nat}(Y:i<=j)(H:(nd i).X a)(R:a≠Q.E.Mp):mK Q.E Q.RO Q.b (gR.ov nd j L) a=.own (gi Q.b i):=
 Qa (fun y=>h.mR i Y a y H) R (.inl ⟨Y,H⟩) fun i' h'=>h.uniq h' (.inl ⟨Y,H⟩)
theorem gR.Sets.held(h:Q.Sets nd j L tok B)(H:¬Q.RO Q.E.Mp){a:Nat}(Y:i<=j)(R:(nd i).S a):(Q.cls nd j L (.obj a)=.ro/\¬(nd i).X a)\/(Q.cls nd j L (.obj a)=.pr/\tok.map (Q.b+ ·)=some (gi Q.b i))\/Q.cls nd j L (.obj a)=.own (gi Q.b i):=by
 rcases h.sub i Y a R with y|y
 ·exact .inl ⟨aeI y,h.mR i Y a y⟩
 ·by_cases K:a=Q.E.Mp
  ·subst K;obtain⟨k,rfl,rfl⟩:=h.mp i Y R;exact .inr (.inl ⟨Iy H,rfl⟩)
  ·exact .inr (.inr (h.own Y y K))
theorem acO{a:Addr}(h:¬Q.E.U a.block a.off):Q.cls nd j L (.cell a)=Q.cls nd j L (.obj a.block):=by
 simp[nc];simp_all
theorem gR.Sets.did(h:Q.Sets nd j L tok w.heap.size)(N:i<=j){H:Nd}(hd:kz Q.E.U (nd i).S (nd i).X w w1 es H.S H.X):Q.Sets (upd nd i H) j L tok w1.heap.size:=by
 have us:upd nd i H i=H:=upd_same _ _ _;have un:∀k,k≠i->upd nd i H k=nd k:=fun k hk=>upd_ne _ _ hk;have R:=hd.grow;have S':∀k a,k<=j->(upd nd i H k).S a->(nd k).S a\/(k=i/\w.heap.size<=a/\a<w1.heap.size):=by
  intro k a hk Y;by_cases e:k=i
  ·subst e;rw[us]at Y;exact((hd.held a).1 Y).imp id fun y=>⟨rfl,y⟩
  ·simp_all
 have X':∀k a,k<=j->(upd nd i H k).X a->(nd k).X a\/(k=i/\w.heap.size<=a/\a<w1.heap.size):=by
  intro k a hk Y;by_cases e:k=i
  ·subst e;rw[us]at Y;exact((hd.may a).1 Y).imp id fun y=>⟨rfl,y⟩
  ·simp_all
 refine⟨fun k k' hk D I a K Y=>?_,fun k hk a Y=>?_,fun k hk a Y=>?_,fun k hk a hr K=>?_,fun k hk a K=>?_,fun k hk Y=>?_,fun a F=>au (h.nR a F) R,au h.uo R,fun c J=>?_⟩
 ·rcases X' k a hk K with y|⟨rfl,y⟩<;>rcases S' k' a D Y with z|⟨rfl,z⟩
  ·exact h.xI k k' hk D I a y z
  ·have:=h.low k hk a (h.xs k hk a y);omega
  ·have:=h.low k' D a z;omega
  ·omega
 ·rcases S' k a hk Y with y|⟨_,y⟩
  ·exact au (h.low k hk a y) R
  ·omega
 ·by_cases e:k=i
  ·subst e;rw[us]at Y⊢;rcases(hd.held a).1 Y with y|y
   ·exact(h.sub k hk a y).imp id fun z=>(hd.may a).2 (.inl z)
   ·exact .inr ((hd.may a).2 (.inr y))
  ·rw[un k e]at Y⊢;exact h.sub k hk a Y
 ·rcases X' k a hk K with y|⟨_,y⟩
  ·exact h.mR k hk a hr y
  ·have:=h.nR a hr;omega
 ·by_cases e:k=i
  ·subst e;rw[us]at K⊢;exact(hd.held a).2 (((hd.may a).1 K).imp (h.xs k hk a) id)
  ·rw[un k e]at K⊢;exact h.xs k hk a K
 ·rcases S' k _ hk Y with y|⟨_,y⟩
  ·exact h.mp k hk y
  ·have:=h.uo;omega
 ·obtain⟨A,B,C,M⟩:=h.nY c J;refine⟨au A R,B,C,fun k hk Y=>?_⟩;rcases S' k c hk Y with y|⟨_,y⟩
  ·simp_all
  ·omega
theorem gR.agS(h:Q.Sets nd j L tok w.heap.size)(H:i<=j){es:Array _}{Y:Nd}(hd:kz Q.E.U (nd i).S (nd i).X w w1 es Y.S Y.X):∀k a,a<w.heap.size->(gR.ov (upd nd i Y) j L k a↔gR.ov nd j L k a):=by
 intro k a K;unfold gR.ov;by_cases e:k=i
 ·subst e;rw[upd_same];have:Y.X a↔(nd k).X a:=⟨fun y=>((hd.may a).1 y).resolve_right fun z=>by omega,fun y=>(hd.may a).2 (.inl y)⟩;rw[this]
 ·rw[upd_ne _ _ e]
theorem gR.Sets.same(h:Q.Sets nd j L tok B){n':Nd}(R:n'.S=(nd i).S)(hX:n'.X=(nd i).X):Q.Sets (upd nd i n') j L tok B:=by
 have Y:∀k,(upd nd i n' k).S=(nd k).S:=fun k=>by
  by_cases e:k=i
  ·subst e;rw[upd_same];exact R
  ·rw[upd_ne _ _ e]
 have K:∀k,(upd nd i n' k).X=(nd k).X:=fun k=>by
  by_cases e:k=i
  ·subst e;rw[upd_same];exact hX
  ·rw[upd_ne _ _ e]
 refine⟨fun k k' hk H D a=>?_,fun k hk a=>?_,fun k hk a=>?_,fun k hk a=>?_,fun k hk a=>?_,fun k hk=>?_,h.nR,h.uo,fun c I=>?_⟩
 ·rw[K,Y];exact h.xI k k' hk H D a
 ·rw[Y];exact h.low k hk a
 ·rw[K,Y];exact h.sub k hk a
 ·rw[K];exact h.mR k hk a
 ·rw[K,Y];exact h.xs k hk a
 ·rw[Y];exact h.mp k hk
 ·obtain⟨A,U,C,F⟩:=h.nY c I;simp_all
theorem gR.Ds{n':Nd}(hX:n'.X=(nd i).X):gR.ov (upd nd i n') j L=gR.ov nd j L:=by
 funext k a;unfold gR.ov;by_cases e:k=i
 ·subst e;rw[upd_same,hX]
 ·rw[upd_ne _ _ e]
theorem Qe(h:Q.Sets nd j L tok w.heap.size)(R:i<=j)(Y:i'<=j)(H:i≠i'){es:Array _}(hd:kz Q.E.U (nd i).S (nd i).X w w1 es S1 X1):gU Q.E.U (nd i').S w w1:=
 ⟨fun a K=>.inl (hd.kept a (h.low i' Y a K) fun D=>h.xI i i' R Y H a D K),hd.grow,hd.env⟩
theorem Q_{E:Env}{w1:af}{m m':Word}{c:Nat}(S:Nat->Prop)(h:E.MuAt w m c)(h':E.MuAt w1 m' c')(H:Env.Eff E.Fd w w1):gU E.U S w w1:=by
 refine⟨fun a _=>?_,dD H.size.symm,H.env⟩;by_cases e:a=E.Fd
 ·subst e;refine .inr ⟨_,_,_,_,⟨0,.inl rfl,by omega⟩,h,h',rfl,fun i Y=>?_,fun i x Y K=>?_⟩
  ·match i with
   |0=>exact absurd ⟨.inl rfl,by omega⟩ Y
   |1=>exact absurd ⟨.inl rfl,by omega⟩ Y
   |i+2=>simp
  ·match i with
   |0=>simp at K;subst K;rfl
   |1=>simp at K;subst K;rfl
   |i+2=>exact absurd Y.2 (by omega)
 ·exact .inl (H.heap a e)
theorem Iz{E:Env}{w1:af}{v wt ws:Nat}(S:Nat->Prop)(h:E.WgAt w v wt ws)(h':E.WgAt w1 v' il ig)(H:Env.Eff E.Wg w w1):gU E.U S w w1:=by
 refine⟨fun a _=>?_,dD H.size.symm,H.env⟩;by_cases e:a=E.Wg
 ·subst e;unfold Env.WgAt at h h';generalize((v *4294967296+wt))=z at h;refine .inr ⟨_,_,_,_,⟨0,.inr rfl,by omega⟩,h,h',rfl,fun i Y=>?_,fun i x Y K=>?_⟩
  ·match i with
   |0=>exact absurd ⟨.inr rfl,by omega⟩ Y
   |1=>exact absurd ⟨.inr rfl,by omega⟩ Y
   |i+2=>simp
  ·match i with
   |0=>simp at K;subst K;rfl
   |1=>simp at K;subst K;rfl
   |i+2=>exact absurd Y.2 (by omega)
 ·exact .inl (H.heap a e)
theorem wo{E:Env}{c s:Nat}(Y:¬S c):gU E.U S w (w.setChan c 0 #[] cl s s false):=by
 refine⟨fun a K=>.inl ?_,by simp[dJ],.refl _⟩;have:c≠a:=fun e=>Y (e▸K);simp[dJ];simp_all
theorem gR.Wd.keep(h:Q.Wd C w)(hF:w1.heap[Q.E.Fd]?=w.heap[Q.E.Fd]?)(M:w1.heap[Q.E.Wg]?=w.heap[Q.E.Wg]?)(H:C.tok=none->w1.heap[Q.E.Mp]?=w.heap[Q.E.Mp]?)(R:∀k,k<C.j->w1.heap[Q.ch C k]?=w.heap[Q.ch C k]?)(F:w1.tape=w.tape)(A:w1.output=w.output):Q.Wd C w1:=by
 refine⟨?_,?_,fun e=>?_,fun k hk Y=>?_,fun k hk Y=>?_,F.trans h.tape,A.trans h.out⟩
 ·have:=h.mu;unfold Env.MuAt at this⊢;simp_all
 ·have:=h.wg;unfold Env.WgAt at this⊢;simp_all
 ·rw[H e];exact h.map e
 ·rw[R k hk];exact h.shut k hk Y
 ·obtain⟨s,K⟩:=h.opn k hk Y;exact⟨s,by unfold oi at K⊢;simp_all⟩
theorem qD(Y:C.L.length=C.j)(hk:k<C.j):Q.ch C k∈C.L:=by
 unfold gR.ch;simp_all
theorem gR.Wd.did(h:Q.Wd C w)(Y:Q.Sets nd C.j C.L C.tok w.heap.size)(R:Q.Laws)(A:C.L.length=C.j)(H:i<=C.j){es:Array _}(hd:kz Q.E.U (nd i).S (nd i).X w w1 es S1 X1):Q.Wd C w1:=by
 refine h.keep (hd.kept _ (Y.nR _ R.rf) (Y.mR i H _ R.rf)) (hd.kept _ (Y.nR _ R.rw) (Y.mR i H _ R.rw)) (fun e=>hd.kept _ Y.uo fun K=>?_) (fun k hk=>?_) hd.tape hd.output
 ·obtain⟨k,_,B⟩:=Y.mp i H (Y.xs i H _ K);simp_all
 ·obtain⟨D,_,_,I⟩:=Y.nY _ (qD A hk);exact hd.kept _ D fun K=>I i H (Y.xs i H _ K)
theorem gR.Wd.cfg{C':iI Q.E}(h:Q.Wd C w)(M:C'.m=C.m)(N:C'.c=C.c)(O:C'.v=C.v)(V:C'.wt=C.wt)(G:C'.ws=C.ws)(H:C'.tok=none->C.tok=none/\C'.γ=C.γ)(R:C'.L=C.L)(A:C'.j=C.j)(F:jc Q.J C'.d=jc Q.J C.d):Q.Wd C' w:=by
 refine⟨by rw[M,N];exact h.mu,by rw[O,V,G];exact h.wg,fun e=>by rw[(H e).2];exact h.map (H e).1,fun k hk Y=>?_,fun k hk Y=>?_,h.tape,h.out⟩
 ·unfold gR.ch;rw[R];exact h.shut k (A▸hk) (F▸Y)
 ·unfold gR.ch;rw[R];exact h.opn k (A▸hk) (F▸Y)
theorem gR.Wd.mv(h:Q.Wd C w)(R:Q.Laws)(A:Q.Sets nd C.j C.L C.tok w.heap.size)(F:C.L.length=C.j){m':Word}(H:Env.Eff Q.E.Fd w w1)(M:Q.E.MuAt w1 m' c'):Q.Wd {C with m:=m',c:=c'} w1:=by
 have K:∀k,k<C.j->w1.heap[Q.ch C k]?=w.heap[Q.ch C k]?:=fun k hk=>H.heap _ fun e=>(A.nY _ (qD F hk)).2.1 (e▸R.rf);refine⟨M,?_,fun e=>?_,fun k hk Y=>?_,fun k hk Y=>?_,H.tape.trans h.tape,H.output.trans h.out⟩
 ·have:=h.wg;unfold Env.WgAt at this⊢;rw[H.heap _ fun e=>R.fw e.symm];omega
 ·rw[H.heap _ R.mf];exact h.map e
 ·show∃s,w1.heap[Q.ch C k]?=_
  rw[K k hk];exact h.shut k hk Y
 ·obtain⟨s,A⟩:=h.opn k hk Y;exact⟨s,by show w1.heap[Q.ch C k]?=_;rw[K k hk];exact A⟩
theorem gR.Wd.gp(h:Q.Wd C w)(R:Q.Laws)(A:Q.Sets nd C.j C.L C.tok w.heap.size)(F:C.L.length=C.j)(H:Env.Eff Q.E.Wg w w1)(M:Q.E.WgAt w1 v' il ig):Q.Wd {C with v:=v',wt:=il,ws:=ig} w1:=by
 have K:∀k,k<C.j->w1.heap[Q.ch C k]?=w.heap[Q.ch C k]?:=fun k hk=>H.heap _ fun e=>(A.nY _ (qD F hk)).2.1 (e▸R.rw);refine⟨?_,M,fun e=>?_,fun k hk Y=>?_,fun k hk Y=>?_,H.tape.trans h.tape,H.output.trans h.out⟩
 ·have:=h.mu;unfold Env.MuAt at this⊢;rw[H.heap _ R.fw];omega
 ·rw[H.heap _ R.mw];exact h.map e
 ·show∃s,w1.heap[Q.ch C k]?=_
  rw[K k hk];exact h.shut k hk Y
 ·obtain⟨s,A⟩:=h.opn k hk Y;exact⟨s,by show w1.heap[Q.ch C k]?=_;rw[K k hk];exact A⟩
theorem gR.Wd.at(h:Q.Wd C w)(d:Nat):Q.Wd C (w.at d):=⟨h.mu,h.wg,h.map,h.shut,h.opn,h.tape,h.out⟩
theorem gR.uk.keep{c:Nat}{n:Nd}{fu:Nat}{s:gZ Q.E}(h:Q.uk c gs t k n fu s)(H:I[Q.b+k]?=gs[Q.b+k]?)(hd:Deaf t' (Q.b+k)=Deaf t (Q.b+k)):Q.uk c I t' k n fu s:=by
 cases s with
 |no=>exact h
 |«at» pc md=>exact⟨H.trans h.1,h.2⟩
 |h_ i n=>obtain⟨g,Y,K⟩:=h;exact⟨g,H.trans Y,K⟩
 |qt q=>obtain⟨g,Y,K⟩:=h;exact⟨g,H.trans Y,by simp_all⟩
theorem gR.xH.keep{n:Nd}{fu:Nat}{d:jK}{md:Md}(h:Q.xH gs n fu L d md)(H:I[0]?=gs[0]?):Q.xH I n fu L d md:=by
 cases md with
 |run=>exact⟨H.trans h.1,h.2⟩
 |blk=>exact⟨H.trans h.1,h.2⟩
 |ic=>
  obtain⟨K,i,c,x,z,Y,D,R,A,U,B,C⟩:=h;exact⟨K,i,c,x,z,Y,D,R,A,U,H.trans B,C⟩
 |j_=>exact h.elim
end
section
variable{Q:gR}{nd:Nat->Nd}{fu:Nat->Nat}{C C':iI Q.E}{w w':af}{gs I:Array ak}{t t':ax}{q:Nat->Nat}{rel jX:Nat->Option Nat}
theorem nC{gs:Array _}{g:ak}(h:i≠k):(gs.setIfInBounds i g)[k]?=gs[k]?:=bX h
theorem gR.MI.BF(M:Q.MI C nd fu gs w t q rel)(hb:0<Q.b)(hk:k<C.j)(R:C'.j=C.j)(V:C'.L=C.L)(hd:C'.d=C.d)(W:C'.dm=C.dm)(A:∀i,i≠k->C'.ks i=C.ks i){N:Nd}{f':Nat}(z:I=gs.setIfInBounds (Q.b+k) g1)
  (a:Q.uk (Q.ch C k) I t' k N f' (C'.ks k))(h:∀i,i<=C.j->i≠k+1->gU Q.E.U (nd i).S w w')(n:gU Q.E.U N.S N.w w')(mf:mu Q.J C'<=f')(s:mu Q.J C'<=mu Q.J C)
  (iq:Q.Sets (upd nd (k+1) N) C.j C.L C'.tok w'.heap.size)(wd:Q.Wd C' w')(tr:PT Q.b C.j Q.E.mu Q.E.st Q.jl (Q.cls (upd nd (k+1) N) C.j C.L) t' (C'.tok.map (Q.b+ ·)) jX)
  (G:(∀q,C'.ks k≠.qt q)->Deaf t' (Q.b+k)=Be (C'.ks k))(H:∀g,g≠Q.b+k->Deaf t' g=Deaf t g)(O:(∃p,jX (Q.b+k)=some p)↔gR.xJ (C'.ks k))(F:∀i,i≠k->jX (Q.b+i)=rel (Q.b+i))(seen:∀op∈t',Seen w'.heap.size op):
  Q.MI C' (upd nd (k+1) N) (upd fu (k+1) f') I w' t' q jX:=by
 subst z;have n0:upd nd (k+1) N 0=nd 0:=upd_ne _ _ (by omega);have f0:upd fu (k+1) f' 0=fu 0:=upd_ne _ _ (by omega);refine⟨?_,?_,fun i Y=>?_,fun i g Y K B=>?_,fun i Y=>?_,fun i Y=>?_,?_,wd,?_,?_,fun i Y D=>?_,fun i Y=>?_,fun i Y=>?_,fun i Y=>by rw[R]at Y;rw[F i (by omega)];exact M.vq i Y,seen⟩
 ·rw[R];simp[M.size]
 ·rw[n0,f0,V,hd,W];exact M.g0.keep (nC (by omega))
 ·rw[R]at Y;by_cases e:i=k
  ·subst e;rw[upd_same,upd_same];unfold gR.ch;rw[V];exact a
  ·rw[upd_ne _ _ (by omega),upd_ne _ _ (by omega),A i e];unfold gR.ch;rw[V];exact(M.wk i Y).keep (nC (by omega)) (H _ (by omega))
 ·rw[nC (by omega)]at B;rw[H i (by omega)];exact M.old i g Y K B
 ·rw[R]at Y;by_cases e:i=k+1
  ·subst e;rw[upd_same];exact mf
  ·rw[upd_ne _ _ e];exact aV s (M.fuel i Y)
 ·rw[R]at Y;by_cases e:i=k+1
  ·subst e;rw[upd_same];exact n
  ·rw[upd_ne _ _ e];exact(M.nZ i Y).trans (h i Y e)
 ·simp_all
 ·rw[R,V];exact tr
 ·rw[H 0 (by omega),hd];exact M.deaf0
 ·rw[R]at Y;by_cases e:i=k
  ·subst e;exact G D
  ·rw[H _ (by omega),A i e];rw[A i e]at D;exact M.nf i Y D
 ·rw[R]at Y;rw[H i (by omega)];exact M.above i Y
 ·rw[R]at Y;by_cases e:i=k
  ·subst e;exact O
  ·rw[F i e,A i e];exact M.pw i Y
theorem gR.MI.m0(M:Q.MI C nd fu gs w t q rel)(s:0<Q.b)(A:C'.j=C.j)(z:C'.L=C.L)(R:C'.ks=C.ks){F:Nd}{f':Nat}(O:I=gs.setIfInBounds 0 g1)
  (W:Q.xH I F f' C.L C'.d C'.dm)(p:∀i,i<=C.j->i≠0->gU Q.E.U (nd i).S w w')(G:gU Q.E.U F.S F.w w')(mf:mu Q.J C'<=f')(V:mu Q.J C'<=mu Q.J C)
  (iq:Q.Sets (upd nd 0 F) C.j C.L C'.tok w'.heap.size)(wd:Q.Wd C' w')(tr:PT Q.b C.j Q.E.mu Q.E.st Q.jl (Q.cls (upd nd 0 F) C.j C.L) t' (C'.tok.map (Q.b+ ·)) rel)
  (N:Deaf t' 0=pe C'.d)(H:∀g,g≠0->Deaf t' g=Deaf t g)(seen:∀op∈t',Seen w'.heap.size op):
  Q.MI C' (upd nd 0 F) (upd fu 0 f') I w' t' q rel:=by
 subst O;refine⟨?_,?_,fun i Y=>?_,fun i g Y K D=>?_,fun i Y=>?_,fun i Y=>?_,?_,wd,?_,N,fun i Y B=>?_,fun i Y=>?_,fun i Y=>?_,fun i Y=>M.vq i (A▸Y),seen⟩
 ·rw[A];simp[M.size]
 ·rw[upd_same,upd_same,z];exact W
 ·rw[A]at Y;rw[upd_ne _ _ (by omega),upd_ne _ _ (by omega),R];unfold gR.ch;rw[z];exact(M.wk i Y).keep (nC (by omega)) (H _ (by omega))
 ·rw[nC (by omega)]at D;rw[H i (by omega)];exact M.old i g Y K D
 ·rw[A]at Y;by_cases e:i=0
  ·subst e;exact mf
  ·rw[upd_ne _ _ e];exact aV V (M.fuel i Y)
 ·rw[A]at Y;by_cases e:i=0
  ·subst e;exact G
  ·rw[upd_ne _ _ e];exact(M.nZ i Y).trans (p i Y e)
 ·simp_all
 ·simp_all
 ·rw[A]at Y;rw[H _ (by omega),R];rw[R]at B;exact M.nf i Y B
 ·rw[A]at Y;rw[H i (by omega)];exact M.above i Y
 ·rw[A]at Y;rw[R];exact M.pw i Y
theorem vZ(Y:Q.Laws){c fu:Nat}{pc:Q.E.kU}{g:ak}(H:0<fu)(h:Q.WS c fu pc S X g w):g.status=.running/\g.offers=none:=by
 cases fu with
 |zero=>omega
 |succ f=>
  cases pc with
  |recv=>exact Y.JG h
  |_=>exact⟨h.1,h.2.1⟩
theorem Cv{fu:Nat}{d:jK}{g:ak}(Y:0<fu)(h:Q.DS fu d S X g w):g.status=.running/\g.offers=none:=by
 cases fu with
 |zero=>omega
 |succ f=>exact⟨h.1,h.2.1⟩
theorem tx{U:Nat->Nat->Prop}{D:(Nat->Prop)->(Nat->Prop)->ak->af->Prop}{g:ak}(h:Tz P main U D S X g w)(Y:D S X g w->g.status=.running):g.status=.running:=by
 rcases h.look with h|⟨_,h,_⟩
 ·exact Y h
 omega
theorem Cw{E:Env}{n:Nat}{g:ak}(h:Env.ou P (E.t_ P i) n g):g.status=.running:=by
 cases n with
 |zero=>
  match i,h with
  |0,h=>exact h.1
  |1,h=>exact h.1
  |2,h=>exact h.1
  |3,h=>exact h.1
  |i+4,h=>exact h.1
 |succ n=>exact h.1
theorem aeL(J:iE)(v:Nat)(d:jK):0<iF J v d:=by cases d<;>simp[iF]<;>omega
theorem Sd{E:Env}(J:iE)(C:iI E):0<mu J C:=by
 have:=aeL J C.v C.d;unfold mu lH;omega
theorem gR.MI.sD(M:Q.MI C nd fu gs w t q rel)(Y:i<=C.j):0<fu i:=au (Sd Q.J C) (M.fuel i Y)
theorem again_blocked{g:ak}(w:af)(Y:g.status=.running)(H:g.offers=none):({g with status:=.blocked}).again w=g:=by
 obtain⟨f,c,st,o⟩:=g;subst Y H;rfl
theorem gR.MI.oM(M:Q.MI C nd fu gs w t q rel)(V:Q.Laws)(h:CI Q.J Q.gX C):Q.MI (C.oM Q.J) nd fu (gs.map (·.again w)) w t q rel:=by
 have mp:∀i,(gs.map (·.again w))[i]?=(gs[i]?).map _:=fun i=>bM;have fm:mu Q.J _=mu Q.J C:=Q7;refine⟨by simp[M.size];rfl,?_,fun k hk=>?_,fun i g N O X=>?_,fun i N=>by rw[fm];exact M.fuel i N,M.nZ,M.iq,?_,M.tr,M.deaf0,fun k hk o=>?_,M.above,fun k hk=>?_,M.vq,M.seen⟩
 ·have K:=M.g0;show Q.xH _ _ _ C.L C.d (xw C.dm)
  have f0:=M.sD (cL _);cases U:C.dm with
  |run=>
   rw[U]at K;refine⟨?_,K.2⟩;rw[mp,K.1];exact congrArg some (bI _ (.inl (tx K.2 fun y=>(Cv f0 y).1)))
  |blk=>
   rw[U]at K;refine⟨?_,.stop K.2.2.2⟩;rw[mp,K.1];exact congrArg some (again_blocked w K.2.2.1 K.2.1)
  |ic=>
   rw[U]at K;obtain⟨H,i,c,x,z,F,P,Z,B,G,W,f⟩:=K;refine⟨H,i,c,x,z,F,P,Z,B,G,?_,f⟩;have I:∃k,k<C.j/\Q.ch C k=c:=by
    refine⟨i%Q.J.n,?_,?_⟩
    ·have:=(List.getElem?_eq_some_iff.1 B).1;rw[h.len]at this;exact this
    ·unfold gR.ch;rw[List.getD_eq_getElem?_getD,B];rfl
   obtain⟨k,hk,rfl⟩:=I;obtain⟨s,Y⟩:=M.wd.opn k hk (by rw[P];exact dE _);rw[mp,W];exact congrArg some (again_send_open Y)
  |j_=>rw[U]at K;exact K.elim
 ·have Y:=M.wk k hk;have S:=M.sD hk;show Q.uk _ _ t k _ _ (qa _ _)
  cases I:C.ks k with
  |no=>rw[I]at Y;exact Y.elim
  |«at» pc md=>
   rw[I]at Y;obtain⟨H,D,A⟩:=Y;cases md with
   |run=>
    refine⟨?_,D,A⟩;rw[mp,H];exact congrArg some (bI _ (.inl (tx D fun y=>(vZ V S y).1)))
   |blk=>
    have T:=vZ V S (A nofun);refine⟨?_,D,fun y=>absurd rfl y⟩;rw[mp,H];exact congrArg some (again_blocked w T.1 T.2)
   |ic=>
    by_cases R:k<jc Q.J C.d
    ·rw[decide_eq_true R];obtain⟨s,Y⟩:=M.wd.shut k hk R;refine⟨?_,D,fun _=>A nofun⟩;rw[mp,H];exact congrArg some (again_recv_closed Y)
    ·rw[decide_eq_false R];obtain⟨s,Y⟩:=M.wd.opn k hk R;refine⟨?_,D,A⟩;rw[mp,H];exact congrArg some (again_recv_open Y)
   |j_=>
    refine⟨?_,D,A⟩;rw[mp,H];exact congrArg some (bI _ (.inl rfl))
  |h_ i n=>
   rw[I]at Y;obtain⟨g,H,D⟩:=Y;refine⟨g,?_,D⟩;rw[mp,H];exact congrArg some (bI _ (.inl (Cw D)))
  |qt p=>
   rw[I]at Y;obtain⟨g,H,D⟩:=Y;refine⟨g,?_,D⟩;rw[mp,H];exact congrArg some (bI _ D.status)
 ·rw[mp]at X;obtain⟨l,H,rfl⟩:=bQ.1 X;have:=M.old i l N O H;rw[bI _ this.status];exact this
 ·exact M.wd.cfg rfl rfl rfl rfl rfl (fun e=>⟨e,rfl⟩) rfl rfl rfl
 ·have e:∀s:gZ Q.E,∀b,(∀q,qa b s≠.qt q)->∀q,s≠.qt q:=fun s b Y q e=>Y q (by rw[e];rfl);rw[M.nf k hk (e _ _ o)];exact(wX Be (fun _ _ _=>rfl) _ _).symm
 ·rw[M.pw k hk];show gR.xJ _↔gR.xJ (qa _ _)
  rw[wX (fun s=>gR.xJ s) fun _ _ _=>rfl]
theorem aaQ{g:ak}{w1:af}(gs:Array _)(i:Nat):
  (((gs.map (aZ P g g1 w1)).setIfInBounds i g1=gs.setIfInBounds i g1)/\¬(bu P g=true/\(g1.status=.running\/g1.status=.finished)))\/(gs.map (aZ P g g1 w1)).setIfInBounds i g1=(gs.setIfInBounds i g1).map (·.again w1):=by
 by_cases K:(bu P g&&g1.status != .blocked&&g1.status != .waiting)=true
 ·right;have H:aZ P g g1 w1=(·.again w1):=by funext o;simp[aZ,K]
  have R:g1.again w1=g1:=by
   unfold Goroutine.again;simp_all
  simp_all
 ·left;have H:aZ P g g1 w1=id:=by funext o;simp[aZ,K]
  refine⟨by simp_all,fun⟨D,Y⟩=>K ?_⟩;rcases Y with Y|Y<;>rw[D,Y]<;>rfl
theorem gR.MI.finish(A:Q.Laws){Y:iI Q.E}{g:ak}{w1:af}{R:Nat->Nd}(h:CI Q.J Q.gX Y)(M:Q.MI Y R Um (gs.setIfInBounds i g1) w1 t q rel)(N:Calm Q.J Y\/(bu Q.P g=true/\(g1.status=.running\/g1.status=.finished)))(F:∀i,Y.dm=.ic->Y.d=.send Y.L i->∀pc,Y.ks (i%Q.J.n)≠.at pc .ic):
  ∃H,(H=Y\/H=Y.oM Q.J)/\CI Q.J Q.gX H/\Calm Q.J H/\Q.MI H R Um ((gs.map (aZ Q.P g g1 w1)).setIfInBounds i g1) w1 t q rel:=by
 rcases aaQ (P:=Q.P) (g:=g) (g1:=g1) (w1:=w1) gs i with⟨e,K⟩|e
 ·simp_all
 ·rw[e];exact⟨Y.oM Q.J,.inr rfl,h.oM,aaP F,M.oM A h⟩
end
end Ph
end
end Go.Proofs.YtdcjnhipenbcfaaGreatDoor
