/-
  Own text. Part 3 of what the claim rests on.
-/
import Derived.Test.YtdcjnhipenbcfaaGreatDoorPk2
import Derived.Conc.TokenWalk
import Derived.Conc.CrowdBase
import Derived.Conc.QuitsD
import Derived.Laws.Bits64
set_option linter.unusedVariables false
set_option linter.unusedSectionVars false
set_option linter.unusedSimpArgs false
set_option maxRecDepth 100000
set_option maxHeartbeats 16000000
open Array renaming getElem?_setIfInBounds_self_of_lt->aA,getElem?_eq_getElem->bH,getElem?_eq_some_iff->bI,getElem?_map->bJ,getElem?_push->bK,getElem?_setIfInBounds_ne->bL,mem_of_getElem?->bM,append_empty->bX,empty_append->bY,mem_iff_getElem->bZ
open Classical renaming choose->bN,byContradiction->b_
open Go renaming Frame->ae,World->af,Goroutine->ah,Value->aj,FuncId->au,stepG->ay,Trace->aB,undef->aH,deafBehind->aK,mayWake->aV,MemOp->aY,Machine->bc,Event->bj,partners->bG
open Go.Conc renaming crowd->ao,woken->ax,Deaf_own->aJ,semEvents->aP,QuitsD->aT,awake_of->aU,Deaf_other->aW,dcall->bk,rcase->bm,again_running->bq,closeEvents->br,offersAt_of_not_blocked->bt,runT_crowd_go->bu,parked->bC,getElem?_stand->bF,deafBehind_still->bT,deafStep->bU,offersAt->bV,offersAt_parked_recv->bW,finishComm_recv->cA,finishComm_send->cB,offersAt_parked_recv'->cC,offersAt_parked_send->cD,partners_nil->cE,partners_one->cG,woken_quitsD->cH
open Go.Extern.Atomic renaming casT->cf,loadT->cg,storeT->cj,update->ck
open Go.Extern.Race renaming none_->bD
open Go.Extern.Sync renaming semacquire->cm,semrelease->cn
open Go.IntKind renaming i64->bA,i32->bE,wrap_u64->cu
open Go.MemAct renaming ofEvent->aD,touch?->aI
open Go.MemOp renaming ofEvents->ai
open Go.World renaming setChan->bh
open List renaming mem_cons->aL,mem_toArray->aM,not_mem_nil->aN,getD_eq_getElem?_getD->aX,getElem?_eq_some_iff->bO,lookup_cons->bP,count_append->cv,count_cons->cw,count_nil->cx,getElem?_eq_getElem->cy,mem_of_getElem?->cz
open Nat renaming le_refl->ak,zero_le->ar,lt_of_lt_of_le->az,le_of_lt->aO,not_lt_zero->aQ,le_of_eq->aZ,le_trans->bg,le_add_right->bp,strongRecOn->bB,eq_zero_or_pos->bQ,lt_of_not_le->bR
open Option renaming map_eq_some_iff->bS
open Option.some renaming injEq->a_
namespace Go.Proofs.YtdcjnhipenbcfaaGreatDoor
noncomputable section
variable {ad wg:Addr}{es:Array bj}{tmps:Array aj}{aw cl main:Bool}{e:bj}{fn:au}{g g0 g1 gk gx:ah}{ds:List Deferred}{cs:List ae}{site todo:List Item}{L kg ks:List Nat}{bl c' f' i i' i0 k n s v' ws ig wt ij:Nat}{Ub:Nat->Nat}{XX vn:Nat->Nat->Prop}{RO S S1 X X1:Nat->Prop}{tok jI:Option Nat}{P:Program}{pos:String}{t:aB}{u v8 z:aj}{w:af}
namespace Ph
open Conc Ren
open Lock (Word PC Mv bn)
def toDo (l:List ae) (Fd:Nat) (gf:Int) (sv aw:Bool) (it:Int):rq:=kj l yf (iY Fd gf sv aw it) (some (215,#[])) none
def Ja:List Nat:=(List.range 72).filter fun i=>i%2==1&&i/4%2==0&&i/2%2==0&&!(i/8==0)
def Sx:List Nat:=(List.range 72).filter fun i=>i%2==1&&i/4%2==0&&!(i/2%2==0&&!(i/8==0))
def Uc:List Nat:=(List.range 72).filter fun i=>i%2==0&&i/4%2==0
def mT:List Nat:=(List.range 72).filter fun i=>!(i%2==0&&i/4%2==0)
def zM (Fd:Nat) (gf:Int) (sv aw:Bool) (it old:Int) (j:Nat->aj) (l:List ae):ae×List Frame:=tj PR 87 300 ((lf Iy (sA (rE Fd gf sv aw it old)) j).finish (.bool true)) l
def IB:List Item:=(zM 0 0 false false 0 1 jz []).1.todo
def IC (Fd:Nat) (gf:Int) (sv aw b:Bool) (it:Int) (v8:aj) (j:Nat->aj) (l:List ae):ae×List Frame:=gu PR 300 (lf IB (sA ((87,.bool b)::(8,v8)::iY Fd gf sv aw it)) j) l
def agj (Fd:Nat) (sv aw:Bool) (it T:Int) (v8:aj) (gf:Int) (j:Nat->aj) (l:List ae):ae×List Frame:=gu PR 300 ((lf R4 (sA ((8,v8)::iY Fd gf sv aw it)) j).finish (.int .i64 T)) l
def C1 (Fd:Nat) (gf:Int) (sv aw:Bool) (it:Int) (j:Nat->aj) (l:List ae):ae×List Frame:=gu PR 300 ((lf C0 (sA (iY Fd gf sv aw it)) j).finish (.tuple #[])) l
def ID:List Item:=(C1 0 0 false false 0 jz []).1.todo
def C2:List Item:=(C1 0 0 true false 0 jz []).1.todo
def agk (Fd:Nat) (gf T:Int) (aw:Bool) (it:Int) (j:Nat->aj) (l:List ae):ae×List Frame:=gu PR 300 ((lf ID (sA ((95,.bool false)::iY Fd gf false aw it)) j).finish (.int .i64 T)) l
def vY (Fd:Nat) (gf:Int) (sv aw:Bool) (it old:Int) (j:Nat->aj) (l:List ae):ae×List Frame:=rp PR 300 ((lf C2 (sA (iY Fd gf sv aw it)) j).finish (.int .i32 old)) l
def zY:List Item:=(vY 0 0 false false 0 12 jz []).1.todo
def agl (Fd:Nat) (gf:Int) (sv aw:Bool) (it x:Int) (j:Nat->aj) (l:List ae):ae×List Frame:=gu PR 300 ((lf zY (sA (iY Fd gf sv aw it)) j).finish (.int .i32 x)) l
def yh (Fd:Nat) (gf:Int) (sv aw:Bool) (it:Int) (j:Nat->aj) (l:List ae):ae×List Frame:=gu PR 300 ((lf CZ (sA (iY Fd gf sv aw it)) j).finish (.tuple #[])) l
def R5:List Item:=(yh 0 0 false false 0 jz []).1.todo
def calm:List Nat:=(List.range 72).filter fun i=>i/4%2==0
def hard:List Nat:=(List.range 72).filter fun i=>i%4==0&&i/4%2==1&&!(i/8==0)
def delta(sv:Bool)(i:Nat):Int:=if sv==false||i/8==1 then-11 else-7
section
variable{Fd:Nat}{gf it T x:Int}{sv aw:Bool}{v8:aj}{j:Nat->aj}{l:List ae}
theorem aa6:(Ja.map fun i:Nat=>look [33,6,0,2,3,4,5] (sJ Fd gf sv false it (i:Int) true j l))=Ja.map fun i:Nat=>kj l Iz (Kq Fd gf sv false it (i:Int)) (some (204,#[ptr Fd,.int .i32 (i:Int),.int .i32 (val {wd i with K:=true})])) none:=by kernel_rfl
theorem aa7:(Sx.map fun i:Nat=>look [0,2,3,4,5] (sJ Fd gf sv false it (i:Int) true j l))=Sx.map fun i:Nat=>toDo l Fd gf sv false it:=by kernel_rfl
theorem aa8:(spins.map fun i:Nat=>look [0,2,3,4,5] (sJ Fd gf sv true it (i:Int) true j l))=spins.map fun i:Nat=>toDo l Fd gf sv true it:=by kernel_rfl
theorem aes:(Uc.map fun i:Nat=>look [0,2,3,4,5] (yg Fd gf sv aw it (i:Int) true j l))=Uc.map fun i:Nat=>kj l CZ (iY Fd gf sv aw it) (some (170,#[])) none:=by kernel_rfl
theorem aeu:(mT.map fun i:Nat=>look [87,0,2,3,4,5] (zM Fd gf sv aw it (i:Int) j l))=mT.map fun i:Nat=>kj l IB ((87,.bool (decide (gf=0)))::iY Fd gf sv aw it) none none:=by kernel_rfl
theorem acM:look [8,0,2,3,4,5] (IC Fd gf sv aw true it v8 j l)=kj l R4 ((8,v8)::iY Fd gf sv aw it) (some (217,#[])) none:=by kernel_rfl
theorem acN:look [0,2,3,4,5] (IC Fd gf sv aw false it v8 j l)=kj l C0 (iY Fd gf sv aw it) (some (218,#[.pointer (some ⟨Fd,1,none⟩),v8,.int .i64 2])) none:=by kernel_rfl
theorem aev:look [0,2,3,4,5] (agj Fd sv aw it T v8 gf j l)=kj l C0 (iY Fd T sv aw it) (some (218,#[.pointer (some ⟨Fd,1,none⟩),v8,.int .i64 2])) none:=by kernel_rfl
theorem acO:look [95,0,2,3,4,5] (C1 Fd gf false aw it j l)=kj l ID ((95,.bool false)::iY Fd gf false aw it) (some (217,#[])) none:=by kernel_rfl
theorem acP:look [0,2,3,4,5] (C1 Fd gf true aw it j l)=kj l C2 (iY Fd gf true aw it) none (some (21,ptr Fd)):=by kernel_rfl
theorem aew:look [0,2,3,4,5] (agk Fd gf T aw it j l)=kj l C2 (iY Fd gf (decide (1000000<bA.wrap (T-gf))) aw it) none (some (21,ptr Fd)):=by kernel_rfl
theorem acQ:(calm.map fun i:Nat=>look [6,0,2,3,4,5] (vY Fd gf sv aw it (i:Int) j l))=calm.map fun i:Nat=>kj l yu (rE Fd gf sv true 0 (i:Int)) none none:=by kernel_rfl
theorem ZF:(hard.map fun i:Nat=>look [0,2,3,4,5] (vY Fd gf false aw it (i:Int) j l))=hard.map fun i:Nat=>kj l zY (iY Fd gf false aw it) (some (206,#[ptr Fd,.int .i32 (delta false i)])) none:=by kernel_rfl
theorem ZG:(hard.map fun i:Nat=>look [0,2,3,4,5] (vY Fd gf true aw it (i:Int) j l))=hard.map fun i:Nat=>kj l zY (iY Fd gf true aw it) (some (206,#[ptr Fd,.int .i32 (delta true i)])) none:=by kernel_rfl
theorem aex:look [0,2,3,4,5] (agl Fd gf sv aw it x j l)=kj l CZ (iY Fd gf sv aw it) (some (170,#[])) none:=by kernel_rfl
theorem aey:look [0,2,3,4,5] (yh Fd gf sv aw it j l)=kj l R5 (iY Fd gf sv aw it) none none:=by kernel_rfl
end
def unit:Value:=.tuple #[]
section
variable(Fd:Nat)(c:ae)(cs:List ae)
def Kr:ae×List Frame:=gu PR 60 (Frame.enter PR 160 #[ptr Fd] .normal) (c::cs)
def AQ:ae×List Frame:=gu PR 60 ((Kr Fd c cs).1.finish unit) (Kr Fd c cs).2
def Ks:ae×List Frame:=gu PR 60 ((AQ Fd c cs).1.finish (.bool true)) (AQ Fd c cs).2
def Ku:ae×List Frame:=gu PR 60 ((Ks Fd c cs).1.finish unit) (Ks Fd c cs).2
def Kv:ae×List Frame:=gu PR 60 ((Ku Fd c cs).1.finish (ptr Fd)) (Ku Fd c cs).2
def yQ:ae×List Frame:=gu PR 60 ((AQ Fd c cs).1.finish (.bool false)) (AQ Fd c cs).2
end
section
variable{Fd:Nat}{c:ae}{cs:List ae}{gf it:Int}{sv aw:Bool}{j:Nat->aj}{l:List ae}
theorem la0:ahead (Kr Fd c cs).1=some (169,#[]):=by kernel_rfl
theorem Ud:ahead (AQ Fd c cs).1=some (204,#[ptr Fd,.int .i32 0,.int .i32 1]):=by kernel_rfl
theorem la2:ahead (Ks Fd c cs).1=some (170,#[]):=by kernel_rfl
theorem la3:ql (Ku Fd c cs).1=some (253,159,ptr Fd):=by kernel_rfl
theorem la4:ahead (Kv Fd c cs).1=some (182,#[ptr Fd]):=by kernel_rfl
theorem la5:gu PR 6 ((Kv Fd c cs).1.finish unit) (Kv Fd c cs).2=(c.finish unit,cs):=by kernel_rfl
theorem las:look [0,2,3,4,5] (yQ Fd c cs)=kj (yQ Fd c cs).2 I_ (iY Fd 0 false false 0) none (some (21,ptr Fd)):=by kernel_rfl
theorem aez:ql (yh Fd gf sv aw it j l).1=some (253,159,ptr Fd):=by kernel_rfl
def C3 (Fd:Nat) (gf:Int) (sv aw:Bool) (it:Int) (j:Nat->aj) (l:List ae):ae×List Frame:=gu PR 300 ((lf R5 (sA (iY Fd gf sv aw it)) j).finish (ptr Fd)) l
def R6:List Item:=(C3 0 0 false false 0 jz []).1.todo
theorem aeA:look [0,2,3,4,5] (C3 Fd gf sv aw it j l)=kj l R6 (iY Fd gf sv aw it) (some (182,#[ptr Fd])) none:=by kernel_rfl
theorem agm:gu PR 9 ((lf R6 (sA (iY Fd gf sv aw it)) j).finish unit) (yQ Fd c cs).2=(c.finish unit,cs):=by kernel_rfl
end
end Ph
namespace Ph
open Conc Ren
inductive jq where
 |st (L:List Nat)
 |a2 (L:List Nat) (c:Nat)
 |a3 (L:List Nat) (c:Nat)
 |a4 (L:List Nat) (c:Nat)
 |go (L:List Nat) (c:Nat)
 |send (L:List Nat) (i:Nat)
 |close (L:List Nat) (j:Nat)
 |kd
 |w1
 |w2 (v:Nat)
 |wx
 |w3
 |w4
 |ke
 |aq
def nR(w:af)(c s:Nat):=w.heap[c]?=some (.chan 0 #[] false s s false)
structure iA where
 n:Nat
 gq:List Nat
def iA.sends(J:iA)(L:List Nat)(i:Nat):jq:=if i<J.gq.length then .send L i else .close L 0
def iA.closes(J:iA)(L:List Nat)(j:Nat):jq:=if j<L.length then .close L j else .kd
def iA.ky(J:iA)(L:List Nat):=if L.length<J.n then .st L else J.sends L 0
namespace Env
def lD(E:Env)(P:Program)(J:iA)(kq:Nat->ah->af->Prop)(Fin:(Nat->Prop)->(Nat->Prop)->ah->af->Prop):Nat->jq->(Nat->Prop)->(Nat->Prop)->ah->af->Prop
 |0,_,_,_,_,_=>True
 |k+1,pc,S,X,g,w=>g.status=.running/\g.offers=none/\match pc with
  |.st L=>∃c,E.rW P true .disable (E.Tree P true (lD E P J kq Fin k (.a2 L c))) S X g w
  |.a2 L c=>∀w2,gR E.U S w w2->E.WgAt w2 L.length 0 0->∃g1 w1 es,ay P true g w2=.go g1 w1 es/\E.WgAt w1 (L.length+1) 0 0/\Eff E.Wg w2 w1/\EvA E.Wg es/\E.Tree P true (lD E P J kq Fin k (if L=[]then .a3 L c else .a4 L c)) S X g1 w1
  |.a3 L c=>E.rW P true (.read E.sm) (E.Tree P true (lD E P J kq Fin k (.a4 L c))) S X g w
  |.a4 L c=>E.rW P true .enable (E.Tree P true (lD E P J kq Fin k (.go L c))) S X g w
  |.go L c=>S c/\X c/\∀w2,gR E.U S w w2->nR w2 c 0/\∃g1 Y,ay P true g w2=.spawn g1 Y w2 #[]/\kq c Y w2/\E.Tree P true (lD E P J kq Fin k (J.ky (L++[c]))) (fun a=>S a/\a≠c) (fun a=>X a/\a≠c) g1 w2
  |.send L i=>∃c x,L[i%J.n]?=some c/\J.gq[i]?=some x/\∃z,(∀w2 s,gR E.U S w w2->nR w2 c s->ay P true g w2=.comm g #[scase c (.int .i64 (x:Int)) z] true .send w2 #[])/\
    ∀w2,gR E.U S w w2->E.Tree P true (lD E P J kq Fin k (J.sends L (i+1))) S X (Go.Conc.served g aH) w2
  |.close L j=>aV P g=true/\∃c,L[j]?=some c/\∀w2 s,gR E.U S w w2->nR w2 c s->∃g1,g1.status=.running/\ay P true g w2=.go g1 (w2.setChan c 0 #[] true s s false) (br c)/\E.Tree P true (lD E P J kq Fin k (J.closes L (j+1))) S X g1 (w2.setChan c 0 #[] true s s false)
  |.kd=>E.rW P true .disable (E.Tree P true (lD E P J kq Fin k .w1)) S X g w
  |.w1=>∀w2 v,gR E.U S w w2->v<=8->E.WgAt w2 v 0 0->∃g1 es,ay P true g w2=.go g1 w2 es/\EvA E.Wg es/\(v=0->E.Tree P true (lD E P J kq Fin k .ke) S X g1 w2)/\(v≠0->E.Tree P true (lD E P J kq Fin k (.w2 v)) S X g1 w2)
  |.w2 v0=>∀w2 v,gR E.U S w w2->v<=8->E.WgAt w2 v 0 0->(v=v0->∃g1 w1 es,ay P true g w2=.go g1 w1 es/\E.WgAt w1 v 1 0/\Eff E.Wg w2 w1/\EvA E.Wg es/\E.Tree P true (lD E P J kq Fin k .wx) S X g1 w1)/\
    (v≠v0->∃g1 es,ay P true g w2=.go g1 w2 es/\EvA E.Wg es/\E.Tree P true (lD E P J kq Fin k .w1) S X g1 w2)
  |.wx=>E.rW P true (.write E.sm) (E.Tree P true (lD E P J kq Fin k .w3)) S X g w
  |.w3=>(∀w2 v wt,gR E.U S w w2->E.WgAt w2 v wt 0->ay P true g w2=.go {g with status:=.blocked} w2 #[])/\
    (∀w2,gR E.U S w w2->E.WgAt w2 0 0 1->∃g1 w1 es,ay P true g w2=.go g1 w1 es/\E.WgAt w1 0 0 0/\Eff E.Wg w2 w1/\EvA E.Wg es/\E.Tree P true (lD E P J kq Fin k .w4) S X g1 w1)
  |.w4=>∀w2,gR E.U S w w2->E.WgAt w2 0 0 0->∃g1 es,ay P true g w2=.go g1 w2 es/\EvA E.Wg es/\E.Tree P true (lD E P J kq Fin k .ke) S X g1 w2
  |.ke=>E.rW P true .enable (E.Tree P true (lD E P J kq Fin k .aq)) S X g w
  |.aq=>∀w2,gR E.U S w w2->∃g1,ay P true g w2=.go g1 w2 #[⟨.mark (.acquire E.st),false,true⟩]/\Fin S X g1 w2
end Env
def Down{α:Type}(r:Nat->α->α->Prop)(n:Nat)(y x:Nat->α):=∃i,i<n/\r i (y i) (x i)/\∀k,k<n->k≠i->y k=x k
theorem Qf{α:Type}(r:Nat->α->α->Prop):∀n x,(∀i,i<n->Acc (r i) (x i))->Acc (Down r n) x
 |0,x,_=>⟨x,fun y ⟨i,B,_⟩=>by omega⟩
 |n+1,x,h=>by
  have C:=Qf r n x fun i B=>h i (by omega);have J:=h n (by omega)
  suffices key:∀x,Acc (Down r n) x->∀a,Acc _ a->∀z:Nat->α,(∀k,k<n->z k=x k)->z n=a->Acc _ z from key x C _ J x (fun _ _=>rfl) rfl
  intro x L;induction L with
  |intro x _ U=>
   intro a F;induction F with
   |intro a K A=>
    intro z I Y;refine⟨z,fun y ⟨i,B,hr,R⟩=>?_⟩;by_cases H:i=n
    ·subst H;rw[Y]at hr;exact A _ hr y (fun k hk=>(R k (by omega) (by omega)).trans (I k hk)) rfl
    ·refine U y ⟨i,by omega,?_,fun k hk D=>(R k (by omega) D).trans (I k hk)⟩ a ⟨a,K⟩ y (fun _ _=>rfl) ((R n (by omega) (by omega)).trans Y);rw[<-I i (by omega)];exact hr
def Reach(P:Program)(F:bc->aB->Prop)(m:bc)(t:aB):=∃N m' t',runNT P N m t=(.next m',t')/\F m' t'
theorem Reach.here{F:bc->aB->Prop}{m:bc}(h:F m t):Reach P F m t:=⟨0,m,t,rfl,h⟩
theorem Reach.step{P:Program}{F:bc->aB->Prop}{m Y:bc}{t:aB}{ops:Array _}(R:stepT P m=(.next Y,ops))(h:Reach P F Y (t++ops)):Reach P F m t:=by
 have⟨N,m',t',K,H⟩:=h;exact⟨N+1,m',t',by simp[runNT,R];exact K,H⟩
structure Nd where
 S:Nat->Prop
 X:Nat->Prop
 g:ah
 w:af
def Nx(P:Program)(main:Bool)(U:Nat->Nat->Prop)(D:(Nat->Prop)->(Nat->Prop)->ah->af->Prop)(y x:Nd):=
 ¬D x.S x.X x.g x.w/\∃w2 es,gR U x.S x.w w2/\ay P main x.g w2=.go y.g y.w es/\j9 U x.S x.X w2 y.w es y.S y.X
section
variable{P:Program}{main:Bool}{U:Nat->Nat->Prop}{D:(Nat->Prop)->(Nat->Prop)->ah->af->Prop}{S X:Nat->Prop}{g:ah}{w:af}
theorem Tz.acc(h:Tz P main U D S X g w):Acc (Nx P main U D) ⟨S,X,g,w⟩:=by
 induction h with
 |stop hd=>exact⟨_,fun y ⟨Y,_⟩=>absurd hd Y⟩
 |step H ex _ K=>exact⟨_,fun y ⟨_,w2,es,hr,e,hd⟩=>K w2 y.g y.w es y.S y.X hr e hd⟩
theorem Tz.look(h:Tz P main U D S X g w):D S X g w\/(¬D S X g w/\g.status=.running/\∀w2,gR U S w w2->∃g1 w1 es S1 X1,ay P main g w2=.go g1 w1 es/\j9 U S X w2 w1 es S1 X1/\Tz P main U D S1 X1 g1 w1):=by
 by_cases Y:D S X g w
 ·simp_all
 ·cases h with
  |stop hd=>exact absurd hd Y
  |step K ex k=>
   refine .inr ⟨Y,K,fun w2 hr=>?_⟩;have⟨g1,w1,es,S1,X1,e,hd⟩:=ex w2 hr;exact⟨g1,w1,es,S1,X1,e,hd,k w2 g1 w1 es S1 X1 hr e hd⟩
end
def TN(n:Nat)(s:Nat->Option _)(j:Nat->aj):=((List.range n).map fun i=>(s i).getD (j i)).toArray
def lq(fn:au)(n:Nat)(site:List Item)(s:Nat->Option aj)(j:Nat->aj):Frame:={fn:=fn,tmps:=TN n s j,todo:=site,defers:=[],mode:=.run,kind:=.normal}
structure kt(fn:au)(n:Nat)(site:List Item)(s:Nat->Option aj)(f:ae):Prop where
 fn:f.fn=fn
 todo:f.todo=site
 defers:f.defers=[]
 mode:f.mode=.run
 kind:f.kind=.normal
 round:f.roundOf=none
 size:f.tmps.size=n
 slot:∀i v,s i=some v->f.tmps.getD i aH=v
theorem kt.eq{site:List _}{s:Nat->Option _}{f:ae}(h:kt fn n site s f):f=lq fn n site s (fun i=>f.tmps.getD i aH):=by
 have⟨fn,tmps,todo,defers,mode,kind,ro⟩:=f;have⟨D,R,I,A,U,B,K,H⟩:=h;congr 1;apply Array.ext
 ·simp[TN,K]
 ·intro i Y _;simp[TN,List.getElem_toArray,List.getElem_map,List.getElem_range];cases e:s i with
  |none=>simp[bH Y]
  |some v=>
   rw[<-H i v e];simp[bH Y]
def ik(fn:au)(n:Nat)(l:List ae)(site:List Item)(al:List (Nat×aj))(call:Option (au×Array aj))(load:Option (TypeId×aj)):rq:=⟨l,fn,site,[],.run,.normal,none,n,al.map (·.2),call,load⟩
structure CK(fn:au)(n:Nat)(l:List ae)(site:List Item)(al:List (Nat×aj))(call:Option (au×Array aj))(load:Option (TypeId×aj))(r:ae×List ae):Prop where
 callers:r.2=l
 fr:kt fn n site (sA al) r.1
 call:ahead r.1=call
 load:pN r.1=load
theorem jX{r:ae×List _}{l:List _}{site:List _}{al:List _}{call:Option _}{load:Option _}(h:look ks r=ik fn n l site al call load)(hk:al.map (·.1)=ks):CK fn n l site al call load r:=by
 subst hk;simp only[look,ik,rq.mk.injEq,List.map_map]at h;have⟨H,D,R,I,A,U,B,C,F,Y,K⟩:=h;exact⟨H,⟨D,R,I,A,U,B,C,GC F⟩,Y,K⟩
end Ph
namespace Ph
open Conc Ren
open Lock (Word PC Mv bn iP bw dw)
open ConcN (sumTo upd sumTo_upd upd_ne upd_same sumTo_congr le_sumTo sumTo_le)
inductive Md where
 |run
 |blk
 |ic
 |jU
 deriving DecidableEq
inductive gV(E:Env) where
 |no
 |at(pc:E.kF) (md:Md)
 |gX (i n:Nat)
 |qt (q:Nat)
structure iE(E:Env) where
 j:Nat
 L:List Nat
 ks:Nat->gV E
 d:jq
 dm:Md
 m:Word
 c:Nat
 v:Nat
 wt:Nat
 ws:Nat
 γ:E.Γ
 dn:List Nat
 tok:Option Nat
section
variable{E:Env}
def oD:E.kF->PC
 |.recv=>.out
 |.ld _=>.l0
 |.lk p _=>p
 |.le _=>.cr
 |.la _=>.cr
 |.ur _=>.cr
 |.ud=>.cr
 |.u0=>.cr
 |.un p=>p
 |.ue=>.out
 |.wr=>.out
def iN:gV E->PC
 |.at pc _=>oD pc
 |_=>.out
def qx(y:Nat):E.kF->Nat
 |.ld x=>if x=y then 1 else 0
 |.lk _ x=>if x=y then 1 else 0
 |.le x=>if x=y then 1 else 0
 |.la x=>if x=y then 1 else 0
 |_=>0
def qy(y:Nat):gV E->Nat
 |.at pc _=>qx y pc
 |_=>0
def p_:E.kF->Nat
 |.recv=>7
 |.ld _=>17
 |.lk p _=>14+iP p
 |.le _=>14
 |.la _=>13
 |.ur _=>12
 |.ud=>11
 |.u0=>10
 |.un p=>9+iP p
 |.ue=>8
 |.wr=>6
def mj:gV E->Nat
 |.at pc _=>p_ pc
 |.gX i _=>i+1
 |_=>0
def kM:gV E->Nat
 |.gX i _=>if i<=2 then 1 else 0
 |.qt _=>1
 |_=>0
def jh:gV E->Nat
 |.gX i _=>if i=1\/i=2 then 1 else 0
 |_=>0
def ji:gV E->Nat
 |.gX i _=>if i=0 then 1 else 0
 |_=>0
def Gone:gV E->Prop
 |.at .wr _=>True
 |.at .recv .jU=>True
 |.gX _ _=>True
 |.qt _=>True
 |_=>False
def uE:E.kF->Nat
 |.lk _ _=>1
 |.le _=>1
 |.u0=>1
 |.un _=>1
 |.ue=>1
 |_=>0
def Ah:gV E->Nat
 |.at pc _=>uE pc
 |.gX i _=>if i<=3 then 1 else 0
 |_=>0
end
def oV:jq->Nat
 |.a2 _ _=>1
 |.a3 _ _=>1
 |.a4 _ _=>1
 |.w1=>1
 |.w2 _=>1
 |.wx=>1
 |.w3=>1
 |.w4=>1
 |.ke=>1
 |_=>0
def oR:jq->Nat
 |.a3 _ _=>1
 |.a4 _ _=>1
 |.go _ _=>1
 |_=>0
def r4(J:iA):jq->Nat
 |.st _=>0
 |.a2 _ _=>0
 |.a3 _ _=>0
 |.a4 _ _=>0
 |.go _ _=>0
 |.send _ i=>i
 |_=>J.gq.length
def iT(J:iA):jq->Nat
 |.st _=>0
 |.a2 _ _=>0
 |.a3 _ _=>0
 |.a4 _ _=>0
 |.go _ _=>0
 |.send _ _=>0
 |.close _ i=>i
 |_=>J.n
def iB(J:iA)(v:Nat):jq->Nat
 |.st L=>60+20 *J.gq.length+20 *(J.n-L.length)
 |.a2 L _=>59+20 *J.gq.length+20 *(J.n-L.length)
 |.a3 L _=>58+20 *J.gq.length+20 *(J.n-L.length)
 |.a4 L _=>57+20 *J.gq.length+20 *(J.n-L.length)
 |.go L _=>56+20 *J.gq.length+20 *(J.n-L.length)
 |.send _ i=>40+20 *(J.gq.length-i)
 |.close _ i=>25+(J.n-i)
 |.kd=>24
 |.w1=>7+2 *v
 |.w2 v0=>6+2 *v0
 |.wx=>5
 |.w3=>4
 |.w4=>3
 |.ke=>2
 |.aq=>1
def yi:jq->Prop
 |.wx=>True
 |.w3=>True
 |_=>False
def yw:jq->Prop
 |.w4=>True
 |.ke=>True
 |.aq=>True
 |_=>False
def Ek(J:iA)(Y:List Nat)(j:Nat):jq->Prop
 |.st L=>L=Y/\j<J.n
 |.a2 L _=>L=Y/\j<J.n
 |.a3 L _=>L=Y/\j<J.n
 |.a4 L _=>L=Y/\j<J.n
 |.go L _=>L=Y/\j<J.n
 |.send L i=>L=Y/\j=J.n/\i<J.gq.length
 |.close L i=>L=Y/\j=J.n/\i<J.n
 |_=>j=J.n
def mU(d:jq)(v wt ws H Y:Nat):=
 (wt=0/\ws=0/\H=0/\Y=0/\¬yi d/\(yw d->v=0))\/
 (yi d/\((wt=1/\ws=0/\0<v/\H=0/\Y=0)\/(wt=1/\ws=0/\v=0/\H=1/\Y=0)\/(wt=0/\ws=0/\v=0/\H=0/\Y=1)\/(wt=0/\ws=1/\v=0/\H=0/\Y=0)))
section
variable{E:Env}
structure CI(J:iA)(gT:E.Γ)(C:iE E):Prop where
 jn:C.j<=J.n
 len:C.L.length=C.j
 AR:C.L.Nodup
 no:∀k,C.j<=k->C.ks k=.no
 yes:∀k,k<C.j->C.ks k≠.no
 lock:Lock.Inv (fun k=>iN (C.ks k)) J.n C.m C.c
 ru:∀k,C.tok=some k->∃md,C.ks k=.at (.ur C.γ) md
 wW:∀k γ md,C.ks k=.at (.ur γ) md->C.tok=some k
 md:∀k pc md,C.ks k=.at pc md->(md=.blk->∃sv x,pc=.lk (.s1 sv) x)/\(md=.ic\/md=.jU->pc=.recv)
 po:(C.dm=.blk->C.d=.w3)/\(C.dm=.ic->∃i,C.d=.send C.L i)/\C.dm≠.jU
 num:∀y,C.dn.count y+sumTo J.n (fun k=>qy y (C.ks k))=(J.gq.take (r4 J C.d)).count y
 fold:C.γ=C.dn.foldl E.upd gT
 pq:C.v+sumTo J.n (fun k=>kM (C.ks k))=C.j+oR C.d
 ph:mU C.d C.v C.wt C.ws (sumTo J.n fun k=>jh (C.ks k)) (sumTo J.n fun k=>ji (C.ks k))
 gone:∀k,Gone (C.ks k)->k<iT J C.d
 nI:Ek J C.L C.j C.d
 qK:∀k p x md,C.ks k=.at (.lk p x) md->iP p=2
 oE:∀k p md,C.ks k=.at (.un p) md->iP p=0/\p≠.out
 gX:∀k i n,C.ks k=.gX i n->i<=4
 w2:∀v0,C.d=.w2 v0->0<v0/\C.v<=v0
structure Calm(J:iA)(C:iE E):Prop where
 blk:∀k pc,C.ks k=.at pc .blk->C.c=0
 ic:∀k pc,C.ks k=.at pc .ic->¬k<iT J C.d
 Jr:C.dm=.blk->C.ws=0
 oY:∀i,C.dm=.ic->C.d=.send C.L i->∀pc,C.ks (i%J.n)≠.at pc .ic
def lr(J:iA)(C:iE E):=iB J C.v C.d+sumTo J.n (fun k=>mj (C.ks k))
def oF(J:iA)(C:iE E):=sumTo J.n (fun k=>bw (iN (C.ks k)))+7 *C.c
def pW(J:iA)(C:iE E):=sumTo J.n (fun k=>dw C.m (iN (C.ks k)))
def mu(J:iA)(C:iE E):=(lr J C *128+oF J C) *128+pW J C
theorem aht(p:PC):bw p<=9:=by
 cases p<;>simp[bw]<;>omega
theorem ahu(m:Word)(p:PC):dw m p<=12:=by
 cases p<;>simp[dw]<;>(try split)<;>omega
theorem agn{J:iA}{C:iE E}(H:J.n<=8)(Y:C.c<=1):oF J C<128:=by
 have h:=sumTo_le (f:=fun k=>bw (iN (C.ks k))) (j:=J.n) fun i _=>aht _;unfold oF;omega
theorem Q4{J:iA}{C:iE E}(Y:J.n<=8):pW J C<128:=by
 have h:=sumTo_le (f:=fun k=>dw C.m (iN (C.ks k))) (j:=J.n) fun i _=>ahu _ _;unfold pW;omega
theorem wX{J:iA}{C C':iE E}(Y:J.n<=8)(H:C'.c<=1)(h:lr J C'<lr J C):mu J C'<mu J C:=by
 have K:=agn Y H;have D:=Q4 (C:=C') Y;unfold mu;omega
theorem ai7{J:iA}{C C':iE E}(Y:J.n<=8)(h:lr J C'=lr J C)(hB:oF J C'<oF J C):mu J C'<mu J C:=by
 have K:=Q4 (C:=C') Y;unfold mu;omega
theorem ai8{J:iA}{C C':iE E}(h:lr J C'=lr J C)(hB:oF J C'=oF J C)(Y:pW J C'<pW J C):mu J C'<mu J C:=by
 unfold mu;omega
theorem Pe(f:PC->Nat)(gJ:Nat->PC):∀n,Lock.ia f gJ n=sumTo n fun k=>f (gJ k)
 |0=>rfl
 |n+1=>by rw[Lock.ia,sumTo,Pe f gJ n]
theorem aeB(ks:Nat->gV E)(k:Nat)(s:gV E):(fun i=>iN (upd ks k s i))=Lock.put (fun i=>iN (ks i)) k (iN s):=by
 funext i;unfold upd Lock.put;split<;>rfl
theorem Qg(f g h:PC->Nat)(gJ:Nat->PC):∀n,Lock.ia (fun p=>f p+g p+h p) gJ n=Lock.ia f gJ n+Lock.ia g gJ n+Lock.ia h gJ n
 |0=>rfl
 |n+1=>by simp[Lock.ia,Qg f g h gJ n];omega
theorem F_{gJ:Nat->PC}{m:Word}{c:Nat}(h:Lock.Inv gJ n m c):c<=1/\m.W<=n:=by
 have one:∀f,(∀p,f p<=1)->Lock.ia f gJ n<=n:=by
  intro f R;rw[Pe];have:=sumTo_le (f:=fun k=>f (gJ k)) (j:=n) fun i _=>R _;omega
 have F:=Lock.rh m.K;have I:∀p,Lock.jo p+Lock.iW p+Lock.iO p<=1:=by intro p;cases p<;>simp[Lock.jo,Lock.iW,Lock.iO]
 cases Y:m.S with
 |false=>
  have⟨H,D,_⟩:=h.calm Y;have:=one Lock.jo (by intro p;cases p<;>simp[Lock.jo]);omega
 |true=>
  have⟨H,D,A,U,B,C⟩:=h.hard Y;have:=one _ I;have e:=Qg Lock.jo Lock.iW Lock.iO gJ n;omega
end
end Ph
namespace Ph
open Conc Ren
open Lock (Word PC Mv bn iP bw dw)
open ConcN (sumTo upd sumTo_upd upd_ne upd_same sumTo_congr le_sumTo sumTo_le sumTo_upd_out)
section
variable{E:Env}{J:iA}{gT:E.Γ}{C:iE E}
def iE.wk(C:iE E)(k:Nat)(s':gV E)(d':jq)(Y:Md)(m':Word)(c' v' ij ig:Nat)(H:E.Γ)(kg:List Nat)(jI:Option Nat):=
 {C with ks:=upd C.ks k s',d:=d',dm:=Y,m:=m',c:=c',v:=v',wt:=ij,ws:=ig,γ:=H,dn:=kg,tok:=jI}
theorem q0{C:iE E}{s s':gV E}(f:gV E->Nat)(n:Nat)(hk:k<n)(e:C.ks k=s):sumTo n (fun i=>f (upd C.ks k s' i))+f s=sumTo n (fun i=>f (C.ks i))+f s':=by
 have:=sumTo_upd C.ks s' f hk;simp_all
theorem CI.wk{s s':gV E}{d':jq}{R:Md}{m':Word}{F:E.Γ}(h:CI J gT C)(hk:k<C.j)(e:C.ks k=s)(ne:s'≠.no)
  (lock:Lock.Inv (Lock.put (fun i=>iN (C.ks i)) k (iN s')) J.n m' c')
  (ru:∀i,jI=some i->(i=k/\∃md,s'=.at (.ur F) md)\/(i≠k/\C.tok=some i/\F=C.γ))(wW:∀γ md,s'=.at (.ur γ) md->jI=some k)(M:∀i,i≠k->C.tok=some i->jI=some i)
  (md:∀pc md,s'=.at pc md->(md=.blk->∃sv x,pc=.lk (.s1 sv) x)/\(md=.ic\/md=.jU->pc=.recv))
  (po:(R=.blk->d'=.w3)/\(R=.ic->∃i,d'=.send C.L i)/\R≠.jU)
  (num:∀y,kg.count y+qy y s'+(J.gq.take (r4 J C.d)).count y=C.dn.count y+qy y s+(J.gq.take (r4 J d')).count y)
  (fold:F=kg.foldl E.upd gT)(pq:v'+kM s'+oR C.d=C.v+kM s+oR d')
  (ph:∀O N,mU C.d C.v C.wt C.ws (O+jh s) (N+ji s)->mU d' v' ij ig (O+jh s') (N+ji s'))
  (gone:Gone s'->k<iT J d')(cl:iT J C.d<=iT J d')(nI:Ek J C.L C.j d')
  (qK:∀p x md,s'=.at (.lk p x) md->iP p=2)(oE:∀p md,s'=.at (.un p) md->iP p=0/\p≠.out)(gX:∀i n,s'=.gX i n->i<=4)(w2:∀v0,d'=.w2 v0->0<v0/\v'<=v0):
  CI J gT (C.wk k s' d' R m' c' v' ij ig F kg jI):=by
 have D:k<J.n:=az hk h.jn;have us:upd C.ks k s' k=s':=upd_same _ _ _;have un:∀i,i≠k->upd C.ks k s' i=C.ks i:=fun i Y=>upd_ne _ _ Y;refine⟨h.jn,h.len,h.AR,fun i Y=>?_,fun i Y=>?_,?_,fun i Y=>?_,fun i γ H Y=>?_,fun i pc H Y=>?_,po,fun y=>?_,fold,?_,?_,fun i Y=>?_,nI,fun i p x H Y=>?_,fun i p H Y=>?_,fun i n0 n1 Y=>?_,w2⟩
 ·have:i≠k:=by have:C.j<=i:=Y;omega
  show upd C.ks k s' i=_
  rw[un i this];exact h.no i Y
 ·show upd C.ks k s' i≠_
  by_cases K:i=k
  ·subst K;rw[us];exact ne
  ·rw[un i K];exact h.yes i Y
 ·show Lock.Inv (fun i=>iN (upd C.ks k s' i)) J.n m' c'
  rw[aeB];exact lock
 ·show∃md,upd C.ks k s' i=_
  rcases ru i Y with⟨rfl,I⟩|⟨I,U,A⟩
  ·rw[us];exact I
  ·rw[un i I];rw[A];exact h.ru i U
 ·change upd C.ks k s' i=_ at Y;show jI=some i
  by_cases K:i=k
  ·subst K;rw[us]at Y;exact wW γ H Y
  ·rw[un i K]at Y;exact M i K (h.wW i γ H Y)
 ·change upd C.ks k s' i=_ at Y;by_cases K:i=k
  ·subst K;rw[us]at Y;exact md pc H Y
  ·rw[un i K]at Y;exact h.md i pc H Y
 ·have I:=h.num y;have U:=num y;have A:=q0 (C:=C) (s':=s') (qy y) J.n D e;show kg.count y+sumTo J.n (fun i=>qy y (upd C.ks k s' i))=(J.gq.take (r4 J d')).count y
  omega
 ·have I:=h.pq;have A:=q0 (C:=C) (s':=s') kM J.n D e;show v'+sumTo J.n (fun i=>kM (upd C.ks k s' i))=C.j+oR d'
  omega
 ·have I:=h.ph;have A:=q0 (C:=C) (s':=s') jh J.n D e;have S:=q0 (C:=C) (s':=s') ji J.n D e;have l2:=le_sumTo (f:=fun i=>jh (C.ks i)) D;have l0:=le_sumTo (f:=fun i=>ji (C.ks i)) D;simp only[e]at l2 l0;have Q:=ph (sumTo J.n (fun i=>jh (C.ks i))-jh s) (sumTo J.n (fun i=>ji (C.ks i))-ji s) (by simp_all);show mU d' v' ij ig (sumTo J.n fun i=>jh (upd C.ks k s' i)) (sumTo J.n fun i=>ji (upd C.ks k s' i))
  have B:sumTo J.n (fun i=>jh (upd C.ks k s' i))=sumTo J.n (fun i=>jh (C.ks i))-jh s+jh s':=by omega
  have P:sumTo J.n (fun i=>ji (upd C.ks k s' i))=sumTo J.n (fun i=>ji (C.ks i))-ji s+ji s':=by omega
  rw[B,P];exact Q
 ·change Gone (upd C.ks k s' i)at Y;show i<iT J d'
  by_cases K:i=k
  ·subst K;rw[us]at Y;exact gone Y
  ·rw[un i K]at Y;exact az (h.gone i Y) cl
 ·change upd C.ks k s' i=_ at Y;by_cases K:i=k
  ·subst K;rw[us]at Y;exact qK p x H Y
  ·rw[un i K]at Y;exact h.qK i p x H Y
 ·change upd C.ks k s' i=_ at Y;by_cases K:i=k
  ·subst K;rw[us]at Y;exact oE p H Y
  ·rw[un i K]at Y;exact h.oE i p H Y
 ·change upd C.ks k s' i=_ at Y;by_cases K:i=k
  ·subst K;rw[us]at Y;exact gX n0 n1 Y
  ·rw[un i K]at Y;exact h.gX i n0 n1 Y
theorem vZ{s s':gV E}{d':jq}{od:Md}{m':Word}{kO:E.Γ}(hk:k<J.n)(e:C.ks k=s):
  lr J (C.wk k s' d' od m' c' v' ij ig kO kg jI)+iB J C.v C.d+mj s=lr J C+iB J v' d'+mj s':=by
 have Y:=q0 (s':=s') mj J.n hk e;show iB J v' d'+sumTo J.n (fun i=>mj (upd _ k s' i))+iB J C.v C.d+mj s=iB J C.v C.d+sumTo J.n _+iB J v' d'+mj s'
 omega
theorem R7{s s':gV E}{d':jq}{od:Md}{m':Word}{kO:E.Γ}(hk:k<J.n)(e:C.ks k=s):
  oF J (C.wk k s' d' od m' c' v' ij ig kO kg jI)+bw (iN s)+7 *C.c=oF J C+bw (iN s')+7 *c':=by
 have Y:=q0 (s':=s') (fun s=>bw (iN s)) J.n hk e;show sumTo J.n (fun i=>bw (iN (upd _ k s' i)))+7 *c'+bw _+7 *C.c=sumTo J.n _+7 *C.c+bw _+7 *c'
 omega
theorem Q5{s s':gV E}{d':jq}{od:Md}{kO:E.Γ}(hk:k<J.n)(e:C.ks k=s):
  pW J (C.wk k s' d' od C.m c' v' ij ig kO kg jI)+dw C.m (iN s)=pW J C+dw C.m (iN s'):=by
 have Y:=q0 (s':=s') (fun s=>dw C.m (iN s)) J.n hk e;exact Y
def iE.dd(C:iE E)(d':jq)(Y:Md)(v' ij ig:Nat):={C with d:=d',dm:=Y,v:=v',wt:=ij,ws:=ig}
theorem CI.dd{d':jq}{Y:Md}(h:CI J gT C)(po:(Y=.blk->d'=.w3)/\(Y=.ic->∃i,d'=.send C.L i)/\Y≠.jU)(num:J.gq.take (r4 J d')=J.gq.take (r4 J C.d))(pq:v'+oR C.d=C.v+oR d')
  (ph:∀R H,mU C.d C.v C.wt C.ws R H->mU d' v' ij ig R H)(cl:iT J C.d<=iT J d')(nI:Ek J C.L C.j d')(w2:∀v0,d'=.w2 v0->0<v0/\v'<=v0):CI J gT (C.dd d' Y v' ij ig):=by
 refine⟨h.jn,h.len,h.AR,h.no,h.yes,h.lock,h.ru,h.wW,h.md,po,fun y=>?_,h.fold,?_,ph _ _ h.ph,fun k hk=>az (h.gone k hk) cl,nI,h.qK,h.oE,h.gX,w2⟩
 ·have:=h.num y;rw[<-num]at this;exact this
 ·have:=h.pq;show v'+sumTo J.n (fun k=>kM (C.ks k))=C.j+oR d'
  omega
theorem De{d':jq}{Y:Md}(h:iB J v' d'<iB J C.v C.d):mu J (C.dd d' Y v' ij ig)<mu J C:=by
 unfold mu;have K:lr J (C.dd d' Y v' ij ig)+iB J C.v C.d=lr J C+iB J v' d':=by
  show iB J v' d'+sumTo J.n (fun k=>mj (C.ks k))+iB J C.v C.d=iB J C.v C.d+sumTo J.n _+iB J v' d'
  omega
 have H:oF J (C.dd d' Y v' ij ig)=oF J C:=rfl;have D:pW J (C.dd d' Y v' ij ig)=pW J C:=rfl;omega
def iE.spawn(J:iA)(C:iE E)(c:Nat):={C with j:=C.j+1,L:=C.L++[c],ks:=upd C.ks C.j (.at .recv .run),d:=J.ky (C.L++[c]),dm:=.run}
theorem zN(f:gV E->Nat)(s':gV E)(h:CI J gT C)(Y:C.j<J.n)(f0:f .no=0):sumTo J.n (fun i=>f (upd C.ks C.j s' i))=sumTo J.n (fun i=>f (C.ks i))+f s':=by
 have:=q0 (s':=s') f J.n Y (h.no C.j (ak _));omega
theorem tX:(L.length<J.n/\J.ky L=.st L)\/(¬L.length<J.n/\0<J.gq.length/\J.ky L=.send L 0)\/(¬L.length<J.n/\J.gq.length=0/\J.ky L=.close L 0):=by
 unfold iA.ky iA.sends;by_cases Y:L.length<J.n
 ·simp_all
 ·by_cases K:0<J.gq.length
  ·simp_all
  ·simp_all
theorem CI.spawn{c:Nat}(h:CI J gT C)(Z:0<J.n)(G:J.n<=8)(hd:C.d=.go C.L c)(V:c∉C.L):CI J gT (C.spawn J c)/\lr J (C.spawn J c)<lr J C:=by
 have H:C.j<J.n:=by have:=h.nI;rw[hd]at this;exact this.2
 have us:upd C.ks C.j (.at .recv .run) C.j=.at .recv .run:=upd_same _ _ _;have un:∀i,i≠C.j->upd C.ks C.j (.at .recv .run) i=C.ks i:=fun i P=>upd_ne _ _ P;have I:C.wt=0/\C.ws=0/\sumTo J.n (fun k=>jh (C.ks k))=0/\sumTo J.n (fun k=>ji (C.ks k))=0:=by
  rcases h.ph with y|y
  ·exact⟨y.1,y.2.1,y.2.2.1,y.2.2.2.1⟩
  ·rw[hd]at y;exact y.1.elim
 have R:(C.L++[c]).length=C.j+1:=by simp[h.len]
 have S:r4 J (J.ky (C.L++[c]))=0:=by
  rcases tX (J:=J) (L:=C.L++[c])with⟨_,e⟩|⟨_,_,e⟩|⟨_,D,e⟩<;>rw[e]
  ·rfl
  ·rfl
  ·exact D
 have F:oR (J.ky (C.L++[c]))=0:=by
  rcases tX (J:=J) (L:=C.L++[c])with⟨_,e⟩|⟨_,_,e⟩|⟨_,D,e⟩<;>rw[e]<;>rfl
 have B:¬yi (J.ky (C.L++[c]))/\¬yw (J.ky (C.L++[c])):=by
  rcases tX (J:=J) (L:=C.L++[c])with⟨_,e⟩|⟨_,_,e⟩|⟨_,D,e⟩<;>rw[e]<;>exact⟨id,id⟩
 have Q:∀k,¬Gone (C.ks k):=fun k hk=>by
  have:=h.gone k hk;rw[hd]at this;exact absurd this (aQ _)
 refine⟨⟨H,R,?_,fun k hk=>?_,fun k hk=>?_,?_,fun k hk=>?_,fun k γ md hk=>?_,fun k pc md hk=>?_,⟨nofun,nofun,nofun⟩,fun y=>?_,h.fold,?_,?_,fun k hk=>?_,?_,fun k p x md hk=>?_,fun k p md hk=>?_,fun k i n hk=>?_,fun v0 A=>?_⟩,?_⟩
 ·show(C.L++[c]).Nodup
  rw[List.nodup_append];exact⟨h.AR,by simp,fun a O b U=>by
   simp at U;subst U;exact fun e=>V (e▸O)⟩
 ·have:k≠C.j:=by have:C.j+1<=k:=hk;omega
  show upd C.ks C.j _ k=_
  rw[un k this];exact h.no k (by have:C.j+1<=k:=hk;omega)
 ·show upd C.ks C.j _ k≠_
  by_cases e:k=C.j
  ·subst e;rw[us];exact nofun
  ·rw[un k e];exact h.yes k (by have:k<C.j+1:=hk;omega)
 ·show Lock.Inv (fun i=>iN (upd C.ks C.j (.at .recv .run) i)) J.n C.m C.c
  have:(fun i=>iN (upd C.ks C.j (gV.at Env.kF.recv Md.run:gV E) i))=fun i=>iN (C.ks i):=by
   funext i;by_cases e:i=C.j
   ·subst e;rw[us,h.no C.j (ak _)];rfl
   ·rw[un i e]
  rw[this];exact h.lock
 ·have⟨md,e⟩:=h.ru k hk;have:k≠C.j:=fun e'=>by rw[e',h.no C.j (ak _)]at e;cases e
  exact⟨md,by show upd C.ks C.j _ k=_;rw[un k this];exact e⟩
 ·change upd C.ks C.j _ k=_ at hk;by_cases e:k=C.j
  ·subst e;rw[us]at hk;cases hk
  ·rw[un k e]at hk;exact h.wW k γ md hk
 ·change upd C.ks C.j _ k=_ at hk;by_cases e:k=C.j
  ·subst e;rw[us]at hk;cases hk;exact⟨nofun,fun _=>rfl⟩
  ·rw[un k e]at hk;exact h.md k pc md hk
 ·have Y:=h.num y;rw[hd]at Y;have K:=zN (qy y) (.at .recv .run) h H rfl;show C.dn.count y+sumTo J.n (fun i=>qy y (upd C.ks C.j (.at .recv .run) i))=(J.gq.take (r4 J (J.ky (C.L++[c])))).count y
  rw[S,K];exact Y
 ·have Y:=h.pq;rw[hd]at Y;have K:=zN kM (.at .recv .run) h H rfl;show C.v+sumTo J.n (fun i=>kM (upd C.ks C.j (.at .recv .run) i))=C.j+1+oR (J.ky (C.L++[c]))
  rw[F,K];exact Y
 ·have K:=zN jh (.at .recv .run) h H rfl;have N:=zN ji (.at .recv .run) h H rfl;show mU (J.ky (C.L++[c])) C.v C.wt C.ws (sumTo J.n fun i=>jh (upd C.ks C.j (.at .recv .run) i)) (sumTo J.n fun i=>ji (upd C.ks C.j (.at .recv .run) i))
  rw[K,N];exact .inl ⟨I.1,I.2.1,I.2.2.1,I.2.2.2,B.1,fun y=>absurd y B.2⟩
 ·change Gone (upd C.ks C.j _ k)at hk;by_cases e:k=C.j
  ·subst e;rw[us]at hk;exact hk.elim
  ·rw[un k e]at hk;exact absurd hk (Q k)
 ·show Ek J (C.L++[c]) (C.j+1) (J.ky (C.L++[c]))
  rcases tX (J:=J) (L:=C.L++[c])with⟨Y,e⟩|⟨Y,K,e⟩|⟨Y,D,e⟩<;>rw[e]<;>rw[R]at Y
  ·exact⟨rfl,Y⟩
  ·exact⟨rfl,by omega,K⟩
  ·exact⟨rfl,by omega,Z⟩
 ·change upd C.ks C.j _ k=_ at hk;by_cases e:k=C.j
  ·subst e;rw[us]at hk;cases hk
  ·rw[un k e]at hk;exact h.qK k p x md hk
 ·change upd C.ks C.j _ k=_ at hk;by_cases e:k=C.j
  ·subst e;rw[us]at hk;cases hk
  ·rw[un k e]at hk;exact h.oE k p md hk
 ·change upd C.ks C.j _ k=_ at hk;by_cases e:k=C.j
  ·subst e;rw[us]at hk;cases hk
  ·rw[un k e]at hk;exact h.gX k i n hk
 ·change J.ky (C.L++[c])=_ at A;rcases tX (J:=J) (L:=C.L++[c])with⟨_,e⟩|⟨_,_,e⟩|⟨_,_,e⟩<;>rw[e]at A<;>cases A
 ·have K:=zN mj (.at .recv .run) h H rfl;show iB J C.v (J.ky (C.L++[c]))+sumTo J.n (fun i=>mj (upd C.ks C.j (.at .recv .run) i))<iB J C.v C.d+sumTo J.n (fun k=>mj (C.ks k))
  rw[K,hd];have M:mj (gV.at Env.kF.recv Md.run:gV E)=7:=rfl;have T:=h.len;rcases tX (J:=J) (L:=C.L++[c])with⟨Y,e⟩|⟨Y,K,e⟩|⟨Y,D,e⟩<;>rw[e]<;>rw[R]at Y<;>simp only[iB,R,M]<;>omega
def pR(b:Bool):gV E->gV E
 |.at pc .blk=>.at pc .run
 |.at pc .ic=>if b then .at pc .jU else .at pc .ic
 |s=>s
def wo:Md->Md
 |.blk=>.run
 |x=>x
def iE.ou(J:iA)(C:iE E):={C with ks:=fun k=>pR (decide (k<iT J C.d)) (C.ks k),dm:=wo C.dm}
theorem vP{α:Type}(f:gV E->α)(H:∀pc md Y,f (.at pc md)=f (.at pc Y))(b:Bool)(s:gV E):f (pR b s)=f s:=by
 cases s with
 |«at» pc md=>
  cases md with
  |run=>rfl
  |blk=>exact H _ _ _
  |ic=>
   cases b
   ·rfl
   ·exact H _ _ _
  |jU=>rfl
 |_=>rfl
theorem vQ{b:Bool}{s:gV E}{pc:E.kF}{md:Md}(h:pR b s=.at pc md):∃Y,s=.at pc Y/\(Y=md\/(Y=.blk/\md=.run)\/(Y=.ic/\md=.jU/\b=true))/\md≠.blk/\(md=.ic->b=false):=by
 cases s with
 |«at» K Y=>
  cases Y with
  |run=>cases h;simp_all
  |blk=>cases h;simp_all
  |ic=>
   cases b
   ·cases h;simp_all
   ·cases h;simp_all
  |jU=>cases h;simp_all
 |_=>cases h
theorem CI.ou(h:CI J gT C):CI J gT (C.ou J):=by
 have H:∀{α:Type} (f:gV E->α),(∀pc md B,f _=f _)->(fun k=>f ((C.ou J).ks k))=fun k=>f (C.ks k):=fun f U=>funext fun k=>vP f U _ _;refine⟨h.jn,h.len,h.AR,fun k hk=>?_,fun k hk e=>?_,?_,fun k hk=>?_,fun k γ md hk=>?_,fun k pc md hk=>?_,?_,fun y=>?_,h.fold,?_,?_,fun k hk=>?_,h.nI,fun k p x md hk=>?_,fun k p md hk=>?_,fun k i n hk=>?_,h.w2⟩
 ·show pR _ (C.ks k)=_
  rw[h.no k hk];rfl
 ·change pR _ (C.ks k)=_ at e;have:=h.yes k hk;cases Y:C.ks k with
  |«at» pc md=>
   rw[Y]at e;cases md with
   |ic=>revert e;simp only[pR];split<;>intro e<;>cases e
   |_=>cases e
  |no=>exact this Y
  |gX i n=>rw[Y]at e;cases e
  |qt q=>rw[Y]at e;cases e
 ·rw[H iN fun _ _ _=>rfl];exact h.lock
 ·have⟨md,e⟩:=h.ru k hk;show∃md,pR _ (C.ks k)=_
  rw[e];cases md with
  |run=>exact⟨_,rfl⟩
  |blk=>exact⟨_,rfl⟩
  |ic=>
   have:=(h.md k _ _ e).2 (.inl rfl);cases this
  |jU=>exact⟨_,rfl⟩
 ·have⟨K,e,_⟩:=vQ hk;exact h.wW k γ K e
 ·have⟨K,e,I,A,F⟩:=vQ hk;refine⟨fun y=>absurd y A,fun y=>?_⟩;rcases I with rfl|⟨_,rfl⟩|⟨rfl,rfl,_⟩
  ·exact(h.md k _ _ e).2 y
  ·simp_all
  ·exact(h.md k _ _ e).2 (.inl rfl)
 ·have hd:=h.po;show(wo C.dm=.blk->C.d=.w3)/\(wo C.dm=.ic->∃i,C.d=.send C.L i)/\wo C.dm≠.jU
  cases R:C.dm with
  |run=>exact⟨nofun,nofun,nofun⟩
  |blk=>exact⟨nofun,nofun,nofun⟩
  |ic=>exact⟨nofun,fun _=>hd.2.1 R,nofun⟩
  |jU=>exact absurd R hd.2.2
 ·rw[H _ fun _ _ _=>rfl];exact h.num y
 ·rw[H kM fun _ _ _=>rfl];exact h.pq
 ·rw[H jh fun _ _ _=>rfl,H ji fun _ _ _=>rfl];exact h.ph
 ·change Gone (pR _ (C.ks k))at hk;cases Y:C.ks k with
  |«at» pc md=>
   rw[Y]at hk;cases md with
   |ic=>
    by_cases D:k<iT J C.d
    ·exact D
    ·rw[decide_eq_false D]at hk;have e:=(h.md k _ _ Y).2 (.inl rfl);subst e;exact hk.elim
   |blk=>
    obtain⟨sv,x,e⟩:=(h.md k _ _ Y).1 rfl;subst e;exact hk.elim
   |run=>exact h.gone k (by rw[Y];exact hk)
   |jU=>exact h.gone k (by rw[Y];exact hk)
  |no=>rw[Y]at hk;exact hk.elim
  |gX i n=>exact h.gone k (by rw[Y];trivial)
  |qt q=>exact h.gone k (by rw[Y];trivial)
 ·have⟨K,e,_⟩:=vQ hk;exact h.qK k p x K e
 ·have⟨K,e,_⟩:=vQ hk;exact h.oE k p K e
 ·change pR _ _=_ at hk;cases Y:C.ks k with
  |«at» pc md=>
   rw[Y]at hk;cases md with
   |ic=>revert hk;simp only[pR];split<;>intro e<;>cases e
   |_=>cases hk
  |no=>rw[Y]at hk;cases hk
  |gX i' M=>rw[Y]at hk;cases hk;exact h.gX k _ _ Y
  |qt q=>rw[Y]at hk;cases hk
theorem Q6:mu J (C.ou J)=mu J C:=by
 have Y:∀{α:Type} (f:gV E->α),(∀pc md H,f _=f _)->(fun k=>f ((C.ou J).ks k))=fun k=>f _:=fun f K=>funext fun k=>vP f K _ _;unfold mu lr oF pW;rw[Y mj fun _ _ _=>rfl,Y (fun s=>bw (iN s)) fun _ _ _=>rfl,Y (fun s=>dw _ (iN s)) fun _ _ _=>rfl];rfl
theorem aa9(h:∀i,C.dm=.ic->C.d=.send C.L i->∀pc,C.ks (i%J.n)≠.at pc .ic):Calm J (C.ou J):=by
 refine⟨fun k pc hk=>?_,fun k pc hk D=>?_,fun hd=>?_,fun i R hd pc hk=>?_⟩
 ·have⟨_,_,_,A,_⟩:=vQ hk;simp_all
 ·have⟨_,_,_,_,H⟩:=vQ hk;have:=H rfl;simp only[decide_eq_false_iff_not]at this;exact this D
 ·revert hd;show wo _=.blk->_
  cases C.dm<;>intro e<;>cases e
 ·have K:C.dm=.ic:=by
   revert R;show wo _=.ic->_
   cases C.dm<;>intro e<;>first|rfl|cases e
  have⟨I,e,Y,_⟩:=vQ hk;rcases Y with rfl|⟨_,Y⟩|⟨_,Y,_⟩
  ·exact h i K hd pc e
  ·cases Y
  ·cases Y
end
theorem Cv(f:Nat->PC)(k:Nat):Lock.put f k (f k)=f:=by
 funext i;unfold Lock.put;simp_all
theorem ago{p p':PC}{m m':Word}{c:Nat}(h:Mv p m c p' m' c')(Y:iP p=2):p'=.cr\/iP p'=2:=by
 cases h with
 |Eh=>exact .inl rfl
 |rd=>right;unfold Lock.hr;split<;>rfl
 |hw=>right;unfold Lock.hd;split<;>(try split)<;>rfl
 |Ei=>
  split
  ·simp
  ·exact .inr rfl
 |Ej=>right;unfold Lock.hr;split<;>rfl
 |a1=>exact .inl rfl
 |u0=>cases Y
 |AN=>cases Y
 |AP=>cases Y
 |ur=>cases Y
 |us=>cases Y
 |uh=>cases Y
 |_=>exact .inr rfl
theorem aeC{p p':PC}{m m':Word}{c:Nat}(h:Mv p m c p' m' c')(Y:iP p=0/\p≠.out\/p=.cr):p'=.out\/(iP p'=0/\p'≠.out):=by
 have hd:∀m,Lock.dec m=.out\/(iP (Lock.dec m)=0/\Lock.dec m≠.out):=by
  intro m;unfold Lock.dec;split
  ·simp
  ·exact .inr ⟨rfl,nofun⟩
 cases h with
 |u0=>
  split
  ·exact .inr ⟨rfl,nofun⟩
  simp_all
 |AN=>exact .inr ⟨rfl,nofun⟩
 |AP=>exact .inr ⟨rfl,nofun⟩
 |ur=>exact hd _
 |us=>exact .inl rfl
 |uh=>exact .inl rfl
 |_=>rcases Y with⟨Y,_⟩|Y<;>cases Y
section
variable{E:Env}{J:iA}{gT:E.Γ}{C:iE E}
def iE.w1(C:iE E)(k:Nat)(s':gV E):=C.wk k s' C.d C.dm C.m C.c C.v C.wt C.ws C.γ C.dn C.tok
theorem CI.c1(h:CI J gT C):C.c<=1:=(F_ h.lock).1
theorem CI.Jb(h:CI J gT C){pc:E.kF}{md:Md}(e:C.ks k=.at pc md)(n1:∀γ,pc≠.ur γ)(Y:C.tok=some i):i≠k:=by
 rintro rfl;have⟨K,e'⟩:=h.ru i Y;rw[e]at e';simp_all
theorem CI.quiet{pc Y:E.kF}{md H:Md}(h:CI J gT C)(hk:k<C.j)(e:C.ks k=.at pc md)(N:oD Y=oD pc)(M:∀y,qx y Y=qx y pc)(n1:∀γ,pc≠.ur γ)(n2:∀γ,Y≠.ur γ)
  (O:(H=.blk->∃sv x,Y=.lk (.s1 sv) x)/\(H=.ic\/H=.jU->Y=.recv))(F:Gone (.at Y H)->k<iT J C.d)(qK:∀p x,Y=.lk p x->iP p=2)(oE:∀p,Y=.un p->iP p=0/\p≠.out):CI J gT (C.w1 k (.at Y H)):=by
 refine h.wk hk e nofun ?_ (fun i R=>.inr ⟨h.Jb e n1 R,R,rfl⟩) (fun γ md e'=>by simp_all) (fun i _ R=>R) (fun A D K=>by cases K;omega) h.po (fun y=>?_) h.fold rfl (fun U K I=>I) F (ak _) h.nI (fun p x D K=>by simp_all) (fun p D K=>by simp_all) (fun i n K=>by cases K) h.w2
 ·have:iN (gV.at Y H)=(fun i=>iN (C.ks i)) k:=by
   show oD Y=iN (C.ks k)
   rw[e];exact N
  rw[this,Cv];exact h.lock
 ·show C.dn.count y+qx y Y+_=C.dn.count y+qx y pc+_
  rw[M]
theorem Dg{s s':gV E}(H:J.n<=8)(Y:C.c<=1)(hk:k<J.n)(e:C.ks k=s)(hr:mj s'<mj s):mu J (C.w1 k s')<mu J C:=by
 refine wX H Y ?_;have:=vZ (s':=s') (d':=C.d) (od:=C.dm) (m':=C.m) (c':=C.c) (v':=C.v) (ij:=C.wt) (ig:=C.ws) (kO:=C.γ) (kg:=C.dn) (jI:=C.tok) hk e;change lr J (C.w1 k s')+_+_=_ at this;omega
theorem Q7{s s':gV E}(hk:k<J.n)(e:C.ks k=s)(hr:mj s'=mj s)(R:iN s'=iN s):mu J (C.w1 k s')=mu J C:=by
 have H:=vZ (s':=s') (d':=C.d) (od:=C.dm) (m':=C.m) (c':=C.c) (v':=C.v) (ij:=C.wt) (ig:=C.ws) (kO:=C.γ) (kg:=C.dn) (jI:=C.tok) hk e;have Y:=R7 (s':=s') (d':=C.d) (od:=C.dm) (m':=C.m) (c':=C.c) (v':=C.v) (ij:=C.wt) (ig:=C.ws) (kO:=C.γ) (kg:=C.dn) (jI:=C.tok) hk e;have K:=Q5 (s':=s') (d':=C.d) (od:=C.dm) (c':=C.c) (v':=C.v) (ij:=C.wt) (ig:=C.ws) (kO:=C.γ) (kg:=C.dn) (jI:=C.tok) hk e;change lr J (C.w1 k s')+_+_=_ at H;change oF J (C.w1 k s')+_+_=_ at Y;change pW J (C.w1 k s')+_=_ at K;rw[R]at Y K;unfold mu;omega
def iE.mv(C:iE E)(k:Nat)(Y:E.kF)(m':Word)(c':Nat):=C.wk k (.at Y .run) C.d C.dm m' c' C.v C.wt C.ws C.γ C.dn C.tok
theorem CI.mv{pc Y:E.kF}{p p':PC}{m':Word}(h:CI J gT C)(V:J.n<=8)(hk:k<C.j)(e:C.ks k=.at pc .run)(R:oD pc=p)(H:oD Y=p')(O:Mv p C.m C.c p' m' c')(Z:∀y,qx y Y=qx y pc)(n1:∀γ,pc≠.ur γ)(n2:∀γ,Y≠.ur γ)(n3:Y≠.wr)
  (hr:p_ Y<p_ pc\/(p_ Y=p_ pc/\iP p'=iP p))(qK:∀p x,Y=.lk p x->iP p=2)(oE:∀p,Y=.un p->iP p=0/\p≠.out):CI J gT (C.mv k Y m' c')/\mu J (C.mv k Y m' c')<mu J C:=by
 have K:k<J.n:=az hk h.jn;have P:=by
  show iN (C.ks k)=p
  rw[e];exact R
 have N:=by
  show Lock.Inv (Lock.put (fun i=>iN (C.ks i)) k (oD Y)) J.n m' c'
  rw[H];exact h.lock.step K P O
 refine⟨?_,?_⟩
 ·refine h.wk hk e nofun N (fun i A=>.inr ⟨h.Jb e n1 A,A,rfl⟩) (fun γ md e'=>by simp_all) (fun i _ A=>A) (fun T I D=>by cases D;simp_all) h.po (fun y=>?_) h.fold rfl (fun X D R=>R) (fun S=>?_) (ak _) h.nI (fun p x I D=>by simp_all) (fun p I D=>by simp_all) (fun i n D=>by cases D) h.w2
  ·show C.dn.count y+qx y Y+_=C.dn.count y+qx y pc+_
   rw[Z]
  ·cases Y with
   |wr=>exact absurd rfl n3
   |_=>exact S.elim
 ·have Q:=vZ (C:=C) (J:=J) (s':=.at Y .run) (d':=C.d) (od:=C.dm) (m':=m') (c':=c') (v':=C.v) (ij:=C.wt) (ig:=C.ws) (kO:=C.γ) (kg:=C.dn) (jI:=C.tok) K e;have F:=R7 (C:=C) (J:=J) (s':=.at Y .run) (d':=C.d) (od:=C.dm) (m':=m') (c':=c') (v':=C.v) (ij:=C.wt) (ig:=C.ws) (kO:=C.γ) (kg:=C.dn) (jI:=C.tok) K e;change lr J (C.mv k Y m' c')+iB J C.v C.d+p_ pc=lr J C+iB J C.v C.d+p_ Y at Q;change oF J (C.mv k Y m' c')+bw (oD pc)+7 *C.c=oF J C+bw (oD Y)+7 *c' at F;rw[R,H]at F;have U:=(F_ N).1;have B:Lock.Ok C.m p:=by
   have:=h.lock.ok k K;simp_all
  rcases hr with hr|⟨hr,W⟩
  ·exact wX V U (by omega)
  ·rcases O.down B with L|⟨_,L⟩|⟨_,L,rfl,rfl,G⟩
   ·omega
   ·exact ai7 V (by omega) (by omega)
   ·have M:=Q5 (C:=C) (J:=J) (s':=.at Y .run) (d':=C.d) (od:=C.dm) (c':=C.c) (v':=C.v) (ij:=C.wt) (ig:=C.ws) (kO:=C.γ) (kg:=C.dn) (jI:=C.tok) K e;change pW J (C.mv k Y C.m C.c)+dw C.m (oD pc)=pW J C+dw C.m (oD Y)at M;rw[R,H]at M;exact ai8 (by omega) (by omega) (by omega)
theorem CI.mvL{x:Nat}{p p':PC}{m':Word}(h:CI J gT C)(H:J.n<=8)(hk:k<C.j)(e:C.ks k=.at (.lk p x) .run)(Y:Mv p C.m C.c p' m' c'):CI J gT (C.mv k (Env.behind p' x) m' c')/\mu J (C.mv k (Env.behind p' x) m' c')<mu J C:=by
 have I:=h.qK k p x _ e;rcases ago Y I with rfl|K
 ·exact h.mv H hk e rfl rfl Y (fun y=>rfl) nofun nofun nofun (.inl (by show 14<14+iP p;omega)) nofun nofun
 ·have R:Env.behind (E:=E) p' x=.lk p' x:=by
   cases p'<;>first|rfl|(cases K;done)
  rw[R];exact h.mv H hk e rfl rfl Y (fun y=>rfl) nofun nofun nofun (.inr ⟨by show 14+iP p'=14+iP p;omega,by show iP p'=iP p;omega⟩) (fun A U D=>by cases D;exact K) nofun
theorem CI.Ue{pc:E.kF}{p p':PC}{m':Word}(h:CI J gT C)(F:J.n<=8)(hk:k<C.j)(e:C.ks k=.at pc .run)(Y:(pc=.u0/\p=.cr)\/pc=.un p)(H:Mv p C.m C.c p' m' c'):CI J gT (C.mv k (Env.vU p') m' c')/\mu J (C.mv k (Env.vU p') m' c')<mu J C:=by
 have L:iP p=0/\p≠.out\/p=.cr:=by
  rcases Y with⟨rfl,rfl⟩|rfl
  ·exact .inr rfl
  ·exact .inl (h.oE k p _ e)
 have A:oD pc=p:=by rcases Y with⟨rfl,rfl⟩|rfl<;>rfl
 have I:∀y,qx y pc=0:=by rcases Y with⟨rfl,rfl⟩|rfl<;>exact fun y=>rfl
 have n1:∀γ,pc≠.ur γ:=by rcases Y with⟨rfl,rfl⟩|rfl<;>nofun
 have K:9<=p_ pc/\(pc=.un p->p_ pc=9)/\(pc=.u0->p_ pc=10):=by
  rcases Y with⟨rfl,rfl⟩|rfl
  ·exact⟨by show 9<=10;omega,nofun,fun _=>rfl⟩
  ·have:=h.oE k p _ e;exact⟨by show 9<=9+iP p;omega,fun _=>by show 9+iP p=9;omega,nofun⟩
 rcases aeC H L with rfl|⟨D,R⟩
 ·exact h.mv F hk e A rfl H (fun y=>by rw[I];rfl) n1 nofun nofun (.inl (by have:=K.1;show 8<p_ pc;omega)) nofun nofun
 ·have B:Env.vU (E:=E) p'=.un p':=by
   cases p'<;>first|rfl|exact absurd rfl R
  rw[B];refine h.mv F hk e A rfl H (fun y=>by rw[I];rfl) n1 nofun nofun ?_ nofun (fun M U=>by cases U;exact⟨D,R⟩);rcases Y with⟨rfl,rfl⟩|rfl
  ·exact .inl (by show 9+iP p'<10;omega)
  ·exact .inr ⟨by rw[K.2.1 rfl];show 9+iP p'=9;omega,by show iP p'=iP p;rw[D];exact(h.oE k p _ e).1.symm⟩
def iE.take(C:iE E)(k x:Nat):=C.wk k (.at (.ur (E.upd C.γ x)) .run) C.d C.dm C.m C.c C.v C.wt C.ws (E.upd C.γ x) (C.dn++[x]) (some k)
theorem CI.free{x:Nat}{md:Md}(h:CI J gT C)(hk:k<C.j)(e:C.ks k=.at (.la x) md):C.tok=none:=by
 cases K:C.tok with
 |none=>rfl
 |some i=>
  have⟨H,e'⟩:=h.ru i K;have Y:=az (bR fun y=>by rw[h.no i y]at e';cases e') h.jn;have:=h.lock.one Y (az hk h.jn) (by rw[e'];rfl) (by rw[e];rfl);simp_all
theorem CI.take{x:Nat}(h:CI J gT C)(F:J.n<=8)(hk:k<C.j)(e:C.ks k=.at (.la x) .run):CI J gT (C.take k x)/\mu J (C.take k x)<mu J C:=by
 have K:k<J.n:=az hk h.jn;have A:=h.free hk e;refine⟨h.wk hk e nofun ?_ (fun i Y=>.inl ⟨(Option.some.inj Y).symm,_,rfl⟩) (fun γ md e'=>rfl) (fun i _ Y=>by rw[A]at Y;cases Y) (fun B U H=>by cases H;exact⟨nofun,fun y=>by rcases y with y|y<;>cases y⟩) h.po (fun y=>?_) ?_ rfl (fun L H I=>I) (fun R=>R.elim) (ak _) h.nI nofun nofun nofun h.w2,wX F h.c1 ?_⟩
 ·have:iN (gV.at (.ur (E.upd C.γ x)) .run:gV E)=(fun i=>iN (C.ks i)) k:=by
   show PC.cr=iN (C.ks k)
   rw[e];rfl
  rw[this,Cv];exact h.lock
 ·show(C.dn++[x]).count y+0+_=C.dn.count y+(if x=y then 1 else 0)+_
  rw[cv,cw,cx];simp only[beq_iff_eq];omega
 ·rw[List.foldl_append,<-h.fold];rfl
 ·have D:=vZ (C:=C) (J:=J) (s':=.at (.ur (E.upd C.γ x)) .run) (d':=C.d) (od:=C.dm) (m':=C.m) (c':=C.c) (v':=C.v) (ij:=C.wt) (ig:=C.ws) (kO:=E.upd C.γ x) (kg:=C.dn++[x]) (jI:=some k) K e;change lr J (C.take k x)+iB J C.v C.d+13=lr J C+iB J C.v C.d+12 at D;omega
def iE.give(C:iE E)(k:Nat):=C.wk k (.at .ud .run) C.d C.dm C.m C.c C.v C.wt C.ws C.γ C.dn none
theorem CI.give{γ:E.Γ}(h:CI J gT C)(F:J.n<=8)(hk:k<C.j)(e:C.ks k=.at (.ur γ) .run):CI J gT (C.give k)/\mu J (C.give k)<mu J C/\C.tok=some k/\C.γ=γ:=by
 have K:k<J.n:=az hk h.jn;have H:=h.wW k γ _ e;refine⟨h.wk hk e nofun ?_ nofun (fun γ md e'=>by cases e') (fun i A Y=>by rw[H]at Y;exact absurd (Option.some.inj Y).symm A) (fun L B D=>by cases D;exact⟨nofun,fun y=>by rcases y with y|y<;>cases y⟩) h.po (fun y=>rfl) h.fold rfl (fun M D U=>U) (fun I=>I.elim) (ak _) h.nI nofun nofun nofun h.w2,wX F h.c1 ?_,H,?_⟩
 ·have:iN (gV.at .ud .run:gV E)=(fun i=>iN (C.ks i)) k:=by
   show PC.cr=iN (C.ks k)
   rw[e];rfl
  rw[this,Cv];exact h.lock
 ·have R:=vZ (C:=C) (J:=J) (s':=.at .ud .run) (d':=C.d) (od:=C.dm) (m':=C.m) (c':=C.c) (v':=C.v) (ij:=C.wt) (ig:=C.ws) (kO:=C.γ) (kg:=C.dn) (jI:=none) K e;change lr J (C.give k)+iB J C.v C.d+12=lr J C+iB J C.v C.d+11 at R;omega
 ·have⟨md,e'⟩:=h.ru k H;rw[e]at e';cases e';rfl
def iE.hand(J:iA)(C:iE E)(k x i:Nat):=C.wk k (.at (.ld x) .run) (J.sends C.L (i+1)) .run C.m C.c C.v C.wt C.ws C.γ C.dn C.tok
theorem ua:(i<J.gq.length/\J.sends L i=.send L i)\/(¬i<J.gq.length/\J.sends L i=.close L 0):=by
 unfold iA.sends;by_cases Y:i<J.gq.length
 ·simp_all
 ·simp_all
theorem mU.early{d:jq}{v e2 e0:Nat}(h:mU d v wt ws e2 e0)(hw:¬yi d):wt=0/\ws=0/\e2=0/\e0=0:=by
 rcases h with y|y
 ·omega
 ·simp_all
theorem CI.hand{x:Nat}{md:Md}(h:CI J gT C)(F:0<J.n)(N:J.n<=8)(hk:k<C.j)(e:C.ks k=.at .recv md)(hd:C.d=.send C.L i)(O:J.gq[i]?=some x):CI J gT (C.hand J k x i)/\mu J (C.hand J k x i)<mu J C:=by
 have R:k<J.n:=az hk h.jn;have H:=h.nI;rw[hd]at H;have B:Lock.Inv (Lock.put (fun i=>iN (C.ks i)) k (iN (gV.at (.ld x) .run:gV E))) J.n C.m C.c:=
  Lock.sy h.lock R (p:=.out) (by show iN (C.ks k)=.out;rw[e];rfl) trivial rfl rfl rfl rfl rfl rfl rfl rfl
 refine⟨h.wk hk e nofun B (fun i I=>.inr ⟨h.Jb e nofun I,I,rfl⟩) nofun (fun i _ I=>I) (fun Q P D=>by cases D;exact⟨nofun,fun y=>by rcases y with y|y<;>cases y⟩) ⟨nofun,nofun,nofun⟩ (fun y=>?_) h.fold ?_ (fun S D U=>?_) (fun M=>M.elim) ?_ ?_ nofun nofun nofun (fun v0 D=>by rcases ua (J:=J) (L:=C.L) (i:=i+1)with⟨_,Y⟩|⟨_,Y⟩<;>rw[Y]at D<;>cases D),wX N h.c1 ?_⟩
 ·have s1:r4 J (J.sends C.L (i+1))=i+1:=by
   rcases ua (J:=J) (L:=C.L) (i:=i+1)with⟨K,Y⟩|⟨K,Y⟩<;>rw[Y]
   ·rfl
   ·show J.gq.length=i+1
    have:=H.2.2;omega
  rw[s1,hd];show C.dn.count y+(if x=y then 1 else 0)+(J.gq.take i).count y=C.dn.count y+0+(J.gq.take (i+1)).count y
  rw[List.take_add_one,O,cv];show _=_+(_+List.count y [x])
  rw[cw,cx];simp only[beq_iff_eq];omega
 ·rw[hd];rcases ua (J:=J) (L:=C.L) (i:=i+1)with⟨K,Y⟩|⟨K,Y⟩<;>rw[Y]<;>rfl
 ·rw[hd]at U;have⟨a1,a2,a3,a4⟩:=U.early id;rcases ua (J:=J) (L:=C.L) (i:=i+1)with⟨K,Y⟩|⟨K,Y⟩<;>rw[Y]<;>exact .inl ⟨a1,a2,a3,a4,id,fun y=>y.elim⟩
 ·rw[hd];exact ar _
 ·rcases ua (J:=J) (L:=C.L) (i:=i+1)with⟨K,Y⟩|⟨K,Y⟩<;>rw[Y]
  ·exact⟨rfl,H.2.1,K⟩
  ·exact⟨rfl,H.2.1,F⟩
 ·have K:=vZ (C:=C) (J:=J) (s':=.at (.ld x) .run) (d':=J.sends C.L (i+1)) (od:=.run) (m':=C.m) (c':=C.c) (v':=C.v) (ij:=C.wt) (ig:=C.ws) (kO:=C.γ) (kg:=C.dn) (jI:=C.tok) R e;change lr J (C.hand J k x i)+iB J C.v C.d+7=lr J C+iB J C.v (J.sends C.L (i+1))+17 at K;have:=H.2.2;rw[hd]at K;rcases ua (J:=J) (L:=C.L) (i:=i+1)with⟨Y,A⟩|⟨Y,A⟩<;>rw[A]at K<;>simp only[iB]at K<;>omega
theorem CI.shut{md:Md}(h:CI J gT C)(H:J.n<=8)(hk:k<C.j)(e:C.ks k=.at .recv md)(Y:k<iT J C.d):CI J gT (C.w1 k (.at .wr .run))/\mu J (C.w1 k (.at .wr .run))<mu J C:=
 ⟨h.quiet hk e rfl (fun y=>rfl) nofun nofun ⟨nofun,fun y=>by simp_all⟩ (fun _=>Y) nofun nofun,Dg H h.c1 (az hk h.jn) e (by show 6<7;omega)⟩
theorem CI.slip{s s':gV E}(h:CI J gT C)(hk:k<C.j)(e:C.ks k=s)(Z:iN s=.out)(F:iN s'=.out)(ne:s'≠.no)(H:∀pc md,s'≠.at pc md)(V:∀y,qy y s=0)(G:∀γ md,s≠.at (.ur γ) md)
  (pq:v'+kM s'=C.v+kM s)(ph:∀R Y,mU C.d C.v C.wt C.ws (R+jh s) (Y+ji s)->mU C.d v' ij ig (R+jh s') (Y+ji s'))(O:Gone s)(M:∀i n,s'=.gX i n->i<=4)(N:v'<=C.v):CI J gT (C.wk k s' C.d C.dm C.m C.c v' ij ig C.γ C.dn C.tok):=by
 refine h.wk hk e ne ?_ (fun i K=>.inr ⟨?_,K,rfl⟩) (fun γ md e'=>absurd e' (H _ _)) (fun i _ K=>K) (fun pc md e'=>absurd e' (H _ _)) h.po (fun y=>?_) h.fold (by omega) ph (fun _=>h.gone k (by simp_all)) (ak _) h.nI (fun p x md e'=>absurd e' (H _ _)) (fun p md e'=>absurd e' (H _ _)) M (fun v0 Y=>⟨(h.w2 v0 Y).1,bg N (h.w2 v0 Y).2⟩)
 ·have:iN s'=(fun i=>iN (C.ks i)) k:=by simp_all
  rw[this,Cv];exact h.lock
 ·rintro rfl;have⟨D,e'⟩:=h.ru i K;rw[e]at e';simp_all
 ·have:qy y s'=0:=by
   cases s' with
   |«at» pc md=>exact absurd rfl (H pc md)
   |_=>rfl
  simp_all
end
end Ph
namespace Ph
open Conc Ren
section
variable(E:Env)(RO:Nat->Prop)(b:Nat)
def Seen(B:Nat)(op:aY):=op.act.low B/\∀a,op.act≠.mark (.release a)
def gi(b:Nat)
 |0=>0
 |k+1=>b+k
open Classical in
def mC (XX:Nat->Nat->Prop) (a:Nat):tv:=if RO a then .ro else if a=E.Mp then .pr else if h:∃i,XX i a then .own (gi b (bN h))else .no
open Classical in
def mL (XX:Nat->Nat->Prop):Loc->tv
 |.cell a=>if E.U a.block a.off then .at else mC E RO b XX a.block
 |.obj a=>mC E RO b XX a
 |_=>.no
end
section
variable{E:Env}{RO:Nat->Prop}{b:Nat}{XX vn:Nat->Nat->Prop}
theorem aeD{a:Nat}(h:RO a):mC E RO b XX a=.ro:=by unfold mC;simp_all
theorem H8(h:¬RO E.Mp):mC E RO b XX E.Mp=.pr:=by unfold mC;simp_all
theorem Qh{a:Nat}(h:¬RO a)(H:a≠E.Mp)(Y:XX i a)(R:∀i',XX i' a->i'=i):mC E RO b XX a=.own (gi b i):=by
 unfold mC;rw[if_neg h,if_neg H,dif_pos ⟨i,Y⟩,R _ (Classical.choose_spec (⟨i,Y⟩:∃i,XX i a))]
theorem GD{a:Nat}(h:∀i,vn i a↔XX i a):mC E RO b vn a=mC E RO b XX a:=by
 have:=funext fun i=>propext (h i);have key:∀p p':Nat->Prop,p'=p->(open Classical in(if RO a then tv.ro else if a=E.Mp then .pr else if h:∃i,p' i then .own (gi b (bN h))else .no))=(open Classical in(if RO a then tv.ro else if a=E.Mp then .pr else if h:∃i,p i then .own (gi b (bN h))else .no)):=by simp
 exact key _ _ this
theorem Ol{B:Nat}(h:∀i a,a<B->(vn i a↔XX i a)){l:Loc}(Y:l.low B):mL E RO b vn l=mL E RO b XX l:=by
 cases l with
 |cell a=>simp[mL];rw[GD fun i=>h i _ Y]
 |obj a=>exact GD fun i=>h i _ Y
 |_=>rfl
theorem Pf:∀l,l.isMemory=false->mL E RO b XX l=.no
 |.cell _,h=>by cases h
 |.obj _,h=>by cases h
 |.output,_=>rfl
 |.goroutines,_=>rfl
 |.mark _,_=>rfl
def ry(E:Env):Loc->Prop
 |.cell a=>E.U a.block a.off
 |_=>False
theorem Q8(a:Nat):mC E RO b XX a≠.at:=by
 unfold mC;split
 ·nofun
 ·split
  ·nofun
  ·split<;>nofun
theorem Qi{l:Loc}(h:mL E RO b XX l=.at):ry E l:=by
 cases l with
 |cell a=>
  simp only[mL]at h;split at h
  ·assumption
  ·exact absurd h (Q8 _)
 |obj a=>exact absurd h (Q8 _)
 |_=>cases h
theorem XE{op:aY}{B:Nat}{x:Touch}(h:op.act.low B)(Y:op.act.touch?=some x):x.loc.low B:=by
 have⟨g,fn,pos,act⟩:=op;cases act with
 |access e=>simp[aI,a_]at Y;subst Y;exact h
 |mark m=>
  cases m<;>simp[aI,a_]at Y<;>first|(subst Y;exact h)|cases Y
 |_=>simp[aI]at Y
variable{j:Nat}{jb:Loc->Prop}{t:aB}{tok:Option Nat}{rel:Nat->Option Nat}{w w1:af}{S X S1 X1:Nat->Prop}{es:Array bj}{i:Nat}{fn:au}{pos:String}
theorem pH{g:Nat}{op:aY}(h:op∈ai g fn pos es):∃e∈es,op={g,fn,pos,act:=.ofEvent e}:=by
 rw[ofEvents_eq]at h;obtain⟨e,Y,rfl⟩:=Array.mem_map.1 h;exact⟨e,Y,rfl⟩
theorem acR{mu:Addr}(hd:j9 E.U S X w w1 es S1 X1)(g:Nat)(cls:Loc->tv)(F:∀a:Nat,S a->(cls (.obj a)=.ro/\¬X a)\/(cls (.obj a)=.pr/\tok=some g)\/cls (.obj a)=.own g)(M:∀a:Addr,¬E.U a.block a.off->cls (.cell a)=cls (.obj a.block))(N:∀a,w.heap.size<=a->a<w1.heap.size->cls (.obj a)=.own g):
  ∀op∈ai g fn pos es,OkOp mu wg cls tok g op:=by
 intro op gh;obtain⟨e,A,rfl⟩:=pH gh;have⟨loc,wr,C⟩:=e;have fin:∀{a:Nat} {l:Loc},cls l=cls (.obj a)->((S a/\(wr=true->X a))\/(w.heap.size<=a/\a<w1.heap.size))->(cls l=.ro/\wr=false)\/(cls l=.pr/\tok=some g)\/cls l=.own g:=by
  intro a l B h;rw[B];rcases h with⟨D,I⟩|⟨D,I⟩
  ·rcases F a D with⟨y,z⟩|y|y
   ·simp_all
   ·exact .inr (.inl y)
   ·exact .inr (.inr y)
  ·exact .inr (.inr (N a D I))
 rcases hd.ev _ A with⟨a,Y,H,h⟩|⟨a,Y,H,h⟩|⟨m,Y,h⟩|Y
 ·simp only at Y H;subst Y H;refine⟨rfl,nofun,nofun,fun x K=>?_⟩;simp only[aD,aI,a_]at K;subst K;rcases fin (M a (hd.J_ _ A a rfl)) h with y|y|y
  ·simp_all
  ·exact .inr (.inr (.inr (.inr (.inl y))))
  ·simp_all
 ·simp only at Y H;subst Y H;have R:aD ⟨.obj a,wr,false⟩=.access ⟨.obj a,wr,false⟩:=by cases wr<;>rfl
  refine⟨rfl,by rw[R];nofun,by rw[R];nofun,fun x K=>?_⟩;simp only[R,aI,a_]at K;subst K;rcases fin rfl h with y|y|y
  ·exact .inr (.inr (.inr (.inl y)))
  ·exact .inr (.inr (.inr (.inr (.inl y))))
  ·simp_all
 ·simp only at Y;subst Y;refine⟨rfl,?_,?_,fun x K=>?_⟩
  ·rcases h with rfl|⟨f,rfl⟩<;>nofun
  ·rcases h with rfl|⟨f,rfl⟩<;>nofun
  ·rcases h with rfl|⟨f,rfl⟩<;>simp[aD,aI]at K
 ·simp only at Y;subst Y;refine⟨rfl,nofun,nofun,fun x K=>?_⟩;simp only[aD,aI,a_]at K;subst K;exact .inl rfl
theorem acS(hd:j9 E.U S X w w1 es S1 X1)(g:Nat):∀op∈ai g fn pos es,∀a,op.act≠.mark (.release a):=by
 intro op gh a0;obtain⟨e,H,rfl⟩:=pH gh;have⟨loc,wr,R⟩:=e;rcases hd.ev _ H with⟨a,Y,K,h⟩|⟨a,Y,K,h⟩|⟨m,Y,h⟩|Y
 ·subst Y K;nofun
 ·subst Y K;have D:aD ⟨.obj a,wr,false⟩=.access ⟨.obj a,wr,false⟩:=by cases wr<;>rfl
  simp_all
 ·subst Y;rcases h with rfl|⟨f,rfl⟩<;>nofun
 ·subst Y;nofun
theorem aeE(hd:j9 E.U S X w w1 es S1 X1)(H:∀a,S a->a<w.heap.size)(g:Nat):∀op∈ai g fn pos es,op.act.low w1.heap.size:=by
 intro op gh;obtain⟨e,R,rfl⟩:=pH gh;have⟨loc,wr,A⟩:=e;have I:=hd.grow;rcases hd.ev _ R with⟨a,Y,K,h⟩|⟨a,Y,K,h⟩|⟨m,Y,h⟩|Y
 ·subst Y K;show a.block<_
  rcases h with⟨h,_⟩|h
  ·have:=H _ h;omega
  ·omega
 ·subst Y K;have D:aD ⟨.obj a,wr,false⟩=.access ⟨.obj a,wr,false⟩:=by cases wr<;>rfl
  rw[D];show a<_
  rcases h with⟨h,_⟩|h
  ·have:=H _ h;omega
  ·omega
 ·subst Y;rcases h with rfl|⟨f,rfl⟩<;>trivial
 ·subst Y;trivial
theorem Qj(hd:j9 E.U S X w w1 es S1 X1)(d:Nat):aK d es=d:=by
 refine bT (fun e H=>?_) d;have⟨loc,wr,D⟩:=e;rcases hd.ev _ H with⟨a,Y,K,h⟩|⟨a,Y,K,h⟩|⟨m,Y,h⟩|Y<;>simp only at Y<;>subst Y
 ·simp
 ·simp
 ·rcases h with rfl|⟨f,rfl⟩<;>exact⟨nofun,nofun⟩
 ·simp
theorem Qk(hd:j9 E.U S X w w1 es S1 X1)(Y:∀a,S a->a<w.heap.size)(g:Nat):∀op∈ai g fn pos es,Seen w1.heap.size op:=fun op gh=>⟨aeE hd Y g op gh,acS hd g op gh⟩
theorem Hi{mu:Addr}(h:Env.EvA bl es)(R:bl=E.Fd\/bl=E.Wg)(g:Nat):∀op∈ai g fn pos es,OkOp mu wg (mL E RO b XX) tok g op:=by
 intro op gh;obtain⟨e,H,rfl⟩:=pH gh;have cell:∀(a:Addr) (wr:Bool),a.block=bl->a.off<2->OkOp mu wg (mL E RO b XX) tok g {g,fn,pos,act:=.ofEvent ⟨.cell a,wr,true⟩}:=by
  intro a wr D K;refine⟨rfl,nofun,nofun,fun x Y=>?_⟩;simp[aD,aI,a_]at Y;subst Y;refine .inr (.inl ⟨?_,rfl⟩);have A:E.U a.block _:=⟨by omega,K⟩;simp[mL];simp_all
 rcases h with h|⟨o,I,rfl⟩
 ·obtain⟨a,wr,rfl,D,K,_⟩:=h e H;exact cell a wr D K
 ·simp[aP,aM,aL,aN,or_false]at H;rcases H with rfl|rfl|rfl|rfl
  ·exact⟨rfl,nofun,nofun,fun x Y=>by simp[aD,aI]at Y⟩
  ·simp_all
  ·simp_all
  ·exact⟨rfl,nofun,nofun,fun x Y=>by simp[aD,aI]at Y⟩
theorem aeF{B:Nat}(h:Env.EvA bl es)(H:bl<B)(g:Nat):∀op∈ai g fn pos es,op.act.low B:=by
 intro op gh;obtain⟨e,Y,rfl⟩:=pH gh;rcases h with h|⟨o,R,rfl⟩
 ·obtain⟨a,wr,rfl,K,D,_⟩:=h e Y;show a.block<B
  omega
 ·simp[aP,aM,aL,aN,or_false]at Y;rcases Y with rfl|rfl|rfl|rfl
  ·trivial
  ·exact H
  ·exact H
  ·trivial
theorem Hj{B:Nat}(h:Env.EvA bl es)(H:bl<B)(g:Nat):∀op∈ai g fn pos es,Seen B op:=by
 intro op gh;refine⟨aeF h H g op gh,fun a0=>?_⟩;obtain⟨e,Y,rfl⟩:=pH gh;rcases h with h|⟨o,R,rfl⟩
 ·obtain⟨a,wr,rfl,K,D,_⟩:=h e Y;nofun
 ·simp[aP,aM,aL,aN,or_false]at Y;rcases Y with rfl|rfl|rfl|rfl<;>nofun
theorem Cw(h:Env.EvA bl es)(d:Nat):aK d es=d:=by
 rcases h with h|⟨o,K,rfl⟩
 ·refine bT (fun e Y=>?_) d;obtain⟨a,wr,rfl,_⟩:=h e Y;simp_all
 ·simp[aP,aK]
theorem Xf(h:Env.EvA bl es){g:Nat}(hd:0<Deaf t g):∀i x,t.size<=i->touchAt (t++ai g fn pos es) i=some x->x.loc.isMemory=true->x.kind=.atomic/\¬(t++ai g fn pos es).counts i/\∃a:Addr,x.loc=.cell a/\a.block=bl/\a.off<2:=by
 intro i x Q O X;have⟨op,R,H⟩:=touch_of O;have F:=by
  rw[Array.getElem?_append]at R;simpa[Nat.not_lt.2 Q]using R
 have S:=F;rw[ofEvents_eq,bJ]at F;obtain⟨e,K,rfl⟩:=bS.1 F;have D:i-t.size<=es.size:=by
  rcases Nat.lt_or_ge (i-t.size) es.size with h'|h'
  ·omega
  ·simp_all
 have B:∀n,n<=es.size->(∃e,es[n]?=some e/\∃a wr,e=⟨.cell a,wr,true⟩)->0<aK (Deaf t g) (es.extract 0 n):=by
  intro n Z Y;rcases h with h|⟨o,R,rfl⟩
  ·rw[bT (fun e K=>?_)]
   ·exact hd
   ·obtain⟨a,wr,rfl,_⟩:=h e (by
     obtain⟨k,hk,rfl⟩:=bZ.1 K;simp only[Array.getElem_extract];exact Array.getElem_mem _)
    exact⟨nofun,nofun⟩
  ·have E:(aP ⟨bl,o,none⟩).size=4:=rfl;obtain⟨e,K,a,wr,rfl⟩:=Y;have:n=0\/n=1\/n=2\/n=3\/n=4:=by omega
   rcases this with rfl|rfl|rfl|rfl|rfl
   ·simp[aP]at K
   ·simp[aP,aK]
   ·simp[aP,aK]
   ·simp[aP]at K
   ·simp[aP]at K
 have Y:∃a wr,e=⟨.cell a,wr,true⟩/\a.block=bl/\a.off<2:=by
  rcases h with h|⟨o,J,rfl⟩
  ·obtain⟨a,wr,rfl,I,A,_⟩:=h e (bM K);exact⟨a,wr,rfl,I,A⟩
  ·have:=bM K;simp only[aP,aM,aL,aN,or_false]at this;rcases this with rfl|rfl|rfl|rfl
   ·simp[aD,aI]at H
   ·exact⟨_,_,rfl,rfl,J⟩
   ·simp_all
   ·simp[aD,aI]at H
 obtain⟨a,wr,rfl,I,A⟩:=Y;have L:=by
  simp only[aD,aI,a_]at H;exact H.symm
 subst L;refine⟨rfl,?_,a,rfl,I,A⟩;rintro⟨y,T,_,hk⟩;have:=Option.some.inj (T.symm.trans O);subst this;rcases hk with hk|⟨M,N,U⟩
 ·exact hk rfl
 ·have C:M=g:=by simp[Trace.g?,R]at N;exact N.symm
  subst C;have P:=Go.Conc.deaf_inside t M fn pos es (i-t.size) D;rw[show t.size+(i-t.size)=i by omega,U]at P;have V:=B _ D ⟨_,K,a,wr,rfl⟩;omega
end
end Ph
namespace Ph
open Conc Ren
open Lock (Word PC Mv bn iP bw dw)
open ConcN (sumTo upd sumTo_upd upd_ne upd_same)
structure gy where
 P:Program
 E:Env
 J:iA
 b:Nat
 A:Nat->(Nat->Prop)->(Nat->Prop)->ah->af->Prop
 kq:Nat->ah->af->Prop
 Fin:(Nat->Prop)->(Nat->Prop)->ah->af->Prop
 RO:Nat->Prop
 jb:Loc->Prop
 ok:Nat->Prop
 gT:E.Γ
 w0:af
structure gy.Laws(Q:gy):Prop where
 n0:0<Q.J.n
 n8:Q.J.n<=8
 b0:0<Q.b
 Kx:∀x∈Q.J.gq,Q.ok x
 fw:Q.E.Fd≠Q.E.Wg
 mf:Q.E.Mp≠Q.E.Fd
 mw:Q.E.Mp≠Q.E.Wg
 rf:Q.RO Q.E.Fd
 rw:Q.RO Q.E.Wg
 rm:¬Q.RO Q.E.Mp
 Ky:∀l,ry Q.E l->Q.jb l
 Jc:∀{c:Nat} {S X:Nat->Prop} {g:ah} {w:af},Q.A c S X g w->g.status=.running/\g.offers=none
 Jd:∀{c:Nat} {S X:Nat->Prop} {g:ah} {w:af},Q.A c S X g w->∀w2,ay Q.P false g w2=.comm g #[bm c Q.E.zc] true (.recv true) w2 #[]
 Js:∀{c:Nat} {S X:Nat->Prop} {g:ah} {w w2:af} {x:Nat},Q.A c S X g w->gR Q.E.U S w w2->Q.ok x->∀k,Q.E.Tree Q.P false (Q.E.jf Q.P (Q.A c) k (.ld x)) S X (Go.Conc.served g (recvd true (.int .i64 (x:Int)) true)) w2
 Sy:∀{c:Nat} {S X:Nat->Prop} {g:ah} {w w2:af},Q.A c S X g w->gR Q.E.U S w w2->∀k,Q.E.Tree Q.P false (Q.E.jf Q.P (Q.A c) k .wr) S X (Go.Conc.served g (recvd true Q.E.zc false)) w2
 Eg:∀{c:Nat} {g:ah} {w:af},Q.kq c g w->Q.E.Tree Q.P false (Q.A c) Q.RO (fun _=>False) g w
def Je(c:Nat)(z:aj):Md->ah->ah
 |.run,g=>g
 |.blk,g=>{g with status:=.blocked}
 |.ic,g=>bC g #[bm c z] (.recv true)
 |.jU,g=>{bC g #[bm c z] (.recv true)with status:=.running}
namespace gy
variable(Q:gy)
def ch(C:iE Q.E)(k:Nat):=C.L.getD k 0
abbrev DS(fu:Nat)(d:jq):=Q.E.lD Q.P Q.J Q.kq Q.Fin fu d
abbrev WS(c fu:Nat)(pc:Q.E.kF):=Q.E.jf Q.P (Q.A c) fu pc
def tA(c:Nat)(gs:Array ah)(t:aB)(k:Nat)(nd:Nd)(fu:Nat):gV Q.E->Prop
 |.no=>False
 |.at pc md=>gs[Q.b+k]?=some (Je c Q.E.zc md nd.g)/\Tz Q.P false Q.E.U (Q.WS c fu pc) nd.S nd.X nd.g nd.w/\(md≠.run->Q.WS c fu pc nd.S nd.X nd.g nd.w)
 |.gX i n=>∃g,gs[Q.b+k]?=some g/\Env.nZ Q.P (Q.E.ti Q.P i) n g
 |.qt q=>∃g,gs[Q.b+k]?=some g/\aT Q.P q (Deaf t (Q.b+k)) g
def wY(gs:Array ah)(nd:Nd)(fu:Nat)(L:List Nat)(d:jq):Md->Prop
 |.run=>gs[0]?=some nd.g/\Tz Q.P true Q.E.U (Q.DS fu d) nd.S nd.X nd.g nd.w
 |.blk=>gs[0]?=some {nd.g with status:=.blocked}/\nd.g.offers=none/\nd.g.status=.running/\Q.DS fu d nd.S nd.X nd.g nd.w
 |.ic=>Q.DS fu d nd.S nd.X nd.g nd.w/\∃i c x z Y,d=.send L i/\fu=Y+1/\L[i%Q.J.n]?=some c/\Q.J.gq[i]?=some x/\gs[0]?=some (bC nd.g #[scase c (.int .i64 (x:Int)) z] .send)/\
   ∀w2,gR Q.E.U nd.S nd.w w2->Q.E.Tree Q.P true (Q.DS Y (Q.J.sends L (i+1))) nd.S nd.X (Go.Conc.served nd.g aH) w2
 |.jU=>False
def n_(nd:Nat->Nd)(j:Nat)(L:List Nat)(i a:Nat):=(i<=j/\(nd i).X a)\/(i=0/\a∈L)
structure Sets(nd:Nat->Nd)(j:Nat)(L:List Nat)(tok:Option Nat)(B:Nat):Prop where
 wZ:∀i i',i<=j->i'<=j->i≠i'->∀a,(nd i).X a->¬(nd i').S a
 low:∀i,i<=j->∀a,(nd i).S a->a<B
 sub:∀i,i<=j->∀a,(nd i).S a->Q.RO a\/(nd i).X a
 mG:∀i,i<=j->∀a,Q.RO a->¬(nd i).X a
 xs:∀i,i<=j->∀a,(nd i).X a->(nd i).S a
 mp:∀i,i<=j->(nd i).S Q.E.Mp->∃k,i=k+1/\tok=some k
 nB:∀a,Q.RO a->a<B
 tC:Q.E.Mp<B
 nJ:∀c∈L,c<B/\¬Q.RO c/\c≠Q.E.Mp/\∀i,i<=j->¬(nd i).S c
structure Wd(C:iE Q.E)(w:af):Prop where
 mu:Q.E.MuAt w C.m C.c
 wg:Q.E.WgAt w C.v C.wt C.ws
 map:C.tok=none->Q.E.mz C.γ (w.heap[Q.E.Mp]?)
 shut:∀k,k<C.j->k<iT Q.J C.d->∃s,w.heap[Q.ch C k]?=some (.chan 0 #[] true s s false)
 opn:∀k,k<C.j->¬k<iT Q.J C.d->∃s,nR w (Q.ch C k) s
 tape:w.tape=Q.w0.tape
 out:w.output=Q.w0.output
def w_{E:Env}:gV E->Prop
 |.gX _ _=>True
 |.qt _=>True
 |_=>False
abbrev cls (nd:Nat->Nd) (j:Nat) (L:List Nat):=mL Q.E Q.RO Q.b (n_ nd j L)
structure MI(C:iE Q.E)(nd:Nat->Nd)(fu:Nat->Nat)(gs:Array ah)(w:af)(t:aB)(q:Nat->Nat)(rel:Nat->Option Nat):Prop where
 size:gs.size=Q.b+C.j
 g0:Q.wY gs (nd 0) (fu 0) C.L C.d C.dm
 wk:∀k,k<C.j->Q.tA (Q.ch C k) gs t k (nd (k+1)) (fu (k+1)) (C.ks k)
 old:∀i g,0<i->i<Q.b->gs[i]?=some g->aT Q.P (q i) (Deaf t i) g
 fuel:∀i,i<=C.j->mu Q.J C<=fu i
 nK:∀i,i<=C.j->gR Q.E.U (nd i).S (nd i).w w
 sets:Q.Sets nd C.j C.L C.tok w.heap.size
 wd:Q.Wd C w
 tr:PT Q.b C.j Q.E.mu Q.E.st Q.jb (Q.cls nd C.j C.L) t (C.tok.map (Q.b+ ·)) rel
 deaf0:Deaf t 0=oV C.d
 mM:∀k,k<C.j->(∀q,C.ks k≠.qt q)->Deaf t (Q.b+k)=Ah (C.ks k)
 above:∀i,Q.b+C.j<=i->Deaf t i=0
 oZ:∀k,k<C.j->((∃p,rel (Q.b+k)=some p)↔w_ (C.ks k))
 uY:∀k,C.j<=k->rel (Q.b+k)=none
 seen:∀op∈t,Seen w.heap.size op
end gy
section
variable{Q:gy}{nd:Nat->Nd}{j:Nat}{L:List Nat}{tok:Option Nat}{B:Nat}{C:iE Q.E}{w w1:af}{gs ku:Array ah}{t t':aB}
theorem gy.Sets.uniq(h:Q.Sets nd j L tok B){a:Nat}(H:gy.n_ nd j L i a)(R:gy.n_ nd j L i' a):i=i':=by
 rcases H with⟨a1,a2⟩|⟨rfl,a2⟩<;>rcases R with⟨Y,K⟩|⟨rfl,K⟩
 ·by_cases e:i=i'
  ·exact e
  ·exact absurd (h.xs i' Y a K) (h.wZ i i' a1 Y e a a2)
 ·exact absurd (h.xs i a1 a a2) ((h.nJ a K).2.2.2 i a1)
 ·exact absurd (h.xs i' Y a K) ((h.nJ a a2).2.2.2 i' Y)
 ·rfl
theorem gy.Sets.own(h:Q.Sets nd j L tok B){a:Nat}(Y:i<=j)(H:(nd i).X a)(R:a≠Q.E.Mp):mC Q.E Q.RO Q.b (gy.n_ nd j L) a=.own (gi Q.b i):=
 Qh (fun y=>h.mG i Y a y H) R (.inl ⟨Y,H⟩) fun i' h'=>h.uniq h' (.inl ⟨Y,H⟩)
theorem gy.Sets.held(h:Q.Sets nd j L tok B)(H:¬Q.RO Q.E.Mp){a:Nat}(Y:i<=j)(R:(nd i).S a):(Q.cls nd j L (.obj a)=.ro/\¬(nd i).X a)\/(Q.cls nd j L (.obj a)=.pr/\tok.map (Q.b+ ·)=some (gi Q.b i))\/Q.cls nd j L (.obj a)=.own (gi Q.b i):=by
 rcases h.sub i Y a R with y|y
 ·exact .inl ⟨aeD y,h.mG i Y a y⟩
 ·by_cases K:a=Q.E.Mp
  ·subst K;obtain⟨k,rfl,rfl⟩:=h.mp i Y R;exact .inr (.inl ⟨H8 H,rfl⟩)
  ·exact .inr (.inr (h.own Y y K))
theorem acT{a:Addr}(h:¬Q.E.U a.block a.off):Q.cls nd j L (.cell a)=Q.cls nd j L (.obj a.block):=by
 simp[mL];simp_all
theorem gy.Sets.did(h:Q.Sets nd j L tok w.heap.size)(N:i<=j){H:Nd}(hd:j9 Q.E.U (nd i).S (nd i).X w w1 es H.S H.X):Q.Sets (upd nd i H) j L tok w1.heap.size:=by
 have us:upd nd i H i=H:=upd_same _ _ _;have un:∀k,k≠i->upd nd i H k=nd k:=fun k hk=>upd_ne _ _ hk;have R:=hd.grow;have S':∀k a,k<=j->(upd nd i H k).S a->(nd k).S a\/(k=i/\w.heap.size<=a/\a<w1.heap.size):=by
  intro k a hk Y;by_cases e:k=i
  ·subst e;rw[us]at Y;exact((hd.held a).1 Y).imp id fun y=>⟨rfl,y⟩
  ·simp_all
 have X':∀k a,k<=j->(upd nd i H k).X a->(nd k).X a\/(k=i/\w.heap.size<=a/\a<w1.heap.size):=by
  intro k a hk Y;by_cases e:k=i
  ·subst e;rw[us]at Y;exact((hd.may a).1 Y).imp id fun y=>⟨rfl,y⟩
  ·simp_all
 refine⟨fun k k' hk D I a K Y=>?_,fun k hk a Y=>?_,fun k hk a Y=>?_,fun k hk a hr K=>?_,fun k hk a K=>?_,fun k hk Y=>?_,fun a F=>az (h.nB a F) R,az h.tC R,fun c J=>?_⟩
 ·rcases X' k a hk K with y|⟨rfl,y⟩<;>rcases S' k' a D Y with z|⟨rfl,z⟩
  ·exact h.wZ k k' hk D I a y z
  ·have:=h.low k hk a (h.xs k hk a y);omega
  ·have:=h.low k' D a z;omega
  ·omega
 ·rcases S' k a hk Y with y|⟨_,y⟩
  ·exact az (h.low k hk a y) R
  ·omega
 ·by_cases e:k=i
  ·subst e;rw[us]at Y⊢;rcases(hd.held a).1 Y with y|y
   ·exact(h.sub k hk a y).imp id fun z=>(hd.may a).2 (.inl z)
   ·exact .inr ((hd.may a).2 (.inr y))
  ·rw[un k e]at Y⊢;exact h.sub k hk a Y
 ·rcases X' k a hk K with y|⟨_,y⟩
  ·exact h.mG k hk a hr y
  ·have:=h.nB a hr;omega
 ·by_cases e:k=i
  ·subst e;rw[us]at K⊢;exact(hd.held a).2 (((hd.may a).1 K).imp (h.xs k hk a) id)
  ·rw[un k e]at K⊢;exact h.xs k hk a K
 ·rcases S' k _ hk Y with y|⟨_,y⟩
  ·exact h.mp k hk y
  ·have:=h.tC;omega
 ·have⟨A,B,C,M⟩:=h.nJ c J;refine⟨az A R,B,C,fun k hk Y=>?_⟩;rcases S' k c hk Y with y|⟨_,y⟩
  ·simp_all
  ·omega
theorem gy.agp(h:Q.Sets nd j L tok w.heap.size)(H:i<=j){es:Array _}{Y:Nd}(hd:j9 Q.E.U (nd i).S (nd i).X w w1 es Y.S Y.X):∀k a,a<w.heap.size->(gy.n_ (upd nd i Y) j L k a↔gy.n_ nd j L k a):=by
 intro k a K;unfold gy.n_;by_cases e:k=i
 ·subst e;rw[upd_same];have:Y.X a↔(nd k).X a:=⟨fun y=>((hd.may a).1 y).resolve_right fun z=>by omega,fun y=>(hd.may a).2 (.inl y)⟩;rw[this]
 ·rw[upd_ne _ _ e]
theorem gy.Sets.same(h:Q.Sets nd j L tok B){n':Nd}(R:n'.S=(nd i).S)(hX:n'.X=(nd i).X):Q.Sets (upd nd i n') j L tok B:=by
 have Y:∀k,(upd nd i n' k).S=(nd k).S:=fun k=>by
  by_cases e:k=i
  ·subst e;rw[upd_same];exact R
  ·rw[upd_ne _ _ e]
 have K:∀k,(upd nd i n' k).X=(nd k).X:=fun k=>by
  by_cases e:k=i
  ·subst e;rw[upd_same];exact hX
  ·rw[upd_ne _ _ e]
 refine⟨fun k k' hk H I a=>?_,fun k hk a=>?_,fun k hk a=>?_,fun k hk a=>?_,fun k hk a=>?_,fun k hk=>?_,h.nB,h.tC,fun c D=>?_⟩
 ·rw[K,Y];exact h.wZ k k' hk H I a
 ·rw[Y];exact h.low k hk a
 ·rw[K,Y];exact h.sub k hk a
 ·rw[K];exact h.mG k hk a
 ·rw[K,Y];exact h.xs k hk a
 ·rw[Y];exact h.mp k hk
 ·have⟨A,U,C,F⟩:=h.nJ c D;simp_all
theorem gy.CL{n':Nd}(hX:n'.X=(nd i).X):gy.n_ (upd nd i n') j L=gy.n_ nd j L:=by
 funext k a;unfold gy.n_;by_cases e:k=i
 ·subst e;rw[upd_same,hX]
 ·rw[upd_ne _ _ e]
theorem Ql(h:Q.Sets nd j L tok w.heap.size)(H:i<=j)(Y:i'<=j)(I:i≠i'){es:Array _}(hd:j9 Q.E.U (nd i).S (nd i).X w w1 es S1 X1):gR Q.E.U (nd i').S w w1:=
 ⟨fun a K=>.inl (hd.kept a (h.low i' Y a K) fun D=>h.wZ i i' H Y I a D K),hd.grow,hd.env⟩
theorem Q9{E:Env}{w1:af}{m m':Word}{c:Nat}(S:Nat->Prop)(h:E.MuAt w m c)(h':E.MuAt w1 m' c')(H:Env.Eff E.Fd w w1):gR E.U S w w1:=by
 refine⟨fun a _=>?_,aZ H.size.symm,H.env⟩;by_cases e:a=E.Fd
 ·subst e;refine .inr ⟨_,_,_,_,⟨0,.inl rfl,by omega⟩,h,h',rfl,fun i Y=>?_,fun i x Y K=>?_⟩
  ·match i with
   |0=>exact absurd ⟨.inl rfl,by omega⟩ Y
   |1=>exact absurd ⟨.inl rfl,by omega⟩ Y
   |i+2=>simp
  ·match i with
   |0=>simp at K;subst K;rfl
   |1=>simp at K;subst K;rfl
   |i+2=>exact absurd Y.2 (by omega)
 ·exact .inl (H.heap a e)
theorem H9{E:Env}{w1:af}{v:Nat}(S:Nat->Prop)(h:E.WgAt w v wt ws)(h':E.WgAt w1 v' ij ig)(H:Env.Eff E.Wg w w1):gR E.U S w w1:=by
 refine⟨fun a _=>?_,aZ H.size.symm,H.env⟩;by_cases e:a=E.Wg
 ·subst e;unfold Env.WgAt at h h';generalize((v *4294967296+wt))=z at h;refine .inr ⟨_,_,_,_,⟨0,.inr rfl,by omega⟩,h,h',rfl,fun i Y=>?_,fun i x Y K=>?_⟩
  ·match i with
   |0=>exact absurd ⟨.inr rfl,by omega⟩ Y
   |1=>exact absurd ⟨.inr rfl,by omega⟩ Y
   |i+2=>simp
  ·match i with
   |0=>simp at K;subst K;rfl
   |1=>simp at K;subst K;rfl
   |i+2=>exact absurd Y.2 (by omega)
 ·exact .inl (H.heap a e)
theorem vI{E:Env}{c:Nat}(Y:¬S c):gR E.U S w (w.setChan c 0 #[] cl s s false):=by
 refine⟨fun a K=>.inl ?_,by simp[bh],.refl _⟩;have:c≠a:=fun e=>Y (e▸K);simp[bh];simp_all
theorem gy.Wd.keep(h:Q.Wd C w)(hF:w1.heap[Q.E.Fd]?=w.heap[Q.E.Fd]?)(N:w1.heap[Q.E.Wg]?=w.heap[Q.E.Wg]?)(H:C.tok=none->w1.heap[Q.E.Mp]?=w.heap[Q.E.Mp]?)(R:∀k,k<C.j->w1.heap[Q.ch C k]?=w.heap[Q.ch C k]?)(M:w1.tape=w.tape)(F:w1.output=w.output):Q.Wd C w1:=by
 refine⟨?_,?_,fun e=>?_,fun k hk Y=>?_,fun k hk Y=>?_,M.trans h.tape,F.trans h.out⟩
 ·have:=h.mu;unfold Env.MuAt at this⊢;simp_all
 ·have:=h.wg;unfold Env.WgAt at this⊢;simp_all
 ·rw[H e];exact h.map e
 ·rw[R k hk];exact h.shut k hk Y
 ·have⟨s,K⟩:=h.opn k hk Y;exact⟨s,by unfold nR at K⊢;simp_all⟩
theorem qm(Y:C.L.length=C.j)(hk:k<C.j):Q.ch C k∈C.L:=by
 unfold gy.ch;simp_all
theorem gy.Wd.did(h:Q.Wd C w)(Y:Q.Sets nd C.j C.L C.tok w.heap.size)(R:Q.Laws)(F:C.L.length=C.j)(H:i<=C.j){es:Array _}(hd:j9 Q.E.U (nd i).S (nd i).X w w1 es S1 X1):Q.Wd C w1:=by
 refine h.keep (hd.kept _ (Y.nB _ R.rf) (Y.mG i H _ R.rf)) (hd.kept _ (Y.nB _ R.rw) (Y.mG i H _ R.rw)) (fun e=>hd.kept _ Y.tC fun K=>?_) (fun k hk=>?_) hd.tape hd.output
 ·obtain⟨k,_,A⟩:=Y.mp i H (Y.xs i H _ K);simp_all
 ·obtain⟨D,_,_,I⟩:=Y.nJ _ (qm F hk);exact hd.kept _ D fun K=>I i H (Y.xs i H _ K)
theorem gy.Wd.cfg{C':iE Q.E}(h:Q.Wd C w)(N:C'.m=C.m)(O:C'.c=C.c)(V:C'.v=C.v)(Z:C'.wt=C.wt)(G:C'.ws=C.ws)(H:C'.tok=none->C.tok=none/\C'.γ=C.γ)(R:C'.L=C.L)(F:C'.j=C.j)(M:iT Q.J C'.d=iT Q.J C.d):Q.Wd C' w:=by
 refine⟨by rw[N,O];exact h.mu,by rw[V,Z,G];exact h.wg,fun e=>by rw[(H e).2];exact h.map (H e).1,fun k hk Y=>?_,fun k hk Y=>?_,h.tape,h.out⟩
 ·unfold gy.ch;rw[R];exact h.shut k (F▸hk) (M▸Y)
 ·unfold gy.ch;rw[R];exact h.opn k (F▸hk) (M▸Y)
theorem gy.Wd.mv(h:Q.Wd C w)(R:Q.Laws)(F:Q.Sets nd C.j C.L C.tok w.heap.size)(M:C.L.length=C.j){m':Word}(H:Env.Eff Q.E.Fd w w1)(N:Q.E.MuAt w1 m' c'):Q.Wd {C with m:=m',c:=c'} w1:=by
 have K:∀k,k<C.j->w1.heap[Q.ch C k]?=w.heap[Q.ch C k]?:=fun k hk=>H.heap _ fun e=>(F.nJ _ (qm M hk)).2.1 (e▸R.rf);refine⟨N,?_,fun e=>?_,fun k hk Y=>?_,fun k hk Y=>?_,H.tape.trans h.tape,H.output.trans h.out⟩
 ·have:=h.wg;unfold Env.WgAt at this⊢;rw[H.heap _ fun e=>R.fw e.symm];omega
 ·rw[H.heap _ R.mf];exact h.map e
 ·show∃s,w1.heap[Q.ch C k]?=_
  rw[K k hk];exact h.shut k hk Y
 ·have⟨s,F⟩:=h.opn k hk Y;exact⟨s,by show w1.heap[Q.ch C k]?=_;rw[K k hk];exact F⟩
theorem gy.Wd.gp(h:Q.Wd C w)(R:Q.Laws)(F:Q.Sets nd C.j C.L C.tok w.heap.size)(M:C.L.length=C.j)(H:Env.Eff Q.E.Wg w w1)(N:Q.E.WgAt w1 v' ij ig):Q.Wd {C with v:=v',wt:=ij,ws:=ig} w1:=by
 have K:∀k,k<C.j->w1.heap[Q.ch C k]?=w.heap[Q.ch C k]?:=fun k hk=>H.heap _ fun e=>(F.nJ _ (qm M hk)).2.1 (e▸R.rw);refine⟨?_,N,fun e=>?_,fun k hk Y=>?_,fun k hk Y=>?_,H.tape.trans h.tape,H.output.trans h.out⟩
 ·have:=h.mu;unfold Env.MuAt at this⊢;rw[H.heap _ R.fw];omega
 ·rw[H.heap _ R.mw];exact h.map e
 ·show∃s,w1.heap[Q.ch C k]?=_
  rw[K k hk];exact h.shut k hk Y
 ·have⟨s,F⟩:=h.opn k hk Y;exact⟨s,by show w1.heap[Q.ch C k]?=_;rw[K k hk];exact F⟩
theorem gy.Wd.at(h:Q.Wd C w)(d:Nat):Q.Wd C (w.at d):=⟨h.mu,h.wg,h.map,h.shut,h.opn,h.tape,h.out⟩
theorem gy.tA.keep{c:Nat}{n:Nd}{fu:Nat}{s:gV Q.E}(h:Q.tA c gs t k n fu s)(H:ku[Q.b+k]?=gs[Q.b+k]?)(hd:Deaf t' (Q.b+k)=Deaf t (Q.b+k)):Q.tA c ku t' k n fu s:=by
 cases s with
 |no=>exact h
 |«at» pc md=>exact⟨H.trans h.1,h.2⟩
 |gX i n=>have⟨g,Y,K⟩:=h;exact⟨g,H.trans Y,K⟩
 |qt q=>have⟨g,Y,K⟩:=h;exact⟨g,H.trans Y,by simp_all⟩
theorem gy.wY.keep{n:Nd}{fu:Nat}{d:jq}{md:Md}(h:Q.wY gs n fu L d md)(H:ku[0]?=gs[0]?):Q.wY ku n fu L d md:=by
 cases md with
 |run=>exact⟨H.trans h.1,h.2⟩
 |blk=>exact⟨H.trans h.1,h.2⟩
 |ic=>
  have⟨K,i,c,x,z,Y,D,R,I,A,U,B⟩:=h;exact⟨K,i,c,x,z,Y,D,R,I,A,H.trans U,B⟩
 |jU=>exact h.elim
end
section
variable{Q:gy}{nd:Nat->Nd}{fu:Nat->Nat}{C C':iE Q.E}{w w':af}{gs ku:Array ah}{t t':aB}{q:Nat->Nat}{rel km:Nat->Option Nat}
theorem mY{gs:Array _}(h:i≠k):(gs.setIfInBounds i g)[k]?=gs[k]?:=bL h
theorem gy.MI.AU(M:Q.MI C nd fu gs w t q rel)(m:0<Q.b)(hk:k<C.j)(R:C'.j=C.j)(Z:C'.L=C.L)(hd:C'.d=C.d)(W:C'.dm=C.dm)(F:∀i,i≠k->C'.ks i=C.ks i){O:Nd}(f:ku=gs.setIfInBounds (Q.b+k) g1)
  (v:Q.tA (Q.ch C k) ku t' k O f' (C'.ks k))(y:∀i,i<=C.j->i≠k+1->gR Q.E.U (nd i).S w w')(r:gR Q.E.U O.S O.w w')(mf:mu Q.J C'<=f')(o:mu Q.J C'<=mu Q.J C)
  (sets:Q.Sets (upd nd (k+1) O) C.j C.L C'.tok w'.heap.size)(wd:Q.Wd C' w')(tr:PT Q.b C.j Q.E.mu Q.E.st Q.jb (Q.cls (upd nd (k+1) O) C.j C.L) t' (C'.tok.map (Q.b+ ·)) km)
  (G:(∀q,C'.ks k≠.qt q)->Deaf t' (Q.b+k)=Ah (C'.ks k))(H:∀g,g≠Q.b+k->Deaf t' g=Deaf t g)(V:(∃p,km (Q.b+k)=some p)↔gy.w_ (C'.ks k))(N:∀i,i≠k->km (Q.b+i)=rel (Q.b+i))(seen:∀op∈t',Seen w'.heap.size op):
  Q.MI C' (upd nd (k+1) O) (upd fu (k+1) f') ku w' t' q km:=by
 subst f;have n0:upd nd (k+1) O 0=nd 0:=upd_ne _ _ (by omega);have f0:upd fu (k+1) f' 0=fu 0:=upd_ne _ _ (by omega);refine⟨?_,?_,fun i Y=>?_,fun i g Y K I=>?_,fun i Y=>?_,fun i Y=>?_,?_,wd,?_,?_,fun i Y D=>?_,fun i Y=>?_,fun i Y=>?_,fun i Y=>by rw[R]at Y;rw[N i (by omega)];exact M.uY i Y,seen⟩
 ·rw[R];simp[M.size]
 ·rw[n0,f0,Z,hd,W];exact M.g0.keep (mY (by omega))
 ·rw[R]at Y;by_cases e:i=k
  ·subst e;rw[upd_same,upd_same];unfold gy.ch;rw[Z];exact v
  ·rw[upd_ne _ _ (by omega),upd_ne _ _ (by omega),F i e];unfold gy.ch;rw[Z];exact(M.wk i Y).keep (mY (by omega)) (H _ (by omega))
 ·rw[mY (by omega)]at I;rw[H i (by omega)];exact M.old i g Y K I
 ·rw[R]at Y;by_cases e:i=k+1
  ·subst e;rw[upd_same];exact mf
  ·rw[upd_ne _ _ e];exact bg o (M.fuel i Y)
 ·rw[R]at Y;by_cases e:i=k+1
  ·subst e;rw[upd_same];exact r
  ·rw[upd_ne _ _ e];exact(M.nK i Y).trans (y i Y e)
 ·simp_all
 ·rw[R,Z];exact tr
 ·rw[H 0 (by omega),hd];exact M.deaf0
 ·rw[R]at Y;by_cases e:i=k
  ·subst e;exact G D
  ·rw[H _ (by omega),F i e];rw[F i e]at D;exact M.mM i Y D
 ·rw[R]at Y;rw[H i (by omega)];exact M.above i Y
 ·rw[R]at Y;by_cases e:i=k
  ·subst e;exact V
  ·rw[N i e,F i e];exact M.oZ i Y
theorem gy.MI.m0(M:Q.MI C nd fu gs w t q rel)(p:0<Q.b)(F:C'.j=C.j)(f:C'.L=C.L)(R:C'.ks=C.ks){N:Nd}(V:ku=gs.setIfInBounds 0 g1)
  (W:Q.wY ku N f' C.L C'.d C'.dm)(o:∀i,i<=C.j->i≠0->gR Q.E.U (nd i).S w w')(G:gR Q.E.U N.S N.w w')(mf:mu Q.J C'<=f')(Z:mu Q.J C'<=mu Q.J C)
  (sets:Q.Sets (upd nd 0 N) C.j C.L C'.tok w'.heap.size)(wd:Q.Wd C' w')(tr:PT Q.b C.j Q.E.mu Q.E.st Q.jb (Q.cls (upd nd 0 N) C.j C.L) t' (C'.tok.map (Q.b+ ·)) rel)
  (O:Deaf t' 0=oV C'.d)(H:∀g,g≠0->Deaf t' g=Deaf t g)(seen:∀op∈t',Seen w'.heap.size op):
  Q.MI C' (upd nd 0 N) (upd fu 0 f') ku w' t' q rel:=by
 subst V;refine⟨?_,?_,fun i Y=>?_,fun i g Y K D=>?_,fun i Y=>?_,fun i Y=>?_,?_,wd,?_,O,fun i Y I=>?_,fun i Y=>?_,fun i Y=>?_,fun i Y=>M.uY i (F▸Y),seen⟩
 ·rw[F];simp[M.size]
 ·rw[upd_same,upd_same,f];exact W
 ·rw[F]at Y;rw[upd_ne _ _ (by omega),upd_ne _ _ (by omega),R];unfold gy.ch;rw[f];exact(M.wk i Y).keep (mY (by omega)) (H _ (by omega))
 ·rw[mY (by omega)]at D;rw[H i (by omega)];exact M.old i g Y K D
 ·rw[F]at Y;by_cases e:i=0
  ·subst e;exact mf
  ·rw[upd_ne _ _ e];exact bg Z (M.fuel i Y)
 ·rw[F]at Y;by_cases e:i=0
  ·subst e;exact G
  ·rw[upd_ne _ _ e];exact(M.nK i Y).trans (o i Y e)
 ·simp_all
 ·simp_all
 ·rw[F]at Y;rw[H _ (by omega),R];rw[R]at I;exact M.mM i Y I
 ·rw[F]at Y;rw[H i (by omega)];exact M.above i Y
 ·rw[F]at Y;rw[R];exact M.oZ i Y
theorem vy(Y:Q.Laws){c fu:Nat}{pc:Q.E.kF}(H:0<fu)(h:Q.WS c fu pc S X g w):g.status=.running/\g.offers=none:=by
 cases fu with
 |zero=>omega
 |succ f=>
  cases pc with
  |recv=>exact Y.Jc h
  |_=>exact⟨h.1,h.2.1⟩
theorem BR{fu:Nat}{d:jq}(Y:0<fu)(h:Q.DS fu d S X g w):g.status=.running/\g.offers=none:=by
 cases fu with
 |zero=>omega
 |succ f=>exact⟨h.1,h.2.1⟩
theorem sF{U:Nat->Nat->Prop}{D:(Nat->Prop)->(Nat->Prop)->ah->af->Prop}(h:Tz P main U D S X g w)(Y:D S X g w->g.status=.running):g.status=.running:=by
 rcases h.look with h|⟨_,h,_⟩
 ·exact Y h
 omega
theorem BS{E:Env}(h:Env.nZ P (E.ti P i) n g):g.status=.running:=by
 cases n with
 |zero=>
  match i,h with
  |0,h=>exact h.1
  |1,h=>exact h.1
  |2,h=>exact h.1
  |3,h=>exact h.1
  |i+4,h=>exact h.1
 |succ n=>exact h.1
theorem aeG(J:iA)(v:Nat)(d:jq):0<iB J v d:=by cases d<;>simp[iB]<;>omega
theorem R8{E:Env}(J:iA)(C:iE E):0<mu J C:=by
 have:=aeG J C.v C.d;unfold mu lr;omega
theorem gy.MI.r8(M:Q.MI C nd fu gs w t q rel)(Y:i<=C.j):0<fu i:=az (R8 Q.J C) (M.fuel i Y)
theorem again_blocked(w:af)(Y:g.status=.running)(H:g.offers=none):({g with status:=.blocked}).again w=g:=by
 obtain⟨f,c,st,o⟩:=g;subst Y H;rfl
theorem gy.MI.ou(M:Q.MI C nd fu gs w t q rel)(V:Q.Laws)(h:CI Q.J Q.gT C):Q.MI (C.ou Q.J) nd fu (gs.map (·.again w)) w t q rel:=by
 have mp:∀i,(gs.map (·.again w))[i]?=(gs[i]?).map _:=fun i=>bJ;have fm:mu Q.J _=mu Q.J C:=Q6;refine⟨by simp[M.size];rfl,?_,fun k hk=>?_,fun i g N O X=>?_,fun i N=>by rw[fm];exact M.fuel i N,M.nK,M.sets,?_,M.tr,M.deaf0,fun k hk o=>?_,M.above,fun k hk=>?_,M.uY,M.seen⟩
 ·have K:=M.g0;show Q.wY _ _ _ C.L C.d (wo C.dm)
  have f0:=M.r8 (ar _);cases U:C.dm with
  |run=>
   rw[U]at K;refine⟨?_,K.2⟩;rw[mp,K.1];exact congrArg some (bq _ (.inl (sF K.2 fun y=>(BR f0 y).1)))
  |blk=>
   rw[U]at K;refine⟨?_,.stop K.2.2.2⟩;rw[mp,K.1];exact congrArg some (again_blocked w K.2.2.1 K.2.1)
  |ic=>
   rw[U]at K;have⟨H,i,c,x,z,F,P,Z,B,G,W,f⟩:=K;refine⟨H,i,c,x,z,F,P,Z,B,G,?_,f⟩;have I:∃k,k<C.j/\Q.ch C k=c:=by
    refine⟨i%Q.J.n,?_,?_⟩
    ·have:=(bO.1 B).1;rw[h.len]at this;exact this
    ·unfold gy.ch;rw[aX,B];rfl
   obtain⟨k,hk,rfl⟩:=I;obtain⟨s,Y⟩:=M.wd.opn k hk (by rw[P];exact aQ _);rw[mp,W];exact congrArg some (again_send_open Y)
  |jU=>rw[U]at K;exact K.elim
 ·have Y:=M.wk k hk;have S:=M.r8 hk;show Q.tA _ _ t k _ _ (pR _ _)
  cases I:C.ks k with
  |no=>rw[I]at Y;exact Y.elim
  |«at» pc md=>
   rw[I]at Y;have⟨H,D,A⟩:=Y;cases md with
   |run=>
    refine⟨?_,D,A⟩;rw[mp,H];exact congrArg some (bq _ (.inl (sF D fun y=>(vy V S y).1)))
   |blk=>
    have T:=vy V S (A nofun);refine⟨?_,D,fun y=>absurd rfl y⟩;rw[mp,H];exact congrArg some (again_blocked w T.1 T.2)
   |ic=>
    by_cases R:k<iT Q.J C.d
    ·rw[decide_eq_true R];have⟨s,Y⟩:=M.wd.shut k hk R;refine⟨?_,D,fun _=>A nofun⟩;rw[mp,H];exact congrArg some (again_recv_closed Y)
    ·rw[decide_eq_false R];have⟨s,Y⟩:=M.wd.opn k hk R;refine⟨?_,D,A⟩;rw[mp,H];exact congrArg some (again_recv_open Y)
   |jU=>
    refine⟨?_,D,A⟩;rw[mp,H];exact congrArg some (bq _ (.inl rfl))
  |gX i n=>
   rw[I]at Y;have⟨g,H,D⟩:=Y;refine⟨g,?_,D⟩;rw[mp,H];exact congrArg some (bq _ (.inl (BS D)))
  |qt p=>
   rw[I]at Y;have⟨g,H,D⟩:=Y;refine⟨g,?_,D⟩;rw[mp,H];exact congrArg some (bq _ D.status)
 ·rw[mp]at X;obtain⟨l,H,rfl⟩:=bS.1 X;have:=M.old i l N O H;rw[bq _ this.status];exact this
 ·exact M.wd.cfg rfl rfl rfl rfl rfl (fun e=>⟨e,rfl⟩) rfl rfl rfl
 ·have e:∀s:gV Q.E,∀b,(∀q,pR b s≠.qt q)->∀q,s≠.qt q:=fun s b Y q e=>Y q (by rw[e];rfl);rw[M.mM k hk (e _ _ o)];exact(vP Ah (fun _ _ _=>rfl) _ _).symm
 ·rw[M.oZ k hk];show gy.w_ _↔gy.w_ (pR _ _)
  rw[vP (fun s=>gy.w_ s) fun _ _ _=>rfl]
theorem aa_{w1:af}(gs:Array _)(i:Nat):
  (((gs.map (ax P g g1 w1)).setIfInBounds i g1=gs.setIfInBounds i g1)/\¬(aV P g=true/\(g1.status=.running\/g1.status=.finished)))\/(gs.map (ax P g g1 w1)).setIfInBounds i g1=(gs.setIfInBounds i g1).map (·.again w1):=by
 by_cases K:(aV P g&&g1.status != .blocked&&g1.status != .waiting)=true
 ·right;have H:ax P g g1 w1=(·.again w1):=by funext o;simp[ax,K]
  have R:g1.again w1=g1:=by
   unfold Goroutine.again;simp_all
  simp_all
 ·left;have H:ax P g g1 w1=id:=by funext o;simp[ax,K]
  refine⟨by simp_all,fun⟨D,Y⟩=>K ?_⟩;rcases Y with Y|Y<;>rw[D,Y]<;>rfl
theorem gy.MI.finish(F:Q.Laws){Y:iE Q.E}{w1:af}{R:Nat->Nd}(h:CI Q.J Q.gT Y)(M:Q.MI Y R Ub (gs.setIfInBounds i g1) w1 t q rel)(O:Calm Q.J Y\/(aV Q.P g=true/\(g1.status=.running\/g1.status=.finished)))(N:∀i,Y.dm=.ic->Y.d=.send Y.L i->∀pc,Y.ks (i%Q.J.n)≠.at pc .ic):
  ∃H,(H=Y\/H=Y.ou Q.J)/\CI Q.J Q.gT H/\Calm Q.J H/\Q.MI H R Ub ((gs.map (ax Q.P g g1 w1)).setIfInBounds i g1) w1 t q rel:=by
 rcases aa_ (P:=Q.P) (g:=g) (g1:=g1) (w1:=w1) gs i with⟨e,K⟩|e
 ·simp_all
 ·rw[e];exact⟨Y.ou Q.J,.inr rfl,h.ou,aa9 N,M.ou F h⟩
end
def nj{E:Env}:gV E->Nat
 |.gX _ n=>n
 |.qt q=>q
 |_=>0
def pv:Md->Nat
 |.run=>1
 |.jU=>1
 |_=>0
def pw{E:Env}:gV E->Nat
 |.at _ md=>pv md
 |_=>0
namespace gy
variable(Q:gy)
def nu(C:iE Q.E)(q:Nat->Nat):=10 *(sumTo Q.b q+sumTo Q.J.n (fun k=>nj (C.ks k)))+(pv C.dm+sumTo Q.J.n (fun k=>pw (C.ks k)))
def Df(C:iE Q.E)(fu:Nat->Nat)
 |0=>Q.DS (fu 0) C.d
 |k+1=>match C.ks k with
  |.at pc _=>Q.WS (Q.ch C k) (fu (k+1)) pc
  |_=>fun _ _ _ _=>True
def jy(C:iE Q.E)(nd:Nat->Nd)(fu:Nat->Nat)(q:Nat->Nat)(m:bc)(t:aB):=∃C' Y K ku w' H D km,m=ao ku w' H/\CI Q.J Q.gT C'/\Calm Q.J C'/\Q.MI C' Y K ku w' t D km/\
 (mu Q.J C'<mu Q.J C\/(mu Q.J C'=mu Q.J C/\Q.Df C' K=Q.Df C fu/\(Down (fun i=>Nx Q.P (i==0) Q.E.U (Q.Df C fu i)) (Q.J.n+1) Y nd\/(Y=nd/\Q.nu C' D<Q.nu C q))))
end gy
section
variable{Q:gy}{nd:Nat->Nd}{fu:Nat->Nat}{C C':iE Q.E}{w w':af}{gs ku:Array ah}{t t':aB}{q:Nat->Nat}{rel km:Nat->Option Nat}{sl:Option (Nat×Nat)}
theorem sK{α:Type}(f:Nat->α)(i:Nat):upd f i (f i)=f:=by
 funext k;unfold upd;simp_all
theorem aeH:Q.Df (C.ou Q.J) fu=Q.Df C fu:=by
 funext i;cases i with
 |zero=>rfl
 |succ k=>
  exact vP (fun s=>match s with|.at pc _=>Q.WS (Q.ch C k) (fu (k+1)) pc|_=>fun _ _ _ _=>True) (fun _ _ _=>rfl) _ _
theorem qf{Y H:iE Q.E}(h:H=Y\/H=Y.ou Q.J):mu Q.J H=mu Q.J Y/\Q.Df H fu=Q.Df Y fu:=by
 rcases h with rfl|rfl
 ·simp
 ·exact⟨Q6,aeH⟩
theorem pD{w1:af}{ops:Array _}(h:∀op∈t,Seen w.heap.size op)(Y:w.heap.size<=w1.heap.size)(H:∀op∈ops,Seen w1.heap.size op):∀op∈t++ops,Seen w1.heap.size op:=by
 intro op gh;rcases Array.mem_append.1 gh with y|y
 ·exact⟨MemAct.low_mono Y (h op y).1,(h op y).2⟩
 ·simp_all
theorem acU(Y:Q.Laws)(nd:Nat->Nd)(j:Nat)(L:List Nat):∀l,Q.cls nd j L l=.at->Q.jb l:=fun l h=>Y.Ky l (Qi h)
theorem gy.MI.Sz(M:Q.MI C nd fu gs w t q rel)(N:Q.Laws)(H:i<=C.j){es:Array _}{F:Nd}{w1:af}(hd:j9 Q.E.U (nd i).S (nd i).X w w1 es F.S F.X)(fn:au)(pos:String)(hr:gi Q.b i≠0->rel (gi Q.b i)=none):
  PT Q.b C.j Q.E.mu Q.E.st Q.jb (Q.cls (upd nd i F) C.j C.L) (t++ai (gi Q.b i) fn pos es) (C.tok.map (Q.b+ ·)) rel:=by
 have Y:=M.sets;have R:=Y.did H hd;have J:=gy.agp Y H hd;have low:∀k x,touchAt t k=some x->x.loc.low w.heap.size:=by
  intro k x A;have⟨op,P,B⟩:=touch_of A;exact XE (M.seen op (bM P)).1 B
 have D:=M.tr.fresh (fun k x A=>Ol J (low k x A)) Pf (acU N _ _ _);refine D.app (g:=gi Q.b i) ?_ ?_ ?_
 ·cases i with
  |zero=>exact .inl rfl
  |succ k=>exact .inr ⟨bp _ _,by show Q.b+k<Q.b+C.j;omega⟩
 ·refine acR hd _ _ (fun a K=>?_) (fun a K=>acT K) (fun a D O=>?_)
  ·have I:=Y.low i H a K;have e:Q.cls _ C.j C.L _=Q.cls nd C.j C.L (.obj a):=Ol J I;rw[e];exact Y.held N.rm H K
  ·have:=R.own H (by rw[upd_same];exact(hd.may a).2 (.inr ⟨D,O⟩)) (fun e=>by have:=Y.tC;omega);exact this
 ·simp_all
theorem gy.MI.xa(M:Q.MI C nd fu gs w t q rel)(hk:k<C.j){pc:Q.E.kF}{md:Md}(e:C.ks k=.at pc md):rel (Q.b+k)=none:=by
 cases hr:rel _ with
 |none=>rfl
 |some p=>
  have:=(M.oZ k hk).1 ⟨p,hr⟩;rw[e]at this;exact this.elim
theorem pO{g:Nat}{es:Array _}:∀op∈ai g fn pos es,op.g=g:=fun op gh=>by
 obtain⟨e,_,rfl⟩:=pH gh;rfl
theorem gy.MI.ahv(M:Q.MI C nd fu gs w t q rel)(R:Q.Laws)(h:CI Q.J Q.gT C)(H:Calm Q.J C)(hk:k<C.j){pc:Q.E.kF}(e:C.ks k=.at pc .run){w1:af}{es:Array _}(f:¬Q.WS (Q.ch C k) (fu (k+1)) pc (nd (k+1)).S (nd (k+1)).X (nd (k+1)).g (nd (k+1)).w)
  (ga:ay Q.P false (nd (k+1)).g w=.go g1 w1 es)(hd:j9 Q.E.U (nd (k+1)).S (nd (k+1)).X w w1 es S1 X1)(d:Tz Q.P false Q.E.U (Q.WS (Q.ch C k) (fu (k+1)) pc) S1 X1 g1 w1)(fn:au)(pos:String):
  Q.jy C nd fu q (ao ((gs.map (ax Q.P (nd (k+1)).g g1 w1)).setIfInBounds (Q.b+k) g1) w1 sl) (t++ai (Q.b+k) fn pos es):=by
 have Z:=R.b0;have B:Q.b+k<gs.size:=by rw[M.size];omega
 have Y:=hk;have F:Q.MI C (upd nd (k+1) ⟨S1,X1,g1,w1⟩) (upd fu (k+1) (fu (k+1))) (gs.setIfInBounds (Q.b+k) g1) w1 (t++ai (Q.b+k) fn pos es) q rel:=by
  refine M.AU Z hk rfl rfl rfl rfl (fun _ _=>rfl) rfl ?_ (fun i A I=>Ql M.sets Y A (fun y=>I y.symm) hd) (.refl _ _ _) (M.fuel _ Y) (ak _) (M.sets.did Y hd) (M.wd.did M.sets R h.len Y hd) ?_ (fun W=>?_) (fun g G=>aW t (fun y=>G y.symm) _ pO) (M.oZ k hk) (fun _ _=>rfl) (pD M.seen hd.grow (Qk hd (M.sets.low _ Y) _))
  ·rw[e];exact⟨aA B,d,fun y=>absurd rfl y⟩
  ·exact M.Sz R Y hd fn pos (fun _=>M.xa hk e)
  ·rw[aJ,Qj hd];exact M.mM k hk W
 rw[sK]at F;obtain⟨L,V,D,K,N⟩:=gy.MI.finish R h F (.inl H) H.oY;obtain⟨O,T⟩:=qf V;refine⟨L,_,_,_,_,sl,_,_,rfl,D,K,N,.inr ⟨O,T,.inl ⟨k+1,by have:=h.jn;omega,?_,fun i _ A=>upd_ne _ _ A⟩⟩⟩;rw[upd_same];refine⟨?_,w,es,M.nK _ Y,ga,hd⟩;unfold gy.Df;simp_all
theorem gy.MI.gf(M:Q.MI C nd fu gs w t q rel)(W:Q.Laws)(hk:k<C.j)(f:C'.j=C.j)(G:C'.L=C.L)(hd:C'.d=C.d)(F:C'.dm=C.dm)(N:∀i,i≠k->C'.ks i=C.ks i){w1:af}{ops:Array _}
  (V:Q.tA (Q.ch C k) (gs.setIfInBounds (Q.b+k) g1) (t++ops) k ⟨(nd (k+1)).S,(nd (k+1)).X,g1,w1⟩ f' (C'.ks k))(o:∀S,gR Q.E.U S w w1)(Z:w1.heap.size=w.heap.size)(mf:mu Q.J C'<=f')(O:mu Q.J C'<=mu Q.J C)(tok:C'.tok=C.tok)(wd:Q.Wd C' w1)
  (tr:PT Q.b C.j Q.E.mu Q.E.st Q.jb (Q.cls nd C.j C.L) (t++ops) (C.tok.map (Q.b+ ·)) km)(own:∀op∈ops,op.g=Q.b+k)(R:(∀q,C'.ks k≠.qt q)->Deaf (t++ops) (Q.b+k)=Ah (C'.ks k))(Y:(∃p,km (Q.b+k)=some p)↔gy.w_ (C'.ks k))(H:∀i,i≠k->km (Q.b+i)=rel (Q.b+i))(low:∀op∈ops,Seen w.heap.size op):
  Q.MI C' (upd nd (k+1) ⟨(nd (k+1)).S,(nd (k+1)).X,g1,w1⟩) (upd fu (k+1) f') (gs.setIfInBounds (Q.b+k) g1) w1 (t++ops) q km:=by
 refine M.AU W.b0 hk f G hd F N rfl V (fun i D _=>o _) (.refl _ _ _) mf O ?_ wd ?_ R (fun g K=>aW t (fun y=>K y.symm) _ own) Y H (pD M.seen (aZ Z.symm) (by simp_all))
 ·rw[Z,tok];exact M.sets.same rfl rfl
 ·unfold gy.cls;rw[gy.CL (n':=⟨(nd _).S,(nd _).X,g1,w1⟩) rfl,tok];exact tr
theorem tQ(g:Nat)(fn:au)(pos:String)(m:Mark):ai g fn pos #[⟨.mark m,false,true⟩]=#[{g,fn,pos,act:=.mark m}]:=by simp[ai,aD]
theorem gy.MI.IE(M:Q.MI C nd fu gs w t q rel){g:Nat}(Y:g<Q.b+C.j)(fn:au)(pos:String){m:Mark}(H:m=.disable\/m=.enable):PT Q.b C.j Q.E.mu Q.E.st Q.jb (Q.cls nd C.j C.L) (t++ai g fn pos #[⟨.mark m,false,true⟩]) (C.tok.map (Q.b+ ·)) rel:=by
 rw[tQ];refine M.tr.still (mn ?_);rcases H with rfl|rfl<;>exact⟨rfl,nofun,nofun,Y⟩
theorem sL{g B:Nat}{m:Mark}(Y:(MemAct.mark m).low B/\∀a,m≠.release a):∀op∈ai g fn pos #[⟨.mark m,false,true⟩],Seen B op:=by
 rw[tQ];exact mn ⟨Y.1,fun a e=>Y.2 a (MemAct.mark.inj e)⟩
theorem Om(h:e.mute=true)(a:Addr):aD e≠.mark (.release a):=by
 intro y;have⟨loc,wr,Y⟩:=e;cases loc<;>simp_all[Event.mute,aD]
theorem sQ(H:Calm Q.J C){s':gV Q.E}(F:∀pc,s'≠.at pc .blk)(M:∀pc,s'≠.at pc .ic){m':Word}{kO:Q.E.Γ}(R:C.c=0->c'=0)(hw:C.dm=.blk->C.ws=0->ig=0):Calm Q.J (C.wk k s' C.d C.dm m' c' v' ij ig kO kg jI):=by
 refine⟨fun i pc Y=>?_,fun i pc Y=>?_,fun hd=>hw hd (H.Jr hd),fun i hd K pc Y=>?_⟩
 ·change upd _ k s' i=_ at Y;by_cases e:i=k
  ·subst e;rw[upd_same]at Y;simp_all
  ·rw[upd_ne _ _ e]at Y;exact R (H.blk i pc Y)
 ·change upd _ k s' i=_ at Y;by_cases e:i=k
  ·subst e;rw[upd_same]at Y;simp_all
  ·rw[upd_ne _ _ e]at Y;exact H.ic i pc Y
 ·change upd _ k s' _=_ at Y;by_cases e:i%Q.J.n=k
  ·rw[e,upd_same]at Y;simp_all
  ·rw[upd_ne _ _ e]at Y;exact H.oY i hd K pc Y
theorem gy.MI.Dh(M:Q.MI C nd fu gs w t q rel)(F:Q.Laws)(h:CI Q.J Q.gT C)(N:Calm Q.J C){f:Nat}(hk:k<C.j){pc Y:Q.E.kF}(e:C.ks k=.at pc .run)(r:fu (k+1)=f+1){m:Mark}(V:m=.disable\/m=.enable)(o:Q.E.Tree Q.P false (Q.WS (Q.ch C k) f Y) (nd (k+1)).S (nd (k+1)).X g1 w)(fn:au)(pos:String)
  (d:oD Y=oD pc)(W:∀y,qx y Y=qx y pc)(n1:∀γ,pc≠.ur γ)(n2:∀γ,Y≠.ur γ)(n3:Y≠.wr)(qK:∀p x,Y=.lk p x->iP p=2)(oE:∀p,Y=.un p->iP p=0/\p≠.out)(hr:p_ Y<p_ pc)(O:uE Y=aK (uE pc) #[⟨.mark m,false,true⟩]):
  Q.jy C nd fu q (ao ((gs.map (ax Q.P (nd (k+1)).g g1 w)).setIfInBounds (Q.b+k) g1) w sl) (t++ai (Q.b+k) fn pos #[⟨.mark m,false,true⟩]):=by
 have A:Q.b+k<gs.size:=by rw[M.size];omega
 have I:k<Q.J.n:=az hk h.jn;have U:¬Gone (.at Y .run:gV Q.E):=fun y=>by
  cases Y with
  |wr=>exact n3 rfl
  |_=>exact y.elim
 have Z:CI Q.J Q.gT (C.w1 k (.at Y .run)):=h.quiet hk e d W n1 n2 ⟨nofun,fun y=>by rcases y with y|y<;>cases y⟩ (fun y=>absurd y U) qK oE;have D:mu Q.J (C.w1 k (.at Y .run))<mu Q.J C:=Dg F.n8 h.c1 I e hr;have us:(C.w1 k (.at Y .run)).ks k=.at Y .run:=upd_same _ _ _;have L:=M.gf (C':=C.w1 k (.at Y .run)) (f':=f) (g1:=g1) (w1:=w) (km:=rel) F hk rfl rfl rfl rfl (fun i z=>upd_ne _ _ z) (by
   rw[us];exact⟨aA A,o,fun y=>absurd rfl y⟩) (fun S=>.refl _ _ _) rfl (by have:=M.fuel (k+1) hk;omega) (aO D) rfl (M.wd.cfg rfl rfl rfl rfl rfl (fun e=>⟨e,rfl⟩) rfl rfl rfl)
   (M.IE (by omega) fn pos V) pO (fun _=>by
   rw[us,aJ,M.mM k hk (fun q y=>by rw[e]at y;cases y),e];exact O.symm) (by
   rw[us,M.xa hk e];exact⟨(fun⟨p,l⟩=>by cases l),fun y=>y.elim⟩) (fun _ _=>rfl) (sL (by rcases V with rfl|rfl<;>exact⟨trivial,nofun⟩))
 have K:Calm Q.J (C.w1 k (.at Y .run)):=sQ (s':=.at Y .run) (k:=k) (m':=C.m) (c':=C.c) (v':=C.v) (ij:=C.wt) (ig:=C.ws) (kO:=C.γ) (kg:=C.dn) (jI:=C.tok) N nofun nofun id fun _ y=>y;have⟨B,G,R,H,T⟩:=gy.MI.finish (g:=(nd (k+1)).g) F Z L (.inl K) K.oY;exact⟨B,_,_,_,_,sl,_,_,rfl,R,H,T,.inl (by rw[(qf (fu:=fu) G).1];exact D)⟩
theorem gy.MI.KA(M:Q.MI C nd fu gs w t q rel)(R:Q.Laws)(h:CI Q.J Q.gT C)(F:Calm Q.J C){f:Nat}(hk:k<C.j){pc Y:Q.E.kF}(e:C.ks k=.at pc .run)(m:fu (k+1)=f+1){w1:af}{m':Word}(r:Q.E.Tree Q.P false (Q.WS (Q.ch C k) f Y) (nd (k+1)).S (nd (k+1)).X g1 w1)(fn:au)(pos:String)
  (o:Q.E.MuAt w1 m' c')(Z:Env.Eff Q.E.Fd w w1)(H:Env.EvA Q.E.Fd es)(hw:C.c<c'->aV Q.P (nd (k+1)).g=true)(O:CI Q.J Q.gT (C.mv k Y m' c'))(N:mu Q.J (C.mv k Y m' c')<mu Q.J C)(V:uE Y=uE pc):
  Q.jy C nd fu q (ao ((gs.map (ax Q.P (nd (k+1)).g g1 w1)).setIfInBounds (Q.b+k) g1) w1 sl) (t++ai (Q.b+k) fn pos es):=by
 have W:Q.b+k<gs.size:=by rw[M.size];omega
 have us:(C.mv k Y m' c').ks k=.at Y .run:=upd_same _ _ _;have G:g1.status=.running:=by
  have T:mu Q.J (C.mv k Y m' c')<=f:=by have:=M.fuel (k+1) hk;omega
  exact sF r fun y=>(vy R (az (R8 _ _) T) y).1
 have s:=M.gf (C':=C.mv k Y m' c') (f':=f) (g1:=g1) (w1:=w1) (ops:=ai (Q.b+k) fn pos es) (km:=rel) R hk rfl rfl rfl rfl (fun i K=>upd_ne _ _ K) (by
   rw[us];exact⟨aA W,r,fun y=>absurd rfl y⟩) (fun S=>Q9 S M.wd.mu o Z) Z.size (by have:=M.fuel (k+1) hk;omega) (aO N) rfl ((M.wd.mv R M.sets h.len Z o).cfg rfl rfl rfl rfl rfl (fun e=>⟨e,rfl⟩) rfl rfl rfl)
   (M.tr.app (.inr ⟨bp _ _,by omega⟩) (Hi H (.inl rfl) _) (fun _ p D=>by rw[M.xa hk e]at D;cases D)) pO (fun _=>by
   rw[us,aJ,Cw H,M.mM k hk (fun q y=>by rw[e]at y;cases y),e];exact V.symm) (by
   rw[us,M.xa hk e];exact⟨(fun⟨p,D⟩=>by cases D),fun y=>y.elim⟩) (fun _ _=>rfl) (Hj H (M.sets.nB _ R.rf) _)
 have I:Calm Q.J (C.mv k Y m' c')\/(aV Q.P (nd (k+1)).g=true/\(g1.status=.running\/g1.status=.finished)):=by
  by_cases x:C.c<c'
  ·exact .inr ⟨hw x,.inl G⟩
  ·exact .inl (sQ (s':=.at Y .run) (k:=k) (m':=m') (c':=c') (v':=C.v) (ij:=C.wt) (ig:=C.ws) (kO:=C.γ) (kg:=C.dn) (jI:=C.tok) F nofun nofun (fun y=>by omega) fun _ y=>y)
 have D:∀i,(C.mv k Y m' c').dm=.ic->(C.mv k Y m' c').d=.send (C.mv k Y m' c').L i->∀pc,(C.mv k Y m' c').ks (i%Q.J.n)≠.at pc .ic:=by
  intro i O U z K;change upd C.ks k _ _=_ at K;by_cases e:i%Q.J.n=k
  ·rw[e,upd_same]at K;cases K
  ·rw[upd_ne _ _ e]at K;exact F.oY i O U z K
 have⟨l,U,B,A,u⟩:=gy.MI.finish (g:=(nd (k+1)).g) R O s I D;exact⟨l,_,_,_,_,sl,_,_,rfl,B,A,u,.inl (by rw[(qf (fu:=fu) U).1];exact N)⟩
end
end Ph
namespace Ph
open Conc Ren
open Lock (Word PC Mv bn iP bw dw)
open ConcN (sumTo upd sumTo_upd upd_ne upd_same sumTo_congr sumTo_le le_sumTo)
section
variable{Q:gy}{nd:Nat->Nd}{fu:Nat->Nat}{C C':iE Q.E}{w w':af}{gs ku:Array ah}{t t':aB}{q:Nat->Nat}{rel km:Nat->Option Nat}{sl:Option (Nat×Nat)}
theorem acV{E:Env}{b:Nat}(H:¬RO E.Mp)(h:∀i a,a≠E.Mp->(vn i a↔XX i a)):mL E RO b vn=mL E RO b XX:=by
 have Y:∀a,mC E RO b vn a=mC E RO b XX a:=fun a=>by
  by_cases e:a=E.Mp
  ·subst e;rw[H8 H,H8 H]
  ·exact GD fun i=>h i a e
 funext l;cases l with
 |cell a=>simp[mL,Y]
 |obj a=>exact Y a
 |_=>rfl
theorem gy.Sets.turn{j:Nat}{B:Nat}(h:Q.Sets nd j L tok B)(hk:k<j){H:Nd}(Z:∀a,a≠Q.E.Mp->(H.S a↔(nd (k+1)).S a))(hX:∀a,a≠Q.E.Mp->(H.X a↔(nd (k+1)).X a))(F:H.S Q.E.Mp↔H.X Q.E.Mp)(W:H.S Q.E.Mp->jI=some k)(d:∀i,i<=j->i≠k+1->¬(nd i).S Q.E.Mp)(M:¬Q.RO Q.E.Mp):Q.Sets (upd nd (k+1) H) j L jI B:=by
 have us:upd nd (k+1) H (k+1)=H:=upd_same _ _ _;have un:∀i,i≠k+1->upd nd (k+1) H i=nd i:=fun i Y=>upd_ne _ _ Y;have R:∀i a,a≠Q.E.Mp->((upd nd (k+1) H i).S a↔(nd i).S a):=fun i a J=>by
  by_cases e:i=k+1
  ·subst e;rw[us];exact Z a J
  ·rw[un i e]
 have U:∀i a,a≠Q.E.Mp->((upd nd (k+1) H i).X a↔(nd i).X a):=fun i a J=>by
  by_cases e:i=k+1
  ·subst e;rw[us];exact hX a J
  ·rw[un i e]
 have C:∀i,i<=j->(upd nd (k+1) H i).S Q.E.Mp->i=k+1/\jI=some k:=fun i Y K=>by
  by_cases e:i=k+1
  ·simp_all
  ·simp_all
 have T:∀i,i<=j->((upd nd (k+1) H i).X Q.E.Mp->(upd nd (k+1) H i).S Q.E.Mp):=fun i Y K=>by
  by_cases e:i=k+1
  ·subst e;rw[us]at K⊢;exact F.2 K
  ·rw[un i e]at K⊢;exact h.xs i Y _ K
 refine⟨fun i i' Y A I a D K=>?_,fun i Y a K=>?_,fun i Y a K=>?_,fun i Y a hr D=>?_,fun i Y a D=>?_,fun i Y K=>⟨k,C i Y K⟩,h.nB,h.tC,fun c G=>?_⟩
 ·by_cases e:a=Q.E.Mp
  ·subst e;have N:=(C i Y (T i Y D)).1;have O:=(C i' A K).1;omega
  ·exact h.wZ i i' Y A I a ((U i a e).1 D) ((R i' a e).1 K)
 ·by_cases e:a=Q.E.Mp
  ·subst e;exact h.tC
  ·exact h.low i Y a ((R i a e).1 K)
 ·by_cases e:a=Q.E.Mp
  ·subst e;obtain⟨rfl,_⟩:=C i Y K;rw[us]at K⊢;exact .inr (F.1 K)
  ·exact(h.sub i Y a ((R i a e).1 K)).imp id (U i a e).2
 ·have e:a≠Q.E.Mp:=fun e=>M (e▸hr);exact h.mG i Y a hr ((U i a e).1 D)
 ·by_cases e:a=Q.E.Mp
  ·subst e;exact T i Y D
  ·exact(R i a e).2 (h.xs i Y a ((U i a e).1 D))
 ·have⟨N,O,P,V⟩:=h.nJ c G;exact⟨N,O,P,fun i Y K=>V i Y ((R i c P).1 K)⟩
theorem gy.Qm{j:Nat}{H:Nd}(Y:¬Q.RO Q.E.Mp)(hX:∀a,a≠Q.E.Mp->(H.X a↔(nd (k+1)).X a)):Q.cls (upd nd (k+1) H) j L=Q.cls nd j L:=by
 refine acV Y fun i a K=>?_;unfold gy.n_;by_cases e:i=k+1
 ·subst e;rw[upd_same,hX a K]
 ·rw[upd_ne _ _ e]
theorem gy.MI.wla(M:Q.MI C nd fu gs w t q rel)(H:Q.Laws)(h:CI Q.J Q.gT C)(F:Calm Q.J C){f x:Nat}(hk:k<C.j)(e:C.ks k=.at (.la x) .run)(hf:fu (k+1)=f+1)
  (r:Q.E.Tree Q.P false (Q.WS (Q.ch C k) f (.ur (Q.E.upd C.γ x))) (fun a=>(nd (k+1)).S a\/a=Q.E.Mp) (fun a=>(nd (k+1)).X a\/a=Q.E.Mp) g1 w)(fn:au)(pos:String):
  Q.jy C nd fu q (ao ((gs.map (ax Q.P (nd (k+1)).g g1 w)).setIfInBounds (Q.b+k) g1) w sl) (t++ai (Q.b+k) fn pos #[⟨.mark (.acquire Q.E.mu),false,true⟩]):=by
 have L:Q.b+k<gs.size:=by rw[M.size];omega
 have K:=h.free hk e;have⟨G,I⟩:=h.take H.n8 hk e;have us:(C.take k x).ks k=.at (.ur (Q.E.upd C.γ x)) .run:=upd_same _ _ _;have R:Deaf t (Q.b+k)=0:=by rw[M.mM k hk (fun q y=>by rw[e]at y;cases y),e];rfl
 have hX:∀a,a≠Q.E.Mp->(((nd (k+1)).X a\/a=Q.E.Mp)↔(nd (k+1)).X a):=fun a B=>⟨fun y=>y.resolve_right B,.inl⟩;have z:∀a,a≠Q.E.Mp->(((nd (k+1)).S a\/a=Q.E.Mp)↔(nd (k+1)).S a):=fun a B=>⟨fun y=>y.resolve_right B,.inl⟩;have V:Q.MI (C.take k x) (upd nd (k+1) ⟨fun a=>(nd (k+1)).S a\/a=Q.E.Mp,fun a=>(nd (k+1)).X a\/a=Q.E.Mp,g1,w⟩) (upd fu (k+1) f) (gs.setIfInBounds (Q.b+k) g1) w (t++ai (Q.b+k) fn pos #[⟨.mark (.acquire Q.E.mu),false,true⟩]) q rel:=by
  refine M.AU (C':=C.take k x) H.b0 hk rfl rfl rfl rfl (fun i A=>upd_ne _ _ A) rfl ?_ (fun i A _=>.refl _ _ _) (.refl _ _ _) (by have:=M.fuel (k+1) hk;omega) (aO I) (M.sets.turn hk z hX ⟨fun _=>.inr rfl,fun _=>.inr rfl⟩ (fun _=>rfl) (fun i A _ o=>?_) H.rm) ?_ ?_ (fun _=>?_) (fun g d=>aW t (fun y=>d y.symm) _ pO) ?_ (fun _ _=>rfl) (pD M.seen (ak _) (sL (m:=.acquire Q.E.mu) ⟨M.sets.nB _ H.rf,nofun⟩))
  ·rw[us];exact⟨aA L,r,fun y=>absurd rfl y⟩
  ·have⟨_,_,O⟩:=M.sets.mp i A o;rw[K]at O;cases O
  ·exact⟨M.wd.mu,M.wd.wg,nofun,M.wd.shut,M.wd.opn,M.wd.tape,M.wd.out⟩
  ·rw[gy.Qm H.rm hX,tQ];have N:=M.tr;rw[K]at N;exact N.lock (.inr ⟨bp _ _,by omega⟩) R
  ·rw[us,aJ,R];rfl
  ·rw[us,M.xa hk e];exact⟨(fun⟨p,l⟩=>by cases l),fun y=>y.elim⟩
 have Y:Calm Q.J (C.take k x):=sQ (s':=.at (.ur (Q.E.upd C.γ x)) .run) (k:=k) (m':=C.m) (c':=C.c) (v':=C.v) (ij:=C.wt) (ig:=C.ws) (kO:=Q.E.upd C.γ x) (kg:=C.dn++[x]) (jI:=some k) F nofun nofun id fun _ y=>y;have⟨T,W,U,D,Z⟩:=gy.MI.finish (g:=(nd (k+1)).g) H G V (.inl Y) Y.oY;exact⟨T,_,_,_,_,sl,_,_,rfl,U,D,Z,.inl (by rw[(qf (fu:=fu) W).1];exact I)⟩
theorem gy.MI.wur(M:Q.MI C nd fu gs w t q rel)(H:Q.Laws)(h:CI Q.J Q.gT C)(O:Calm Q.J C){f:Nat}{γ:Q.E.Γ}(hk:k<C.j)(e:C.ks k=.at (.ur γ) .run)(hf:fu (k+1)=f+1)(F:Q.E.mz γ (w.heap[Q.E.Mp]?))
  (ht:Q.E.Tree Q.P false (Q.WS (Q.ch C k) f .ud) (fun a=>(nd (k+1)).S a/\a≠Q.E.Mp) (fun a=>(nd (k+1)).X a/\a≠Q.E.Mp) g1 w)(fn:au)(pos:String):
  Q.jy C nd fu q (ao ((gs.map (ax Q.P (nd (k+1)).g g1 w)).setIfInBounds (Q.b+k) g1) w sl) (t++ai (Q.b+k) fn pos #[⟨.mark (.releaseMerge Q.E.mu),false,true⟩]):=by
 have T:Q.b+k<gs.size:=by rw[M.size];omega
 have⟨l,A,K,V⟩:=h.give H.n8 hk e;have us:(C.give k).ks k=.at .ud .run:=upd_same _ _ _;have R:Deaf t (Q.b+k)=0:=by rw[M.mM k hk (fun q y=>by rw[e]at y;cases y),e];rfl
 have hX:∀a,a≠Q.E.Mp->(((nd (k+1)).X a/\a≠Q.E.Mp)↔(nd (k+1)).X a):=fun a N=>⟨fun y=>y.1,fun y=>⟨y,N⟩⟩;have o:∀a,a≠Q.E.Mp->(((nd (k+1)).S a/\a≠Q.E.Mp)↔(nd (k+1)).S a):=fun a N=>⟨fun y=>y.1,fun y=>⟨y,N⟩⟩;have z:Q.MI (C.give k) (upd nd (k+1) ⟨fun a=>(nd (k+1)).S a/\a≠Q.E.Mp,fun a=>(nd (k+1)).X a/\a≠Q.E.Mp,g1,w⟩) (upd fu (k+1) f) (gs.setIfInBounds (Q.b+k) g1) w (t++ai (Q.b+k) fn pos #[⟨.mark (.releaseMerge Q.E.mu),false,true⟩]) q rel:=by
  refine M.AU (C':=C.give k) H.b0 hk rfl rfl rfl rfl (fun i U=>upd_ne _ _ U) rfl ?_ (fun i U _=>.refl _ _ _) (.refl _ _ _) (by have:=M.fuel (k+1) hk;omega) (aO A) (M.sets.turn hk o hX ⟨fun y=>absurd rfl y.2,fun y=>absurd rfl y.2⟩ (fun y=>absurd rfl y.2) (fun i U I u=>?_) H.rm) ?_ ?_ (fun _=>?_) (fun g r=>aW t (fun y=>r y.symm) _ pO) ?_ (fun _ _=>rfl) (pD M.seen (ak _) (sL (m:=.releaseMerge Q.E.mu) ⟨M.sets.nB _ H.rf,nofun⟩))
  ·rw[us];exact⟨aA T,ht,fun y=>absurd rfl y⟩
  ·have⟨k',B,G⟩:=M.sets.mp i U u;rw[K]at G;cases G;exact I B
  ·exact⟨M.wd.mu,M.wd.wg,fun _=>by show Q.E.mz C.γ _;rw[V];exact F,M.wd.shut,M.wd.opn,M.wd.tape,M.wd.out⟩
  ·rw[gy.Qm H.rm hX,tQ];have Z:=M.tr;rw[K]at Z;exact Z.unlock (g:=Q.b+k) (.inr ⟨bp _ _,by omega⟩) R
  ·rw[us,aJ,R];rfl
  ·rw[us,M.xa hk e];exact⟨(fun⟨p,s⟩=>by cases s),fun y=>y.elim⟩
 have Y:Calm Q.J (C.give k):=sQ (s':=.at .ud .run) (k:=k) (m':=C.m) (c':=C.c) (v':=C.v) (ij:=C.wt) (ig:=C.ws) (kO:=C.γ) (kg:=C.dn) (jI:=none) O nofun nofun id fun _ y=>y;have⟨W,B,L,D,d⟩:=gy.MI.finish (g:=(nd (k+1)).g) H l z (.inl Y) Y.oY;exact⟨W,_,_,_,_,sl,_,_,rfl,L,D,d,.inl (by rw[(qf (fu:=fu) B).1];exact A)⟩
theorem gy.MI.AV(M:Q.MI C nd fu gs w t q rel)(f:Q.Laws)(hk:k<C.j)(o:C'.j=C.j)(W:C'.L=C.L)(hd:C'.d=C.d)(N:C'.dm=C.dm)(O:∀i,i≠k->C'.ks i=C.ks i){w1:af}{ops:Array _}
  (V:Q.tA (Q.ch C k) (gs.setIfInBounds (Q.b+k) g1) (t++ops) k (nd (k+1)) (fu (k+1)) (C'.ks k))(Z:∀S,gR Q.E.U S w w1)(G:w1.heap.size=w.heap.size)(Y:mu Q.J C'<=mu Q.J C)(tok:C'.tok=C.tok)(wd:Q.Wd C' w1)
  (tr:PT Q.b C.j Q.E.mu Q.E.st Q.jb (Q.cls nd C.j C.L) (t++ops) (C.tok.map (Q.b+ ·)) km)(own:∀op∈ops,op.g=Q.b+k)(F:(∀q,C'.ks k≠.qt q)->Deaf (t++ops) (Q.b+k)=Ah (C'.ks k))(H:(∃p,km (Q.b+k)=some p)↔gy.w_ (C'.ks k))(R:∀i,i≠k->km (Q.b+i)=rel (Q.b+i))(low:∀op∈ops,Seen w.heap.size op):
  Q.MI C' nd fu (gs.setIfInBounds (Q.b+k) g1) w1 (t++ops) q km:=by
 have:=M.AU f.b0 hk o W hd N O rfl V (fun i D _=>Z _) ((M.nK _ hk).trans (Z _)) (bg Y (M.fuel _ hk)) Y (by rw[sK,G,tok];exact M.sets) wd (by rw[sK,tok];exact tr) F (fun g K=>aW t (fun y=>K y.symm) _ own) H R (pD M.seen (aZ G.symm) (by simp_all));rw[sK,sK]at this;omega
theorem gy.MI.ai9(M:Q.MI C nd fu gs w t q rel)(R:Q.Laws)(h:CI Q.J Q.gT C)(F:Calm Q.J C)(hk:k<C.j)(e:C.ks k=.at .wr .run)(N:Env.nZ Q.P (Q.E.ti Q.P 4) n g1)(fn:au)(pos:String):
  Q.jy C nd fu q (ao ((gs.map (ax Q.P (nd (k+1)).g g1 w)).setIfInBounds (Q.b+k) g1) w sl) (t++ai (Q.b+k) fn pos #[⟨.mark (.releaseMerge Q.E.st),false,true⟩]):=by
 have U:Q.b+k<gs.size:=by rw[M.size];omega
 have T:CI Q.J Q.gT (C.w1 k (.gX 4 n)):=h.slip hk e rfl rfl nofun nofun (fun y=>rfl) nofun rfl (fun _ _ y=>y) trivial (fun i n e=>by cases e;exact ak _) (ak _);have D:mu Q.J (C.w1 k (.gX 4 n))<mu Q.J C:=Dg R.n8 h.c1 (az hk h.jn) e (by show 5<6;omega);have us:(C.w1 k (.gX 4 n)).ks k=.gX 4 n:=upd_same _ _ _;have H:Deaf t (Q.b+k)=0:=by rw[M.mM k hk (fun q y=>by rw[e]at y;cases y),e];rfl
 have L:=M.AV (C':=C.w1 k (.gX 4 n)) (g1:=g1) (w1:=w) (ops:=ai (Q.b+k) fn pos #[⟨.mark (.releaseMerge Q.E.st),false,true⟩]) (km:=upd rel (Q.b+k) (some t.size)) R hk rfl rfl rfl rfl (fun i I=>upd_ne _ _ I) (by
   rw[us];exact⟨g1,aA U,N⟩) (fun S=>.refl _ _ _) rfl (aO D) rfl (M.wd.cfg rfl rfl rfl rfl rfl (fun e=>⟨e,rfl⟩) rfl rfl rfl)
   (by
    rw[tQ];exact M.tr.release ⟨bp _ _,by omega⟩ H (upd_same _ _ _) fun i I=>upd_ne _ _ I) pO (fun _=>by
   rw[us,aJ,H];rfl) (by
   rw[us,upd_same];exact⟨fun _=>trivial,fun _=>⟨_,rfl⟩⟩) (fun i I=>upd_ne _ _ (by omega)) (sL (m:=.releaseMerge Q.E.st) ⟨M.sets.nB _ R.rw,nofun⟩)
 have Y:Calm Q.J (C.w1 k (.gX 4 n)):=sQ (s':=.gX 4 n) (k:=k) (m':=C.m) (c':=C.c) (v':=C.v) (ij:=C.wt) (ig:=C.ws) (kO:=C.γ) (kg:=C.dn) (jI:=C.tok) F nofun nofun id fun _ y=>y;have⟨B,V,A,K,O⟩:=gy.MI.finish (g:=(nd (k+1)).g) R T L (.inl Y) Y.oY;exact⟨B,_,_,_,_,sl,_,_,rfl,A,K,O,.inl (by rw[(qf (fu:=fu) V).1];exact D)⟩
theorem ahw{s s':gV Q.E}(hk:k<Q.J.n)(e:C.ks k=s)(M:nj s'<nj s)(F:Q.J.n<=8){Y:iE Q.E}(H:Y=C.w1 k s'\/Y=(C.w1 k s').ou Q.J):Q.nu Y q<Q.nu C q:=by
 have D:=q0 (s':=s') nj _ hk e;have K:sumTo Q.J.n (fun i=>nj (Y.ks i))=sumTo Q.J.n (fun i=>nj (upd C.ks k s' i)):=by
  rcases H with rfl|rfl
  ·rfl
  ·exact sumTo_congr fun i _=>vP nj (fun _ _ _=>rfl) _ _
 have R:pv Y.dm+sumTo Q.J.n (fun i=>pw (Y.ks i))<=9:=by
  have r1:∀m,pv m<=1:=fun m=>by cases m<;>simp[pv]
  have r2:∀s:gV Q.E,pw s<=1:=fun s=>by cases s<;>simp[pw,r1]
  have:=sumTo_le (f:=fun i=>pw (Y.ks i)) (j:=Q.J.n) fun i _=>r2 _;have:=r1 Y.dm;omega
 unfold gy.nu;omega
theorem agq{s s':gV Q.E}(e:C.ks k=s)(H:∀pc md,s≠.at pc md)(R:∀pc md,s'≠.at pc md):Q.Df (C.w1 k s') fu=Q.Df C fu:=by
 funext i;cases i with
 |zero=>rfl
 |succ i=>
  show(match upd _ k s' i with|.at pc _=>Q.WS (Q.ch C i) _ pc|_=>fun _ _ _ _=>True)=(match C.ks i with|.at pc _=>Q.WS _ _ pc|_=>fun _ _ _ _=>True)
  by_cases Y:i=k
  ·subst Y;rw[upd_same,e];simp_all
  ·rw[upd_ne _ _ Y]
theorem gy.MI.Ta(M:Q.MI C nd fu gs w t q rel)(O:Q.Laws)(h:CI Q.J Q.gT C)(V:Calm Q.J C){s s':gV Q.E}(hk:k<C.j)(e:C.ks k=s)(Y:∀e∈es,e.mute=true)
  (R:(∃i n,s=.gX i (n+1)/\s'=.gX i n/\es=#[]/\Env.nZ Q.P (Q.E.ti Q.P i) n g1)\/(∃n,s=.qt (n+1)/\s'=.qt n/\aT Q.P n (aK (Deaf t (Q.b+k)) es) g1))(fn:au)(pos:String):
  Q.jy C nd fu q (ao ((gs.map (ax Q.P g g1 w)).setIfInBounds (Q.b+k) g1) w sl) (t++ai (Q.b+k) fn pos es):=by
 have B:Q.b+k<gs.size:=by rw[M.size];omega
 have U:k<Q.J.n:=az hk h.jn;have X:∀pc md,s≠.at pc md:=by rcases R with⟨i,n,rfl,_⟩|⟨n,rfl,_⟩<;>nofun
 have K:∀pc md,s'≠.at pc md:=by rcases R with⟨i,n,_,rfl,_⟩|⟨n,_,rfl,_⟩<;>nofun
 have L:iN s=.out/\iN s'=.out:=by rcases R with⟨i,n,rfl,rfl,_⟩|⟨n,rfl,rfl,_⟩<;>exact⟨rfl,rfl⟩
 have hr:mj s'=mj s/\kM s'=kM s/\jh s'=jh s/\ji s'=ji s/\Gone s/\s'≠.no/\(∀y,qy y s=0)/\nj s'<nj s:=by
  rcases R with⟨i,n,rfl,rfl,_⟩|⟨n,rfl,rfl,_⟩
  ·exact⟨rfl,rfl,rfl,rfl,trivial,nofun,fun _=>rfl,by show n<n+1;omega⟩
  ·exact⟨rfl,rfl,rfl,rfl,trivial,nofun,fun _=>rfl,by show n<n+1;omega⟩
 have f:CI Q.J Q.gT (C.w1 k s'):=h.slip hk e L.1 L.2 hr.2.2.2.2.2.1 K hr.2.2.2.2.2.2.1 (fun γ md=>X _ _) (by rw[hr.2.1]) (fun _ _ y=>by rw[hr.2.2.1,hr.2.2.2.1];exact y) hr.2.2.2.2.1 (fun i n e'=>by
  rcases R with⟨i',o,rfl,rfl,_⟩|⟨o,rfl,rfl,_⟩
  ·cases e';exact h.gX k _ _ e
  ·cases e') (ak _)
 have F:mu Q.J (C.w1 k s')=mu Q.J C:=Q7 U e hr.1 (L.2.trans L.1.symm);have us:(C.w1 k s').ks k=s':=upd_same _ _ _;have G:=M.AV (C':=C.w1 k s') (g1:=g1) (w1:=w) (ops:=ai (Q.b+k) fn pos es) (km:=rel) O hk rfl rfl rfl rfl (fun i l=>upd_ne _ _ l) (by
   rw[us];rcases R with⟨i,n,rfl,rfl,_,I⟩|⟨n,rfl,rfl,I⟩
   ·exact⟨g1,aA B,I⟩
   ·exact⟨g1,aA B,by rw[aJ];exact I⟩) (fun S=>.refl _ _ _) rfl (aZ F) rfl (M.wd.cfg rfl rfl rfl rfl rfl (fun e=>⟨e,rfl⟩) rfl rfl rfl)
   (M.tr.still fun op gh=>by
    obtain⟨ev,D,rfl⟩:=pH gh;refine⟨touch_mute (Y ev D),?_,?_,by show Q.b+k<Q.b+C.j;omega⟩
    ·intro y;have:=Y ev D;have⟨loc,wr,p⟩:=ev;cases loc<;>simp_all[Event.mute,aD]
    ·intro y;have:=Y ev D;have⟨loc,wr,p⟩:=ev;cases loc<;>simp_all[Event.mute,aD]) pO (fun I=>by
   rw[us];rcases R with⟨i,n,rfl,rfl,rfl,_⟩|⟨n,rfl,rfl,_⟩
   ·rw[aJ];have:=M.mM k hk (fun q y=>by rw[e]at y;cases y);rw[e]at this;exact this
   ·rw[us]at I;exact absurd rfl (I n)) (by
   rw[us,M.oZ k hk,e];rcases R with⟨i,n,rfl,rfl,_⟩|⟨n,rfl,rfl,_⟩<;>exact Iff.rfl) (fun _ _=>rfl) (fun op gh=>by
   obtain⟨ev,D,rfl⟩:=pH gh;exact⟨low_mute (Y ev D) _,fun a=>Om (Y ev D) a⟩)
 have H:Calm Q.J (C.w1 k s'):=sQ (s':=s') (k:=k) (m':=C.m) (c':=C.c) (v':=C.v) (ij:=C.wt) (ig:=C.ws) (kO:=C.γ) (kg:=C.dn) (jI:=C.tok) V (fun _=>K _ _) (fun _=>K _ _) id fun _ y=>y;have⟨Z,T,N,A,W⟩:=gy.MI.finish (g:=g) O f G (.inl H) H.oY;have⟨z,d⟩:=qf (fu:=fu) T;exact⟨Z,_,_,_,_,sl,_,_,rfl,N,A,W,.inr ⟨z.trans F,d.trans (agq e X K),.inr ⟨rfl,ahw U e hr.2.2.2.2.2.2.2 O.n8 T⟩⟩⟩
end
section
variable{Q:gy}{nd:Nat->Nd}{fu:Nat->Nat}{C C':iE Q.E}{w w':af}{gs ku:Array ah}{t t':aB}{q:Nat->Nat}{rel km:Nat->Option Nat}{sl:Option (Nat×Nat)}
theorem gy.MI.wd4(M:Q.MI C nd fu gs w t q rel)(R:Q.Laws)(h:CI Q.J Q.gT C)(F:Calm Q.J C)(hk:k<C.j)(e:C.ks k=.gX 4 0)(N:Env.nZ Q.P (Q.E.ti Q.P 3) n g1)(fn:au)(pos:String):
  Q.jy C nd fu q (ao ((gs.map (ax Q.P g g1 w)).setIfInBounds (Q.b+k) g1) w sl) (t++ai (Q.b+k) fn pos #[⟨.mark .disable,false,true⟩]):=by
 have I:Q.b+k<gs.size:=by rw[M.size];omega
 have L:CI Q.J Q.gT (C.w1 k (.gX 3 n)):=h.slip hk e rfl rfl nofun nofun (fun y=>rfl) nofun rfl (fun _ _ y=>y) trivial (fun i n e=>by cases e;omega) (ak _);have H:mu Q.J (C.w1 k (.gX 3 n))<mu Q.J C:=Dg R.n8 h.c1 (az hk h.jn) e (by show 4<5;omega);have us:(C.w1 k (.gX 3 n)).ks k=.gX 3 n:=upd_same _ _ _;have U:=M.AV (C':=C.w1 k (.gX 3 n)) (g1:=g1) (w1:=w) (ops:=ai (Q.b+k) fn pos #[⟨.mark .disable,false,true⟩]) (km:=rel) R hk rfl rfl rfl rfl (fun i T=>upd_ne _ _ T) (by
   rw[us];exact⟨g1,aA I,N⟩) (fun S=>.refl _ _ _) rfl (aO H) rfl (M.wd.cfg rfl rfl rfl rfl rfl (fun e=>⟨e,rfl⟩) rfl rfl rfl)
   (M.IE (by omega) fn pos (.inl rfl)) pO (fun _=>by
   rw[us,aJ,M.mM k hk (fun q y=>by rw[e]at y;cases y),e];rfl) (by
   rw[us,M.oZ k hk,e];exact Iff.rfl) (fun _ _=>rfl) (sL ⟨trivial,nofun⟩)
 have Y:Calm Q.J (C.w1 k (.gX 3 n)):=sQ (s':=.gX 3 n) (k:=k) (m':=C.m) (c':=C.c) (v':=C.v) (ij:=C.wt) (ig:=C.ws) (kO:=C.γ) (kg:=C.dn) (jI:=C.tok) F nofun nofun id fun _ y=>y;have⟨A,O,D,K,B⟩:=gy.MI.finish (g:=g) R L U (.inl Y) Y.oY;exact⟨A,_,_,_,_,sl,_,_,rfl,D,K,B,.inl (by rw[(qf (fu:=fu) O).1];exact H)⟩
theorem gy.MI.As(M:Q.MI C nd fu gs w t q rel)(F:Q.Laws)(h:CI Q.J Q.gT C)(N:Calm Q.J C){s':gV Q.E}(hk:k<C.j)(e:C.ks k=.gX i 0)(H:i<=3){w1:af}(W:Env.Eff Q.E.Wg w w1)(Z:Q.E.WgAt w1 v' ij ig)(Y:Env.EvA Q.E.Wg es)
  (R:(∃i' n,s'=.gX i' n/\i'<i/\Env.nZ Q.P (Q.E.ti Q.P i') n g1)\/(∃n,s'=.qt n/\aT Q.P n 1 g1))(pq:v'+kM s'=C.v+kM (.gX i 0:gV Q.E))(ph:∀e2 r,mU C.d C.v C.wt C.ws (e2+jh (.gX i 0:gV Q.E)) (r+ji (.gX i 0:gV Q.E))->mU C.d v' ij ig (e2+jh s') (r+ji s'))(hvd:iB Q.J v' C.d<=iB Q.J C.v C.d)(f:v'<=C.v)
  (o:(C.dm=.blk->C.ws=0->ig=0)\/(aV Q.P g=true/\(g1.status=.running\/g1.status=.finished)))(fn:au)(pos:String):
  Q.jy C nd fu q (ao ((gs.map (ax Q.P g g1 w1)).setIfInBounds (Q.b+k) g1) w1 sl) (t++ai (Q.b+k) fn pos es):=by
 have T:Q.b+k<gs.size:=by rw[M.size];omega
 have z:k<Q.J.n:=az hk h.jn;have K:∀pc md,s'≠.at pc md:=by rcases R with⟨i,n,rfl,_⟩|⟨n,rfl,_⟩<;>nofun
 have I:CI Q.J Q.gT (C.wk k s' C.d C.dm C.m C.c v' ij ig C.γ C.dn C.tok):=h.slip hk e rfl (by rcases R with⟨i,n,rfl,_⟩|⟨n,rfl,_⟩<;>rfl) (by rcases R with⟨i,n,rfl,_⟩|⟨n,rfl,_⟩<;>nofun) K (fun y=>rfl) nofun pq ph trivial (fun i' n e'=>by
  rcases R with⟨i,n,rfl,X,_⟩|⟨n,rfl,_⟩
  ·cases e';omega
  ·cases e') f
 have V:mu Q.J (C.wk k s' C.d C.dm C.m C.c v' ij ig C.γ C.dn C.tok)<mu Q.J C:=by
  refine wX F.n8 h.c1 ?_;have:=vZ (C:=C) (J:=Q.J) (s':=s') (d':=C.d) (od:=C.dm) (m':=C.m) (c':=C.c) (v':=v') (ij:=ij) (ig:=ig) (kO:=C.γ) (kg:=C.dn) (jI:=C.tok) z e;have hr:mj s'<i+1:=by
   rcases R with⟨i',n,rfl,X,_⟩|⟨n,rfl,_⟩
   ·show i'+1<i+1;omega
   ·show 0<i+1;omega
  have Uf:mj (gV.gX i 0:gV Q.E)=i+1:=rfl;omega
 have O:Deaf t (Q.b+k)=1:=by
  rw[M.mM k hk (fun q y=>by rw[e]at y;cases y),e];show(if i<=3 then 1 else 0)=1
  rw[if_pos H]
 have us:(C.wk k s' C.d C.dm C.m C.c v' ij ig C.γ C.dn C.tok).ks k=s':=upd_same _ _ _;have M1:=M.AV (C':=C.wk k s' C.d C.dm C.m C.c v' ij ig C.γ C.dn C.tok) (g1:=g1) (w1:=w1) (ops:=ai (Q.b+k) fn pos es) (km:=rel) F hk rfl rfl rfl rfl (fun i H=>upd_ne _ _ H) (by
   rw[us];rcases R with⟨i',n,rfl,_,D⟩|⟨n,rfl,D⟩
   ·exact⟨g1,aA T,D⟩
   ·exact⟨g1,aA T,by rw[aJ,Cw Y,O];exact D⟩) (fun S=>H9 S M.wd.wg Z W) W.size (aO V) rfl ((M.wd.gp F M.sets h.len W Z).cfg rfl rfl rfl rfl rfl (fun e=>⟨e,rfl⟩) rfl rfl rfl)
   (M.tr.app (.inr ⟨bp _ _,by omega⟩) (Hi Y (.inr rfl) _) (fun _ p s i x H hx hm=>by
    obtain⟨I,A,a,h3,h4,X⟩:=Xf Y (by omega) i x H hx hm;exact⟨F.Ky _ (by rw[h3];exact⟨.inr h4,X⟩),I,A⟩)) pO (fun D=>by
   rw[us,aJ,Cw Y,O];rcases R with⟨i',n,rfl,X,_⟩|⟨n,rfl,_⟩
   ·show 1=(if i'<=3 then 1 else 0)
    rw[if_pos (by omega)]
   ·rw[us]at D;exact absurd rfl (D n)) (by
   rw[us,M.oZ k hk,e];rcases R with⟨i',n,rfl,_⟩|⟨n,rfl,_⟩<;>exact Iff.rfl) (fun _ _=>rfl) (Hj Y (M.sets.nB _ F.rw) _)
 have s:∀i,C.dm=.ic->C.d=.send C.L i->∀pc,(C.wk k s' C.d C.dm C.m C.c v' ij ig C.γ C.dn C.tok).ks (i%Q.J.n)≠.at pc .ic:=by
  intro i I A l H;change upd C.ks k _ _=_ at H;by_cases e:i%Q.J.n=k
  ·rw[e,upd_same]at H;exact absurd H (K _ _)
  ·rw[upd_ne _ _ e]at H;exact N.oY i I A l H
 have U:Calm Q.J (C.wk k s' C.d C.dm C.m C.c v' ij ig C.γ C.dn C.tok)\/(aV Q.P g=true/\(g1.status=.running\/g1.status=.finished)):=
  o.imp (fun y=>sQ (s':=s') (k:=k) (m':=C.m) (c':=C.c) (v':=v') (ij:=ij) (ig:=ig) (kO:=C.γ) (kg:=C.dn) (jI:=C.tok) N (fun _=>K _ _) (fun _=>K _ _) id y) id
 have⟨u,A,G,B,M2⟩:=gy.MI.finish (g:=g) F I M1 U s;exact⟨u,_,_,_,_,sl,_,_,rfl,G,B,M2,.inl (by rw[(qf (fu:=fu) A).1];exact V)⟩
theorem gy.MI.offers(M:Q.MI C nd fu gs w t q rel)(N:Q.Laws)(H:gs[i]?=some g)(c:Nat)(send:Bool):bV g c send=[]\/(i=0/\C.dm=.ic)\/∃k pc,i=Q.b+k/\k<C.j/\C.ks k=.at pc .ic:=by
 have P:=M.size;have O:=(bI.1 H).1;rcases bQ i with rfl|A
 ·have Y:=M.g0;have f0:=M.r8 (ar _);cases B:C.dm with
  |run=>
   rw[B]at Y;obtain rfl:=Option.some.inj (H.symm.trans Y.1);exact .inl (bt (by rw[sF Y.2 fun y=>(BR f0 y).1];nofun) _ _)
  |blk=>
   rw[B]at Y;obtain rfl:=Option.some.inj (H.symm.trans Y.1);unfold bV;simp[Y.2.1]
  |ic=>exact .inr (.inl ⟨rfl,rfl⟩)
  |jU=>rw[B]at Y;exact Y.elim
 ·by_cases U:i<Q.b
  ·have:=(M.old i g A U H).status;exact .inl (bt (by rcases this with y|y<;>rw[y]<;>nofun) _ _)
  ·obtain⟨k,rfl⟩:∃k,i=Q.b+k:=⟨i-Q.b,by omega⟩;have hk:k<C.j:=by omega
   have K:=M.wk k hk;have F:=M.r8 hk;cases I:C.ks k with
   |no=>rw[I]at K;exact K.elim
   |«at» pc md=>
    rw[I]at K;have⟨D,R,L⟩:=K;obtain rfl:=Option.some.inj (H.symm.trans D);cases md with
    |run=>exact .inl (bt (by show(nd _).g.status≠_;rw[sF R fun y=>(vy N F y).1];nofun) _ _)
    |blk=>
     have:=(vy N F (L nofun)).2;unfold bV;simp[Je,this]
    |ic=>exact .inr (.inr ⟨k,pc,rfl,hk,I⟩)
    |jU=>exact .inl (bt (by nofun) _ _)
   |gX i n=>
    rw[I]at K;have⟨J,D,R⟩:=K;obtain rfl:=Option.some.inj (H.symm.trans D);exact .inl (bt (by rw[BS R];nofun) _ _)
   |qt S=>
    rw[I]at K;have⟨J,D,R⟩:=K;obtain rfl:=Option.some.inj (H.symm.trans D);exact .inl (bt (by rcases R.status with y|y<;>rw[y]<;>nofun) _ _)
theorem gy.MI.yx(M:Q.MI C nd fu gs w t q rel){pc:Q.E.kF}(hk:k<C.j)(e:C.ks k=.at pc .ic):gs[Q.b+k]?=some (bC (nd (k+1)).g #[bm (Q.ch C k) Q.E.zc] (.recv true)):=by
 have:=M.wk k hk;rw[e]at this;exact this.1
theorem yj(h:CI Q.J Q.gT C){k':Nat}(hk:k<C.j)(Y:k'<C.j)(e:Q.ch C k=Q.ch C k'):k=k':=by
 unfold gy.ch at e;rw[aX,aX,cy (by rw[h.len];exact hk),cy (by rw[h.len];omega)]at e;have K:=List.pairwise_iff_getElem.1 h.AR;have e':=e;rcases Nat.lt_trichotomy k k' with y|y|y
 ·simp_all
 ·exact y
 ·exact absurd e'.symm (K k' k _ _ y)
theorem gy.MI.agr(M:Q.MI C nd fu gs w t q rel)(H:Q.Laws)(h:CI Q.J Q.gT C)(hk:k<C.j)(F:∀pc,C.ks k≠.at pc .ic)(R:i0=0):bG (gs.setIfInBounds i0 ph) (Q.ch C k) false=[]:=by
 refine cE fun i g D=>?_;rcases bF gs i0 i g D with⟨_,rfl⟩|⟨I,Y⟩
 ·rfl
 ·rcases M.offers H Y _ _ with y|⟨rfl,_⟩|⟨k',pc,rfl,K,e⟩
  ·exact y
  ·omega
  ·obtain rfl:=Option.some.inj (Y.symm.trans (M.yx K e));rw[bW,if_neg];intro e';have:=yj h K hk e';simp_all
theorem gy.MI.noSend(M:Q.MI C nd fu gs w t q rel)(N:Q.Laws)(h:CI Q.J Q.gT C)(hk:k<C.j)(V:∀i,C.dm=.ic->C.d=.send C.L i->i%Q.J.n≠k):bG (gs.setIfInBounds i0 ph) (Q.ch C k) true=[]:=by
 refine cE fun i g O=>?_;rcases bF gs i0 i g O with⟨_,rfl⟩|⟨I,Y⟩
 ·rfl
 ·rcases M.offers N Y _ _ with y|⟨rfl,A⟩|⟨k',pc,rfl,K,e⟩
  ·exact y
  ·have R:=M.g0;rw[A]at R;have⟨_,i,c,x,z,F,U,P,D,S,B,T⟩:=R;obtain rfl:=Option.some.inj (Y.symm.trans B);rw[cD,if_neg];intro e';subst e';have H:=by
    have:=(bO.1 D).1;rw[h.len]at this;omega
   have:Q.ch C (i%Q.J.n)=Q.ch C k:=by
    unfold gy.ch at D⊢;simp_all
   exact V i A U (yj h H hk this)
  ·obtain rfl:=Option.some.inj (Y.symm.trans (M.yx K e));rw[cC]
theorem gy.MI.aeI(M:Q.MI C nd fu gs w t q rel)(H:Q.Laws)(h:CI Q.J Q.gT C){pc:Q.E.kF}(hk:k<C.j)(e:C.ks k=.at pc .ic):bG (gs.setIfInBounds 0 ph) (Q.ch C k) false=[(Q.b+k,0)]:=by
 have F:=H.b0;have U:=M.yx hk e;rw[cG (j:=Q.b+k) (by rw[mY (by omega)];exact U) (fun i g I A=>?_),bW,if_pos rfl]
 ·rfl
 ·rcases bF gs 0 i g A with⟨_,rfl⟩|⟨D,Y⟩
  ·rfl
  ·rcases M.offers H Y _ _ with y|⟨rfl,_⟩|⟨k',B,rfl,K,e'⟩
   ·exact y
   ·omega
   ·obtain rfl:=Option.some.inj (Y.symm.trans (M.yx K e'));rw[bW,if_neg];intro R;have:=yj h K hk R;omega
theorem gy.MI.aeJ(M:Q.MI C nd fu gs w t q rel)(H:Q.Laws){v:aj}(R:gs[0]?=some (bC g0 #[scase (Q.ch C k) v z] .send)):bG (gs.setIfInBounds (Q.b+k) ph) (Q.ch C k) true=[(0,0)]:=by
 have B:=H.b0;rw[cG (j:=0) (by rw[mY (by omega)];exact R) (fun i g I A=>?_),cD,if_pos rfl]
 ·rfl
 ·rcases bF gs _ i g A with⟨_,rfl⟩|⟨D,Y⟩
  ·rfl
  ·rcases M.offers H Y _ _ with y|⟨rfl,_⟩|⟨k',U,rfl,K,e'⟩
   ·exact y
   ·omega
   ·obtain rfl:=Option.some.inj (Y.symm.trans (M.yx K e'));rw[cC]
theorem gy.MI.hand(M:Q.MI C nd fu gs w t q rel)(Z:Q.Laws)(h:CI Q.J Q.gT C)(f:Calm Q.J C){x f0:Nat}{md:Md}(hk:k<C.j)(e:C.ks k=.at .recv md)(hd:C.d=.send C.L i)(hki:i%Q.J.n=k)(hx:Q.J.gq[i]?=some x)(hf:fu 0=f0+1){ops:Array aY}(hs:nR w (Q.ch C k) s)
  (h0:ku[0]?=some g0)(V:ku[Q.b+k]?=some gk)(ho:∀i,i≠0->i≠Q.b+k->ku[i]?=gs[i]?)(v:ku.size=gs.size)
  (t0:Q.E.Tree Q.P true (Q.DS f0 (Q.J.sends C.L (i+1))) (nd 0).S (nd 0).X g0 (w.setChan (Q.ch C k) 0 #[] false (s+1) (s+1) false))(tk:Q.E.Tree Q.P false (Q.WS (Q.ch C k) (fu (k+1)) (.ld x)) (nd (k+1)).S (nd (k+1)).X gk (w.setChan (Q.ch C k) 0 #[] false (s+1) (s+1) false))
  (p:∀op∈ops,op.act.touch?=none/\op.act≠.mark (.release Q.E.mu)/\op.act≠.mark (.release Q.E.st)/\op.g<Q.b+C.j)(R:∀g,Deaf (t++ops) g=Deaf t g)(o:∀op∈ops,Seen w.heap.size op):
  Q.jy C nd fu q (ao ku (w.setChan (Q.ch C k) 0 #[] false (s+1) (s+1) false) sl) (t++ops):=by
 have hb:=Z.b0;have⟨hC,z⟩:=h.hand Z.n0 Z.n8 hk e hd hx;have us:(C.hand Q.J k x i).ks k=.at (.ld x) .run:=upd_same _ _ _;have un:∀i',i'≠k->(C.hand Q.J k x i).ks i'=C.ks i':=fun i' Y=>upd_ne _ _ Y;have c:∀i',i'<=C.j->¬(nd i').S (Q.ch C k):=(M.sets.nJ _ (qm h.len hk)).2.2.2;have I:(w.setChan (Q.ch C k) 0 #[] false (s+1) (s+1) false).heap.size=w.heap.size:=by simp[bh]
 have W:=(M.sets.nJ _ (qm h.len hk)).1;have G:iT Q.J (Q.J.sends C.L (i+1))=iT Q.J C.d:=by
  rw[hd];rcases ua (J:=Q.J) (L:=C.L) (i:=i+1)with⟨_,U⟩|⟨_,U⟩<;>rw[U]<;>rfl
 have l:oV (Q.J.sends C.L (i+1))=oV C.d:=by
  rw[hd];rcases ua (J:=Q.J) (L:=C.L) (i:=i+1)with⟨_,U⟩|⟨_,U⟩<;>rw[U]<;>rfl
 have H:∀a,a≠Q.ch C k->(w.setChan (Q.ch C k) 0 #[] false (s+1) (s+1) false).heap[a]?=w.heap[a]?:=fun a ha=>by
  simp only[bh];rw[bL (fun y=>ha y.symm)]
 have D:=M.sets.nJ _ (qm h.len hk)
 let n0:Nd:=⟨(nd 0).S,(nd 0).X,g0,w.setChan (Q.ch C k) 0 #[] false (s+1) (s+1) false⟩
 let A:Nd:=⟨(nd (k+1)).S,(nd (k+1)).X,gk,w.setChan (Q.ch C k) 0 #[] false (s+1) (s+1) false⟩
 have B:upd (upd nd 0 n0) (k+1) A 0=n0:=by rw[upd_ne _ _ (by omega),upd_same]
 have F:upd (upd nd 0 n0) (k+1) A (k+1)=A:=upd_same _ _ _;have N:∀i',i'≠0->i'≠k+1->upd (upd nd 0 n0) (k+1) A i'=nd i':=fun i' V U=>by rw[upd_ne _ _ U,upd_ne _ _ V]
 have O:upd fu 0 f0 0=f0:=upd_same _ _ _;have T:∀i',i'≠0->upd fu 0 f0 i'=fu i':=fun i' V=>upd_ne _ _ V;have M1:Q.MI (C.hand Q.J k x i) (upd (upd nd 0 n0) (k+1) A) (upd fu 0 f0) ku (w.setChan (Q.ch C k) 0 #[] false (s+1) (s+1) false) (t++ops) q rel:=by
  refine⟨v.trans M.size,?_,fun i' Y=>?_,fun i' g Y r hg=>?_,fun i' Y=>?_,fun i' Y=>?_,?_,?_,?_,?_,fun i' Y hq=>?_,fun i' Y=>?_,fun i' Y=>?_,M.uY,pD M.seen (aZ I.symm) (by rw[I];exact o)⟩
  ·rw[B,O];exact⟨h0,t0⟩
  ·rw[T _ (by omega)];by_cases K:i'=k
   ·subst K;rw[F,us];exact⟨V,tk,fun y=>absurd rfl y⟩
   ·rw[N _ (by omega) (by omega),un i' K];exact(M.wk i' Y).keep (ho _ (by omega) (by omega)) (R _)
  ·rw[ho i' (by omega) (by omega)]at hg;rw[R];exact M.old i' g Y r hg
  ·by_cases K:i'=0
   ·subst K;rw[O];have:=M.fuel 0 (ar _);omega
   ·rw[T _ K];exact bg (aO z) (M.fuel i' Y)
  ·by_cases K:i'=0
   ·subst K;rw[B];exact .refl _ _ _
   ·by_cases m:i'=k+1
    ·subst m;rw[F];exact .refl _ _ _
    ·rw[N _ K m];exact(M.nK i' Y).trans (vI (c i' Y))
  ·rw[I];exact(M.sets.same (i:=0) (n':=n0) rfl rfl).same (i:=k+1) (n':=A) (by rw[upd_ne _ _ (by omega)]) (by rw[upd_ne _ _ (by omega)])
  ·have hF:Q.E.Fd≠Q.ch C k:=fun y=>D.2.1 (y▸Z.rf);have hW:Q.E.Wg≠Q.ch C k:=fun y=>D.2.1 (y▸Z.rw);refine⟨?_,?_,fun y=>?_,fun i' Y hc=>?_,fun i' Y hc=>?_,M.wd.tape,M.wd.out⟩
   ·have:=M.wd.mu;unfold Env.MuAt at this⊢;rw[H _ hF];exact this
   ·have:=M.wd.wg;unfold Env.WgAt at this⊢;rw[H _ hW];exact this
   ·rw[H _ fun y=>D.2.2.1 y.symm];exact M.wd.map y
   ·have:¬i'<iT Q.J C.d:=by rw[hd];exact aQ _
    exact absurd (G▸hc) this
   ·by_cases K:i'=k
    ·subst K;exact⟨s+1,by show(w.setChan _ 0 #[] false (s+1) (s+1) false).heap[Q.ch C i']?=_;simp only[bh];rw[aA W]⟩
    ·obtain⟨s',u⟩:=M.wd.opn i' Y (by rw[hd];exact aQ _);refine⟨s',?_⟩;show(w.setChan _ 0 #[] false (s+1) (s+1) false).heap[Q.ch C i']?=_
     rw[H _ fun y=>K (yj h Y hk y)];exact u
  ·have:Q.cls (upd (upd nd 0 n0) (k+1) A) C.j C.L=Q.cls nd C.j C.L:=by
    unfold gy.cls;rw[gy.CL (i:=k+1) (n':=A) (by rw[upd_ne _ _ (by omega)]),gy.CL (i:=0) (n':=n0) rfl]
   show PT Q.b C.j _ _ _ (Q.cls (upd (upd nd 0 n0) (k+1) A) C.j C.L) _ (C.tok.map (Q.b+ ·)) rel
   rw[this];exact M.tr.still p
  ·rw[R,M.deaf0];exact l.symm
  ·rw[R];by_cases K:i'=k
   ·subst K;rw[us,M.mM i' hk (fun q y=>by rw[e]at y;cases y),e];rfl
   ·rw[un i' K]at hq⊢;exact M.mM i' Y hq
  ·rw[R];exact M.above i' Y
  ·rw[M.oZ i' Y];by_cases K:i'=k
   ·subst K;rw[us,e];exact Iff.rfl
   ·rw[un i' K]
 refine⟨_,_,_,_,_,sl,_,_,rfl,hC,⟨fun i' pc Y=>?_,fun i' pc Y=>?_,nofun,nofun⟩,M1,.inl z⟩
 ·by_cases K:i'=k
  ·subst K;rw[us]at Y;cases Y
  ·rw[un i' K]at Y;exact f.blk i' pc Y
 ·by_cases K:i'=k
  ·subst K;rw[us]at Y;cases Y
  ·rw[un i' K]at Y;show¬i'<iT Q.J (Q.J.sends C.L (i+1))
   rw[G];exact f.ic i' pc Y
theorem zB{ops:Array aY}(h:∀op∈ops,op.act≠.mark .disable/\op.act≠.mark .enable)(g:Nat):Deaf (t++ops) g=Deaf t g:=by
 obtain⟨l⟩:=ops;rw[Deaf_append];have:∀(l:List _) (d:Nat),(∀op∈l,op.act≠.mark .disable/\op.act≠.mark .enable)->l.foldl (bU g) d=d:=by
  intro l;induction l with
  |nil=>intro d _;rfl
  |cons a l H=>
   intro d Y;rw[List.foldl_cons];have K:=Y a (by simp);have:bU g d a=d:=by
    unfold bU;simp_all
   simp_all
 simp_all
theorem gy.MI.ahx(M:Q.MI C nd fu gs w t q rel)(F:Q.Laws)(h:CI Q.J Q.gT C)(H:Calm Q.J C){md:Md}(hk:k<C.j)(e:C.ks k=.at .recv md)(N:k<iT Q.J C.d)(O:∀f,Q.E.Tree Q.P false (Q.WS (Q.ch C k) f .wr) (nd (k+1)).S (nd (k+1)).X gk w)(fn:au)(pos:String):
  Q.jy C nd fu q (ao (gs.setIfInBounds (Q.b+k) gk) w sl) (t++#[{g:=Q.b+k,fn,pos,act:=.recvClosed (Q.ch C k)}]):=by
 have R:Q.b+k<gs.size:=by rw[M.size];omega
 have⟨A,Y⟩:=h.shut F.n8 hk e N;have us:(C.w1 k (.at .wr .run)).ks k=.at .wr .run:=upd_same _ _ _;have D:=zB (t:=t) (ops:=#[({g:=Q.b+k,fn,pos,act:=.recvClosed (Q.ch C k)}:aY)]) (mn ⟨nofun,nofun⟩);have I:=M.gf (C':=C.w1 k (.at .wr .run)) (f':=fu (k+1)) (g1:=gk) (w1:=w) (ops:=#[{g:=Q.b+k,fn,pos,act:=.recvClosed (Q.ch C k)}]) (km:=rel) F hk rfl rfl rfl rfl (fun i U=>upd_ne _ _ U) (by
   rw[us];exact⟨aA R,O _,fun y=>absurd rfl y⟩) (fun S=>.refl _ _ _) rfl (bg (aO Y) (M.fuel (k+1) hk)) (aO Y) rfl (M.wd.cfg rfl rfl rfl rfl rfl (fun e=>⟨e,rfl⟩) rfl rfl rfl)
   (M.tr.still (mn ⟨rfl,nofun,nofun,by show Q.b+k<Q.b+C.j;omega⟩)) (mn rfl) (fun _=>by
   rw[us,D,M.mM k hk (fun q y=>by rw[e]at y;cases y),e];rfl) (by
   rw[us,M.xa hk e];exact⟨(fun⟨p,B⟩=>by cases B),fun y=>y.elim⟩) (fun _ _=>rfl) (mn ⟨(M.sets.nJ _ (qm h.len hk)).1,nofun⟩)
 have K:Calm Q.J (C.w1 k (.at .wr .run)):=sQ (s':=.at .wr .run) (k:=k) (m':=C.m) (c':=C.c) (v':=C.v) (ij:=C.wt) (ig:=C.ws) (kO:=C.γ) (kg:=C.dn) (jI:=C.tok) H nofun nofun id fun _ y=>y;exact⟨_,_,_,_,_,sl,_,_,rfl,A,K,I,.inl Y⟩
end
section
variable{Q:gy}{nd:Nat->Nd}{fu:Nat->Nat}{C C':iE Q.E}{w w':af}{gs ku:Array ah}{t t':aB}{q:Nat->Nat}{rel km:Nat->Option Nat}{sl:Option (Nat×Nat)}
theorem gy.MI.se(M:Q.MI C nd fu gs w t q rel)(Y:Q.Laws):0<gs.size:=by rw[M.size];have:=Y.b0;omega
theorem gy.MI.ahy(M:Q.MI C nd fu gs w t q rel)(Y:Q.Laws)(h:CI Q.J Q.gT C)(H:Calm Q.J C)(R:C.dm=.run){w1:af}{es:Array _}(G:¬Q.DS (fu 0) C.d (nd 0).S (nd 0).X (nd 0).g (nd 0).w)
  (ga:ay Q.P true (nd 0).g w=.go g1 w1 es)(hd:j9 Q.E.U (nd 0).S (nd 0).X w w1 es S1 X1)(W:Tz Q.P true Q.E.U (Q.DS (fu 0) C.d) S1 X1 g1 w1)(fn:au)(pos:String):
  Q.jy C nd fu q (ao ((gs.map (ax Q.P (nd 0).g g1 w1)).setIfInBounds 0 g1) w1 sl) (t++ai 0 fn pos es):=by
 have B:=M.se Y;have L:Q.MI C (upd nd 0 ⟨S1,X1,g1,w1⟩) (upd fu 0 (fu 0)) (gs.setIfInBounds 0 g1) w1 (t++ai 0 fn pos es) q rel:=by
  refine M.m0 Y.b0 rfl rfl rfl rfl ?_ (fun i A I=>Ql M.sets (ar _) A (fun y=>I y.symm) hd) (.refl _ _ _) (M.fuel _ (ar _)) (ak _) (M.sets.did (ar _) hd) (M.wd.did M.sets Y h.len (ar _) hd) ?_ ?_ (fun g Z=>aW t (fun y=>Z y.symm) _ pO) (pD M.seen hd.grow (Qk hd (M.sets.low _ (ar _)) _))
  ·rw[R];exact⟨aA B,W⟩
  ·exact M.Sz Y (ar _) hd fn pos (fun y=>absurd rfl y)
  ·rw[aJ,Qj hd];exact M.deaf0
 obtain⟨F,V,D,K,N⟩:=gy.MI.finish Y h L (.inl H) H.oY;obtain⟨O,T⟩:=qf V;refine⟨F,_,_,_,_,sl,_,_,rfl,D,K,N,.inr ⟨O,T,.inl ⟨0,by omega,?_,fun i _ A=>upd_ne _ _ A⟩⟩⟩;exact⟨G,w,es,M.nK _ (ar _),ga,hd⟩
theorem aeK(Y:Calm Q.J C){d':jq}(H:iT Q.J d'=iT Q.J C.d):Calm Q.J (C.dd d' .run v' ij ig):=
 ⟨Y.blk,fun k pc hk=>by show¬k<iT Q.J d';rw[H];exact Y.ic k pc hk,nofun,nofun⟩
theorem gy.MI.Di(M:Q.MI C nd fu gs w t q rel)(H:Q.Laws)(h:CI Q.J Q.gT C)(F:Calm Q.J C){d':jq}{f:Nat}{w1:af}{es:Array _}(o:fu 0=f+1)(G:Q.E.Tree Q.P true (Q.DS f d') (nd 0).S (nd 0).X g1 w1)
  (W:∀i,i<=C.j->i≠0->gR Q.E.U (nd i).S w w1)(O:w1.heap.size=w.heap.size)(V:CI Q.J Q.gT (C.dd d' .run v' ij ig))(N:mu Q.J (C.dd d' .run v' ij ig)<mu Q.J C)(wd:Q.Wd (C.dd d' .run v' ij ig) w1)(fn:au)(pos:String)
  (tr:PT Q.b C.j Q.E.mu Q.E.st Q.jb (Q.cls nd C.j C.L) (t++ai 0 fn pos es) (C.tok.map (Q.b+ ·)) rel)(df:oV d'=aK (oV C.d) es)(low:∀op∈ai 0 fn pos es,Seen w.heap.size op)(R:iT Q.J d'=iT Q.J C.d\/(aV Q.P (nd 0).g=true/\(g1.status=.running\/g1.status=.finished))):
  Q.jy C nd fu q (ao ((gs.map (ax Q.P (nd 0).g g1 w1)).setIfInBounds 0 g1) w1 sl) (t++ai 0 fn pos es):=by
 have D:=M.se H;have A:Q.MI (C.dd d' .run v' ij ig) (upd nd 0 ⟨(nd 0).S,(nd 0).X,g1,w1⟩) (upd fu 0 f) (gs.setIfInBounds 0 g1) w1 (t++ai 0 fn pos es) q rel:=by
  refine M.m0 (C':=C.dd d' .run v' ij ig) H.b0 rfl rfl rfl rfl ?_ W (.refl _ _ _) (by have:=M.fuel 0 (ar _);omega) (aO N) (by rw[O];exact M.sets.same rfl rfl) wd ?_ ?_ (fun g Z=>aW t (fun y=>Z y.symm) _ pO) (pD M.seen (aZ O.symm) (by simp_all))
  ·exact⟨aA D,G⟩
  ·unfold gy.cls;rw[gy.CL (n':=⟨(nd 0).S,(nd 0).X,g1,w1⟩) rfl];exact tr
  ·rw[aJ,M.deaf0];exact df.symm
 have⟨I,T,K,Y,B⟩:=gy.MI.finish H V A (R.imp (aeK F) id) nofun;exact⟨I,_,_,_,_,sl,_,_,rfl,K,Y,B,.inl (by rw[(qf (fu:=fu) T).1];omega)⟩
theorem gy.MI.Dj(M:Q.MI C nd fu gs w t q rel)(R:Q.Laws)(h:CI Q.J Q.gT C)(H:Calm Q.J C){d':jq}{f:Nat}{m:Mark}(F:m=.disable\/m=.enable)(O:fu 0=f+1)(V:Q.E.Tree Q.P true (Q.DS f d') (nd 0).S (nd 0).X g1 w)
  (N:CI Q.J Q.gT (C.dd d' .run C.v C.wt C.ws))(hr:iB Q.J C.v d'<iB Q.J C.v C.d)(fn:au)(pos:String)(df:oV d'=aK (oV C.d) #[⟨.mark m,false,true⟩])(Y:iT Q.J d'=iT Q.J C.d):
  Q.jy C nd fu q (ao ((gs.map (ax Q.P (nd 0).g g1 w)).setIfInBounds 0 g1) w sl) (t++ai 0 fn pos #[⟨.mark m,false,true⟩]):=
 M.Di R h H O V (fun _ _ _=>.refl _ _ _) rfl N (De hr) (M.wd.cfg rfl rfl rfl rfl rfl (fun e=>⟨e,rfl⟩) rfl rfl Y) fn pos (M.IE (by have:=R.b0;omega) fn pos F) df (sL (by rcases F with rfl|rfl<;>exact⟨trivial,nofun⟩)) (.inl Y)
theorem gy.MI.SA(M:Q.MI C nd fu gs w t q rel)(F:Q.Laws)(h:CI Q.J Q.gT C)(R:Calm Q.J C){d':jq}{f:Nat}{m:Mark}(H:m=.read Q.E.sm\/m=.write Q.E.sm)(O:fu 0=f+1)(V:Q.E.Tree Q.P true (Q.DS f d') (nd 0).S (nd 0).X g1 w)
  (N:CI Q.J Q.gT (C.dd d' .run C.v C.wt C.ws))(hr:iB Q.J C.v d'<iB Q.J C.v C.d)(fn:au)(pos:String)(df:oV d'=oV C.d)(Y:iT Q.J d'=iT Q.J C.d):
  Q.jy C nd fu q (ao ((gs.map (ax Q.P (nd 0).g g1 w)).setIfInBounds 0 g1) w sl) (t++ai 0 fn pos #[⟨.mark m,false,true⟩]):=by
 have D:Q.cls nd C.j C.L (.cell Q.E.sm)=.at:=by
  simp only[mL];rw[if_pos (⟨.inr rfl,by omega⟩)]
 refine M.Di F h R O V (fun _ _ _=>.refl _ _ _) rfl N (De hr) (M.wd.cfg rfl rfl rfl rfl rfl (fun e=>⟨e,rfl⟩) rfl rfl Y) fn pos ?_ ?_ (sL ?_) (.inl Y)
 ·rw[tQ];refine M.tr.app (.inl rfl) (mn ?_) fun y=>absurd rfl y;refine⟨rfl,?_,?_,fun x K=>?_⟩
  ·rcases H with rfl|rfl<;>nofun
  ·rcases H with rfl|rfl<;>nofun
  ·rcases H with rfl|rfl<;>simp[aI,a_]at K<;>subst K<;>exact .inr (.inr (.inl ⟨D,rfl,rfl⟩))
 ·rcases H with rfl|rfl<;>exact df
 ·have:=M.sets.nB _ F.rw;rcases H with rfl|rfl<;>exact⟨this,nofun⟩
theorem gy.MI.uZ(M:Q.MI C nd fu gs w t q rel)(F:Q.Laws)(h:CI Q.J Q.gT C)(N:Calm Q.J C){d':jq}{f:Nat}{w1:af}{es:Array _}(Z:fu 0=f+1)(G:Q.E.Tree Q.P true (Q.DS f d') (nd 0).S (nd 0).X g1 w1)(O:Env.Eff Q.E.Wg w w1)(R:Q.E.WgAt w1 v' ij ig)(Y:Env.EvA Q.E.Wg es)
  (V:CI Q.J Q.gT (C.dd d' .run v' ij ig))(hr:iB Q.J v' d'<iB Q.J C.v C.d)(fn:au)(pos:String)(df:oV d'=oV C.d)(H:iT Q.J d'=iT Q.J C.d):
  Q.jy C nd fu q (ao ((gs.map (ax Q.P (nd 0).g g1 w1)).setIfInBounds 0 g1) w1 sl) (t++ai 0 fn pos es):=
 M.Di F h N Z G (fun _ _ _=>H9 _ M.wd.wg R O) O.size V (De hr) ((M.wd.gp F M.sets h.len O R).cfg rfl rfl rfl rfl rfl (fun e=>⟨e,rfl⟩) rfl rfl H) fn pos
  (M.tr.app (.inl rfl) (Hi Y (.inr rfl) _) fun y=>absurd rfl y) (by rw[Cw Y];exact df) (Hj Y (M.sets.nB _ F.rw) _) (.inl H)
theorem gy.MI.ags(M:Q.MI C nd fu gs w t q rel)(V:Q.Laws)(h:CI Q.J Q.gT C)(Z:Calm Q.J C){f:Nat}(hk:k<C.j)(hd:C.d=.close C.L k)(hs:nR w (Q.ch C k) s)(hw:aV Q.P (nd 0).g=true)(G:g1.status=.running)(r:fu 0=f+1)
  (ht:Q.E.Tree Q.P true (Q.DS f (Q.J.closes C.L (k+1))) (nd 0).S (nd 0).X g1 (w.setChan (Q.ch C k) 0 #[] true s s false))(fn:au)(pos:String):
  Q.jy C nd fu q (ao ((gs.map (ax Q.P (nd 0).g g1 (w.setChan (Q.ch C k) 0 #[] true s s false))).setIfInBounds 0 g1) (w.setChan (Q.ch C k) 0 #[] true s s false) sl) (t++ai 0 fn pos (br (Q.ch C k))):=by
 have Y:=M.sets.nJ _ (qm h.len hk);have D:=h.nI;rw[hd]at D;have m:C.j=Q.J.n:=D.2.1;have b:k<Q.J.n:=D.2.2;have N:iT Q.J (Q.J.closes C.L (k+1))=k+1:=by
  unfold iA.closes;by_cases y:k+1<C.L.length
  ·rw[if_pos y];rfl
  ·rw[if_neg y];show Q.J.n=k+1
   rw[h.len]at y;omega
 have AW:iT Q.J C.d=k:=by rw[hd];rfl
 have W:(w.setChan (Q.ch C k) 0 #[] true s s false).heap.size=w.heap.size:=by simp[bh]
 have K:∀a,a≠Q.ch C k->(w.setChan (Q.ch C k) 0 #[] true s s false).heap[a]?=w.heap[a]?:=fun a p=>by
  simp only[bh];rw[bL (fun y=>p y.symm)]
 have T:∀O R,mU C.d C.v C.wt C.ws O R->mU (Q.J.closes C.L (k+1)) C.v C.wt C.ws O R:=by
  intro O R c;rw[hd]at c;have⟨a1,a2,a3,a4⟩:=c.early id;unfold iA.closes;split<;>exact .inl ⟨a1,a2,a3,a4,id,fun y=>y.elim⟩
 have l:CI Q.J Q.gT (C.dd (Q.J.closes C.L (k+1)) .run C.v C.wt C.ws):=by
  refine h.dd ⟨nofun,nofun,nofun⟩ ?_ ?_ T (by rw[N,AW];omega) ?_ (fun v0 R=>by unfold iA.closes at R;split at R<;>cases R)
  ·rw[hd];unfold iA.closes;split<;>rfl
  ·rw[hd];unfold iA.closes;split<;>rfl
  ·unfold iA.closes;split
   ·rename_i y;rw[h.len]at y;exact⟨rfl,D.2.1,by omega⟩
   ·exact D.2.1
 have hr:iB Q.J C.v (Q.J.closes C.L (k+1))<iB Q.J C.v C.d:=by
  rw[hd];unfold iA.closes;split
  ·simp only[iB];omega
  ·simp only[iB];omega
 have hF:Q.E.Fd≠Q.ch C k:=fun y=>Y.2.1 (y▸V.rf);have o:Q.E.Wg≠Q.ch C k:=fun y=>Y.2.1 (y▸V.rw);have B:Q.cls nd C.j C.L (.obj (Q.ch C k))=.own 0:=Qh Y.2.1 Y.2.2.1 (.inr ⟨rfl,qm h.len hk⟩) fun i' H=>M.sets.uniq H (.inr ⟨rfl,qm h.len hk⟩);refine M.Di V h Z r ht (fun i u _=>vI (Y.2.2.2 i u)) W l (De hr) ⟨?_,?_,fun y=>?_,fun i' H A=>?_,fun i' H A=>?_,M.wd.tape,M.wd.out⟩ fn pos ?_ ?_ ?_ (.inr ⟨hw,.inl G⟩)
 ·have:=M.wd.mu;unfold Env.MuAt at this⊢;rw[K _ hF];exact this
 ·have:=M.wd.wg;unfold Env.WgAt at this⊢;rw[K _ o];exact this
 ·rw[K _ fun y=>Y.2.2.1 y.symm];exact M.wd.map y
 ·change i'<iT Q.J (Q.J.closes C.L (k+1))at A;rw[N]at A;by_cases z:i'=k
  ·subst z;refine⟨s,?_⟩;show(w.setChan _ 0 #[] true s s false).heap[Q.ch C i']?=_
   simp only[bh];rw[aA Y.1]
  ·obtain⟨s',I⟩:=M.wd.shut i' H (by rw[AW];omega);refine⟨s',?_⟩;show(w.setChan _ 0 #[] true s s false).heap[Q.ch C i']?=_
   rw[K _ fun y=>z (yj h H hk y)];exact I
 ·change¬i'<iT Q.J (Q.J.closes C.L (k+1))at A;rw[N]at A;obtain⟨s',I⟩:=M.wd.opn i' H (by rw[AW];omega);refine⟨s',?_⟩;show(w.setChan _ 0 #[] true s s false).heap[Q.ch C i']?=_
  rw[K _ fun y=>by have:=yj h H hk y;omega];exact I
 ·refine M.tr.app (g:=0) (.inl rfl) (fun op gh=>?_) fun y=>absurd rfl y;obtain⟨ev,U,rfl⟩:=pH gh;simp only[br,aM,aL,aN,or_false]at U;rcases U with rfl|rfl
  ·refine⟨rfl,nofun,nofun,fun x F=>?_⟩;simp only[aD,aI,a_]at F;subst F;exact .inr (.inr (.inr (.inr (.inr B))))
  ·exact⟨rfl,nofun,nofun,fun x F=>by simp[aD,aI]at F⟩
 ·rw[hd];have:aK 0 (br (Q.ch C k))=0:=by simp[br,aK]
  show oV (Q.J.closes C.L (k+1))=aK 0 _
  rw[this];unfold iA.closes;split<;>rfl
 ·intro op gh;obtain⟨ev,U,rfl⟩:=pH gh;simp only[br,aM,aL,aN,or_false]at U;rcases U with rfl|rfl
  ·exact⟨Y.1,nofun⟩
  ·exact⟨Y.1,nofun⟩
theorem ahz{s s':gV Q.E}(hk:k<Q.J.n)(e:C.ks k=s)(H:nj s'=nj s)(hr:pw s'<pw s):Q.nu (C.w1 k s') q<Q.nu C q:=by
 have Y:=q0 (s':=s') nj _ hk e;have K:=q0 (s':=s') pw _ hk e;show 10 *(sumTo Q.b q+sumTo _ (fun i=>nj (upd _ k s' i)))+(pv C.dm+sumTo _ (fun i=>pw (upd _ k s' i)))<10 *(sumTo Q.b q+sumTo _ _)+(pv _+sumTo _ _)
 omega
theorem ahA{pc:Q.E.kF}{md Y:Md}(e:C.ks k=.at pc md):Q.Df (C.w1 k (.at pc Y)) fu=Q.Df C fu:=by
 funext i;cases i with
 |zero=>rfl
 |succ i=>
  show(match upd C.ks k _ i with|.at pc _=>Q.WS (Q.ch C i) _ pc|_=>fun _ _ _ _=>True)=(match C.ks i with|.at pc _=>Q.WS (Q.ch C i) _ pc|_=>fun _ _ _ _=>True)
  by_cases K:i=k
  ·subst K;rw[upd_same,e]
  ·rw[upd_ne _ _ K]
theorem gy.MI.SB(M:Q.MI C nd fu gs w t q rel)(V:Q.Laws)(h:CI Q.J Q.gT C)(R:Calm Q.J C){pc:Q.E.kF}{lN:Md}(hk:k<C.j)(e:C.ks k=.at pc .run)(ga:Q.WS (Q.ch C k) (fu (k+1)) pc (nd (k+1)).S (nd (k+1)).X (nd (k+1)).g (nd (k+1)).w)
  (H:(lN=.blk/\(∃sv x,pc=.lk (.s1 sv) x)/\C.c=0)\/(lN=.ic/\pc=.recv/\¬k<iT Q.J C.d/\∀i,C.dm=.ic->C.d=.send C.L i->i%Q.J.n≠k)):
  Q.jy C nd fu q (ao (gs.setIfInBounds (Q.b+k) (Je (Q.ch C k) Q.E.zc lN (nd (k+1)).g)) w sl) (t++#[]):=by
 have N:Q.b+k<gs.size:=by rw[M.size];omega
 have B:k<Q.J.n:=az hk h.jn;have P:CI Q.J Q.gT (C.w1 k (.at pc lN)):=by
  refine h.quiet hk e rfl (fun y=>rfl) (fun γ y=>?_) (fun γ y=>?_) ?_ (fun y=>?_) (fun p x y=>h.qK k p x .run (by rw[e,y])) (fun p y=>h.oE k p .run (by rw[e,y]))
  ·simp_all
  ·simp_all
  ·rcases H with⟨rfl,I,_⟩|⟨rfl,rfl,_⟩
   ·simp_all
   ·simp
  ·rcases H with⟨rfl,⟨sv,x,rfl⟩,_⟩|⟨rfl,rfl,_⟩<;>exact y.elim
 have F:mu Q.J (C.w1 k (.at pc lN))=mu Q.J C:=Q7 B e rfl rfl;have us:(C.w1 k (.at pc lN)).ks k=.at pc lN:=upd_same _ _ _;have un:∀i,i≠k->(C.w1 k (.at pc lN)).ks i=C.ks i:=fun i Y=>upd_ne _ _ Y;have O:=M.AV (C':=C.w1 k (.at pc lN)) (w1:=w) (ops:=#[]) (km:=rel) V hk rfl rfl rfl rfl un (by
   rw[us];exact⟨aA N,.stop ga,fun _=>ga⟩) (fun S=>.refl _ _ _) rfl (aZ F) rfl (M.wd.cfg rfl rfl rfl rfl rfl (fun e=>⟨e,rfl⟩) rfl rfl rfl)
   (by exact M.tr) (by simp) (fun _=>by
   rw[us,bX,M.mM k hk (fun q y=>by rw[e]at y;cases y),e];rfl) (by
   rw[us,M.oZ k hk,e];exact Iff.rfl) (fun _ _=>rfl) (by simp)
 have A:Calm Q.J (C.w1 k (.at pc lN)):=by
  refine⟨fun i K Y=>?_,fun i K Y=>?_,R.Jr,fun i hd U K Y=>?_⟩
  ·by_cases D:i=k
   ·subst D;rcases H with⟨_,_,I⟩|⟨rfl,_⟩
    ·exact I
    ·rw[us]at Y;cases Y
   ·rw[un i D]at Y;exact R.blk i K Y
  ·by_cases D:i=k
   ·subst D;rcases H with⟨rfl,_⟩|⟨_,_,I,_⟩
    ·rw[us]at Y;cases Y
    ·exact I
   ·rw[un i D]at Y;exact R.ic i K Y
  ·by_cases D:i%Q.J.n=k
   ·rcases H with⟨rfl,_⟩|⟨_,_,_,I⟩
    ·simp_all
    ·exact I i hd U D
   ·rw[un _ D]at Y;exact R.oY i hd U K Y
 refine⟨_,_,_,_,_,sl,_,_,rfl,P,A,O,.inr ⟨F,ahA e,.inr ⟨rfl,ahz B e rfl ?_⟩⟩⟩;rcases H with⟨rfl,_⟩|⟨rfl,_⟩<;>exact Nat.zero_lt_one
theorem gy.MI.SC(M:Q.MI C nd fu gs w t q rel)(O:Q.Laws)(h:CI Q.J Q.gT C)(H:Calm Q.J C){lN:Md}(F:C.dm=.run)(N:Q.wY (gs.setIfInBounds 0 g1) (nd 0) (fu 0) C.L C.d lN)
  (Y:(lN=.blk/\C.d=.w3/\C.ws=0)\/(lN=.ic/\∃i,C.d=.send C.L i/\∀pc,C.ks (i%Q.J.n)≠.at pc .ic)):
  Q.jy C nd fu q (ao (gs.setIfInBounds 0 g1) w sl) (t++#[]):=by
 have A:CI Q.J Q.gT (C.dd C.d lN C.v C.wt C.ws):=by
  refine h.dd ?_ rfl rfl (fun _ _ y=>y) (ak _) h.nI h.w2;rcases Y with⟨rfl,K,_⟩|⟨rfl,i,K,_⟩
  ·simp_all
  ·simp_all
 have R:mu Q.J _=mu Q.J C:=rfl;have I:=M.m0 (C':=C.dd C.d lN C.v _ _) (t':=t++#[]) O.b0 rfl rfl rfl rfl N (fun _ _ _=>.refl _ _ _) (M.nK 0 (ar _)) (M.fuel 0 (ar _)) (aZ R) (by rw[sK];exact M.sets) (M.wd.cfg rfl rfl rfl rfl rfl (fun e=>⟨e,rfl⟩) rfl rfl rfl)
  (by rw[sK,bX];exact M.tr) (by exact M.deaf0) (fun g _=>by simp) (by exact M.seen)
 rw[sK,sK]at I;have D:Calm Q.J (C.dd C.d lN C.v C.wt C.ws):=by
  refine⟨H.blk,H.ic,fun y=>?_,fun i y hd=>?_⟩
  ·rcases Y with⟨_,_,K⟩|⟨rfl,_⟩
   ·exact K
   ·cases y
  ·rcases Y with⟨rfl,_⟩|⟨_,i',K,U⟩
   ·cases y
   ·rw[K]at hd;cases hd;exact U
 refine⟨_,_,_,_,_,sl,_,_,rfl,A,D,I,.inr ⟨R,rfl,.inr ⟨rfl,?_⟩⟩⟩;show 10 *(sumTo Q.b q+sumTo _ (fun k=>nj (C.ks k)))+(pv lN+sumTo _ (fun k=>pw (C.ks k)))<10 *(sumTo Q.b q+sumTo _ _)+(pv _+sumTo _ _)
 rw[F];have P:pv .run=1:=rfl;have B:pv lN=0:=by rcases Y with⟨rfl,_⟩|⟨rfl,_⟩<;>rfl
 omega
theorem gy.MI.aeL(M:Q.MI C nd fu gs w t q rel)(N:Q.Laws)(h:CI Q.J Q.gT C)(F:Calm Q.J C)(v:0<i)(O:i<Q.b)(V:q i=n+1)(H:∀e∈es,e.mute=true)(Z:aT Q.P n (aK (Deaf t i) es) g1)(fn:au)(pos:String):
  Q.jy C nd fu q (ao ((gs.map (ax Q.P g g1 w)).setIfInBounds i g1) w sl) (t++ai i fn pos es):=by
 have u:=N.b0;have S:i<gs.size:=by rw[M.size];omega
 have Y:∀g,g≠i->Deaf (t++ai i fn pos es) g=Deaf t g:=fun g I=>aW t (fun y=>I y.symm) _ pO;have G:Q.MI C nd fu (gs.setIfInBounds i g1) w (t++ai i fn pos es) (upd q i n) rel:=by
  refine⟨by simp[M.size],M.g0.keep (mY (by omega)),fun k hk=>(M.wk k hk).keep (mY (by omega)) (Y _ (by omega)),fun i' o K U I=>?_,M.fuel,M.nK,M.sets,M.wd,?_,?_,fun k hk V=>by rw[Y _ (by omega)];exact M.mM k hk V,fun i' K=>by rw[Y _ (by omega)];exact M.above i' K,M.oZ,M.uY,pD M.seen (ak _) fun op gh=>by
   obtain⟨ev,R,rfl⟩:=pH gh;exact⟨low_mute (H ev R) _,fun a=>Om (H ev R) a⟩⟩
  ·by_cases B:i'=i
   ·subst B;rw[aA S]at I;obtain rfl:=Option.some.inj I;rw[upd_same,aJ];exact Z
   ·rw[mY (fun y=>B y.symm)]at I;rw[upd_ne _ _ B,Y _ B];exact M.old i' o K U I
  ·refine M.tr.still fun op gh=>?_;obtain⟨ev,R,rfl⟩:=pH gh;refine⟨touch_mute (H ev R),?_,?_,by show i<Q.b+C.j;omega⟩
   ·intro y;have:=H ev R;have⟨loc,wr,p⟩:=ev;cases loc<;>simp_all[Event.mute,aD]
   ·intro y;have:=H ev R;have⟨loc,wr,p⟩:=ev;cases loc<;>simp_all[Event.mute,aD]
  ·rw[Y 0 (by omega)];exact M.deaf0
 have⟨D,T,L,A,W⟩:=gy.MI.finish (g:=g) N h G (.inl F) F.oY;have⟨z,d⟩:=qf (fu:=fu) T;refine⟨D,_,_,_,_,sl,_,_,rfl,L,A,W,.inr ⟨z,d,.inr ⟨rfl,?_⟩⟩⟩;have X:sumTo Q.b (upd q i n)+(n+1)=sumTo Q.b q+n:=by
  have:=sumTo_upd q n id O;simpa[V]using this
 have l:sumTo Q.J.n (fun i=>nj (D.ks i))=sumTo Q.J.n (fun i=>nj (C.ks i)):=by
  rcases T with rfl|rfl
  ·rfl
  ·exact sumTo_congr fun i _=>vP nj (fun _ _ _=>rfl) _ _
 have r:pv D.dm+sumTo Q.J.n (fun i=>pw (D.ks i))<=9:=by
  have r1:∀m:Md,pv m<=1:=fun m=>by cases m<;>simp[pv]
  have r2:∀s:gV Q.E,pw s<=1:=fun s=>by cases s<;>simp[pw,r1]
  have:=sumTo_le (f:=fun i=>pw (D.ks i)) (c:=1) (j:=Q.J.n) fun i _=>r2 _;have:=r1 D.dm;have:=N.n8;omega
 unfold gy.nu;rw[l];omega
end
section
variable{Q:gy}{nd:Nat->Nd}{fu:Nat->Nat}{C C':iE Q.E}{w w':af}{gs ku:Array ah}{t t':aB}{q:Nat->Nat}{rel km:Nat->Option Nat}{sl:Option (Nat×Nat)}
theorem zP(c f:Nat):Q.WS c f .recv=Q.A c:=by
 cases f<;>rfl
theorem R9(h:CI Q.J Q.gT C){c:Nat}(hk:k<C.j):(C.L++[c]).getD k 0=Q.ch C k:=by
 unfold gy.ch;rw[aX,aX,List.getElem?_append_left (by rw[h.len];exact hk)]
theorem R_(h:CI Q.J Q.gT C){c:Nat}:(C.L++[c]).getD C.j 0=c:=by
 rw[aX,List.getElem?_append_right (by rw[h.len];omega),h.len];simp
theorem gy.MI.agt(M:Q.MI C nd fu gs w t q rel)(m:Q.Laws)(h:CI Q.J Q.gT C)(JW:Calm Q.J C){c f:Nat}{child:ah}(hd:C.d=.go C.L c)(hf:fu 0=f+1)(W:(nd 0).S c)(AX:(nd 0).X c)(KC:nR w c 0)(Jt:Q.kq c child w)
  (ht:Q.E.Tree Q.P true (Q.DS f (Q.J.ky (C.L++[c]))) (fun a=>(nd 0).S a/\a≠c) (fun a=>(nd 0).X a/\a≠c) g1 w)(fn:au)(pos:String)(iV:au)(F:String):
  Q.jy C nd fu q (ao ((gs.setIfInBounds 0 g1).push child) w sl) (t++#[{g:=0,fn,pos,act:=.go (Q.b+C.j)}]++#[{g:=Q.b+C.j,fn:=iV,pos:=F,act:=.start}]):=by
 have hb:=m.b0;have pd:=M.se m;have hcL:c∉C.L:=fun y=>(M.sets.nJ c y).2.2.2 0 (ar _) W;have r:¬Q.RO c:=fun y=>M.sets.mG 0 (ar _) c y AX;have hcM:c≠Q.E.Mp:=fun y=>by
  rw[y]at W;obtain⟨k,e,_⟩:=M.sets.mp 0 (ar _) W;cases e
 have ai_:=M.sets.low 0 (ar _) c W;have⟨hC,hrk⟩:=h.spawn m.n0 m.n8 hd hcL;have KD:mu Q.J (C.spawn Q.J c)<mu Q.J C:=wX m.n8 (show(C.spawn Q.J c).c<=1 from h.c1) hrk;have us:(C.spawn Q.J c).ks C.j=.at .recv .run:=upd_same _ _ _;have un:∀i,i≠C.j->(C.spawn Q.J c).ks i=C.ks i:=fun i D=>upd_ne _ _ D
 let n0:Nd:=⟨fun a=>(nd 0).S a/\a≠c,fun a=>(nd 0).X a/\a≠c,g1,w⟩
 let V:Nd:=⟨Q.RO,fun _=>False,child,w⟩
 have u:upd (upd nd 0 n0) (C.j+1) V 0=n0:=by rw[upd_ne _ _ (by omega),upd_same]
 have v:upd (upd nd 0 n0) (C.j+1) V (C.j+1)=V:=upd_same _ _ _;have x:∀i,i≠0->i≠C.j+1->upd (upd nd 0 n0) (C.j+1) V i=nd i:=fun i Y H=>by rw[upd_ne _ _ H,upd_ne _ _ Y]
 have f0:upd (upd fu 0 f) (C.j+1) (mu Q.J C) 0=f:=by rw[upd_ne _ _ (by omega),upd_same]
 have fk:upd (upd fu 0 f) (C.j+1) (mu Q.J C) (C.j+1)=mu Q.J C:=upd_same _ _ _;have fo:∀i,i≠0->i≠C.j+1->upd (upd fu 0 f) (C.j+1) (mu Q.J C) i=fu i:=fun i Y H=>by rw[upd_ne _ _ H,upd_ne _ _ Y]
 have cN:iT Q.J (Q.J.ky (C.L++[c]))=0:=by
  rcases tX (J:=Q.J) (L:=C.L++[c])with⟨_,e⟩|⟨_,_,e⟩|⟨_,_,e⟩<;>rw[e]<;>rfl
 have dN:oV (Q.J.ky (C.L++[c]))=0:=by
  rcases tX (J:=Q.J) (L:=C.L++[c])with⟨_,e⟩|⟨_,_,e⟩|⟨_,_,e⟩<;>rw[e]<;>rfl
 have O:∀g,Deaf (t++#[({g:=0,fn,pos,act:=.go (Q.b+C.j)}:aY)]++#[{g:=Q.b+C.j,fn:=iV,pos:=F,act:=.start}]) g=Deaf t g:=fun g=>by
  rw[zB (ops:=#[({g:=Q.b+C.j,fn:=iV,pos:=F,act:=.start}:aY)]) (mn ⟨nofun,nofun⟩),zB (ops:=#[({g:=0,fn,pos,act:=.go (Q.b+C.j)}:aY)]) (mn ⟨nofun,nofun⟩)]
 have G:(gs.setIfInBounds 0 g1).size=Q.b+C.j:=by simp[M.size]
 have gp:∀i,i≠0->i≠Q.b+C.j->((gs.setIfInBounds 0 g1).push child)[i]?=gs[i]?:=fun i Y H=>by
  rw[bK,if_neg (by rw[G];exact H),mY (fun y=>Y y.symm)]
 have M1:Q.MI (C.spawn Q.J c) (upd (upd nd 0 n0) (C.j+1) V) (upd (upd fu 0 f) (C.j+1) (mu Q.J C)) ((gs.setIfInBounds 0 g1).push child) w (t++#[{g:=0,fn,pos,act:=.go (Q.b+C.j)}]++#[{g:=Q.b+C.j,fn:=iV,pos:=F,act:=.start}]) q rel:=by
  refine⟨?_,?_,fun k hk=>?_,fun i g D hib hg=>?_,fun i D=>?_,fun i D=>?_,?_,?_,?_,?_,fun k hk hq=>?_,fun i D=>?_,fun k hk=>?_,fun k hk=>?_,?_⟩
  ·rw[Array.size_push,G];rfl
  ·rw[u,f0];refine⟨?_,ht⟩;rw[bK,if_neg (by rw[G];omega),aA pd]
  ·have l:k<C.j+1:=hk;by_cases B:k=C.j
   ·subst B;rw[v,fk,us];refine⟨?_,?_,fun y=>absurd rfl y⟩
    ·rw[bK,if_pos (by rw[G])];rfl
    ·rw[zP];show Tz Q.P false Q.E.U (Q.A ((C.L++[c]).getD C.j 0)) _ _ _ _
     rw[R_ h];exact m.Eg Jt
   ·rw[x _ (by omega) (by omega),fo _ (by omega) (by omega),un k B];show Q.tA ((C.L++[c]).getD k 0) _ _ _ _ _ _
    rw[R9 h (by omega)];exact(M.wk k (by omega)).keep (gp _ (by omega) (by omega)) (O _)
  ·rw[gp i (by omega) (by omega)]at hg;rw[O];exact M.old i g D hib hg
  ·have N:i<=C.j+1:=D;by_cases Y:i=0
   ·subst Y;rw[f0];have:=M.fuel 0 (ar _);omega
   ·by_cases H:i=C.j+1
    ·subst H;rw[fk];omega
    ·rw[fo i Y H];have:=M.fuel i (by omega);omega
  ·have N:i<=C.j+1:=D;by_cases Y:i=0
   ·subst Y;rw[u];exact .refl _ _ _
   ·by_cases H:i=C.j+1
    ·subst H;rw[v];exact .refl _ _ _
    ·rw[x i Y H];exact M.nK i (by omega)
  ·
   have S':∀i a,i<=C.j+1->(upd (upd nd 0 n0) (C.j+1) V i).S a->(i<=C.j/\(nd i).S a/\(i=0->a≠c))\/(i=C.j+1/\Q.RO a):=by
    intro i a D K;by_cases Y:i=0
    ·subst Y;rw[u]at K;exact .inl ⟨ar _,K.1,fun _=>K.2⟩
    ·by_cases H:i=C.j+1
     ·subst H;rw[v]at K;exact .inr ⟨rfl,K⟩
     ·rw[x i Y H]at K;exact .inl ⟨by omega,K,fun y=>absurd y Y⟩
   have X':∀i a,i<=C.j+1->(upd (upd nd 0 n0) (C.j+1) V i).X a->i<=C.j/\(nd i).X a/\(i=0->a≠c):=by
    intro i a D K;by_cases Y:i=0
    ·subst Y;rw[u]at K;exact⟨ar _,K.1,fun _=>K.2⟩
    ·by_cases H:i=C.j+1
     ·subst H;rw[v]at K;exact K.elim
     ·rw[x i Y H]at K;exact⟨by omega,K,fun y=>absurd y Y⟩
   refine⟨fun i i' D N I a T K=>?_,fun i D a K=>?_,fun i D a K=>?_,fun i D a hr T=>?_,fun i D a T=>?_,fun i D K=>?_,M.sets.nB,M.sets.tC,fun c' hc'=>?_⟩
   ·have⟨a1,a2,_⟩:=X' i a D T;rcases S' i' a N K with⟨Z,R,_⟩|⟨_,R⟩
    ·exact M.sets.wZ i i' a1 Z I a a2 R
    ·exact M.sets.mG i a1 a R a2
   ·rcases S' i a D K with⟨Z,R,_⟩|⟨_,R⟩
    ·exact M.sets.low i Z a R
    ·exact M.sets.nB a R
   ·by_cases Y:i=0
    ·subst Y;rw[u]at K⊢;exact(M.sets.sub 0 (ar _) a K.1).imp id fun y=>⟨y,K.2⟩
    ·by_cases H:i=C.j+1
     ·subst H;rw[v]at K;exact .inl K
     ·have N:i<=C.j+1:=D;rw[x i Y H]at K⊢;exact M.sets.sub i (by omega) a K
   ·have⟨a1,a2,_⟩:=X' i a D T;exact M.sets.mG i a1 a hr a2
   ·by_cases Y:i=0
    ·subst Y;rw[u]at T⊢;exact⟨M.sets.xs 0 (ar _) a T.1,T.2⟩
    ·by_cases H:i=C.j+1
     ·subst H;rw[v]at T;exact T.elim
     ·have N:i<=C.j+1:=D;rw[x i Y H]at T⊢;exact M.sets.xs i (by omega) a T
   ·rcases S' i _ D K with⟨Z,R,_⟩|⟨_,R⟩
    ·exact M.sets.mp i Z R
    ·exact absurd R m.rm
   ·have hm:c'∈C.L\/c'=c:=by simpa using(show c'∈C.L++[c]from hc')
    rcases hm with y|rfl
    ·have⟨Y,H,h3,h4⟩:=M.sets.nJ c' y;refine⟨Y,H,h3,fun i D K=>?_⟩;rcases S' i c' D K with⟨Z,R,_⟩|⟨_,R⟩
     ·exact h4 i Z R
     ·exact H R
    ·refine⟨ai_,r,hcM,fun i D K=>?_⟩;rcases S' i c' D K with⟨Z,R,b3⟩|⟨_,R⟩
     ·by_cases Y:i=0
      ·exact b3 Y rfl
      ·exact M.sets.wZ 0 i (ar _) Z (fun y=>Y y.symm) c' AX R
     ·exact r R
  ·refine⟨M.wd.mu,M.wd.wg,M.wd.map,fun k hk o=>?_,fun k hk o=>?_,M.wd.tape,M.wd.out⟩
   ·change k<iT Q.J (Q.J.ky (C.L++[c]))at o;rw[cN]at o;exact absurd o (aQ _)
   ·have l:k<C.j+1:=hk;by_cases B:k=C.j
    ·subst B;exact⟨0,by show nR w ((C.L++[c]).getD C.j 0) 0;rw[R_ h];exact KC⟩
    ·obtain⟨s,K⟩:=M.wd.opn k (by omega) (by rw[hd];exact aQ _);exact⟨s,by show nR w ((C.L++[c]).getD k 0) s;rw[R9 h (by omega)];exact K⟩
  ·have aja:Q.cls (upd (upd nd 0 n0) (C.j+1) V) (C.j+1) (C.L++[c])=Q.cls nd C.j C.L:=by
    have:gy.n_ (upd (upd nd 0 n0) (C.j+1) V) (C.j+1) (C.L++[c])=gy.n_ nd C.j C.L:=by
     funext i a;apply propext;unfold gy.n_;by_cases Y:i=0
     ·subst Y;rw[u];constructor
      ·rintro(⟨_,y⟩|⟨_,y⟩)
       ·exact .inl ⟨ar _,y.1⟩
       ·have hm:a∈C.L\/a=c:=by simpa using y
        rcases hm with y|rfl
        ·exact .inr ⟨rfl,y⟩
        ·exact .inl ⟨ar _,AX⟩
      ·rintro(⟨_,y⟩|⟨_,y⟩)
       ·by_cases n:a=c
        ·exact .inr ⟨rfl,by simp[n]⟩
        ·exact .inl ⟨ar _,y,n⟩
       ·exact .inr ⟨rfl,by simp[y]⟩
     ·by_cases H:i=C.j+1
      ·subst H;rw[v];exact⟨fun y=>y.elim (fun z=>z.2.elim) fun z=>absurd z.1 Y,fun y=>y.elim (fun z=>by omega) fun z=>absurd z.1 Y⟩
      ·rw[x i Y H];exact⟨fun y=>y.imp (fun z=>⟨by omega,z.2⟩) fun z=>absurd z.1 Y,fun y=>y.imp (fun z=>⟨by omega,z.2⟩) fun z=>absurd z.1 Y⟩
    unfold gy.cls;rw[this]
   show PT Q.b (C.j+1) Q.E.mu Q.E.st Q.jb (Q.cls (upd (upd nd 0 n0) (C.j+1) V) (C.j+1) (C.L++[c])) _ (C.tok.map (Q.b+ ·)) rel
   rw[aja];exact M.tr.fork (by rw[M.deaf0,hd];rfl) (M.above _ (ak _))
  ·rw[O,M.deaf0,hd];exact dN.symm
  ·have l:k<C.j+1:=hk;rw[O];by_cases B:k=C.j
   ·subst B;rw[us,M.above _ (ak _)];rfl
   ·rw[un k B]at hq⊢;exact M.mM k (by omega) hq
  ·have N:Q.b+(C.j+1)<=i:=D;rw[O];exact M.above i (by omega)
  ·have l:k<C.j+1:=hk;by_cases B:k=C.j
   ·subst B;rw[us,M.uY _ (ak _)];exact⟨(fun⟨p,hp⟩=>by cases hp),fun y=>y.elim⟩
   ·rw[un k B];exact M.oZ k (by omega)
  ·have l:C.j+1<=k:=hk;exact M.uY k (by omega)
  ·exact pD (w:=w) (pD M.seen (ak _) (mn ⟨trivial,nofun⟩)) (ak _) (mn ⟨trivial,nofun⟩)
 refine⟨_,_,_,_,_,sl,_,_,rfl,hC,⟨fun k pc hk=>?_,fun k pc hk o=>?_,nofun,nofun⟩,M1,.inl KD⟩
 ·by_cases B:k=C.j
  ·subst B;rw[us]at hk;cases hk
  ·rw[un k B]at hk;exact JW.blk k pc hk
 ·change k<iT Q.J (Q.J.ky (C.L++[c]))at o;rw[cN]at o;exact absurd o (aQ _)
def gy.wq(Q:gy)(m:bc)(t:aB):=∃gs w sl q S X g,∃dn:List Nat,m=ao gs w sl/\gs[0]?=some g/\Q.Fin S X g w/\Leavers Q.P t gs q/\Past Q.jb w.heap.size t/\Q.E.mz (dn.foldl Q.E.upd Q.gT) (w.heap[Q.E.Mp]?)/\dn.Perm Q.J.gq/\Q.E.MuAt w Word.zero 0/\Q.E.WgAt w 0 0 0/\w.tape=Q.w0.tape/\w.output=Q.w0.output/\(∀a,S a->a<w.heap.size)/\¬S Q.E.Mp/\Q.E.Mp<w.heap.size/\(∀op∈t,Seen w.heap.size op)
theorem mZ(f:PC->Nat)(Y:f .out=0):∀n,Lock.ia f (fun _=>.out) n=0
 |0=>rfl
 |n+1=>by rw[Lock.ia,mZ f Y n,Y]
theorem abb{m:Word}{c:Nat}(h:Lock.Inv (fun _=>.out) n m c):m=Word.zero/\c=0:=by
 have H:=h.held;rw[mZ _ rfl]at H;have B:m.L=false:=by
  cases e:m.L with
  |false=>rfl
  |true=>rw[e]at H;cases H
 cases D:m.S with
 |true=>
  have⟨_,_,_,_,A,F⟩:=h.hard D;rw[mZ _ rfl,mZ _ rfl,mZ _ rfl]at A;omega
 |false=>
  have⟨Y,I,_⟩:=h.calm D;rw[mZ _ rfl,mZ _ rfl,mZ _ rfl]at Y;rw[mZ _ rfl,mZ _ rfl]at I;have R:c=0:=by omega
  have C:m.W=0:=by omega
  have U:m.K=false:=by
   cases e:m.K with
   |false=>rfl
   |true=>
    rw[e,R]at Y;cases Y
  have⟨l,k,s,J⟩:=m;subst B D C U;exact⟨rfl,R⟩
theorem Q_{j:Nat}{f:Nat->Nat}(H:∀i,f i<=1)(Y:∀i,j<=i->f i=0)(M:j<=n)(hk:k<j)(F:f k=0):sumTo n f+1<=j:=by
 have D:∀n,j<=n->sumTo n f=sumTo j f:=by
  intro n;induction n with
  |zero=>intro h;omega
  |succ n K=>
   intro h;by_cases e:j=n+1
   ·rw[e]
   ·rw[sumTo,K (by omega),Y n (by omega)];rfl
 have R:=sumTo_upd f 1 id hk;have I:=sumTo_le (f:=fun a=>id (upd f k 1 a)) (c:=1) (j:=j) fun i _=>by
  by_cases e:i=k
  ·subst e;rw[upd_same];simp_all
  ·rw[upd_ne _ _ e];exact H i
 simp_all
theorem CI.over(h:CI Q.J Q.gT C)(R:yw C.d)(hk:k<C.j):∃n,C.ks k=.qt n:=by
 have U:C.v=0/\sumTo Q.J.n (fun k=>jh (C.ks k))=0/\sumTo Q.J.n (fun k=>ji (C.ks k))=0:=by
  rcases h.ph with⟨_,_,a,b,_,c⟩|⟨y,_⟩
  ·simp_all
  ·revert y R;cases C.d<;>intro a b<;>first|exact a.elim|exact b.elim
 have A:=h.pq;have Y:=az hk h.jn;have D:=le_sumTo (f:=fun k=>jh (C.ks k)) Y;have H:=le_sumTo (f:=fun k=>ji (C.ks k)) Y;have hd:kM (C.ks k)≠0:=by
  intro y;have:=Q_ (f:=fun k=>kM (C.ks k)) (fun i=>by
   cases C.ks i<;>simp only[kM]<;>(try split)<;>omega) (fun i K=>by rw[h.no i K];rfl) h.jn hk y
  omega
 cases e:C.ks k with
 |no=>exact absurd e (h.yes k hk)
 |«at» pc md=>rw[e]at hd;exact absurd rfl hd
 |gX i n=>
  rw[e]at hd;simp[e]at D H;by_cases K:i<=2
  ·by_cases I:i=0
   ·subst I;have:ji (gV.gX 0 n:gV Q.E)=1:=rfl;omega
   ·have:jh (gV.gX i n:gV Q.E)=1:=by
     show(if i=1\/i=2 then 1 else 0)=1
     rw[if_pos (by omega)]
    omega
  ·exact absurd (by show(if i<=2 then 1 else 0)=0;simp_all) hd
 |qt n=>exact⟨n,rfl⟩
theorem gy.MI.final(M:Q.MI C nd fu gs w t q rel)(F:Q.Laws)(h:CI Q.J Q.gT C)(hd:C.d=.aq)(hF:Q.Fin (nd 0).S (nd 0).X g1 w)(fn:au)(pos:String):
  Q.wq (ao ((gs.map (ax Q.P g g1 w)).setIfInBounds 0 g1) w sl) (t++ai 0 fn pos #[⟨.mark (.acquire Q.E.st),false,true⟩]):=by
 have hb:=F.b0;have N:=M.se F;have Y:yw C.d:=by rw[hd];trivial
 have A:∀k,k<C.j->∃n,C.ks k=.qt n:=fun k hk=>h.over Y hk;have V:∀k,iN (C.ks k)=.out:=fun k=>by
  by_cases hk:k<C.j
  ·have⟨n,e⟩:=A k hk;rw[e];rfl
  ·rw[h.no k (by omega)];rfl
 have z:C.m=Word.zero/\C.c=0:=by
  have:=h.lock;rw[funext V]at this;exact abb this
 have O:C.v=0/\C.wt=0/\C.ws=0:=by
  rcases h.ph with⟨a,b,_,_,_,c⟩|⟨y,_⟩
  ·exact⟨c Y,a,b⟩
  ·rw[hd]at y;exact y.elim
 have I:C.tok=none:=by
  cases e:C.tok with
  |none=>rfl
  |some k=>
   have⟨md,e'⟩:=h.ru k e;have hk:k<C.j:=bR fun y=>by rw[h.no k y]at e';cases e'
   have⟨n,o⟩:=A k hk;rw[o]at e';cases e'
 have D:∀k,Q.b<=k->k<Q.b+C.j->∃p,rel k=some p:=by
  intro k Z U;obtain⟨k',rfl⟩:∃k',k=Q.b+k':=⟨k-Q.b,by omega⟩;refine(M.oZ k' (by omega)).2 ?_;obtain⟨n,e⟩:=A k' (by omega);rw[e];trivial
 have B:Deaf t 0=0:=by rw[M.deaf0,hd];rfl
 have H:∀g,g≠0->Deaf (t++ai 0 fn pos #[⟨.mark (.acquire Q.E.st),false,true⟩]) g=Deaf t g:=fun g r=>aW t (fun y=>r y.symm) _ pO;refine⟨_,w,sl,fun i=>if i<Q.b then q i else nj (C.ks (i-Q.b)),(nd 0).S,(nd 0).X,g1,C.dn,rfl,aA (by simpa using N),hF,⟨fun i u L R=>?_,fun i L=>?_⟩,?_,?_,?_,?_,?_,M.wd.tape,M.wd.out,M.sets.low 0 (ar _),fun y=>?_,M.sets.tC,pD M.seen (ak _) (sL ⟨M.sets.nB _ F.rw,nofun⟩)⟩
 ·rw[H i (by omega)];rw[mY (by omega),bJ]at R;obtain⟨y,T,rfl⟩:=bS.1 R;by_cases K:i<Q.b
  ·simp only[if_pos K];have:=M.old i y L K T;rw[cH this];exact this
  ·simp only[if_neg K];have s:i<Q.b+C.j:=by rw[<-M.size];exact(bI.1 T).1
   obtain⟨k,rfl⟩:∃k,i=Q.b+k:=⟨i-Q.b,by omega⟩;have W:=M.wk k (by omega);obtain⟨n,e⟩:=A k (by omega);rw[e]at W;have⟨x,Z,U⟩:=W;obtain rfl:=Option.some.inj (T.symm.trans Z);rw[cH U,show Q.b+k-Q.b=k by omega,e];exact U
 ·have:Q.b+C.j<=i:=by simpa[M.size]using L
  rw[H i (by omega)];exact M.above i this
 ·rw[tQ];refine M.tr.join D B fun op gh=>?_;have G:=pD M.seen (ak _) (sL (g:=0) (fn:=fn) (pos:=pos) (m:=.acquire Q.E.st) ⟨M.sets.nB _ F.rw,nofun⟩);rw[tQ]at G;exact(G op gh).1
 ·rw[<-h.fold];exact M.wd.map I
 ·rw[List.perm_iff_count];intro y;have:=h.num y;rw[hd]at this;have l:sumTo Q.J.n (fun k=>qy y (C.ks k))=0:=by
   have:=sumTo_le (f:=fun k=>qy y (C.ks k)) (c:=0) (j:=Q.J.n) fun i _=>by
    by_cases hk:i<C.j
    ·have⟨n,e⟩:=A i hk;rw[e];exact ak _
    ·rw[h.no i (by omega)];exact ak _
   omega
  rw[l]at this;rw[show r4 Q.J jq.aq=Q.J.gq.length from rfl,List.take_length]at this;omega
 ·have:=M.wd.mu;rw[z.1,z.2]at this;exact this
 ·have:=M.wd.wg;rw[O.1,O.2.1,O.2.2]at this;exact this
 ·obtain⟨k,e,_⟩:=M.sets.mp 0 (ar _) y;cases e
end
section
variable{Q:gy}{nd:Nat->Nd}{fu:Nat->Nat}{C C':iE Q.E}{w w':af}{gs ku:Array ah}{t t':aB}{q:Nat->Nat}{rel km:Nat->Option Nat}{sl:Option (Nat×Nat)}
theorem gy.MI.at(M:Q.MI C nd fu gs w t q rel)(d:Nat):Q.MI C nd fu gs (w.at d) t q rel:=
 ⟨M.size,M.g0,M.wk,M.old,M.fuel,fun i Y=>(M.nK i Y).trans (zL _ _ _ _),M.sets,M.wd.at d,M.tr,M.deaf0,M.mM,M.above,M.oZ,M.uY,M.seen⟩
theorem MN{w1:af}(h:g1.status=.blocked)(gs:Array _):gs.map (ax P g g1 w1)=gs:=by
 have:ax P g g1 w1=id:=by funext o;simp[ax,h]
 simp_all
theorem xG(g:Nat)(fn:au)(pos:String):ai g fn pos #[]=#[]:=rfl
theorem gy.MI.SD(M:Q.MI C nd fu gs w t q rel)(H:Q.Laws)(h:CI Q.J Q.gT C)(F:Calm Q.J C){md:Md}(hk:k<C.j)(O:C.ks k=.at .recv md)(N:Q.A (Q.ch C k) (nd (k+1)).S (nd (k+1)).X (nd (k+1)).g (nd (k+1)).w)(V:gs[Q.b+k]?=some gx)
  (ga:ay Q.P false gx w=.comm (nd (k+1)).g #[bm (Q.ch C k) Q.E.zc] true (.recv true) w #[])(Z:md=.run\/k<iT Q.J C.d):
  ∃m' ops,runT Q.P (ao gs w sl) (Q.b+k)=(.next m',ops)/\Q.jy C nd fu q m' (t++ops):=by
 have hb:=H.b0;have B:(Q.b+k==0)=false:=by simp;omega
 have D:ay Q.P (Q.b+k==0) gx w=.comm (nd (k+1)).g #[bm (Q.ch C k) Q.E.zc] true (.recv true) w #[]:=by rw[B];exact ga
 have hr:=M.nK (k+1) hk;by_cases Y:k<iT Q.J C.d
 ·have⟨s,U⟩:=M.wd.shut k hk Y;have G:=M.noSend (i0:=Q.b+k) H h hk (fun i _ hd=>by rw[hd]at Y;exact absurd Y (aQ _));refine⟨_,_,crowd_recv_closed (sl:=sl) V D U G,?_⟩;exact M.ahx H h F hk O Y (fun f=>H.Sy N hr f) _ _
 ·have⟨s,U⟩:=M.wd.opn k hk Y;have T:md=.run:=Z.resolve_right Y;subst T;have waits:(∀i,C.dm=.ic->C.d=.send C.L i->i%Q.J.n≠k)->∃m' ops,runT Q.P (ao gs w sl) (Q.b+k)=(.next m',ops)/\Q.jy C nd fu q m' (t++ops):=by
   intro r;refine⟨_,_,crowd_waits (sl:=sl) V D (fun cc R=>?_),?_⟩
   ·simp only[aM,aL,aN,or_false]at R;subst R;exact ways_recv_none U (M.noSend H h hk r)
   ·rw[xG];exact M.SB H h F (lN:=.ic) hk O (by rw[zP];exact N) (.inr ⟨rfl,rfl,Y,r⟩)
  by_cases p:C.dm=.ic
  ·have o:=M.g0;rw[p]at o;have⟨_,i,c,x,z,f0,u,v,m,W,l,a⟩:=o;by_cases I:i%Q.J.n=k
   ·have R:c=Q.ch C k:=by
     unfold gy.ch;rw[<-I,aX,m];rfl
    subst R;have G:=M.aeJ (k:=k) H l;refine⟨_,_,crowd_recv_meets (sl:=sl) V D U (by omega) l G,?_⟩;rw[xG,bY,cA,cB];have hx:Q.ok x:=H.Kx x (cz W);have K:=M.sets.nJ _ (qm h.len hk);have pd:Q.b+k<gs.size:=by rw[M.size];omega
    refine M.hand H h F hk O u I W v U ?_ ?_ (fun i' e h2=>?_) (by simp) (a _ ((M.nK 0 (ar _)).trans (vI (K.2.2.2 0 (ar _))))) (H.Js N (hr.trans (vI (K.2.2.2 (k+1) hk))) hx _) ?_ (fun g=>zB ?_ g) ?_
    ·rw[mY (by omega),aA (M.se H)]
    ·simp_all
    ·rw[mY (fun y=>h2 y.symm),mY (fun y=>e y.symm)]
    ·intro op gh;simp only[aM,aL,aN,or_false]at gh;rcases gh with rfl|rfl|rfl|rfl
     ·exact⟨rfl,nofun,nofun,by show 0<Q.b+C.j;omega⟩
     ·exact⟨rfl,nofun,nofun,by show Q.b+k<Q.b+C.j;omega⟩
     ·exact⟨rfl,nofun,nofun,by show 0<Q.b+C.j;omega⟩
     ·exact⟨rfl,nofun,nofun,by show Q.b+k<Q.b+C.j;omega⟩
    ·simp
    ·intro op gh;simp only[aM,aL,aN,or_false]at gh;rcases gh with rfl|rfl|rfl|rfl<;>exact⟨K.1,nofun⟩
   ·simp_all
  ·exact waits fun i y _=>absurd y p
theorem gy.MI.wz4(M:Q.MI C nd fu gs w t q rel)(N:Q.Laws)(h:CI Q.J Q.gT C)(Y:Calm Q.J C)(hk:k<C.j){R:Prop}(O:C.ks k=.gX 4 0)(F:Q.E.Ua Q.P g)
  (H:∀{g1:ah} {w1:af} {es:Array _},ay Q.P false g w=.go g1 w1 es->Q.jy C nd fu q (ao ((gs.map (ax Q.P g g1 w1)).setIfInBounds (Q.b+k) g1) w1 sl) (t++ai (Q.b+k) g.frame.fn g.frame.place es)->R):R:=by
 have⟨_,g1,K,n,D⟩:=F;exact H (K w) (M.wd4 N h Y hk O D _ _)
theorem gy.MI.wz3(M:Q.MI C nd fu gs w t q rel)(V:Q.Laws)(h:CI Q.J Q.gT C)(H:Calm Q.J C)(hk:k<C.j){R:Prop}(N:C.ks k=.gX 3 0)(p:Q.E.Km Q.P g)
  (F:∀{g1:ah} {w1:af} {es:Array bj},ay Q.P false g w=.go g1 w1 es->Q.jy C nd fu q (ao ((gs.map (ax Q.P g g1 w1)).setIfInBounds (Q.b+k) g1) w1 sl) (t++ai (Q.b+k) g.frame.fn g.frame.place es)->R):R:=by
 have A:k<Q.J.n:=az hk h.jn;have x:=V.n8;have ph:=h.ph;have l2:=le_sumTo (f:=fun k=>jh (C.ks k)) A;have l0:=le_sumTo (f:=fun k=>ji (C.ks k)) A;simp only[N]at l2 l0;have I:=M.wd.wg;have W:=Q_ (f:=fun k=>kM (C.ks k)) (j:=C.j) (n:=Q.J.n) (fun i=>by
  show kM (C.ks i)<=1
  cases C.ks i<;>simp only[kM]<;>(try split)<;>omega) (fun i r=>by show kM (C.ks i)=0;rw[h.no i r];rfl) h.jn hk (by show kM (C.ks k)=0;rw[N];rfl)
 have G:=h.pq;have s:=h.jn;have ha:oR C.d<=1:=by cases C.d<;>simp[oR]
 obtain⟨v,O⟩:∃v,C.v=v+1:=⟨C.v-1,by omega⟩;have K:C.ws=0/\C.wt<=1/\¬yw C.d:=by
  rcases ph with⟨a,b,_,_,_,c⟩|⟨y,⟨a,b,_⟩|⟨_,_,a,_⟩|⟨_,_,a,_⟩|⟨_,_,a,_⟩⟩
  ·exact⟨b,by omega,fun y=>by have:=c y;omega⟩
  ·exact⟨b,by omega,fun z=>by revert y z;cases C.d<;>intro y z<;>first|exact y|exact z⟩
  ·omega
  ·omega
  ·omega
 rw[O,K.1]at I;obtain⟨g1,w1,es,X,L,Z,D,m,u⟩:=p.2 w v C.wt (by omega) K.2.1 I;have B:iB Q.J v C.d<=iB Q.J C.v C.d:=by rw[O];cases C.d<;>simp only[iB]<;>omega
 by_cases S:v=0/\C.wt=1
 ·have⟨n,Y⟩:=m S;refine F X (M.As (s':=.gX 2 n) (i:=3) V h H hk N (by omega) Z L D (.inl ⟨2,n,rfl,by omega,Y⟩) (by rw[O];rfl) (fun o l U=>?_) B (by omega) (.inl fun _ _=>rfl) _ _);have z2:jh (gV.gX 3 0:gV Q.E)=0:=rfl;have z0:ji (gV.gX 3 0:gV Q.E)=0:=rfl;have y2:jh (gV.gX 2 n:gV Q.E)=1:=rfl;have T:ji (gV.gX 2 n:gV Q.E)=0:=rfl;rw[z2,z0]at U;rw[y2,T];rcases U with⟨a,_⟩|⟨y,⟨a,b,c,d,e⟩|⟨_,_,a,_⟩|⟨_,_,a,_⟩|⟨_,_,a,_⟩⟩
  ·omega
  ·exact .inr ⟨y,.inr (.inl ⟨a,rfl,S.1,by omega,by omega⟩)⟩
  ·omega
  ·omega
  ·omega
 ·have⟨n,Y⟩:=u S;refine F X (M.As (s':=.qt n) (i:=3) V h H hk N (by omega) Z L D (.inr ⟨n,rfl,Y⟩) (by rw[O];rfl) (fun o l U=>?_) B (by omega) (.inl fun _ _=>rfl) _ _);have z2:jh (gV.gX 3 0:gV Q.E)=0:=rfl;have z0:ji (gV.gX 3 0:gV Q.E)=0:=rfl;have y2:jh (gV.qt n:gV Q.E)=0:=rfl;have T:ji (gV.qt n:gV Q.E)=0:=rfl;rw[z2,z0]at U;rw[y2,T];rcases U with⟨a,b,c,d,e,_⟩|⟨y,⟨a,b,c,d,e⟩|⟨_,_,a,_⟩|⟨_,_,a,_⟩|⟨_,_,a,_⟩⟩
  ·exact .inl ⟨a,rfl,c,d,e,fun y=>absurd y K.2.2⟩
  ·exact .inr ⟨y,.inl ⟨a,rfl,by omega,d,e⟩⟩
  ·omega
  ·omega
  ·omega
theorem gy.MI.wz2(M:Q.MI C nd fu gs w t q rel)(Z:Q.Laws)(h:CI Q.J Q.gT C)(F:Calm Q.J C)(hk:k<C.j){R:Prop}(O:C.ks k=.gX 2 0)(V:Q.E.Kl Q.P g)
  (N:∀{g1:ah} {w1:af} {es:Array _},ay Q.P false g w=.go g1 w1 es->Q.jy C nd fu q (ao ((gs.map (ax Q.P g g1 w1)).setIfInBounds (Q.b+k) g1) w1 sl) (t++ai (Q.b+k) g.frame.fn g.frame.place es)->R):R:=by
 have H:=az hk h.jn;have ph:=h.ph;have l2:=le_sumTo (f:=fun k=>jh (C.ks k)) H;have l0:=le_sumTo (f:=fun k=>ji (C.ks k)) H;simp[O]at l2 l0;have Y:=M.wd.wg;have K:C.wt=1/\C.ws=0/\C.v=0:=by
  have z2:jh (gV.gX 2 0:gV Q.E)=1:=rfl;rcases ph with⟨_,_,a,_⟩|⟨y,⟨_,_,_,a,_⟩|⟨a,b,c,_⟩|⟨_,_,_,a,_⟩|⟨_,_,_,a,_⟩⟩
  ·omega
  ·omega
  ·omega
  ·omega
  ·omega
 rw[K.1,K.2.1,K.2.2]at Y;have⟨g1,es,A,D,n,I⟩:=V.2 w Y;refine N A (M.As Z h F hk O (by omega) (Env.Eff.refl _ _) Y D (.inl ⟨1,n,rfl,by omega,I⟩) (by rw[K.2.2];rfl) (fun B U y=>?_) (by simp_all) (by omega) (.inl fun _ _=>rfl) _ _);rw[K.1,K.2.1,K.2.2]at y;exact y
theorem gy.MI.wz1(M:Q.MI C nd fu gs w t q rel)(Z:Q.Laws)(h:CI Q.J Q.gT C)(F:Calm Q.J C)(hk:k<C.j){R:Prop}(O:C.ks k=.gX 1 0)(V:Q.E.Kk Q.P g)
  (N:∀{g1:ah} {w1:af} {es:Array _},ay Q.P false g w=.go g1 w1 es->Q.jy C nd fu q (ao ((gs.map (ax Q.P g g1 w1)).setIfInBounds (Q.b+k) g1) w1 sl) (t++ai (Q.b+k) g.frame.fn g.frame.place es)->R):R:=by
 have K:=az hk h.jn;have ph:=h.ph;have l2:=le_sumTo (f:=fun k=>jh (C.ks k)) K;have l0:=le_sumTo (f:=fun k=>ji (C.ks k)) K;simp[O]at l2 l0;have Y:=M.wd.wg;have z2:jh (gV.gX 1 0:gV Q.E)=1:=rfl;have z0:ji (gV.gX 1 0:gV Q.E)=0:=rfl;have H:C.wt=1/\C.ws=0/\C.v=0:=by
  rcases ph with⟨_,_,a,_⟩|⟨y,⟨_,_,_,a,_⟩|⟨a,b,c,_⟩|⟨_,_,_,a,_⟩|⟨_,_,_,a,_⟩⟩
  ·omega
  ·omega
  ·omega
  ·omega
  ·omega
 rw[H.1,H.2.1,H.2.2]at Y;have⟨g1,w1,es,U,A,B,D,n,I⟩:=V.2 w Y;refine N U (M.As Z h F hk O (by omega) B A D (.inl ⟨0,n,rfl,by omega,I⟩) (by rw[H.2.2];rfl) (fun S L y=>?_) (by simp_all) (by omega) (.inl fun _ _=>rfl) _ _);have y2:jh (gV.gX 0 n:gV Q.E)=0:=rfl;have T:ji (gV.gX 0 n:gV Q.E)=1:=rfl;rcases y with⟨_,_,a,_⟩|⟨y,⟨_,_,_,a,_⟩|⟨_,_,_,a,b⟩|⟨_,_,_,a,_⟩|⟨_,_,_,a,_⟩⟩
 ·omega
 ·omega
 ·exact .inr ⟨y,.inr (.inr (.inl ⟨rfl,rfl,rfl,by omega,by omega⟩))⟩
 ·omega
 ·omega
theorem gy.MI.wz0(M:Q.MI C nd fu gs w t q rel)(Z:Q.Laws)(h:CI Q.J Q.gT C)(F:Calm Q.J C)(hk:k<C.j){R:Prop}(V:C.ks k=.gX 0 0)(O:Q.E.Kj Q.P g)
  (N:∀{g1:ah} {w1:af} {es:Array bj},ay Q.P false g w=.go g1 w1 es->Q.jy C nd fu q (ao ((gs.map (ax Q.P g g1 w1)).setIfInBounds (Q.b+k) g1) w1 sl) (t++ai (Q.b+k) g.frame.fn g.frame.place es)->R):R:=by
 have K:=az hk h.jn;have ph:=h.ph;have l2:=le_sumTo (f:=fun k=>jh (C.ks k)) K;have l0:=le_sumTo (f:=fun k=>ji (C.ks k)) K;simp[V]at l2 l0;have Y:=M.wd.wg;have z2:jh (gV.gX 0 0:gV Q.E)=0:=rfl;have z0:ji (gV.gX 0 0:gV Q.E)=1:=rfl;have D:C.wt=0/\C.ws=0/\C.v=0:=by
  rcases ph with⟨_,_,_,a,_⟩|⟨y,⟨_,_,_,_,a⟩|⟨_,_,_,_,a⟩|⟨a,b,c,_⟩|⟨_,_,_,_,a⟩⟩
  ·omega
  ·omega
  ·omega
  ·omega
  ·omega
 rw[D.1,D.2.1,D.2.2]at Y;have⟨g1,w1,es,U,A,B,I,n,H⟩:=O.2.2 w Y;refine N U (M.As Z h F hk V (by omega) B A I (.inr ⟨n,rfl,H⟩) (by rw[D.2.2];rfl) (fun S L y=>?_) (by simp_all) (by omega) (.inr ⟨O.2.1,H.status⟩) _ _);have y2:jh (gV.qt n:gV Q.E)=0:=rfl;have T:ji (gV.qt n:gV Q.E)=0:=rfl;rcases y with⟨_,_,_,a,_⟩|⟨y,⟨_,_,_,_,a⟩|⟨_,_,_,_,a⟩|⟨_,_,_,a,b⟩|⟨_,_,_,_,a⟩⟩
 ·omega
 ·omega
 ·omega
 ·exact .inr ⟨y,.inr (.inr (.inr ⟨rfl,rfl,rfl,by omega,by omega⟩))⟩
 ·omega
theorem gy.MI.ahB(M:Q.MI C nd fu gs w t q rel)(R:Q.Laws)(h:CI Q.J Q.gT C)(Y:Calm Q.J C)(hk:k<C.j)(V:gs[Q.b+k]?=some g)(F:g.status=.running):
  ∃m' ops,runT Q.P (ao gs w sl) (Q.b+k)=(.next m',ops)/\Q.jy C nd fu q m' (t++ops):=by
 have hb:=R.b0;have s:k<Q.J.n:=az hk h.jn;have r:(Q.b+k==0)=false:=by simp;omega
 have hr:=M.nK (k+1) hk;have T:=M.wk k hk;have K:∀{g1:ah} {w1:af} {es:Array bj},ay Q.P false g w=.go g1 w1 es->Q.jy C nd fu q (ao ((gs.map (ax Q.P g g1 w1)).setIfInBounds (Q.b+k) g1) w1 sl) (t++ai (Q.b+k) g.frame.fn g.frame.place es)->
   ∃m' ops,runT Q.P (ao gs w sl) (Q.b+k)=(.next m',ops)/\Q.jy C nd fu q m' (t++ops):=fun ga l=>⟨_,_,bu (sl:=sl) V (by rw[r];exact ga),l⟩
 have G:=F_ h.lock;have KF:=R.n8;cases H:C.ks k with
 |no=>rw[H]at T;exact T.elim
 |«at» pc md=>
  rw[H]at T;have⟨z,B,h3⟩:=T;obtain rfl:=Option.some.inj (V.symm.trans z);cases md with
  |blk=>cases F
  |ic=>cases F
  |jU=>
   have hpc:=(h.md k _ _ H).2 (.inr rfl);subst hpc;have l:Q.A (Q.ch C k) (nd (k+1)).S (nd (k+1)).X (nd (k+1)).g (nd (k+1)).w:=by
    have:=h3 nofun;rw[zP]at this;exact this
   refine M.SD R h Y hk H l V ?_ (.inr (h.gone k (by rw[H];trivial)));have e:{(nd (k+1)).g with status:=.running}=(nd (k+1)).g:=by
    have:=(R.Jc l).1;generalize(nd (k+1)).g=g0 at this;have⟨a,b,c,d,e⟩:=g0;simp only at this;subst this;rfl
   have:=stepG_tries (P:=Q.P) (g:=(nd (k+1)).g) (sh:=.recv true) false #[bm (Q.ch C k) Q.E.zc] w;rw[e]at this;exact this.trans (R.Jd l w)
  |run=>
   have mul:∀p,oD pc=p->(∀x,pc=.lk p x->True)->Lock.Ok C.m p/\Lock.Ki C.m p:=by
    intro p hp _;have a:=h.lock.ok k s;have b:=h.lock.pre s;rw[H]at a;simp only[H]at b;rw[<-hp];exact⟨a,b⟩
   rcases B.look with ga|⟨hn,_,W⟩
   ·obtain⟨f,O⟩:∃f,fu (k+1)=f+1:=⟨fu (k+1)-1,by have:=M.r8 (i:=k+1) hk;omega⟩;have U:=ga;rw[O]at ga;cases pc with
    |recv=>
     rw[zP]at U;exact M.SD R h Y hk H U V (R.Jd U w) (.inl rfl)
    |ld x=>
     have⟨g1,D,I⟩:=ga.2.2 w hr;exact K D (M.Dh R h Y hk H O (.inl rfl) I _ _ rfl (fun _=>rfl) nofun nofun nofun (fun p x e=>by cases e;rfl) nofun (by show 14+2<17;omega) rfl)
    |lk p x=>
     obtain⟨o1,o2⟩:=mul p rfl (fun _ _=>trivial);rcases ga.2.2 w C.m C.c hr M.wd.mu o1 o2 (by omega) G.1 with⟨sv,rfl,v,D⟩|⟨p',m',c',g1,w1,es,N,D,Z,o,L,hw,I⟩
     ·refine⟨_,_,bu (sl:=sl) V (by rw[r];exact D),?_⟩;rw[MN rfl,xG];exact M.SB R h Y (lN:=.blk) hk H U (.inl ⟨rfl,⟨sv,x,rfl⟩,v⟩)
     ·have⟨c1,c2⟩:=h.mvL R.n8 hk H N;refine K D (M.KA R h Y hk H O I _ _ Z o L hw c1 c2 ?_);show uE (Env.behind p' x)=1
      cases p'<;>rfl
    |le x=>
     have⟨g1,D,I⟩:=ga.2.2 w hr;exact K D (M.Dh R h Y hk H O (.inr rfl) I _ _ rfl (fun _=>rfl) nofun nofun nofun nofun nofun (by show 13<14;omega) rfl)
    |la x=>
     have⟨g1,D,I⟩:=ga.2.2 w C.γ hr (M.wd.map (h.free hk H));exact K D (M.wla R h Y hk H O I _ _)
    |ur γ=>
     have⟨u,g1,D,I⟩:=ga.2.2 w hr;exact K D (M.wur R h Y hk H O u I _ _)
    |ud=>
     have⟨g1,D,I⟩:=ga.2.2 w hr;exact K D (M.Dh R h Y hk H O (.inl rfl) I _ _ rfl (fun _=>rfl) nofun nofun nofun nofun nofun (by show 10<11;omega) rfl)
    |u0=>
     obtain⟨o1,o2⟩:=mul .cr rfl (fun _ _=>trivial);rcases ga.2.2 w C.m C.c hr M.wd.mu o1 o2 (by omega) G.1 with⟨sv,e0,_⟩|⟨p',m',c',g1,w1,es,N,D,Z,o,L,hw,I⟩
     ·cases e0
     ·have⟨c1,c2⟩:=h.Ue R.n8 hk H (.inl ⟨rfl,rfl⟩) N;refine K D (M.KA R h Y hk H O I _ _ Z o L hw c1 c2 ?_);show uE (Env.vU p')=1
      cases p'<;>rfl
    |un p=>
     obtain⟨o1,o2⟩:=mul p rfl (fun _ _=>trivial);have hun:=(h.oE k p _ H).1;rcases ga.2.2 w C.m C.c hr M.wd.mu o1 o2 (by omega) G.1 with⟨sv,rfl,_⟩|⟨p',m',c',g1,w1,es,N,D,Z,o,L,hw,I⟩
     ·cases hun
     ·have⟨c1,c2⟩:=h.Ue R.n8 hk H (.inr rfl) N;refine K D (M.KA R h Y hk H O I _ _ Z o L hw c1 c2 ?_);show uE (Env.vU p')=1
      cases p'<;>rfl
    |ue=>
     have⟨g1,D,I⟩:=ga.2.2 w hr;exact K D (M.Dh R h Y hk H O (.inr rfl) I _ _ rfl (fun _=>rfl) nofun nofun nofun nofun nofun (by show 7<8;omega) rfl)
    |wr=>
     have⟨g1,D,n,hn⟩:=ga.2.2 w hr;exact K D (M.ai9 R h Y hk H hn _ _)
   ·have⟨g1,w1,es,S1,X1,D,hd,I⟩:=W w hr;exact K D (M.ahv R h Y hk H hn D hd I _ _)
 |gX i n=>
  rw[H]at T;have⟨g',z,B⟩:=T;obtain rfl:=Option.some.inj (V.symm.trans z);have i4:=h.gX k i n H;cases n with
  |succ n=>
   have⟨_,g1,D,hq⟩:=B;exact K (D w) (M.Ta R h Y hk H (by simp) (.inl ⟨i,n,rfl,rfl,rfl,hq⟩) _ _)
  |zero=>
   have hi:i=0\/i=1\/i=2\/i=3\/i=4:=by omega
   rcases hi with rfl|rfl|rfl|rfl|rfl
   ·exact M.wz0 R h Y hk H B K
   ·exact M.wz1 R h Y hk H B K
   ·exact M.wz2 R h Y hk H B K
   ·exact M.wz3 R h Y hk H B K
   ·exact M.wz4 R h Y hk H B K
 |qt n=>
  rw[H]at T;have⟨g',z,B⟩:=T;obtain rfl:=Option.some.inj (V.symm.trans z);cases n with
  |zero=>rw[B.1]at F;cases F
  |succ n=>
   rcases B with⟨y,_⟩|⟨_,g1,es,Z,D,hq⟩
   ·rw[y]at F;cases F
   ·exact K (D w) (M.Ta R h Y hk H Z (.inr ⟨n,rfl,rfl,hq⟩) _ _)
end
section
variable{Q:gy}{nd:Nat->Nd}{fu:Nat->Nat}{C C':iE Q.E}{w w':af}{gs ku:Array ah}{t t':aB}{q:Nat->Nat}{rel km:Nat->Option Nat}{sl:Option (Nat×Nat)}
theorem mU.on{d d':jq}{v e2 e0:Nat}(h:mU d v wt ws e2 e0)(hw:¬yi d)(Y:¬yi d')(H:yw d'->v=0):mU d' v wt ws e2 e0:=by
 have⟨a,b,c,e⟩:=h.early hw;exact .inl ⟨a,b,c,e,Y,H⟩
theorem CI.vle(h:CI Q.J Q.gT C):C.v<=C.j+oR C.d:=by have:=h.pq;omega
theorem CI.ahC(h:CI Q.J Q.gT C)(H:iT Q.J C.d=0):C.v=C.j+oR C.d:=by
 have:=h.pq;have K:=by
  have:=sumTo_le (f:=fun k=>kM (C.ks k)) (c:=0) (j:=Q.J.n) fun i _=>by
   have Y:¬Gone _:=fun y=>by have:=h.gone i y;omega
   cases e:C.ks i with
   |no=>exact ak _
   |«at» pc md=>exact ak _
   |gX i n=>rw[e]at Y;exact absurd trivial Y
   |qt n=>rw[e]at Y;exact absurd trivial Y
  omega
 omega
theorem gy.MI.ahD(M:Q.MI C nd fu gs w t q rel)(H:Q.Laws)(h:CI Q.J Q.gT C)(F:Calm Q.J C){c x f:Nat}(Z:C.dm=.run)(hd:C.d=.send C.L i)(o:fu 0=f+1)(p:gs[0]?=some (nd 0).g)(N:Q.DS (fu 0) C.d (nd 0).S (nd 0).X (nd 0).g (nd 0).w)(V:C.L[i%Q.J.n]?=some c)(W:Q.J.gq[i]?=some x)
  (R:∀w2 s,gR Q.E.U (nd 0).S (nd 0).w w2->nR w2 c s->ay Q.P true (nd 0).g w2=.comm (nd 0).g #[scase c (.int .i64 (x:Int)) z] true .send w2 #[])(O:∀w2,gR Q.E.U (nd 0).S (nd 0).w w2->Q.E.Tree Q.P true (Q.DS f (Q.J.sends C.L (i+1))) (nd 0).S (nd 0).X (Go.Conc.served (nd 0).g aH) w2):
  ∃m' ops,runT Q.P (ao gs w sl) 0=(.next m',ops)/\Q.jy C nd fu q m' (t++ops):=by
 have e:=H.b0;have hr:=M.nK 0 (ar _);have hk:i%Q.J.n<C.j:=by
  have:=(bO.1 V).1;rw[h.len]at this;exact this
 have K:c=Q.ch C (i%Q.J.n):=by
  unfold gy.ch;rw[aX,V];rfl
 subst K;generalize D:i%Q.J.n=k at *;obtain⟨s,A⟩:=M.wd.opn k hk (by rw[hd];exact aQ _);have ga:=R w s hr A;by_cases r:∃pc,C.ks k=.at pc .ic
 ·have⟨pc,I⟩:=r;have T:=(h.md k _ _ I).2 (.inl rfl);subst T;have G:=M.yx hk I;have B:Q.b+k<gs.size:=by rw[M.size];omega
  have m:=by
   have:=M.wk k hk;rw[I]at this;have:=this.2.2 nofun;rw[zP]at this;exact this
  refine⟨_,_,crowd_send_meets (sl:=sl) p ga A (by omega) G (M.aeI H h hk I),?_⟩;rw[xG,bY,cA,cB];have Y:=M.sets.nJ _ (qm h.len hk);refine M.hand H h F hk I hd D W o A ?_ ?_ (fun i' u v=>?_) (by simp) (O _ (hr.trans (vI (Y.2.2.2 0 (ar _))))) (H.Js m ((M.nK (k+1) hk).trans (vI (Y.2.2.2 (k+1) hk))) (H.Kx x (cz W)) _) ?_ (fun g=>zB ?_ g) ?_
  ·rw[aA (by simpa using M.se H)]
  ·rw[mY (by omega),aA B]
  ·rw[mY (fun y=>u y.symm),mY (fun y=>v y.symm)]
  ·intro op gh;simp only[aM,aL,aN,or_false]at gh;rcases gh with rfl|rfl|rfl|rfl
   ·exact⟨rfl,nofun,nofun,by show 0<Q.b+C.j;omega⟩
   ·exact⟨rfl,nofun,nofun,by simp_all⟩
   ·exact⟨rfl,nofun,nofun,by show 0<Q.b+C.j;omega⟩
   ·exact⟨rfl,nofun,nofun,by show Q.b+k<Q.b+C.j;omega⟩
  ·simp
  ·intro op gh;simp at gh;rcases gh with rfl|rfl|rfl|rfl<;>exact⟨Y.1,nofun⟩
 ·have l:=fun pc y=>r ⟨pc,y⟩;refine⟨_,_,crowd_waits (sl:=sl) p ga (fun a K=>?_),?_⟩
  ·simp only[aM,aL,aN,or_false]at K;subst K;exact ways_send_none A (ak _) (M.agr H h hk l rfl)
  ·exact M.SC H h F (lN:=.ic) Z ⟨N,i,_,x,z,f,hd,o,by rw[D];exact V,W,aA (M.se H),O⟩ (.inr ⟨rfl,i,hd,by rw[D];exact l⟩)
theorem gy.MI.ahE(M:Q.MI C nd fu gs w t q rel)(F:Q.Laws)(h:CI Q.J Q.gT C)(H:Calm Q.J C)(G:gs[0]?=some g)(V:g.status=.running):
  ∃m' ops,runT Q.P (ao gs w sl) 0=(.next m',ops)/\(Q.jy C nd fu q m' (t++ops)\/Q.wq m' (t++ops)):=by
 have hb:=F.b0;have hr:=M.nK 0 (ar _);have E:=M.g0;have KF:=F.n8;have hjn:=h.jn;have O:=h.vle;have R:=M.wd.wg;have Y:=h.nI;cases r:C.dm with
 |blk=>
  rw[r]at E;obtain rfl:=Option.some.inj (G.symm.trans E.1);cases V
 |ic=>
  rw[r]at E;have⟨_,i,c,x,z,f0,_,_,_,_,e5,_⟩:=E;obtain rfl:=Option.some.inj (G.symm.trans e5);cases V
 |jU=>exact absurd r h.po.2.2
 |run=>
  rw[r]at E;have⟨h1,h2⟩:=E;obtain rfl:=Option.some.inj (G.symm.trans h1);have D:∀{g1:ah} {w1:af} {es:Array bj},ay Q.P true (nd 0).g w=.go g1 w1 es->Q.jy C nd fu q (ao ((gs.map (ax Q.P (nd 0).g g1 w1)).setIfInBounds 0 g1) w1 sl) (t++ai 0 (nd 0).g.frame.fn (nd 0).g.frame.place es)->
    ∃m' ops,runT Q.P (ao gs w sl) 0=(.next m',ops)/\(Q.jy C nd fu q m' (t++ops)\/Q.wq m' (t++ops)):=fun ga hA=>⟨_,_,bu (sl:=sl) (i:=0) G ga,.inl hA⟩
  rcases h2.look with ga|⟨hn,_,u⟩
  ·obtain⟨f,N⟩:∃f,fu 0=f+1:=⟨fu 0-1,by have:=M.r8 (i:=0) (ar _);omega⟩;have W:=ga;rw[N]at ga;have nm:(Md.run=.blk->∀d:jq,d=.w3):=nofun;have A:∀d:jq,(Md.run=.blk->d=.w3)/\(Md.run=.ic->∃i,d=.send C.L i)/\Md.run≠.jU:=fun d=>⟨nofun,nofun,nofun⟩;have ph:=h.ph;cases hd:C.d with
   |st L=>
    rw[hd]at ga Y;have⟨c,hl⟩:=ga.2.2;have⟨g1,K,I⟩:=hl w hr;exact D K (M.Dj F h H (.inl rfl) N I (h.dd (A _) (by rw[hd];rfl) (by rw[hd];rfl) (fun _ _ y=>by rw[hd]at y;exact y.on id id nofun) (by rw[hd];exact ak _) Y nofun) (by rw[hd];simp only[iB];omega) _ _ (by rw[hd];rfl) (by rw[hd];rfl))
   |a2 L c=>
    rw[hd]at ga Y ph;have⟨a,b,_,_⟩:=ph.early id;have X:C.v=L.length:=by
     have:=h.ahC (by rw[hd];rfl);rw[hd]at this;rw[this,Y.1,h.len];rfl
    rw[X,a,b]at R;have⟨g1,w1,es,K,S,he,U,I⟩:=ga.2.2 w hr R;by_cases e:L=[]
    ·rw[if_pos e]at I;exact D K (M.uZ F h H N I he S U (h.dd (A _) (by rw[hd];rfl) (by rw[hd,X];rfl) (fun _ _ y=>by
      rw[hd]at y;have⟨a1,a2,a3,a4⟩:=y.early id;exact .inl ⟨rfl,rfl,a3,a4,id,nofun⟩) (by rw[hd];exact ak _) Y nofun) (by rw[hd];simp only[iB];omega) _ _ (by rw[hd];rfl) (by rw[hd];rfl))
    ·rw[if_neg e]at I;exact D K (M.uZ F h H N I he S U (h.dd (A _) (by rw[hd];rfl) (by rw[hd,X];rfl) (fun _ _ y=>by
      rw[hd]at y;have⟨a1,a2,a3,a4⟩:=y.early id;exact .inl ⟨rfl,rfl,a3,a4,id,nofun⟩) (by rw[hd];exact ak _) Y nofun) (by rw[hd];simp only[iB];omega) _ _ (by rw[hd];rfl) (by rw[hd];rfl))
   |a3 L c=>
    rw[hd]at ga Y;have⟨g1,K,I⟩:=ga.2.2 w hr;exact D K (M.SA F h H (.inl rfl) N I (h.dd (A _) (by rw[hd];rfl) (by rw[hd];rfl) (fun _ _ y=>by rw[hd]at y;exact y.on id id nofun) (by rw[hd];exact ak _) Y nofun) (by rw[hd];simp only[iB];omega) _ _ (by rw[hd];rfl) (by rw[hd];rfl))
   |a4 L c=>
    rw[hd]at ga Y;have⟨g1,K,I⟩:=ga.2.2 w hr;exact D K (M.Dj F h H (.inr rfl) N I (h.dd (A _) (by rw[hd];rfl) (by rw[hd];rfl) (fun _ _ y=>by rw[hd]at y;exact y.on id id nofun) (by rw[hd];exact ak _) Y nofun) (by rw[hd];simp only[iB];omega) _ _ (by rw[hd];rfl) (by rw[hd];rfl))
   |go L c=>
    rw[hd]at ga Y;have⟨hSc,AX,hl⟩:=ga.2.2;have⟨KC,g1,l,K,Jt,I⟩:=hl w hr;have T:L=C.L:=Y.1;subst T;refine⟨_,_,runT_crowd_spawn (sl:=sl) (i:=0) G K,.inl ?_⟩;rw[xG,M.size];have:=M.agt (sl:=sl) F h H hd N hSc AX KC Jt I (nd 0).g.frame.fn (nd 0).g.frame.place l.frame.fn (nd 0).g.frame.place;rw[Array.append_assoc]at this;exact this
   |send L i=>
    rw[hd]at ga Y;have T:L=C.L:=Y.1;subst T;have⟨c,x,e,hx,z,o,htr⟩:=ga.2.2;have⟨m',ops,K,e2⟩:=M.ahD (sl:=sl) F h H r hd N G W e hx o htr;exact⟨m',ops,K,.inl e2⟩
   |close L k=>
    rw[hd]at ga Y;have T:L=C.L:=Y.1;subst T;have⟨hw,c,e,hl⟩:=ga.2.2;have hk:k<C.j:=by
     have a:C.j=Q.J.n:=Y.2.1;have b:k<Q.J.n:=Y.2.2;omega
    have Ug:c=Q.ch C k:=by
     unfold gy.ch;rw[aX,e];rfl
    subst Ug;obtain⟨s,E⟩:=M.wd.opn k hk (by rw[hd];exact Nat.lt_irrefl _);have⟨g1,p,K,I⟩:=hl w s hr E;exact D K (M.ags F h H hk hd E hw p N I _ _)
   |kd=>
    rw[hd]at ga Y;have⟨g1,K,I⟩:=ga.2.2 w hr;exact D K (M.Dj F h H (.inl rfl) N I (h.dd (A _) (by rw[hd];rfl) (by rw[hd];rfl) (fun _ _ y=>by rw[hd]at y;exact y.on id id nofun) (by rw[hd];exact ak _) Y nofun) (by
     have a:C.v<=C.j:=by rw[hd]at O;exact O
     rw[hd];simp only[iB];omega) _ _ (by rw[hd];rfl) (by rw[hd];rfl))
   |w1=>
    rw[hd]at ga Y ph;have⟨a,b,_,_⟩:=ph.early id;have m:C.v<=8:=by rw[hd]at O;exact bg O (by show C.j+0<=8;omega)
    rw[a,b]at R;have⟨g1,es,K,U,t0,t1⟩:=ga.2.2 w C.v hr m R;by_cases X:C.v=0
    ·exact D K (M.uZ F h H N (t0 X) (Env.Eff.refl _ _) R U (h.dd (A _) (by rw[hd];rfl) (by rw[hd];rfl) (fun _ _ y=>by
      rw[hd]at y;have⟨a1,a2,a3,a4⟩:=y.early id;exact .inl ⟨rfl,rfl,a3,a4,id,fun _=>X⟩) (by rw[hd];exact ak _) Y nofun) (by rw[hd];simp only[iB];omega) _ _ (by rw[hd];rfl) (by rw[hd];rfl))
    ·exact D K (M.uZ F h H N (t1 X) (Env.Eff.refl _ _) R U (h.dd (A _) (by rw[hd];rfl) (by rw[hd];rfl) (fun _ _ y=>by
      rw[hd]at y;have⟨a1,a2,a3,a4⟩:=y.early id;exact .inl ⟨rfl,rfl,a3,a4,id,nofun⟩) (by rw[hd];exact ak _) Y (fun v0 e0=>by cases e0;exact⟨by omega,ak _⟩)) (by rw[hd];simp only[iB];omega) _ _ (by rw[hd];rfl) (by rw[hd];rfl))
   |w2 v0=>
    have pj:=h.w2 v0 hd;rw[hd]at ga Y ph;have⟨a,b,_,_⟩:=ph.early id;have m:C.v<=8:=by rw[hd]at O;exact bg O (by show C.j+0<=8;omega)
    rw[a,b]at R;have⟨ty,tn⟩:=ga.2.2 w C.v hr m R;by_cases X:C.v=v0
    ·have⟨g1,w1,es,K,S,he,U,I⟩:=ty X;exact D K (M.uZ F h H N I he S U (h.dd (A _) (by rw[hd];rfl) (by rw[hd];rfl) (fun _ _ y=>by
      rw[hd]at y;have⟨a1,a2,a3,a4⟩:=y.early id;exact .inr ⟨trivial,.inl ⟨rfl,rfl,by omega,a3,a4⟩⟩) (by rw[hd];exact ak _) Y nofun) (by rw[hd];simp only[iB];omega) _ _ (by rw[hd];rfl) (by rw[hd];rfl))
    ·have⟨g1,es,K,U,I⟩:=tn X;exact D K (M.uZ F h H N I (Env.Eff.refl _ _) R U (h.dd (A _) (by rw[hd];rfl) (by rw[hd];rfl) (fun _ _ y=>by
      rw[hd]at y;have⟨a1,a2,a3,a4⟩:=y.early id;exact .inl ⟨rfl,rfl,a3,a4,id,nofun⟩) (by rw[hd];exact ak _) Y nofun) (by rw[hd];simp only[iB];omega) _ _ (by rw[hd];rfl) (by rw[hd];rfl))
   |wx=>
    rw[hd]at ga Y;have⟨g1,K,I⟩:=ga.2.2 w hr;exact D K (M.SA F h H (.inr rfl) N I (h.dd (A _) (by rw[hd];rfl) (by rw[hd];rfl) (fun _ _ y=>by
     rw[hd]at y;rcases y with⟨_,_,_,_,y,_⟩|⟨_,y⟩
     ·exact absurd trivial y
     ·exact .inr ⟨trivial,y⟩) (by rw[hd];exact ak _) Y nofun) (by rw[hd];simp only[iB];omega) _ _ (by rw[hd];rfl) (by rw[hd];rfl))
   |w3=>
    rw[hd]at ga Y ph;have⟨_,ho,AE,p⟩:=ga;by_cases B:C.ws=0
    ·rw[B]at R;have K:=AE w C.v C.wt hr R;refine⟨_,_,bu (sl:=sl) (i:=0) G K,.inl ?_⟩;rw[MN rfl,xG];exact M.SC F h H (lN:=.blk) r ⟨aA (M.se F),ho,V,W⟩ (.inl ⟨rfl,hd,B⟩)
    ·have Z:C.wt=0/\C.ws=1/\C.v=0:=by
      rcases ph with⟨_,a,_⟩|⟨_,⟨_,a,_⟩|⟨_,a,_⟩|⟨_,a,_⟩|⟨a,b,c,_⟩⟩
      ·exact absurd a B
      ·exact absurd a B
      ·exact absurd a B
      ·exact absurd a B
      ·exact⟨a,b,c⟩
     rw[Z.1,Z.2.1,Z.2.2]at R;have⟨g1,w1,es,K,S,he,U,I⟩:=p w hr R;exact D K (M.uZ F h H N I he S U (h.dd (A _) (by rw[hd];rfl) (by rw[hd,Z.2.2];rfl) (fun _ _ y=>by
      rcases y with⟨_,a,_⟩|⟨_,⟨_,a,_⟩|⟨_,a,_⟩|⟨_,a,_⟩|⟨_,_,_,a,b⟩⟩
      ·exact absurd a B
      ·exact absurd a B
      ·exact absurd a B
      ·exact absurd a B
      ·exact .inl ⟨rfl,rfl,a,b,id,fun _=>rfl⟩) (by rw[hd];exact ak _) Y nofun) (by rw[hd];simp only[iB];omega) _ _ (by rw[hd];rfl) (by rw[hd];rfl))
   |w4=>
    rw[hd]at ga Y ph;have Z:C.wt=0/\C.ws=0/\C.v=0:=by
     rcases ph with⟨a,b,_,_,_,c⟩|⟨y,_⟩
     ·exact⟨a,b,c trivial⟩
     ·exact y.elim
    rw[Z.1,Z.2.1,Z.2.2]at R;have⟨g1,es,K,U,I⟩:=ga.2.2 w hr R;exact D K (M.uZ F h H N I (Env.Eff.refl _ _) R U (h.dd (A _) (by rw[hd];rfl) (by rw[hd,Z.2.2];rfl) (fun _ _ y=>by
     rw[hd]at y;have⟨a1,a2,a3,a4⟩:=y.early id;exact .inl ⟨rfl,rfl,a3,a4,id,fun _=>rfl⟩) (by rw[hd];exact ak _) Y nofun) (by rw[hd];simp only[iB];omega) _ _ (by rw[hd];rfl) (by rw[hd];rfl))
   |ke=>
    rw[hd]at ga Y ph;have⟨g1,K,I⟩:=ga.2.2 w hr;have hv0:C.v=0:=by
     rcases ph with⟨_,_,_,_,_,c⟩|⟨y,_⟩
     ·exact c trivial
     ·exact y.elim
    exact D K (M.Dj F h H (.inr rfl) N I (h.dd (A _) (by rw[hd];rfl) (by rw[hd];rfl) (fun _ _ y=>by rw[hd]at y;exact y.on id id fun _=>hv0) (by rw[hd];exact ak _) Y nofun) (by rw[hd];simp only[iB];omega) _ _ (by rw[hd];rfl) (by rw[hd];rfl))
   |aq=>
    rw[hd]at ga;have⟨g1,K,hF⟩:=ga.2.2 w hr;exact⟨_,_,bu (sl:=sl) (i:=0) G K,.inr (M.final F h hd hF _ _)⟩
  ·have⟨g1,w1,es,S1,X1,K,hd,I⟩:=u w hr;exact D K (M.ahy F h H r hn K hd I _ _)
theorem Ra{f:Nat->Nat}:∀{n:Nat},0<sumTo n f->∃k,k<n/\0<f k
 |0,h=>by simp[sumTo]at h
 |n+1,h=>by
  rw[sumTo]at h;by_cases Y:0<f n
  ·exact⟨n,by omega,Y⟩
  ·obtain⟨k,hk,K⟩:=Ra (f:=f) (n:=n) (by omega);exact⟨k,by omega,K⟩
theorem Sa{f:Nat->Nat}{j:Nat}(h:∀k,k<j->1<=f k):∀n,j<=n->j<=sumTo n f
 |0,Y=>by omega
 |n+1,Y=>by
  rw[sumTo];by_cases e:j=n+1
  ·have:=by
    have:∀m,m<=n->m<=sumTo m f:=by
     intro m;induction m with
     |zero=>omega
     |succ m H=>
      intro K;rw[sumTo];have:=h m (by omega);omega
    exact this n (ak _)
   have:=h n (by omega);omega
  ·have:=Sa h n (by omega);omega
theorem gy.MI.Jf(M:Q.MI C nd fu gs w t q rel)(N:Q.Laws)(h:CI Q.J Q.gT C)(F:Calm Q.J C)(hk:k<C.j)(V:∀pc,C.ks k≠.at pc .ic)(Z:∀n,C.ks k≠.qt n):∃(i:Nat) (g:ah),gs[i]?=some g/\g.status=.running:=by
 have run:∀k pc,k<C.j->C.ks k=.at pc .run->∃(i:Nat) (g:ah),gs[i]?=some g/\g.status=.running:=by
  intro k pc hk e;have K:=M.wk k hk;rw[e]at K;exact⟨_,_,K.1,sF K.2.1 fun y=>(vy N (M.r8 hk) y).1⟩
 have K:=M.wk k hk;cases H:C.ks k with
 |no=>rw[H]at K;exact K.elim
 |«at» pc md=>
  cases md with
  |run=>exact run k pc hk H
  |jU=>rw[H]at K;exact⟨_,_,K.1,rfl⟩
  |ic=>exact absurd H (V pc)
  |blk=>
   have L:=F.blk k pc H;obtain⟨sv,x,rfl⟩:=(h.md k _ _ H).1 rfl;obtain⟨k',O,R,D⟩:=h.lock.live (az hk h.jn) (by rw[H];rfl) L;cases Y:C.ks k' with
   |no=>exact absurd (by rw[Y];rfl) D
   |«at» U A=>
    have I:=bR fun y=>by rw[h.no k' y]at Y;cases Y
    cases A with
    |run=>exact run k' U I Y
    |blk=>
     obtain⟨B,x',rfl⟩:=(h.md k' _ _ Y).1 rfl;exact absurd (by rw[Y];rfl) (R B)
    |ic=>
     have:=(h.md k' _ _ Y).2 (.inl rfl);subst this;exact absurd (by rw[Y];rfl) D
    |jU=>
     have:=(h.md k' _ _ Y).2 (.inr rfl);subst this;exact absurd (by rw[Y];rfl) D
   |gX i n=>exact absurd (by rw[Y];rfl) D
   |qt n=>exact absurd (by rw[Y];rfl) D
 |gX i n=>
  rw[H]at K;have⟨g,R,D⟩:=K;exact⟨_,_,R,BS D⟩
 |qt n=>exact absurd H (Z n)
theorem gy.MI.live(M:Q.MI C nd fu gs w t q rel)(F:Q.Laws)(h:CI Q.J Q.gT C)(Y:Calm Q.J C):∃(i:Nat) (g:ah),gs[i]?=some g/\g.status=.running:=by
 have H:=M.g0;cases D:C.dm with
 |run=>
  rw[D]at H;exact⟨_,_,H.1,sF H.2 fun y=>(BR (M.r8 (i:=0) (ar _)) y).1⟩
 |jU=>exact absurd D h.po.2.2
 |ic=>
  have⟨i,hd⟩:=h.po.2.1 D;have K:=h.nI;rw[hd]at K;have R:=K.2.1;have hk:i%Q.J.n<C.j:=by rw[R];exact Nat.mod_lt _ F.n0
  refine M.Jf F h Y hk (fun pc=>Y.oY i D hd pc) (fun n e=>?_);have:=h.gone _ (show Gone _ by rw[e];trivial);rw[hd]at this;exact absurd this (aQ _)
 |blk=>
  have hd:=h.po.1 D;have O:=Y.Jr D;have K:=h.nI;rw[hd]at K;have R:C.j=Q.J.n:=K;have ph:=h.ph;have P:∀k pc,k<C.j->C.ks k≠.at pc .ic:=fun k pc hk e=>Y.ic k pc e (by rw[hd];show k<Q.J.n;omega);have gX:∀(f:gV Q.E->Nat),(∀s,0<f s->∃i n,s=.gX i n)->0<sumTo Q.J.n (fun k=>f (C.ks k))->∃(i:Nat) (g:ah),gs[i]?=some g/\g.status=.running:=by
   intro f B N;have⟨k,hk,A⟩:=Ra N;obtain⟨i,n,e⟩:=B _ A;exact M.Jf (k:=k) F h Y (by omega) (fun pc y=>by simp_all) (fun n y=>by simp_all)
  rw[hd]at ph;rcases ph with⟨_,_,_,_,y,_⟩|⟨_,⟨_,_,T,_⟩|⟨_,_,_,a,_⟩|⟨_,_,_,_,a⟩|⟨_,a,_⟩⟩
  ·exact absurd trivial y
  ·have L:=h.pq;rw[hd]at L;have:∃k,k<C.j/\kM (C.ks k)=0:=by
    apply b_;intro I;have:=Sa (f:=fun k=>kM (C.ks k)) (fun k hk=>by
     have:kM (C.ks k)≠0:=fun y=>I ⟨k,hk,y⟩;omega) Q.J.n h.jn
    have S:oR .w3=0:=rfl;omega
   have⟨k,hk,U⟩:=this;exact M.Jf F h Y hk (fun pc=>P k pc hk) (fun n e=>by rw[e]at U;cases U)
  ·refine gX jh (fun s H=>?_) (by omega);cases s with
   |gX i n=>exact⟨i,n,rfl⟩
   |_=>cases H
  ·refine gX ji (fun s H=>?_) (by omega);cases s with
   |gX i n=>exact⟨i,n,rfl⟩
   |_=>cases H
  ·omega
theorem gy.MI.awake(M:Q.MI C nd fu gs w t q rel)(O:Q.Laws):∀g∈gs,Go.Conc.awake g:=by
 intro g P;obtain⟨i,F,rfl⟩:=bZ.1 P;have Y:=bH F;have S:=M.size;rcases bQ i with rfl|I
 ·have K:=M.g0;have f0:=M.r8 (ar _);cases U:C.dm with
  |run=>
   rw[U]at K;rw[Option.some.inj (Y.symm.trans K.1)];exact aU (.inl (sF K.2 fun y=>(BR f0 y).1))
  |blk=>
   rw[U]at K;rw[Option.some.inj (Y.symm.trans K.1)];exact aU (.inr (.inl rfl))
  |ic=>
   rw[U]at K;have⟨_,i,c,x,z,f0,_,_,_,_,J,_⟩:=K;rw[Option.some.inj (Y.symm.trans J)];exact aU (.inr (.inl rfl))
  |jU=>rw[U]at K;exact K.elim
 ·by_cases B:i<Q.b
  ·exact aU ((M.old i _ I B Y).status.elim .inl fun y=>.inr (.inr y))
  ·obtain⟨k,rfl⟩:∃k,i=Q.b+k:=⟨i-Q.b,by omega⟩;have hk:k<C.j:=by omega
   have H:=M.wk k hk;have L:=M.r8 hk;cases A:C.ks k with
   |no=>rw[A]at H;exact H.elim
   |«at» pc md=>
    rw[A]at H;have⟨D,R,T⟩:=H;rw[Option.some.inj (Y.symm.trans D)];cases md with
    |run=>exact aU (.inl (sF R fun y=>(vy O L y).1))
    |blk=>exact aU (.inr (.inl rfl))
    |ic=>exact aU (.inr (.inl rfl))
    |jU=>exact aU (.inl rfl)
   |gX i n=>
    rw[A]at H;have⟨N,D,R⟩:=H;rw[Option.some.inj (Y.symm.trans D)];exact aU (.inl (BS R))
   |qt V=>
    rw[A]at H;have⟨N,D,R⟩:=H;rw[Option.some.inj (Y.symm.trans D)];exact aU (R.status.elim .inl fun y=>.inr (.inr y))
theorem gy.MI.step(M:Q.MI C nd fu gs w t q rel)(R:Q.Laws)(h:CI Q.J Q.gT C)(H:Calm Q.J C):∃m' ops,stepT Q.P (ao gs w sl)=(.next m',ops)/\(Q.jy C nd fu q m' (t++ops)\/Q.wq m' (t++ops)):=by
 obtain⟨i,g,d,T,I,Y,ga⟩:=crowd_pick (M.awake R) (M.live R h H);have B:=M.at d;rw[ga];rcases bQ i with rfl|K
 ·exact B.ahE R h H I Y
 ·by_cases A:i<Q.b
  ·have U:=M.old i g K A I;have L:(i==0)=false:=by simp;omega
   cases D:q i with
   |zero=>rw[D]at U;rw[U.1]at Y;cases Y
   |succ n=>
    rw[D]at U;rcases U with⟨y,_⟩|⟨_,g1,es,S,F,N⟩
    ·simp_all
    ·exact⟨_,_,bu I (by rw[L];exact F _),.inl (B.aeL R h H K A D S N _ _)⟩
  ·obtain⟨k,rfl⟩:∃k,i=Q.b+k:=⟨i-Q.b,by omega⟩;have hk:k<C.j:=by
    have:=(bI.1 I).1;rw[M.size]at this;omega
   obtain⟨m',ops,F,O⟩:=B.ahB R h H hk I Y;exact⟨m',ops,F,.inl O⟩
theorem gy.MI.acc(M:Q.MI C nd fu gs w t q rel)(h:CI Q.J Q.gT C):Acc (Down (fun i=>Nx Q.P (i==0) Q.E.U (Q.Df C fu i)) (Q.J.n+1)) nd:=by
 refine Qf _ _ _ fun i I=>?_;cases i with
 |zero=>
  have Y:=M.g0;cases K:C.dm with
  |run=>rw[K]at Y;exact Y.2.acc
  |blk=>rw[K]at Y;exact(Tz.stop Y.2.2.2).acc
  |ic=>rw[K]at Y;exact(Tz.stop Y.1).acc
  |jU=>rw[K]at Y;exact Y.elim
 |succ k=>
  have tr:∀{P:Program} {main:Bool} {U:Nat->Nat->Prop} (x:Nd),Acc (Nx P main U fun _ _ _ _=>True) x:=fun x=>⟨x,fun y R=>absurd trivial R.1⟩;show Acc (Nx Q.P _ _ (match C.ks k with|.at pc _=>Q.WS _ _ pc|_=>fun _ _ _ _=>True)) _
  by_cases hk:k<C.j
  ·have H:=M.wk k hk;cases D:C.ks k with
   |«at» pc md=>rw[D]at H;exact H.2.1.acc
   |no=>exact tr _
   |gX i n=>exact tr _
   |qt n=>exact tr _
  ·rw[h.no k (by omega)];exact tr _
theorem gy.phase(o:Q.Laws)(h:CI Q.J Q.gT C)(Y:Calm Q.J C)(M:Q.MI C nd fu gs w t q rel):Reach Q.P Q.wq (ao gs w sl) t:=by
 have key:∀(T:Nat) (C:iE Q.E) (nd:Nat->Nd) (fu:Nat->Nat) (gs:Array _) (w:af) (sl:Option _) (t:aB) (q:Nat->Nat) (rel:Nat->Option Nat),mu Q.J C=T->CI Q.J Q.gT C->Calm Q.J C->Q.MI C nd fu gs w t q rel->Reach Q.P Q.wq (ao gs w sl) t:=by
  intro T;induction T using bB with
  |_ T N=>
  intro C nd fu gs w sl t q rel H h Y M;have B:∀(D:Nat->(Nat->Prop)->(Nat->Prop)->ah->af->Prop) (nd:Nat->Nd),Acc (Down (fun i=>Nx Q.P (i==0) Q.E.U (D i)) (Q.J.n+1)) nd->∀(V:Nat) (C:iE Q.E) (fu:Nat->Nat) (gs:Array _) (w:af) (sl:Option _) (t:aB) (q:Nat->Nat) (rel:Nat->Option Nat),
    Q.Df C fu=D->mu Q.J C=T->Q.nu C q=V->CI Q.J Q.gT C->Calm Q.J C->Q.MI C nd fu gs w t q rel->Reach Q.P Q.wq (ao gs w sl) t:=by
   intro D nd F;induction F with
   |intro nd _ W=>
    intro V;induction V using bB with
    |_ V O=>
    intro C fu gs w sl t q rel G H r h Y M;obtain⟨m',ops,z,g|hF⟩:=M.step o h Y
    ·refine Reach.step z ?_;obtain⟨X,S,R,I,w',A,j,f,rfl,h',K,Z,l|⟨c,d,L|⟨rfl,p⟩⟩⟩:=g
     ·exact N _ (by omega) X S R I w' A _ j _ rfl h' K Z
     ·rw[G]at L;exact W S L _ X R I w' A _ j _ (d.trans G) (c.trans H) rfl h' K Z
     ·exact O _ (by omega) X R I w' A _ j _ (d.trans G) (c.trans H) rfl h' K Z
    ·exact Reach.step z (Reach.here hF)
  exact B _ nd (M.acc h) _ C fu gs w sl t q rel rfl H rfl h Y M
 exact key _ C nd fu gs w sl t q rel rfl h Y M
end
end Ph
namespace Ph
open Conc Ren
open Lock (Word PC Mv bn hr hd)
def nv(m:Word):Nat:=bn m.L+2 *bn m.K+4 *bn m.S+8 *m.W
theorem aoM(m:Word):val m=(nv m:Int):=rfl
theorem sM(b:Bool):bn b=0/\b=false\/bn b=1/\b=true:=by cases b;exact .inl ⟨rfl,rfl⟩;exact .inr ⟨rfl,rfl⟩
theorem xb(m:Word):(nv m%2==1)=m.L:=by
 unfold nv;rcases sM m.L with⟨e,h⟩|⟨e,h⟩<;>rw[e,h]<;>simp<;>omega
theorem xc(m:Word):(nv m/2%2==1)=m.K:=by
 unfold nv;rcases sM m.L with⟨e,h⟩|⟨e,h⟩<;>rcases sM m.K with⟨Y,H⟩|⟨Y,H⟩<;>rw[e,Y,H]<;>simp<;>omega
theorem r9(m:Word):(nv m/4%2==1)=m.S:=by
 unfold nv;rcases sM m.L with⟨e,h⟩|⟨e,h⟩<;>rcases sM m.K with⟨Y,R⟩|⟨Y,R⟩<;>rcases sM m.S with⟨H,D⟩|⟨H,D⟩<;>rw[e,Y,H,D]<;>simp<;>omega
theorem r_(m:Word):nv m/8=m.W:=by
 unfold nv;rcases sM m.L with⟨e,h⟩|⟨e,h⟩<;>rcases sM m.K with⟨Y,D⟩|⟨Y,D⟩<;>rcases sM m.S with⟨H,R⟩|⟨H,R⟩<;>rw[e,Y,H]<;>omega
theorem qi(n:Nat):(n%2==0)=!(n%2==1):=by
 rcases Nat.mod_two_eq_zero_or_one n with h|h<;>rw[h]<;>rfl
theorem yy(m:Word):wd (nv m)=m:=by
 unfold wd;rw[xb,xc,r9,r_]
theorem ahF{m:Word}(h:m.W<=8):nv m<72:=by
 unfold nv;have:=Lock.rh m.L;have:=Lock.rh m.K;have:=Lock.rh m.S;omega
theorem agu{m m':Word}(h:nv m=nv m'):m=m':=by rw[<-yy m,h,yy]
theorem val_inj{m m':Word}(h:val m=val m'):m=m':=agu (by exact Int.ofNat.inj h)
theorem oi{p:Nat->Bool}{m:Word}(h:m.W<=8)(Y:p (nv m)=true):nv m∈(List.range 72).filter p:=List.mem_filter.2 ⟨List.mem_range.2 (ahF h),Y⟩
theorem abd{it:Nat}(h:it<=4):bA.wrap ((it:Int)+1)=((it+1:Nat):Int):=by
 have:it=0\/it=1\/it=2\/it=3\/it=4:=by omega
 rcases this with rfl|rfl|rfl|rfl|rfl<;>rfl
theorem nQ.lf{l:List ae}{al:List (Nat×aj)}{call:Option (au×Array aj)}{load:Option (TypeId×aj)}{r:ae×List ae}(h:nQ l site al call load r):∃j,r.1=Ph.lf site (sA al) j:=⟨_,h.fr.eq⟩
theorem Au:jk PR 169 (fun _=>do mark .disable;pure bD):=⟨_,Tryz.func169,by kernel_rfl,by kernel_rfl,by kernel_rfl,by kernel_rfl⟩
theorem xd:jk PR 170 (fun _=>do mark .enable;pure bD):=⟨_,Tryz.func170,by kernel_rfl,by kernel_rfl,by kernel_rfl,by kernel_rfl⟩
theorem Tb:jk PR 182 (Extern.Race.marked .acquire):=⟨_,Tryz.func182,by kernel_rfl,by kernel_rfl,by kernel_rfl,by kernel_rfl⟩
theorem Tc:jk PR 168 (Extern.Race.marked .releaseMerge):=⟨_,Tryz.func168,by kernel_rfl,by kernel_rfl,by kernel_rfl,by kernel_rfl⟩
theorem u_:jk PR 204 (cf (.int .i32)):=⟨_,Tryz.func204,by kernel_rfl,by kernel_rfl,by kernel_rfl,by kernel_rfl⟩
theorem Td:jk PR 206 (ck (Op.intArith .add) .i32 true):=⟨_,Tryz.func206,by kernel_rfl,by kernel_rfl,by kernel_rfl,by kernel_rfl⟩
theorem Te:jk PR 214 Extern.Sync.canSpin:=⟨_,Tryz.func214,by kernel_rfl,by kernel_rfl,by kernel_rfl,by kernel_rfl⟩
theorem Tf:jk PR 217 Extern.OsHooks.nano:=⟨_,Tryz.func217,by kernel_rfl,by kernel_rfl,by kernel_rfl,by kernel_rfl⟩
theorem Ti:(PR.funcs[217]?).any (·.norace)=true:=by kernel_rfl
theorem Tj:jk PR 218 cm:=⟨_,Tryz.func218,by kernel_rfl,by kernel_rfl,by kernel_rfl,by kernel_rfl⟩
theorem DK:jk PR 220 cn:=⟨_,Tryz.func220,by kernel_rfl,by kernel_rfl,by kernel_rfl,by kernel_rfl⟩
theorem Tk:(PR.funcs[205]?).any (·.norace)=true:=by kernel_rfl
theorem Dk:ko PR (isAgg 21)=some false:=by kernel_rfl
theorem u253:PR.underlying 253=some (.pointer 187):=by simp
theorem u159:PR.underlying 159=some .unsafePointer:=by simp
theorem i187:(PR.info? 187).map (fun i=>decide (i.size=0))=some false:=by kernel_rfl
theorem ajb:jk PR 215 Extern.Sync.nothing:=⟨_,Tryz.func215,by kernel_rfl,by kernel_rfl,by kernel_rfl,by kernel_rfl⟩
theorem aeM{f:ae}{cs:List _}(h:ahead f=some (215,#[])):ay PR main (G f cs) w=.go (G (f.finish unit) cs) w #[]:=
 sx ajb h (by rfl) (by rfl) (by simp)
theorem stood{r:ae×List _}{l:List _}{site:List _}{al:List _}{call:Option _}{load:Option _}(h:look ks r=kj l site al call load)(hk:al.map (·.1)=ks):nQ l site al call load r:=by
 subst hk;exact stands h
theorem wrap_small{z:Nat}(h:z<1000):bE.wrap z=z:=by
 simp[IntKind.wrap,IntKind.bits];omega
namespace Env
section
variable{E:Env}{A:(Nat->Prop)->(Nat->Prop)->ah->af->Prop}{x:Nat}{S X:Nat->Prop}{Fx:af->Prop}{c:ae}{cs B:List ae}
def IF(E:Env)(A:(Nat->Prop)->(Nat->Prop)->ah->af->Prop)(x:Nat)(S X:Nat->Prop)(Fx:af->Prop)(c:ae)(cs:List _):=
 ∀k w γ,Fx w->E.mz γ (w.heap[E.Mp]?)->E.Tree PR false (E.jf PR A k (.ur (E.upd γ x))) (fun a=>S a\/a=E.Mp) (fun a=>X a\/a=E.Mp) (G (c.finish unit) cs) w
theorem via{D:(Nat->Prop)->(Nat->Prop)->ah->af->Prop}{site:List _}{al:List _}{f:ae}{v:aj}{l:List _}(Y:Fr site (sA al) f)(k:∀j w3,gR E.U S w w3->E.Tree PR false D S X (G (gu PR 300 ((lf site (sA al) j).finish v) l).1 (gu PR 300 ((lf site (sA al) j).finish v) l).2) w3):E.Tree PR false D S X (G (f.finish v) l) w:=by
 rw[Y.eq];exact Tz.pure 300 fun w3 hr=>k _ w3 hr
variable(I:∀i,¬E.U E.Mp i)(K:E.Kn S Fx)(hB:B=(yQ E.Fd c cs).2)(hT:IF E A x S X Fx c cs)
section
include I K hT
theorem SE{f:ae}{l:List _}(n:Nat)(h:ahead f=some (182,#[ptr E.Fd]))(R:gu PR n (f.finish unit) l=(c.finish unit,cs))(k:Nat)(hF:Fx w):E.Tree PR false (E.jf PR A k (.la x)) S X (G f l) w:=by
 refine .stop ?_;cases k with
 |zero=>trivial
 |succ k=>
  refine⟨rfl,rfl,fun w2 γ hr B=>⟨G (f.finish unit) l,xI (by simp) Tb h,Tz.pure n fun w3 Y=>?_⟩⟩;rw[R];have H:=K.rely (K.rely hF hr) (Pd (fun a D=>.inl D) Y);refine hT k w3 γ H ?_;have:=(Y.kept _ (.inr rfl)).eq fun i U=>I i U;simp_all
theorem aeN{f:ae}{l:List _}(n:Nat)(R:ql f=some (253,159,ptr E.Fd))(h:ahead (gu PR 300 (f.finish (ptr E.Fd)) l).1=some (182,#[ptr E.Fd]))(F:gu PR n ((gu PR 300 (f.finish (ptr E.Fd)) l).1.finish unit) (gu PR 300 (f.finish (ptr E.Fd)) l).2=(c.finish unit,cs))(k:Nat)(hF:Fx w):
  E.Tree PR false (E.jf PR A k (.la x)) S X (G f l) w:=by
 refine Tz.one rfl fun w2 hr=>?_;have Y:=K.rely hF hr;have⟨v,D⟩:=(K.fd Y).cell0;refine⟨G _ l,w2,#[],S,X,tV R u253 u159 i187 D,jd S X w2,Tz.pure 300 fun w3 H=>?_⟩;exact SE I K hT n h F k (K.rely Y H)
end
include I K hB hT
theorem SG{gf it:Int}{sv:Bool}{r:ae×List _}(h:nQ B CZ (iY E.Fd gf sv aw it) (some (170,#[])) none r)(k:Nat)(hF:Fx w):E.Tree PR false (E.jf PR A k (.le x)) S X (G r.1 r.2) w:=by
 refine .stop ?_;cases k with
 |zero=>trivial
 |succ k=>
  refine⟨rfl,rfl,fun w2 hr=>⟨G _ r.2,rN (by simp) xd h.call,Tz.pure 300 fun w3 C=>?_⟩⟩;have D:=K.rely (K.rely hF hr) C;have⟨j,M⟩:=h.lf;rw[M,h.callers];have Y:=stood (aey (Fd:=E.Fd) (gf:=gf) (sv:=sv) (aw:=aw) (it:=it) (j:=j) (l:=B)) rfl;have J:=aez (Fd:=E.Fd) (gf:=gf) (sv:=sv) (aw:=aw) (it:=it) (j:=j) (l:=B);change E.Tree PR _ _ S X (G (yh _ gf sv aw it j B).1 (yh E.Fd gf sv aw it j B).2) w3;generalize yh E.Fd gf sv aw it j B=r1 at Y J;have⟨F,R⟩:=Y.lf;have⟨f1,l1⟩:=r1;have L:=Y.callers.symm;subst L R;have H:=stood (aeA (Fd:=E.Fd) (gf:=gf) (sv:=sv) (aw:=aw) (it:=it) (j:=F) (l:=B)) rfl;have N:gu PR 9 ((C3 E.Fd gf sv aw it F B).1.finish unit) (C3 E.Fd gf sv aw it F B).2=(c.finish unit,cs):=by
   have⟨O,U⟩:=H.lf;rw[U,H.callers,hB];exact agm
  exact aeN I K hT 9 J H.call N k D
def Reads(E:Env)(A:(Nat->Prop)->(Nat->Prop)->ah->af->Prop)(x:Nat)(S X:Nat->Prop)(Fx:af->Prop)(B:List ae)(k:Nat):Prop:=
 ∀(site:List Item) (gf:Int) (sv aw:Bool) (it:Nat) (r:ae×List ae) (w:af),(site=I_\/site=IA\/site=CY)->nQ B site (iY E.Fd gf sv aw it) none (some (21,ptr E.Fd)) r->Fx w->E.Tree PR false (E.jf PR A k (.lk (.rd aw sv it) x)) S X (G r.1 r.2) w
theorem ahG{gf it:Int}{sv:Bool}{old:Word}{r:ae×List ae}(h:nQ B zY (iY E.Fd gf sv aw it) (some (206,#[ptr E.Fd,.int .i32 (delta sv (nv old))])) none r)(k:Nat)(hF:Fx w):E.Tree PR false (E.jf PR A k (.lk (.a1 old sv) x)) S X (G r.1 r.2) w:=by
 refine .stop ?_;cases k with
 |zero=>trivial
 |succ k=>
  refine⟨rfl,rfl,fun w2 m J hr H P D T V=>.inr ?_⟩;have⟨L,M,Z⟩:=D;have Y:bE.wrap (val m+delta sv (nv old))=val ⟨true,m.K,if sv=false\/old.W=1 then false else m.S,m.W-1⟩:=by
   have hd:delta sv (nv old)=if sv=false\/old.W=1 then-11 else-7:=by
    unfold delta;rw[r_];simp_all
   rw[hd];have Q:=Lock.rh m.K;have b0:bn false=0:=rfl;have F:bn true=1:=rfl;by_cases R:sv=false\/old.W=1
   ·rw[if_pos R,if_pos R];unfold val;simp only[L,M,b0,F];have e:((0+2 *bn m.K+4 *1+8 *m.W:Nat))+ -11=((1+2 *bn m.K+4 *0+8 *(m.W-1):Nat):Int):=by omega
    rw[e];exact wrap_small (by omega)
   ·rw[if_neg R,if_neg R];unfold val;simp only[L,M,b0,F];have e:((0+2 *bn m.K+4 *1+8 *m.W:Nat))+ -7=((1+2 *bn m.K+4 *1+8 *(m.W-1):Nat):Int):=by omega
    rw[e];exact wrap_small (by omega)
  refine⟨_,_,J,G _ r.2,_,_,Mv.a1 m old J sv,Cu Td h.call H.cell0 (H.thaw 0),by rw[Y];exact H.mP _,Eff.set _ _ _ _,EvA.two _ _ (by omega),fun O=>by omega,?_⟩;have U:Fx (w2.setCell E.mu (.int .i32 (bE.wrap (val m+delta sv (nv old))))):=by rw[Y];exact K.lM (K.rely hF hr) H (Eff.set _ _ _ _) (H.mP _)
  refine via h.fr fun j w3 C=>?_;rw[h.callers];have N:=stood (aex (Fd:=E.Fd) (gf:=gf) (sv:=sv) (aw:=aw) (it:=it) (x:=bE.wrap (val m+delta sv (nv old))) (j:=j) (l:=B)) rfl;exact SG I K hB hT N k (K.rely U C)
end
end Env
theorem abe{U:Nat->Nat->Prop}(S X:Nat->Prop)(w:af):j9 U S X w w.later #[] S X:=⟨⟨fun _ _ _=>rfl,ak _,fun a=>⟨.inl,fun h=>h.resolve_right fun y=>by simp[World.later]at y;omega⟩,fun a=>⟨.inl,fun h=>h.resolve_right fun y=>by simp[World.later]at y;omega⟩,fun e Y=>by simp_all,rfl,⟨w.tick,rfl⟩,rfl⟩,fun e Y=>by simp_all⟩
theorem acW{a b:Bool}(h:¬(a=true/\b=false)):(a&&!b)=false:=by simp_all
namespace Env
section
variable{E:Env}{A:(Nat->Prop)->(Nat->Prop)->ah->af->Prop}{x:Nat}{S X:Nat->Prop}{Fx:af->Prop}{c:ae}{cs B:List ae}
variable(I:∀i,¬E.U E.Mp i)(K:E.Kn S Fx)(hB:B=(yQ E.Fd c cs).2)(hT:IF E A x S X Fx c cs)
include I K hB hT
def AtC2(E:Env)(A:(Nat->Prop)->(Nat->Prop)->ah->af->Prop)(x:Nat)(S X:Nat->Prop)(Fx:af->Prop)(B:List ae)(k:Nat):Prop:=
 ∀(m:Word) (gf:Int) (sv aw:Bool) (it:Nat) (r:ae×List ae) (w:af),m.W<=8->(sv=true->aw=true)->(aw=true->m.K=true)->it<=4->look [6,0,2,3,4,5] r=toC2 B E.Fd gf sv aw it (nv m)->Fx w->E.Tree PR false (E.jf PR A k (.lk (.c2 m aw sv it) x)) S X (G r.1 r.2) w
def yk(E:Env)(A:(Nat->Prop)->(Nat->Prop)->ah->af->Prop)(x:Nat)(S X:Nat->Prop)(Fx:af->Prop)(B:List ae)(k:Nat):Prop:=
 ∀(m:Word) (gf:Int) (sv aw:Bool) (it:Nat) (r:ae×List ae) (w:af),m.W<=8->(sv=true->aw=true)->(aw=true->m.K=true)->it<=4->nQ B yu (rE E.Fd gf sv aw it (nv m)) none none r->Fx w->E.Tree PR false (E.jf PR A k (behind (hr m aw sv it) x)) S X (G r.1 r.2) w
omit I K hB hT in
theorem abf(m:Word)(aw sv:Bool)(it:Nat):(behind (.hw m aw sv it) x:E.kF)=.lk (.hw m aw sv it) x:=rfl
omit I K hB hT in
theorem Pg(m:Word)(aw sv:Bool)(it:Nat):(behind (.c2 m aw sv it) x:E.kF)=.lk (.c2 m aw sv it) x:=rfl
theorem Jg(R:Reads E A x S X Fx B k){gf:Int}{sv:Bool}{it:Nat}(hit:it<=4){r:ae×List _}(h:nQ B yf (iY E.Fd gf sv aw it) (some (215,#[])) none r)(hF:Fx w):E.Tree PR false (E.jf PR A k (.lk (.rd aw sv (it+1)) x)) S X (G r.1 r.2) w:=by
 refine Tz.one rfl fun w2 hr=>⟨G _ r.2,w2,#[],S,X,aeM h.call,jd S X w2,via h.fr fun j w3 Y=>?_⟩;rw[h.callers];have H:=stood (aer (Fd:=E.Fd) (gf:=gf) (sv:=sv) (aw:=aw) (it:=it) (j:=j) (l:=B)) rfl;rw[abd hit]at H;exact R _ gf sv aw _ _ w3 (.inr (.inl rfl)) H (K.rely (K.rely hF hr) Y)
theorem ahH(M:∀k',k'<k->Reads E A x S X Fx B k'){m:Word}(N:m.W<=8){gf:Int}{it:Nat}(hit:it<4){r:ae×List _}(h:nQ B Iz (Kq E.Fd gf false false it (nv m)) (some (204,#[ptr E.Fd,.int .i32 (nv m),.int .i32 (val {m with K:=true})])) none r)(hF:Fx w):E.Tree PR false (E.jf PR A k (.lk (.c1 m it) x)) S X (G r.1 r.2) w:=by
 refine .stop ?_;cases k with
 |zero=>trivial
 |succ k=>
  refine⟨rfl,rfl,fun w2 R D hr Y L J O P=>.inr ?_⟩;by_cases F:R=m
  ·subst F;refine⟨_,_,D,G _ r.2,_,_,Mv.Kb R D it,zo u_ h.call Y.cell0 (Y.thaw 0),Y.mP _,Eff.set _ _ _ _,EvA.two _ _ (by omega),fun C=>by omega,via h.fr fun j w3 H=>?_⟩;rw[h.callers];have U:=stood (acJ (Fd:=E.Fd) (gf:=gf) (sv:=false) (aw:=false) (it:=it) (old:=(nv R)) (j:=j) (l:=B)) rfl;exact Jg I K hB hT (M k (by omega)) (by omega) U (K.rely (K.lM (K.rely hF hr) Y (Eff.set _ _ _ _) (Y.mP _)) H)
  ·refine⟨_,_,D,G _ r.2,_,_,Mv.Kc R m D it F,zl u_ h.call Y.cell0 (Y.thaw 0) (fun e=>F (val_inj e)),Y,Eff.refl _ _,EvA.one _ _ _ (by omega),fun C=>by omega,via h.fr fun j w3 H=>?_⟩;rw[h.callers];have U:=stood (acK (Fd:=E.Fd) (gf:=gf) (sv:=false) (aw:=false) (it:=it) (old:=(nv m)) (j:=j) (l:=B)) rfl;exact Jg I K hB hT (M k (by omega)) (by omega) U (K.rely (K.rely hF hr) H)
theorem ahI(d:∀k',k'<k->Reads E A x S X Fx B k')(f:∀k',k'<k->AtC2 E A x S X Fx B k'){m:Word}(H:m.W<=8){gf:Int}{sv:Bool}{it:Nat}(Z:sv=true->aw=true)(M:aw=true->m.K=true)(hit:it<=4)(F:m.L=true/\m.S=false)
  {r:ae×List ae}(h:nQ B Hh (Ko E.Fd gf sv aw it (nv m)) (some (214,#[.int .i64 (it:Int)])) none r)(hF:Fx w):E.Tree PR false (E.jf PR A k (.lk (.hw m aw sv it) x)) S X (G r.1 r.2) w:=by
 refine .stop ?_;cases k with
 |zero=>trivial
 |succ k=>
  have U:(nv m%2==1&&nv m/4%2==0)=true:=by rw[xb,qi,r9,F.1,F.2];rfl
  have no:∀w1,Fx w1->E.Tree PR false (E.jf PR A k (behind (hd m aw sv it false) x)) S X (G (r.1.finish (.bool false)) r.2) w1:=by
   intro w1 R;have e:hd m aw sv it false=.c2 m aw sv it:=by unfold hd;simp
   rw[e,Pg];refine via h.fr fun j w3 D=>?_;rw[h.callers];have Y:nv m∈vX aw:=oi H (by
    rw[U,xc];cases aw with
    |false=>rfl
    |true=>rw[M rfl];rfl)
   refine f k (by omega) m gf sv aw it _ w3 H Z M hit ?_ (K.rely R D);cases aw with
   |false=>
    have:sv=false:=by simp_all
    subst this;exact jx aaX Y
   |true=>
    cases sv with
    |false=>exact jx aaY Y
    |true=>exact jx aaZ Y
  have yes:it<4->∀w1,Fx w1->E.Tree PR false (E.jf PR A k (behind (hd m aw sv it true) x)) S X (G (r.1.finish (.bool true)) r.2) w1:=by
   intro P w1 R;by_cases z:aw=false/\m.K=false/\m.W≠0
   ·have e:hd m aw sv it true=.c1 m it:=by unfold hd;simp_all
    rw[e];obtain⟨rfl,Q,T⟩:=z;have:sv=false:=by simp_all
    subst this;refine via h.fr fun j w3 D=>?_;rw[h.callers];have Y:nv m∈Ja:=oi H (by rw[U,qi,xc,Q,r_];simp[T]);have N:=stood (jx (aa6 (Fd:=E.Fd) (gf:=gf) (sv:=false) (it:=(it:Int)) (j:=j) (l:=B)) Y) rfl;rw[yy]at N;exact ahH I K hB hT (fun k' c=>d k' (by omega)) H P N (K.rely R D)
   ·have e:hd m aw sv it true=.rd aw sv (it+1):=by unfold hd;simp_all
    rw[e];refine via h.fr fun j w3 D=>?_;rw[h.callers];have N:nQ B yf (iY E.Fd gf sv aw it) (some (215,#[])) none (sJ E.Fd gf sv aw it (nv m:Int) true j B):=by
     cases aw with
     |true=>exact stood (jx (aa8 (gf:=gf) (sv:=sv) (j:=j) (l:=B)) (oi H U)) rfl
     |false=>
      refine stood (jx (aa7 (Fd:=E.Fd) (gf:=gf) (sv:=sv) (it:=(it:Int)) (j:=j) (l:=B)) (oi H ?_)) rfl;rw[U,qi,xc,r_];cases Q:m.K with
      |true=>rfl
      |false=>
       have:m.W=0:=b_ fun y=>z ⟨rfl,Q,y⟩;rw[this];rfl
    exact Jg I K hB hT (d k (by omega)) hit N (K.rely R D)
  refine⟨rfl,rfl,fun w2 O J hr C g q o p=>.inr ?_⟩;by_cases P:it<4
  ·refine⟨_,O,J,G _ r.2,w2.asked,#[],Mv.hw O m J aw sv it w2.spins,Xe h.call Te (by omega),C.asked,Eff.asked _ _,EvA.nil _,fun V=>by omega,?_⟩;cases w2.spins with
   |false=>exact no w2.asked (K.lM (K.rely hF hr) C (Eff.asked _ _) C.asked)
   |true=>exact yes P w2.asked (K.lM (K.rely hF hr) C (Eff.asked _ _) C.asked)
  ·exact⟨_,O,J,G _ r.2,w2,#[],Mv.hw O m J aw sv it false,XD h.call Te (by omega),C,Eff.refl _ _,EvA.nil _,fun V=>by omega,no w2 (K.rely hF hr)⟩
theorem aeO(V:∀k',k'<k->Reads E A x S X Fx B k')(M:∀k',k'<=k->AtC2 E A x S X Fx B k'):yk E A x S X Fx B k:=by
 intro m gf sv aw it r w H U D hit h hF;have⟨j,O⟩:=h.lf;rw[O,h.callers];refine Tz.pure 300 fun w3 F=>?_;have R:=K.rely hF F;by_cases C:m.L=true/\m.S=false
 ·have e:hr m aw sv it=.hw m aw sv it:=by unfold hr;simp_all
  rw[e,abf];have J:(nv m%2==1&&nv m/4%2==0)=true:=by rw[xb,qi,r9,C.1,C.2];rfl
  have N:=stood (jx (acI (Fd:=E.Fd) (gf:=gf) (sv:=sv) (aw:=aw) (it:=it) (j:=j) (l:=B)) (oi H J)) rfl;exact ahI I K hB hT V (fun k' P=>M k' (by omega)) H U D hit C N R
 ·have e:hr m aw sv it=.c2 m aw sv it:=by unfold hr;simp_all
  rw[e,Pg];have Y:nv m∈wj aw:=oi H (by
   rw[xb,qi,r9,xc,acW C];cases aw with
   |false=>rfl
   |true=>rw[D rfl];rfl)
  refine M k (ak _) m gf sv aw it _ w3 H U D hit ?_ R;cases aw with
  |false=>
   have:sv=false:=by simp_all
   subst this;exact jx aaU Y
  |true=>
   cases sv with
   |false=>exact jx aaV Y
   |true=>exact jx aaW Y
end
end Env
namespace Env
section
variable{E:Env}{A:(Nat->Prop)->(Nat->Prop)->ah->af->Prop}{x:Nat}{S X:Nat->Prop}{Fx:af->Prop}{c:ae}{cs B:List ae}
variable(I:∀i,¬E.U E.Mp i)(K:E.Kn S Fx)(hB:B=(yQ E.Fd c cs).2)(hT:IF E A x S X Fx c cs)
include I K hB hT
theorem SH(V:∀k',k'<k->yk E A x S X Fx B k'){gf it:Int}{sv:Bool}{r:ae×List _}(h:nQ B C2 (iY E.Fd gf sv aw it) none (some (21,ptr E.Fd)) r)(hF:Fx w):E.Tree PR false (E.jf PR A k (.lk (.r2 sv) x)) S X (G r.1 r.2) w:=by
 refine .stop ?_;cases k with
 |zero=>trivial
 |succ k=>
  refine⟨rfl,rfl,fun w2 m J hr M T F N q=>.inr ?_⟩;have R:ay PR false (G r.1 r.2) w2=.go _ w2 #[]:=BX h.load Dk M.cell0 (by rw[h.fr.fn];exact Tk);have P:∀(D:(Nat->Prop)->(Nat->Prop)->ah->af->Prop),(∀j w3,gR E.U S w2 w3->E.Tree PR false D S X (G (vY E.Fd gf sv aw it (nv m) j B).1 (vY E.Fd gf sv aw it (nv m) j B).2) w3)->E.Tree PR false D S X (G (r.1.finish (.int .i32 (val m))) r.2) w2:=by
   intro D hk;rw[h.fr.eq,h.callers];exact Tz.Ag 300 fun w3 H=>hk _ w3 H
  cases Y:m.S with
  |false=>
   refine⟨_,m,J,_,w2,#[],Mv.Ej m J sv Y,R,M,Eff.refl _ _,EvA.nil _,fun O=>by omega,P _ fun j w3 H=>?_⟩;have L:=stood (jx (acQ (Fd:=E.Fd) (gf:=gf) (sv:=sv) (aw:=aw) (it:=it) (j:=j) (l:=B)) (oi N (by rw[qi,r9,Y];rfl))) rfl;exact V k (by omega) m gf sv true 0 _ w3 N (fun _=>rfl) (fun _=>F.2 Y) (by omega) L (K.rely (K.rely hF hr) H)
  |true=>
   refine⟨_,m,J,_,w2,#[],Mv.Kh m J sv Y,R,M,Eff.refl _ _,EvA.nil _,fun O=>by omega,P _ fun j w3 H=>?_⟩;have⟨Z,W,z⟩:=F.1 Y;have Q:(nv m%4==0)=true:=by
    unfold nv;have b0:bn false=0:=rfl;rw[Z,W,b0];simp;omega
   have C:nv m∈hard:=oi N (by rw[Q,r9,Y,r_];simp;omega);have L:nQ B zY (iY E.Fd gf sv aw it) (some (206,#[ptr E.Fd,.int .i32 (delta sv (nv m))])) none (vY E.Fd gf sv aw it (nv m) j B):=by
    cases sv with
    |false=>exact stood (jx (ZF) C) rfl
    |true=>exact stood (jx (ZG) C) rfl
   exact ahG I K hB hT L k (K.rely (K.rely hF hr) H)
theorem ahJ(F:∀k',k'<k->yk E A x S X Fx B k'){gf it:Int}{r:ae×List _}(h:nQ B ID ((95,.bool false)::iY E.Fd gf false aw it) (some (217,#[])) none r)(hF:Fx w):E.Tree PR false (E.jf PR A k (.lk .t2 x)) S X (G r.1 r.2) w:=by
 refine .stop ?_;cases k with
 |zero=>trivial
 |succ k=>
  refine⟨rfl,rfl,fun w2 m D hr Y L R M N=>.inr ?_⟩;refine⟨_,m,D,G _ r.2,w2.later,#[],Mv.t2 m D (decide (1000000<bA.wrap (((w2.os.mono+w2.tick))-gf))),O_ h.call Tf Ti,Y.later,Eff.later _ _,EvA.nil _,fun J=>by omega,via h.fr fun j w3 H=>?_⟩;rw[h.callers];have U:=stood (aew (Fd:=E.Fd) (gf:=gf) (T:=((w2.os.mono+w2.tick))) (aw:=aw) (it:=it) (j:=j) (l:=B)) rfl;exact SH I K hB hT (fun k' C=>F k' (by omega)) U (K.rely (K.lM (K.rely hF hr) Y (Eff.later _ _) Y.later) H)
theorem SI(F:∀k',k'<k->yk E A x S X Fx B k'){gf it:Int}{sv:Bool}{r:ae×List _}(h:nQ B C0 (iY E.Fd gf sv aw it) (some (218,#[.pointer (some E.ms),v8,.int .i64 2])) none r)(hF:Fx w):E.Tree PR false (E.jf PR A k (.lk (.s1 sv) x)) S X (G r.1 r.2) w:=by
 refine .stop ?_;cases k with
 |zero=>trivial
 |succ k=>
  refine⟨rfl,rfl,fun w2 m J hr Y L C N O=>?_⟩;cases J with
  |zero=>exact .inl ⟨sv,rfl,rfl,ML Tj h.call rfl Y.ri⟩
  |succ c0=>
   have M:(((c0+1:Nat):Int)-1)=c0:=by omega
   have ga:=Mt (main:=false) (cs:=r.2) Tj h.call rfl Y.ri (by omega) (Y.thaw 1);rw[M]at ga;refine .inr ?_;cases sv with
   |false=>
    refine⟨_,m,c0,_,_,_,Mv.Kf m c0,ga,Y.qE c0,Eff.set _ _ _ _,EvA.yP _ _ (by omega),fun U=>by omega,?_⟩;refine via h.fr fun j w3 H=>?_;rw[h.callers];have D:=stood (acO (Fd:=E.Fd) (gf:=gf) (aw:=aw) (it:=it) (j:=j) (l:=B)) rfl;exact ahJ I K hB hT (fun k' R=>F k' (by omega)) D (K.rely (K.lM (K.rely hF hr) Y (Eff.set _ _ _ _) (Y.qE c0)) H)
   |true=>
    refine⟨_,m,c0,_,_,_,Mv.Kg m c0,ga,Y.qE c0,Eff.set _ _ _ _,EvA.yP _ _ (by omega),fun U=>by omega,?_⟩;refine via h.fr fun j w3 H=>?_;rw[h.callers];have D:=stood (acP (Fd:=E.Fd) (gf:=gf) (aw:=aw) (it:=it) (j:=j) (l:=B)) rfl;exact SH I K hB hT (fun k' R=>F k' (by omega)) D (K.rely (K.lM (K.rely hF hr) Y (Eff.set _ _ _ _) (Y.qE c0)) H)
theorem ahK(ih:∀k',k'<k->Reads E A x S X Fx B k')(o:∀k',k'<k->yk E A x S X Fx B k'):AtC2 E A x S X Fx B k:=by
 intro m gf sv aw it r w M Ee b hit t hF;have h:=stood t rfl;refine .stop ?_;cases k with
 |zero=>trivial
 |succ k=>
  refine⟨rfl,rfl,fun w2 H O hr U a s hW hc=>.inr ?_⟩;have D:=by
   have:=h.call;rw[yy]at this;exact this
  by_cases c:H=m
  ·subst c;refine⟨_,_,O,G (r.1.finish (.bool true)) r.2,_,_,Mv.Ei H O aw sv it,zo u_ D U.cell0 (U.thaw 0),U.mP _,Eff.set _ _ _ _,EvA.two _ _ (by omega),fun z=>by omega,?_⟩;have F:=K.lM (K.rely hF hr) U (Eff.set _ _ _ _) (U.mP (Lock.nw H aw sv));by_cases P:H.L=false/\H.S=false
   ·rw[if_pos P];refine via h.fr fun j w3 R=>?_;rw[h.callers];have Y:=stood (jx (aes (Fd:=E.Fd) (gf:=gf) (sv:=sv) (aw:=aw) (it:=(it:Int)) (j:=j) (l:=B)) (oi M (by rw[qi,xb,qi,r9,P.1,P.2];rfl))) rfl;exact SG I K hB hT Y k (K.rely F R)
   ·rw[if_neg P];rw[h.fr.eq,h.callers];refine Tz.Sw 87 300 fun w3 R=>?_;have V:=K.rely F R;have N:nv H∈mT:=oi M (by
     rw[qi,xb,qi,r9];cases hL:H.L<;>cases n:H.S<;>simp_all)
    have Y:=stood (jx (aeu (Fd:=E.Fd) (gf:=gf) (sv:=sv) (aw:=aw) (it:=(it:Int)) (j:=fun i=>r.1.tmps.getD i aH) (l:=B)) N) rfl;change E.Tree PR false _ S X (G (zM E.Fd gf sv aw (it:Int) (nv H:Int) _ B).1 (zM E.Fd gf sv aw (it:Int) (nv H:Int) _ B).2) w3;generalize zM E.Fd gf sv aw (it:Int) (nv H:Int) _ B=r1 at Y;have u:Fr IB (sA ((87,.bool (decide (gf=0)))::(8,r1.1.tmps.getD 8 aH)::iY E.Fd gf sv aw it)) r1.1:=by
     refine⟨Y.fr.fn,Y.fr.todo,Y.fr.defers,Y.fr.mode,Y.fr.kind,Y.fr.round,Y.fr.size,fun i v e=>?_⟩;by_cases p:i=8
     ·subst p;exact Option.some.inj e
     ·refine Y.fr.slot i v ?_;rw[<-e];unfold sA;rw[bP,bP,bP];have:(i==8)=false:=by simpa using p
      rw[this]
    rw[u.eq,Y.callers];refine Tz.pure 300 fun w4 d=>?_;have J:=K.rely V d;cases hd:decide (gf=0)with
    |false=>
     have C:=stood (acN (Fd:=E.Fd) (gf:=gf) (sv:=sv) (aw:=aw) (it:=(it:Int)) (v8:=r1.1.tmps.getD 8 aH) (j:=fun i=>r1.1.tmps.getD i aH) (l:=B)) rfl;exact SI I K hB hT (fun k' q=>o k' (by omega)) C J
    |true=>
     have C:=stood (acM (Fd:=E.Fd) (gf:=gf) (sv:=sv) (aw:=aw) (it:=(it:Int)) (v8:=r1.1.tmps.getD 8 aH) (j:=fun i=>r1.1.tmps.getD i aH) (l:=B)) rfl;change E.Tree PR false _ S X (G _ (IC E.Fd gf sv aw true (it:Int) (r1.1.tmps.getD 8 aH) _ B).2) w4;refine Tz.one rfl fun Q f=>⟨_,_,_,S,X,O_ C.call Tf Ti,abe S X Q,via C.fr fun j w6 g=>?_⟩;have Z:Fx Q.later:=K.later (K.rely J f);have W:Fx w6:=K.rely Z g;rw[C.callers];have y:=stood (aev (Fd:=E.Fd) (sv:=sv) (aw:=aw) (it:=(it:Int)) (T:=((Q.os.mono+Q.tick:Nat):Int)) (v8:=r1.1.tmps.getD 8 aH) (gf:=gf) (j:=j) (l:=B)) rfl;exact SI I K hB hT (fun k' q=>o k' (by omega)) y W
  ·refine⟨_,_,O,G (r.1.finish (.bool false)) r.2,_,_,Mv.Kd H m O aw sv it c,zl u_ D U.cell0 (U.thaw 0) (fun e=>c (val_inj e)),U,Eff.refl _ _,EvA.one _ _ _ (by omega),fun z=>by omega,?_⟩;refine via h.fr fun j w3 R=>?_;rw[h.callers];have Y:=stood (acL (Fd:=E.Fd) (gf:=gf) (sv:=sv) (aw:=aw) (it:=(it:Int)) (old:=(nv m:Int)) (j:=j) (l:=B)) rfl;exact ih k (by omega) CY gf sv aw it _ w3 (.inr (.inr rfl)) Y (K.rely (K.rely hF hr) R)
theorem abg:∀k,Reads E A x S X Fx B k:=by
 intro k;induction k using bB with
 |_ k N=>
 have Y:∀k',k'<k->yk E A x S X Fx B k'/\AtC2 E A x S X Fx B k':=by
  intro k';induction k' using bB with
  |_ k' F=>
  intro P;have c2:=ahK I K hB hT (fun q C=>N q (by omega)) (fun q C=>(F q C (by omega)).1);refine⟨aeO I K hB hT (fun q C=>N q (by omega)) (fun q C=>?_),c2⟩;rcases Nat.lt_or_eq_of_le C with D|rfl
  ·exact(F q D (by omega)).2
  ·omega
 intro site gf sv aw it r w H h hF;refine .stop ?_;cases k with
 |zero=>trivial
 |succ k=>
  refine⟨rfl,rfl,fun w2 m L hr M R U O Q=>.inr ?_⟩;refine⟨_,m,L,_,w2,#[],Mv.rd m L aw sv it,BX h.load Dk M.cell0 (by rw[h.fr.fn];exact Tk),M,Eff.refl _ _,EvA.nil _,fun D=>by omega,?_⟩;rw[h.fr.eq,h.callers];refine Tz.Ag 60 fun w3 J=>?_;refine(Y k (by omega)).1 m gf sv aw it _ w3 O R.1 U R.2 ?_ (K.rely (K.rely hF hr) J);rcases H with e|e|e
  ·rw[e];exact stood ZD rfl
  ·rw[e];exact stood Yq rfl
  ·rw[e];exact stood Yr rfl
omit hB in
theorem aeP(k:Nat)(hF:Fx w):E.Tree PR false (E.jf PR A k (.ld x)) S X (G (Frame.enter PR 160 #[ptr E.Fd] .normal) (c::cs)) w:=by
 refine Tz.pure 60 fun w1 M=>?_;have C:=K.rely hF M;refine .stop ?_;cases k with
 |zero=>trivial
 |succ k=>
  refine⟨rfl,rfl,fun w2 hr=>⟨G _ _,rN (by simp) Au la0,Tz.pure 60 fun w3 N=>?_⟩⟩;have D:=K.rely (K.rely C hr) N;refine .stop ?_;cases k with
  |zero=>trivial
  |succ k=>
   refine⟨rfl,rfl,fun w4 m B U Y q V z d=>.inr ?_⟩;by_cases L:m=.zero
   ·subst L;refine⟨_,_,B,G _ _,_,_,Mv.Eh B,zo u_ Ud Y.cell0 (Y.thaw 0),Y.mP ⟨true,false,false,0⟩,Eff.set _ _ _ _,EvA.two _ _ (by omega),fun J=>by omega,Tz.pure 60 fun Z H=>?_⟩;have F:=K.rely (K.lM (K.rely D U) Y (Eff.set _ _ _ _) (Y.mP ⟨true,false,false,0⟩)) H;refine .stop ?_;cases k with
    |zero=>trivial
    |succ k=>
     refine⟨rfl,rfl,fun f O=>⟨G _ _,rN (by simp) xd la2,Tz.pure 60 fun g P=>?_⟩⟩;refine Tz.one rfl fun W Q=>?_;have R:=K.rely (K.rely (K.rely F O) P) Q;have⟨v,j⟩:=(K.fd R).cell0;refine⟨G _ _,W,#[],S,X,tV la3 u253 u159 i187 j,jd S X W,Tz.pure 60 fun l T=>?_⟩;exact SE I K hT 6 la4 la5 k (K.rely R T)
   ·refine⟨_,_,B,G _ _,_,_,Mv.Ka m B L,zl u_ Ud Y.cell0 (Y.thaw 0) (fun e=>L (val_inj e)),Y,Eff.refl _ _,EvA.one _ _ _ (by omega),fun J=>by omega,Tz.pure 60 fun Z H=>?_⟩;exact abg I K rfl hT k _ 0 _ _ 0 _ Z (.inl rfl) (stood las rfl) (K.rely (K.rely D U) H)
end
end Env
end Ph
namespace Ph
open Conc Ren
section
variable(Wg:Nat)(c:ae)(cs:List ae)
def yR:ae×List Frame:=gu PR 60 (Frame.enter PR 181 #[ptr Wg] .deferred) (c::cs)
def KG:ae×List Frame:=gu PR 60 ((yR Wg c cs).1.finish (ptr Wg)) (yR Wg c cs).2
def KH:ae×List Frame:=gu PR 60 ((KG Wg c cs).1.finish unit) (KG Wg c cs).2
def xp:ae×List Frame:=gu PR 60 ((KH Wg c cs).1.finish unit) (KH Wg c cs).2
def El:ae×List Frame:=gu PR 90 ((xp Wg c cs).1.finish (.bool false)) (xp Wg c cs).2
def vo (z:Int):ae×List Frame:=gu PR 300 ((El Wg c cs).1.finish (.int .u64 z)) (El Wg c cs).2
def KI:ae×List Frame:=gu PR 300 ((vo Wg c cs 1).1.finish (.int .u64 1)) (vo Wg c cs 1).2
def Em:ae×List Frame:=gu PR 300 ((KI Wg c cs).1.finish unit) (KI Wg c cs).2
def yS:ae×List Frame:=gu PR 300 ((Em Wg c cs).1.finish unit) (Em Wg c cs).2
end
section
variable{Wg:Nat}{c:ae}{cs:List ae}
theorem da0:ql (yR Wg c cs).1=some (216,159,ptr Wg):=by kernel_rfl
theorem da1:ahead (KG Wg c cs).1=some (168,#[ptr Wg]):=by kernel_rfl
theorem da2:ahead (KH Wg c cs).1=some (169,#[]):=by kernel_rfl
theorem da3:ahead (xp Wg c cs).1=some (171,#[]):=by kernel_rfl
theorem da4:ahead (El Wg c cs).1=some (200,#[ptr Wg,.int .u64 18446744069414584320]):=by kernel_rfl
theorem da5:ahead (vo Wg c cs 1).1=some (201,#[ptr Wg]):=by kernel_rfl
theorem da6:ahead (KI Wg c cs).1=some (202,#[ptr Wg,.int .u64 0]):=by kernel_rfl
theorem Uh:ahead (Em Wg c cs).1=some (180,#[.pointer (some ⟨Wg,1,none⟩),.bool false,.int .i64 0]):=by kernel_rfl
end
theorem Tl:jk PR 171 (fun _=>pure (.bool false)):=⟨_,Tryz.func171,by kernel_rfl,by kernel_rfl,by kernel_rfl,by kernel_rfl⟩
theorem Tm:jk PR 200 (ck (Op.intArith .add) .u64 true):=⟨_,Tryz.func200,by kernel_rfl,by kernel_rfl,by kernel_rfl,by kernel_rfl⟩
theorem Ju:jk PR 201 (cg (.int .u64)):=⟨_,Tryz.func201,by kernel_rfl,by kernel_rfl,by kernel_rfl,by kernel_rfl⟩
theorem ajc:jk PR 202 cj:=⟨_,Tryz.func202,by kernel_rfl,by kernel_rfl,by kernel_rfl,by kernel_rfl⟩
theorem Tn:jk PR 203 (cf (.int .u64)):=⟨_,Tryz.func203,by kernel_rfl,by kernel_rfl,by kernel_rfl,by kernel_rfl⟩
theorem Tp:jk PR 180 cn:=⟨_,Tryz.func180,by kernel_rfl,by kernel_rfl,by kernel_rfl,by kernel_rfl⟩
theorem Tq:jk PR 186 cm:=⟨_,Tryz.func186,by kernel_rfl,by kernel_rfl,by kernel_rfl,by kernel_rfl⟩
theorem ajd:jk PR 176 (Extern.Race.marked .read):=⟨_,Tryz.func176,by kernel_rfl,by kernel_rfl,by kernel_rfl,by kernel_rfl⟩
theorem aje:jk PR 185 (Extern.Race.marked .write):=⟨_,Tryz.func185,by kernel_rfl,by kernel_rfl,by kernel_rfl,by kernel_rfl⟩
theorem u216:PR.underlying 216=some (.pointer 212):=by simp
theorem i212:(PR.info? 212).map (fun i=>decide (i.size=0))=some false:=by kernel_rfl
theorem BZ:∀(n:Nat) {q d:Nat} {f:ae} {l:List ae},aT P q d (G (gu P n f l).1 (gu P n f l).2)->∃Y,aT P Y d (G f l)
 |0,q,d,f,l,h=>⟨q,h⟩
 |n+1,q,d,f,l,h=>by
  unfold gu at h;split at h
  ·rename_i f1 l1 e;have⟨Y,h'⟩:=BZ n h;exact⟨Y+1,.ctl rfl (fun w=>sD e) h'⟩
  ·exact⟨q,h⟩
theorem Nz{f:ae}{g:au}{m:Mark}(M:∀g,m≠.extern g)(F:f.mode=.returning)(hr:f.roundOf=none)(hd:f.defers=bk g #[]::ds)(X:jk P g (fun _=>do mark m;pure bD)):
  ay P main (G f cs) w=.go (G {f with defers:=ds} cs) w #[⟨.mark m,false,true⟩]:=by
 have⟨fn,Y,K,H,D,R⟩:=X.ex;have⟨iV,tmps,todo,defers,mode,kind,ro⟩:=f;subst F hr;exact stepG_unwind_entry (b:=⟨iV,tmps,todo,defers,.returning,kind,none⟩) (a:=⟨tmps,defers⟩) (v:=.tuple #[]) hd Y K H D R (by simp[bD]) (by simp) (by simp_all)
def bot:Frame:={(default:ae)with fn:=PR.funcs.size,defers:=[],mode:=.panicking [goexitEntry]}
def kK (tmps:Array aj) (todo:List Item):Frame:=⟨158,tmps,todo,[],.returning,.deferred,none⟩
section
variable{Wg:Nat}{tmps:Array aj}{todo:List Item}{w:af}
theorem leave1:ay PR false (G (kK tmps todo) [bot]) w=.go (G bot []) w #[]:=by kernel_rfl
theorem agv:ay PR false (G bot []) w=.go {G bot []with status:=.finished} w #[]:=by kernel_rfl
def zs:List Nat:=[0,4294967296,4294967297,8589934592,8589934593,12884901888,12884901889,17179869184,17179869185,21474836480,21474836481,25769803776,25769803777,30064771072,30064771073,34359738368,34359738369]
theorem agw:(zs.map fun z:Nat=>((vo Wg (kK tmps todo) [bot] (z:Int)).1.mode,(vo Wg (kK tmps todo) [bot] (z:Int)).1.roundOf,(vo Wg (kK tmps todo) [bot] (z:Int)).1.defers))=zs.map fun z:Nat=>(.returning,none,[bk 170 #[]]):=by kernel_rfl
theorem agx:(zs.map fun z:Nat=>gu PR 6 {(vo Wg (kK tmps todo) [bot] (z:Int)).1 with defers:=[]} (vo Wg (kK tmps todo) [bot] (z:Int)).2)=zs.map fun z:Nat=>(kK tmps todo,[bot]):=by kernel_rfl
theorem agy:((yS Wg (kK tmps todo) [bot]).1.mode,(yS Wg (kK tmps todo) [bot]).1.roundOf,(yS Wg (kK tmps todo) [bot]).1.defers)=(.returning,none,[bk 170 #[]]):=by kernel_rfl
theorem agz:gu PR 6 {(yS Wg (kK tmps todo) [bot]).1 with defers:=[]} (yS Wg (kK tmps todo) [bot]).2=(kK tmps todo,[bot]):=by kernel_rfl
end
theorem abh:aT PR 2 0 (G (kK tmps todo) [bot]):=
 .ctl rfl (fun w=>leave1) (.inr ⟨rfl,{G bot []with status:=.finished},#[],by simp,fun w=>agv,⟨rfl,rfl⟩⟩)
theorem Qn{r:ae×List ae}(Y:(r.1.mode,r.1.roundOf,r.1.defers)=(.returning,none,[bk 170 #[]]))(H:gu PR 6 {r.1 with defers:=[]} r.2=(kK tmps todo,[bot])):∃q,aT PR q 1 (G r.1 r.2):=by
 simp only[Prod.mk.injEq]at Y;have K:aT PR 2 0 (G (gu PR 6 {r.1 with defers:=[]} r.2).1 (gu PR 6 {r.1 with defers:=[]} r.2).2):=by rw[H];exact abh
 have⟨q,D⟩:=BZ 6 K;exact⟨q+1,.said _ rfl rfl (fun w=>Nz (by simp) Y.1 Y.2.1 Y.2.2 xd) D⟩
theorem Gb{f:ae}{cs:List _}{g:au}{k:IntKind}(X:jk P g (cg (.int k))){v:Int}(h:ahead f=some (g,#[.pointer (some ad)]))(F:w.cell? ad=some (.int k v)):
  ay P main (G f cs) w=.go (G (f.finish (.int k v)) cs) w #[⟨.cell ad,false,true⟩]:=by
 have⟨o,Y,H,C,gh,K⟩:=tS h;have⟨fn,D,R,I,A,U⟩:=X.ex;obtain⟨x,rfl⟩:∃x,Y=#[x]:=by
  have:=by have:=congrArg Array.size K;simpa using this
  refine⟨Y[0],?_⟩;apply Array.ext
  ·omega
  ·simp_all
 have J:=by simpa using K
 exact conv C fun ops i rest L B hw hk=>stepG_load_atomic B hw hk gh D R I A k U J F
theorem Ys{f:ae}{g:au}{k:IntKind}(X:jk P g cj){v:Int}(h:ahead f=some (g,#[.pointer (some ad),.int k v]))(F:w.cell? ad=some u)(M:w.frozen? ad=false):
  ay P main (G f cs) w=.go (G (f.finish (.tuple #[])) cs) (w.setCell ad (.int k v)) #[⟨.cell ad,true,true⟩]:=by
 have⟨o,Y,R,L,gh,K⟩:=tS h;have⟨fn,I,A,U,B,C⟩:=X.ex;obtain⟨x,y,rfl⟩:∃x y,Y=#[x,y]:=by
  have N:=by have:=congrArg Array.size K;simpa using this
  refine⟨Y[0],Y[1],?_⟩;apply Array.ext
  ·omega
  ·intro i H J;have:i=0\/i=1:=by omega
   rcases this with rfl|rfl<;>rfl
 have D:=by simpa using K
 exact conv L fun ops i rest O H hw hk=>stepG_store_atomic H hw hk gh I A U B C D.1 D.2 F M
theorem sub_one{v:Nat}(H:v<=8)(Y:wt<=1):IntKind.u64.wrap ((((v+1) *4294967296+wt:Nat))+18446744069414584320)=((v *4294967296+wt:Nat)):=by
 rw[cu];omega
theorem ahL{v:Nat}(R:v<=8)(H:wt<=1)(h:¬(v=0/\wt=1)):v *4294967296+wt∈zs:=by
 have Y:v=0\/v=1\/v=2\/v=3\/v=4\/v=5\/v=6\/v=7\/v=8:=by omega
 have K:wt=0\/wt=1:=by omega
 rcases Y with rfl|rfl|rfl|rfl|rfl|rfl|rfl|rfl|rfl<;>rcases K with rfl|rfl<;>first|(exact absurd ⟨rfl,rfl⟩ h)|(simp[zs])
namespace Env
theorem vJ{Q:ah->Prop}:∀n0 {n:Nat} {f:ae} {l:List _},nZ P Q n (G (gu P n0 f l).1 (gu P n0 f l).2)->∃Y,nZ P Q Y (G f l)
 |0,n,f,l,h=>⟨n,h⟩
 |n0+1,n,f,l,h=>by
  unfold gu at h;split at h
  ·rename_i f1 l1 e;have⟨Y,h'⟩:=vJ n0 h;exact⟨Y+1,rfl,_,fun w=>sD e,h'⟩
  ·exact⟨n,h⟩
theorem aeQ{E:Env}{A:(Nat->Prop)->(Nat->Prop)->ah->af->Prop}{tmps:Array _}{todo:List _}(M:S E.Wg)(k:Nat)(hF:E.oX w):
  E.Tree PR false (E.jf PR A k .wr) S X (G (yR E.Wg (kK tmps todo) [bot]).1 (yR E.Wg (kK tmps todo) [bot]).2) w:=by
 refine Tz.one rfl fun w2 U=>?_;have D:=hF.rely M U;obtain⟨v0,B⟩:=D.cell0;refine⟨_,w2,#[],S,X,tV da0 u216 u159 i212 B,jd S X w2,Tz.pure 60 fun w3 L=>?_⟩;refine .stop ?_;cases k with
 |zero=>trivial
 |succ k=>
  refine⟨rfl,rfl,fun w4 N=>⟨G _ _,xI (by simp) Tc da1,vJ 60 (n:=0) ?_⟩⟩;refine⟨rfl,G _ _,fun O=>rN (by simp) Au da2,?_⟩;have J:∃n,nZ PR (E.ti PR 3) n (G (xp E.Wg (kK tmps todo) [bot]).1 (xp E.Wg (kK tmps todo) [bot]).2):=by
   obtain⟨n,R⟩:∃n,nZ PR (E.ti PR 3) n (G ((xp E.Wg (kK tmps todo) [bot]).1.finish (.bool false)) (xp E.Wg (kK tmps todo) [bot]).2):=by
    refine vJ 90 (n:=0) ?_;refine⟨rfl,fun Q v wt F H Y=>?_⟩;have ga:=Cu (main:=false) (cs:=(El E.Wg (kK tmps todo) [bot]).2) Tm (da4 (c:=kK tmps todo) (cs:=[bot])) Y.cell0 (Y.thaw 0);rw[sub_one F H]at ga;refine⟨_,_,_,ga,Y.mP v wt,Eff.set _ _ _ _,EvA.two _ _ (by omega),fun C=>?_,fun C=>?_⟩
    ·obtain⟨rfl,rfl⟩:=C;refine vJ 300 (n:=0) ?_;refine⟨rfl,fun T Y=>⟨_,_,Gb Ju da5 Y.cell0,EvA.one _ _ _ (by omega),vJ 300 (n:=0) ?_⟩⟩;refine⟨rfl,fun V Y=>⟨_,_,_,Ys ajc da6 Y.cell0 (Y.thaw 0),Y.mP 0 0,Eff.set _ _ _ _,EvA.one _ _ _ (by omega),vJ 300 (n:=0) ?_⟩⟩;refine⟨rfl,GB Tp Uh,fun Z Y=>?_⟩;have ga:=Fw (main:=false) (cs:=(Em E.Wg (kK tmps todo) [bot]).2) Tp (Uh (c:=kK tmps todo) (cs:=[bot])) rfl Y.ri (Y.thaw 1);refine⟨_,_,_,ga,Y.qE 1,Eff.set _ _ _ _,EvA.yP _ _ (by omega),?_⟩;have:=Qn (r:=yS E.Wg (kK tmps todo) _) agy agz;obtain⟨q,I⟩:=this;exact BZ 300 I
    ·have K:=ahL F H C;obtain⟨q,I⟩:=Qn (jx agw K) (jx agx K);exact BZ 300 I
   exact⟨n+1,rfl,_,fun P=>Pa Tl da3,R⟩
  obtain⟨n,R⟩:=J;exact vJ 60 R
end Env
section
variable(Wg:Nat)(c:ae)(cs:List ae)
def KJ:ae×List Frame:=gu PR 60 (Frame.enter PR 157 #[ptr Wg,.int .i64 1] .normal) (c::cs)
def KM:ae×List Frame:=gu PR 60 ((KJ Wg c cs).1.finish unit) (KJ Wg c cs).2
def Eo:ae×List Frame:=gu PR 90 ((KM Wg c cs).1.finish (.bool false)) (KM Wg c cs).2
def tD (z:Int):ae×List Frame:=gu PR 300 ((Eo Wg c cs).1.finish (.int .u64 z)) (Eo Wg c cs).2
def KN:ae×List Frame:=gu PR 60 ((tD Wg c cs 4294967296).1.finish (.pointer (some ⟨Wg,1,none⟩))) (tD Wg c cs 4294967296).2
def yT:ae×List Frame:=gu PR 300 ((KN Wg c cs).1.finish unit) (KN Wg c cs).2
def AY:ae×List Frame:=gu PR 60 (Frame.enter PR 159 #[ptr Wg] .normal) (c::cs)
def Ep:ae×List Frame:=rp PR 60 ((AY Wg c cs).1.finish unit) (AY Wg c cs).2
end
section
variable{Wg:Nat}{c:ae}{cs:List ae}
theorem aa0:ahead (KJ Wg c cs).1=some (169,#[]):=by kernel_rfl
theorem aa1:ahead (KM Wg c cs).1=some (171,#[]):=by kernel_rfl
theorem aa2:ahead (Eo Wg c cs).1=some (200,#[ptr Wg,.int .u64 4294967296]):=by kernel_rfl
theorem aa3:ql (tD Wg c cs 4294967296).1=some (227,159,.pointer (some ⟨Wg,1,none⟩)):=by kernel_rfl
theorem aa4:ahead (KN Wg c cs).1=some (176,#[.pointer (some ⟨Wg,1,none⟩)]):=by kernel_rfl
theorem aa5:((yT Wg c cs).1.mode,(yT Wg c cs).1.roundOf,(yT Wg c cs).1.defers)=(.returning,none,[bk 170 #[]]):=by kernel_rfl
theorem ajf:gu PR 1 {(yT Wg c cs).1 with defers:=[]} (yT Wg c cs).2=(c.finish unit,cs):=by kernel_rfl
def zA:List Nat:=[8589934592,12884901888,17179869184,21474836480,25769803776,30064771072,34359738368]
theorem agA:(zA.map fun z:Nat=>((tD Wg c cs (z:Int)).1.mode,(tD Wg c cs (z:Int)).1.roundOf,(tD Wg c cs (z:Int)).1.defers))=zA.map fun z:Nat=>(.returning,none,[bk 170 #[]]):=by kernel_rfl
theorem agB:(zA.map fun z:Nat=>gu PR 1 {(tD Wg c cs (z:Int)).1 with defers:=[]} (tD Wg c cs (z:Int)).2)=zA.map fun z:Nat=>(c.finish unit,cs):=by kernel_rfl
theorem ww0:ahead (AY Wg c cs).1=some (169,#[]):=by kernel_rfl
end
theorem u227:PR.underlying 227=some (.pointer 185):=by simp
theorem i185:(PR.info? 185).map (fun i=>decide (i.size=0))=some false:=by kernel_rfl
def Dm:List Item:=(Ep 0 bot []).1.todo
def Er(Wg:Nat):List (Nat×aj):=[(0,ptr Wg)]
section
variable(Wg:Nat)(c:ae)(cs:List ae)(j:Nat->aj)
def KO:ae×List Frame:=gu PR 60 (lq 159 84 Dm (sA (Er Wg)) j) (c::cs)
def rF (z:Int):ae×List Frame:=gu PR 300 ((KO Wg c cs j).1.finish (.int .u64 z)) (KO Wg c cs j).2
def KP (z:Int):ae×List Frame:=gu PR 300 ((rF Wg c cs j z).1.finish (.bool true)) (rF Wg c cs j z).2
def KQ (z:Int):ae×List Frame:=rp PR 300 ((rF Wg c cs j z).1.finish (.bool false)) (rF Wg c cs j z).2
def KR (z:Int):ae×List Frame:=gu PR 300 ((KP Wg c cs j z).1.finish (.pointer (some ⟨Wg,1,none⟩))) (KP Wg c cs j z).2
def Es (z:Int):ae×List Frame:=gu PR 300 ((KR Wg c cs j z).1.finish unit) (KR Wg c cs j z).2
def KS (z:Int):ae×List Frame:=gu PR 300 ((Es Wg c cs j z).1.finish unit) (Es Wg c cs j z).2
def KT (z:Int):ae×List Frame:=gu PR 300 ((KS Wg c cs j z).1.finish (.int .u64 0)) (KS Wg c cs j z).2
def KU (z:Int):ae×List Frame:=gu PR 300 ((KT Wg c cs j z).1.finish unit) (KT Wg c cs j z).2
def KV (z:Int):ae×List Frame:=gu PR 300 ((KU Wg c cs j z).1.finish (ptr Wg)) (KU Wg c cs j z).2
def KW:ae×List Frame:=gu PR 300 ((rF Wg c cs j 0).1.finish unit) (rF Wg c cs j 0).2
def KX:ae×List Frame:=gu PR 300 ((KW Wg c cs j).1.finish (ptr Wg)) (KW Wg c cs j).2
end
def zW:List Nat:=[4294967296,8589934592,12884901888,17179869184,21474836480,25769803776,30064771072,34359738368]
section
variable{Wg:Nat}{c:ae}{cs:List ae}{j:Nat->aj}
theorem wwh:look [0] (Ep Wg c cs)=ik 159 84 (c::cs) Dm (Er Wg) none none:=by kernel_rfl
theorem wl1:ahead (KO Wg c cs j).1=some (201,#[ptr Wg]):=by kernel_rfl
theorem ajg:ahead (rF Wg c cs j 0).1=some (170,#[]):=by kernel_rfl
theorem wl2:(zW.map fun z:Nat=>ahead (rF Wg c cs j (z:Int)).1)=zW.map fun z:Nat=>some (203,#[ptr Wg,.int .u64 (z:Int),.int .u64 (z+1:Int)]):=by kernel_rfl
theorem wlf:(zW.map fun z:Nat=>look [0] (KQ Wg c cs j (z:Int)))=zW.map fun z:Nat=>ik 159 84 (c::cs) Dm (Er Wg) none none:=by kernel_rfl
theorem wl3:(zW.map fun z:Nat=>ql (KP Wg c cs j (z:Int)).1)=zW.map fun z:Nat=>some (227,159,.pointer (some ⟨Wg,1,none⟩)):=by kernel_rfl
theorem wl4:(zW.map fun z:Nat=>ahead (KR Wg c cs j (z:Int)).1)=zW.map fun z:Nat=>some (185,#[.pointer (some ⟨Wg,1,none⟩)]):=by kernel_rfl
theorem wl5:(zW.map fun z:Nat=>ahead (Es Wg c cs j (z:Int)).1)=zW.map fun z:Nat=>some (186,#[.pointer (some ⟨Wg,1,none⟩),.bool false]):=by kernel_rfl
theorem wl6:(zW.map fun z:Nat=>ahead (KS Wg c cs j (z:Int)).1)=zW.map fun z:Nat=>some (201,#[ptr Wg]):=by kernel_rfl
theorem wl7:(zW.map fun z:Nat=>ahead (KT Wg c cs j (z:Int)).1)=zW.map fun z:Nat=>some (170,#[]):=by kernel_rfl
theorem wl8:(zW.map fun z:Nat=>ql (KU Wg c cs j (z:Int)).1)=zW.map fun z:Nat=>some (216,159,ptr Wg):=by kernel_rfl
theorem wl9:(zW.map fun z:Nat=>ahead (KV Wg c cs j (z:Int)).1)=zW.map fun z:Nat=>some (182,#[ptr Wg]):=by kernel_rfl
theorem wz8:ql (KW Wg c cs j).1=some (216,159,ptr Wg):=by kernel_rfl
theorem wz9:ahead (KX Wg c cs j).1=some (182,#[ptr Wg]):=by kernel_rfl
end
theorem add_one{v:Nat}(Y:v<=8):IntKind.u64.wrap (((v *4294967296+0:Nat))+4294967296)=(((v+1) *4294967296+0:Nat)):=by
 rw[cu];omega
theorem ahM{v:Nat}(Y:1<=v)(H:v<8):(v+1) *4294967296+0∈zA:=by
 have:v=1\/v=2\/v=3\/v=4\/v=5\/v=6\/v=7:=by omega
 rcases this with rfl|rfl|rfl|rfl|rfl|rfl|rfl<;>simp[zA]
theorem ahN{v:Nat}(Y:v≠0)(H:v<=8):v *4294967296+0∈zW:=by
 have:v=1\/v=2\/v=3\/v=4\/v=5\/v=6\/v=7\/v=8:=by omega
 rcases this with rfl|rfl|rfl|rfl|rfl|rfl|rfl|rfl<;>simp[zW]
section
variable{Wg:Nat}{c:ae}{cs:List ae}{j:Nat->aj}
theorem ajh:(zW.map fun z:Nat=>gu PR 10 ((KV Wg c cs j (z:Int)).1.finish unit) (KV Wg c cs j z).2)=zW.map fun z:Nat=>(c.finish unit,cs):=by kernel_rfl
theorem aji:gu PR 20 ((KX Wg c cs j).1.finish unit) (KX Wg c cs j).2=(c.finish unit,cs):=by kernel_rfl
end
namespace Env
structure Ui(E:Env)(S:Nat->Prop)(Fx:af->Prop):Prop where
 rely:∀{w w2:af},Fx w->gR E.U S w w2->Fx w2
 wg:∀{w:af},Fx w->E.oX w
 lM:∀{w w1:af} {v wt ws v' ij ig:Nat},Fx w->E.WgAt w v wt ws->Eff E.Wg w w1->E.WgAt w1 v' ij ig->Fx w1
section
variable{E:Env}{J:iA}{kq:Nat->ah->af->Prop}{Fin:(Nat->Prop)->(Nat->Prop)->ah->af->Prop}{S X:Nat->Prop}{Fx:af->Prop}{c:ae}{cs:List ae}
theorem aeR(K:E.Ui S Fx){ch:Nat}(v:L.length<8)(O:∀k w,Fx w->E.Tree PR true (E.lD PR J kq Fin k (.go L ch)) S X (G (c.finish unit) cs) w)(k:Nat)(hF:Fx w):
  E.Tree PR true (E.lD PR J kq Fin k (.st L)) S X (G (Frame.enter PR 157 #[ptr E.Wg,.int .i64 1] .normal) (c::cs)) w:=by
 have out:∀(r:ae×List _) (k:Nat) (w:af),(r.1.mode,r.1.roundOf,r.1.defers)=(.returning,none,[bk 170 #[]])->gu PR 1 {r.1 with defers:=[]} r.2=(c.finish unit,cs)->Fx w->E.Tree PR true (E.lD PR J kq Fin k (.a4 L ch)) S X (G r.1 r.2) w:=by
  intro r k w U s hF;refine .stop ?_;cases k with
  |zero=>trivial
  |succ k=>
   simp at U;refine⟨rfl,rfl,fun w2 hr=>⟨G _ r.2,Nz (by simp) U.1 U.2.1 U.2.2 xd,Tz.pure 1 fun w3 H=>?_⟩⟩;rw[s];exact O k w3 (K.rely (K.rely hF hr) H)
 refine Tz.pure 60 fun w1 P=>?_;have B:=K.rely hF P;refine .stop ?_;cases k with
 |zero=>trivial
 |succ k=>
  refine⟨rfl,rfl,ch,fun w2 Q=>⟨G _ _,rN (by simp) Au aa0,Tz.pure 60 fun w3 H=>?_⟩⟩;have C:=K.rely (K.rely B Q) H;refine Tz.one rfl fun w4 T=>⟨G _ _,w4,#[],S,X,Pa Tl aa1,jd S X w4,Tz.pure 90 fun u V=>?_⟩;have F:=K.rely (K.rely C T) V;refine .stop ?_;cases k with
  |zero=>trivial
  |succ k=>
   refine⟨rfl,rfl,fun x Z A=>?_⟩;have ga:=Cu (main:=true) (cs:=(Eo E.Wg c cs).2) Tm (aa2 (c:=c) (cs:=cs)) A.cell0 (A.thaw 0);rw[add_one (by omega)]at ga;have R:=K.lM (K.rely F Z) A (Eff.set _ _ _ _) (A.mP (L.length+1) 0);refine⟨_,_,_,ga,A.mP _ 0,Eff.set _ _ _ _,EvA.two _ _ (by omega),?_⟩;by_cases Y:L=[]
   ·subst Y;refine Tz.pure 300 fun f D=>?_;have M:=K.rely R D;refine Tz.one rfl fun o W=>?_;have I:=K.rely M W;have⟨v1,d⟩:=(K.wg I).ri;refine⟨_,o,#[],S,X,tV aa3 u227 u159 i185 d,jd S X o,Tz.pure 60 fun y q=>?_⟩;have N:=K.rely I q;refine .stop ?_;cases k with
    |zero=>trivial
    |succ k=>
     refine⟨rfl,rfl,fun m j=>⟨G _ _,xI (by simp) ajd aa4,Tz.pure 300 fun p z=>?_⟩⟩;change E.Tree PR _ _ S X (G (yT E.Wg c cs).1 _) p;exact out _ k p aa5 ajf (K.rely (K.rely N j) z)
   ·rw[if_neg Y];refine Tz.pure 300 fun f D=>?_;change E.Tree PR _ _ S X (G (tD _ c cs _).1 _) f;have g:=ahM (by
     cases L with
     |nil=>exact absurd rfl Y
     |cons a l=>simp) v
    exact out _ k f (jx agA g) (jx agB g) (K.rely R D)
theorem aeS(K:E.Ui S Fx)(W:∀(n:Nat) (f:ae) (l:List ae) (w:af),Fx w->gu PR n f l=(c.finish unit,cs)->Fin S X (G f l) w)(k:Nat)(hF:Fx w):
  E.Tree PR true (E.lD PR J kq Fin k .kd) S X (G (Frame.enter PR 159 #[ptr E.Wg] .normal) (c::cs)) w:=by
 have last:∀(r:ae×List ae) (n k:Nat) (w:af),ahead r.1=some (182,#[ptr E.Wg])->gu PR n (r.1.finish unit) r.2=(c.finish unit,cs)->Fx w->E.Tree PR true (E.lD PR J kq Fin k .aq) S X (G r.1 r.2) w:=by
  intro r n k w h1 h2 hF;refine .stop ?_;cases k with
  |zero=>trivial
  |succ k=>exact⟨rfl,rfl,fun w2 hr=>⟨G (r.1.finish unit) r.2,xI (by simp) Tb h1,W n _ _ w2 (K.rely hF hr) h2⟩⟩
 have head:∀(k:Nat) (j:Nat->aj) (w:af),Fx w->E.Tree PR true (E.lD PR J kq Fin k .w1) S X (G (lq 159 84 Dm (sA (Er E.Wg)) j) (c::cs)) w:=by
  intro k;induction k using bB with
  |_ k ih=>
  intro j w hF;refine Tz.pure 60 fun w1 M=>?_;have C:=K.rely hF M;refine .stop ?_;cases k with
  |zero=>trivial
  |succ k=>
   refine⟨rfl,rfl,fun w2 v N hv hG=>?_⟩;have T:=K.rely C N;refine⟨_,_,Gb Ju wl1 hG.cell0,EvA.one _ _ _ (by omega),fun o=>?_,fun o=>?_⟩
   ·subst o;refine Tz.pure 300 fun w3 R=>?_;have U:=K.rely T R;refine .stop ?_;cases k with
    |zero=>trivial
    |succ k=>
     refine⟨rfl,rfl,fun w4 B=>⟨G _ (rF E.Wg c cs j 0).2,rN (by simp) xd ajg,Tz.pure 300 fun g I=>?_⟩⟩;have L:=K.rely (K.rely U B) I;refine Tz.one rfl fun d O=>?_;have D:=K.rely L O;obtain⟨v0,Q⟩:=(K.wg D).cell0;refine⟨_,d,#[],S,X,tV wz8 u216 u159 i212 Q,jd S X d,Tz.pure 300 fun w7 P=>?_⟩;exact last _ 20 k w7 wz9 aji (K.rely D P)
   ·have A:=ahN o hv;refine Tz.pure 300 fun w3 R=>?_;have U:=K.rely T R;have a2:=jx (wl2 (Wg:=E.Wg) (c:=c) (cs:=cs) (j:=j)) A;have aC:=jx (wl3 (Wg:=E.Wg) (c:=c) (cs:=cs) (j:=j)) A;have a4:=jx (wl4 (Wg:=E.Wg) (c:=c) (cs:=cs) (j:=j)) A;have a5:=jx (wl5 (Wg:=E.Wg) (c:=c) (cs:=cs) (j:=j)) A;have a6:=jx (wl6 (Wg:=E.Wg) (c:=c) (cs:=cs) (j:=j)) A;have a7:=jx (wl7 (Wg:=E.Wg) (c:=c) (cs:=cs) (j:=j)) A;have a8:=jx (wl8 (Wg:=E.Wg) (c:=c) (cs:=cs) (j:=j)) A;have a9:=jx (wl9 (Wg:=E.Wg) (c:=c) (cs:=cs) (j:=j)) A;have aE:=jx (ajh (Wg:=E.Wg) (c:=c) (cs:=cs) (j:=j)) A;have aF:=jx (wlf (Wg:=E.Wg) (c:=c) (cs:=cs) (j:=j)) A;refine .stop ?_;cases k with
    |zero=>trivial
    |succ k=>
     refine⟨rfl,rfl,fun w4 v2 B hv2 Y=>⟨fun he=>?_,fun he=>?_⟩⟩
     ·subst he;have F:=K.rely U B;have ga:=zo (main:=true) (cs:=(rF E.Wg c cs j ((v2 *4294967296+0:Nat):Int)).2) Tn a2 Y.cell0 (Y.thaw 0);have en:(((v2 *4294967296+0:Nat):Int)+1)=((v2 *4294967296+1:Nat):Int):=by omega
      rw[en]at ga;have V:=K.lM F Y (Eff.set _ _ _ _) (Y.mP v2 1);refine⟨_,_,_,ga,Y.mP v2 1,Eff.set _ _ _ _,EvA.two _ _ (by omega),Tz.pure 300 fun g I=>?_⟩;have L:=K.rely V I;refine Tz.one rfl fun d O=>?_;have D:=K.rely L O;obtain⟨v1,hv1⟩:=(K.wg D).ri;refine⟨_,d,#[],S,X,tV aC u227 u159 i185 hv1,jd S X d,Tz.pure 300 fun w7 P=>?_⟩;have p:=K.rely D P;refine .stop ?_;cases k with
      |zero=>trivial
      |succ k=>
       refine⟨rfl,rfl,fun w8 t=>⟨G _ _,xI (by simp) aje a4,Tz.pure 300 fun w9 a=>?_⟩⟩;have s:=K.rely (K.rely p t) a;refine .stop ?_;cases k with
       |zero=>trivial
       |succ k=>
        refine⟨rfl,rfl,fun wA v3 wt3 q H=>ML Tq a5 rfl H.ri,fun wA q H=>?_⟩;have ga:=Mt (main:=true) (cs:=(Es E.Wg c cs j ((v2 *4294967296+0:Nat):Int)).2) Tq a5 rfl H.ri (by simp) (H.thaw 1);have u:=K.lM (K.rely s q) H (Eff.set _ _ _ _) (H.qE 0);refine⟨_,_,_,ga,H.qE 0,Eff.set _ _ _ _,EvA.yP _ _ (by omega),Tz.pure 300 fun wB i=>?_⟩;have x:=K.rely u i;refine .stop ?_;cases k with
        |zero=>trivial
        |succ k=>
         refine⟨rfl,rfl,fun wC h b=>⟨_,_,Gb Ju a6 b.cell0,EvA.one _ _ _ (by omega),Tz.pure 300 fun wD e=>?_⟩⟩;have y:=K.rely (K.rely x h) e;refine .stop ?_;cases k with
         |zero=>trivial
         |succ k=>
          refine⟨rfl,rfl,fun wE yU=>⟨G _ _,rN (by simp) xd a7,Tz.pure 300 fun wF Et=>?_⟩⟩;have m:=K.rely (K.rely y yU) Et;refine Tz.one rfl fun wG Eu=>?_;have Z:=K.rely m Eu;obtain⟨v0,Q⟩:=(K.wg Z).cell0;refine⟨_,wG,#[],S,X,tV a8 u216 u159 i212 Q,jd S X wG,Tz.pure 300 fun wH Ev=>?_⟩;exact last _ 10 k wH a9 aE (K.rely Z Ev)
     ·have F:=K.rely U B;have ga:=zl (main:=true) (cs:=(rF E.Wg c cs j ((v *4294967296+0:Nat):Int)).2) Tn a2 Y.cell0 (Y.thaw 0) (by omega);refine⟨_,_,ga,EvA.one _ _ _ (by omega),Tz.Ag 300 fun g I=>?_⟩;change E.Tree PR true _ S X (G (KQ E.Wg c cs j _).1 (KQ E.Wg c cs j _).2) g;have z:=jX aF rfl;rw[z.callers,z.fr.eq];exact ih k (by omega) _ g (K.rely F I)
 refine Tz.pure 60 fun w1 M=>?_;have C:=K.rely hF M;refine .stop ?_;cases k with
 |zero=>trivial
 |succ k=>
  refine⟨rfl,rfl,fun w2 N=>⟨G ((AY E.Wg c cs).1.finish unit) (AY E.Wg c cs).2,rN (by simp) Au ww0,Tz.Ag 60 fun w3 R=>?_⟩⟩;change E.Tree PR true _ S X (G (Ep E.Wg c cs).1 (Ep E.Wg c cs).2) w3;have z:=jX (wwh (Wg:=E.Wg) (c:=c) (cs:=cs)) rfl;rw[z.callers,z.fr.eq];exact head k _ w3 (K.rely (K.rely C N) R)
end
end Env
def acX:Op->Bool
 |.indexAddr .. =>true
 |.binOp .rem .. =>true
 |.makeSlice .. =>true
 |.call {callee:=.value _,..}=>true
 |_=>false
def abj(f:ae):=match f.todo with
 |.code (.cond _ _ _)::_=>true
 |_=>match opAt f with
  |some o=>acX o.op
  |none=>false
def gZ(P:Program):Nat->ae->List ae->ae×List ae
 |0,f,l=>(f,l)
 |n+1,f,l=>if abj f then(f,l)else match oc P f l with
   |some (f1,l1)=>gZ P n f1 l1
   |none=>(f,l)
theorem Tz.kU{U:Nat->Nat->Prop}{D:(Nat->Prop)->(Nat->Prop)->ah->af->Prop}:∀n {f:ae} {l:List _} {w:af},(∀w2,gR U S w w2->Tz P main U D S X (G (gZ P n f l).1 (gZ P n f l).2) w2)->Tz P main U D S X (G f l) w
 |0,f,l,w,h=>h w (.refl _ _ _)
 |n+1,f,l,w,h=>by
  unfold gZ at h;split at h
  ·exact h w (.refl _ _ _)
  ·split at h
   ·rename_i f1 l1 e;exact Tz.one rfl fun w2 hr=>⟨_,w2,#[],S,X,sD e,jd S X w2,Tz.kU n fun w3 Y=>h w3 (hr.trans Y)⟩
   ·exact h w (.refl _ _ _)
abbrev iv(n:Nat):Value:=.int .i64 (n:Int)
abbrev qL(Gv n:Nat):Value:=.slice (some ⟨Gv,0,none⟩) n n
def im(nv:aj)(n:Nat)(work:aj)(Wg Gv:Nat):=[(0,nv),(1,iv n),(2,work),(6,ptr Wg),(7,qL Gv n)]
noncomputable def ahO:List Item:=match Tryz.f137.body with
 |some (.seq _ (.seq _ rest))=>[.code rest]
 |_=>[]
def yes:List Item->List Item
 |.code (.cond _ a _)::k=>.code a::k
 |k=>k
def no:List Item->List Item
 |.code (.cond _ _ b)::k=>.code b::k
 |k=>k
def gU(b:Option Addr)(len cap:Nat):Value:=.slice b len cap
abbrev dF(site:List _)(al:List (Nat×aj))(j:Nat->aj):=lq 137 55 site (sA al) j
def Z0:=im (gU none 0 0) 1 aH 0 0
abbrev go1 (site:List _) (al:List _):=gZ PR 60 (dF site al fun _=>aH) []
def lG:=(go1 ahO Z0).1.todo
def oe(a:List _)(n j:Nat):=a++[(16,iv n),(17,iv j)]
def Ew:=(go1 (yes lG) (oe Z0 1 0)).1.todo
def Ex(a:List _)(Gv n j:Nat):=oe a n j++[(8,iv j),(20,qL Gv n),(21,iv j)]
section
variable{b:Option Addr}{len cap n j Wg Gv ch:Nat}{work:aj}{J:Nat->aj}{l:List ae}
def Ey (b:Option _) (len cap n j Wg Gv:Nat) (work:aj) (J:Nat->aj) (l:List _):=gZ PR 60 (dF (yes lG) (oe (im (gU b len cap) n work Wg Gv) n j) J) l
theorem rmk:look [0,1,2,6,7,16,17,8,20,21] (Ey b len cap n j Wg Gv work J l)=ik 137 55 l Ew (Ex (im (gU b len cap) n work Wg Gv) Gv n j) none none:=by kernel_rfl
end
abbrev o8 (site:List _) (al:List _) (v:aj):=gZ PR 60 ((dF site al fun _=>aH).finish v) []
def Ez:=(o8 Ew (Ex Z0 0 1 0) (.chan none)).1.todo
def EB(a:List _)(Gv n j ch:Nat):=oe a n j++[(8,iv j),(20,qL Gv n),(21,iv j),(22,.chan (some ch))]
def AZ:=(o8 Ez (EB Z0 0 1 0 0) (ptr 0)).1.todo
def A0(a:List _)(Gv n j ch:Nat):=oe a n j++[(8,iv j),(22,.chan (some ch)),(23,.pointer (some ⟨Gv,j,none⟩))]
def A1:=(o8 AZ (A0 Z0 0 1 0 0) aH).1.todo
def A2(a:List _)(n j:Nat):=oe a n j++[(8,iv j)]
def EC:=(o8 A1 (A2 Z0 1 0) unit).1.todo
def ED(a:List _)(Gv n j:Nat):=oe a n j++[(25,qL Gv n),(26,iv j)]
def KY:=(o8 EC (ED Z0 0 1 0) (ptr 0)).1.todo
def KZ(a:List _)(Gv n j:Nat):=oe a n j++[(27,.pointer (some ⟨Gv,j,none⟩))]
def sG:=(o8 KY (KZ Z0 0 1 0) (.chan none)).1.todo
def aG(a:List _)(n j ch:Nat)(work:aj):=oe a n j++[(28,.chan (some ch)),(29,work)]
section
variable{b:Option Addr}{len cap n j Wg Gv ch:Nat}{work:aj}{J:Nat->aj}{l:List ae}
variable(b:Option Addr)(len cap n j Wg Gv ch:Nat)(work:aj)(J:Nat->aj)(l:List ae)
def EE:=gZ PR 60 ((dF Ew (Ex (im (gU b len cap) n work Wg Gv) Gv n j) J).finish (.chan (some ch))) l
def EF:=gZ PR 60 ((dF Ez (EB (im (gU b len cap) n work Wg Gv) Gv n j ch) J).finish (.pointer (some ⟨Gv,j,none⟩))) l
def EG:=gZ PR 60 ((dF AZ (A0 (im (gU b len cap) n work Wg Gv) Gv n j ch) J).finish aH) l
def EH:=gZ PR 60 ((dF A1 (A2 (im (gU b len cap) n work Wg Gv) n j) J).finish unit) l
def EI:=gZ PR 60 ((dF EC (ED (im (gU b len cap) n work Wg Gv) Gv n j) J).finish (.pointer (some ⟨Gv,j,none⟩))) l
def RG:=gZ PR 60 ((dF KY (KZ (im (gU b len cap) n work Wg Gv) Gv n j) J).finish (.chan (some ch))) l
def Ts:=gZ PR 60 ((dF sG (aG (im (gU b len cap) n work Wg Gv) n j ch work) J).finish aH) l
end
section
variable{b:Option Addr}{len cap n j Wg Gv ch:Nat}{work:aj}{J:Nat->aj}{l:List ae}
theorem ahP:opAt (dF Ew (Ex (im (gU b len cap) n work Wg Gv) Gv n j) J)=some {dst:=some 22,op:=.makeChan 214 (.const (.int .i64 0)),type:=214,pos:= "workers.go:52",after:=#[],guard:=none}:=by kernel_rfl
theorem ri1:look [0,1,2,6,7,16,17,8,20,21,22] (EE b len cap n j Wg Gv ch work J l)=ik 137 55 l Ez (EB (im (gU b len cap) n work Wg Gv) Gv n j ch) none none:=by kernel_rfl
theorem qH:look [0,1,2,6,7,16,17,8,22,23] (EF b len cap n j Wg Gv ch work J l)=ik 137 55 l AZ (A0 (im (gU b len cap) n work Wg Gv) Gv n j ch) none none:=by kernel_rfl
theorem rc1:look [0,1,2,6,7,16,17,8] (EG b len cap n j Wg Gv ch work J l)=ik 137 55 l A1 (A2 (im (gU b len cap) n work Wg Gv) n j) (some (157,#[ptr Wg,.int .i64 1])) none:=by kernel_rfl
theorem ri2:look [0,1,2,6,7,16,17,25,26] (EH b len cap n j Wg Gv work J l)=ik 137 55 l EC (ED (im (gU b len cap) n work Wg Gv) Gv n j) none none:=by kernel_rfl
theorem rl2:look [0,1,2,6,7,16,17,27] (EI b len cap n j Wg Gv work J l)=ik 137 55 l KY (KZ (im (gU b len cap) n work Wg Gv) Gv n j) none (some (214,.pointer (some ⟨Gv,j,none⟩))):=by kernel_rfl
theorem z87:look [0,1,2,6,7,16,17,28,29] (RG b len cap n j Wg Gv ch work J l)=ik 137 55 l sG (aG (im (gU b len cap) n work Wg Gv) n j ch work) none none:=by kernel_rfl
theorem ajj:pn PR (dF sG (aG (im (gU b len cap) n work Wg Gv) n j ch work) J)=some (.spawn {target:=.fn (.func 158) #[],args:=#[.chan (some ch),work,ptr Wg]}):=by kernel_rfl
theorem ajk:look [0,1,2,6,7,16,17,18] (Ts b len cap n j Wg Gv ch work J l)=ik 137 55 l lG (im (gU b len cap) n work Wg Gv++[(16,iv n),(17,.int .i64 (bA.wrap (j+1))),(18,.bool (decide (bA.wrap (j+1)<n)))]) none none:=by kernel_rfl
end
end Ph
end
end Go.Proofs.YtdcjnhipenbcfaaGreatDoor
