/-
  Own text. Part 4 of what the claim rests on.
-/
import Derived.Test.YtdcjnhipenbcfaaGreatDoorPk3
import Derived.Conc.TokenWalk
import Derived.Conc.CrowdBase
set_option linter.unusedVariables false
set_option linter.unusedSectionVars false
set_option linter.unusedSimpArgs false
set_option maxRecDepth 100000
set_option maxHeartbeats 16000000
open Array renaming getElem?_setIfInBounds_self_of_lt->ai,getElem?_setIfInBounds_ne->aJ,mem_of_getElem?->aK,append_empty->aN,getElem?_eq_getElem->aO,getElem?_map->aP
open Classical renaming choose->aL
open Go.MemAct renaming ofEvent->ah,touch?->ak
open Go.MemOp renaming ofEvents->ae
open Go.World renaming setChan->ay
open List renaming mem_cons->az,mem_toArray->aA,not_mem_nil->aB,getD_eq_getElem?_getD->aM,count_append->aQ,count_cons->aT,count_nil->aU,getElem?_eq_getElem->aV,getElem?_eq_some_iff->aW
open Nat renaming lt_of_lt_of_le->af,le_refl->aj,zero_le->ao,le_of_lt->ar,le_of_eq->au,le_add_right->aD,le_trans->aH,not_lt_zero->aI
open Option renaming map_eq_some_iff->aX
open Option.some renaming injEq->ax
namespace Go.Proofs.YtdcjnhipenbcfaaGreatDoor
noncomputable section
variable {wg:Addr}{es:Array Event}{cl main:Bool}{e:Event}{fn:FuncId}{g0 g1 gk:Goroutine}{L j6 ks:List Nat}{B a bl c' f' i i' i0 k n s v' ia ib:Nat}{UM:Nat->Nat}{XX vx:Nat->Nat->Prop}{RO S S1 X X1:Nat->Prop}{tok jF:Option Nat}{P:Program}{pos:String}{t:Trace}{v z:Value}{w:World}
namespace Ph
open Conc Ren
open Lock (Word PC Mv bn)
def wd(i:Nat):Word:=⟨i%2==1,i/2%2==1,i/4%2==1,i/8⟩
def uf(P:Program)(t:Nat):Nat->Frame->List Frame->Frame×List Frame
 |0,f,l=>(f,l)
 |n+1,f,l=>match f.todo with
  |.code (.cond (.tmp u) _ _)::_=>if u==t then(f,l)else match oF P f l with
   |some (f1,l1)=>uf P t n f1 l1
   |none=>(f,l)
  |_=>match oF P f l with
   |some (f1,l1)=>uf P t n f1 l1
   |none=>(f,l)
theorem Tz.Ta{U:Nat->Nat->Prop}{D:(Nat->Prop)->(Nat->Prop)->Goroutine->World->Prop}(t:Nat):∀(n:Nat) {f:Frame} {l:List Frame} {w:World},(∀w2,gK U S w w2->Tz P main U D S X (G (uf P t n f l).1 (uf P t n f l).2) w2)->Tz P main U D S X (G f l) w
 |0,f,l,w,h=>h w (.refl _ _ _)
 |n+1,f,l,w,h=>by
  unfold uf at h;have go:(∀w2,gK U S w w2->Tz P main U D S X (G (match oF P f l with|some (f1,l1)=>uf P t n f1 l1|none=>(f,l)).1 (match oF P f l with|some (f1,l1)=>uf P t n f1 l1|none=>(f,l)).2) w2)->Tz P main U D S X (G f l) w:=by
   intro h;split at h
   ·rename_i f1 l1 e;exact Tz.one rfl fun w2 hr=>⟨_,w2,#[],S,X,tu e,jc S X w2,Tz.Ta t n fun w3 Y=>h w3 (hr.trans Y)⟩
   ·exact h w (.refl _ _ _)
  split at h
  ·split at h
   ·exact h w (.refl _ _ _)
   ·exact go h
  ·exact go h
def xq(aw:Bool):List Nat:=(List.range 72).filter fun i=>!(i%2==1&&i/4%2==0)&&(!aw||i/2%2==1)
def xe(aw:Bool):List Nat:=(List.range 72).filter fun i=>(i%2==1&&i/4%2==0)&&(!aw||i/2%2==1)
def toC2 (l:List Frame) (Fd:Nat) (gy:Int) (sv aw:Bool) (it:Int) (i:Nat):rQ:=ki l Jk (rX Fd gy sv aw it (i:Int)) (some (204,#[ptr Fd,.int .i32 (i:Int),.int .i32 (val (Lock.nw (wd i) aw sv))])) none
section
variable{Fd:Nat}{gy it:Int}{j:Nat->Value}{l:List Frame}
theorem aaW:((xq false).map fun i:Nat=>look [6,0,2,3,4,5] (zg Fd gy false false it (i:Int) j l))=(xq false).map (toC2 l Fd gy false false it):=by kernel_rfl
theorem aaX:((xq true).map fun i:Nat=>look [6,0,2,3,4,5] (zg Fd gy false true it (i:Int) j l))=(xq true).map (toC2 l Fd gy false true it):=by kernel_rfl
theorem aaY:((xq true).map fun i:Nat=>look [6,0,2,3,4,5] (zg Fd gy true true it (i:Int) j l))=(xq true).map (toC2 l Fd gy true true it):=by kernel_rfl
theorem aaZ:((xe false).map fun i:Nat=>look [6,0,2,3,4,5] (tC Fd gy false false it (i:Int) false j l))=(xe false).map (toC2 l Fd gy false false it):=by kernel_rfl
theorem aa6:((xe true).map fun i:Nat=>look [6,0,2,3,4,5] (tC Fd gy false true it (i:Int) false j l))=(xe true).map (toC2 l Fd gy false true it):=by kernel_rfl
theorem aa7:((xe true).map fun i:Nat=>look [6,0,2,3,4,5] (tC Fd gy true true it (i:Int) false j l))=(xe true).map (toC2 l Fd gy true true it):=by kernel_rfl
end
def toDo (l:List Frame) (Fd:Nat) (gy:Int) (sv aw:Bool) (it:Int):rQ:=ki l yV (iW Fd gy sv aw it) (some (215,#[])) none
def JX:List Nat:=(List.range 72).filter fun i=>i%2==1&&i/4%2==0&&i/2%2==0&&!(i/8==0)
def Tb:List Nat:=(List.range 72).filter fun i=>i%2==1&&i/4%2==0&&!(i/2%2==0&&!(i/8==0))
def UN:List Nat:=(List.range 72).filter fun i=>i%2==0&&i/4%2==0
def nC:List Nat:=(List.range 72).filter fun i=>!(i%2==0&&i/4%2==0)
def AH (Fd:Nat) (gy:Int) (sv aw:Bool) (it old:Int) (j:Nat->Value) (l:List Frame):Frame×List Frame:=uf PR 87 300 ((lf Jk (sA (rX Fd gy sv aw it old)) j).finish (.bool true)) l
def Jn:List Item:=(AH 0 0 false false 0 1 jz []).1.todo
def Jo (Fd:Nat) (gy:Int) (sv aw b:Bool) (it:Int) (v8:Value) (j:Nat->Value) (l:List Frame):Frame×List Frame:=gF PR 300 (lf Jn (sA ((87,.bool b)::(8,v8)::iW Fd gy sv aw it)) j) l
def ag1 (Fd:Nat) (sv aw:Bool) (it T:Int) (v8:Value) (gy:Int) (j:Nat->Value) (l:List Frame):Frame×List Frame:=gF PR 300 ((lf Sr (sA ((8,v8)::iW Fd gy sv aw it)) j).finish (.int .i64 T)) l
def DT (Fd:Nat) (gy:Int) (sv aw:Bool) (it:Int) (j:Nat->Value) (l:List Frame):Frame×List Frame:=gF PR 300 ((lf DR (sA (iW Fd gy sv aw it)) j).finish (.tuple #[])) l
def Jp:List Item:=(DT 0 0 false false 0 jz []).1.todo
def DV:List Item:=(DT 0 0 true false 0 jz []).1.todo
def ag2 (Fd:Nat) (gy T:Int) (aw:Bool) (it:Int) (j:Nat->Value) (l:List Frame):Frame×List Frame:=gF PR 300 ((lf Jp (sA ((95,.bool false)::iW Fd gy false aw it)) j).finish (.int .i64 T)) l
def xf (Fd:Nat) (gy:Int) (sv aw:Bool) (it old:Int) (j:Nat->Value) (l:List Frame):Frame×List Frame:=rP PR 300 ((lf DV (sA (iW Fd gy sv aw it)) j).finish (.int .i32 old)) l
def AU:List Item:=(xf 0 0 false false 0 12 jz []).1.todo
def ag3 (Fd:Nat) (gy:Int) (sv aw:Bool) (it x:Int) (j:Nat->Value) (l:List Frame):Frame×List Frame:=gF PR 300 ((lf AU (sA (iW Fd gy sv aw it)) j).finish (.int .i32 x)) l
def yX (Fd:Nat) (gy:Int) (sv aw:Bool) (it:Int) (j:Nat->Value) (l:List Frame):Frame×List Frame:=gF PR 300 ((lf DN (sA (iW Fd gy sv aw it)) j).finish (.tuple #[])) l
def Ss:List Item:=(yX 0 0 false false 0 jz []).1.todo
def calm:List Nat:=(List.range 72).filter fun i=>i/4%2==0
def hard:List Nat:=(List.range 72).filter fun i=>i%4==0&&i/4%2==1&&!(i/8==0)
def delta(sv:Bool)(i:Nat):Int:=if sv==false||i/8==1 then-11 else-7
section
variable{Fd:Nat}{gy it T x:Int}{sv aw:Bool}{v8:Value}{j:Nat->Value}{l:List Frame}
theorem aa8:(JX.map fun i:Nat=>look [33,6,0,2,3,4,5] (tC Fd gy sv false it (i:Int) true j l))=JX.map fun i:Nat=>ki l Jl (Lh Fd gy sv false it (i:Int)) (some (204,#[ptr Fd,.int .i32 (i:Int),.int .i32 (val {wd i with K:=true})])) none:=by kernel_rfl
theorem aa9:(Tb.map fun i:Nat=>look [0,2,3,4,5] (tC Fd gy sv false it (i:Int) true j l))=Tb.map fun i:Nat=>toDo l Fd gy sv false it:=by kernel_rfl
theorem aa_:(spins.map fun i:Nat=>look [0,2,3,4,5] (tC Fd gy sv true it (i:Int) true j l))=spins.map fun i:Nat=>toDo l Fd gy sv true it:=by kernel_rfl
theorem aeN:(UN.map fun i:Nat=>look [0,2,3,4,5] (yW Fd gy sv aw it (i:Int) true j l))=UN.map fun i:Nat=>ki l DN (iW Fd gy sv aw it) (some (170,#[])) none:=by kernel_rfl
theorem aeO:(nC.map fun i:Nat=>look [87,0,2,3,4,5] (AH Fd gy sv aw it (i:Int) j l))=nC.map fun i:Nat=>ki l Jn ((87,.bool (decide (gy=0)))::iW Fd gy sv aw it) none none:=by kernel_rfl
theorem acP:look [8,0,2,3,4,5] (Jo Fd gy sv aw true it v8 j l)=ki l Sr ((8,v8)::iW Fd gy sv aw it) (some (217,#[])) none:=by kernel_rfl
theorem acQ:look [0,2,3,4,5] (Jo Fd gy sv aw false it v8 j l)=ki l DR (iW Fd gy sv aw it) (some (218,#[.pointer (some ⟨Fd,1,none⟩),v8,.int .i64 2])) none:=by kernel_rfl
theorem aeP:look [0,2,3,4,5] (ag1 Fd sv aw it T v8 gy j l)=ki l DR (iW Fd T sv aw it) (some (218,#[.pointer (some ⟨Fd,1,none⟩),v8,.int .i64 2])) none:=by kernel_rfl
theorem acR:look [95,0,2,3,4,5] (DT Fd gy false aw it j l)=ki l Jp ((95,.bool false)::iW Fd gy false aw it) (some (217,#[])) none:=by kernel_rfl
theorem acS:look [0,2,3,4,5] (DT Fd gy true aw it j l)=ki l DV (iW Fd gy true aw it) none (some (21,ptr Fd)):=by kernel_rfl
theorem aeQ:look [0,2,3,4,5] (ag2 Fd gy T aw it j l)=ki l DV (iW Fd gy (decide (1000000<IntKind.i64.wrap (T-gy))) aw it) none (some (21,ptr Fd)):=by kernel_rfl
theorem acT:(calm.map fun i:Nat=>look [6,0,2,3,4,5] (xf Fd gy sv aw it (i:Int) j l))=calm.map fun i:Nat=>ki l zf (rX Fd gy sv true 0 (i:Int)) none none:=by kernel_rfl
theorem ZK:(hard.map fun i:Nat=>look [0,2,3,4,5] (xf Fd gy false aw it (i:Int) j l))=hard.map fun i:Nat=>ki l AU (iW Fd gy false aw it) (some (206,#[ptr Fd,.int .i32 (delta false i)])) none:=by kernel_rfl
theorem ZL:(hard.map fun i:Nat=>look [0,2,3,4,5] (xf Fd gy true aw it (i:Int) j l))=hard.map fun i:Nat=>ki l AU (iW Fd gy true aw it) (some (206,#[ptr Fd,.int .i32 (delta true i)])) none:=by kernel_rfl
theorem aeR:look [0,2,3,4,5] (ag3 Fd gy sv aw it x j l)=ki l DN (iW Fd gy sv aw it) (some (170,#[])) none:=by kernel_rfl
theorem aeS:look [0,2,3,4,5] (yX Fd gy sv aw it j l)=ki l Ss (iW Fd gy sv aw it) none none:=by kernel_rfl
end
def unit:Value:=.tuple #[]
section
variable(Fd:Nat)(c:Frame)(cs:List Frame)
def Li:Frame×List Frame:=gF PR 60 (Frame.enter PR 160 #[ptr Fd] .normal) (c::cs)
def BA:Frame×List Frame:=gF PR 60 ((Li Fd c cs).1.finish unit) (Li Fd c cs).2
def Lj:Frame×List Frame:=gF PR 60 ((BA Fd c cs).1.finish (.bool true)) (BA Fd c cs).2
def Lk:Frame×List Frame:=gF PR 60 ((Lj Fd c cs).1.finish unit) (Lj Fd c cs).2
def Ll:Frame×List Frame:=gF PR 60 ((Lk Fd c cs).1.finish (ptr Fd)) (Lk Fd c cs).2
def zK:Frame×List Frame:=gF PR 60 ((BA Fd c cs).1.finish (.bool false)) (BA Fd c cs).2
end
section
variable{Fd:Nat}{c:Frame}{cs:List Frame}{gy it:Int}{sv aw:Bool}{j:Nat->Value}{l:List Frame}
theorem la0:ahead (Li Fd c cs).1=some (169,#[]):=by kernel_rfl
theorem UO:ahead (BA Fd c cs).1=some (204,#[ptr Fd,.int .i32 0,.int .i32 1]):=by kernel_rfl
theorem la2:ahead (Lj Fd c cs).1=some (170,#[]):=by kernel_rfl
theorem la3:qL (Lk Fd c cs).1=some (253,159,ptr Fd):=by kernel_rfl
theorem la4:ahead (Ll Fd c cs).1=some (182,#[ptr Fd]):=by kernel_rfl
theorem la5:gF PR 6 ((Ll Fd c cs).1.finish unit) (Ll Fd c cs).2=(c.finish unit,cs):=by kernel_rfl
theorem las:look [0,2,3,4,5] (zK Fd c cs)=ki (zK Fd c cs).2 JW (iW Fd 0 false false 0) none (some (21,ptr Fd)):=by kernel_rfl
theorem aeT:qL (yX Fd gy sv aw it j l).1=some (253,159,ptr Fd):=by kernel_rfl
def DX (Fd:Nat) (gy:Int) (sv aw:Bool) (it:Int) (j:Nat->Value) (l:List Frame):Frame×List Frame:=gF PR 300 ((lf Ss (sA (iW Fd gy sv aw it)) j).finish (ptr Fd)) l
def St:List Item:=(DX 0 0 false false 0 jz []).1.todo
theorem aeU:look [0,2,3,4,5] (DX Fd gy sv aw it j l)=ki l St (iW Fd gy sv aw it) (some (182,#[ptr Fd])) none:=by kernel_rfl
theorem ag4:gF PR 9 ((lf St (sA (iW Fd gy sv aw it)) j).finish unit) (zK Fd c cs).2=(c.finish unit,cs):=by kernel_rfl
end
end Ph
namespace Ph
open Conc Ren
inductive jo where
 |st (L:List Nat)
 |a2 (L:List Nat) (c:Nat)
 |a3 (L:List Nat) (c:Nat)
 |a4 (L:List Nat) (c:Nat)
 |go (L:List Nat) (c:Nat)
 |send (L:List Nat) (i:Nat)
 |close (L:List Nat) (j:Nat)
 |kd
 |w1
 |w2 (v:Nat)
 |wx
 |w3
 |w4
 |ke
 |aq
def ot(w:World)(c s:Nat):=w.heap[c]?=some (.chan 0 #[] false s s false)
structure iq where
 n:Nat
 gE:List Nat
def iq.sends(J:iq)(L:List Nat)(i:Nat):jo:=if i<J.gE.length then .send L i else .close L 0
def iq.closes(J:iq)(L:List Nat)(j:Nat):jo:=if j<L.length then .close L j else .kd
def iq.ky(J:iq)(L:List Nat):=if L.length<J.n then .st L else J.sends L 0
namespace Env
def lA(E:Env)(P:Program)(J:iq)(kt:Nat->Goroutine->World->Prop)(Fin:(Nat->Prop)->(Nat->Prop)->Goroutine->World->Prop):Nat->jo->(Nat->Prop)->(Nat->Prop)->Goroutine->World->Prop
 |0,_,_,_,_,_=>True
 |k+1,pc,S,X,g,w=>g.status=.running/\g.offers=none/\match pc with
  |.st L=>∃c,E.sj P true .disable (E.Tree P true (lA E P J kt Fin k (.a2 L c))) S X g w
  |.a2 L c=>∀w2,gK E.U S w w2->E.WgAt w2 L.length 0 0->∃g1 w1 es,stepG P true g w2=.go g1 w1 es/\E.WgAt w1 (L.length+1) 0 0/\Eff E.Wg w2 w1/\EvA E.Wg es/\E.Tree P true (lA E P J kt Fin k (if L=[]then .a3 L c else .a4 L c)) S X g1 w1
  |.a3 L c=>E.sj P true (.read E.sm) (E.Tree P true (lA E P J kt Fin k (.a4 L c))) S X g w
  |.a4 L c=>E.sj P true .enable (E.Tree P true (lA E P J kt Fin k (.go L c))) S X g w
  |.go L c=>S c/\X c/\∀w2,gK E.U S w w2->ot w2 c 0/\∃g1 Y,stepG P true g w2=.spawn g1 Y w2 #[]/\kt c Y w2/\E.Tree P true (lA E P J kt Fin k (J.ky (L++[c]))) (fun a=>S a/\a≠c) (fun a=>X a/\a≠c) g1 w2
  |.send L i=>∃c x,L[i%J.n]?=some c/\J.gE[i]?=some x/\∃z,(∀w2 s,gK E.U S w w2->ot w2 c s->stepG P true g w2=.comm g #[scase c (.int .i64 (x:Int)) z] true .send w2 #[])/\
    ∀w2,gK E.U S w w2->E.Tree P true (lA E P J kt Fin k (J.sends L (i+1))) S X (Go.Conc.served g undef) w2
  |.close L j=>mayWake P g=true/\∃c,L[j]?=some c/\∀w2 s,gK E.U S w w2->ot w2 c s->∃g1,g1.status=.running/\stepG P true g w2=.go g1 (w2.setChan c 0 #[] true s s false) (closeEvents c)/\E.Tree P true (lA E P J kt Fin k (J.closes L (j+1))) S X g1 (w2.setChan c 0 #[] true s s false)
  |.kd=>E.sj P true .disable (E.Tree P true (lA E P J kt Fin k .w1)) S X g w
  |.w1=>∀w2 v,gK E.U S w w2->v<=8->E.WgAt w2 v 0 0->∃g1 es,stepG P true g w2=.go g1 w2 es/\EvA E.Wg es/\(v=0->E.Tree P true (lA E P J kt Fin k .ke) S X g1 w2)/\(v≠0->E.Tree P true (lA E P J kt Fin k (.w2 v)) S X g1 w2)
  |.w2 v0=>∀w2 v,gK E.U S w w2->v<=8->E.WgAt w2 v 0 0->(v=v0->∃g1 w1 es,stepG P true g w2=.go g1 w1 es/\E.WgAt w1 v 1 0/\Eff E.Wg w2 w1/\EvA E.Wg es/\E.Tree P true (lA E P J kt Fin k .wx) S X g1 w1)/\
    (v≠v0->∃g1 es,stepG P true g w2=.go g1 w2 es/\EvA E.Wg es/\E.Tree P true (lA E P J kt Fin k .w1) S X g1 w2)
  |.wx=>E.sj P true (.write E.sm) (E.Tree P true (lA E P J kt Fin k .w3)) S X g w
  |.w3=>(∀w2 v wt,gK E.U S w w2->E.WgAt w2 v wt 0->stepG P true g w2=.go {g with status:=.blocked} w2 #[])/\
    (∀w2,gK E.U S w w2->E.WgAt w2 0 0 1->∃g1 w1 es,stepG P true g w2=.go g1 w1 es/\E.WgAt w1 0 0 0/\Eff E.Wg w2 w1/\EvA E.Wg es/\E.Tree P true (lA E P J kt Fin k .w4) S X g1 w1)
  |.w4=>∀w2,gK E.U S w w2->E.WgAt w2 0 0 0->∃g1 es,stepG P true g w2=.go g1 w2 es/\EvA E.Wg es/\E.Tree P true (lA E P J kt Fin k .ke) S X g1 w2
  |.ke=>E.sj P true .enable (E.Tree P true (lA E P J kt Fin k .aq)) S X g w
  |.aq=>∀w2,gK E.U S w w2->∃g1,stepG P true g w2=.go g1 w2 #[⟨.mark (.acquire E.st),false,true⟩]/\Fin S X g1 w2
end Env
def Down{α:Type}(r:Nat->α->α->Prop)(n:Nat)(y x:Nat->α):=∃i,i<n/\r i (y i) (x i)/\∀k,k<n->k≠i->y k=x k
theorem Qs{α:Type}(r:Nat->α->α->Prop):∀n x,(∀i,i<n->Acc (r i) (x i))->Acc (Down r n) x
 |0,x,_=>⟨x,fun y ⟨i,B,_⟩=>by omega⟩
 |n+1,x,h=>by
  have C:=Qs r n x fun i B=>h i (by omega);have J:=h n (by omega)
  suffices key:∀x,Acc (Down r n) x->∀a,Acc _ a->∀z:Nat->α,(∀k,k<n->z k=x k)->z n=a->Acc _ z from key x C _ J x (fun _ _=>rfl) rfl
  intro x L;induction L with
  |intro x _ U=>
   intro a F;induction F with
   |intro a K A=>
    intro z I Y;refine⟨z,fun y ⟨i,B,hr,R⟩=>?_⟩;by_cases H:i=n
    ·subst H;rw[Y]at hr;exact A _ hr y (fun k hk=>(R k (by omega) (by omega)).trans (I k hk)) rfl
    ·refine U y ⟨i,by omega,?_,fun k hk D=>(R k (by omega) D).trans (I k hk)⟩ a ⟨a,K⟩ y (fun _ _=>rfl) ((R n (by omega) (by omega)).trans Y);rw[<-I i (by omega)];exact hr
def Reach(P:Program)(F:Machine->Trace->Prop)(m:Machine)(t:Trace):=∃N m' t',runNT P N m t=(.next m',t')/\F m' t'
theorem Reach.here{F:Machine->Trace->Prop}{m:Machine}(h:F m t):Reach P F m t:=⟨0,m,t,rfl,h⟩
theorem Reach.step{P:Program}{F:Machine->Trace->Prop}{m Y:Machine}{t:Trace}{ops:Array _}(R:stepT P m=(.next Y,ops))(h:Reach P F Y (t++ops)):Reach P F m t:=by
 obtain⟨N,m',t',K,H⟩:=h;exact⟨N+1,m',t',by simp[runNT,R];exact K,H⟩
structure Nd where
 S:Nat->Prop
 X:Nat->Prop
 g:Goroutine
 w:World
def Nx(P:Program)(main:Bool)(U:Nat->Nat->Prop)(D:(Nat->Prop)->(Nat->Prop)->Goroutine->World->Prop)(y x:Nd):=
 ¬D x.S x.X x.g x.w/\∃w2 es,gK U x.S x.w w2/\stepG P main x.g w2=.go y.g y.w es/\kh U x.S x.X w2 y.w es y.S y.X
section
variable{P:Program}{main:Bool}{U:Nat->Nat->Prop}{D:(Nat->Prop)->(Nat->Prop)->Goroutine->World->Prop}{S X:Nat->Prop}{g:Goroutine}{w:World}
theorem Tz.acc(h:Tz P main U D S X g w):Acc (Nx P main U D) ⟨S,X,g,w⟩:=by
 induction h with
 |stop hd=>exact⟨_,fun y ⟨Y,_⟩=>absurd hd Y⟩
 |step H ex _ K=>exact⟨_,fun y ⟨_,w2,es,hr,e,hd⟩=>K w2 y.g y.w es y.S y.X hr e hd⟩
theorem Tz.look(h:Tz P main U D S X g w):D S X g w\/(¬D S X g w/\g.status=.running/\∀w2,gK U S w w2->∃g1 w1 es S1 X1,stepG P main g w2=.go g1 w1 es/\kh U S X w2 w1 es S1 X1/\Tz P main U D S1 X1 g1 w1):=by
 by_cases Y:D S X g w
 ·simp_all
 ·cases h with
  |stop hd=>exact absurd hd Y
  |step K ex k=>
   refine .inr ⟨Y,K,fun w2 hr=>?_⟩;obtain⟨g1,w1,es,S1,X1,e,hd⟩:=ex w2 hr;exact⟨g1,w1,es,S1,X1,e,hd,k w2 g1 w1 es S1 X1 hr e hd⟩
end
def TN(n:Nat)(s:Nat->Option _)(j:Nat->Value):=((List.range n).map fun i=>(s i).getD (j i)).toArray
def kR(fn:FuncId)(n:Nat)(site:List Item)(s:Nat->Option Value)(j:Nat->Value):Frame:={fn:=fn,tmps:=TN n s j,todo:=site,defers:=[],mode:=.run,kind:=.normal}
structure kJ(fn:FuncId)(n:Nat)(site:List Item)(s:Nat->Option Value)(f:Frame):Prop where
 fn:f.fn=fn
 todo:f.todo=site
 defers:f.defers=[]
 mode:f.mode=.run
 kind:f.kind=.normal
 round:f.roundOf=none
 size:f.tmps.size=n
 slot:∀i v,s i=some v->f.tmps.getD i undef=v
theorem kJ.eq{site:List _}{s:Nat->Option _}{f:Frame}(h:kJ fn n site s f):f=kR fn n site s (fun i=>f.tmps.getD i undef):=by
 obtain⟨fn,tmps,todo,defers,mode,kind,ro⟩:=f;obtain⟨D,R,I,A,U,B,K,H⟩:=h;congr 1;apply Array.ext
 ·simp[TN,K]
 ·intro i Y _;simp[TN,List.getElem_toArray,List.getElem_map,List.getElem_range];cases e:s i with
  |none=>simp[aO Y]
  |some v=>
   rw[<-H i v e];simp[aO Y]
def iz(fn:FuncId)(n:Nat)(l:List Frame)(site:List Item)(al:List (Nat×Value))(call:Option (FuncId×Array Value))(load:Option (TypeId×Value)):rQ:=⟨l,fn,site,[],.run,.normal,none,n,al.map (·.2),call,load⟩
structure Dn(fn:FuncId)(n:Nat)(l:List Frame)(site:List Item)(al:List (Nat×Value))(call:Option (FuncId×Array Value))(load:Option (TypeId×Value))(r:Frame×List Frame):Prop where
 callers:r.2=l
 fr:kJ fn n site (sA al) r.1
 call:ahead r.1=call
 load:qK r.1=load
theorem jV{r:Frame×List _}{l:List _}{site:List _}{al:List _}{call:Option _}{load:Option _}(h:look ks r=iz fn n l site al call load)(hk:al.map (·.1)=ks):Dn fn n l site al call load r:=by
 subst hk;simp only[look,iz,rQ.mk.injEq,List.map_map]at h;obtain⟨H,D,R,I,A,U,B,C,F,Y,K⟩:=h;exact⟨H,⟨D,R,I,A,U,B,C,HD F⟩,Y,K⟩
end Ph
namespace Ph
open Conc Ren
open Lock (Word PC Mv bn iJ bw dw)
open ConcN (sumTo upd sumTo_upd upd_ne upd_same sumTo_congr le_sumTo sumTo_le)
inductive Md where
 |run
 |blk
 |hD
 |jS
 deriving DecidableEq
inductive gO(E:Env) where
 |no
 |at(pc:E.kH) (md:Md)
 |gT (i n:Nat)
 |qt (q:Nat)
structure iB(E:Env) where
 j:Nat
 L:List Nat
 ks:Nat->gO E
 d:jo
 dm:Md
 m:Word
 c:Nat
 v:Nat
 wt:Nat
 ws:Nat
 γ:E.Γ
 dn:List Nat
 tok:Option Nat
section
variable{E:Env}
def oZ:E.kH->PC
 |.recv=>.out
 |.ld _=>.l0
 |.lk p _=>p
 |.le _=>.cr
 |.la _=>.cr
 |.ur _=>.cr
 |.ud=>.cr
 |.u0=>.cr
 |.un p=>p
 |.ue=>.out
 |.wr=>.out
def iK:gO E->PC
 |.at pc _=>oZ pc
 |_=>.out
def qR(y:Nat):E.kH->Nat
 |.ld x=>if x=y then 1 else 0
 |.lk _ x=>if x=y then 1 else 0
 |.le x=>if x=y then 1 else 0
 |.la x=>if x=y then 1 else 0
 |_=>0
def qS(y:Nat):gO E->Nat
 |.at pc _=>qR y pc
 |_=>0
def qA:E.kH->Nat
 |.recv=>7
 |.ld _=>17
 |.lk p _=>14+iJ p
 |.le _=>14
 |.la _=>13
 |.ur _=>12
 |.ud=>11
 |.u0=>10
 |.un p=>9+iJ p
 |.ue=>8
 |.wr=>6
def l_:gO E->Nat
 |.at pc _=>qA pc
 |.gT i _=>i+1
 |_=>0
def kS:gO E->Nat
 |.gT i _=>if i<=2 then 1 else 0
 |.qt _=>1
 |_=>0
def jh:gO E->Nat
 |.gT i _=>if i=1\/i=2 then 1 else 0
 |_=>0
def jj:gO E->Nat
 |.gT i _=>if i=0 then 1 else 0
 |_=>0
def Gone:gO E->Prop
 |.at .wr _=>True
 |.at .recv .jS=>True
 |.gT _ _=>True
 |.qt _=>True
 |_=>False
def u_:E.kH->Nat
 |.lk _ _=>1
 |.le _=>1
 |.u0=>1
 |.un _=>1
 |.ue=>1
 |_=>0
def A6:gO E->Nat
 |.at pc _=>u_ pc
 |.gT i _=>if i<=3 then 1 else 0
 |_=>0
end
def px:jo->Nat
 |.a2 _ _=>1
 |.a3 _ _=>1
 |.a4 _ _=>1
 |.w1=>1
 |.w2 _=>1
 |.wx=>1
 |.w3=>1
 |.w4=>1
 |.ke=>1
 |_=>0
def po:jo->Nat
 |.a3 _ _=>1
 |.a4 _ _=>1
 |.go _ _=>1
 |_=>0
def sC(J:iq):jo->Nat
 |.st _=>0
 |.a2 _ _=>0
 |.a3 _ _=>0
 |.a4 _ _=>0
 |.go _ _=>0
 |.send _ i=>i
 |_=>J.gE.length
def iR(J:iq):jo->Nat
 |.st _=>0
 |.a2 _ _=>0
 |.a3 _ _=>0
 |.a4 _ _=>0
 |.go _ _=>0
 |.send _ _=>0
 |.close _ i=>i
 |_=>J.n
def ir(J:iq)(v:Nat):jo->Nat
 |.st L=>60+20 *J.gE.length+20 *(J.n-L.length)
 |.a2 L _=>59+20 *J.gE.length+20 *(J.n-L.length)
 |.a3 L _=>58+20 *J.gE.length+20 *(J.n-L.length)
 |.a4 L _=>57+20 *J.gE.length+20 *(J.n-L.length)
 |.go L _=>56+20 *J.gE.length+20 *(J.n-L.length)
 |.send _ i=>40+20 *(J.gE.length-i)
 |.close _ i=>25+(J.n-i)
 |.kd=>24
 |.w1=>7+2 *v
 |.w2 v0=>6+2 *v0
 |.wx=>5
 |.w3=>4
 |.w4=>3
 |.ke=>2
 |.aq=>1
def yY:jo->Prop
 |.wx=>True
 |.w3=>True
 |_=>False
def zh:jo->Prop
 |.w4=>True
 |.ke=>True
 |.aq=>True
 |_=>False
def E_(J:iq)(Y:List Nat)(j:Nat):jo->Prop
 |.st L=>L=Y/\j<J.n
 |.a2 L _=>L=Y/\j<J.n
 |.a3 L _=>L=Y/\j<J.n
 |.a4 L _=>L=Y/\j<J.n
 |.go L _=>L=Y/\j<J.n
 |.send L i=>L=Y/\j=J.n/\i<J.gE.length
 |.close L i=>L=Y/\j=J.n/\i<J.n
 |_=>j=J.n
def nD(d:jo)(v wt ws K Y:Nat):=
 (wt=0/\ws=0/\K=0/\Y=0/\¬yY d/\(zh d->v=0))\/
 (yY d/\((wt=1/\ws=0/\0<v/\K=0/\Y=0)\/(wt=1/\ws=0/\v=0/\K=1/\Y=0)\/(wt=0/\ws=0/\v=0/\K=0/\Y=1)\/(wt=0/\ws=1/\v=0/\K=0/\Y=0)))
section
variable{E:Env}
structure CI(J:iq)(gL:E.Γ)(C:iB E):Prop where
 jn:C.j<=J.n
 len:C.L.length=C.j
 BB:C.L.Nodup
 no:∀k,C.j<=k->C.ks k=.no
 yes:∀k,k<C.j->C.ks k≠.no
 lock:Lock.Inv (fun k=>iK (C.ks k)) J.n C.m C.c
 rR:∀k,C.tok=some k->∃md,C.ks k=.at (.ur C.γ) md
 xE:∀k γ md,C.ks k=.at (.ur γ) md->C.tok=some k
 md:∀k pc md,C.ks k=.at pc md->(md=.blk->∃sv x,pc=.lk (.s1 sv) x)/\(md=.hD\/md=.jS->pc=.recv)
 pK:(C.dm=.blk->C.d=.w3)/\(C.dm=.hD->∃i,C.d=.send C.L i)/\C.dm≠.jS
 num:∀y,C.dn.count y+sumTo J.n (fun k=>qS y (C.ks k))=(J.gE.take (sC J C.d)).count y
 fold:C.γ=C.dn.foldl E.upd gL
 pL:C.v+sumTo J.n (fun k=>kS (C.ks k))=C.j+po C.d
 ph:nD C.d C.v C.wt C.ws (sumTo J.n fun k=>jh (C.ks k)) (sumTo J.n fun k=>jj (C.ks k))
 gone:∀k,Gone (C.ks k)->k<iR J C.d
 od:E_ J C.L C.j C.d
 re:∀k p x md,C.ks k=.at (.lk p x) md->iJ p=2
 o8:∀k p md,C.ks k=.at (.un p) md->iJ p=0/\p≠.out
 gT:∀k i n,C.ks k=.gT i n->i<=4
 w2:∀v0,C.d=.w2 v0->0<v0/\C.v<=v0
structure Calm(J:iq)(C:iB E):Prop where
 blk:∀k pc,C.ks k=.at pc .blk->C.c=0
 hD:∀k pc,C.ks k=.at pc .hD->¬k<iR J C.d
 KA:C.dm=.blk->C.ws=0
 pB:∀i,C.dm=.hD->C.d=.send C.L i->∀pc,C.ks (i%J.n)≠.at pc .hD
def lr(J:iq)(C:iB E):=ir J C.v C.d+sumTo J.n (fun k=>l_ (C.ks k))
def o9(J:iq)(C:iB E):=sumTo J.n (fun k=>bw (iK (C.ks k)))+7 *C.c
def qp(J:iq)(C:iB E):=sumTo J.n (fun k=>dw C.m (iK (C.ks k)))
def mu(J:iq)(C:iB E):=(lr J C *128+o9 J C) *128+qp J C
theorem aiy(p:PC):bw p<=9:=by
 cases p<;>simp[bw]<;>omega
theorem aiz(m:Word)(p:PC):dw m p<=12:=by
 cases p<;>simp[dw]<;>(try split)<;>omega
theorem ag5{J:iq}{C:iB E}(K:J.n<=8)(Y:C.c<=1):o9 J C<128:=by
 have h:=sumTo_le (f:=fun k=>bw (iK (C.ks k))) (j:=J.n) fun i _=>aiy _;unfold o9;omega
theorem Rr{J:iq}{C:iB E}(Y:J.n<=8):qp J C<128:=by
 have h:=sumTo_le (f:=fun k=>dw C.m (iK (C.ks k))) (j:=J.n) fun i _=>aiz _ _;unfold qp;omega
theorem xF{J:iq}{C C':iB E}(Y:J.n<=8)(K:C'.c<=1)(h:lr J C'<lr J C):mu J C'<mu J C:=by
 have H:=ag5 Y K;have D:=Rr (C:=C') Y;unfold mu;omega
theorem aka{J:iq}{C C':iB E}(Y:J.n<=8)(h:lr J C'=lr J C)(H:o9 J C'<o9 J C):mu J C'<mu J C:=by
 have K:=Rr (C:=C') Y;unfold mu;omega
theorem akb{J:iq}{C C':iB E}(h:lr J C'=lr J C)(Y:o9 J C'=o9 J C)(K:qp J C'<qp J C):mu J C'<mu J C:=by
 unfold mu;omega
theorem Pq(f:PC->Nat)(gJ:Nat->PC):∀n,Lock.gZ f gJ n=sumTo n fun k=>f (gJ k)
 |0=>rfl
 |n+1=>by rw[Lock.gZ,sumTo,Pq f gJ n]
theorem aeV(ks:Nat->gO E)(k:Nat)(s:gO E):(fun i=>iK (upd ks k s i))=Lock.put (fun i=>iK (ks i)) k (iK s):=by
 funext i;unfold upd Lock.put;split<;>rfl
theorem Qt(f g h:PC->Nat)(gJ:Nat->PC):∀n,Lock.gZ (fun p=>f p+g p+h p) gJ n=Lock.gZ f gJ n+Lock.gZ g gJ n+Lock.gZ h gJ n
 |0=>rfl
 |n+1=>by simp[Lock.gZ,Qt f g h gJ n];omega
theorem Hc{gJ:Nat->PC}{m:Word}{c:Nat}(h:Lock.Inv gJ n m c):c<=1/\m.W<=n:=by
 have one:∀f,(∀p,f p<=1)->Lock.gZ f gJ n<=n:=by
  intro f R;rw[Pq];have:=sumTo_le (f:=fun k=>f (gJ k)) (j:=n) fun i _=>R _;omega
 have F:=Lock.rK m.K;have I:∀p,Lock.jm p+Lock.gP p+Lock.iL p<=1:=by intro p;cases p<;>simp[Lock.jm,Lock.gP,Lock.iL]
 cases Y:m.S with
 |false=>
  obtain⟨H,D,_⟩:=h.calm Y;have:=one Lock.jm (by intro p;cases p<;>simp[Lock.jm]);omega
 |true=>
  obtain⟨H,D,A,U,B,C⟩:=h.hard Y;have:=one _ I;have e:=Qt Lock.jm Lock.gP Lock.iL gJ n;omega
end
end Ph
namespace Ph
open Conc Ren
open Lock (Word PC Mv bn iJ bw dw)
open ConcN (sumTo upd sumTo_upd upd_ne upd_same sumTo_congr le_sumTo sumTo_le sumTo_upd_out)
section
variable{E:Env}{J:iq}{gL:E.Γ}{C:iB E}
def iB.wk(C:iB E)(k:Nat)(s':gO E)(d':jo)(Y:Md)(m':Word)(c' v' ib ia:Nat)(K:E.Γ)(j6:List Nat)(jF:Option Nat):=
 {C with ks:=upd C.ks k s',d:=d',dm:=Y,m:=m',c:=c',v:=v',wt:=ib,ws:=ia,γ:=K,dn:=j6,tok:=jF}
theorem rG{C:iB E}{s s':gO E}(f:gO E->Nat)(n:Nat)(hk:k<n)(e:C.ks k=s):sumTo n (fun i=>f (upd C.ks k s' i))+f s=sumTo n (fun i=>f (C.ks i))+f s':=by
 have:=sumTo_upd C.ks s' f hk;simp_all
theorem CI.wk{s s':gO E}{d':jo}{R:Md}{m':Word}{A:E.Γ}(h:CI J gL C)(hk:k<C.j)(e:C.ks k=s)(ne:s'≠.no)
  (lock:Lock.Inv (Lock.put (fun i=>iK (C.ks i)) k (iK s')) J.n m' c')
  (rR:∀i,jF=some i->(i=k/\∃md,s'=.at (.ur A) md)\/(i≠k/\C.tok=some i/\A=C.γ))(xE:∀γ md,s'=.at (.ur γ) md->jF=some k)(F:∀i,i≠k->C.tok=some i->jF=some i)
  (md:∀pc md,s'=.at pc md->(md=.blk->∃sv x,pc=.lk (.s1 sv) x)/\(md=.hD\/md=.jS->pc=.recv))
  (pK:(R=.blk->d'=.w3)/\(R=.hD->∃i,d'=.send C.L i)/\R≠.jS)
  (num:∀y,j6.count y+qS y s'+(J.gE.take (sC J C.d)).count y=C.dn.count y+qS y s+(J.gE.take (sC J d')).count y)
  (fold:A=j6.foldl E.upd gL)(pL:v'+kS s'+po C.d=C.v+kS s+po d')
  (ph:∀N M,nD C.d C.v C.wt C.ws (N+jh s) (M+jj s)->nD d' v' ib ia (N+jh s') (M+jj s'))
  (gone:Gone s'->k<iR J d')(cl:iR J C.d<=iR J d')(od:E_ J C.L C.j d')
  (re:∀p x md,s'=.at (.lk p x) md->iJ p=2)(o8:∀p md,s'=.at (.un p) md->iJ p=0/\p≠.out)(gT:∀i n,s'=.gT i n->i<=4)(w2:∀v0,d'=.w2 v0->0<v0/\v'<=v0):
  CI J gL (C.wk k s' d' R m' c' v' ib ia A j6 jF):=by
 have D:k<J.n:=af hk h.jn;have us:upd C.ks k s' k=s':=upd_same _ _ _;have un:∀i,i≠k->upd C.ks k s' i=C.ks i:=fun i Y=>upd_ne _ _ Y;refine⟨h.jn,h.len,h.BB,fun i Y=>?_,fun i Y=>?_,?_,fun i Y=>?_,fun i γ H Y=>?_,fun i pc H Y=>?_,pK,fun y=>?_,fold,?_,?_,fun i Y=>?_,od,fun i p x H Y=>?_,fun i p H Y=>?_,fun i n0 n1 Y=>?_,w2⟩
 ·have:i≠k:=by have:C.j<=i:=Y;omega
  show upd C.ks k s' i=_
  rw[un i this];exact h.no i Y
 ·show upd C.ks k s' i≠_
  by_cases K:i=k
  ·subst K;rw[us];exact ne
  ·rw[un i K];exact h.yes i Y
 ·show Lock.Inv (fun i=>iK (upd C.ks k s' i)) J.n m' c'
  rw[aeV];exact lock
 ·show∃md,upd C.ks k s' i=_
  rcases rR i Y with⟨rfl,I⟩|⟨I,B,U⟩
  ·rw[us];exact I
  ·rw[un i I];rw[U];exact h.rR i B
 ·change upd C.ks k s' i=_ at Y;show jF=some i
  by_cases K:i=k
  ·subst K;rw[us]at Y;exact xE γ H Y
  ·rw[un i K]at Y;exact F i K (h.xE i γ H Y)
 ·change upd C.ks k s' i=_ at Y;by_cases K:i=k
  ·subst K;rw[us]at Y;exact md pc H Y
  ·rw[un i K]at Y;exact h.md i pc H Y
 ·have I:=h.num y;have B:=num y;have U:=rG (C:=C) (s':=s') (qS y) J.n D e;show j6.count y+sumTo J.n (fun i=>qS y (upd C.ks k s' i))=(J.gE.take (sC J d')).count y
  omega
 ·have I:=h.pL;have U:=rG (C:=C) (s':=s') kS J.n D e;show v'+sumTo J.n (fun i=>kS (upd C.ks k s' i))=C.j+po d'
  omega
 ·have I:=h.ph;have U:=rG (C:=C) (s':=s') jh J.n D e;have S:=rG (C:=C) (s':=s') jj J.n D e;have l2:=le_sumTo (f:=fun i=>jh (C.ks i)) D;have l0:=le_sumTo (f:=fun i=>jj (C.ks i)) D;simp only[e]at l2 l0;have Q:=ph (sumTo J.n (fun i=>jh (C.ks i))-jh s) (sumTo J.n (fun i=>jj (C.ks i))-jj s) (by simp_all);show nD d' v' ib ia (sumTo J.n fun i=>jh (upd C.ks k s' i)) (sumTo J.n fun i=>jj (upd C.ks k s' i))
  have O:sumTo J.n (fun i=>jh (upd C.ks k s' i))=sumTo J.n (fun i=>jh (C.ks i))-jh s+jh s':=by omega
  have P:sumTo J.n (fun i=>jj (upd C.ks k s' i))=sumTo J.n (fun i=>jj (C.ks i))-jj s+jj s':=by omega
  rw[O,P];exact Q
 ·change Gone (upd C.ks k s' i)at Y;show i<iR J d'
  by_cases K:i=k
  ·subst K;rw[us]at Y;exact gone Y
  ·rw[un i K]at Y;exact af (h.gone i Y) cl
 ·change upd C.ks k s' i=_ at Y;by_cases K:i=k
  ·subst K;rw[us]at Y;exact re p x H Y
  ·rw[un i K]at Y;exact h.re i p x H Y
 ·change upd C.ks k s' i=_ at Y;by_cases K:i=k
  ·subst K;rw[us]at Y;exact o8 p H Y
  ·rw[un i K]at Y;exact h.o8 i p H Y
 ·change upd C.ks k s' i=_ at Y;by_cases K:i=k
  ·subst K;rw[us]at Y;exact gT n0 n1 Y
  ·rw[un i K]at Y;exact h.gT i n0 n1 Y
theorem xh{s s':gO E}{d':jo}{oG:Md}{m':Word}{kV:E.Γ}(hk:k<J.n)(e:C.ks k=s):
  lr J (C.wk k s' d' oG m' c' v' ib ia kV j6 jF)+ir J C.v C.d+l_ s=lr J C+ir J v' d'+l_ s':=by
 have Y:=rG (s':=s') l_ J.n hk e;show ir J v' d'+sumTo J.n (fun i=>l_ (upd _ k s' i))+ir J C.v C.d+l_ s=ir J C.v C.d+sumTo J.n _+ir J v' d'+l_ s'
 omega
theorem Su{s s':gO E}{d':jo}{oG:Md}{m':Word}{kV:E.Γ}(hk:k<J.n)(e:C.ks k=s):
  o9 J (C.wk k s' d' oG m' c' v' ib ia kV j6 jF)+bw (iK s)+7 *C.c=o9 J C+bw (iK s')+7 *c':=by
 have Y:=rG (s':=s') (fun s=>bw (iK s)) J.n hk e;show sumTo J.n (fun i=>bw (iK (upd _ k s' i)))+7 *c'+bw _+7 *C.c=sumTo J.n _+7 *C.c+bw _+7 *c'
 omega
theorem Rs{s s':gO E}{d':jo}{oG:Md}{kV:E.Γ}(hk:k<J.n)(e:C.ks k=s):
  qp J (C.wk k s' d' oG C.m c' v' ib ia kV j6 jF)+dw C.m (iK s)=qp J C+dw C.m (iK s'):=by
 have Y:=rG (s':=s') (fun s=>dw C.m (iK s)) J.n hk e;exact Y
def iB.dd(C:iB E)(d':jo)(Y:Md)(v' ib ia:Nat):={C with d:=d',dm:=Y,v:=v',wt:=ib,ws:=ia}
theorem CI.dd{d':jo}{Y:Md}(h:CI J gL C)(pK:(Y=.blk->d'=.w3)/\(Y=.hD->∃i,d'=.send C.L i)/\Y≠.jS)(num:J.gE.take (sC J d')=J.gE.take (sC J C.d))(pL:v'+po C.d=C.v+po d')
  (ph:∀H K,nD C.d C.v C.wt C.ws H K->nD d' v' ib ia H K)(cl:iR J C.d<=iR J d')(od:E_ J C.L C.j d')(w2:∀v0,d'=.w2 v0->0<v0/\v'<=v0):CI J gL (C.dd d' Y v' ib ia):=by
 refine⟨h.jn,h.len,h.BB,h.no,h.yes,h.lock,h.rR,h.xE,h.md,pK,fun y=>?_,h.fold,?_,ph _ _ h.ph,fun k hk=>af (h.gone k hk) cl,od,h.re,h.o8,h.gT,w2⟩
 ·have:=h.num y;rw[<-num]at this;exact this
 ·have:=h.pL;show v'+sumTo J.n (fun k=>kS (C.ks k))=C.j+po d'
  omega
theorem Eg{d':jo}{Y:Md}(h:ir J v' d'<ir J C.v C.d):mu J (C.dd d' Y v' ib ia)<mu J C:=by
 unfold mu;have K:lr J (C.dd d' Y v' ib ia)+ir J C.v C.d=lr J C+ir J v' d':=by
  show ir J v' d'+sumTo J.n (fun k=>l_ (C.ks k))+ir J C.v C.d=ir J C.v C.d+sumTo J.n _+ir J v' d'
  omega
 have H:o9 J (C.dd d' Y v' ib ia)=o9 J C:=rfl;have D:qp J (C.dd d' Y v' ib ia)=qp J C:=rfl;omega
def iB.spawn(J:iq)(C:iB E)(c:Nat):={C with j:=C.j+1,L:=C.L++[c],ks:=upd C.ks C.j (.at .recv .run),d:=J.ky (C.L++[c]),dm:=.run}
theorem AJ(f:gO E->Nat)(s':gO E)(h:CI J gL C)(Y:C.j<J.n)(f0:f .no=0):sumTo J.n (fun i=>f (upd C.ks C.j s' i))=sumTo J.n (fun i=>f (C.ks i))+f s':=by
 have:=rG (s':=s') f J.n Y (h.no C.j (aj _));omega
theorem uJ:(L.length<J.n/\J.ky L=.st L)\/(¬L.length<J.n/\0<J.gE.length/\J.ky L=.send L 0)\/(¬L.length<J.n/\J.gE.length=0/\J.ky L=.close L 0):=by
 unfold iq.ky iq.sends;by_cases Y:L.length<J.n
 ·simp_all
 ·by_cases K:0<J.gE.length
  ·simp_all
  ·simp_all
theorem CI.spawn{c:Nat}(h:CI J gL C)(Z:0<J.n)(G:J.n<=8)(hd:C.d=.go C.L c)(V:c∉C.L):CI J gL (C.spawn J c)/\lr J (C.spawn J c)<lr J C:=by
 have H:C.j<J.n:=by have:=h.od;rw[hd]at this;exact this.2
 have us:upd C.ks C.j (.at .recv .run) C.j=.at .recv .run:=upd_same _ _ _;have un:∀i,i≠C.j->upd C.ks C.j (.at .recv .run) i=C.ks i:=fun i P=>upd_ne _ _ P;have I:C.wt=0/\C.ws=0/\sumTo J.n (fun k=>jh (C.ks k))=0/\sumTo J.n (fun k=>jj (C.ks k))=0:=by
  rcases h.ph with y|y
  ·exact⟨y.1,y.2.1,y.2.2.1,y.2.2.2.1⟩
  ·rw[hd]at y;exact y.1.elim
 have R:(C.L++[c]).length=C.j+1:=by simp[h.len]
 have S:sC J (J.ky (C.L++[c]))=0:=by
  rcases uJ (J:=J) (L:=C.L++[c])with⟨_,e⟩|⟨_,_,e⟩|⟨_,D,e⟩<;>rw[e]
  ·rfl
  ·rfl
  ·exact D
 have F:po (J.ky (C.L++[c]))=0:=by
  rcases uJ (J:=J) (L:=C.L++[c])with⟨_,e⟩|⟨_,_,e⟩|⟨_,D,e⟩<;>rw[e]<;>rfl
 have B:¬yY (J.ky (C.L++[c]))/\¬zh (J.ky (C.L++[c])):=by
  rcases uJ (J:=J) (L:=C.L++[c])with⟨_,e⟩|⟨_,_,e⟩|⟨_,D,e⟩<;>rw[e]<;>exact⟨id,id⟩
 have Q:∀k,¬Gone (C.ks k):=fun k hk=>by
  have:=h.gone k hk;rw[hd]at this;exact absurd this (aI _)
 refine⟨⟨H,R,?_,fun k hk=>?_,fun k hk=>?_,?_,fun k hk=>?_,fun k γ md hk=>?_,fun k pc md hk=>?_,⟨nofun,nofun,nofun⟩,fun y=>?_,h.fold,?_,?_,fun k hk=>?_,?_,fun k p x md hk=>?_,fun k p md hk=>?_,fun k i n hk=>?_,fun v0 A=>?_⟩,?_⟩
 ·show(C.L++[c]).Nodup
  rw[List.nodup_append];exact⟨h.BB,by simp,fun a O b U=>by
   simp at U;subst U;exact fun e=>V (e▸O)⟩
 ·have:k≠C.j:=by have:C.j+1<=k:=hk;omega
  show upd C.ks C.j _ k=_
  rw[un k this];exact h.no k (by have:C.j+1<=k:=hk;omega)
 ·show upd C.ks C.j _ k≠_
  by_cases e:k=C.j
  ·subst e;rw[us];exact nofun
  ·rw[un k e];exact h.yes k (by have:k<C.j+1:=hk;omega)
 ·show Lock.Inv (fun i=>iK (upd C.ks C.j (.at .recv .run) i)) J.n C.m C.c
  have:(fun i=>iK (upd C.ks C.j (gO.at Env.kH.recv Md.run:gO E) i))=fun i=>iK (C.ks i):=by
   funext i;by_cases e:i=C.j
   ·subst e;rw[us,h.no C.j (aj _)];rfl
   ·rw[un i e]
  rw[this];exact h.lock
 ·obtain⟨md,e⟩:=h.rR k hk;have:k≠C.j:=fun e'=>by rw[e',h.no C.j (aj _)]at e;cases e
  exact⟨md,by show upd C.ks C.j _ k=_;rw[un k this];exact e⟩
 ·change upd C.ks C.j _ k=_ at hk;by_cases e:k=C.j
  ·subst e;rw[us]at hk;cases hk
  ·rw[un k e]at hk;exact h.xE k γ md hk
 ·change upd C.ks C.j _ k=_ at hk;by_cases e:k=C.j
  ·subst e;rw[us]at hk;cases hk;exact⟨nofun,fun _=>rfl⟩
  ·rw[un k e]at hk;exact h.md k pc md hk
 ·have Y:=h.num y;rw[hd]at Y;have K:=AJ (qS y) (.at .recv .run) h H rfl;show C.dn.count y+sumTo J.n (fun i=>qS y (upd C.ks C.j (.at .recv .run) i))=(J.gE.take (sC J (J.ky (C.L++[c])))).count y
  rw[S,K];exact Y
 ·have Y:=h.pL;rw[hd]at Y;have K:=AJ kS (.at .recv .run) h H rfl;show C.v+sumTo J.n (fun i=>kS (upd C.ks C.j (.at .recv .run) i))=C.j+1+po (J.ky (C.L++[c]))
  rw[F,K];exact Y
 ·have K:=AJ jh (.at .recv .run) h H rfl;have N:=AJ jj (.at .recv .run) h H rfl;show nD (J.ky (C.L++[c])) C.v C.wt C.ws (sumTo J.n fun i=>jh (upd C.ks C.j (.at .recv .run) i)) (sumTo J.n fun i=>jj (upd C.ks C.j (.at .recv .run) i))
  rw[K,N];exact .inl ⟨I.1,I.2.1,I.2.2.1,I.2.2.2,B.1,fun y=>absurd y B.2⟩
 ·change Gone (upd C.ks C.j _ k)at hk;by_cases e:k=C.j
  ·subst e;rw[us]at hk;exact hk.elim
  ·rw[un k e]at hk;exact absurd hk (Q k)
 ·show E_ J (C.L++[c]) (C.j+1) (J.ky (C.L++[c]))
  rcases uJ (J:=J) (L:=C.L++[c])with⟨Y,e⟩|⟨Y,K,e⟩|⟨Y,D,e⟩<;>rw[e]<;>rw[R]at Y
  ·exact⟨rfl,Y⟩
  ·exact⟨rfl,by omega,K⟩
  ·exact⟨rfl,by omega,Z⟩
 ·change upd C.ks C.j _ k=_ at hk;by_cases e:k=C.j
  ·subst e;rw[us]at hk;cases hk
  ·rw[un k e]at hk;exact h.re k p x md hk
 ·change upd C.ks C.j _ k=_ at hk;by_cases e:k=C.j
  ·subst e;rw[us]at hk;cases hk
  ·rw[un k e]at hk;exact h.o8 k p md hk
 ·change upd C.ks C.j _ k=_ at hk;by_cases e:k=C.j
  ·subst e;rw[us]at hk;cases hk
  ·rw[un k e]at hk;exact h.gT k i n hk
 ·change J.ky (C.L++[c])=_ at A;rcases uJ (J:=J) (L:=C.L++[c])with⟨_,e⟩|⟨_,_,e⟩|⟨_,_,e⟩<;>rw[e]at A<;>cases A
 ·have K:=AJ l_ (.at .recv .run) h H rfl;show ir J C.v (J.ky (C.L++[c]))+sumTo J.n (fun i=>l_ (upd C.ks C.j (.at .recv .run) i))<ir J C.v C.d+sumTo J.n (fun k=>l_ (C.ks k))
  rw[K,hd];have M:l_ (gO.at Env.kH.recv Md.run:gO E)=7:=rfl;have T:=h.len;rcases uJ (J:=J) (L:=C.L++[c])with⟨Y,e⟩|⟨Y,K,e⟩|⟨Y,D,e⟩<;>rw[e]<;>rw[R]at Y<;>simp only[ir,R,M]<;>omega
def qh(b:Bool):gO E->gO E
 |.at pc .blk=>.at pc .run
 |.at pc .hD=>if b then .at pc .jS else .at pc .hD
 |s=>s
def xr:Md->Md
 |.blk=>.run
 |x=>x
def iB.oQ(J:iq)(C:iB E):={C with ks:=fun k=>qh (decide (k<iR J C.d)) (C.ks k),dm:=xr C.dm}
theorem wo{α:Type}(f:gO E->α)(K:∀pc md Y,f (.at pc md)=f (.at pc Y))(b:Bool)(s:gO E):f (qh b s)=f s:=by
 cases s with
 |«at» pc md=>
  cases md with
  |run=>rfl
  |blk=>exact K _ _ _
  |hD=>
   cases b
   ·rfl
   ·exact K _ _ _
  |jS=>rfl
 |_=>rfl
theorem wq{b:Bool}{s:gO E}{pc:E.kH}{md:Md}(h:qh b s=.at pc md):∃Y,s=.at pc Y/\(Y=md\/(Y=.blk/\md=.run)\/(Y=.hD/\md=.jS/\b=true))/\md≠.blk/\(md=.hD->b=false):=by
 cases s with
 |«at» K Y=>
  cases Y with
  |run=>cases h;simp_all
  |blk=>cases h;simp_all
  |hD=>
   cases b
   ·cases h;simp_all
   ·cases h;simp_all
  |jS=>cases h;simp_all
 |_=>cases h
theorem CI.oQ(h:CI J gL C):CI J gL (C.oQ J):=by
 have H:∀{α:Type} (f:gO E->α),(∀pc md B,f _=f _)->(fun k=>f ((C.oQ J).ks k))=fun k=>f (C.ks k):=fun f U=>funext fun k=>wo f U _ _;refine⟨h.jn,h.len,h.BB,fun k hk=>?_,fun k hk e=>?_,?_,fun k hk=>?_,fun k γ md hk=>?_,fun k pc md hk=>?_,?_,fun y=>?_,h.fold,?_,?_,fun k hk=>?_,h.od,fun k p x md hk=>?_,fun k p md hk=>?_,fun k i n hk=>?_,h.w2⟩
 ·show qh _ (C.ks k)=_
  rw[h.no k hk];rfl
 ·change qh _ (C.ks k)=_ at e;have:=h.yes k hk;cases Y:C.ks k with
  |«at» pc md=>
   rw[Y]at e;cases md with
   |hD=>revert e;simp only[qh];split<;>intro e<;>cases e
   |_=>cases e
  |no=>exact this Y
  |gT i n=>rw[Y]at e;cases e
  |qt q=>rw[Y]at e;cases e
 ·rw[H iK fun _ _ _=>rfl];exact h.lock
 ·obtain⟨md,e⟩:=h.rR k hk;show∃md,qh _ (C.ks k)=_
  rw[e];cases md with
  |run=>exact⟨_,rfl⟩
  |blk=>exact⟨_,rfl⟩
  |hD=>
   have:=(h.md k _ _ e).2 (.inl rfl);cases this
  |jS=>exact⟨_,rfl⟩
 ·obtain⟨K,e,_⟩:=wq hk;exact h.xE k γ K e
 ·obtain⟨K,e,I,A,F⟩:=wq hk;refine⟨fun y=>absurd y A,fun y=>?_⟩;rcases I with rfl|⟨_,rfl⟩|⟨rfl,rfl,_⟩
  ·exact(h.md k _ _ e).2 y
  ·simp_all
  ·exact(h.md k _ _ e).2 (.inl rfl)
 ·have hd:=h.pK;show(xr C.dm=.blk->C.d=.w3)/\(xr C.dm=.hD->∃i,C.d=.send C.L i)/\xr C.dm≠.jS
  cases R:C.dm with
  |run=>exact⟨nofun,nofun,nofun⟩
  |blk=>exact⟨nofun,nofun,nofun⟩
  |hD=>exact⟨nofun,fun _=>hd.2.1 R,nofun⟩
  |jS=>exact absurd R hd.2.2
 ·rw[H _ fun _ _ _=>rfl];exact h.num y
 ·rw[H kS fun _ _ _=>rfl];exact h.pL
 ·rw[H jh fun _ _ _=>rfl,H jj fun _ _ _=>rfl];exact h.ph
 ·change Gone (qh _ (C.ks k))at hk;cases Y:C.ks k with
  |«at» pc md=>
   rw[Y]at hk;cases md with
   |hD=>
    by_cases D:k<iR J C.d
    ·exact D
    ·rw[decide_eq_false D]at hk;have e:=(h.md k _ _ Y).2 (.inl rfl);subst e;exact hk.elim
   |blk=>
    obtain⟨sv,x,e⟩:=(h.md k _ _ Y).1 rfl;subst e;exact hk.elim
   |run=>exact h.gone k (by rw[Y];exact hk)
   |jS=>exact h.gone k (by rw[Y];exact hk)
  |no=>rw[Y]at hk;exact hk.elim
  |gT i n=>exact h.gone k (by rw[Y];trivial)
  |qt q=>exact h.gone k (by rw[Y];trivial)
 ·obtain⟨K,e,_⟩:=wq hk;exact h.re k p x K e
 ·obtain⟨K,e,_⟩:=wq hk;exact h.o8 k p K e
 ·change qh _ _=_ at hk;cases Y:C.ks k with
  |«at» pc md=>
   rw[Y]at hk;cases md with
   |hD=>revert hk;simp only[qh];split<;>intro e<;>cases e
   |_=>cases hk
  |no=>rw[Y]at hk;cases hk
  |gT i' M=>rw[Y]at hk;cases hk;exact h.gT k _ _ Y
  |qt q=>rw[Y]at hk;cases hk
theorem Rt:mu J (C.oQ J)=mu J C:=by
 have Y:∀{α:Type} (f:gO E->α),(∀pc md H,f _=f _)->(fun k=>f ((C.oQ J).ks k))=fun k=>f _:=fun f K=>funext fun k=>wo f K _ _;unfold mu lr o9 qp;rw[Y l_ fun _ _ _=>rfl,Y (fun s=>bw (iK s)) fun _ _ _=>rfl,Y (fun s=>dw _ (iK s)) fun _ _ _=>rfl];rfl
theorem abb(h:∀i,C.dm=.hD->C.d=.send C.L i->∀pc,C.ks (i%J.n)≠.at pc .hD):Calm J (C.oQ J):=by
 refine⟨fun k pc hk=>?_,fun k pc hk D=>?_,fun hd=>?_,fun i R hd pc hk=>?_⟩
 ·obtain⟨_,_,_,A,_⟩:=wq hk;simp_all
 ·obtain⟨_,_,_,_,H⟩:=wq hk;have:=H rfl;simp only[decide_eq_false_iff_not]at this;exact this D
 ·revert hd;show xr _=.blk->_
  cases C.dm<;>intro e<;>cases e
 ·have K:C.dm=.hD:=by
   revert R;show xr _=.hD->_
   cases C.dm<;>intro e<;>first|rfl|cases e
  obtain⟨I,e,Y,_⟩:=wq hk;rcases Y with rfl|⟨_,Y⟩|⟨_,Y,_⟩
  ·exact h i K hd pc e
  ·cases Y
  ·cases Y
end
theorem C5(f:Nat->PC)(k:Nat):Lock.put f k (f k)=f:=by
 funext i;unfold Lock.put;simp_all
theorem ag6{p p':PC}{m m':Word}{c:Nat}(h:Mv p m c p' m' c')(Y:iJ p=2):p'=.cr\/iJ p'=2:=by
 cases h with
 |E7=>exact .inl rfl
 |rd=>right;unfold Lock.hr;split<;>rfl
 |hw=>right;unfold Lock.hd;split<;>(try split)<;>rfl
 |E8=>
  split
  ·simp
  ·exact .inr rfl
 |E9=>right;unfold Lock.hr;split<;>rfl
 |a1=>exact .inl rfl
 |u0=>cases Y
 |Bx=>cases Y
 |Bz=>cases Y
 |ur=>cases Y
 |us=>cases Y
 |uh=>cases Y
 |_=>exact .inr rfl
theorem aeW{p p':PC}{m m':Word}{c:Nat}(h:Mv p m c p' m' c')(Y:iJ p=0/\p≠.out\/p=.cr):p'=.out\/(iJ p'=0/\p'≠.out):=by
 have hd:∀m,Lock.dec m=.out\/(iJ (Lock.dec m)=0/\Lock.dec m≠.out):=by
  intro m;unfold Lock.dec;split
  ·simp
  ·exact .inr ⟨rfl,nofun⟩
 cases h with
 |u0=>
  split
  ·exact .inr ⟨rfl,nofun⟩
  simp_all
 |Bx=>exact .inr ⟨rfl,nofun⟩
 |Bz=>exact .inr ⟨rfl,nofun⟩
 |ur=>exact hd _
 |us=>exact .inl rfl
 |uh=>exact .inl rfl
 |_=>rcases Y with⟨Y,_⟩|Y<;>cases Y
section
variable{E:Env}{J:iq}{gL:E.Γ}{C:iB E}
def iB.w1(C:iB E)(k:Nat)(s':gO E):=C.wk k s' C.d C.dm C.m C.c C.v C.wt C.ws C.γ C.dn C.tok
theorem CI.c1(h:CI J gL C):C.c<=1:=(Hc h.lock).1
theorem CI.JY(h:CI J gL C){pc:E.kH}{md:Md}(e:C.ks k=.at pc md)(n1:∀γ,pc≠.ur γ)(Y:C.tok=some i):i≠k:=by
 rintro rfl;obtain⟨K,e'⟩:=h.rR i Y;rw[e]at e';simp_all
theorem CI.quiet{pc Y:E.kH}{md K:Md}(h:CI J gL C)(hk:k<C.j)(e:C.ks k=.at pc md)(M:oZ Y=oZ pc)(F:∀y,qR y Y=qR y pc)(n1:∀γ,pc≠.ur γ)(n2:∀γ,Y≠.ur γ)
  (N:(K=.blk->∃sv x,Y=.lk (.s1 sv) x)/\(K=.hD\/K=.jS->Y=.recv))(A:Gone (.at Y K)->k<iR J C.d)(re:∀p x,Y=.lk p x->iJ p=2)(o8:∀p,Y=.un p->iJ p=0/\p≠.out):CI J gL (C.w1 k (.at Y K)):=by
 refine h.wk hk e nofun ?_ (fun i R=>.inr ⟨h.JY e n1 R,R,rfl⟩) (fun γ md e'=>by simp_all) (fun i _ R=>R) (fun U D H=>by cases H;omega) h.pK (fun y=>?_) h.fold rfl (fun B H I=>I) A (aj _) h.od (fun p x D H=>by simp_all) (fun p D H=>by simp_all) (fun i n H=>by cases H) h.w2
 ·have:iK (gO.at Y K)=(fun i=>iK (C.ks i)) k:=by
   show oZ Y=iK (C.ks k)
   rw[e];exact M
  rw[this,C5];exact h.lock
 ·show C.dn.count y+qR y Y+_=C.dn.count y+qR y pc+_
  rw[F]
theorem Eh{s s':gO E}(K:J.n<=8)(Y:C.c<=1)(hk:k<J.n)(e:C.ks k=s)(hr:l_ s'<l_ s):mu J (C.w1 k s')<mu J C:=by
 refine xF K Y ?_;have:=xh (s':=s') (d':=C.d) (oG:=C.dm) (m':=C.m) (c':=C.c) (v':=C.v) (ib:=C.wt) (ia:=C.ws) (kV:=C.γ) (j6:=C.dn) (jF:=C.tok) hk e;change lr J (C.w1 k s')+_+_=_ at this;omega
theorem Ru{s s':gO E}(hk:k<J.n)(e:C.ks k=s)(hr:l_ s'=l_ s)(R:iK s'=iK s):mu J (C.w1 k s')=mu J C:=by
 have H:=xh (s':=s') (d':=C.d) (oG:=C.dm) (m':=C.m) (c':=C.c) (v':=C.v) (ib:=C.wt) (ia:=C.ws) (kV:=C.γ) (j6:=C.dn) (jF:=C.tok) hk e;have Y:=Su (s':=s') (d':=C.d) (oG:=C.dm) (m':=C.m) (c':=C.c) (v':=C.v) (ib:=C.wt) (ia:=C.ws) (kV:=C.γ) (j6:=C.dn) (jF:=C.tok) hk e;have K:=Rs (s':=s') (d':=C.d) (oG:=C.dm) (c':=C.c) (v':=C.v) (ib:=C.wt) (ia:=C.ws) (kV:=C.γ) (j6:=C.dn) (jF:=C.tok) hk e;change lr J (C.w1 k s')+_+_=_ at H;change o9 J (C.w1 k s')+_+_=_ at Y;change qp J (C.w1 k s')+_=_ at K;rw[R]at Y K;unfold mu;omega
def iB.mv(C:iB E)(k:Nat)(Y:E.kH)(m':Word)(c':Nat):=C.wk k (.at Y .run) C.d C.dm m' c' C.v C.wt C.ws C.γ C.dn C.tok
theorem CI.mv{pc Y:E.kH}{p p':PC}{m':Word}(h:CI J gL C)(V:J.n<=8)(hk:k<C.j)(e:C.ks k=.at pc .run)(R:oZ pc=p)(H:oZ Y=p')(O:Mv p C.m C.c p' m' c')(Z:∀y,qR y Y=qR y pc)(n1:∀γ,pc≠.ur γ)(n2:∀γ,Y≠.ur γ)(n3:Y≠.wr)
  (hr:qA Y<qA pc\/(qA Y=qA pc/\iJ p'=iJ p))(re:∀p x,Y=.lk p x->iJ p=2)(o8:∀p,Y=.un p->iJ p=0/\p≠.out):CI J gL (C.mv k Y m' c')/\mu J (C.mv k Y m' c')<mu J C:=by
 have K:k<J.n:=af hk h.jn;have P:=by
  show iK (C.ks k)=p
  rw[e];exact R
 have N:=by
  show Lock.Inv (Lock.put (fun i=>iK (C.ks i)) k (oZ Y)) J.n m' c'
  rw[H];exact h.lock.step K P O
 refine⟨?_,?_⟩
 ·refine h.wk hk e nofun N (fun i A=>.inr ⟨h.JY e n1 A,A,rfl⟩) (fun γ md e'=>by simp_all) (fun i _ A=>A) (fun T I D=>by cases D;simp_all) h.pK (fun y=>?_) h.fold rfl (fun X D R=>R) (fun S=>?_) (aj _) h.od (fun p x I D=>by simp_all) (fun p I D=>by simp_all) (fun i n D=>by cases D) h.w2
  ·show C.dn.count y+qR y Y+_=C.dn.count y+qR y pc+_
   rw[Z]
  ·cases Y with
   |wr=>exact absurd rfl n3
   |_=>exact S.elim
 ·have Q:=xh (C:=C) (J:=J) (s':=.at Y .run) (d':=C.d) (oG:=C.dm) (m':=m') (c':=c') (v':=C.v) (ib:=C.wt) (ia:=C.ws) (kV:=C.γ) (j6:=C.dn) (jF:=C.tok) K e;have F:=Su (C:=C) (J:=J) (s':=.at Y .run) (d':=C.d) (oG:=C.dm) (m':=m') (c':=c') (v':=C.v) (ib:=C.wt) (ia:=C.ws) (kV:=C.γ) (j6:=C.dn) (jF:=C.tok) K e;change lr J (C.mv k Y m' c')+ir J C.v C.d+qA pc=lr J C+ir J C.v C.d+qA Y at Q;change o9 J (C.mv k Y m' c')+bw (oZ pc)+7 *C.c=o9 J C+bw (oZ Y)+7 *c' at F;rw[R,H]at F;have U:=(Hc N).1;have B:Lock.Ok C.m p:=by
   have:=h.lock.ok k K;simp_all
  rcases hr with hr|⟨hr,W⟩
  ·exact xF V U (by omega)
  ·rcases O.down B with L|⟨_,L⟩|⟨_,L,rfl,rfl,G⟩
   ·omega
   ·exact aka V (by omega) (by omega)
   ·have M:=Rs (C:=C) (J:=J) (s':=.at Y .run) (d':=C.d) (oG:=C.dm) (c':=C.c) (v':=C.v) (ib:=C.wt) (ia:=C.ws) (kV:=C.γ) (j6:=C.dn) (jF:=C.tok) K e;change qp J (C.mv k Y C.m C.c)+dw C.m (oZ pc)=qp J C+dw C.m (oZ Y)at M;rw[R,H]at M;exact akb (by omega) (by omega) (by omega)
theorem CI.mvL{x:Nat}{p p':PC}{m':Word}(h:CI J gL C)(H:J.n<=8)(hk:k<C.j)(e:C.ks k=.at (.lk p x) .run)(Y:Mv p C.m C.c p' m' c'):CI J gL (C.mv k (Env.behind p' x) m' c')/\mu J (C.mv k (Env.behind p' x) m' c')<mu J C:=by
 have I:=h.re k p x _ e;rcases ag6 Y I with rfl|K
 ·exact h.mv H hk e rfl rfl Y (fun y=>rfl) nofun nofun nofun (.inl (by show 14<14+iJ p;omega)) nofun nofun
 ·have R:Env.behind (E:=E) p' x=.lk p' x:=by
   cases p'<;>first|rfl|(cases K;done)
  rw[R];exact h.mv H hk e rfl rfl Y (fun y=>rfl) nofun nofun nofun (.inr ⟨by show 14+iJ p'=14+iJ p;omega,by show iJ p'=iJ p;omega⟩) (fun A x0 D=>by cases D;exact K) nofun
theorem CI.UQ{pc:E.kH}{p p':PC}{m':Word}(h:CI J gL C)(F:J.n<=8)(hk:k<C.j)(e:C.ks k=.at pc .run)(Y:(pc=.u0/\p=.cr)\/pc=.un p)(H:Mv p C.m C.c p' m' c'):CI J gL (C.mv k (Env.wY p') m' c')/\mu J (C.mv k (Env.wY p') m' c')<mu J C:=by
 have L:iJ p=0/\p≠.out\/p=.cr:=by
  rcases Y with⟨rfl,rfl⟩|rfl
  ·exact .inr rfl
  ·exact .inl (h.o8 k p _ e)
 have A:oZ pc=p:=by rcases Y with⟨rfl,rfl⟩|rfl<;>rfl
 have I:∀y,qR y pc=0:=by rcases Y with⟨rfl,rfl⟩|rfl<;>exact fun y=>rfl
 have n1:∀γ,pc≠.ur γ:=by rcases Y with⟨rfl,rfl⟩|rfl<;>nofun
 have K:9<=qA pc/\(pc=.un p->qA pc=9)/\(pc=.u0->qA pc=10):=by
  rcases Y with⟨rfl,rfl⟩|rfl
  ·exact⟨by show 9<=10;omega,nofun,fun _=>rfl⟩
  ·have:=h.o8 k p _ e;exact⟨by show 9<=9+iJ p;omega,fun _=>by show 9+iJ p=9;omega,nofun⟩
 rcases aeW H L with rfl|⟨D,R⟩
 ·exact h.mv F hk e A rfl H (fun y=>by rw[I];rfl) n1 nofun nofun (.inl (by have:=K.1;show 8<qA pc;omega)) nofun nofun
 ·have B:Env.wY (E:=E) p'=.un p':=by
   cases p'<;>first|rfl|exact absurd rfl R
  rw[B];refine h.mv F hk e A rfl H (fun y=>by rw[I];rfl) n1 nofun nofun ?_ nofun (fun M U=>by cases U;exact⟨D,R⟩);rcases Y with⟨rfl,rfl⟩|rfl
  ·exact .inl (by show 9+iJ p'<10;omega)
  ·exact .inr ⟨by rw[K.2.1 rfl];show 9+iJ p'=9;omega,by show iJ p'=iJ p;rw[D];exact(h.o8 k p _ e).1.symm⟩
def iB.take(C:iB E)(k x:Nat):=C.wk k (.at (.ur (E.upd C.γ x)) .run) C.d C.dm C.m C.c C.v C.wt C.ws (E.upd C.γ x) (C.dn++[x]) (some k)
theorem CI.free{x:Nat}{md:Md}(h:CI J gL C)(hk:k<C.j)(e:C.ks k=.at (.la x) md):C.tok=none:=by
 cases K:C.tok with
 |none=>rfl
 |some i=>
  obtain⟨H,e'⟩:=h.rR i K;have Y:=af (Nat.lt_of_not_le fun y=>by rw[h.no i y]at e';cases e') h.jn;have:=h.lock.one Y (af hk h.jn) (by rw[e'];rfl) (by rw[e];rfl);simp_all
theorem CI.take{x:Nat}(h:CI J gL C)(A:J.n<=8)(hk:k<C.j)(e:C.ks k=.at (.la x) .run):CI J gL (C.take k x)/\mu J (C.take k x)<mu J C:=by
 have K:k<J.n:=af hk h.jn;have U:=h.free hk e;refine⟨h.wk hk e nofun ?_ (fun i Y=>.inl ⟨(Option.some.inj Y).symm,_,rfl⟩) (fun γ md e'=>rfl) (fun i _ Y=>by rw[U]at Y;cases Y) (fun F B H=>by cases H;exact⟨nofun,fun y=>by rcases y with y|y<;>cases y⟩) h.pK (fun y=>?_) ?_ rfl (fun L H I=>I) (fun R=>R.elim) (aj _) h.od nofun nofun nofun h.w2,xF A h.c1 ?_⟩
 ·have:iK (gO.at (.ur (E.upd C.γ x)) .run:gO E)=(fun i=>iK (C.ks i)) k:=by
   show PC.cr=iK (C.ks k)
   rw[e];rfl
  rw[this,C5];exact h.lock
 ·show(C.dn++[x]).count y+0+_=C.dn.count y+(if x=y then 1 else 0)+_
  rw[aQ,aT,aU];simp only[beq_iff_eq];omega
 ·rw[List.foldl_append,<-h.fold];rfl
 ·have D:=xh (C:=C) (J:=J) (s':=.at (.ur (E.upd C.γ x)) .run) (d':=C.d) (oG:=C.dm) (m':=C.m) (c':=C.c) (v':=C.v) (ib:=C.wt) (ia:=C.ws) (kV:=E.upd C.γ x) (j6:=C.dn++[x]) (jF:=some k) K e;change lr J (C.take k x)+ir J C.v C.d+13=lr J C+ir J C.v C.d+12 at D;omega
def iB.give(C:iB E)(k:Nat):=C.wk k (.at .ud .run) C.d C.dm C.m C.c C.v C.wt C.ws C.γ C.dn none
theorem CI.give{γ:E.Γ}(h:CI J gL C)(F:J.n<=8)(hk:k<C.j)(e:C.ks k=.at (.ur γ) .run):CI J gL (C.give k)/\mu J (C.give k)<mu J C/\C.tok=some k/\C.γ=γ:=by
 have K:k<J.n:=af hk h.jn;have H:=h.xE k γ _ e;refine⟨h.wk hk e nofun ?_ nofun (fun γ md e'=>by cases e') (fun i A Y=>by rw[H]at Y;exact absurd (Option.some.inj Y).symm A) (fun L B D=>by cases D;exact⟨nofun,fun y=>by rcases y with y|y<;>cases y⟩) h.pK (fun y=>rfl) h.fold rfl (fun M D U=>U) (fun I=>I.elim) (aj _) h.od nofun nofun nofun h.w2,xF F h.c1 ?_,H,?_⟩
 ·have:iK (gO.at .ud .run:gO E)=(fun i=>iK (C.ks i)) k:=by
   show PC.cr=iK (C.ks k)
   rw[e];rfl
  rw[this,C5];exact h.lock
 ·have R:=xh (C:=C) (J:=J) (s':=.at .ud .run) (d':=C.d) (oG:=C.dm) (m':=C.m) (c':=C.c) (v':=C.v) (ib:=C.wt) (ia:=C.ws) (kV:=C.γ) (j6:=C.dn) (jF:=none) K e;change lr J (C.give k)+ir J C.v C.d+12=lr J C+ir J C.v C.d+11 at R;omega
 ·obtain⟨md,e'⟩:=h.rR k H;rw[e]at e';cases e';rfl
def iB.hand(J:iq)(C:iB E)(k x i:Nat):=C.wk k (.at (.ld x) .run) (J.sends C.L (i+1)) .run C.m C.c C.v C.wt C.ws C.γ C.dn C.tok
theorem uO:(i<J.gE.length/\J.sends L i=.send L i)\/(¬i<J.gE.length/\J.sends L i=.close L 0):=by
 unfold iq.sends;by_cases Y:i<J.gE.length
 ·simp_all
 ·simp_all
theorem nD.early{d:jo}{v wt ws e2 e0:Nat}(h:nD d v wt ws e2 e0)(hw:¬yY d):wt=0/\ws=0/\e2=0/\e0=0:=by
 rcases h with y|y
 ·omega
 ·simp_all
theorem CI.hand{x:Nat}{md:Md}(h:CI J gL C)(A:0<J.n)(N:J.n<=8)(hk:k<C.j)(e:C.ks k=.at .recv md)(hd:C.d=.send C.L i)(O:J.gE[i]?=some x):CI J gL (C.hand J k x i)/\mu J (C.hand J k x i)<mu J C:=by
 have R:k<J.n:=af hk h.jn;have H:=h.od;rw[hd]at H;have F:Lock.Inv (Lock.put (fun i=>iK (C.ks i)) k (iK (gO.at (.ld x) .run:gO E))) J.n C.m C.c:=
  Lock.tq h.lock R (p:=.out) (by show iK (C.ks k)=.out;rw[e];rfl) trivial rfl rfl rfl rfl rfl rfl rfl rfl
 refine⟨h.wk hk e nofun F (fun i I=>.inr ⟨h.JY e nofun I,I,rfl⟩) nofun (fun i _ I=>I) (fun Q P D=>by cases D;exact⟨nofun,fun y=>by rcases y with y|y<;>cases y⟩) ⟨nofun,nofun,nofun⟩ (fun y=>?_) h.fold ?_ (fun S D B=>?_) (fun M=>M.elim) ?_ ?_ nofun nofun nofun (fun v0 D=>by rcases uO (J:=J) (L:=C.L) (i:=i+1)with⟨_,Y⟩|⟨_,Y⟩<;>rw[Y]at D<;>cases D),xF N h.c1 ?_⟩
 ·have s1:sC J (J.sends C.L (i+1))=i+1:=by
   rcases uO (J:=J) (L:=C.L) (i:=i+1)with⟨K,Y⟩|⟨K,Y⟩<;>rw[Y]
   ·rfl
   ·show J.gE.length=i+1
    have:=H.2.2;omega
  rw[s1,hd];show C.dn.count y+(if x=y then 1 else 0)+(J.gE.take i).count y=C.dn.count y+0+(J.gE.take (i+1)).count y
  rw[List.take_add_one,O,aQ];show _=_+(_+List.count y [x])
  rw[aT,aU];simp only[beq_iff_eq];omega
 ·rw[hd];rcases uO (J:=J) (L:=C.L) (i:=i+1)with⟨K,Y⟩|⟨K,Y⟩<;>rw[Y]<;>rfl
 ·rw[hd]at B;obtain⟨a1,a2,a3,a4⟩:=B.early id;rcases uO (J:=J) (L:=C.L) (i:=i+1)with⟨K,Y⟩|⟨K,Y⟩<;>rw[Y]<;>exact .inl ⟨a1,a2,a3,a4,id,fun y=>y.elim⟩
 ·rw[hd];exact ao _
 ·rcases uO (J:=J) (L:=C.L) (i:=i+1)with⟨K,Y⟩|⟨K,Y⟩<;>rw[Y]
  ·exact⟨rfl,H.2.1,K⟩
  ·exact⟨rfl,H.2.1,A⟩
 ·have K:=xh (C:=C) (J:=J) (s':=.at (.ld x) .run) (d':=J.sends C.L (i+1)) (oG:=.run) (m':=C.m) (c':=C.c) (v':=C.v) (ib:=C.wt) (ia:=C.ws) (kV:=C.γ) (j6:=C.dn) (jF:=C.tok) R e;change lr J (C.hand J k x i)+ir J C.v C.d+7=lr J C+ir J C.v (J.sends C.L (i+1))+17 at K;have:=H.2.2;rw[hd]at K;rcases uO (J:=J) (L:=C.L) (i:=i+1)with⟨Y,U⟩|⟨Y,U⟩<;>rw[U]at K<;>simp only[ir]at K<;>omega
theorem CI.shut{md:Md}(h:CI J gL C)(K:J.n<=8)(hk:k<C.j)(e:C.ks k=.at .recv md)(Y:k<iR J C.d):CI J gL (C.w1 k (.at .wr .run))/\mu J (C.w1 k (.at .wr .run))<mu J C:=
 ⟨h.quiet hk e rfl (fun y=>rfl) nofun nofun ⟨nofun,fun y=>by simp_all⟩ (fun _=>Y) nofun nofun,Eh K h.c1 (af hk h.jn) e (by show 6<7;omega)⟩
theorem CI.slip{s s':gO E}(h:CI J gL C)(hk:k<C.j)(e:C.ks k=s)(V:iK s=.out)(A:iK s'=.out)(ne:s'≠.no)(K:∀pc md,s'≠.at pc md)(O:∀y,qS y s=0)(Z:∀γ md,s≠.at (.ur γ) md)
  (pL:v'+kS s'=C.v+kS s)(ph:∀R Y,nD C.d C.v C.wt C.ws (R+jh s) (Y+jj s)->nD C.d v' ib ia (R+jh s') (Y+jj s'))(N:Gone s)(F:∀i n,s'=.gT i n->i<=4)(M:v'<=C.v):CI J gL (C.wk k s' C.d C.dm C.m C.c v' ib ia C.γ C.dn C.tok):=by
 refine h.wk hk e ne ?_ (fun i H=>.inr ⟨?_,H,rfl⟩) (fun γ md e'=>absurd e' (K _ _)) (fun i _ H=>H) (fun pc md e'=>absurd e' (K _ _)) h.pK (fun y=>?_) h.fold (by omega) ph (fun _=>h.gone k (by simp_all)) (aj _) h.od (fun p x md e'=>absurd e' (K _ _)) (fun p md e'=>absurd e' (K _ _)) F (fun v0 Y=>⟨(h.w2 v0 Y).1,aH M (h.w2 v0 Y).2⟩)
 ·have:iK s'=(fun i=>iK (C.ks i)) k:=by simp_all
  rw[this,C5];exact h.lock
 ·rintro rfl;obtain⟨D,e'⟩:=h.rR i H;rw[e]at e';simp_all
 ·have:qS y s'=0:=by
   cases s' with
   |«at» pc md=>exact absurd rfl (K pc md)
   |_=>rfl
  simp_all
end
end Ph
namespace Ph
open Conc Ren
section
variable(E:Env)(RO:Nat->Prop)(b:Nat)
def Seen(B:Nat)(op:MemOp):=op.act.low B/\∀a,op.act≠.mark (.release a)
def gi(b:Nat)
 |0=>0
 |k+1=>b+k
open Classical in
def mK (XX:Nat->Nat->Prop) (a:Nat):uk:=if RO a then .ro else if a=E.Mp then .pr else if h:∃i,XX i a then .own (gi b (aL h))else .no
open Classical in
def nc (XX:Nat->Nat->Prop):Loc->uk
 |.cell a=>if E.U a.block a.off then .at else mK E RO b XX a.block
 |.obj a=>mK E RO b XX a
 |_=>.no
end
section
variable{E:Env}{RO:Nat->Prop}{b:Nat}{XX vx:Nat->Nat->Prop}
theorem aeX(h:RO a):mK E RO b XX a=.ro:=by unfold mK;simp_all
theorem IQ(h:¬RO E.Mp):mK E RO b XX E.Mp=.pr:=by unfold mK;simp_all
theorem Qu(h:¬RO a)(K:a≠E.Mp)(Y:XX i a)(H:∀i',XX i' a->i'=i):mK E RO b XX a=.own (gi b i):=by
 unfold mK;rw[if_neg h,if_neg K,dif_pos ⟨i,Y⟩,H _ (Classical.choose_spec (⟨i,Y⟩:∃i,XX i a))]
theorem HI(h:∀i,vx i a↔XX i a):mK E RO b vx a=mK E RO b XX a:=by
 have:=funext fun i=>propext (h i);have key:∀p p':Nat->Prop,p'=p->(open Classical in(if RO a then uk.ro else if a=E.Mp then .pr else if h:∃i,p' i then .own (gi b (aL h))else .no))=(open Classical in(if RO a then uk.ro else if a=E.Mp then .pr else if h:∃i,p i then .own (gi b (aL h))else .no)):=by simp
 exact key _ _ this
theorem OJ(h:∀i a,a<B->(vx i a↔XX i a)){l:Loc}(Y:l.low B):nc E RO b vx l=nc E RO b XX l:=by
 cases l with
 |cell a=>simp[nc];rw[HI fun i=>h i _ Y]
 |obj a=>exact HI fun i=>h i _ Y
 |_=>rfl
theorem Pr:∀l,l.isMemory=false->nc E RO b XX l=.no
 |.cell _,h=>by cases h
 |.obj _,h=>by cases h
 |.output,_=>rfl
 |.goroutines,_=>rfl
 |.mark _,_=>rfl
def rS(E:Env):Loc->Prop
 |.cell a=>E.U a.block a.off
 |_=>False
theorem Rv(a:Nat):mK E RO b XX a≠.at:=by
 unfold mK;split
 ·nofun
 ·split
  ·nofun
  ·split<;>nofun
theorem Qv{l:Loc}(h:nc E RO b XX l=.at):rS E l:=by
 cases l with
 |cell a=>
  simp only[nc]at h;split at h
  ·assumption
  ·exact absurd h (Rv _)
 |obj a=>exact absurd h (Rv _)
 |_=>cases h
theorem XY{op:MemOp}{x:Touch}(h:op.act.low B)(Y:op.act.touch?=some x):x.loc.low B:=by
 obtain⟨g,fn,pos,act⟩:=op;cases act with
 |access e=>simp[ak,ax]at Y;subst Y;exact h
 |mark m=>
  cases m<;>simp[ak,ax]at Y<;>first|(subst Y;exact h)|cases Y
 |_=>simp[ak]at Y
variable{j:Nat}{i_:Loc->Prop}{t:Trace}{tok:Option Nat}{rel:Nat->Option Nat}{w w1:World}{S X S1 X1:Nat->Prop}{es:Array Event}{i:Nat}{fn:FuncId}{pos:String}
theorem qa{g:Nat}{op:MemOp}(h:op∈ae g fn pos es):∃e∈es,op={g,fn,pos,act:=.ofEvent e}:=by
 rw[ofEvents_eq]at h;obtain⟨e,Y,rfl⟩:=Array.mem_map.1 h;exact⟨e,Y,rfl⟩
theorem acU{mu:Addr}(hd:kh E.U S X w w1 es S1 X1)(g:Nat)(cls:Loc->uk)(F:∀a:Nat,S a->(cls (.obj a)=.ro/\¬X a)\/(cls (.obj a)=.pr/\tok=some g)\/cls (.obj a)=.own g)(M:∀a:Addr,¬E.U a.block a.off->cls (.cell a)=cls (.obj a.block))(N:∀a,w.heap.size<=a->a<w1.heap.size->cls (.obj a)=.own g):
  ∀op∈ae g fn pos es,OkOp mu wg cls tok g op:=by
 intro op gC;obtain⟨e,A,rfl⟩:=qa gC;obtain⟨loc,wr,C⟩:=e;have fin:∀{a:Nat} {l:Loc},cls l=cls (.obj a)->((S a/\(wr=true->X a))\/(w.heap.size<=a/\a<w1.heap.size))->(cls l=.ro/\wr=false)\/(cls l=.pr/\tok=some g)\/cls l=.own g:=by
  intro a l B h;rw[B];rcases h with⟨D,I⟩|⟨D,I⟩
  ·rcases F a D with⟨y,z⟩|y|y
   ·simp_all
   ·exact .inr (.inl y)
   ·exact .inr (.inr y)
  ·exact .inr (.inr (N a D I))
 rcases hd.ev _ A with⟨a,Y,H,h⟩|⟨a,Y,H,h⟩|⟨m,Y,h⟩|Y
 ·simp only at Y H;subst Y H;refine⟨rfl,nofun,nofun,fun x K=>?_⟩;simp only[ah,ak,ax]at K;subst K;rcases fin (M a (hd.KW _ A a rfl)) h with y|y|y
  ·simp_all
  ·exact .inr (.inr (.inr (.inr (.inl y))))
  ·simp_all
 ·simp only at Y H;subst Y H;have R:ah ⟨.obj a,wr,false⟩=.access ⟨.obj a,wr,false⟩:=by cases wr<;>rfl
  refine⟨rfl,by rw[R];nofun,by rw[R];nofun,fun x K=>?_⟩;simp only[R,ak,ax]at K;subst K;rcases fin rfl h with y|y|y
  ·exact .inr (.inr (.inr (.inl y)))
  ·exact .inr (.inr (.inr (.inr (.inl y))))
  ·simp_all
 ·simp only at Y;subst Y;refine⟨rfl,?_,?_,fun x K=>?_⟩
  ·rcases h with rfl|⟨f,rfl⟩<;>nofun
  ·rcases h with rfl|⟨f,rfl⟩<;>nofun
  ·rcases h with rfl|⟨f,rfl⟩<;>simp[ah,ak]at K
 ·simp only at Y;subst Y;refine⟨rfl,nofun,nofun,fun x K=>?_⟩;simp only[ah,ak,ax]at K;subst K;exact .inl rfl
theorem acV(hd:kh E.U S X w w1 es S1 X1)(g:Nat):∀op∈ae g fn pos es,∀a,op.act≠.mark (.release a):=by
 intro op gC a0;obtain⟨e,H,rfl⟩:=qa gC;obtain⟨loc,wr,R⟩:=e;rcases hd.ev _ H with⟨a,Y,K,h⟩|⟨a,Y,K,h⟩|⟨m,Y,h⟩|Y
 ·subst Y K;nofun
 ·subst Y K;have D:ah ⟨.obj a,wr,false⟩=.access ⟨.obj a,wr,false⟩:=by cases wr<;>rfl
  simp_all
 ·subst Y;rcases h with rfl|⟨f,rfl⟩<;>nofun
 ·subst Y;nofun
theorem aeY(hd:kh E.U S X w w1 es S1 X1)(H:∀a,S a->a<w.heap.size)(g:Nat):∀op∈ae g fn pos es,op.act.low w1.heap.size:=by
 intro op gC;obtain⟨e,R,rfl⟩:=qa gC;obtain⟨loc,wr,A⟩:=e;have I:=hd.grow;rcases hd.ev _ R with⟨a,Y,K,h⟩|⟨a,Y,K,h⟩|⟨m,Y,h⟩|Y
 ·subst Y K;show a.block<_
  rcases h with⟨h,_⟩|h
  ·have:=H _ h;omega
  ·omega
 ·subst Y K;have D:ah ⟨.obj a,wr,false⟩=.access ⟨.obj a,wr,false⟩:=by cases wr<;>rfl
  rw[D];show a<_
  rcases h with⟨h,_⟩|h
  ·have:=H _ h;omega
  ·omega
 ·subst Y;rcases h with rfl|⟨f,rfl⟩<;>trivial
 ·subst Y;trivial
theorem Qw(hd:kh E.U S X w w1 es S1 X1)(d:Nat):deafBehind d es=d:=by
 refine deafBehind_still (fun e H=>?_) d;obtain⟨loc,wr,D⟩:=e;rcases hd.ev _ H with⟨a,Y,K,h⟩|⟨a,Y,K,h⟩|⟨m,Y,h⟩|Y<;>simp only at Y<;>subst Y
 ·simp
 ·simp
 ·rcases h with rfl|⟨f,rfl⟩<;>exact⟨nofun,nofun⟩
 ·simp
theorem Qx(hd:kh E.U S X w w1 es S1 X1)(Y:∀a,S a->a<w.heap.size)(g:Nat):∀op∈ae g fn pos es,Seen w1.heap.size op:=fun op gC=>⟨aeY hd Y g op gC,acV hd g op gC⟩
theorem Il{mu:Addr}(h:Env.EvA bl es)(R:bl=E.Fd\/bl=E.Wg)(g:Nat):∀op∈ae g fn pos es,OkOp mu wg (nc E RO b XX) tok g op:=by
 intro op gC;obtain⟨e,H,rfl⟩:=qa gC;have cell:∀(a:Addr) (wr:Bool),a.block=bl->a.off<2->OkOp mu wg (nc E RO b XX) tok g {g,fn,pos,act:=.ofEvent ⟨.cell a,wr,true⟩}:=by
  intro a wr D K;refine⟨rfl,nofun,nofun,fun x Y=>?_⟩;simp[ah,ak,ax]at Y;subst Y;refine .inr (.inl ⟨?_,rfl⟩);have A:E.U a.block _:=⟨by omega,K⟩;simp[nc];simp_all
 rcases h with h|⟨o,I,rfl⟩
 ·obtain⟨a,wr,rfl,D,K,_⟩:=h e H;exact cell a wr D K
 ·simp[semEvents,aA,az,aB,or_false]at H;rcases H with rfl|rfl|rfl|rfl
  ·exact⟨rfl,nofun,nofun,fun x Y=>by simp[ah,ak]at Y⟩
  ·simp_all
  ·simp_all
  ·exact⟨rfl,nofun,nofun,fun x Y=>by simp[ah,ak]at Y⟩
theorem aeZ(h:Env.EvA bl es)(K:bl<B)(g:Nat):∀op∈ae g fn pos es,op.act.low B:=by
 intro op gC;obtain⟨e,Y,rfl⟩:=qa gC;rcases h with h|⟨o,R,rfl⟩
 ·obtain⟨a,wr,rfl,H,D,_⟩:=h e Y;show a.block<B
  omega
 ·simp[semEvents,aA,az,aB,or_false]at Y;rcases Y with rfl|rfl|rfl|rfl
  ·trivial
  ·exact K
  ·exact K
  ·trivial
theorem Im(h:Env.EvA bl es)(K:bl<B)(g:Nat):∀op∈ae g fn pos es,Seen B op:=by
 intro op gC;refine⟨aeZ h K g op gC,fun a0=>?_⟩;obtain⟨e,Y,rfl⟩:=qa gC;rcases h with h|⟨o,R,rfl⟩
 ·obtain⟨a,wr,rfl,H,D,_⟩:=h e Y;nofun
 ·simp[semEvents,aA,az,aB,or_false]at Y;rcases Y with rfl|rfl|rfl|rfl<;>nofun
theorem C6(h:Env.EvA bl es)(d:Nat):deafBehind d es=d:=by
 rcases h with h|⟨o,K,rfl⟩
 ·refine deafBehind_still (fun e Y=>?_) d;obtain⟨a,wr,rfl,_⟩:=h e Y;simp_all
 ·simp[semEvents,deafBehind]
theorem XA(h:Env.EvA bl es){g:Nat}(hd:0<Deaf t g):∀i x,t.size<=i->touchAt (t++ae g fn pos es) i=some x->x.loc.isMemory=true->x.kind=.atomic/\¬(t++ae g fn pos es).counts i/\∃a:Addr,x.loc=.cell a/\a.block=bl/\a.off<2:=by
 intro i x Q O X;obtain⟨op,R,H⟩:=touch_of O;have F:=by
  rw[Array.getElem?_append]at R;simpa[Nat.not_lt.2 Q]using R
 have S:=F;rw[ofEvents_eq,aP]at F;obtain⟨e,K,rfl⟩:=aX.1 F;have D:i-t.size<=es.size:=by
  rcases Nat.lt_or_ge (i-t.size) es.size with h'|h'
  ·omega
  ·simp_all
 have B:∀n,n<=es.size->(∃e,es[n]?=some e/\∃a wr,e=⟨.cell a,wr,true⟩)->0<deafBehind (Deaf t g) (es.extract 0 n):=by
  intro n Z Y;rcases h with h|⟨o,R,rfl⟩
  ·rw[deafBehind_still (fun e K=>?_)]
   ·exact hd
   ·obtain⟨a,wr,rfl,_⟩:=h e (by
     obtain⟨k,hk,rfl⟩:=Array.mem_iff_getElem.1 K;simp only[Array.getElem_extract];exact Array.getElem_mem _)
    exact⟨nofun,nofun⟩
  ·have E:(semEvents ⟨bl,o,none⟩).size=4:=rfl;obtain⟨e,K,a,wr,rfl⟩:=Y;have:n=0\/n=1\/n=2\/n=3\/n=4:=by omega
   rcases this with rfl|rfl|rfl|rfl|rfl
   ·simp[semEvents]at K
   ·simp[semEvents,deafBehind]
   ·simp[semEvents,deafBehind]
   ·simp[semEvents]at K
   ·simp[semEvents]at K
 have Y:∃a wr,e=⟨.cell a,wr,true⟩/\a.block=bl/\a.off<2:=by
  rcases h with h|⟨o,J,rfl⟩
  ·obtain⟨a,wr,rfl,I,A,_⟩:=h e (aK K);exact⟨a,wr,rfl,I,A⟩
  ·have:=aK K;simp only[semEvents,aA,az,aB,or_false]at this;rcases this with rfl|rfl|rfl|rfl
   ·simp[ah,ak]at H
   ·exact⟨_,_,rfl,rfl,J⟩
   ·simp_all
   ·simp[ah,ak]at H
 obtain⟨a,wr,rfl,I,A⟩:=Y;have L:=by
  simp only[ah,ak,ax]at H;exact H.symm
 subst L;refine⟨rfl,?_,a,rfl,I,A⟩;rintro⟨y,T,_,hk⟩;have:=Option.some.inj (T.symm.trans O);subst this;rcases hk with hk|⟨M,N,U⟩
 ·exact hk rfl
 ·have C:M=g:=by simp[Trace.g?,R]at N;exact N.symm
  subst C;have P:=Go.Conc.deaf_inside t M fn pos es (i-t.size) D;rw[show t.size+(i-t.size)=i by omega,U]at P;have V:=B _ D ⟨_,K,a,wr,rfl⟩;omega
end
end Ph
namespace Ph
open Conc Ren
open Lock (Word PC Mv bn iJ bw dw)
open ConcN (sumTo upd sumTo_upd upd_ne upd_same)
structure gI where
 P:Program
 E:Env
 J:iq
 b:Nat
 A:Nat->(Nat->Prop)->(Nat->Prop)->Goroutine->World->Prop
 kt:Nat->Goroutine->World->Prop
 Fin:(Nat->Prop)->(Nat->Prop)->Goroutine->World->Prop
 RO:Nat->Prop
 i_:Loc->Prop
 ok:Nat->Prop
 gL:E.Γ
 w0:World
structure gI.Laws(Q:gI):Prop where
 n0:0<Q.J.n
 n8:Q.J.n<=8
 b0:0<Q.b
 Lm:∀x∈Q.J.gE,Q.ok x
 fw:Q.E.Fd≠Q.E.Wg
 mf:Q.E.Mp≠Q.E.Fd
 mw:Q.E.Mp≠Q.E.Wg
 rf:Q.RO Q.E.Fd
 rw:Q.RO Q.E.Wg
 rm:¬Q.RO Q.E.Mp
 Ln:∀l,rS Q.E l->Q.i_ l
 JZ:∀{c:Nat} {S X:Nat->Prop} {g:Goroutine} {w:World},Q.A c S X g w->g.status=.running/\g.offers=none
 J0:∀{c:Nat} {S X:Nat->Prop} {g:Goroutine} {w:World},Q.A c S X g w->∀w2,stepG Q.P false g w2=.comm g #[rcase c Q.E.zc] true (.recv true) w2 #[]
 KC:∀{c:Nat} {S X:Nat->Prop} {g:Goroutine} {w w2:World} {x:Nat},Q.A c S X g w->gK Q.E.U S w w2->Q.ok x->∀k,Q.E.Tree Q.P false (Q.E.je Q.P (Q.A c) k (.ld x)) S X (Go.Conc.served g (recvd true (.int .i64 (x:Int)) true)) w2
 Tc:∀{c:Nat} {S X:Nat->Prop} {g:Goroutine} {w w2:World},Q.A c S X g w->gK Q.E.U S w w2->∀k,Q.E.Tree Q.P false (Q.E.je Q.P (Q.A c) k .wr) S X (Go.Conc.served g (recvd true Q.E.zc false)) w2
 E6:∀{c:Nat} {g:Goroutine} {w:World},Q.kt c g w->Q.E.Tree Q.P false (Q.A c) Q.RO (fun _=>False) g w
def J_(c:Nat)(z:Value):Md->Goroutine->Goroutine
 |.run,g=>g
 |.blk,g=>{g with status:=.blocked}
 |.hD,g=>parked g #[rcase c z] (.recv true)
 |.jS,g=>{parked g #[rcase c z] (.recv true)with status:=.running}
namespace gI
variable(Q:gI)
def ch(C:iB Q.E)(k:Nat):=C.L.getD k 0
abbrev DS(fu:Nat)(d:jo):=Q.E.lA Q.P Q.J Q.kt Q.Fin fu d
abbrev WS(c fu:Nat)(pc:Q.E.kH):=Q.E.je Q.P (Q.A c) fu pc
def uq(c:Nat)(gs:Array Goroutine)(t:Trace)(k:Nat)(nd:Nd)(fu:Nat):gO Q.E->Prop
 |.no=>False
 |.at pc md=>gs[Q.b+k]?=some (J_ c Q.E.zc md nd.g)/\Tz Q.P false Q.E.U (Q.WS c fu pc) nd.S nd.X nd.g nd.w/\(md≠.run->Q.WS c fu pc nd.S nd.X nd.g nd.w)
 |.gT i n=>∃g,gs[Q.b+k]?=some g/\Env.oA Q.P (Q.E.ua Q.P i) n g
 |.qt q=>∃g,gs[Q.b+k]?=some g/\QuitsD Q.P q (Deaf t (Q.b+k)) g
def xG(gs:Array Goroutine)(nd:Nd)(fu:Nat)(L:List Nat)(d:jo):Md->Prop
 |.run=>gs[0]?=some nd.g/\Tz Q.P true Q.E.U (Q.DS fu d) nd.S nd.X nd.g nd.w
 |.blk=>gs[0]?=some {nd.g with status:=.blocked}/\nd.g.offers=none/\nd.g.status=.running/\Q.DS fu d nd.S nd.X nd.g nd.w
 |.hD=>Q.DS fu d nd.S nd.X nd.g nd.w/\∃i c x z Y,d=.send L i/\fu=Y+1/\L[i%Q.J.n]?=some c/\Q.J.gE[i]?=some x/\gs[0]?=some (parked nd.g #[scase c (.int .i64 (x:Int)) z] .send)/\
   ∀w2,gK Q.E.U nd.S nd.w w2->Q.E.Tree Q.P true (Q.DS Y (Q.J.sends L (i+1))) nd.S nd.X (Go.Conc.served nd.g undef) w2
 |.jS=>False
def oB(nd:Nat->Nd)(j:Nat)(L:List Nat)(i a:Nat):=(i<=j/\(nd i).X a)\/(i=0/\a∈L)
structure Sets(nd:Nat->Nd)(j:Nat)(L:List Nat)(tok:Option Nat)(B:Nat):Prop where
 xH:∀i i',i<=j->i'<=j->i≠i'->∀a,(nd i).X a->¬(nd i').S a
 low:∀i,i<=j->∀a,(nd i).S a->a<B
 sub:∀i,i<=j->∀a,(nd i).S a->Q.RO a\/(nd i).X a
 mS:∀i,i<=j->∀a,Q.RO a->¬(nd i).X a
 xs:∀i,i<=j->∀a,(nd i).X a->(nd i).S a
 mp:∀i,i<=j->(nd i).S Q.E.Mp->∃k,i=k+1/\tok=some k
 n_:∀a,Q.RO a->a<B
 uu:Q.E.Mp<B
 oe:∀c∈L,c<B/\¬Q.RO c/\c≠Q.E.Mp/\∀i,i<=j->¬(nd i).S c
structure Wd(C:iB Q.E)(w:World):Prop where
 mu:Q.E.MuAt w C.m C.c
 wg:Q.E.WgAt w C.v C.wt C.ws
 map:C.tok=none->Q.E.mr C.γ (w.heap[Q.E.Mp]?)
 shut:∀k,k<C.j->k<iR Q.J C.d->∃s,w.heap[Q.ch C k]?=some (.chan 0 #[] true s s false)
 opn:∀k,k<C.j->¬k<iR Q.J C.d->∃s,ot w (Q.ch C k) s
 tape:w.tape=Q.w0.tape
 out:w.output=Q.w0.output
def xI{E:Env}:gO E->Prop
 |.gT _ _=>True
 |.qt _=>True
 |_=>False
abbrev cls (nd:Nat->Nd) (j:Nat) (L:List Nat):=nc Q.E Q.RO Q.b (oB nd j L)
structure MI(C:iB Q.E)(nd:Nat->Nd)(fu:Nat->Nat)(gs:Array Goroutine)(w:World)(t:Trace)(q:Nat->Nat)(rel:Nat->Option Nat):Prop where
 size:gs.size=Q.b+C.j
 g0:Q.xG gs (nd 0) (fu 0) C.L C.d C.dm
 wk:∀k,k<C.j->Q.uq (Q.ch C k) gs t k (nd (k+1)) (fu (k+1)) (C.ks k)
 old:∀i g,0<i->i<Q.b->gs[i]?=some g->QuitsD Q.P (q i) (Deaf t i) g
 fuel:∀i,i<=C.j->mu Q.J C<=fu i
 oh:∀i,i<=C.j->gK Q.E.U (nd i).S (nd i).w w
 sets:Q.Sets nd C.j C.L C.tok w.heap.size
 wd:Q.Wd C w
 tr:PT Q.b C.j Q.E.mu Q.E.st Q.i_ (Q.cls nd C.j C.L) t (C.tok.map (Q.b+ ·)) rel
 deaf0:Deaf t 0=px C.d
 nf:∀k,k<C.j->(∀q,C.ks k≠.qt q)->Deaf t (Q.b+k)=A6 (C.ks k)
 above:∀i,Q.b+C.j<=i->Deaf t i=0
 pC:∀k,k<C.j->((∃p,rel (Q.b+k)=some p)↔xI (C.ks k))
 vm:∀k,C.j<=k->rel (Q.b+k)=none
 seen:∀op∈t,Seen w.heap.size op
end gI
section
variable{Q:gI}{nd:Nat->Nd}{j:Nat}{L:List Nat}{tok:Option Nat}{B:Nat}{C:iB Q.E}{w w1:World}{gs I:Array Goroutine}{t t':Trace}
theorem gI.Sets.uniq(h:Q.Sets nd j L tok B)(H:gI.oB nd j L i a)(R:gI.oB nd j L i' a):i=i':=by
 rcases H with⟨a1,a2⟩|⟨rfl,a2⟩<;>rcases R with⟨Y,K⟩|⟨rfl,K⟩
 ·by_cases e:i=i'
  ·exact e
  ·exact absurd (h.xs i' Y a K) (h.xH i i' a1 Y e a a2)
 ·exact absurd (h.xs i a1 a a2) ((h.oe a K).2.2.2 i a1)
 ·exact absurd (h.xs i' Y a K) ((h.oe a a2).2.2.2 i' Y)
 ·rfl
theorem gI.Sets.own(h:Q.Sets nd j L tok B)(Y:i<=j)(K:(nd i).X a)(H:a≠Q.E.Mp):mK Q.E Q.RO Q.b (gI.oB nd j L) a=.own (gi Q.b i):=
 Qu (fun y=>h.mS i Y a y K) H (.inl ⟨Y,K⟩) fun i' h'=>h.uniq h' (.inl ⟨Y,K⟩)
theorem gI.Sets.held(h:Q.Sets nd j L tok B)(K:¬Q.RO Q.E.Mp)(Y:i<=j)(R:(nd i).S a):(Q.cls nd j L (.obj a)=.ro/\¬(nd i).X a)\/(Q.cls nd j L (.obj a)=.pr/\tok.map (Q.b+ ·)=some (gi Q.b i))\/Q.cls nd j L (.obj a)=.own (gi Q.b i):=by
 rcases h.sub i Y a R with y|y
 ·exact .inl ⟨aeX y,h.mS i Y a y⟩
 ·by_cases H:a=Q.E.Mp
  ·subst H;obtain⟨k,rfl,rfl⟩:=h.mp i Y R;exact .inr (.inl ⟨IQ K,rfl⟩)
  ·exact .inr (.inr (h.own Y y H))
theorem acW{a:Addr}(h:¬Q.E.U a.block a.off):Q.cls nd j L (.cell a)=Q.cls nd j L (.obj a.block):=by
 simp[nc];simp_all
theorem gI.Sets.did(h:Q.Sets nd j L tok w.heap.size)(N:i<=j){H:Nd}(hd:kh Q.E.U (nd i).S (nd i).X w w1 es H.S H.X):Q.Sets (upd nd i H) j L tok w1.heap.size:=by
 have us:upd nd i H i=H:=upd_same _ _ _;have un:∀k,k≠i->upd nd i H k=nd k:=fun k hk=>upd_ne _ _ hk;have R:=hd.grow;have S':∀k a,k<=j->(upd nd i H k).S a->(nd k).S a\/(k=i/\w.heap.size<=a/\a<w1.heap.size):=by
  intro k a hk Y;by_cases e:k=i
  ·subst e;rw[us]at Y;exact((hd.held a).1 Y).imp id fun y=>⟨rfl,y⟩
  ·simp_all
 have X':∀k a,k<=j->(upd nd i H k).X a->(nd k).X a\/(k=i/\w.heap.size<=a/\a<w1.heap.size):=by
  intro k a hk Y;by_cases e:k=i
  ·subst e;rw[us]at Y;exact((hd.may a).1 Y).imp id fun y=>⟨rfl,y⟩
  ·simp_all
 refine⟨fun k k' hk D I a K Y=>?_,fun k hk a Y=>?_,fun k hk a Y=>?_,fun k hk a hr K=>?_,fun k hk a K=>?_,fun k hk Y=>?_,fun a F=>af (h.n_ a F) R,af h.uu R,fun c J=>?_⟩
 ·rcases X' k a hk K with y|⟨rfl,y⟩<;>rcases S' k' a D Y with z|⟨rfl,z⟩
  ·exact h.xH k k' hk D I a y z
  ·have:=h.low k hk a (h.xs k hk a y);omega
  ·have:=h.low k' D a z;omega
  ·omega
 ·rcases S' k a hk Y with y|⟨_,y⟩
  ·exact af (h.low k hk a y) R
  ·omega
 ·by_cases e:k=i
  ·subst e;rw[us]at Y⊢;rcases(hd.held a).1 Y with y|y
   ·exact(h.sub k hk a y).imp id fun z=>(hd.may a).2 (.inl z)
   ·exact .inr ((hd.may a).2 (.inr y))
  ·rw[un k e]at Y⊢;exact h.sub k hk a Y
 ·rcases X' k a hk K with y|⟨_,y⟩
  ·exact h.mS k hk a hr y
  ·have:=h.n_ a hr;omega
 ·by_cases e:k=i
  ·subst e;rw[us]at K⊢;exact(hd.held a).2 (((hd.may a).1 K).imp (h.xs k hk a) id)
  ·rw[un k e]at K⊢;exact h.xs k hk a K
 ·rcases S' k _ hk Y with y|⟨_,y⟩
  ·exact h.mp k hk y
  ·have:=h.uu;omega
 ·obtain⟨A,B,C,M⟩:=h.oe c J;refine⟨af A R,B,C,fun k hk Y=>?_⟩;rcases S' k c hk Y with y|⟨_,y⟩
  ·simp_all
  ·omega
theorem gI.ag7(h:Q.Sets nd j L tok w.heap.size)(H:i<=j){es:Array _}{Y:Nd}(hd:kh Q.E.U (nd i).S (nd i).X w w1 es Y.S Y.X):∀k a,a<w.heap.size->(gI.oB (upd nd i Y) j L k a↔gI.oB nd j L k a):=by
 intro k a K;unfold gI.oB;by_cases e:k=i
 ·subst e;rw[upd_same];have:Y.X a↔(nd k).X a:=⟨fun y=>((hd.may a).1 y).resolve_right fun z=>by omega,fun y=>(hd.may a).2 (.inl y)⟩;rw[this]
 ·rw[upd_ne _ _ e]
theorem gI.Sets.same(h:Q.Sets nd j L tok B){n':Nd}(R:n'.S=(nd i).S)(hX:n'.X=(nd i).X):Q.Sets (upd nd i n') j L tok B:=by
 have Y:∀k,(upd nd i n' k).S=(nd k).S:=fun k=>by
  by_cases e:k=i
  ·subst e;rw[upd_same];exact R
  ·rw[upd_ne _ _ e]
 have K:∀k,(upd nd i n' k).X=(nd k).X:=fun k=>by
  by_cases e:k=i
  ·subst e;rw[upd_same];exact hX
  ·rw[upd_ne _ _ e]
 refine⟨fun k k' hk H D a=>?_,fun k hk a=>?_,fun k hk a=>?_,fun k hk a=>?_,fun k hk a=>?_,fun k hk=>?_,h.n_,h.uu,fun c I=>?_⟩
 ·rw[K,Y];exact h.xH k k' hk H D a
 ·rw[Y];exact h.low k hk a
 ·rw[K,Y];exact h.sub k hk a
 ·rw[K];exact h.mS k hk a
 ·rw[K,Y];exact h.xs k hk a
 ·rw[Y];exact h.mp k hk
 ·obtain⟨A,U,C,F⟩:=h.oe c I;simp_all
theorem gI.Dp{n':Nd}(hX:n'.X=(nd i).X):gI.oB (upd nd i n') j L=gI.oB nd j L:=by
 funext k a;unfold gI.oB;by_cases e:k=i
 ·subst e;rw[upd_same,hX]
 ·rw[upd_ne _ _ e]
theorem Qy(h:Q.Sets nd j L tok w.heap.size)(R:i<=j)(Y:i'<=j)(K:i≠i'){es:Array _}(hd:kh Q.E.U (nd i).S (nd i).X w w1 es S1 X1):gK Q.E.U (nd i').S w w1:=
 ⟨fun a H=>.inl (hd.kept a (h.low i' Y a H) fun D=>h.xH i i' R Y K a D H),hd.grow,hd.env⟩
theorem Rw{E:Env}{w1:World}{m m':Word}{c:Nat}(S:Nat->Prop)(h:E.MuAt w m c)(h':E.MuAt w1 m' c')(H:Env.Eff E.Fd w w1):gK E.U S w w1:=by
 refine⟨fun a _=>?_,au H.size.symm,H.env⟩;by_cases e:a=E.Fd
 ·subst e;refine .inr ⟨_,_,_,_,⟨0,.inl rfl,by omega⟩,h,h',rfl,fun i Y=>?_,fun i x Y K=>?_⟩
  ·match i with
   |0=>exact absurd ⟨.inl rfl,by omega⟩ Y
   |1=>exact absurd ⟨.inl rfl,by omega⟩ Y
   |i+2=>simp
  ·match i with
   |0=>simp at K;subst K;rfl
   |1=>simp at K;subst K;rfl
   |i+2=>exact absurd Y.2 (by omega)
 ·exact .inl (H.heap a e)
theorem IU{E:Env}{w1:World}{v wt ws:Nat}(S:Nat->Prop)(h:E.WgAt w v wt ws)(h':E.WgAt w1 v' ib ia)(H:Env.Eff E.Wg w w1):gK E.U S w w1:=by
 refine⟨fun a _=>?_,au H.size.symm,H.env⟩;by_cases e:a=E.Wg
 ·subst e;unfold Env.WgAt at h h';generalize((v *4294967296+wt))=z at h;refine .inr ⟨_,_,_,_,⟨0,.inr rfl,by omega⟩,h,h',rfl,fun i Y=>?_,fun i x Y K=>?_⟩
  ·match i with
   |0=>exact absurd ⟨.inr rfl,by omega⟩ Y
   |1=>exact absurd ⟨.inr rfl,by omega⟩ Y
   |i+2=>simp
  ·match i with
   |0=>simp at K;subst K;rfl
   |1=>simp at K;subst K;rfl
   |i+2=>exact absurd Y.2 (by omega)
 ·exact .inl (H.heap a e)
theorem vW{E:Env}{c:Nat}(Y:¬S c):gK E.U S w (w.setChan c 0 #[] cl s s false):=by
 refine⟨fun a K=>.inl ?_,by simp[ay],.refl _⟩;have:c≠a:=fun e=>Y (e▸K);simp[ay];simp_all
theorem gI.Wd.keep(h:Q.Wd C w)(hF:w1.heap[Q.E.Fd]?=w.heap[Q.E.Fd]?)(F:w1.heap[Q.E.Wg]?=w.heap[Q.E.Wg]?)(K:C.tok=none->w1.heap[Q.E.Mp]?=w.heap[Q.E.Mp]?)(H:∀k,k<C.j->w1.heap[Q.ch C k]?=w.heap[Q.ch C k]?)(A:w1.tape=w.tape)(R:w1.output=w.output):Q.Wd C w1:=by
 refine⟨?_,?_,fun e=>?_,fun k hk Y=>?_,fun k hk Y=>?_,A.trans h.tape,R.trans h.out⟩
 ·have:=h.mu;unfold Env.MuAt at this⊢;simp_all
 ·have:=h.wg;unfold Env.WgAt at this⊢;simp_all
 ·rw[K e];exact h.map e
 ·rw[H k hk];exact h.shut k hk Y
 ·obtain⟨s,D⟩:=h.opn k hk Y;exact⟨s,by unfold ot at D⊢;simp_all⟩
theorem qM(Y:C.L.length=C.j)(hk:k<C.j):Q.ch C k∈C.L:=by
 unfold gI.ch;simp_all
theorem gI.Wd.did(h:Q.Wd C w)(Y:Q.Sets nd C.j C.L C.tok w.heap.size)(H:Q.Laws)(A:C.L.length=C.j)(K:i<=C.j){es:Array _}(hd:kh Q.E.U (nd i).S (nd i).X w w1 es S1 X1):Q.Wd C w1:=by
 refine h.keep (hd.kept _ (Y.n_ _ H.rf) (Y.mS i K _ H.rf)) (hd.kept _ (Y.n_ _ H.rw) (Y.mS i K _ H.rw)) (fun e=>hd.kept _ Y.uu fun D=>?_) (fun k hk=>?_) hd.tape hd.output
 ·obtain⟨k,_,B⟩:=Y.mp i K (Y.xs i K _ D);simp_all
 ·obtain⟨R,_,_,I⟩:=Y.oe _ (qM A hk);exact hd.kept _ R fun D=>I i K (Y.xs i K _ D)
theorem gI.Wd.cfg{C':iB Q.E}(h:Q.Wd C w)(F:C'.m=C.m)(M:C'.c=C.c)(N:C'.v=C.v)(O:C'.wt=C.wt)(V:C'.ws=C.ws)(K:C'.tok=none->C.tok=none/\C'.γ=C.γ)(H:C'.L=C.L)(R:C'.j=C.j)(A:iR Q.J C'.d=iR Q.J C.d):Q.Wd C' w:=by
 refine⟨by rw[F,M];exact h.mu,by rw[N,O,V];exact h.wg,fun e=>by rw[(K e).2];exact h.map (K e).1,fun k hk Y=>?_,fun k hk Y=>?_,h.tape,h.out⟩
 ·unfold gI.ch;rw[H];exact h.shut k (R▸hk) (A▸Y)
 ·unfold gI.ch;rw[H];exact h.opn k (R▸hk) (A▸Y)
theorem gI.Wd.mv(h:Q.Wd C w)(H:Q.Laws)(R:Q.Sets nd C.j C.L C.tok w.heap.size)(A:C.L.length=C.j){m':Word}(K:Env.Eff Q.E.Fd w w1)(F:Q.E.MuAt w1 m' c'):Q.Wd {C with m:=m',c:=c'} w1:=by
 have D:∀k,k<C.j->w1.heap[Q.ch C k]?=w.heap[Q.ch C k]?:=fun k hk=>K.heap _ fun e=>(R.oe _ (qM A hk)).2.1 (e▸H.rf);refine⟨F,?_,fun e=>?_,fun k hk Y=>?_,fun k hk Y=>?_,K.tape.trans h.tape,K.output.trans h.out⟩
 ·have:=h.wg;unfold Env.WgAt at this⊢;rw[K.heap _ fun e=>H.fw e.symm];omega
 ·rw[K.heap _ H.mf];exact h.map e
 ·show∃s,w1.heap[Q.ch C k]?=_
  rw[D k hk];exact h.shut k hk Y
 ·obtain⟨s,R⟩:=h.opn k hk Y;exact⟨s,by show w1.heap[Q.ch C k]?=_;rw[D k hk];exact R⟩
theorem gI.Wd.gp(h:Q.Wd C w)(H:Q.Laws)(R:Q.Sets nd C.j C.L C.tok w.heap.size)(A:C.L.length=C.j)(K:Env.Eff Q.E.Wg w w1)(F:Q.E.WgAt w1 v' ib ia):Q.Wd {C with v:=v',wt:=ib,ws:=ia} w1:=by
 have D:∀k,k<C.j->w1.heap[Q.ch C k]?=w.heap[Q.ch C k]?:=fun k hk=>K.heap _ fun e=>(R.oe _ (qM A hk)).2.1 (e▸H.rw);refine⟨?_,F,fun e=>?_,fun k hk Y=>?_,fun k hk Y=>?_,K.tape.trans h.tape,K.output.trans h.out⟩
 ·have:=h.mu;unfold Env.MuAt at this⊢;rw[K.heap _ H.fw];omega
 ·rw[K.heap _ H.mw];exact h.map e
 ·show∃s,w1.heap[Q.ch C k]?=_
  rw[D k hk];exact h.shut k hk Y
 ·obtain⟨s,R⟩:=h.opn k hk Y;exact⟨s,by show w1.heap[Q.ch C k]?=_;rw[D k hk];exact R⟩
theorem gI.Wd.at(h:Q.Wd C w)(d:Nat):Q.Wd C (w.at d):=⟨h.mu,h.wg,h.map,h.shut,h.opn,h.tape,h.out⟩
theorem gI.uq.keep{c:Nat}{n:Nd}{fu:Nat}{s:gO Q.E}(h:Q.uq c gs t k n fu s)(K:I[Q.b+k]?=gs[Q.b+k]?)(hd:Deaf t' (Q.b+k)=Deaf t (Q.b+k)):Q.uq c I t' k n fu s:=by
 cases s with
 |no=>exact h
 |«at» pc md=>exact⟨K.trans h.1,h.2⟩
 |gT i n=>obtain⟨g,Y,H⟩:=h;exact⟨g,K.trans Y,H⟩
 |qt q=>obtain⟨g,Y,H⟩:=h;exact⟨g,K.trans Y,by simp_all⟩
theorem gI.xG.keep{n:Nd}{fu:Nat}{d:jo}{md:Md}(h:Q.xG gs n fu L d md)(K:I[0]?=gs[0]?):Q.xG I n fu L d md:=by
 cases md with
 |run=>exact⟨K.trans h.1,h.2⟩
 |blk=>exact⟨K.trans h.1,h.2⟩
 |hD=>
  obtain⟨H,i,c,x,z,Y,D,R,A,U,B,C⟩:=h;exact⟨H,i,c,x,z,Y,D,R,A,U,K.trans B,C⟩
 |jS=>exact h.elim
end
section
variable{Q:gI}{nd:Nat->Nd}{fu:Nat->Nat}{C C':iB Q.E}{w w':World}{gs I:Array Goroutine}{t t':Trace}{q:Nat->Nat}{rel kj:Nat->Option Nat}
theorem nH{gs:Array _}{g:Goroutine}(h:i≠k):(gs.setIfInBounds i g)[k]?=gs[k]?:=aJ h
theorem gI.MI.BC(M:Q.MI C nd fu gs w t q rel)(u:0<Q.b)(hk:k<C.j)(H:C'.j=C.j)(O:C'.L=C.L)(hd:C'.d=C.d)(Z:C'.dm=C.dm)(R:∀i,i≠k->C'.ks i=C.ks i){F:Nd}(G:I=gs.setIfInBounds (Q.b+k) g1)
  (o:Q.uq (Q.ch C k) I t' k F f' (C'.ks k))(r:∀i,i<=C.j->i≠k+1->gK Q.E.U (nd i).S w w')(f:gK Q.E.U F.S F.w w')(mf:mu Q.J C'<=f')(W:mu Q.J C'<=mu Q.J C)
  (sets:Q.Sets (upd nd (k+1) F) C.j C.L C'.tok w'.heap.size)(wd:Q.Wd C' w')(tr:PT Q.b C.j Q.E.mu Q.E.st Q.i_ (Q.cls (upd nd (k+1) F) C.j C.L) t' (C'.tok.map (Q.b+ ·)) kj)
  (V:(∀q,C'.ks k≠.qt q)->Deaf t' (Q.b+k)=A6 (C'.ks k))(K:∀g,g≠Q.b+k->Deaf t' g=Deaf t g)(N:(∃p,kj (Q.b+k)=some p)↔gI.xI (C'.ks k))(A:∀i,i≠k->kj (Q.b+i)=rel (Q.b+i))(seen:∀op∈t',Seen w'.heap.size op):
  Q.MI C' (upd nd (k+1) F) (upd fu (k+1) f') I w' t' q kj:=by
 subst G;have n0:upd nd (k+1) F 0=nd 0:=upd_ne _ _ (by omega);have f0:upd fu (k+1) f' 0=fu 0:=upd_ne _ _ (by omega);refine⟨?_,?_,fun i Y=>?_,fun i g Y D P=>?_,fun i Y=>?_,fun i Y=>?_,?_,wd,?_,?_,fun i Y B=>?_,fun i Y=>?_,fun i Y=>?_,fun i Y=>by rw[H]at Y;rw[A i (by omega)];exact M.vm i Y,seen⟩
 ·rw[H];simp[M.size]
 ·rw[n0,f0,O,hd,Z];exact M.g0.keep (nH (by omega))
 ·rw[H]at Y;by_cases e:i=k
  ·subst e;rw[upd_same,upd_same];unfold gI.ch;rw[O];exact o
  ·rw[upd_ne _ _ (by omega),upd_ne _ _ (by omega),R i e];unfold gI.ch;rw[O];exact(M.wk i Y).keep (nH (by omega)) (K _ (by omega))
 ·rw[nH (by omega)]at P;rw[K i (by omega)];exact M.old i g Y D P
 ·rw[H]at Y;by_cases e:i=k+1
  ·subst e;rw[upd_same];exact mf
  ·rw[upd_ne _ _ e];exact aH W (M.fuel i Y)
 ·rw[H]at Y;by_cases e:i=k+1
  ·subst e;rw[upd_same];exact f
  ·rw[upd_ne _ _ e];exact(M.oh i Y).trans (r i Y e)
 ·simp_all
 ·rw[H,O];exact tr
 ·rw[K 0 (by omega),hd];exact M.deaf0
 ·rw[H]at Y;by_cases e:i=k
  ·subst e;exact V B
  ·rw[K _ (by omega),R i e];rw[R i e]at B;exact M.nf i Y B
 ·rw[H]at Y;rw[K i (by omega)];exact M.above i Y
 ·rw[H]at Y;by_cases e:i=k
  ·subst e;exact N
  ·rw[A i e,R i e];exact M.pC i Y
theorem gI.MI.m0(M:Q.MI C nd fu gs w t q rel)(f:0<Q.b)(R:C'.j=C.j)(G:C'.L=C.L)(H:C'.ks=C.ks){A:Nd}(N:I=gs.setIfInBounds 0 g1)
  (Z:Q.xG I A f' C.L C'.d C'.dm)(W:∀i,i<=C.j->i≠0->gK Q.E.U (nd i).S w w')(V:gK Q.E.U A.S A.w w')(mf:mu Q.J C'<=f')(O:mu Q.J C'<=mu Q.J C)
  (sets:Q.Sets (upd nd 0 A) C.j C.L C'.tok w'.heap.size)(wd:Q.Wd C' w')(tr:PT Q.b C.j Q.E.mu Q.E.st Q.i_ (Q.cls (upd nd 0 A) C.j C.L) t' (C'.tok.map (Q.b+ ·)) rel)
  (F:Deaf t' 0=px C'.d)(K:∀g,g≠0->Deaf t' g=Deaf t g)(seen:∀op∈t',Seen w'.heap.size op):
  Q.MI C' (upd nd 0 A) (upd fu 0 f') I w' t' q rel:=by
 subst N;refine⟨?_,?_,fun i Y=>?_,fun i g Y D B=>?_,fun i Y=>?_,fun i Y=>?_,?_,wd,?_,F,fun i Y P=>?_,fun i Y=>?_,fun i Y=>?_,fun i Y=>M.vm i (R▸Y),seen⟩
 ·rw[R];simp[M.size]
 ·rw[upd_same,upd_same,G];exact Z
 ·rw[R]at Y;rw[upd_ne _ _ (by omega),upd_ne _ _ (by omega),H];unfold gI.ch;rw[G];exact(M.wk i Y).keep (nH (by omega)) (K _ (by omega))
 ·rw[nH (by omega)]at B;rw[K i (by omega)];exact M.old i g Y D B
 ·rw[R]at Y;by_cases e:i=0
  ·subst e;exact mf
  ·rw[upd_ne _ _ e];exact aH O (M.fuel i Y)
 ·rw[R]at Y;by_cases e:i=0
  ·subst e;exact V
  ·rw[upd_ne _ _ e];exact(M.oh i Y).trans (W i Y e)
 ·simp_all
 ·simp_all
 ·rw[R]at Y;rw[K _ (by omega),H];rw[H]at P;exact M.nf i Y P
 ·rw[R]at Y;rw[K i (by omega)];exact M.above i Y
 ·rw[R]at Y;rw[H];exact M.pC i Y
theorem vP(Y:Q.Laws){c fu:Nat}{pc:Q.E.kH}{g:Goroutine}(K:0<fu)(h:Q.WS c fu pc S X g w):g.status=.running/\g.offers=none:=by
 cases fu with
 |zero=>omega
 |succ f=>
  cases pc with
  |recv=>exact Y.JZ h
  |_=>exact⟨h.1,h.2.1⟩
theorem Cr{fu:Nat}{d:jo}{g:Goroutine}(Y:0<fu)(h:Q.DS fu d S X g w):g.status=.running/\g.offers=none:=by
 cases fu with
 |zero=>omega
 |succ f=>exact⟨h.1,h.2.1⟩
theorem tw{U:Nat->Nat->Prop}{D:(Nat->Prop)->(Nat->Prop)->Goroutine->World->Prop}{g:Goroutine}(h:Tz P main U D S X g w)(Y:D S X g w->g.status=.running):g.status=.running:=by
 rcases h.look with h|⟨_,h,_⟩
 ·exact Y h
 omega
theorem Cs{E:Env}{g:Goroutine}(h:Env.oA P (E.ua P i) n g):g.status=.running:=by
 cases n with
 |zero=>
  match i,h with
  |0,h=>exact h.1
  |1,h=>exact h.1
  |2,h=>exact h.1
  |3,h=>exact h.1
  |i+4,h=>exact h.1
 |succ n=>exact h.1
theorem ae0(J:iq)(v:Nat)(d:jo):0<ir J v d:=by cases d<;>simp[ir]<;>omega
theorem Sv{E:Env}(J:iq)(C:iB E):0<mu J C:=by
 have:=ae0 J C.v C.d;unfold mu lr;omega
theorem gI.MI.sL(M:Q.MI C nd fu gs w t q rel)(Y:i<=C.j):0<fu i:=af (Sv Q.J C) (M.fuel i Y)
theorem again_blocked{g:Goroutine}(w:World)(Y:g.status=.running)(K:g.offers=none):({g with status:=.blocked}).again w=g:=by
 obtain⟨f,c,st,o⟩:=g;subst Y K;rfl
theorem gI.MI.oQ(M:Q.MI C nd fu gs w t q rel)(V:Q.Laws)(h:CI Q.J Q.gL C):Q.MI (C.oQ Q.J) nd fu (gs.map (·.again w)) w t q rel:=by
 have mp:∀i,(gs.map (·.again w))[i]?=(gs[i]?).map _:=fun i=>aP;have fm:mu Q.J _=mu Q.J C:=Rt;refine⟨by simp[M.size];rfl,?_,fun k hk=>?_,fun i g N O X=>?_,fun i N=>by rw[fm];exact M.fuel i N,M.oh,M.sets,?_,M.tr,M.deaf0,fun k hk o=>?_,M.above,fun k hk=>?_,M.vm,M.seen⟩
 ·have K:=M.g0;show Q.xG _ _ _ C.L C.d (xr C.dm)
  have f0:=M.sL (ao _);cases U:C.dm with
  |run=>
   rw[U]at K;refine⟨?_,K.2⟩;rw[mp,K.1];exact congrArg some (again_running _ (.inl (tw K.2 fun y=>(Cr f0 y).1)))
  |blk=>
   rw[U]at K;refine⟨?_,.stop K.2.2.2⟩;rw[mp,K.1];exact congrArg some (again_blocked w K.2.2.1 K.2.1)
  |hD=>
   rw[U]at K;obtain⟨H,i,c,x,z,F,P,Z,B,G,W,f⟩:=K;refine⟨H,i,c,x,z,F,P,Z,B,G,?_,f⟩;have I:∃k,k<C.j/\Q.ch C k=c:=by
    refine⟨i%Q.J.n,?_,?_⟩
    ·have:=(aW.1 B).1;rw[h.len]at this;exact this
    ·unfold gI.ch;rw[aM,B];rfl
   obtain⟨k,hk,rfl⟩:=I;obtain⟨s,Y⟩:=M.wd.opn k hk (by rw[P];exact aI _);rw[mp,W];exact congrArg some (again_send_open Y)
  |jS=>rw[U]at K;exact K.elim
 ·have Y:=M.wk k hk;have S:=M.sL hk;show Q.uq _ _ t k _ _ (qh _ _)
  cases I:C.ks k with
  |no=>rw[I]at Y;exact Y.elim
  |«at» pc md=>
   rw[I]at Y;obtain⟨H,D,A⟩:=Y;cases md with
   |run=>
    refine⟨?_,D,A⟩;rw[mp,H];exact congrArg some (again_running _ (.inl (tw D fun y=>(vP V S y).1)))
   |blk=>
    have T:=vP V S (A nofun);refine⟨?_,D,fun y=>absurd rfl y⟩;rw[mp,H];exact congrArg some (again_blocked w T.1 T.2)
   |hD=>
    by_cases R:k<iR Q.J C.d
    ·rw[decide_eq_true R];obtain⟨s,Y⟩:=M.wd.shut k hk R;refine⟨?_,D,fun _=>A nofun⟩;rw[mp,H];exact congrArg some (again_recv_closed Y)
    ·rw[decide_eq_false R];obtain⟨s,Y⟩:=M.wd.opn k hk R;refine⟨?_,D,A⟩;rw[mp,H];exact congrArg some (again_recv_open Y)
   |jS=>
    refine⟨?_,D,A⟩;rw[mp,H];exact congrArg some (again_running _ (.inl rfl))
  |gT i n=>
   rw[I]at Y;obtain⟨g,H,D⟩:=Y;refine⟨g,?_,D⟩;rw[mp,H];exact congrArg some (again_running _ (.inl (Cs D)))
  |qt p=>
   rw[I]at Y;obtain⟨g,H,D⟩:=Y;refine⟨g,?_,D⟩;rw[mp,H];exact congrArg some (again_running _ D.status)
 ·rw[mp]at X;obtain⟨l,H,rfl⟩:=aX.1 X;have:=M.old i l N O H;rw[again_running _ this.status];exact this
 ·exact M.wd.cfg rfl rfl rfl rfl rfl (fun e=>⟨e,rfl⟩) rfl rfl rfl
 ·have e:∀s:gO Q.E,∀b,(∀q,qh b s≠.qt q)->∀q,s≠.qt q:=fun s b Y q e=>Y q (by rw[e];rfl);rw[M.nf k hk (e _ _ o)];exact(wo A6 (fun _ _ _=>rfl) _ _).symm
 ·rw[M.pC k hk];show gI.xI _↔gI.xI (qh _ _)
  rw[wo (fun s=>gI.xI s) fun _ _ _=>rfl]
theorem abd{g:Goroutine}{w1:World}(gs:Array _)(i:Nat):
  (((gs.map (woken P g g1 w1)).setIfInBounds i g1=gs.setIfInBounds i g1)/\¬(mayWake P g=true/\(g1.status=.running\/g1.status=.finished)))\/(gs.map (woken P g g1 w1)).setIfInBounds i g1=(gs.setIfInBounds i g1).map (·.again w1):=by
 by_cases K:(mayWake P g&&g1.status != .blocked&&g1.status != .waiting)=true
 ·right;have H:woken P g g1 w1=(·.again w1):=by funext o;simp[woken,K]
  have R:g1.again w1=g1:=by
   unfold Goroutine.again;simp_all
  simp_all
 ·left;have H:woken P g g1 w1=id:=by funext o;simp[woken,K]
  refine⟨by simp_all,fun⟨D,Y⟩=>K ?_⟩;rcases Y with Y|Y<;>rw[D,Y]<;>rfl
theorem gI.MI.finish(R:Q.Laws){Y:iB Q.E}{g:Goroutine}{w1:World}{H:Nat->Nd}(h:CI Q.J Q.gL Y)(M:Q.MI Y H UM (gs.setIfInBounds i g1) w1 t q rel)(F:Calm Q.J Y\/(mayWake Q.P g=true/\(g1.status=.running\/g1.status=.finished)))(A:∀i,Y.dm=.hD->Y.d=.send Y.L i->∀pc,Y.ks (i%Q.J.n)≠.at pc .hD):
  ∃K,(K=Y\/K=Y.oQ Q.J)/\CI Q.J Q.gL K/\Calm Q.J K/\Q.MI K H UM ((gs.map (woken Q.P g g1 w1)).setIfInBounds i g1) w1 t q rel:=by
 rcases abd (P:=Q.P) (g:=g) (g1:=g1) (w1:=w1) gs i with⟨e,D⟩|e
 ·simp_all
 ·rw[e];exact⟨Y.oQ Q.J,.inr rfl,h.oQ,abb A,M.oQ R h⟩
end
def nQ{E:Env}:gO E->Nat
 |.gT _ n=>n
 |.qt q=>q
 |_=>0
def pM:Md->Nat
 |.run=>1
 |.jS=>1
 |_=>0
def pN{E:Env}:gO E->Nat
 |.at _ md=>pM md
 |_=>0
namespace gI
variable(Q:gI)
def nu(C:iB Q.E)(q:Nat->Nat):=10 *(sumTo Q.b q+sumTo Q.J.n (fun k=>nQ (C.ks k)))+(pM C.dm+sumTo Q.J.n (fun k=>pN (C.ks k)))
def Df(C:iB Q.E)(fu:Nat->Nat)
 |0=>Q.DS (fu 0) C.d
 |k+1=>match C.ks k with
  |.at pc _=>Q.WS (Q.ch C k) (fu (k+1)) pc
  |_=>fun _ _ _ _=>True
def jA(C:iB Q.E)(nd:Nat->Nd)(fu:Nat->Nat)(q:Nat->Nat)(m:Machine)(t:Trace):=∃C' Y K I w' H D kj,m=crowd I w' H/\CI Q.J Q.gL C'/\Calm Q.J C'/\Q.MI C' Y K I w' t D kj/\
 (mu Q.J C'<mu Q.J C\/(mu Q.J C'=mu Q.J C/\Q.Df C' K=Q.Df C fu/\(Down (fun i=>Nx Q.P (i==0) Q.E.U (Q.Df C fu i)) (Q.J.n+1) Y nd\/(Y=nd/\Q.nu C' D<Q.nu C q))))
end gI
section
variable{Q:gI}{nd:Nat->Nd}{fu:Nat->Nat}{C C':iB Q.E}{w w':World}{gs I:Array Goroutine}{t t':Trace}{q:Nat->Nat}{rel kj:Nat->Option Nat}{sl:Option (Nat×Nat)}
theorem tD{α:Type}(f:Nat->α)(i:Nat):upd f i (f i)=f:=by
 funext k;unfold upd;simp_all
theorem ae1:Q.Df (C.oQ Q.J) fu=Q.Df C fu:=by
 funext i;cases i with
 |zero=>rfl
 |succ k=>
  exact wo (fun s=>match s with|.at pc _=>Q.WS (Q.ch C k) (fu (k+1)) pc|_=>fun _ _ _ _=>True) (fun _ _ _=>rfl) _ _
theorem qG{Y K:iB Q.E}(h:K=Y\/K=Y.oQ Q.J):mu Q.J K=mu Q.J Y/\Q.Df K fu=Q.Df Y fu:=by
 rcases h with rfl|rfl
 ·simp
 ·exact⟨Rt,ae1⟩
theorem pY{w1:World}{ops:Array _}(h:∀op∈t,Seen w.heap.size op)(Y:w.heap.size<=w1.heap.size)(K:∀op∈ops,Seen w1.heap.size op):∀op∈t++ops,Seen w1.heap.size op:=by
 intro op gC;rcases Array.mem_append.1 gC with y|y
 ·exact⟨MemAct.low_mono Y (h op y).1,(h op y).2⟩
 ·simp_all
theorem acX(Y:Q.Laws)(nd:Nat->Nd)(j:Nat)(L:List Nat):∀l,Q.cls nd j L l=.at->Q.i_ l:=fun l h=>Y.Ln l (Qv h)
theorem gI.MI.Td(M:Q.MI C nd fu gs w t q rel)(N:Q.Laws)(K:i<=C.j){es:Array _}{F:Nd}{w1:World}(hd:kh Q.E.U (nd i).S (nd i).X w w1 es F.S F.X)(fn:FuncId)(pos:String)(hr:gi Q.b i≠0->rel (gi Q.b i)=none):
  PT Q.b C.j Q.E.mu Q.E.st Q.i_ (Q.cls (upd nd i F) C.j C.L) (t++ae (gi Q.b i) fn pos es) (C.tok.map (Q.b+ ·)) rel:=by
 have Y:=M.sets;have R:=Y.did K hd;have J:=gI.ag7 Y K hd;have low:∀k x,touchAt t k=some x->x.loc.low w.heap.size:=by
  intro k x A;obtain⟨op,P,B⟩:=touch_of A;exact XY (M.seen op (aK P)).1 B
 have D:=M.tr.fresh (fun k x A=>OJ J (low k x A)) Pr (acX N _ _ _);refine D.app (g:=gi Q.b i) ?_ ?_ ?_
 ·cases i with
  |zero=>exact .inl rfl
  |succ k=>exact .inr ⟨aD _ _,by show Q.b+k<Q.b+C.j;omega⟩
 ·refine acU hd _ _ (fun a H=>?_) (fun a H=>acW H) (fun a D O=>?_)
  ·have I:=Y.low i K a H;have e:Q.cls _ C.j C.L _=Q.cls nd C.j C.L (.obj a):=OJ J I;rw[e];exact Y.held N.rm K H
  ·have:=R.own K (by rw[upd_same];exact(hd.may a).2 (.inr ⟨D,O⟩)) (fun e=>by have:=Y.uu;omega);exact this
 ·simp_all
theorem gI.MI.xJ(M:Q.MI C nd fu gs w t q rel)(hk:k<C.j){pc:Q.E.kH}{md:Md}(e:C.ks k=.at pc md):rel (Q.b+k)=none:=by
 cases hr:rel _ with
 |none=>rfl
 |some p=>
  have:=(M.pC k hk).1 ⟨p,hr⟩;rw[e]at this;exact this.elim
theorem qf{g:Nat}{es:Array _}:∀op∈ae g fn pos es,op.g=g:=fun op gC=>by
 obtain⟨e,_,rfl⟩:=qa gC;rfl
theorem gI.MI.aiA(M:Q.MI C nd fu gs w t q rel)(R:Q.Laws)(h:CI Q.J Q.gL C)(K:Calm Q.J C)(hk:k<C.j){pc:Q.E.kH}(e:C.ks k=.at pc .run){w1:World}{es:Array _}(f:¬Q.WS (Q.ch C k) (fu (k+1)) pc (nd (k+1)).S (nd (k+1)).X (nd (k+1)).g (nd (k+1)).w)
  (gq:stepG Q.P false (nd (k+1)).g w=.go g1 w1 es)(hd:kh Q.E.U (nd (k+1)).S (nd (k+1)).X w w1 es S1 X1)(d:Tz Q.P false Q.E.U (Q.WS (Q.ch C k) (fu (k+1)) pc) S1 X1 g1 w1)(fn:FuncId)(pos:String):
  Q.jA C nd fu q (crowd ((gs.map (woken Q.P (nd (k+1)).g g1 w1)).setIfInBounds (Q.b+k) g1) w1 sl) (t++ae (Q.b+k) fn pos es):=by
 have Z:=R.b0;have A:Q.b+k<gs.size:=by rw[M.size];omega
 have Y:=hk;have F:Q.MI C (upd nd (k+1) ⟨S1,X1,g1,w1⟩) (upd fu (k+1) (fu (k+1))) (gs.setIfInBounds (Q.b+k) g1) w1 (t++ae (Q.b+k) fn pos es) q rel:=by
  refine M.BC Z hk rfl rfl rfl rfl (fun _ _=>rfl) rfl ?_ (fun i I B=>Qy M.sets Y I (fun y=>B y.symm) hd) (.refl _ _ _) (M.fuel _ Y) (aj _) (M.sets.did Y hd) (M.wd.did M.sets R h.len Y hd) ?_ (fun W=>?_) (fun g G=>Deaf_other t (fun y=>G y.symm) _ qf) (M.pC k hk) (fun _ _=>rfl) (pY M.seen hd.grow (Qx hd (M.sets.low _ Y) _))
  ·rw[e];exact⟨ai A,d,fun y=>absurd rfl y⟩
  ·exact M.Td R Y hd fn pos (fun _=>M.xJ hk e)
  ·rw[Deaf_own,Qw hd];exact M.nf k hk W
 rw[tD]at F;obtain⟨L,V,D,H,N⟩:=gI.MI.finish R h F (.inl K) K.pB;obtain⟨O,T⟩:=qG V;refine⟨L,_,_,_,_,sl,_,_,rfl,D,H,N,.inr ⟨O,T,.inl ⟨k+1,by have:=h.jn;omega,?_,fun i _ I=>upd_ne _ _ I⟩⟩⟩;rw[upd_same];refine⟨?_,w,es,M.oh _ Y,gq,hd⟩;unfold gI.Df;simp_all
theorem gI.MI.gy(M:Q.MI C nd fu gs w t q rel)(Z:Q.Laws)(hk:k<C.j)(G:C'.j=C.j)(V:C'.L=C.L)(hd:C'.d=C.d)(R:C'.dm=C.dm)(A:∀i,i≠k->C'.ks i=C.ks i){w1:World}{ops:Array _}
  (N:Q.uq (Q.ch C k) (gs.setIfInBounds (Q.b+k) g1) (t++ops) k ⟨(nd (k+1)).S,(nd (k+1)).X,g1,w1⟩ f' (C'.ks k))(W:∀S,gK Q.E.U S w w1)(O:w1.heap.size=w.heap.size)(mf:mu Q.J C'<=f')(F:mu Q.J C'<=mu Q.J C)(tok:C'.tok=C.tok)(wd:Q.Wd C' w1)
  (tr:PT Q.b C.j Q.E.mu Q.E.st Q.i_ (Q.cls nd C.j C.L) (t++ops) (C.tok.map (Q.b+ ·)) kj)(own:∀op∈ops,op.g=Q.b+k)(H:(∀q,C'.ks k≠.qt q)->Deaf (t++ops) (Q.b+k)=A6 (C'.ks k))(Y:(∃p,kj (Q.b+k)=some p)↔gI.xI (C'.ks k))(K:∀i,i≠k->kj (Q.b+i)=rel (Q.b+i))(low:∀op∈ops,Seen w.heap.size op):
  Q.MI C' (upd nd (k+1) ⟨(nd (k+1)).S,(nd (k+1)).X,g1,w1⟩) (upd fu (k+1) f') (gs.setIfInBounds (Q.b+k) g1) w1 (t++ops) q kj:=by
 refine M.BC Z.b0 hk G V hd R A rfl N (fun i I _=>W _) (.refl _ _ _) mf F ?_ wd ?_ H (fun g D=>Deaf_other t (fun y=>D y.symm) _ own) Y K (pY M.seen (au O.symm) (by simp_all))
 ·rw[O,tok];exact M.sets.same rfl rfl
 ·unfold gI.cls;rw[gI.Dp (n':=⟨(nd _).S,(nd _).X,g1,w1⟩) rfl,tok];exact tr
theorem uE(g:Nat)(fn:FuncId)(pos:String)(m:Mark):ae g fn pos #[⟨.mark m,false,true⟩]=#[{g,fn,pos,act:=.mark m}]:=by simp[ae,ah]
theorem gI.MI.Jq(M:Q.MI C nd fu gs w t q rel){g:Nat}(Y:g<Q.b+C.j)(fn:FuncId)(pos:String){m:Mark}(K:m=.disable\/m=.enable):PT Q.b C.j Q.E.mu Q.E.st Q.i_ (Q.cls nd C.j C.L) (t++ae g fn pos #[⟨.mark m,false,true⟩]) (C.tok.map (Q.b+ ·)) rel:=by
 rw[uE];refine M.tr.still (mj ?_);rcases K with rfl|rfl<;>exact⟨rfl,nofun,nofun,Y⟩
theorem tG{g:Nat}{m:Mark}(Y:(MemAct.mark m).low B/\∀a,m≠.release a):∀op∈ae g fn pos #[⟨.mark m,false,true⟩],Seen B op:=by
 rw[uE];exact mj ⟨Y.1,fun a e=>Y.2 a (MemAct.mark.inj e)⟩
theorem OK(h:e.mute=true)(a:Addr):ah e≠.mark (.release a):=by
 intro y;obtain⟨loc,wr,Y⟩:=e;cases loc<;>simp_all[Event.mute,ah]
theorem tO(K:Calm Q.J C){s':gO Q.E}(A:∀pc,s'≠.at pc .blk)(F:∀pc,s'≠.at pc .hD){m':Word}{kV:Q.E.Γ}(R:C.c=0->c'=0)(hw:C.dm=.blk->C.ws=0->ia=0):Calm Q.J (C.wk k s' C.d C.dm m' c' v' ib ia kV j6 jF):=by
 refine⟨fun i pc Y=>?_,fun i pc Y=>?_,fun hd=>hw hd (K.KA hd),fun i hd H pc Y=>?_⟩
 ·change upd _ k s' i=_ at Y;by_cases e:i=k
  ·subst e;rw[upd_same]at Y;simp_all
  ·rw[upd_ne _ _ e]at Y;exact R (K.blk i pc Y)
 ·change upd _ k s' i=_ at Y;by_cases e:i=k
  ·subst e;rw[upd_same]at Y;simp_all
  ·rw[upd_ne _ _ e]at Y;exact K.hD i pc Y
 ·change upd _ k s' _=_ at Y;by_cases e:i%Q.J.n=k
  ·rw[e,upd_same]at Y;simp_all
  ·rw[upd_ne _ _ e]at Y;exact K.pB i hd H pc Y
theorem gI.MI.Ei(M:Q.MI C nd fu gs w t q rel)(A:Q.Laws)(h:CI Q.J Q.gL C)(F:Calm Q.J C){f:Nat}(hk:k<C.j){pc Y:Q.E.kH}(e:C.ks k=.at pc .run)(r:fu (k+1)=f+1){m:Mark}(O:m=.disable\/m=.enable)(o:Q.E.Tree Q.P false (Q.WS (Q.ch C k) f Y) (nd (k+1)).S (nd (k+1)).X g1 w)(fn:FuncId)(pos:String)
  (d:oZ Y=oZ pc)(W:∀y,qR y Y=qR y pc)(n1:∀γ,pc≠.ur γ)(n2:∀γ,Y≠.ur γ)(n3:Y≠.wr)(re:∀p x,Y=.lk p x->iJ p=2)(o8:∀p,Y=.un p->iJ p=0/\p≠.out)(hr:qA Y<qA pc)(N:u_ Y=deafBehind (u_ pc) #[⟨.mark m,false,true⟩]):
  Q.jA C nd fu q (crowd ((gs.map (woken Q.P (nd (k+1)).g g1 w)).setIfInBounds (Q.b+k) g1) w sl) (t++ae (Q.b+k) fn pos #[⟨.mark m,false,true⟩]):=by
 have U:Q.b+k<gs.size:=by rw[M.size];omega
 have I:k<Q.J.n:=af hk h.jn;have B:¬Gone (.at Y .run:gO Q.E):=fun y=>by
  cases Y with
  |wr=>exact n3 rfl
  |_=>exact y.elim
 have Z:CI Q.J Q.gL (C.w1 k (.at Y .run)):=h.quiet hk e d W n1 n2 ⟨nofun,fun y=>by rcases y with y|y<;>cases y⟩ (fun y=>absurd y B) re o8;have D:mu Q.J (C.w1 k (.at Y .run))<mu Q.J C:=Eh A.n8 h.c1 I e hr;have us:(C.w1 k (.at Y .run)).ks k=.at Y .run:=upd_same _ _ _;have T:=M.gy (C':=C.w1 k (.at Y .run)) (f':=f) (g1:=g1) (w1:=w) (kj:=rel) A hk rfl rfl rfl rfl (fun i z=>upd_ne _ _ z) (by
   rw[us];exact⟨ai U,o,fun y=>absurd rfl y⟩) (fun S=>.refl _ _ _) rfl (by have:=M.fuel (k+1) hk;omega) (ar D) rfl (M.wd.cfg rfl rfl rfl rfl rfl (fun e=>⟨e,rfl⟩) rfl rfl rfl)
   (M.Jq (by omega) fn pos O) qf (fun _=>by
   rw[us,Deaf_own,M.nf k hk (fun q y=>by rw[e]at y;cases y),e];exact N.symm) (by
   rw[us,M.xJ hk e];exact⟨(fun⟨p,l⟩=>by cases l),fun y=>y.elim⟩) (fun _ _=>rfl) (tG (by rcases O with rfl|rfl<;>exact⟨trivial,nofun⟩))
 have K:Calm Q.J (C.w1 k (.at Y .run)):=tO (s':=.at Y .run) (k:=k) (m':=C.m) (c':=C.c) (v':=C.v) (ib:=C.wt) (ia:=C.ws) (kV:=C.γ) (j6:=C.dn) (jF:=C.tok) F nofun nofun id fun _ y=>y;obtain⟨L,G,R,H,V⟩:=gI.MI.finish (g:=(nd (k+1)).g) A Z T (.inl K) K.pB;exact⟨L,_,_,_,_,sl,_,_,rfl,R,H,V,.inl (by rw[(qG (fu:=fu) G).1];exact D)⟩
theorem gI.MI.Lo(M:Q.MI C nd fu gs w t q rel)(R:Q.Laws)(h:CI Q.J Q.gL C)(A:Calm Q.J C){f:Nat}(hk:k<C.j){pc Y:Q.E.kH}(e:C.ks k=.at pc .run)(m:fu (k+1)=f+1){w1:World}{m':Word}(r:Q.E.Tree Q.P false (Q.WS (Q.ch C k) f Y) (nd (k+1)).S (nd (k+1)).X g1 w1)(fn:FuncId)(pos:String)
  (o:Q.E.MuAt w1 m' c')(Z:Env.Eff Q.E.Fd w w1)(K:Env.EvA Q.E.Fd es)(hw:C.c<c'->mayWake Q.P (nd (k+1)).g=true)(N:CI Q.J Q.gL (C.mv k Y m' c'))(F:mu Q.J (C.mv k Y m' c')<mu Q.J C)(V:u_ Y=u_ pc):
  Q.jA C nd fu q (crowd ((gs.map (woken Q.P (nd (k+1)).g g1 w1)).setIfInBounds (Q.b+k) g1) w1 sl) (t++ae (Q.b+k) fn pos es):=by
 have W:Q.b+k<gs.size:=by rw[M.size];omega
 have us:(C.mv k Y m' c').ks k=.at Y .run:=upd_same _ _ _;have G:g1.status=.running:=by
  have T:mu Q.J (C.mv k Y m' c')<=f:=by have:=M.fuel (k+1) hk;omega
  exact tw r fun y=>(vP R (af (Sv _ _) T) y).1
 have s:=M.gy (C':=C.mv k Y m' c') (f':=f) (g1:=g1) (w1:=w1) (ops:=ae (Q.b+k) fn pos es) (kj:=rel) R hk rfl rfl rfl rfl (fun i H=>upd_ne _ _ H) (by
   rw[us];exact⟨ai W,r,fun y=>absurd rfl y⟩) (fun S=>Rw S M.wd.mu o Z) Z.size (by have:=M.fuel (k+1) hk;omega) (ar F) rfl ((M.wd.mv R M.sets h.len Z o).cfg rfl rfl rfl rfl rfl (fun e=>⟨e,rfl⟩) rfl rfl rfl)
   (M.tr.app (.inr ⟨aD _ _,by omega⟩) (Il K (.inl rfl) _) (fun _ p D=>by rw[M.xJ hk e]at D;cases D)) qf (fun _=>by
   rw[us,Deaf_own,C6 K,M.nf k hk (fun q y=>by rw[e]at y;cases y),e];exact V.symm) (by
   rw[us,M.xJ hk e];exact⟨(fun⟨p,D⟩=>by cases D),fun y=>y.elim⟩) (fun _ _=>rfl) (Im K (M.sets.n_ _ R.rf) _)
 have I:Calm Q.J (C.mv k Y m' c')\/(mayWake Q.P (nd (k+1)).g=true/\(g1.status=.running\/g1.status=.finished)):=by
  by_cases x:C.c<c'
  ·exact .inr ⟨hw x,.inl G⟩
  ·exact .inl (tO (s':=.at Y .run) (k:=k) (m':=m') (c':=c') (v':=C.v) (ib:=C.wt) (ia:=C.ws) (kV:=C.γ) (j6:=C.dn) (jF:=C.tok) A nofun nofun (fun y=>by omega) fun _ y=>y)
 have D:∀i,(C.mv k Y m' c').dm=.hD->(C.mv k Y m' c').d=.send (C.mv k Y m' c').L i->∀pc,(C.mv k Y m' c').ks (i%Q.J.n)≠.at pc .hD:=by
  intro i N B z H;change upd C.ks k _ _=_ at H;by_cases e:i%Q.J.n=k
  ·rw[e,upd_same]at H;cases H
  ·rw[upd_ne _ _ e]at H;exact A.pB i N B z H
 obtain⟨l,B,O,U,u⟩:=gI.MI.finish (g:=(nd (k+1)).g) R N s I D;exact⟨l,_,_,_,_,sl,_,_,rfl,O,U,u,.inl (by rw[(qG (fu:=fu) B).1];exact F)⟩
end
end Ph
namespace Ph
open Conc Ren
open Lock (Word PC Mv bn iJ bw dw)
open ConcN (sumTo upd sumTo_upd upd_ne upd_same sumTo_congr sumTo_le le_sumTo)
section
variable{Q:gI}{nd:Nat->Nd}{fu:Nat->Nat}{C C':iB Q.E}{w w':World}{gs I:Array Goroutine}{t t':Trace}{q:Nat->Nat}{rel kj:Nat->Option Nat}{sl:Option (Nat×Nat)}
theorem acY{E:Env}{b:Nat}(K:¬RO E.Mp)(h:∀i a,a≠E.Mp->(vx i a↔XX i a)):nc E RO b vx=nc E RO b XX:=by
 have Y:∀a,mK E RO b vx a=mK E RO b XX a:=fun a=>by
  by_cases e:a=E.Mp
  ·subst e;rw[IQ K,IQ K]
  ·exact HI fun i=>h i a e
 funext l;cases l with
 |cell a=>simp[nc,Y]
 |obj a=>exact Y a
 |_=>rfl
theorem gI.Sets.turn{j:Nat}(h:Q.Sets nd j L tok B)(hk:k<j){H:Nd}(Z:∀a,a≠Q.E.Mp->(H.S a↔(nd (k+1)).S a))(hX:∀a,a≠Q.E.Mp->(H.X a↔(nd (k+1)).X a))(A:H.S Q.E.Mp↔H.X Q.E.Mp)(W:H.S Q.E.Mp->jF=some k)(d:∀i,i<=j->i≠k+1->¬(nd i).S Q.E.Mp)(M:¬Q.RO Q.E.Mp):Q.Sets (upd nd (k+1) H) j L jF B:=by
 have us:upd nd (k+1) H (k+1)=H:=upd_same _ _ _;have un:∀i,i≠k+1->upd nd (k+1) H i=nd i:=fun i Y=>upd_ne _ _ Y;have R:∀i a,a≠Q.E.Mp->((upd nd (k+1) H i).S a↔(nd i).S a):=fun i a F=>by
  by_cases e:i=k+1
  ·subst e;rw[us];exact Z a F
  ·rw[un i e]
 have U:∀i a,a≠Q.E.Mp->((upd nd (k+1) H i).X a↔(nd i).X a):=fun i a F=>by
  by_cases e:i=k+1
  ·subst e;rw[us];exact hX a F
  ·rw[un i e]
 have C:∀i,i<=j->(upd nd (k+1) H i).S Q.E.Mp->i=k+1/\jF=some k:=fun i Y K=>by
  by_cases e:i=k+1
  ·simp_all
  ·simp_all
 have T:∀i,i<=j->((upd nd (k+1) H i).X Q.E.Mp->(upd nd (k+1) H i).S Q.E.Mp):=fun i Y K=>by
  by_cases e:i=k+1
  ·subst e;rw[us]at K⊢;exact A.2 K
  ·rw[un i e]at K⊢;exact h.xs i Y _ K
 refine⟨fun i i' Y I J a D K=>?_,fun i Y a K=>?_,fun i Y a K=>?_,fun i Y a hr D=>?_,fun i Y a D=>?_,fun i Y K=>⟨k,C i Y K⟩,h.n_,h.uu,fun c G=>?_⟩
 ·by_cases e:a=Q.E.Mp
  ·subst e;have N:=(C i Y (T i Y D)).1;have O:=(C i' I K).1;omega
  ·exact h.xH i i' Y I J a ((U i a e).1 D) ((R i' a e).1 K)
 ·by_cases e:a=Q.E.Mp
  ·subst e;exact h.uu
  ·exact h.low i Y a ((R i a e).1 K)
 ·by_cases e:a=Q.E.Mp
  ·subst e;obtain⟨rfl,_⟩:=C i Y K;rw[us]at K⊢;exact .inr (A.1 K)
  ·exact(h.sub i Y a ((R i a e).1 K)).imp id (U i a e).2
 ·have e:a≠Q.E.Mp:=fun e=>M (e▸hr);exact h.mS i Y a hr ((U i a e).1 D)
 ·by_cases e:a=Q.E.Mp
  ·subst e;exact T i Y D
  ·exact(R i a e).2 (h.xs i Y a ((U i a e).1 D))
 ·obtain⟨N,O,P,V⟩:=h.oe c G;exact⟨N,O,P,fun i Y K=>V i Y ((R i c P).1 K)⟩
theorem gI.Qz{j:Nat}{K:Nd}(Y:¬Q.RO Q.E.Mp)(hX:∀a,a≠Q.E.Mp->(K.X a↔(nd (k+1)).X a)):Q.cls (upd nd (k+1) K) j L=Q.cls nd j L:=by
 refine acY Y fun i a H=>?_;unfold gI.oB;by_cases e:i=k+1
 ·subst e;rw[upd_same,hX a H]
 ·rw[upd_ne _ _ e]
theorem gI.MI.wla(M:Q.MI C nd fu gs w t q rel)(H:Q.Laws)(h:CI Q.J Q.gL C)(F:Calm Q.J C){f x:Nat}(hk:k<C.j)(e:C.ks k=.at (.la x) .run)(u:fu (k+1)=f+1)
  (r:Q.E.Tree Q.P false (Q.WS (Q.ch C k) f (.ur (Q.E.upd C.γ x))) (fun a=>(nd (k+1)).S a\/a=Q.E.Mp) (fun a=>(nd (k+1)).X a\/a=Q.E.Mp) g1 w)(fn:FuncId)(pos:String):
  Q.jA C nd fu q (crowd ((gs.map (woken Q.P (nd (k+1)).g g1 w)).setIfInBounds (Q.b+k) g1) w sl) (t++ae (Q.b+k) fn pos #[⟨.mark (.acquire Q.E.mu),false,true⟩]):=by
 have L:Q.b+k<gs.size:=by rw[M.size];omega
 have K:=h.free hk e;obtain⟨G,I⟩:=h.take H.n8 hk e;have us:(C.take k x).ks k=.at (.ur (Q.E.upd C.γ x)) .run:=upd_same _ _ _;have R:Deaf t (Q.b+k)=0:=by rw[M.nf k hk (fun q y=>by rw[e]at y;cases y),e];rfl
 have hX:∀a,a≠Q.E.Mp->(((nd (k+1)).X a\/a=Q.E.Mp)↔(nd (k+1)).X a):=fun a B=>⟨fun y=>y.resolve_right B,.inl⟩;have z:∀a,a≠Q.E.Mp->(((nd (k+1)).S a\/a=Q.E.Mp)↔(nd (k+1)).S a):=fun a B=>⟨fun y=>y.resolve_right B,.inl⟩;have V:Q.MI (C.take k x) (upd nd (k+1) ⟨fun a=>(nd (k+1)).S a\/a=Q.E.Mp,fun a=>(nd (k+1)).X a\/a=Q.E.Mp,g1,w⟩) (upd fu (k+1) f) (gs.setIfInBounds (Q.b+k) g1) w (t++ae (Q.b+k) fn pos #[⟨.mark (.acquire Q.E.mu),false,true⟩]) q rel:=by
  refine M.BC (C':=C.take k x) H.b0 hk rfl rfl rfl rfl (fun i A=>upd_ne _ _ A) rfl ?_ (fun i A _=>.refl _ _ _) (.refl _ _ _) (by have:=M.fuel (k+1) hk;omega) (ar I) (M.sets.turn hk z hX ⟨fun _=>.inr rfl,fun _=>.inr rfl⟩ (fun _=>rfl) (fun i A _ o=>?_) H.rm) ?_ ?_ (fun _=>?_) (fun g d=>Deaf_other t (fun y=>d y.symm) _ qf) ?_ (fun _ _=>rfl) (pY M.seen (aj _) (tG (m:=.acquire Q.E.mu) ⟨M.sets.n_ _ H.rf,nofun⟩))
  ·rw[us];exact⟨ai L,r,fun y=>absurd rfl y⟩
  ·obtain⟨_,_,O⟩:=M.sets.mp i A o;rw[K]at O;cases O
  ·exact⟨M.wd.mu,M.wd.wg,nofun,M.wd.shut,M.wd.opn,M.wd.tape,M.wd.out⟩
  ·rw[gI.Qz H.rm hX,uE];have N:=M.tr;rw[K]at N;exact N.lock (.inr ⟨aD _ _,by omega⟩) R
  ·rw[us,Deaf_own,R];rfl
  ·rw[us,M.xJ hk e];exact⟨(fun⟨p,l⟩=>by cases l),fun y=>y.elim⟩
 have Y:Calm Q.J (C.take k x):=tO (s':=.at (.ur (Q.E.upd C.γ x)) .run) (k:=k) (m':=C.m) (c':=C.c) (v':=C.v) (ib:=C.wt) (ia:=C.ws) (kV:=Q.E.upd C.γ x) (j6:=C.dn++[x]) (jF:=some k) F nofun nofun id fun _ y=>y;obtain⟨T,W,U,D,Z⟩:=gI.MI.finish (g:=(nd (k+1)).g) H G V (.inl Y) Y.pB;exact⟨T,_,_,_,_,sl,_,_,rfl,U,D,Z,.inl (by rw[(qG (fu:=fu) W).1];exact I)⟩
theorem gI.MI.wur(M:Q.MI C nd fu gs w t q rel)(H:Q.Laws)(h:CI Q.J Q.gL C)(N:Calm Q.J C){f:Nat}{γ:Q.E.Γ}(hk:k<C.j)(e:C.ks k=.at (.ur γ) .run)(hf:fu (k+1)=f+1)(A:Q.E.mr γ (w.heap[Q.E.Mp]?))
  (ht:Q.E.Tree Q.P false (Q.WS (Q.ch C k) f .ud) (fun a=>(nd (k+1)).S a/\a≠Q.E.Mp) (fun a=>(nd (k+1)).X a/\a≠Q.E.Mp) g1 w)(fn:FuncId)(pos:String):
  Q.jA C nd fu q (crowd ((gs.map (woken Q.P (nd (k+1)).g g1 w)).setIfInBounds (Q.b+k) g1) w sl) (t++ae (Q.b+k) fn pos #[⟨.mark (.releaseMerge Q.E.mu),false,true⟩]):=by
 have O:Q.b+k<gs.size:=by rw[M.size];omega
 obtain⟨l,I,K,V⟩:=h.give H.n8 hk e;have us:(C.give k).ks k=.at .ud .run:=upd_same _ _ _;have R:Deaf t (Q.b+k)=0:=by rw[M.nf k hk (fun q y=>by rw[e]at y;cases y),e];rfl
 have hX:∀a,a≠Q.E.Mp->(((nd (k+1)).X a/\a≠Q.E.Mp)↔(nd (k+1)).X a):=fun a L=>⟨fun y=>y.1,fun y=>⟨y,L⟩⟩;have o:∀a,a≠Q.E.Mp->(((nd (k+1)).S a/\a≠Q.E.Mp)↔(nd (k+1)).S a):=fun a L=>⟨fun y=>y.1,fun y=>⟨y,L⟩⟩;have z:Q.MI (C.give k) (upd nd (k+1) ⟨fun a=>(nd (k+1)).S a/\a≠Q.E.Mp,fun a=>(nd (k+1)).X a/\a≠Q.E.Mp,g1,w⟩) (upd fu (k+1) f) (gs.setIfInBounds (Q.b+k) g1) w (t++ae (Q.b+k) fn pos #[⟨.mark (.releaseMerge Q.E.mu),false,true⟩]) q rel:=by
  refine M.BC (C':=C.give k) H.b0 hk rfl rfl rfl rfl (fun i U=>upd_ne _ _ U) rfl ?_ (fun i U _=>.refl _ _ _) (.refl _ _ _) (by have:=M.fuel (k+1) hk;omega) (ar I) (M.sets.turn hk o hX ⟨fun y=>absurd rfl y.2,fun y=>absurd rfl y.2⟩ (fun y=>absurd rfl y.2) (fun i U T u=>?_) H.rm) ?_ ?_ (fun _=>?_) (fun g r=>Deaf_other t (fun y=>r y.symm) _ qf) ?_ (fun _ _=>rfl) (pY M.seen (aj _) (tG (m:=.releaseMerge Q.E.mu) ⟨M.sets.n_ _ H.rf,nofun⟩))
  ·rw[us];exact⟨ai O,ht,fun y=>absurd rfl y⟩
  ·obtain⟨k',B,G⟩:=M.sets.mp i U u;rw[K]at G;cases G;exact T B
  ·exact⟨M.wd.mu,M.wd.wg,fun _=>by show Q.E.mr C.γ _;rw[V];exact A,M.wd.shut,M.wd.opn,M.wd.tape,M.wd.out⟩
  ·rw[gI.Qz H.rm hX,uE];have Z:=M.tr;rw[K]at Z;exact Z.unlock (g:=Q.b+k) (.inr ⟨aD _ _,by omega⟩) R
  ·rw[us,Deaf_own,R];rfl
  ·rw[us,M.xJ hk e];exact⟨(fun⟨p,s⟩=>by cases s),fun y=>y.elim⟩
 have Y:Calm Q.J (C.give k):=tO (s':=.at .ud .run) (k:=k) (m':=C.m) (c':=C.c) (v':=C.v) (ib:=C.wt) (ia:=C.ws) (kV:=C.γ) (j6:=C.dn) (jF:=none) N nofun nofun id fun _ y=>y;obtain⟨W,B,F,D,d⟩:=gI.MI.finish (g:=(nd (k+1)).g) H l z (.inl Y) Y.pB;exact⟨W,_,_,_,_,sl,_,_,rfl,F,D,d,.inl (by rw[(qG (fu:=fu) B).1];exact I)⟩
theorem gI.MI.BD(M:Q.MI C nd fu gs w t q rel)(G:Q.Laws)(hk:k<C.j)(W:C'.j=C.j)(Z:C'.L=C.L)(hd:C'.d=C.d)(A:C'.dm=C.dm)(F:∀i,i≠k->C'.ks i=C.ks i){w1:World}{ops:Array _}
  (N:Q.uq (Q.ch C k) (gs.setIfInBounds (Q.b+k) g1) (t++ops) k (nd (k+1)) (fu (k+1)) (C'.ks k))(O:∀S,gK Q.E.U S w w1)(V:w1.heap.size=w.heap.size)(Y:mu Q.J C'<=mu Q.J C)(tok:C'.tok=C.tok)(wd:Q.Wd C' w1)
  (tr:PT Q.b C.j Q.E.mu Q.E.st Q.i_ (Q.cls nd C.j C.L) (t++ops) (C.tok.map (Q.b+ ·)) kj)(own:∀op∈ops,op.g=Q.b+k)(R:(∀q,C'.ks k≠.qt q)->Deaf (t++ops) (Q.b+k)=A6 (C'.ks k))(K:(∃p,kj (Q.b+k)=some p)↔gI.xI (C'.ks k))(H:∀i,i≠k->kj (Q.b+i)=rel (Q.b+i))(low:∀op∈ops,Seen w.heap.size op):
  Q.MI C' nd fu (gs.setIfInBounds (Q.b+k) g1) w1 (t++ops) q kj:=by
 have:=M.BC G.b0 hk W Z hd A F rfl N (fun i I _=>O _) ((M.oh _ hk).trans (O _)) (aH Y (M.fuel _ hk)) Y (by rw[tD,V,tok];exact M.sets) wd (by rw[tD,tok];exact tr) R (fun g D=>Deaf_other t (fun y=>D y.symm) _ own) K H (pY M.seen (au V.symm) (by simp_all));rw[tD,tD]at this;omega
theorem gI.MI.akc(M:Q.MI C nd fu gs w t q rel)(R:Q.Laws)(h:CI Q.J Q.gL C)(F:Calm Q.J C)(hk:k<C.j)(e:C.ks k=.at .wr .run)(N:Env.oA Q.P (Q.E.ua Q.P 4) n g1)(fn:FuncId)(pos:String):
  Q.jA C nd fu q (crowd ((gs.map (woken Q.P (nd (k+1)).g g1 w)).setIfInBounds (Q.b+k) g1) w sl) (t++ae (Q.b+k) fn pos #[⟨.mark (.releaseMerge Q.E.st),false,true⟩]):=by
 have U:Q.b+k<gs.size:=by rw[M.size];omega
 have T:CI Q.J Q.gL (C.w1 k (.gT 4 n)):=h.slip hk e rfl rfl nofun nofun (fun y=>rfl) nofun rfl (fun _ _ y=>y) trivial (fun i n e=>by cases e;exact aj _) (aj _);have D:mu Q.J (C.w1 k (.gT 4 n))<mu Q.J C:=Eh R.n8 h.c1 (af hk h.jn) e (by show 5<6;omega);have us:(C.w1 k (.gT 4 n)).ks k=.gT 4 n:=upd_same _ _ _;have H:Deaf t (Q.b+k)=0:=by rw[M.nf k hk (fun q y=>by rw[e]at y;cases y),e];rfl
 have L:=M.BD (C':=C.w1 k (.gT 4 n)) (g1:=g1) (w1:=w) (ops:=ae (Q.b+k) fn pos #[⟨.mark (.releaseMerge Q.E.st),false,true⟩]) (kj:=upd rel (Q.b+k) (some t.size)) R hk rfl rfl rfl rfl (fun i I=>upd_ne _ _ I) (by
   rw[us];exact⟨g1,ai U,N⟩) (fun S=>.refl _ _ _) rfl (ar D) rfl (M.wd.cfg rfl rfl rfl rfl rfl (fun e=>⟨e,rfl⟩) rfl rfl rfl)
   (by
    rw[uE];exact M.tr.release ⟨aD _ _,by omega⟩ H (upd_same _ _ _) fun i I=>upd_ne _ _ I) qf (fun _=>by
   rw[us,Deaf_own,H];rfl) (by
   rw[us,upd_same];exact⟨fun _=>trivial,fun _=>⟨_,rfl⟩⟩) (fun i I=>upd_ne _ _ (by omega)) (tG (m:=.releaseMerge Q.E.st) ⟨M.sets.n_ _ R.rw,nofun⟩)
 have Y:Calm Q.J (C.w1 k (.gT 4 n)):=tO (s':=.gT 4 n) (k:=k) (m':=C.m) (c':=C.c) (v':=C.v) (ib:=C.wt) (ia:=C.ws) (kV:=C.γ) (j6:=C.dn) (jF:=C.tok) F nofun nofun id fun _ y=>y;obtain⟨B,V,A,K,O⟩:=gI.MI.finish (g:=(nd (k+1)).g) R T L (.inl Y) Y.pB;exact⟨B,_,_,_,_,sl,_,_,rfl,A,K,O,.inl (by rw[(qG (fu:=fu) V).1];exact D)⟩
theorem aiB{s s':gO Q.E}(hk:k<Q.J.n)(e:C.ks k=s)(F:nQ s'<nQ s)(A:Q.J.n<=8){Y:iB Q.E}(K:Y=C.w1 k s'\/Y=(C.w1 k s').oQ Q.J):Q.nu Y q<Q.nu C q:=by
 have D:=rG (s':=s') nQ _ hk e;have H:sumTo Q.J.n (fun i=>nQ (Y.ks i))=sumTo Q.J.n (fun i=>nQ (upd C.ks k s' i)):=by
  rcases K with rfl|rfl
  ·rfl
  ·exact sumTo_congr fun i _=>wo nQ (fun _ _ _=>rfl) _ _
 have R:pM Y.dm+sumTo Q.J.n (fun i=>pN (Y.ks i))<=9:=by
  have r1:∀m,pM m<=1:=fun m=>by cases m<;>simp[pM]
  have r2:∀s:gO Q.E,pN s<=1:=fun s=>by cases s<;>simp[pN,r1]
  have:=sumTo_le (f:=fun i=>pN (Y.ks i)) (j:=Q.J.n) fun i _=>r2 _;have:=r1 Y.dm;omega
 unfold gI.nu;omega
theorem ag8{s s':gO Q.E}(e:C.ks k=s)(K:∀pc md,s≠.at pc md)(H:∀pc md,s'≠.at pc md):Q.Df (C.w1 k s') fu=Q.Df C fu:=by
 funext i;cases i with
 |zero=>rfl
 |succ i=>
  show(match upd _ k s' i with|.at pc _=>Q.WS (Q.ch C i) _ pc|_=>fun _ _ _ _=>True)=(match C.ks i with|.at pc _=>Q.WS _ _ pc|_=>fun _ _ _ _=>True)
  by_cases Y:i=k
  ·subst Y;rw[upd_same,e];simp_all
  ·rw[upd_ne _ _ Y]
theorem gI.MI.TY(M:Q.MI C nd fu gs w t q rel)(O:Q.Laws)(h:CI Q.J Q.gL C)(V:Calm Q.J C){s s':gO Q.E}(hk:k<C.j)(e:C.ks k=s){g:Goroutine}(Y:∀e∈es,e.mute=true)
  (R:(∃i n,s=.gT i (n+1)/\s'=.gT i n/\es=#[]/\Env.oA Q.P (Q.E.ua Q.P i) n g1)\/(∃n,s=.qt (n+1)/\s'=.qt n/\QuitsD Q.P n (deafBehind (Deaf t (Q.b+k)) es) g1))(fn:FuncId)(pos:String):
  Q.jA C nd fu q (crowd ((gs.map (woken Q.P g g1 w)).setIfInBounds (Q.b+k) g1) w sl) (t++ae (Q.b+k) fn pos es):=by
 have B:Q.b+k<gs.size:=by rw[M.size];omega
 have U:k<Q.J.n:=af hk h.jn;have na:∀pc md,s≠.at pc md:=by rcases R with⟨i,n,rfl,_⟩|⟨n,rfl,_⟩<;>nofun
 have K:∀pc md,s'≠.at pc md:=by rcases R with⟨i,n,_,rfl,_⟩|⟨n,_,rfl,_⟩<;>nofun
 have L:iK s=.out/\iK s'=.out:=by rcases R with⟨i,n,rfl,rfl,_⟩|⟨n,rfl,rfl,_⟩<;>exact⟨rfl,rfl⟩
 have hr:l_ s'=l_ s/\kS s'=kS s/\jh s'=jh s/\jj s'=jj s/\Gone s/\s'≠.no/\(∀y,qS y s=0)/\nQ s'<nQ s:=by
  rcases R with⟨i,n,rfl,rfl,_⟩|⟨n,rfl,rfl,_⟩
  ·exact⟨rfl,rfl,rfl,rfl,trivial,nofun,fun _=>rfl,by show n<n+1;omega⟩
  ·exact⟨rfl,rfl,rfl,rfl,trivial,nofun,fun _=>rfl,by show n<n+1;omega⟩
 have d:CI Q.J Q.gL (C.w1 k s'):=h.slip hk e L.1 L.2 hr.2.2.2.2.2.1 K hr.2.2.2.2.2.2.1 (fun γ md=>na _ _) (by rw[hr.2.1]) (fun _ _ y=>by rw[hr.2.2.1,hr.2.2.2.1];exact y) hr.2.2.2.2.1 (fun i n e'=>by
  rcases R with⟨i',l,rfl,rfl,_⟩|⟨l,rfl,rfl,_⟩
  ·cases e';exact h.gT k _ _ e
  ·cases e') (aj _)
 have F:mu Q.J (C.w1 k s')=mu Q.J C:=Ru U e hr.1 (L.2.trans L.1.symm);have us:(C.w1 k s').ks k=s':=upd_same _ _ _;have Z:=M.BD (C':=C.w1 k s') (g1:=g1) (w1:=w) (ops:=ae (Q.b+k) fn pos es) (kj:=rel) O hk rfl rfl rfl rfl (fun i f=>upd_ne _ _ f) (by
   rw[us];rcases R with⟨i,n,rfl,rfl,_,I⟩|⟨n,rfl,rfl,I⟩
   ·exact⟨g1,ai B,I⟩
   ·exact⟨g1,ai B,by rw[Deaf_own];exact I⟩) (fun S=>.refl _ _ _) rfl (au F) rfl (M.wd.cfg rfl rfl rfl rfl rfl (fun e=>⟨e,rfl⟩) rfl rfl rfl)
   (M.tr.still fun op gC=>by
    obtain⟨ev,D,rfl⟩:=qa gC;refine⟨touch_mute (Y ev D),?_,?_,by show Q.b+k<Q.b+C.j;omega⟩
    ·intro y;have:=Y ev D;obtain⟨loc,wr,o⟩:=ev;cases loc<;>simp_all[Event.mute,ah]
    ·intro y;have:=Y ev D;obtain⟨loc,wr,o⟩:=ev;cases loc<;>simp_all[Event.mute,ah]) qf (fun I=>by
   rw[us];rcases R with⟨i,n,rfl,rfl,rfl,_⟩|⟨n,rfl,rfl,_⟩
   ·rw[Deaf_own];have:=M.nf k hk (fun q y=>by rw[e]at y;cases y);rw[e]at this;exact this
   ·rw[us]at I;exact absurd rfl (I n)) (by
   rw[us,M.pC k hk,e];rcases R with⟨i,n,rfl,rfl,_⟩|⟨n,rfl,rfl,_⟩<;>exact Iff.rfl) (fun _ _=>rfl) (fun op gC=>by
   obtain⟨ev,D,rfl⟩:=qa gC;exact⟨low_mute (Y ev D) _,fun a=>OK (Y ev D) a⟩)
 have H:Calm Q.J (C.w1 k s'):=tO (s':=s') (k:=k) (m':=C.m) (c':=C.c) (v':=C.v) (ib:=C.wt) (ia:=C.ws) (kV:=C.γ) (j6:=C.dn) (jF:=C.tok) V (fun _=>K _ _) (fun _=>K _ _) id fun _ y=>y;obtain⟨X,T,N,A,G⟩:=gI.MI.finish (g:=g) O d Z (.inl H) H.pB;obtain⟨W,z⟩:=qG (fu:=fu) T;exact⟨X,_,_,_,_,sl,_,_,rfl,N,A,G,.inr ⟨W.trans F,z.trans (ag8 e na K),.inr ⟨rfl,aiB U e hr.2.2.2.2.2.2.2 O.n8 T⟩⟩⟩
end
section
variable{Q:gI}{nd:Nat->Nd}{fu:Nat->Nat}{C C':iB Q.E}{w w':World}{gs I:Array Goroutine}{t t':Trace}{q:Nat->Nat}{rel kj:Nat->Option Nat}{sl:Option (Nat×Nat)}
theorem gI.MI.wd4(M:Q.MI C nd fu gs w t q rel)(R:Q.Laws)(h:CI Q.J Q.gL C)(A:Calm Q.J C)(hk:k<C.j)(e:C.ks k=.gT 4 0){g:Goroutine}(F:Env.oA Q.P (Q.E.ua Q.P 3) n g1)(fn:FuncId)(pos:String):
  Q.jA C nd fu q (crowd ((gs.map (woken Q.P g g1 w)).setIfInBounds (Q.b+k) g1) w sl) (t++ae (Q.b+k) fn pos #[⟨.mark .disable,false,true⟩]):=by
 have I:Q.b+k<gs.size:=by rw[M.size];omega
 have N:CI Q.J Q.gL (C.w1 k (.gT 3 n)):=h.slip hk e rfl rfl nofun nofun (fun y=>rfl) nofun rfl (fun _ _ y=>y) trivial (fun i n e=>by cases e;omega) (aj _);have H:mu Q.J (C.w1 k (.gT 3 n))<mu Q.J C:=Eh R.n8 h.c1 (af hk h.jn) e (by show 4<5;omega);have us:(C.w1 k (.gT 3 n)).ks k=.gT 3 n:=upd_same _ _ _;have B:=M.BD (C':=C.w1 k (.gT 3 n)) (g1:=g1) (w1:=w) (ops:=ae (Q.b+k) fn pos #[⟨.mark .disable,false,true⟩]) (kj:=rel) R hk rfl rfl rfl rfl (fun i T=>upd_ne _ _ T) (by
   rw[us];exact⟨g1,ai I,F⟩) (fun S=>.refl _ _ _) rfl (ar H) rfl (M.wd.cfg rfl rfl rfl rfl rfl (fun e=>⟨e,rfl⟩) rfl rfl rfl)
   (M.Jq (by omega) fn pos (.inl rfl)) qf (fun _=>by
   rw[us,Deaf_own,M.nf k hk (fun q y=>by rw[e]at y;cases y),e];rfl) (by
   rw[us,M.pC k hk,e];exact Iff.rfl) (fun _ _=>rfl) (tG ⟨trivial,nofun⟩)
 have Y:Calm Q.J (C.w1 k (.gT 3 n)):=tO (s':=.gT 3 n) (k:=k) (m':=C.m) (c':=C.c) (v':=C.v) (ib:=C.wt) (ia:=C.ws) (kV:=C.γ) (j6:=C.dn) (jF:=C.tok) A nofun nofun id fun _ y=>y;obtain⟨U,O,D,K,L⟩:=gI.MI.finish (g:=g) R N B (.inl Y) Y.pB;exact⟨U,_,_,_,_,sl,_,_,rfl,D,K,L,.inl (by rw[(qG (fu:=fu) O).1];exact H)⟩
theorem gI.MI.Bi(M:Q.MI C nd fu gs w t q rel)(A:Q.Laws)(h:CI Q.J Q.gL C)(F:Calm Q.J C){s':gO Q.E}(hk:k<C.j)(e:C.ks k=.gT i 0)(K:i<=3){g:Goroutine}{w1:World}(W:Env.Eff Q.E.Wg w w1)(Z:Q.E.WgAt w1 v' ib ia)(Y:Env.EvA Q.E.Wg es)
  (R:(∃i' n,s'=.gT i' n/\i'<i/\Env.oA Q.P (Q.E.ua Q.P i') n g1)\/(∃n,s'=.qt n/\QuitsD Q.P n 1 g1))(pL:v'+kS s'=C.v+kS (.gT i 0:gO Q.E))(ph:∀u r,nD C.d C.v C.wt C.ws (u+jh (.gT i 0:gO Q.E)) (r+jj (.gT i 0:gO Q.E))->nD C.d v' ib ia (u+jh s') (r+jj s'))(hvd:ir Q.J v' C.d<=ir Q.J C.v C.d)(f:v'<=C.v)
  (o:(C.dm=.blk->C.ws=0->ia=0)\/(mayWake Q.P g=true/\(g1.status=.running\/g1.status=.finished)))(fn:FuncId)(pos:String):
  Q.jA C nd fu q (crowd ((gs.map (woken Q.P g g1 w1)).setIfInBounds (Q.b+k) g1) w1 sl) (t++ae (Q.b+k) fn pos es):=by
 have T:Q.b+k<gs.size:=by rw[M.size];omega
 have z:k<Q.J.n:=af hk h.jn;have H:∀pc md,s'≠.at pc md:=by rcases R with⟨i,n,rfl,_⟩|⟨n,rfl,_⟩<;>nofun
 have I:CI Q.J Q.gL (C.wk k s' C.d C.dm C.m C.c v' ib ia C.γ C.dn C.tok):=h.slip hk e rfl (by rcases R with⟨i,n,rfl,_⟩|⟨n,rfl,_⟩<;>rfl) (by rcases R with⟨i,n,rfl,_⟩|⟨n,rfl,_⟩<;>nofun) H (fun y=>rfl) nofun pL ph trivial (fun i' n e'=>by
  rcases R with⟨i,n,rfl,X,_⟩|⟨n,rfl,_⟩
  ·cases e';omega
  ·cases e') f
 have V:mu Q.J (C.wk k s' C.d C.dm C.m C.c v' ib ia C.γ C.dn C.tok)<mu Q.J C:=by
  refine xF A.n8 h.c1 ?_;have:=xh (C:=C) (J:=Q.J) (s':=s') (d':=C.d) (oG:=C.dm) (m':=C.m) (c':=C.c) (v':=v') (ib:=ib) (ia:=ia) (kV:=C.γ) (j6:=C.dn) (jF:=C.tok) z e;have hr:l_ s'<i+1:=by
   rcases R with⟨i',n,rfl,X,_⟩|⟨n,rfl,_⟩
   ·show i'+1<i+1;omega
   ·show 0<i+1;omega
  have hr0:l_ (gO.gT i 0:gO Q.E)=i+1:=rfl;omega
 have O:Deaf t (Q.b+k)=1:=by
  rw[M.nf k hk (fun q y=>by rw[e]at y;cases y),e];show(if i<=3 then 1 else 0)=1
  rw[if_pos K]
 have us:(C.wk k s' C.d C.dm C.m C.c v' ib ia C.γ C.dn C.tok).ks k=s':=upd_same _ _ _;have M1:=M.BD (C':=C.wk k s' C.d C.dm C.m C.c v' ib ia C.γ C.dn C.tok) (g1:=g1) (w1:=w1) (ops:=ae (Q.b+k) fn pos es) (kj:=rel) A hk rfl rfl rfl rfl (fun i K=>upd_ne _ _ K) (by
   rw[us];rcases R with⟨i',n,rfl,_,D⟩|⟨n,rfl,D⟩
   ·exact⟨g1,ai T,D⟩
   ·exact⟨g1,ai T,by rw[Deaf_own,C6 Y,O];exact D⟩) (fun S=>IU S M.wd.wg Z W) W.size (ar V) rfl ((M.wd.gp A M.sets h.len W Z).cfg rfl rfl rfl rfl rfl (fun e=>⟨e,rfl⟩) rfl rfl rfl)
   (M.tr.app (.inr ⟨aD _ _,by omega⟩) (Il Y (.inr rfl) _) (fun _ p s i x K hx hm=>by
    obtain⟨I,U,a,h3,h4,X⟩:=XA Y (by omega) i x K hx hm;exact⟨A.Ln _ (by rw[h3];exact⟨.inr h4,X⟩),I,U⟩)) qf (fun D=>by
   rw[us,Deaf_own,C6 Y,O];rcases R with⟨i',n,rfl,X,_⟩|⟨n,rfl,_⟩
   ·show 1=(if i'<=3 then 1 else 0)
    rw[if_pos (by omega)]
   ·rw[us]at D;exact absurd rfl (D n)) (by
   rw[us,M.pC k hk,e];rcases R with⟨i',n,rfl,_⟩|⟨n,rfl,_⟩<;>exact Iff.rfl) (fun _ _=>rfl) (Im Y (M.sets.n_ _ A.rw) _)
 have s:∀i,C.dm=.hD->C.d=.send C.L i->∀pc,(C.wk k s' C.d C.dm C.m C.c v' ib ia C.γ C.dn C.tok).ks (i%Q.J.n)≠.at pc .hD:=by
  intro i I U l K;change upd C.ks k _ _=_ at K;by_cases e:i%Q.J.n=k
  ·rw[e,upd_same]at K;exact absurd K (H _ _)
  ·rw[upd_ne _ _ e]at K;exact F.pB i I U l K
 have B:Calm Q.J (C.wk k s' C.d C.dm C.m C.c v' ib ia C.γ C.dn C.tok)\/(mayWake Q.P g=true/\(g1.status=.running\/g1.status=.finished)):=
  o.imp (fun y=>tO (s':=s') (k:=k) (m':=C.m) (c':=C.c) (v':=v') (ib:=ib) (ia:=ia) (kV:=C.γ) (j6:=C.dn) (jF:=C.tok) F (fun _=>H _ _) (fun _=>H _ _) id y) id
 obtain⟨C2,U,G,N,M2⟩:=gI.MI.finish (g:=g) A I M1 B s;exact⟨C2,_,_,_,_,sl,_,_,rfl,G,N,M2,.inl (by rw[(qG (fu:=fu) U).1];exact V)⟩
theorem gI.MI.offers(M:Q.MI C nd fu gs w t q rel)(N:Q.Laws){g:Goroutine}(H:gs[i]?=some g)(c:Nat)(send:Bool):offersAt g c send=[]\/(i=0/\C.dm=.hD)\/∃k pc,i=Q.b+k/\k<C.j/\C.ks k=.at pc .hD:=by
 have P:=M.size;have O:=(Array.getElem?_eq_some_iff.1 H).1;rcases Nat.eq_zero_or_pos i with rfl|A
 ·have Y:=M.g0;have f0:=M.sL (ao _);cases B:C.dm with
  |run=>
   rw[B]at Y;obtain rfl:=Option.some.inj (H.symm.trans Y.1);exact .inl (offersAt_of_not_blocked (by rw[tw Y.2 fun y=>(Cr f0 y).1];nofun) _ _)
  |blk=>
   rw[B]at Y;obtain rfl:=Option.some.inj (H.symm.trans Y.1);unfold offersAt;simp[Y.2.1]
  |hD=>exact .inr (.inl ⟨rfl,rfl⟩)
  |jS=>rw[B]at Y;exact Y.elim
 ·by_cases U:i<Q.b
  ·have:=(M.old i g A U H).status;exact .inl (offersAt_of_not_blocked (by rcases this with y|y<;>rw[y]<;>nofun) _ _)
  ·obtain⟨k,rfl⟩:∃k,i=Q.b+k:=⟨i-Q.b,by omega⟩;have hk:k<C.j:=by omega
   have K:=M.wk k hk;have F:=M.sL hk;cases I:C.ks k with
   |no=>rw[I]at K;exact K.elim
   |«at» pc md=>
    rw[I]at K;obtain⟨D,R,L⟩:=K;obtain rfl:=Option.some.inj (H.symm.trans D);cases md with
    |run=>exact .inl (offersAt_of_not_blocked (by show(nd _).g.status≠_;rw[tw R fun y=>(vP N F y).1];nofun) _ _)
    |blk=>
     have:=(vP N F (L nofun)).2;unfold offersAt;simp[J_,this]
    |hD=>exact .inr (.inr ⟨k,pc,rfl,hk,I⟩)
    |jS=>exact .inl (offersAt_of_not_blocked (by nofun) _ _)
   |gT i n=>
    rw[I]at K;obtain⟨J,D,R⟩:=K;obtain rfl:=Option.some.inj (H.symm.trans D);exact .inl (offersAt_of_not_blocked (by rw[Cs R];nofun) _ _)
   |qt S=>
    rw[I]at K;obtain⟨J,D,R⟩:=K;obtain rfl:=Option.some.inj (H.symm.trans D);exact .inl (offersAt_of_not_blocked (by rcases R.status with y|y<;>rw[y]<;>nofun) _ _)
theorem gI.MI.zi(M:Q.MI C nd fu gs w t q rel){pc:Q.E.kH}(hk:k<C.j)(e:C.ks k=.at pc .hD):gs[Q.b+k]?=some (parked (nd (k+1)).g #[rcase (Q.ch C k) Q.E.zc] (.recv true)):=by
 have:=M.wk k hk;rw[e]at this;exact this.1
theorem yZ(h:CI Q.J Q.gL C){k':Nat}(hk:k<C.j)(Y:k'<C.j)(e:Q.ch C k=Q.ch C k'):k=k':=by
 unfold gI.ch at e;rw[aM,aM,aV (by rw[h.len];exact hk),aV (by rw[h.len];omega)]at e;have K:=List.pairwise_iff_getElem.1 h.BB;have e':=e;rcases Nat.lt_trichotomy k k' with y|y|y
 ·simp_all
 ·exact y
 ·exact absurd e'.symm (K k' k _ _ y)
theorem gI.MI.ag9(M:Q.MI C nd fu gs w t q rel)(H:Q.Laws)(h:CI Q.J Q.gL C)(hk:k<C.j)(F:∀pc,C.ks k≠.at pc .hD)(A:i0=0):partners (gs.setIfInBounds i0 ph) (Q.ch C k) false=[]:=by
 refine partners_nil fun i g D=>?_;rcases getElem?_stand gs i0 i g D with⟨_,rfl⟩|⟨R,Y⟩
 ·rfl
 ·rcases M.offers H Y _ _ with y|⟨rfl,_⟩|⟨k',pc,rfl,K,e⟩
  ·exact y
  ·omega
  ·obtain rfl:=Option.some.inj (Y.symm.trans (M.zi K e));rw[offersAt_parked_recv,if_neg];intro e';have:=yZ h K hk e';simp_all
theorem gI.MI.noSend(M:Q.MI C nd fu gs w t q rel)(F:Q.Laws)(h:CI Q.J Q.gL C)(hk:k<C.j)(O:∀i,C.dm=.hD->C.d=.send C.L i->i%Q.J.n≠k):partners (gs.setIfInBounds i0 ph) (Q.ch C k) true=[]:=by
 refine partners_nil fun i g N=>?_;rcases getElem?_stand gs i0 i g N with⟨_,rfl⟩|⟨P,Y⟩
 ·rfl
 ·rcases M.offers F Y _ _ with y|⟨rfl,I⟩|⟨k',pc,rfl,K,e⟩
  ·exact y
  ·have R:=M.g0;rw[I]at R;obtain⟨_,i,c,x,z,B,A,S,D,T,U,V⟩:=R;obtain rfl:=Option.some.inj (Y.symm.trans U);rw[offersAt_parked_send,if_neg];intro e';subst e';have H:=by
    have:=(aW.1 D).1;rw[h.len]at this;omega
   have:Q.ch C (i%Q.J.n)=Q.ch C k:=by
    unfold gI.ch at D⊢;simp_all
   exact O i I A (yZ h H hk this)
  ·obtain rfl:=Option.some.inj (Y.symm.trans (M.zi K e));rw[offersAt_parked_recv']
theorem gI.MI.ae2(M:Q.MI C nd fu gs w t q rel)(H:Q.Laws)(h:CI Q.J Q.gL C){pc:Q.E.kH}(hk:k<C.j)(e:C.ks k=.at pc .hD):partners (gs.setIfInBounds 0 ph) (Q.ch C k) false=[(Q.b+k,0)]:=by
 have F:=H.b0;have U:=M.zi hk e;rw[partners_one (j:=Q.b+k) (by rw[nH (by omega)];exact U) (fun i g A I=>?_),offersAt_parked_recv,if_pos rfl]
 ·rfl
 ·rcases getElem?_stand gs 0 i g I with⟨_,rfl⟩|⟨D,Y⟩
  ·rfl
  ·rcases M.offers H Y _ _ with y|⟨rfl,_⟩|⟨k',B,rfl,K,e'⟩
   ·exact y
   ·omega
   ·obtain rfl:=Option.some.inj (Y.symm.trans (M.zi K e'));rw[offersAt_parked_recv,if_neg];intro R;have:=yZ h K hk R;omega
theorem gI.MI.ae3(M:Q.MI C nd fu gs w t q rel)(H:Q.Laws)(R:gs[0]?=some (parked g0 #[scase (Q.ch C k) v z] .send)):partners (gs.setIfInBounds (Q.b+k) ph) (Q.ch C k) true=[(0,0)]:=by
 have B:=H.b0;rw[partners_one (j:=0) (by rw[nH (by omega)];exact R) (fun i g A I=>?_),offersAt_parked_send,if_pos rfl]
 ·rfl
 ·rcases getElem?_stand gs _ i g I with⟨_,rfl⟩|⟨D,Y⟩
  ·rfl
  ·rcases M.offers H Y _ _ with y|⟨rfl,_⟩|⟨k',U,rfl,K,e'⟩
   ·exact y
   ·omega
   ·obtain rfl:=Option.some.inj (Y.symm.trans (M.zi K e'));rw[offersAt_parked_recv']
theorem gI.MI.hand(M:Q.MI C nd fu gs w t q rel)(G:Q.Laws)(h:CI Q.J Q.gL C)(f:Calm Q.J C){x f0:Nat}{md:Md}(hk:k<C.j)(e:C.ks k=.at .recv md)(hd:C.d=.send C.L i)(hki:i%Q.J.n=k)(hx:Q.J.gE[i]?=some x)(hf:fu 0=f0+1){ops:Array MemOp}(hs:ot w (Q.ch C k) s)
  (h0:I[0]?=some g0)(Z:I[Q.b+k]?=some gk)(ho:∀i,i≠0->i≠Q.b+k->I[i]?=gs[i]?)(m:I.size=gs.size)
  (t0:Q.E.Tree Q.P true (Q.DS f0 (Q.J.sends C.L (i+1))) (nd 0).S (nd 0).X g0 (w.setChan (Q.ch C k) 0 #[] false (s+1) (s+1) false))(tk:Q.E.Tree Q.P false (Q.WS (Q.ch C k) (fu (k+1)) (.ld x)) (nd (k+1)).S (nd (k+1)).X gk (w.setChan (Q.ch C k) 0 #[] false (s+1) (s+1) false))
  (p:∀op∈ops,op.act.touch?=none/\op.act≠.mark (.release Q.E.mu)/\op.act≠.mark (.release Q.E.st)/\op.g<Q.b+C.j)(R:∀g,Deaf (t++ops) g=Deaf t g)(o:∀op∈ops,Seen w.heap.size op):
  Q.jA C nd fu q (crowd I (w.setChan (Q.ch C k) 0 #[] false (s+1) (s+1) false) sl) (t++ops):=by
 have hb:=G.b0;obtain⟨hC,c⟩:=h.hand G.n0 G.n8 hk e hd hx;have us:(C.hand Q.J k x i).ks k=.at (.ld x) .run:=upd_same _ _ _;have un:∀i',i'≠k->(C.hand Q.J k x i).ks i'=C.ks i':=fun i' Y=>upd_ne _ _ Y;have l:∀i',i'<=C.j->¬(nd i').S (Q.ch C k):=(M.sets.oe _ (qM h.len hk)).2.2.2;have A:(w.setChan (Q.ch C k) 0 #[] false (s+1) (s+1) false).heap.size=w.heap.size:=by simp[ay]
 have z:=(M.sets.oe _ (qM h.len hk)).1;have W:iR Q.J (Q.J.sends C.L (i+1))=iR Q.J C.d:=by
  rw[hd];rcases uO (J:=Q.J) (L:=C.L) (i:=i+1)with⟨_,B⟩|⟨_,B⟩<;>rw[B]<;>rfl
 have r:px (Q.J.sends C.L (i+1))=px C.d:=by
  rw[hd];rcases uO (J:=Q.J) (L:=C.L) (i:=i+1)with⟨_,B⟩|⟨_,B⟩<;>rw[B]<;>rfl
 have H:∀a,a≠Q.ch C k->(w.setChan (Q.ch C k) 0 #[] false (s+1) (s+1) false).heap[a]?=w.heap[a]?:=fun a ha=>by
  simp only[ay];rw[aJ (fun y=>ha y.symm)]
 have D:=M.sets.oe _ (qM h.len hk)
 let n0:Nd:=⟨(nd 0).S,(nd 0).X,g0,w.setChan (Q.ch C k) 0 #[] false (s+1) (s+1) false⟩
 let U:Nd:=⟨(nd (k+1)).S,(nd (k+1)).X,gk,w.setChan (Q.ch C k) 0 #[] false (s+1) (s+1) false⟩
 have F:upd (upd nd 0 n0) (k+1) U 0=n0:=by rw[upd_ne _ _ (by omega),upd_same]
 have N:upd (upd nd 0 n0) (k+1) U (k+1)=U:=upd_same _ _ _;have O:∀i',i'≠0->i'≠k+1->upd (upd nd 0 n0) (k+1) U i'=nd i':=fun i' Z B=>by rw[upd_ne _ _ B,upd_ne _ _ Z]
 have T:upd fu 0 f0 0=f0:=upd_same _ _ _;have V:∀i',i'≠0->upd fu 0 f0 i'=fu i':=fun i' Z=>upd_ne _ _ Z;have M1:Q.MI (C.hand Q.J k x i) (upd (upd nd 0 n0) (k+1) U) (upd fu 0 f0) I (w.setChan (Q.ch C k) 0 #[] false (s+1) (s+1) false) (t++ops) q rel:=by
  refine⟨m.trans M.size,?_,fun i' Y=>?_,fun i' g Y u hg=>?_,fun i' Y=>?_,fun i' Y=>?_,?_,?_,?_,?_,fun i' Y hq=>?_,fun i' Y=>?_,fun i' Y=>?_,M.vm,pY M.seen (au A.symm) (by rw[A];exact o)⟩
  ·rw[F,T];exact⟨h0,t0⟩
  ·rw[V _ (by omega)];by_cases K:i'=k
   ·subst K;rw[N,us];exact⟨Z,tk,fun y=>absurd rfl y⟩
   ·rw[O _ (by omega) (by omega),un i' K];exact(M.wk i' Y).keep (ho _ (by omega) (by omega)) (R _)
  ·rw[ho i' (by omega) (by omega)]at hg;rw[R];exact M.old i' g Y u hg
  ·by_cases K:i'=0
   ·subst K;rw[T];have:=M.fuel 0 (ao _);omega
   ·rw[V _ K];exact aH (ar c) (M.fuel i' Y)
  ·by_cases K:i'=0
   ·subst K;rw[F];exact .refl _ _ _
   ·by_cases ek:i'=k+1
    ·subst ek;rw[N];exact .refl _ _ _
    ·rw[O _ K ek];exact(M.oh i' Y).trans (vW (l i' Y))
  ·rw[A];exact(M.sets.same (i:=0) (n':=n0) rfl rfl).same (i:=k+1) (n':=U) (by rw[upd_ne _ _ (by omega)]) (by rw[upd_ne _ _ (by omega)])
  ·have hF:Q.E.Fd≠Q.ch C k:=fun y=>D.2.1 (y▸G.rf);have hW:Q.E.Wg≠Q.ch C k:=fun y=>D.2.1 (y▸G.rw);refine⟨?_,?_,fun y=>?_,fun i' Y hc=>?_,fun i' Y hc=>?_,M.wd.tape,M.wd.out⟩
   ·have:=M.wd.mu;unfold Env.MuAt at this⊢;rw[H _ hF];exact this
   ·have:=M.wd.wg;unfold Env.WgAt at this⊢;rw[H _ hW];exact this
   ·rw[H _ fun y=>D.2.2.1 y.symm];exact M.wd.map y
   ·have:¬i'<iR Q.J C.d:=by rw[hd];exact aI _
    exact absurd (W▸hc) this
   ·by_cases K:i'=k
    ·subst K;exact⟨s+1,by show(w.setChan _ 0 #[] false (s+1) (s+1) false).heap[Q.ch C i']?=_;simp only[ay];rw[ai z]⟩
    ·obtain⟨s',v⟩:=M.wd.opn i' Y (by rw[hd];exact aI _);refine⟨s',?_⟩;show(w.setChan _ 0 #[] false (s+1) (s+1) false).heap[Q.ch C i']?=_
     rw[H _ fun y=>K (yZ h Y hk y)];exact v
  ·have:Q.cls (upd (upd nd 0 n0) (k+1) U) C.j C.L=Q.cls nd C.j C.L:=by
    unfold gI.cls;rw[gI.Dp (i:=k+1) (n':=U) (by rw[upd_ne _ _ (by omega)]),gI.Dp (i:=0) (n':=n0) rfl]
   show PT Q.b C.j _ _ _ (Q.cls (upd (upd nd 0 n0) (k+1) U) C.j C.L) _ (C.tok.map (Q.b+ ·)) rel
   rw[this];exact M.tr.still p
  ·rw[R,M.deaf0];exact r.symm
  ·rw[R];by_cases K:i'=k
   ·subst K;rw[us,M.nf i' hk (fun q y=>by rw[e]at y;cases y),e];rfl
   ·rw[un i' K]at hq⊢;exact M.nf i' Y hq
  ·rw[R];exact M.above i' Y
  ·rw[M.pC i' Y];by_cases K:i'=k
   ·subst K;rw[us,e];exact Iff.rfl
   ·rw[un i' K]
 refine⟨_,_,_,_,_,sl,_,_,rfl,hC,⟨fun i' pc Y=>?_,fun i' pc Y=>?_,nofun,nofun⟩,M1,.inl c⟩
 ·by_cases K:i'=k
  ·subst K;rw[us]at Y;cases Y
  ·rw[un i' K]at Y;exact f.blk i' pc Y
 ·by_cases K:i'=k
  ·subst K;rw[us]at Y;cases Y
  ·rw[un i' K]at Y;show¬i'<iR Q.J (Q.J.sends C.L (i+1))
   rw[W];exact f.hD i' pc Y
theorem Au{ops:Array MemOp}(h:∀op∈ops,op.act≠.mark .disable/\op.act≠.mark .enable)(g:Nat):Deaf (t++ops) g=Deaf t g:=by
 obtain⟨l⟩:=ops;rw[Deaf_append];have:∀(l:List _) (d:Nat),(∀op∈l,op.act≠.mark .disable/\op.act≠.mark .enable)->l.foldl (deafStep g) d=d:=by
  intro l;induction l with
  |nil=>intro d _;rfl
  |cons a l H=>
   intro d Y;rw[List.foldl_cons];have K:=Y a (by simp);have:deafStep g d a=d:=by
    unfold deafStep;simp_all
   simp_all
 simp_all
theorem gI.MI.aiC(M:Q.MI C nd fu gs w t q rel)(A:Q.Laws)(h:CI Q.J Q.gL C)(H:Calm Q.J C){md:Md}(hk:k<C.j)(e:C.ks k=.at .recv md)(F:k<iR Q.J C.d)(N:∀f,Q.E.Tree Q.P false (Q.WS (Q.ch C k) f .wr) (nd (k+1)).S (nd (k+1)).X gk w)(fn:FuncId)(pos:String):
  Q.jA C nd fu q (crowd (gs.setIfInBounds (Q.b+k) gk) w sl) (t++#[{g:=Q.b+k,fn,pos,act:=.recvClosed (Q.ch C k)}]):=by
 have R:Q.b+k<gs.size:=by rw[M.size];omega
 obtain⟨U,Y⟩:=h.shut A.n8 hk e F;have us:(C.w1 k (.at .wr .run)).ks k=.at .wr .run:=upd_same _ _ _;have D:=Au (t:=t) (ops:=#[({g:=Q.b+k,fn,pos,act:=.recvClosed (Q.ch C k)}:MemOp)]) (mj ⟨nofun,nofun⟩);have I:=M.gy (C':=C.w1 k (.at .wr .run)) (f':=fu (k+1)) (g1:=gk) (w1:=w) (ops:=#[{g:=Q.b+k,fn,pos,act:=.recvClosed (Q.ch C k)}]) (kj:=rel) A hk rfl rfl rfl rfl (fun i B=>upd_ne _ _ B) (by
   rw[us];exact⟨ai R,N _,fun y=>absurd rfl y⟩) (fun S=>.refl _ _ _) rfl (aH (ar Y) (M.fuel (k+1) hk)) (ar Y) rfl (M.wd.cfg rfl rfl rfl rfl rfl (fun e=>⟨e,rfl⟩) rfl rfl rfl)
   (M.tr.still (mj ⟨rfl,nofun,nofun,by show Q.b+k<Q.b+C.j;omega⟩)) (mj rfl) (fun _=>by
   rw[us,D,M.nf k hk (fun q y=>by rw[e]at y;cases y),e];rfl) (by
   rw[us,M.xJ hk e];exact⟨(fun⟨p,L⟩=>by cases L),fun y=>y.elim⟩) (fun _ _=>rfl) (mj ⟨(M.sets.oe _ (qM h.len hk)).1,nofun⟩)
 have K:Calm Q.J (C.w1 k (.at .wr .run)):=tO (s':=.at .wr .run) (k:=k) (m':=C.m) (c':=C.c) (v':=C.v) (ib:=C.wt) (ia:=C.ws) (kV:=C.γ) (j6:=C.dn) (jF:=C.tok) H nofun nofun id fun _ y=>y;exact⟨_,_,_,_,_,sl,_,_,rfl,U,K,I,.inl Y⟩
end
section
variable{Q:gI}{nd:Nat->Nd}{fu:Nat->Nat}{C C':iB Q.E}{w w':World}{gs I:Array Goroutine}{t t':Trace}{q:Nat->Nat}{rel kj:Nat->Option Nat}{sl:Option (Nat×Nat)}
theorem gI.MI.pO(M:Q.MI C nd fu gs w t q rel)(Y:Q.Laws):0<gs.size:=by rw[M.size];have:=Y.b0;omega
theorem gI.MI.aiD(M:Q.MI C nd fu gs w t q rel)(Y:Q.Laws)(h:CI Q.J Q.gL C)(K:Calm Q.J C)(R:C.dm=.run){w1:World}{es:Array _}(G:¬Q.DS (fu 0) C.d (nd 0).S (nd 0).X (nd 0).g (nd 0).w)
  (gq:stepG Q.P true (nd 0).g w=.go g1 w1 es)(hd:kh Q.E.U (nd 0).S (nd 0).X w w1 es S1 X1)(W:Tz Q.P true Q.E.U (Q.DS (fu 0) C.d) S1 X1 g1 w1)(fn:FuncId)(pos:String):
  Q.jA C nd fu q (crowd ((gs.map (woken Q.P (nd 0).g g1 w1)).setIfInBounds 0 g1) w1 sl) (t++ae 0 fn pos es):=by
 have A:=M.pO Y;have L:Q.MI C (upd nd 0 ⟨S1,X1,g1,w1⟩) (upd fu 0 (fu 0)) (gs.setIfInBounds 0 g1) w1 (t++ae 0 fn pos es) q rel:=by
  refine M.m0 Y.b0 rfl rfl rfl rfl ?_ (fun i I B=>Qy M.sets (ao _) I (fun y=>B y.symm) hd) (.refl _ _ _) (M.fuel _ (ao _)) (aj _) (M.sets.did (ao _) hd) (M.wd.did M.sets Y h.len (ao _) hd) ?_ ?_ (fun g Z=>Deaf_other t (fun y=>Z y.symm) _ qf) (pY M.seen hd.grow (Qx hd (M.sets.low _ (ao _)) _))
  ·rw[R];exact⟨ai A,W⟩
  ·exact M.Td Y (ao _) hd fn pos (fun y=>absurd rfl y)
  ·rw[Deaf_own,Qw hd];exact M.deaf0
 obtain⟨F,V,D,H,N⟩:=gI.MI.finish Y h L (.inl K) K.pB;obtain⟨O,T⟩:=qG V;refine⟨F,_,_,_,_,sl,_,_,rfl,D,H,N,.inr ⟨O,T,.inl ⟨0,by omega,?_,fun i _ I=>upd_ne _ _ I⟩⟩⟩;exact⟨G,w,es,M.oh _ (ao _),gq,hd⟩
theorem ae4(Y:Calm Q.J C){d':jo}(K:iR Q.J d'=iR Q.J C.d):Calm Q.J (C.dd d' .run v' ib ia):=
 ⟨Y.blk,fun k pc hk=>by show¬k<iR Q.J d';rw[K];exact Y.hD k pc hk,nofun,nofun⟩
theorem gI.MI.Ej(M:Q.MI C nd fu gs w t q rel)(H:Q.Laws)(h:CI Q.J Q.gL C)(A:Calm Q.J C){d':jo}{f:Nat}{w1:World}{es:Array _}(o:fu 0=f+1)(G:Q.E.Tree Q.P true (Q.DS f d') (nd 0).S (nd 0).X g1 w1)
  (W:∀i,i<=C.j->i≠0->gK Q.E.U (nd i).S w w1)(N:w1.heap.size=w.heap.size)(V:CI Q.J Q.gL (C.dd d' .run v' ib ia))(F:mu Q.J (C.dd d' .run v' ib ia)<mu Q.J C)(wd:Q.Wd (C.dd d' .run v' ib ia) w1)(fn:FuncId)(pos:String)
  (tr:PT Q.b C.j Q.E.mu Q.E.st Q.i_ (Q.cls nd C.j C.L) (t++ae 0 fn pos es) (C.tok.map (Q.b+ ·)) rel)(df:px d'=deafBehind (px C.d) es)(low:∀op∈ae 0 fn pos es,Seen w.heap.size op)(R:iR Q.J d'=iR Q.J C.d\/(mayWake Q.P (nd 0).g=true/\(g1.status=.running\/g1.status=.finished))):
  Q.jA C nd fu q (crowd ((gs.map (woken Q.P (nd 0).g g1 w1)).setIfInBounds 0 g1) w1 sl) (t++ae 0 fn pos es):=by
 have D:=M.pO H;have B:Q.MI (C.dd d' .run v' ib ia) (upd nd 0 ⟨(nd 0).S,(nd 0).X,g1,w1⟩) (upd fu 0 f) (gs.setIfInBounds 0 g1) w1 (t++ae 0 fn pos es) q rel:=by
  refine M.m0 (C':=C.dd d' .run v' ib ia) H.b0 rfl rfl rfl rfl ?_ W (.refl _ _ _) (by have:=M.fuel 0 (ao _);omega) (ar F) (by rw[N];exact M.sets.same rfl rfl) wd ?_ ?_ (fun g Z=>Deaf_other t (fun y=>Z y.symm) _ qf) (pY M.seen (au N.symm) (by simp_all))
  ·exact⟨ai D,G⟩
  ·unfold gI.cls;rw[gI.Dp (n':=⟨(nd 0).S,(nd 0).X,g1,w1⟩) rfl];exact tr
  ·rw[Deaf_own,M.deaf0];exact df.symm
 obtain⟨I,T,K,Y,O⟩:=gI.MI.finish H V B (R.imp (ae4 A) id) nofun;exact⟨I,_,_,_,_,sl,_,_,rfl,K,Y,O,.inl (by rw[(qG (fu:=fu) T).1];omega)⟩
theorem gI.MI.Ek(M:Q.MI C nd fu gs w t q rel)(H:Q.Laws)(h:CI Q.J Q.gL C)(K:Calm Q.J C){d':jo}{f:Nat}{m:Mark}(R:m=.disable\/m=.enable)(F:fu 0=f+1)(N:Q.E.Tree Q.P true (Q.DS f d') (nd 0).S (nd 0).X g1 w)
  (A:CI Q.J Q.gL (C.dd d' .run C.v C.wt C.ws))(hr:ir Q.J C.v d'<ir Q.J C.v C.d)(fn:FuncId)(pos:String)(df:px d'=deafBehind (px C.d) #[⟨.mark m,false,true⟩])(Y:iR Q.J d'=iR Q.J C.d):
  Q.jA C nd fu q (crowd ((gs.map (woken Q.P (nd 0).g g1 w)).setIfInBounds 0 g1) w sl) (t++ae 0 fn pos #[⟨.mark m,false,true⟩]):=
 M.Ej H h K F N (fun _ _ _=>.refl _ _ _) rfl A (Eg hr) (M.wd.cfg rfl rfl rfl rfl rfl (fun e=>⟨e,rfl⟩) rfl rfl Y) fn pos (M.Jq (by have:=H.b0;omega) fn pos R) df (tG (by rcases R with rfl|rfl<;>exact⟨trivial,nofun⟩)) (.inl Y)
theorem gI.MI.Te(M:Q.MI C nd fu gs w t q rel)(R:Q.Laws)(h:CI Q.J Q.gL C)(H:Calm Q.J C){d':jo}{f:Nat}{m:Mark}(K:m=.read Q.E.sm\/m=.write Q.E.sm)(F:fu 0=f+1)(N:Q.E.Tree Q.P true (Q.DS f d') (nd 0).S (nd 0).X g1 w)
  (A:CI Q.J Q.gL (C.dd d' .run C.v C.wt C.ws))(hr:ir Q.J C.v d'<ir Q.J C.v C.d)(fn:FuncId)(pos:String)(df:px d'=px C.d)(Y:iR Q.J d'=iR Q.J C.d):
  Q.jA C nd fu q (crowd ((gs.map (woken Q.P (nd 0).g g1 w)).setIfInBounds 0 g1) w sl) (t++ae 0 fn pos #[⟨.mark m,false,true⟩]):=by
 have I:Q.cls nd C.j C.L (.cell Q.E.sm)=.at:=by
  simp only[nc];rw[if_pos (⟨.inr rfl,by omega⟩)]
 refine M.Ej R h H F N (fun _ _ _=>.refl _ _ _) rfl A (Eg hr) (M.wd.cfg rfl rfl rfl rfl rfl (fun e=>⟨e,rfl⟩) rfl rfl Y) fn pos ?_ ?_ (tG ?_) (.inl Y)
 ·rw[uE];refine M.tr.app (.inl rfl) (mj ?_) fun y=>absurd rfl y;refine⟨rfl,?_,?_,fun x D=>?_⟩
  ·rcases K with rfl|rfl<;>nofun
  ·rcases K with rfl|rfl<;>nofun
  ·rcases K with rfl|rfl<;>simp[ak,ax]at D<;>subst D<;>exact .inr (.inr (.inl ⟨I,rfl,rfl⟩))
 ·rcases K with rfl|rfl<;>exact df
 ·have:=M.sets.n_ _ R.rw;rcases K with rfl|rfl<;>exact⟨this,nofun⟩
theorem gI.MI.vn(M:Q.MI C nd fu gs w t q rel)(R:Q.Laws)(h:CI Q.J Q.gL C)(A:Calm Q.J C){d':jo}{f:Nat}{w1:World}{es:Array _}(O:fu 0=f+1)(V:Q.E.Tree Q.P true (Q.DS f d') (nd 0).S (nd 0).X g1 w1)(F:Env.Eff Q.E.Wg w w1)(H:Q.E.WgAt w1 v' ib ia)(Y:Env.EvA Q.E.Wg es)
  (N:CI Q.J Q.gL (C.dd d' .run v' ib ia))(hr:ir Q.J v' d'<ir Q.J C.v C.d)(fn:FuncId)(pos:String)(df:px d'=px C.d)(K:iR Q.J d'=iR Q.J C.d):
  Q.jA C nd fu q (crowd ((gs.map (woken Q.P (nd 0).g g1 w1)).setIfInBounds 0 g1) w1 sl) (t++ae 0 fn pos es):=
 M.Ej R h A O V (fun _ _ _=>IU _ M.wd.wg H F) F.size N (Eg hr) ((M.wd.gp R M.sets h.len F H).cfg rfl rfl rfl rfl rfl (fun e=>⟨e,rfl⟩) rfl rfl K) fn pos
  (M.tr.app (.inl rfl) (Il Y (.inr rfl) _) fun y=>absurd rfl y) (by rw[C6 Y];exact df) (Im Y (M.sets.n_ _ R.rw) _) (.inl K)
theorem gI.MI.ag_(M:Q.MI C nd fu gs w t q rel)(V:Q.Laws)(h:CI Q.J Q.gL C)(Z:Calm Q.J C){f:Nat}(hk:k<C.j)(hd:C.d=.close C.L k)(hs:ot w (Q.ch C k) s)(hw:mayWake Q.P (nd 0).g=true)(G:g1.status=.running)(r:fu 0=f+1)
  (ht:Q.E.Tree Q.P true (Q.DS f (Q.J.closes C.L (k+1))) (nd 0).S (nd 0).X g1 (w.setChan (Q.ch C k) 0 #[] true s s false))(fn:FuncId)(pos:String):
  Q.jA C nd fu q (crowd ((gs.map (woken Q.P (nd 0).g g1 (w.setChan (Q.ch C k) 0 #[] true s s false))).setIfInBounds 0 g1) (w.setChan (Q.ch C k) 0 #[] true s s false) sl) (t++ae 0 fn pos (closeEvents (Q.ch C k))):=by
 have Y:=M.sets.oe _ (qM h.len hk);have D:=h.od;rw[hd]at D;have m:C.j=Q.J.n:=D.2.1;have b:k<Q.J.n:=D.2.2;have N:iR Q.J (Q.J.closes C.L (k+1))=k+1:=by
  unfold iq.closes;by_cases y:k+1<C.L.length
  ·rw[if_pos y];rfl
  ·rw[if_neg y];show Q.J.n=k+1
   rw[h.len]at y;omega
 have BE:iR Q.J C.d=k:=by rw[hd];rfl
 have W:(w.setChan (Q.ch C k) 0 #[] true s s false).heap.size=w.heap.size:=by simp[ay]
 have K:∀a,a≠Q.ch C k->(w.setChan (Q.ch C k) 0 #[] true s s false).heap[a]?=w.heap[a]?:=fun a p=>by
  simp only[ay];rw[aJ (fun y=>p y.symm)]
 have T:∀O R,nD C.d C.v C.wt C.ws O R->nD (Q.J.closes C.L (k+1)) C.v C.wt C.ws O R:=by
  intro O R c;rw[hd]at c;obtain⟨a1,a2,a3,a4⟩:=c.early id;unfold iq.closes;split<;>exact .inl ⟨a1,a2,a3,a4,id,fun y=>y.elim⟩
 have l:CI Q.J Q.gL (C.dd (Q.J.closes C.L (k+1)) .run C.v C.wt C.ws):=by
  refine h.dd ⟨nofun,nofun,nofun⟩ ?_ ?_ T (by rw[N,BE];omega) ?_ (fun v0 R=>by unfold iq.closes at R;split at R<;>cases R)
  ·rw[hd];unfold iq.closes;split<;>rfl
  ·rw[hd];unfold iq.closes;split<;>rfl
  ·unfold iq.closes;split
   ·rename_i y;rw[h.len]at y;exact⟨rfl,D.2.1,by omega⟩
   ·exact D.2.1
 have hr:ir Q.J C.v (Q.J.closes C.L (k+1))<ir Q.J C.v C.d:=by
  rw[hd];unfold iq.closes;split
  ·simp only[ir];omega
  ·simp only[ir];omega
 have hF:Q.E.Fd≠Q.ch C k:=fun y=>Y.2.1 (y▸V.rf);have o:Q.E.Wg≠Q.ch C k:=fun y=>Y.2.1 (y▸V.rw);have B:Q.cls nd C.j C.L (.obj (Q.ch C k))=.own 0:=Qu Y.2.1 Y.2.2.1 (.inr ⟨rfl,qM h.len hk⟩) fun i' H=>M.sets.uniq H (.inr ⟨rfl,qM h.len hk⟩);refine M.Ej V h Z r ht (fun i u _=>vW (Y.2.2.2 i u)) W l (Eg hr) ⟨?_,?_,fun y=>?_,fun i' H A=>?_,fun i' H A=>?_,M.wd.tape,M.wd.out⟩ fn pos ?_ ?_ ?_ (.inr ⟨hw,.inl G⟩)
 ·have:=M.wd.mu;unfold Env.MuAt at this⊢;rw[K _ hF];exact this
 ·have:=M.wd.wg;unfold Env.WgAt at this⊢;rw[K _ o];exact this
 ·rw[K _ fun y=>Y.2.2.1 y.symm];exact M.wd.map y
 ·change i'<iR Q.J (Q.J.closes C.L (k+1))at A;rw[N]at A;by_cases z:i'=k
  ·subst z;refine⟨s,?_⟩;show(w.setChan _ 0 #[] true s s false).heap[Q.ch C i']?=_
   simp only[ay];rw[ai Y.1]
  ·obtain⟨s',I⟩:=M.wd.shut i' H (by rw[BE];omega);refine⟨s',?_⟩;show(w.setChan _ 0 #[] true s s false).heap[Q.ch C i']?=_
   rw[K _ fun y=>z (yZ h H hk y)];exact I
 ·change¬i'<iR Q.J (Q.J.closes C.L (k+1))at A;rw[N]at A;obtain⟨s',I⟩:=M.wd.opn i' H (by rw[BE];omega);refine⟨s',?_⟩;show(w.setChan _ 0 #[] true s s false).heap[Q.ch C i']?=_
  rw[K _ fun y=>by have:=yZ h H hk y;omega];exact I
 ·refine M.tr.app (g:=0) (.inl rfl) (fun op gC=>?_) fun y=>absurd rfl y;obtain⟨ev,U,rfl⟩:=qa gC;simp only[closeEvents,aA,az,aB,or_false]at U;rcases U with rfl|rfl
  ·refine⟨rfl,nofun,nofun,fun x F=>?_⟩;simp only[ah,ak,ax]at F;subst F;exact .inr (.inr (.inr (.inr (.inr B))))
  ·exact⟨rfl,nofun,nofun,fun x F=>by simp[ah,ak]at F⟩
 ·rw[hd];have:deafBehind 0 (closeEvents (Q.ch C k))=0:=by simp[closeEvents,deafBehind]
  show px (Q.J.closes C.L (k+1))=deafBehind 0 _
  rw[this];unfold iq.closes;split<;>rfl
 ·intro op gC;obtain⟨ev,U,rfl⟩:=qa gC;simp only[closeEvents,aA,az,aB,or_false]at U;rcases U with rfl|rfl
  ·exact⟨Y.1,nofun⟩
  ·exact⟨Y.1,nofun⟩
theorem aiE{s s':gO Q.E}(hk:k<Q.J.n)(e:C.ks k=s)(H:nQ s'=nQ s)(hr:pN s'<pN s):Q.nu (C.w1 k s') q<Q.nu C q:=by
 have Y:=rG (s':=s') nQ _ hk e;have K:=rG (s':=s') pN _ hk e;show 10 *(sumTo Q.b q+sumTo _ (fun i=>nQ (upd _ k s' i)))+(pM C.dm+sumTo _ (fun i=>pN (upd _ k s' i)))<10 *(sumTo Q.b q+sumTo _ _)+(pM _+sumTo _ _)
 omega
theorem aiF{pc:Q.E.kH}{md Y:Md}(e:C.ks k=.at pc md):Q.Df (C.w1 k (.at pc Y)) fu=Q.Df C fu:=by
 funext i;cases i with
 |zero=>rfl
 |succ i=>
  show(match upd C.ks k _ i with|.at pc _=>Q.WS (Q.ch C i) _ pc|_=>fun _ _ _ _=>True)=(match C.ks i with|.at pc _=>Q.WS (Q.ch C i) _ pc|_=>fun _ _ _ _=>True)
  by_cases K:i=k
  ·subst K;rw[upd_same,e]
  ·rw[upd_ne _ _ K]
theorem gI.MI.Tf(M:Q.MI C nd fu gs w t q rel)(V:Q.Laws)(h:CI Q.J Q.gL C)(R:Calm Q.J C){pc:Q.E.kH}{lJ:Md}(hk:k<C.j)(e:C.ks k=.at pc .run)(gq:Q.WS (Q.ch C k) (fu (k+1)) pc (nd (k+1)).S (nd (k+1)).X (nd (k+1)).g (nd (k+1)).w)
  (K:(lJ=.blk/\(∃sv x,pc=.lk (.s1 sv) x)/\C.c=0)\/(lJ=.hD/\pc=.recv/\¬k<iR Q.J C.d/\∀i,C.dm=.hD->C.d=.send C.L i->i%Q.J.n≠k)):
  Q.jA C nd fu q (crowd (gs.setIfInBounds (Q.b+k) (J_ (Q.ch C k) Q.E.zc lJ (nd (k+1)).g)) w sl) (t++#[]):=by
 have N:Q.b+k<gs.size:=by rw[M.size];omega
 have B:k<Q.J.n:=af hk h.jn;have P:CI Q.J Q.gL (C.w1 k (.at pc lJ)):=by
  refine h.quiet hk e rfl (fun y=>rfl) (fun γ y=>?_) (fun γ y=>?_) ?_ (fun y=>?_) (fun p x y=>h.re k p x .run (by rw[e,y])) (fun p y=>h.o8 k p .run (by rw[e,y]))
  ·simp_all
  ·simp_all
  ·rcases K with⟨rfl,I,_⟩|⟨rfl,rfl,_⟩
   ·simp_all
   ·simp
  ·rcases K with⟨rfl,⟨sv,x,rfl⟩,_⟩|⟨rfl,rfl,_⟩<;>exact y.elim
 have F:mu Q.J (C.w1 k (.at pc lJ))=mu Q.J C:=Ru B e rfl rfl;have us:(C.w1 k (.at pc lJ)).ks k=.at pc lJ:=upd_same _ _ _;have un:∀i,i≠k->(C.w1 k (.at pc lJ)).ks i=C.ks i:=fun i Y=>upd_ne _ _ Y;have O:=M.BD (C':=C.w1 k (.at pc lJ)) (w1:=w) (ops:=#[]) (kj:=rel) V hk rfl rfl rfl rfl un (by
   rw[us];exact⟨ai N,.stop gq,fun _=>gq⟩) (fun S=>.refl _ _ _) rfl (au F) rfl (M.wd.cfg rfl rfl rfl rfl rfl (fun e=>⟨e,rfl⟩) rfl rfl rfl)
   (by exact M.tr) (by simp) (fun _=>by
   rw[us,aN,M.nf k hk (fun q y=>by rw[e]at y;cases y),e];rfl) (by
   rw[us,M.pC k hk,e];exact Iff.rfl) (fun _ _=>rfl) (by simp)
 have A:Calm Q.J (C.w1 k (.at pc lJ)):=by
  refine⟨fun i H Y=>?_,fun i H Y=>?_,R.KA,fun i hd U H Y=>?_⟩
  ·by_cases D:i=k
   ·subst D;rcases K with⟨_,_,I⟩|⟨rfl,_⟩
    ·exact I
    ·rw[us]at Y;cases Y
   ·rw[un i D]at Y;exact R.blk i H Y
  ·by_cases D:i=k
   ·subst D;rcases K with⟨rfl,_⟩|⟨_,_,I,_⟩
    ·rw[us]at Y;cases Y
    ·exact I
   ·rw[un i D]at Y;exact R.hD i H Y
  ·by_cases D:i%Q.J.n=k
   ·rcases K with⟨rfl,_⟩|⟨_,_,_,I⟩
    ·simp_all
    ·exact I i hd U D
   ·rw[un _ D]at Y;exact R.pB i hd U H Y
 refine⟨_,_,_,_,_,sl,_,_,rfl,P,A,O,.inr ⟨F,aiF e,.inr ⟨rfl,aiE B e rfl ?_⟩⟩⟩;rcases K with⟨rfl,_⟩|⟨rfl,_⟩<;>exact Nat.zero_lt_one
theorem gI.MI.Ti(M:Q.MI C nd fu gs w t q rel)(N:Q.Laws)(h:CI Q.J Q.gL C)(H:Calm Q.J C){lJ:Md}(A:C.dm=.run)(F:Q.xG (gs.setIfInBounds 0 g1) (nd 0) (fu 0) C.L C.d lJ)
  (Y:(lJ=.blk/\C.d=.w3/\C.ws=0)\/(lJ=.hD/\∃i,C.d=.send C.L i/\∀pc,C.ks (i%Q.J.n)≠.at pc .hD)):
  Q.jA C nd fu q (crowd (gs.setIfInBounds 0 g1) w sl) (t++#[]):=by
 have U:CI Q.J Q.gL (C.dd C.d lJ C.v C.wt C.ws):=by
  refine h.dd ?_ rfl rfl (fun _ _ y=>y) (aj _) h.od h.w2;rcases Y with⟨rfl,K,_⟩|⟨rfl,i,K,_⟩
  ·simp_all
  ·simp_all
 have R:mu Q.J _=mu Q.J C:=rfl;have I:=M.m0 (C':=C.dd C.d lJ C.v _ _) (t':=t++#[]) N.b0 rfl rfl rfl rfl F (fun _ _ _=>.refl _ _ _) (M.oh 0 (ao _)) (M.fuel 0 (ao _)) (au R) (by rw[tD];exact M.sets) (M.wd.cfg rfl rfl rfl rfl rfl (fun e=>⟨e,rfl⟩) rfl rfl rfl)
  (by rw[tD,aN];exact M.tr) (by exact M.deaf0) (fun g _=>by simp) (by exact M.seen)
 rw[tD,tD]at I;have D:Calm Q.J (C.dd C.d lJ C.v C.wt C.ws):=by
  refine⟨H.blk,H.hD,fun y=>?_,fun i y hd=>?_⟩
  ·rcases Y with⟨_,_,K⟩|⟨rfl,_⟩
   ·exact K
   ·cases y
  ·rcases Y with⟨rfl,_⟩|⟨_,i',K,B⟩
   ·cases y
   ·rw[K]at hd;cases hd;exact B
 refine⟨_,_,_,_,_,sl,_,_,rfl,U,D,I,.inr ⟨R,rfl,.inr ⟨rfl,?_⟩⟩⟩;show 10 *(sumTo Q.b q+sumTo _ (fun k=>nQ (C.ks k)))+(pM lJ+sumTo _ (fun k=>pN (C.ks k)))<10 *(sumTo Q.b q+sumTo _ _)+(pM _+sumTo _ _)
 rw[A];have P:pM .run=1:=rfl;have O:pM lJ=0:=by rcases Y with⟨rfl,_⟩|⟨rfl,_⟩<;>rfl
 omega
theorem gI.MI.ae5(M:Q.MI C nd fu gs w t q rel)(N:Q.Laws)(h:CI Q.J Q.gL C)(A:Calm Q.J C)(hi:0<i)(O:i<Q.b)(V:q i=n+1){g:Goroutine}(K:∀e∈es,e.mute=true)(Z:QuitsD Q.P n (deafBehind (Deaf t i) es) g1)(fn:FuncId)(pos:String):
  Q.jA C nd fu q (crowd ((gs.map (woken Q.P g g1 w)).setIfInBounds i g1) w sl) (t++ae i fn pos es):=by
 have u:=N.b0;have S:i<gs.size:=by rw[M.size];omega
 have Y:∀g,g≠i->Deaf (t++ae i fn pos es) g=Deaf t g:=fun g I=>Deaf_other t (fun y=>I y.symm) _ qf;have G:Q.MI C nd fu (gs.setIfInBounds i g1) w (t++ae i fn pos es) (upd q i n) rel:=by
  refine⟨by simp[M.size],M.g0.keep (nH (by omega)),fun k hk=>(M.wk k hk).keep (nH (by omega)) (Y _ (by omega)),fun i' o H B I=>?_,M.fuel,M.oh,M.sets,M.wd,?_,?_,fun k hk V=>by rw[Y _ (by omega)];exact M.nf k hk V,fun i' H=>by rw[Y _ (by omega)];exact M.above i' H,M.pC,M.vm,pY M.seen (aj _) fun op gC=>by
   obtain⟨ev,R,rfl⟩:=qa gC;exact⟨low_mute (K ev R) _,fun a=>OK (K ev R) a⟩⟩
  ·by_cases F:i'=i
   ·subst F;rw[ai S]at I;obtain rfl:=Option.some.inj I;rw[upd_same,Deaf_own];exact Z
   ·rw[nH (fun y=>F y.symm)]at I;rw[upd_ne _ _ F,Y _ F];exact M.old i' o H B I
  ·refine M.tr.still fun op gC=>?_;obtain⟨ev,R,rfl⟩:=qa gC;refine⟨touch_mute (K ev R),?_,?_,by show i<Q.b+C.j;omega⟩
   ·intro y;have:=K ev R;obtain⟨loc,wr,p⟩:=ev;cases loc<;>simp_all[Event.mute,ah]
   ·intro y;have:=K ev R;obtain⟨loc,wr,p⟩:=ev;cases loc<;>simp_all[Event.mute,ah]
  ·rw[Y 0 (by omega)];exact M.deaf0
 obtain⟨D,T,L,U,W⟩:=gI.MI.finish (g:=g) N h G (.inl A) A.pB;obtain⟨z,d⟩:=qG (fu:=fu) T;refine⟨D,_,_,_,_,sl,_,_,rfl,L,U,W,.inr ⟨z,d,.inr ⟨rfl,?_⟩⟩⟩;have X:sumTo Q.b (upd q i n)+(n+1)=sumTo Q.b q+n:=by
  have:=sumTo_upd q n id O;simpa[V]using this
 have l:sumTo Q.J.n (fun i=>nQ (D.ks i))=sumTo Q.J.n (fun i=>nQ (C.ks i)):=by
  rcases T with rfl|rfl
  ·rfl
  ·exact sumTo_congr fun i _=>wo nQ (fun _ _ _=>rfl) _ _
 have r:pM D.dm+sumTo Q.J.n (fun i=>pN (D.ks i))<=9:=by
  have r1:∀m:Md,pM m<=1:=fun m=>by cases m<;>simp[pM]
  have r2:∀s:gO Q.E,pN s<=1:=fun s=>by cases s<;>simp[pN,r1]
  have:=sumTo_le (f:=fun i=>pN (D.ks i)) (c:=1) (j:=Q.J.n) fun i _=>r2 _;have:=r1 D.dm;have:=N.n8;omega
 unfold gI.nu;rw[l];omega
end
end Ph
end
end Go.Proofs.YtdcjnhipenbcfaaGreatDoor
