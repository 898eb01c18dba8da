/-
  Own text. Part 3 of what the claim rests on.
-/
import Derived.Conc.LoneCalls
import Derived.Conc.Beside
import Derived.Conc.WrSpec
import Derived.Conc.AtomicLaws2
import Derived.Conc.ClockLaws
import Derived.Conc.MarkLaws
import Derived.Conc.SmallLaws
import Derived.Conc.TokenWalk
import Derived.Laws.LoneSync
import Derived.Conc.Own2
import Derived.Conc.CrowdComm
import Derived.Laws.Tables
import Derived.Test.YtdcjnhipenbcfaaGreatDoorProg
import Derived.KernelRfl
import Derived.Test.YtdcjnhipenbcfaaGreatDoorPk2
set_option linter.unusedVariables false
set_option linter.unusedSectionVars false
set_option linter.unusedSimpArgs false
set_option maxRecDepth 100000
set_option maxHeartbeats 16000000
open Array renaming getElem?_eq_getElem->adp,getElem?_setIfInBounds_ne->adv,getElem?_map->adF,getElem?_eq_some_iff->adI,mem_map->adS
open Bool renaming not_eq_true->adM,false_eq_true->adY
open Classical renaming byContradiction->ads,choose->adx,choose_spec->adQ
open Go.Act renaming put->ad0
open Go.Extern renaming findNext->aec
open Go.Extern.Atomic renaming casT->adX
open Go.Extern.Race renaming none_->adK,at_->aed
open Go.Extern.Sync renaming semacquire->adw,count->adB,semrelease->adD,canSpin->adT,none_->ad1
open Go.Frame renaming finish_at->adE
open Go.Machine.mk renaming injEq->ad9
open Go.MemAct renaming ofEvent->adt,touch?->adH
open Go.MemOp renaming ofEvents->adz
open Go.Op renaming intArith->ad2
open Go.Region renaming wanted->adJ
open Go.Stepped.next renaming injEq->adU
open Go.World renaming cell?->ady
open Go.stepG renaming exec->aeb
open List renaming getElem_toArray->adR,getElem_range->adZ,getElem_map->aea
open Nat renaming le_refl->ado,lt_of_lt_of_le->adq,le_trans->adr,pos_of_ne_zero->adG,add_sub_cancel_left->adN,exists_eq_add_of_le->adO,eq_zero_or_pos->adV,lt_or_ge->adW
open Option renaming map_eq_some_iff->adC,map_some->adP,getD_some->ad_
namespace Go.Proofs.YtdcjnhipenbcfaaGreatDoor
noncomputable section
variable {ad:Addr}{main said:Bool}{e:Event}{f f' f0 f1 fr g1:Frame}{iU:FuncId}{bS cs l l':List Frame}{kr:List Item}{ks:List Nat}{JJ Z:Loc->Prop}{B i:Nat}{K S S' S1 SF X X1 XF:Nat->Prop}{y:Operand}{o o2:Option Obj}{P:Program}{pos:String}{s:TypeId}{u1 v0 v1 w w2:World}
namespace Ren
open Conc
def Q6(u:Nat->Prop)(o o2:Option Obj):Prop:=o2=o\/∃c c2 e fz,(∃i,u i)/\o=some (.cells c e fz)/\o2=some (.cells c2 e fz)/\c2.size=c.size/\(∀i:Nat,¬u i->c2[i]?=c[i]?)/\∀(i:Nat) x,u i->c2[i]?=some x->Hid x=true
theorem Q6.trans{u:Nat->Prop}{o o2 o3:Option Obj}(h:Q6 u o o2)(k:Q6 u o2 o3):Q6 u o o3:=by
 rcases k with rfl|⟨c,c2,e,fz,Y,K,H,D,R,I⟩
 ·exact h
 ·rcases h with rfl|⟨d,d2,e',U,g1,g2,g3,g4,g5,g6⟩
  ·exact .inr ⟨c,c2,e,fz,Y,K,H,D,R,I⟩
  ·rw[K]at g3;cases g3;exact .inr ⟨d,c2,e,fz,Y,g2,H,D.trans g4,fun i A=>(R i A).trans (g5 i A),I⟩
theorem Q6.eq{u:Nat->Prop}(h:Q6 u o o2)(K:∀i,¬u i):o2=o:=by
 rcases h with h|⟨_,_,_,_,⟨i,Y⟩,_⟩
 ·exact h
 ·simp_all
def j8(o' o:Os):=∃d:Nat,o'={o with wall:=o.wall+d,mono:=o.mono+d}
theorem j8.refl(o:Os):j8 o o:=⟨0,rfl⟩
theorem j8.of{o' o:Os}(h:o'=o):j8 o' o:=by subst h;exact .refl _
theorem j8.trans{o o1 o2:Os}(h:j8 o2 o1)(k:j8 o1 o):j8 o2 o:=by
 obtain⟨d,rfl⟩:=h;obtain⟨e,rfl⟩:=k;exact⟨e+d,by simp[Nat.add_assoc]⟩
theorem j8.env{o' o:Os}(h:j8 o' o):o'.env=o.env:=by obtain⟨d,rfl⟩:=h;rfl
structure az(U:Nat->Nat->Prop)(S:Nat->Prop)(w w2:World):Prop where
 kept:∀a,S a->Q6 (U a) (w.heap[a]?) (w2.heap[a]?)
 grow:w.heap.size<=w2.heap.size
 env:j8 w2.os w.os
theorem az.refl(U:Nat->Nat->Prop)(S:Nat->Prop)(w:World):az U S w w:=⟨fun _ _=>.inl rfl,ado _,.refl _⟩
theorem az.trans{U:Nat->Nat->Prop}{S:Nat->Prop}{w w2 w3:World}(h:az U S w w2)(k:az U S w2 w3):az U S w w3:=⟨fun a Y=>(h.kept a Y).trans (k.kept a Y),adr h.grow k.grow,k.env.trans h.env⟩
def Ts(S X:Nat->Prop)(w:World)(u:Nat)(e:Event):=
 (∃a:Addr,e.loc=.cell a/\e.sync=false/\((S a.block/\(e.write=true->X a.block))\/(w.heap.size<=a.block/\a.block<u)))\/
 (∃a:Nat,e.loc=.obj a/\e.sync=false/\((S a/\(e.write=true->X a))\/(w.heap.size<=a/\a<u)))\/
 (∃m,e.loc=.mark m/\(m=.noRoom\/∃f,m=.extern f))\/e.loc=.output
structure Did(S X:Nat->Prop)(w w1:World)(es:Array Event)(S1 X1:Nat->Prop):Prop where
 kept:∀a,a<w.heap.size->¬X a->w1.heap[a]?=w.heap[a]?
 grow:w.heap.size<=w1.heap.size
 held:∀a,S1 a↔S a\/(w.heap.size<=a/\a<w1.heap.size)
 may:∀a,X1 a↔X a\/(w.heap.size<=a/\a<w1.heap.size)
 ev:∀e∈es,Ts S X w w1.heap.size e
 tape:w1.tape=w.tape
 env:j8 w1.os w.os
 output:w1.output=w.output
inductive Tr(P:Program)(main:Bool)(U:Nat->Nat->Prop)(Done:(Nat->Prop)->(Nat->Prop)->Frame->List Frame->World->Prop):(Nat->Prop)->(Nat->Prop)->Frame->List Frame->World->Prop
 |stop {S X:Nat->Prop} {f:Frame} {l:List Frame} {w:World}:Done S X f l w->Tr P main U Done S X f l w
 |step {S X:Nat->Prop} {f:Frame} {l:List Frame} {w:World}:(∀w2,az U S w w2->∃f1 l1 w1 es S1 X1,stepG P main (G f l) w2=.go (G f1 l1) w1 es/\Did S X w2 w1 es S1 X1)->
   (∀w2 f1 l1 w1 es S1 X1,az U S w w2->stepG P main (G f l) w2=.go (G f1 l1) w1 es->Did S X w2 w1 es S1 X1->Tr P main U Done S1 X1 f1 l1 w1)->Tr P main U Done S X f l w
theorem Did.same{w1:World}{es:Array _}{S2 X2:Nat->Prop}(h:Did S X w w1 es S1 X1)(k:Did S X w w1 es S2 X2):S1=S2/\X1=X2:=
 ⟨funext fun a=>propext ((h.held a).trans (k.held a).symm),funext fun a=>propext ((h.may a).trans (k.may a).symm)⟩
inductive VR(P:Program):Nat->Frame->List Frame->World->Frame->List Frame->World->Prop
 |zero {f:Frame} {l:List Frame} {v:World}:VR P 0 f l v f l v
 |succ {k:Nat} {f f1 f2:Frame} {l l1 l2:List Frame} {v v1 v2:World} {es:Array Event}:VR P k f l v f1 l1 v1->stepG P true (G f1 l1) v1=.go (G f2 l2) v2 es->VR P (k+1) f l v f2 l2 v2
theorem VR.runN{k:Nat}{l l1:List _}{v:World}(h:VR P k f l v f1 l1 v1):runN P k (lone f l v)=.next (lone f1 l1 v1):=by
 induction h with
 |zero=>rfl
 |succ _ Y K=>
  rw[runN_add,K];simp[Go.runN];rw[lone_eq_solo,step_solo_go rfl Y];rfl
theorem VR.TY{k:Nat}{f2:Frame}{l l1 l2:List _}{v v2:World}(h:VR P k f l v f1 l1 v1)(e:Go.runN P k (lone f l v)=.next (lone f2 l2 v2)):f1=f2/\l1=l2/\v1=v2:=by
 rw[h.runN]at e;simp[lone,adU,ad9]at e;simp_all
def tp(v:World)(T:Nat->Question->Nat):={v with tape:=T}
section
variable[aj]{P:Program}{U:Nat->Nat->Prop}
def C9(U:Nat->Nat->Prop)(r:Rn):=∀b b' i,r b=some b'->U b' i->aj.ro b/\aj.mo b i
def Rd(r:Rn)(a:Nat):=∃b,r b=some a
def Wr(r:Rn)(a:Nat):=∃b,r b=some a/\¬aj.ro b
theorem W.rely{r:Rn}{c:Nat}{v w w2:World}(h:W r c v w)(hu:C9 U r)(hr:az U (Rd r) w w2):W r 0 v w2:=by
 refine⟨fun b b' e=>?_,h.gv,adr h.gw hr.grow,h.old,fun i q D=>by omega,hr.env.env.trans h.env⟩;obtain⟨o,o',A,B,C⟩:=h.obj b b' e;rcases hr.kept b' ⟨b,e⟩with k|⟨d,d2,t,fz,⟨i,D⟩,I,F,J,L,M⟩
 ·simp_all
 ·have H:=(hu b b' i e D).1;rw[B]at I;cases I;cases C with
  |same n _=>exact absurd H n
  |ro t n R hb=>
   refine⟨_,_,A,F,.ro t n ⟨R.size.trans J.symm,fun j x x' ex Y=>?_⟩ hb⟩;by_cases K:U b' j
   ·have:=hb j (hu b b' j e K).2;rw[this]at ex;cases ex;exact .blank (M j x' K Y)
   ·rw[L j K]at Y;exact R.at_ j x x' ex Y
theorem W.JD{r:Rn}{v:World}(h:W r 0 v w){c:Nat}(Y:∀i q,i<c->v.tape (v.drawn+i) q=w.tape (w.drawn+i) q):W r c v w:=⟨h.obj,h.gv,h.gw,h.old,Y,h.env⟩
theorem W.tp{r:Rn}{c:Nat}{v:World}(h:W r c v w)(T:Nat->Question->Nat):W r 0 (tp v T) w:=⟨h.obj,h.gv,h.gw,h.old,fun i q Y=>by omega,h.env⟩
theorem Out.did{r r1:Rn}{c c1:Nat}{v w1:World}(o:Out r r1 c c1 v w v1 w1)(h:W r c v w){es:Array _}(he:∀e∈es,vo r w w1.heap.size e):Did (Rd r) (Wr r) w w1 es (Rd r1) (Wr r1):=by
 refine⟨fun a I A=>o.kept a I fun b hb=>ads fun Y=>A ⟨b,hb,Y⟩,o.grow,fun a=>⟨?_,?_⟩,fun a=>⟨?_,?_⟩,fun e hm=>?_,o.tape,.of o.os,o.output⟩
 ·rintro⟨b,hb⟩;rcases o.fresh b a hb with x|x
  ·exact .inl ⟨b,x⟩
  ·exact .inr ⟨x.1,(o.wl.lt hb).2⟩
 ·rintro(⟨b,hb⟩|x)
  ·exact⟨b,o.le _ _ hb⟩
  ·exact o.range a x.1 x.2
 ·rintro⟨b,hb,Y⟩;rcases o.fresh b a hb with x|x
  ·exact .inl ⟨b,x,Y⟩
  ·exact .inr ⟨x.1,(o.wl.lt hb).2⟩
 ·rintro(⟨b,hb,Y⟩|x)
  ·exact⟨b,o.le _ _ hb,Y⟩
  ·obtain⟨b,hb⟩:=o.range a x.1 x.2;refine⟨b,hb,fun R=>?_⟩;rcases o.fresh b a hb with y|y
   ·exact absurd (h.lt y).2 (by omega)
   ·exact absurd (h.old b R) (by omega)
 ·have key:∀{a:Nat} {wr:Bool},((∃b,r b=some a/\(wr=true->¬aj.ro b))\/(w.heap.size<=a/\a<w1.heap.size))->(Rd r a/\(wr=true->Wr r a))\/(w.heap.size<=a/\a<w1.heap.size):=by
   rintro a wr (⟨b,hb,Y⟩|x)
   ·exact .inl ⟨⟨b,hb⟩,fun hw=>⟨b,hb,Y hw⟩⟩
   ·omega
  rcases he e hm with⟨a,K,H,D⟩|⟨a,K,H,D⟩|x
  ·exact .inl ⟨a,K,H,key D⟩
  ·exact .inr (.inl ⟨a,K,H,key D⟩)
  ·exact .inr (.inr x)
theorem SL.len{r:Rn}{cs bS:List _}{n:Nat}{l l':List _}(h:SL P r cs bS n l l'):l.length=n+cs.length:=by
 induction h with
 |base=>simp
 |cons _ _ _ Y=>simp;omega
theorem SL.JE{r:Rn}{cs bS:List _}{n:Nat}{l':List _}(h:SL P r cs bS n cs l'):n=0/\l'=bS:=by
 have:=h.len;obtain rfl:n=0:=by omega
 cases h;simp_all
variable(P)in
def iF(U:Nat->Nat->Prop)(r0:Rn)(Stop:Frame->List _->World->Prop)(cs bS:List _)(S X:Nat->Prop)(f':Frame)(l':List _)(w:World):=
 ∃r n f l v,Le r0 r/\FR P r (n==0) f f'/\SL P r cs bS n l l'/\W r 0 v w/\S=Rd r/\X=Wr r/\Stop f l v/\C9 U r/\∀a i,U a i->a<w.heap.size
variable(P)in
structure Node(U:Nat->Nat->Prop)(r0:Rn)(Stop:Frame->List Frame->World->Prop)(f0:Frame)(cs bS:List Frame)(v0:World)(k:Nat)(T0:Nat->Question->Nat)(d:Nat)(S X:Nat->Prop)(f':Frame)(l':List Frame)(w:World):Prop where
 alike:∀T,(∀j,j<d->T j=T0 j)->∃r n f l v,VR P k f0 cs (tp v0 T) f l v/\v.tape=T/\v.drawn=d/\Le r0 r/\FR P r (n==0) f f'/\(n=0->f.roundOf=none/\f.kind=.normal)/\SL P r cs bS n l l'/\W r 0 v w/\S=Rd r/\X=Wr r/\C9 U r
 low:∀a i,U a i->a<w.heap.size
 early:∀T,(∀j,j<d->T j=T0 j)->∀i f l v,i<=k->VR P i f0 cs (tp v0 T) f l v->¬Stop f l v
theorem VR.pre{k:Nat}{l l1:List _}{v:World}(h:VR P k f l v f1 l1 v1):∀i,i<=k->∃f2 l2 v2,VR P i f l v f2 l2 v2:=by
 induction h with
 |zero=>
  intro i Y;obtain rfl:i=0:=by omega
  exact⟨_,_,_,.zero⟩
 |succ a b K=>
  intro i Y;rcases Nat.eq_or_lt_of_le Y with e|e
  ·rw[e];exact⟨_,_,_,VR.succ a b⟩
  ·exact K i (by omega)
section path
variable{main:Bool}{r0:Rn}{Stop:Frame->List Frame->World->Prop}{f0:Frame}{cs bS:List Frame}{v0:World}{k:Nat}{T0:Nat->Question->Nat}{d:Nat}{S X:Nat->Prop}{f':Frame}{l':List Frame}{w:World}
theorem G4(C:∀T,∃n f1 l1 v1,runN P n (lone f0 cs (tp v0 T))=.next (lone f1 l1 v1)/\Stop f1 l1 v1){T:Nat->Question->Nat}{l:List _}{v:World}(h:VR P k f0 cs (tp v0 T) f l v)(he:∀i f l v,i<=k->VR P i f0 cs (tp v0 T) f l v->¬Stop f l v){o:Outcome}{es:Array _}:
  stepG P true (G f l) v≠.ended o v1 es:=by
 intro H;obtain⟨n,f1,l1,D,Y,au⟩:=C T;by_cases hk:n<=k
 ·obtain⟨f2,l2,v2,K⟩:=h.pre n hk;obtain⟨rfl,rfl,rfl⟩:=K.TY Y;exact he n _ _ _ hk K au
 ·obtain⟨m,rfl⟩:∃m,n=k+(m+1):=⟨n-k-1,by omega⟩;rw[runN_add,h.runN]at Y;simp[Go.runN]at Y;rw[step_lone_ended (by show(stepG P _ (G f l) v).bare=_;rw[H];rfl)]at Y;cases Y
theorem AE(F:hI P)(gi:GI r0)(C:∀T,∃n f1 l1 v1,runN P n (lone f0 cs (tp v0 T))=.next (lone f1 l1 v1)/\Stop f1 l1 v1)(L:∀T k f v,(∀i f l v,i<=k->VR P i f0 cs (tp v0 T) f l v->¬Stop f l v)->VR P k f0 cs (tp v0 T) f cs v->f.mode≠.run->f.defers=[]->Stop f cs v)(B:∀T k f l v i ops K q,VR P k f0 cs (tp v0 T) f l v->f.mode=.run->f.todo=.code (.region i ops K)::q->aj.wall ops->Stop f l v)
  {T:Nat->Question->Nat}(he:∀i f l v,i<=k->VR P i f0 cs (tp v0 T) f l v->¬Stop f l v){r:Rn}{n:Nat}{l:List _}{v:World}(R:VR P k f0 cs (tp v0 T) f l v)(J:Le r0 r)(M:FR P r (n==0) f f')(N:n=0->f.roundOf=none/\f.kind=.normal)(A:SL P r cs bS n l l')(O:W r 0 v w2)(c:Nat)(V:∀i q,i<c->v.tape (v.drawn+i) q=w2.tape (w2.drawn+i) q):
  (∃(f1 H:Frame) (l1 I:List _) (v1 w1:World) (es gR:Array _) (r1:Rn) (c1 n1:Nat),stepG P true (G f l) v=.go (G f1 l1) v1 es/\stepG P main (G f' l') w2=.go (G H I) w1 gR/\FR P r1 (n1==0) f1 H/\(n1=0->f1.roundOf=none/\f1.kind=.normal)/\SL P r1 cs bS n1 l1 I/\Out r r1 c c1 v w2 v1 w1/\∀e∈gR,vo r w2 w1.heap.size e)\/
  (v.drawn+c<(IP (stepG P true (G f l) v)).drawn/\w2.drawn+c<(IP (stepG P main (G f' l') w2)).drawn):=by
 have hgo:n=0->f.mode=.run\/f.defers≠ []:=by
  intro U;by_cases hm:f.mode=.run
  ·exact .inl hm
  ·refine .inr fun hd=>?_;subst U;cases A;exact he k f _ v (ado _) R (L T k f v he R hm hd)
 have Y:f.mode=.run->∀i ops K q,f.todo=.code (.region i ops K)::q->¬aj.wall ops:=by
  intro hm i ops K q e D;exact he k f l v (ado _) R (B T k f l v i ops K q R hm e D)
 have st:=yJ F (gi.mono J) M N A (O.JD V) true main hgo Y;generalize Q:stepG P _ _ v=sv at st;generalize hw:stepG P _ _ w2=S at st;cases st with
 |ended=>exact absurd Q (G4 C R he)
 |sx a b=>exact .inr ⟨a,b⟩
 |go r1 c1 a b d o e=>exact .inl ⟨_,_,_,_,_,_,_,_,r1,c1,_,rfl,rfl,a,d,b,o,e⟩
def glue(T0:Nat->Question->Nat)(d:Nat)(w2:World)(j:Nat)(q:Question):=if j<d then T0 j q else w2.tape (w2.drawn+(j-d)) q
theorem G5(F:hI P)(gi:GI r0)(C:∀T,∃n f1 l1 v1,runN P n (lone f0 cs (tp v0 T))=.next (lone f1 l1 v1)/\Stop f1 l1 v1)(L:∀T k f v,(∀i f l v,i<=k->VR P i f0 cs (tp v0 T) f l v->¬Stop f l v)->VR P k f0 cs (tp v0 T) f cs v->f.mode≠.run->f.defers=[]->Stop f cs v)(Wl:∀T k f l v i ops dr q,VR P k f0 cs (tp v0 T) f l v->f.mode=.run->f.todo=.code (.region i ops dr)::q->aj.wall ops->Stop f l v)
  (R:Node P U r0 Stop f0 cs bS v0 k T0 d S X f' l' w)(hT:¬Tr P main U (iF P U r0 Stop cs bS) S X f' l' w):
  ∃T1 d1 S1 X1 f1 l1 w1,(∀j,j<d->T1 j=T0 j)/\d<=d1/\Node P U r0 Stop f0 cs bS v0 (k+1) T1 d1 S1 X1 f1 l1 w1/\¬Tr P main U (iF P U r0 Stop cs bS) S1 X1 f1 l1 w1:=by
 have Q:∀w2:World,∀j,j<d->glue T0 d w2 j=T0 j:=fun w2 j V=>by funext q;unfold glue;rw[if_pos V]
 have ex:∀w2,az U S w w2->∃f1 l1 w1 es S1 X1,stepG P main (G f' l') w2=.go (G f1 l1) w1 es/\Did S X w2 w1 es S1 X1/\w2.drawn<=w1.drawn:=by
  intro w2 hr;obtain⟨r,n,f,l,v,I,B,z,A,J,c,M,N,rfl,rfl,Y⟩:=R.alike (glue T0 d w2) (Q w2);have K:=N.rely Y hr;have Z:∀i q,i<(IP (stepG P true (G f l) v)).drawn->v.tape (v.drawn+i) q=w2.tape (w2.drawn+i) q:=fun i q _=>by
   rw[B,z];unfold glue;rw[if_neg (by omega),adN]
  rcases AE (main:=main) F gi C L Wl (R.early _ (Q w2)) I A J c M K _ Z with⟨f1,m,l1,l1',v1,w1,es,gR,r1,c1,n1,D,E,q1,q2,q3,o,q4⟩|⟨x,_⟩
  ·exact⟨m,l1',w1,gR,_,_,E,o.did (K.JD Z) q4,by have:=o.drew;have:=o.xe;have:=o.later;omega⟩
  ·omega
 have off:∃w2 f1 l1 w1 es S1 X1,az U S w w2/\stepG P main (G f' l') w2=.go (G f1 l1) w1 es/\Did S X w2 w1 es S1 X1/\¬Tr P main U (iF P U r0 Stop cs bS) S1 X1 f1 l1 w1:=by
  refine ads fun h=>hT (.step (fun w2 hr=>?_) fun w2 f1 l1 w1 es S1 X1 hr D hd=>?_)
  ·obtain⟨f1,l1,w1,es,S1,X1,D,hd,_⟩:=ex w2 hr;exact⟨f1,l1,w1,es,S1,X1,D,hd⟩
  ·exact ads fun p=>h ⟨w2,f1,l1,w1,es,S1,X1,hr,D,hd,p⟩
 obtain⟨w2,f1,l1,w1,es,S1,X1,hr,D,hd,p⟩:=off;have hle:w2.drawn<=w1.drawn:=by
  obtain⟨g1,m1,u1,s,S2,X2,E,_,hle⟩:=ex w2 hr;rw[D]at E;cases E;exact hle
 have key:∀T,(∀j,j<d+(w1.drawn-w2.drawn)->T j=glue T0 d w2 j)->∃r n f l v,VR P (k+1) f0 cs (tp v0 T) f l v/\v.tape=T/\v.drawn=d+(w1.drawn-w2.drawn)/\Le r0 r/\FR P r (n==0) f f1/\(n=0->f.roundOf=none/\f.kind=.normal)/\SL P r cs bS n l l1/\W r 0 v w1/\S1=Rd r/\X1=Wr r/\C9 U r:=by
  intro T H;have O:∀j,j<d->T j=T0 j:=fun j V=>(H j (by omega)).trans (Q w2 j V);obtain⟨r,n,f,l,v,I,B,z,A,J,c,M,N,rfl,rfl,Y⟩:=R.alike T O;have K:=N.rely Y hr;have Z:∀i q,i<w1.drawn-w2.drawn->v.tape (v.drawn+i) q=w2.tape (w2.drawn+i) q:=fun i q hi=>by
   rw[B,z,H (d+i) (by omega)];unfold glue;rw[if_neg (by omega),adN]
  rcases AE (main:=main) F gi C L Wl (R.early T O) I A J c M K _ Z with⟨g1,g1',m1,m1',v1,u1,s,adA,r1,c1,n1,x1,x2,q1,q2,q3,o,q4⟩|⟨_,x⟩
  ·rw[D]at x2;cases x2;have hc:c1=0:=by have:=o.xe;omega
   subst hc;obtain⟨rfl,rfl⟩:=hd.same (o.did (K.JD Z) q4);refine⟨r1,n1,g1,m1,v1,.succ I x1,o.Ja.trans B,by have:=o.drew;omega,A.trans o.le,q1,q2,q3,o.wl,rfl,rfl,fun b b' i e hu=>?_⟩;rcases o.fresh b b' e with y|y
   ·exact Y b b' i y hu
   ·have:=R.low b' i hu;have:=hr.grow;have:=y.1;omega
  ·rw[D]at x;simp only[IP]at x;omega
 refine⟨glue T0 d w2,d+(w1.drawn-w2.drawn),S1,X1,f1,l1,w1,Q w2,by omega,⟨key,fun a i hu=>adq (R.low a i hu) (adr hr.grow hd.grow),fun T H i f l v hi hv hs=>?_⟩,p⟩;by_cases t:i<=k
 ·exact R.early T (fun j V=>(H j (by omega)).trans (Q w2 j V)) i f l v t hv hs
 ·obtain rfl:i=k+1:=by omega
  obtain⟨r,n,g,l2,u,I,B,z,A,J,c,M,N,rfl,rfl,Y⟩:=key T H;obtain⟨rfl,rfl,rfl⟩:=I.TY hv.runN;exact p (.stop ⟨r,n,_,_,_,A,J,M,N,rfl,rfl,hs,Y,fun a i hu=>adq (R.low a i hu) (adr hr.grow hd.grow)⟩)
open Classical in
theorem tree(F:hI P)(gi:GI r0)(C:∀T,∃n f1 l1 v1,runN P n (lone f0 cs (tp v0 T))=.next (lone f1 l1 v1)/\Stop f1 l1 v1)(L:∀T k f v,(∀i f l v,i<=k->VR P i f0 cs (tp v0 T) f l v->¬Stop f l v)->VR P k f0 cs (tp v0 T) f cs v->f.mode≠.run->f.defers=[]->Stop f cs v)(G:∀T k f l v i ops z q,VR P k f0 cs (tp v0 T) f l v->f.mode=.run->f.todo=.code (.region i ops z)::q->aj.wall ops->Stop f l v)
  (V:FR P r0 true f0 f')(hb:f0.roundOf=none/\f0.kind=.normal)(hw:W r0 0 v0 w)(K:C9 U r0)(Y:∀a i,U a i->a<w.heap.size):Tr P main U (iF P U r0 Stop cs bS) (Rd r0) (Wr r0) f' bS w:=by
 refine ads fun A=>?_;have root:Node P U r0 Stop f0 cs bS v0 0 v0.tape v0.drawn (Rd r0) (Wr r0) f' bS w:=by
  refine⟨fun T _=>⟨r0,0,f0,cs,tp v0 T,.zero,rfl,rfl,.refl _,V,fun _=>hb,.base,hw.tp T,rfl,rfl,K⟩,Y,fun T _ i f l v t b O=>A (.stop ⟨r0,0,f0,cs,tp v0 T,.refl _,V,.base,hw.tp T,rfl,rfl,?_,K,Y⟩)⟩;obtain rfl:i=0:=by omega
  cases b;exact O
 let M:={x:Nat×(Nat->Question->Nat)×Nat×(Nat->Prop)×(Nat->Prop)×Frame×List Frame×World//Node P U r0 Stop f0 cs bS v0 x.1 x.2.1 x.2.2.1 x.2.2.2.1 x.2.2.2.2.1 x.2.2.2.2.2.1 x.2.2.2.2.2.2.1 x.2.2.2.2.2.2.2/\¬Tr P main U (iF P U r0 Stop cs bS) x.2.2.2.1 x.2.2.2.2.1 x.2.2.2.2.2.1 x.2.2.2.2.2.2.1 x.2.2.2.2.2.2.2}
 have Q:∀x:M,∃y:M,y.1.1=x.1.1+1/\(∀j,j<x.1.2.2.1->y.1.2.1 j=x.1.2.1 j)/\x.1.2.2.1<=y.1.2.2.1:=by
  rintro⟨⟨k,T0,d,S,X,f',l',w⟩,N,o⟩;obtain⟨Z,d1,S1,X1,f1,l1,w1,D,E,c,g⟩:=G5 F gi C L G N o;exact⟨⟨(k+1,Z,d1,S1,X1,f1,l1,w1),c,g⟩,rfl,D,E⟩
 let Mx:M->M:=fun x=>adx (Q x)
 have B:=fun x=>adQ (Q x)
 let p:Nat->M:=fun n=>Nat.rec ⟨(0,v0.tape,v0.drawn,Rd r0,Wr r0,f',bS,w),root,A⟩ (fun _ x=>Mx x) n
 have u:∀n,p (n+1)=Mx (p n):=fun _=>rfl;have hk:∀n,(p n).1.1=n:=by
  intro n;induction n with
  |zero=>rfl
  |succ n J=>rw[u,(B _).1,J]
 have mono:∀n m,(p n).1.2.2.1<=(p (n+m)).1.2.2.1/\∀j,j<(p n).1.2.2.1->(p (n+m)).1.2.1 j=(p n).1.2.1 j:=by
  intro n m;induction m with
  |zero=>exact⟨ado _,fun _ _=>rfl⟩
  |succ m J=>
   have:=B (p (n+m));exact⟨adr J.1 this.2.2,fun j I=>(this.2.1 j (adq I J.1)).trans (J.2 j I)⟩
 let T:=fun j q=>if h:∃n,j<(p n).1.2.2.1 then(p (adx h)).1.2.1 j q else 0
 have R:∀n j,j<(p n).1.2.2.1->T j=(p n).1.2.1 j:=by
  intro n j I;have h:∃n,j<(p n).1.2.2.1:=⟨n,I⟩;have e:T j=(p (adx h)).1.2.1 j:=by
   funext q;show(if h:∃n,j<(p n).1.2.2.1 then(p (adx h)).1.2.1 j q else 0)=_
   rw[dif_pos h]
  have hm:=adQ h;generalize adx h=m at e hm;rw[e];rcases Nat.le_total m n with H|H
  ·obtain⟨a,rfl⟩:=adO H;exact((mono m a).2 j hm).symm
  ·obtain⟨a,rfl⟩:=adO H;exact(mono n a).2 j I
 obtain⟨n,f1,l1,v1,s,O⟩:=C T;obtain⟨N,_⟩:=(p n).2;obtain⟨r,m,f,l,v,D,_⟩:=N.alike T (R n);rw[hk n]at D;obtain⟨rfl,rfl,rfl⟩:=D.TY s;exact N.early T (R n) n _ _ _ (by simp_all) D O
end path
end
def dQ:Frame:={fn:=0,tmps:=#[],todo:=[.code (.refuse "")],defers:=[{target:=.nil,args:=#[]}],mode:=.run,kind:=.normal}
def Q7(t:Frame):=(t.mode=.run/\t.todo=[.code (.refuse "")])\/∃ch,t.mode=.panicking ch/\t.defers=[{target:=.nil,args:=#[]}]
theorem C_{t:Frame}(h:Q7 t)(v:World):∃o v1 es,stepG P true (G t []) v=.ended o v1 es:=by
 unfold stepG;simp only[G];rcases h with⟨hm,Y⟩|⟨ch,hm,hd⟩
 ·simp only[hm];unfold aeb;simp_all
 ·unfold unwind;simp only[hd];simp only[hm];exact⟨_,_,_,rfl⟩
theorem rq{x:Value}{v:World}:∃t v1 es,doReturn P true fr [dQ] none x v=.go (G t []) v1 es/\Q7 t:=by
 unfold doReturn;dsimp only;split
 ·exact⟨_,_,_,rfl,.inl ⟨rfl,rfl⟩⟩
 ·exact⟨_,_,_,rfl,.inl ⟨rfl,rfl⟩⟩
 ·exact⟨_,_,_,rfl,.inl ⟨rfl,rfl⟩⟩
 ·exact⟨_,_,_,rfl,.inl ⟨rfl,rfl⟩⟩
theorem Da{v:World}(hm:fr.mode≠.run)(hd:fr.defers=[]):(∃o v1 es,stepG P true (G fr [dQ]) v=.ended o v1 es)\/∃t v1 es,stepG P true (G fr [dQ]) v=.go (G t []) v1 es/\Q7 t:=by
 have e:stepG P true (G fr [dQ]) v=unwind P true fr [dQ] none v:=by
  unfold stepG;simp only[G]
 rw[e];unfold unwind;simp only[hd];split
 ·simp
 ·split
  ·simp
  ·rename_i ch _ _;exact .inr ⟨_,_,_,rfl,.inr ⟨ch,rfl,rfl⟩⟩
 ·split
  ·exact .inr rq
  ·generalize Sem.runT P _ v #[]=sv;obtain⟨K,H⟩:=sv;cases K with
   |ok x u=>
    obtain⟨t,v1,es,e,Y⟩:=rq (P:=P) (fr:=fr) (x:=x) (v:=u);simp only[e];exact .inr ⟨_,_,_,rfl,Y⟩
   |halt x u=>cases x<;>exact .inl ⟨_,_,_,rfl⟩
section
variable[aj]{P:Program}{main:Bool}{U:Nat->Nat->Prop}{r0:Rn}{v0 w:World}{bS:List Frame}
theorem qh{g:Frame}{u:World}(m:Nat)(K:g.mode≠.run)(Y:g.defers=[]):runN P (m+1) (lone g [dQ] u)≠.next (lone g1 [dQ] u1):=by
 intro e;simp[Go.runN]at e;rcases Da K Y with⟨o,u2,es,x⟩|⟨t,u2,es,x,D⟩
 ·rw[step_lone_ended (by show(stepG P _ (G g _) u).bare=_;rw[x];rfl)]at e;cases e
 ·rw[lone_eq_solo,step_solo_go rfl x]at e;cases m with
  |zero=>
   simp only[Go.runN,solo,lone,adU,ad9]at e;have:=e.2.1;simp[G]at this
  |succ m=>
   obtain⟨o,u3,H,y⟩:=C_ D u2;simp[Go.runN]at e;rw[<-lone_eq_solo,step_lone_ended (by show(stepG P _ (G t []) u2).bare=_;rw[y];rfl)]at e;cases e
theorem qi{Stop:Frame->World->Prop}(Y:∀f v,Stop f v->f.mode≠.run/\f.defers=[])(C:∀T,∃n f1 v1,runN P n (lone f0 [dQ] (tp v0 T))=.next (lone f1 [dQ] v1)/\Stop f1 v1)(T:Nat->Question->Nat)(k:Nat)(f:Frame)(v:World)(h:VR P k f0 [dQ] (tp v0 T) f [dQ] v)(hm:f.mode≠.run)(hd:f.defers=[]):Stop f v:=by
 obtain⟨n,f1,v1,K,H⟩:=C T;rcases Nat.lt_trichotomy n k with R|heq|D
 ·obtain⟨a,b⟩:=Y _ _ H;obtain⟨m,rfl⟩:∃m,k=n+(m+1):=⟨k-n-1,by omega⟩;have:=h.runN;rw[runN_add,K]at this;exact absurd this (qh m a b)
 ·subst heq;obtain⟨rfl,_,rfl⟩:=h.TY K;exact H
 ·obtain⟨m,rfl⟩:∃m,n=k+(m+1):=⟨n-k-1,by omega⟩;rw[runN_add,h.runN]at K;exact absurd K (qh m hm hd)
theorem Db(F:hI P)(hW:∀ops,¬aj.wall ops)(gi:GI r0){f:FuncId}{args Y:Array _}{R:Ending->World->Prop}(G:∀T,Calls P f args (tp v0 T) R)(J:∀u,¬R .outgrown u)(z:aj.bN f)(V:VA r0 args Y)(hw:W r0 0 v0 w)(L:C9 U r0)(B:∀a i,U a i->a<w.heap.size):
  Tr P main U (iF P U r0 (fun fr l v=>l=[dQ]/\∃e,R e v/\fr.fn=f/\fr.leaving P v e) [dQ] bS) (Rd r0) (Wr r0) (Frame.enter P f Y .normal) bS w:=by
 have C:∀T,∃n f1 v1,runN P n (lone (Frame.enter P f args .normal) [dQ] (tp v0 T))=.next (lone f1 [dQ] v1)/\∃e,R e v1/\f1.fn=f/\f1.leaving P v1 e:=by
  intro T;obtain⟨e,w',fr,D,I,A,K⟩:=G T _;cases e with
  |outgrown=>exact absurd D (J _)
  |returned x=>obtain⟨n,O⟩:=I;exact⟨n,fr,w',O,_,D,A,K⟩
  |panicked x=>obtain⟨n,O⟩:=I;exact⟨n,fr,w',O,_,D,A,K⟩
 have H:∀(fr:Frame) (v:World),(∃e,R e v/\fr.fn=f/\fr.leaving P v e)->fr.mode≠.run/\fr.defers=[]:=by
  rintro fr v ⟨e,D,_,K⟩;cases e with
  |outgrown=>exact absurd D (J _)
  |returned x=>exact⟨(by rw[K.1];simp),K.2.1⟩
  |panicked x=>exact⟨(by rw[K.1];simp),K.2.1⟩
 refine tree F gi (fun T=>?_) (fun T k fr v _ M N Q=>⟨rfl,qi H C T k fr v M N Q⟩) (fun T k f l v i ops S q _ _ _ h=>absurd h (hW ops)) (FR.enter F z V (.inl rfl)) ⟨rfl,rfl⟩ hw L B;obtain⟨n,f1,v1,M,N⟩:=C T;exact⟨n,f1,[dQ],v1,M,rfl,N⟩
end
end Ren
namespace Ren
open Conc
open ConcN (sumTo upd sumTo_upd upd_ne upd_same)
theorem ofEvents_g{g:Nat}{fn:FuncId}{es:Array _}{op:MemOp}(h:op∈adz g fn pos es):op.g=g:=by
 rw[ofEvents_eq]at h;obtain⟨e,he,rfl⟩:=adS.1 h;rfl
def Xf(a:Nat):Loc->Prop
 |.cell b=>b.block=a
 |.obj b=>b=a
 |_=>False
def jl(Z:Loc->Prop)(a:Nat):=∀l,Xf a l->¬Z l
def qj(Z:Loc->Prop)(B:Nat):=∀l,Z l->l.isMemory=true/\l.low B
theorem qj.mono{H:Nat}(h:qj Z B)(K:B<=H):qj Z H:=fun l Y=>⟨(h l Y).1,Loc.low_mono K (h l Y).2⟩
theorem qj.off{a:Nat}(h:qj Z B)(R:B<=a):jl Z a:=fun l Y D=>by
 have:=(h l D).2;cases l with
 |cell b=>have K:b.block=a:=Y;have H:b.block<B:=this;omega
 |obj b=>have K:b=a:=Y;have H:b<B:=this;omega
 |_=>exact Y
theorem Q8{u:Nat}(R:∀a,S a->jl Z a/\a<w.heap.size)(A:qj Z w.heap.size)(hu:w.heap.size<=u)(h:Ts S X w u e):EvL Z u e:=by
 obtain⟨loc,wr,U⟩:=e;rcases h with⟨a,rfl,K,I⟩|⟨a,rfl,K,I⟩|⟨m,rfl,K⟩|rfl
 ·subst K;have D:jl Z a.block/\a.block<u:=by
   rcases I with⟨h,_⟩|h
   ·exact⟨(R _ h).1,adq (R _ h).2 hu⟩
   ·exact⟨A.off h.1,h.2⟩
  refine⟨fun x Y H=>?_,by simp,by simp,?_⟩
  ·simp[adt,adH]at Y;subst Y;exact absurd H (D.1 _ rfl)
  ·exact D.2
 ·subst K;have D:jl Z a/\a<u:=by
   rcases I with⟨h,_⟩|h
   ·exact⟨(R _ h).1,adq (R _ h).2 hu⟩
   ·exact⟨A.off h.1,h.2⟩
  refine⟨fun x Y H=>?_,by simp,by simp,?_⟩
  ·simp[adt,adH]at Y;subst Y;exact absurd H (D.1 _ rfl)
  ·simp[adt];exact D.2
 ·refine⟨fun x Y H=>?_,?_,?_,?_⟩
  ·rcases K with rfl|⟨f,rfl⟩<;>simp[adt,adH]at Y
  ·rcases K with rfl|⟨f,rfl⟩<;>simp
  ·rcases K with rfl|⟨f,rfl⟩<;>simp
  ·rcases K with rfl|⟨f,rfl⟩<;>trivial
 ·refine⟨fun x Y H=>?_,by simp,by simp,trivial⟩;simp[adt,adH]at Y;subst Y;have:=(A _ H).1;cases this
section
variable{P:Program}{Z:Loc->Prop}{Done:(Nat->Prop)->(Nat->Prop)->Frame->List Frame->World->Prop}
theorem yK{t u:Trace}(h:∀op∈t,∀a,op.act≠.mark (.release a))(k:∀op∈u,∀a,op.act≠.mark (.release a)):∀op∈t++u,∀a,op.act≠.mark (.release a):=fun op aM=>(Array.mem_append.1 aM).elim (h op) (k op)
theorem JG{u g:Nat}{fn:FuncId}{es:Array _}(h:∀e∈es,Ts S X w u e):∀op∈adz g fn pos es,∀a,op.act≠.mark (.release a):=by
 intro op aM a0;rw[ofEvents_eq]at aM;obtain⟨e,he,rfl⟩:=adS.1 aM;obtain⟨loc,wr,D⟩:=e;rcases h _ he with⟨a,Y,K,_⟩|⟨a,Y,K,_⟩|⟨m,Y,h⟩|Y
 ·subst Y K;nofun
 ·subst Y K;have H:adt ⟨.obj a,wr,false⟩=.access ⟨.obj a,wr,false⟩:=by cases wr<;>rfl
  simp_all
 ·subst Y;rcases h with rfl|⟨f,rfl⟩<;>nofun
 ·subst Y;nofun
theorem Fo{g:Nat}{fn:FuncId}{es:Array _}(h:∀e∈es,e.mute=true):∀op∈adz g fn pos es,∀a,op.act≠.mark (.release a):=by
 intro op aM a0 y;rw[ofEvents_eq]at aM;obtain⟨e,he,rfl⟩:=adS.1 aM;have:=h e he;obtain⟨loc,wr,Y⟩:=e;cases loc<;>simp_all[Event.mute,adt]
structure Beside(P:Program)(Z:Loc->Prop)(S:Nat->Prop)(f:Frame)(l:List Frame)(w:World)(gs:Array Goroutine)(t:Trace)(q:Nat->Nat):Prop where
 g0:gs[0]?=some (G f l)
 gq:Leavers P t gs q
 past:Past Z w.heap.size t
 held:∀a,S a->jl Z a/\a<w.heap.size
 lH:qj Z w.heap.size
 nr:∀op∈t,∀a,op.act≠.mark (.release a)
structure Kept(X X':Nat->Prop)(w w':World):Prop where
 kept:∀a,a<w.heap.size->¬X a->w'.heap[a]?=w.heap[a]?
 grow:w.heap.size<=w'.heap.size
 may:∀a,X' a->X a\/w.heap.size<=a
 tape:w'.tape=w.tape
 env:j8 w'.os w.os
 output:w'.output=w.output
theorem Kept.refl(X:Nat->Prop)(w:World):Kept X X w w:=⟨fun _ _ _=>rfl,ado _,fun _ h=>.inl h,rfl,.refl _,rfl⟩
theorem Kept.trans{X X' H:Nat->Prop}{w w' R:World}(h:Kept X X' w w')(k:Kept X' H w' R):Kept X H w R:=by
 refine⟨fun a Y K=>(k.kept a (adq Y h.grow) fun x=>?_).trans (h.kept a Y K),adr h.grow k.grow,fun a Y=>?_,k.tape.trans h.tape,k.env.trans h.env,k.output.trans h.output⟩
 ·rcases h.may a x with y|y
  ·exact K y
  ·omega
 ·rcases k.may a Y with x|x
  ·exact h.may a x
  ·exact .inr (adr h.grow x)
theorem Did.toKept{w1:World}{es:Array _}(h:Did S X w w1 es S1 X1):Kept X X1 w w1:=⟨h.kept,h.grow,fun a Y=>((h.may a).1 Y).imp id fun x=>x.1,h.tape,h.env,h.output⟩
theorem Kept.at(w:World)(d:Nat):Kept X X w (w.at d):=⟨fun _ _ _=>rfl,ado _,fun _ h=>.inl h,rfl,.refl _,rfl⟩
theorem oW(U:Nat->Nat->Prop)(S:Nat->Prop)(w:World)(d:Nat):az U S w (w.at d):=⟨fun _ _=>.inl rfl,ado _,.refl _⟩
theorem AH{U:Nat->Nat->Prop}(h:Tr P true U Done S X f l w):
  ∀(gs:Array Goroutine) (sl:Option (Nat×Nat)) (t:Trace) (q:Nat->Nat),Beside P Z S f l w gs t q->
   ∃(N:Nat) (Y:Array Goroutine) (f':Frame) (l':List Frame) (w':World) (R:Option (Nat×Nat)) (t':Trace) (r:Nat->Nat) (S' X':Nat->Prop),
    runNT P N (crowd gs w sl) t=(.next (crowd Y w' R),t')/\Y.size=gs.size/\Done S' X' f' l' w'/\Beside P Z S' f' l' w' Y t' r/\Kept X X' w w':=by
 induction h with
 |stop hd=>exact fun gs sl t q H=>⟨0,gs,_,_,_,sl,t,q,_,_,rfl,rfl,hd,H,Kept.refl _ _⟩
 |@step S X f l w ex _ ih=>
  have inner:∀(M:Nat) (gs:Array Goroutine) (w0:World) (sl:Option (Nat×Nat)) (t:Trace) (q:Nat->Nat),sumTo gs.size q=M->az U S w w0->Beside P Z S f l w0 gs t q->
    ∃(N:Nat) (Y:Array Goroutine) (f':Frame) (l':List Frame) (w':World) (R:Option (Nat×Nat)) (t':Trace) (r:Nat->Nat) (S' X':Nat->Prop),
     runNT P N (crowd gs w0 sl) t=(.next (crowd Y w' R),t')/\Y.size=gs.size/\Done S' X' f' l' w'/\Beside P Z S' f' l' w' Y t' r/\Kept X X' w0 w':=by
   intro M;induction M using Nat.strongRecOn with
   |_ M Yt=>
   intro gs w0 sl t q hM hr H;have u:=H.gq;have m:=H.g0;have Yu:∀g∈gs,awake g:=by
    intro g v;obtain⟨i,B,rfl⟩:=Array.mem_iff_getElem.1 v;rcases adV i with rfl|I
    ·have:gs[0]=G f l:=by simpa[adp B]using m
     rw[this];exact awake_of (.inl rfl)
    ·exact awake_of ((u.old i _ I (adp B)).status.elim .inl fun x=>.inr (.inr x))
   obtain⟨i,g,d,R,B,v,au⟩:=crowd_pick (P:=P) (w:=w0) (sl:=sl) Yu ⟨0,_,m,rfl⟩;rcases adV i with rfl|I
   ·
    obtain rfl:g=G f l:=by rw[m]at B;exact(Option.some.inj B).symm
    have G6:=hr.trans (oW U S w0 d);obtain⟨f1,l1,w1,es,S1,X1,hgo,hd⟩:=ex (w0.at d) G6;have D:=runT_crowd_go (P:=P) (sl:=R) (i:=0) B (hgo);have L:((gs.map (woken P (G f l) (G f1 l1) w1)).setIfInBounds 0 (G f1 l1)).size=gs.size:=by simp
    have J:0<gs.size:=(adI.1 m).1;have K:=hd.grow;have Q:Beside P Z S1 f1 l1 w1 ((gs.map (woken P (G f l) (G f1 l1) w1)).setIfInBounds 0 (G f1 l1)) (t++adz 0 (G f l).frame.fn (G f l).frame.place es) q:=by
     refine⟨by simp[J],⟨fun j x C p=>?_,fun j C=>?_⟩,?_,fun a ha=>?_,H.lH.mono K,yK H.nr (JG hd.ev)⟩
     ·have E:0≠j:=by omega
      rw[adv E,adF]at p;obtain⟨y,hy,rfl⟩:=adC.1 p;have W:=u.old j y C hy;rw[woken_quitsD W,Deaf_other t (by omega) _ (fun op aM=>ofEvents_g aM)];exact W
     ·rw[Deaf_other t (g':=0) (by simp at C;omega) _ (fun op aM=>ofEvents_g aM)];exact u.above j (by simpa using C)
     ·exact(H.past.mono K).own fun e he=>Q8 (w:=w0.at d) H.held H.lH K (hd.ev e he)
     ·rcases(hd.held a).1 ha with x|x
      ·exact⟨(H.held a x).1,adq (H.held a x).2 K⟩
      ·exact⟨H.lH.off x.1,x.2⟩
    obtain⟨N,Y,f',l',w',A,t',r,S',X',c,o,T,O,V⟩:=ih (w0.at d) f1 l1 w1 es S1 X1 G6 hgo hd _ R _ q Q;exact⟨N+1,Y,f',l',w',A,t',r,S',X',by simp only[runNT,au,D];exact c,o.trans L,T,O,((Kept.at w0 d).trans hd.toKept).trans V⟩
   ·
    have W:=u.old i g I B;have Xg:(i==0)=false:=by simp;omega
    have J:i<gs.size:=(adI.1 B).1;cases z:q i with
    |zero=>rw[z]at W;rw[W.1]at v;cases v
    |succ k=>
     rw[z]at W;rcases W with⟨hf,_⟩|⟨_,s,es,hm,Yv,Tu⟩
     ·rw[hf]at v;cases v
     have D:=runT_crowd_go (P:=P) (sl:=R) (i:=i) B (by rw[Xg];exact Yv (w0.at d));have L:((gs.map (woken P g s (w0.at d))).setIfInBounds i s).size=gs.size:=by simp
     have Yw:sumTo gs.size (upd q i k)+(k+1)=sumTo gs.size q+k:=by
      have:=sumTo_upd q k id J;simpa[z]using this
     have Q:Beside P Z S f l (w0.at d) ((gs.map (woken P g s (w0.at d))).setIfInBounds i s) (t++adz i g.frame.fn g.frame.place es) (upd q i k):=by
      refine⟨?_,⟨fun j x C p=>?_,fun j C=>?_⟩,H.past.mute (by omega) hm,H.held,H.lH,yK H.nr (Fo hm)⟩
      ·have E:i≠0:=by omega
       rw[adv E,adF,m];simp[woken_run (b:=G f l) rfl]
      ·by_cases F:i=j
       ·subst F;rw[Array.getElem?_setIfInBounds_self_of_lt (by simpa using J)]at p;obtain rfl:=Option.some.inj p;rw[upd_same,Deaf_own];exact Tu
       ·rw[adv F,adF]at p;obtain⟨y,hy,rfl⟩:=adC.1 p;have n:=u.old j y C hy;rw[woken_quitsD n,upd_ne q k (Ne.symm F),Deaf_other t F _ (fun op aM=>ofEvents_g aM)];exact n
      ·rw[Deaf_other t (g':=i) (by simp at C;omega) _ (fun op aM=>ofEvents_g aM)];exact u.above j (by simpa using C)
     obtain⟨N,Y,f',l',w',A,t',r,S',X',c,o,T,O,V⟩:=Yt (sumTo gs.size (upd q i k)) (by omega) _ (w0.at d) R _ (upd q i k) (by rw[L]) (hr.trans (oW U S w0 d)) Q;exact⟨N+1,Y,f',l',w',A,t',r,S',X',by simp only[runNT,au,D];exact c,o.trans L,T,O,(Kept.at w0 d).trans V⟩
  exact fun gs sl t q H=>inner _ gs w sl t q rfl (az.refl U S w) H
end
end Ren
namespace Ren
open Conc
section
variable{P:Program}{main:Bool}{U:Nat->Nat->Prop}{D D':(Nat->Prop)->(Nat->Prop)->Frame->List Frame->World->Prop}
theorem Tr.bind{l:List _}(h:Tr P main U D S X f l w)(k:∀S X f l w,D S X f l w->Tr P main U D' S X f l w):Tr P main U D' S X f l w:=by
 induction h with
 |stop hd=>exact k _ _ _ _ _ hd
 |step ex _ Y=>exact .step ex fun w2 f1 l1 w1 es S1 X1 hr e hd=>Y w2 f1 l1 w1 es S1 X1 hr e hd
end
section
variable[aj]{P:Program}{main:Bool}{U:Nat->Nat->Prop}{r0:Rn}{v0 w:World}
def TZ(U:Nat->Nat->Prop)(r0:Rn)(R:Ending->World->Prop)(c:Frame)(cs:List Frame)(S X:Nat->Prop)(f':Frame)(l':List _)(w:World):=
 l'=cs/\∃r v x x',Le r0 r/\V r x x'/\f'=c.finish x'/\W r 0 v w/\S=Rd r/\X=Wr r/\R (.returned x) v/\C9 U r/\∀a i,U a i->a<w.heap.size
theorem tq(F:hI P)(p:∀l,¬aj.lh l){f:FuncId}{R:Ending->World->Prop}(C:∀e u,R e u->∃x,e=.returned x){c:Frame}
  (h:iF P U r0 (fun fr l v=>l=[dQ]/\∃e,R e v/\fr.fn=f/\fr.leaving P v e) [dQ] (c::cs) S X f' l' w):Tr P main U (TZ U r0 R c cs) S X f' l' w:=by
 obtain⟨r,n,fr,l,v,hle,A,Q,hw,rfl,rfl,⟨rfl,e,Z,g,s⟩,H,K⟩:=h;obtain⟨rfl,rfl⟩:=Q.JE;obtain⟨x,rfl⟩:=C e v Z;obtain⟨hm,hd,hk,fn,E,J⟩:=s;have O:f'.mode=.returning:=by
  have:=A.mode;rw[hm]at this;generalize f'.mode=m at this;cases this;rfl
 have M:f'.defers=[]:=by
  have:=A.defers;rw[hd]at this;generalize f'.defers=m at this;cases this with
  |nil=>rfl
  |rest _ h=>exact absurd h (p _)
 have N:=A.kind.trans hk;have B:P.funcs[f'.fn]?=some fn:=by rw[A.fn];omega
 have one:∀w2,az U (Rd r) w w2->∃r1 x' w1 es,Le r r1/\V r1 x x'/\W r1 0 v w1/\stepG P main (G f' (c::cs)) w2=.go (G (c.finish x') cs) w1 es/\Did (Rd r) (Wr r) w2 w1 es (Rd r1) (Wr r1)/\C9 U r1:=by
  intro w2 hr;have L:=hw.rely H hr;have run:=(th (fn:=fn) A.tmps).run F.vT #[] L;rw[J]at run;generalize T:Sem.runT P _ w2 #[]=sw at run;cases run with
  |sx a b=>simp only[Result.world]at a;omega
  |@ok _ x' _ w1 fs r1 c1 o t he=>
   have d:c1=0:=by have:=o.drew;omega
   subst d;have I:C9 U r1:=by
    intro b b' i e hu;rcases o.fresh b b' e with y|y
    ·exact H b b' i y hu
    ·have:=K b' i hu;have:=hr.grow;omega
   refine⟨r1,x',w1,_,o.le,t,o.wl,?_,o.did L (jC (P:=P) (fn:=f'.fn) he),I⟩;unfold stepG;simp only[G];unfold unwind;simp only[M,O,B,T];unfold doReturn;simp only[N,GStep.after];simp
 refine .step (fun w2 hr=>?_) fun w2 f1 l1 w1 es S1 X1 hr e Y=>?_
 ·obtain⟨r1,x',w1,es,_,_,_,e,Y,_⟩:=one w2 hr;exact⟨_,_,w1,es,_,_,e,Y⟩
 ·obtain⟨r1,x',k,gR,q,j,z,e',D,I⟩:=one w2 hr;rw[e]at e';cases e';obtain⟨rfl,rfl⟩:=Y.same D;exact .stop ⟨rfl,r1,v,x,x',hle.trans q,j,rfl,z,rfl,rfl,Z,I,fun a i hu=>adq (K a i hu) (adr hr.grow Y.grow)⟩
theorem G8(F:hI P)(hW:∀ops,¬aj.wall ops)(A:∀l,¬aj.lh l)(gi:GI r0){f:FuncId}{args Y:Array _}{R:Ending->World->Prop}(C:∀T,Calls P f args (tp v0 T) R)(K:∀e u,R e u->∃x,e=.returned x)(J:aj.bN f)(B:VA r0 args Y)(hw:W r0 0 v0 w)(I:C9 U r0)(H:∀a i,U a i->a<w.heap.size)(c:Frame)(cs:List _):
  Tr P main U (TZ U r0 R c cs) (Rd r0) (Wr r0) (Frame.enter P f Y .normal) (c::cs) w:=
 (Db F hW gi C (fun u h=>by obtain⟨x,e⟩:=K _ _ h;cases e) J B hw I H).bind fun S X f' l' w' h=>tq F A K h
end
section
variable[aj]{P:Program}{main:Bool}{U:Nat->Nat->Prop}{r0:Rn}{v0 w:World}
def oX:List Item:=[.code (.refuse "")]
def AJ(b:Frame)(R:Act->World->Prop)(f:Frame)(l:List _)(v:World):=l=[dQ]/\∃a,f=b.at a oX/\R a v
theorem ts(F:hI P)(hW:∀ops,¬aj.wall ops)(gi:GI r0){c:Code}{b:Frame}{a:Act}{R:Act->World->Prop}(M:∀T,Code.wp P c (fun e a' v'=>e=.normal/\R a' v') a (tp v0 T))
  (hb:b.kind=.normal)(V:cH P false c){bS:List _}(N:FR P r0 true (b.at a (.code c::oX)) f')(hw:W r0 0 v0 w)(A:C9 U r0)(I:∀a i,U a i->a<w.heap.size):
  Tr P main U (iF P U r0 (AJ b R) [dQ] bS) (Rd r0) (Wr r0) f' bS w:=by
 have C:∀T,∃n a' v1,runN P n (lone (b.at a (.code c::oX)) [dQ] (tp v0 T))=.next (lone (b.at a' oX) [dQ] v1)/\R a' v1:=by
  intro T;obtain⟨e,a',v1,⟨rfl,K⟩,n,Y⟩:=M T b _ _;exact⟨n,a',v1,Y,K⟩
 refine tree F gi (fun T=>?_) (fun T k f v he D J L=>?_) (fun T k f l v i ops Q q _ _ _ h=>absurd h (hW ops)) N ⟨rfl,hb⟩ hw A I
 ·obtain⟨n,a',v1,Y,K⟩:=C T;exact⟨n,_,_,v1,Y,rfl,a',rfl,K⟩
 ·exfalso;obtain⟨n,a',v1,Y,K⟩:=C T;rcases adW k n with O|H
  ·obtain⟨m,rfl⟩:∃m,n=k+(m+1):=⟨n-k-1,by omega⟩;rw[runN_add,D.runN]at Y;exact qh m J L Y
  ·obtain⟨g,l2,u,B⟩:=D.pre n H;obtain⟨rfl,rfl,rfl⟩:=B.TY Y;exact he n _ _ _ H B ⟨rfl,a',rfl,K⟩
theorem xw{b:Frame}{R:Act->World->Prop}(K:∀k,aj.rest k->k=kr)(h:iF P U r0 (AJ b R) [dQ] bS S X f' l' w):
  l'=bS/\∃r a v,Le r0 r/\W r 0 v w/\S=Rd r/\X=Wr r/\R a v/\C9 U r/\(∀a i,U a i->a<w.heap.size)/\VA r a.tmps f'.tmps/\f'.fn=b.fn/\f'.kind=b.kind/\f'.mode=.run/\f'.roundOf=none/\f'.todo=kr/\DB r true a.defers f'.defers:=by
 obtain⟨r,n,f,l,v,I,Y,C,hw,H,D,⟨rfl,a,rfl,A⟩,F,B⟩:=h;obtain⟨rfl,rfl⟩:=C.JE;refine⟨rfl,r,a,v,I,hw,H,D,A,F,B,Y.tmps,Y.fn,Y.kind,?_,?_,?_,Y.defers⟩
 ·have:=Y.mode;simp only[Frame.at]at this;generalize f'.mode=m at this;cases this;rfl
 ·have:=Y.round;simp only[Frame.at]at this;generalize f'.roundOf=m at this;cases this;rfl
 ·have:=Y.todo;simp only[Frame.at,oX]at this;generalize f'.todo=m at this;cases this with
  |rest _ _ h _=>exact K _ h
  |cons a _=>
   cases a with
   |code h=>exact absurd rfl h
end
def At(P:Program)(Z:Loc->Prop)(f:Frame)(l:List _)(w:World)(m:Machine)(t:Trace):=
 ∃gs sl q,m=crowd gs w sl/\Beside P Z (fun _=>False) f l w gs t q
abbrev QT:=(Loc->Prop)->Frame->List Frame->World->Prop
def aH(P:Program)(Q:QT)(Z:Loc->Prop)(f:Frame)(l:List Frame)(w:World):Prop:=
 ∀m t,At P Z f l w m t->∃N m' t' Z' f' l' w',runNT P N m t=(.next m',t')/\At P Z' f' l' w' m' t'/\Q Z' f' l' w'
theorem runNT_add(P:Program):∀a b m m1 t t1,runNT P a m t=(.next m1,t1)->runNT P (a+b) m t=runNT P b m1 t1
 |0,b,m,m1,t,t1,h=>by
  cases h;simp_all
 |a+1,b,m,m1,t,t1,h=>by
  rw[show a+1+b=(a+b)+1 by omega];simp[runNT]at h⊢;cases Y:stepT P m with
  |mk s ops=>
   rw[Y]at h;cases s with
   |next m2=>exact runNT_add P a b m2 m1 _ t1 h
   |ended o w=>cases h
section
variable{P:Program}{Q Q1:QT}{Z:Loc->Prop}{f:Frame}{l:List Frame}{w:World}
theorem aH.done(h:Q Z f l w):aH P Q Z f l w:=fun m t Y=>⟨0,m,t,Z,f,l,w,rfl,Y,h⟩
theorem aH.tree{Done:(Nat->Prop)->(Nat->Prop)->Frame->List _->World->Prop}{U:Nat->Nat->Prop}(h:Tr P true U Done S X f l w)(J:∀a,S a->jl Z a/\a<w.heap.size)
  (k:∀S' X' f' l' w',Done S' X' f' l' w'->Kept X X' w w'->aH P Q Z f' l' w'):aH P Q Z f l w:=by
 rintro m t ⟨gs,sl,q,rfl,K⟩;obtain⟨N,H,f',l',w',I,t',M,S',X',hr,O,C,Y,F⟩:=AH h gs sl t q ⟨K.g0,K.gq,K.past,J,K.lH,K.nr⟩;obtain⟨A,m2,t2,B,f2,l2,w2,L,D,R⟩:=k S' X' f' l' w' C F _ t' ⟨H,I,M,rfl,Y.g0,Y.gq,Y.past,(fun a h=>h.elim),Y.lH,Y.nr⟩;exact⟨N+A,m2,t2,B,f2,l2,w2,by rw[runNT_add P N A _ _ _ _ hr];omega,D,R⟩
end
section
variable[aj]{P:Program}{Q:QT}{Z:Loc->Prop}{w:World}
theorem aH.call(F:hI P)(hW:∀ops,¬aj.wall ops)(C:∀l,¬aj.lh l){r0:Rn}(gi:GI r0){f:FuncId}{args Y:Array _}{R:Ending->World->Prop}(M:∀T,Calls P f args (tp v0 T) R)(K:∀e u,R e u->∃x,e=.returned x)(N:aj.bN f)(H:VA r0 args Y)(hw:W r0 0 v0 w){c:Frame}{cs:List _}
  (L:∀a,Rd r0 a->jl Z a)
  (k:∀r v x x' w',Le r0 r->V r x x'->W r 0 v w'->R (.returned x) v->Kept (Wr r0) (Wr r) w w'->aH P Q Z (c.finish x') cs w'):aH P Q Z (Frame.enter P f Y .normal) (c::cs) w:=by
 refine aH.tree (U:=fun _ _=>False) (G8 F hW C gi M K N H hw (fun _ _ _ _ h=>h.elim) (fun _ _ h=>h.elim) c cs) (fun a H=>⟨L a H,?_⟩) ?_
 ·obtain⟨b,hb⟩:=H;exact(hw.lt hb).2
 ·rintro S' X' f' l' w' ⟨rfl,r,v,x,x',D,I,rfl,A,rfl,rfl,B,_⟩ J;exact k r v x x' w' D I A B J
end
section
variable[aj]
open Classical in
def jD (K:Nat->Prop):Rn where
 f b:=if K b then some b else none
 inj b b' c h h':=by
  split at h
  ·split at h'
   ·cases h;cases h';rfl
   ·cases h'
  ·cases h
 dY b c h:=by
  split at h
  ·cases h;exact Iff.rfl
  ·cases h
open Classical in
theorem gu{K:Nat->Prop}{b:Nat}(h:K b):jD K b=some b:=by
 show(if K b then some b else none)=_
 simp_all
open Classical in
theorem jE{K:Nat->Prop}{b c:Nat}:jD K b=some c↔K b/\b=c:=by
 show(if K b then some b else none)=some c↔_
 simp_all
theorem mD{K:Nat->Prop}{a:Nat}:Rd (jD K) a↔K a:=⟨(fun⟨b,hb⟩=>by obtain⟨h,rfl⟩:=jE.1 hb;exact h),fun h=>⟨a,gu h⟩⟩
theorem M6{K:Nat->Prop}{a:Nat}:Wr (jD K) a↔K a/\¬aj.ro a:=⟨(fun⟨b,hb,Y⟩=>by obtain⟨h,rfl⟩:=jE.1 hb;simp_all),fun h=>⟨a,gu h.1,h.2⟩⟩
theorem Dc(Y:∀b,¬aj.ro b)(R:aj.size<=w.heap.size)(h:∀b,K b->∃o,w.heap[b]?=some o/\O (jD K) o o):W (jD K) 0 w w:=by
 refine⟨fun b b' e=>?_,R,R,fun b hb=>absurd hb (Y b),fun i q I=>by omega,rfl⟩;obtain⟨hk,rfl⟩:=jE.1 e;obtain⟨o,H,D⟩:=h b hk;exact⟨o,o,H,H,.same (Y b) D⟩
theorem yL{r:Rn}{c:Array _}(e:TypeId)(fz:Nat×Nat)(h:∀x∈c,V r x x):O r (.cells c e fz) (.cells c e fz):=.cells e fz ⟨rfl,fun i x x' e e'=>by
 obtain rfl:=Option.some.inj (e.symm.trans e');exact h x (Array.mem_of_getElem? e)⟩
end
theorem tt(P:Program):∀n m m1 t t1,runNT P n m t=(.next m1,t1)->runN P n m=.next m1
 |0,m,m1,t,t1,h=>by
  cases h;rfl
 |n+1,m,m1,t,t1,h=>by
  simp[runNT]at h;simp[Go.runN,step];cases Y:stepT P m with
  |mk s ops=>
   rw[Y]at h;cases s with
   |next m2=>exact tt P n m2 m1 _ t1 h
   |ended o w=>cases h
def Ends(P:Program)(Y:Value->World->Prop)(Z:Loc->Prop)(f:Frame)(l:List _)(w:World):=∀w1,AtRel w w1->AtEnd P Z w.heap.size Y (G f l) w1
theorem aH.close{Y:Value->World->Prop}{W:World}(h:aH P (Ends P Y) (fun _=>False) f [] W):
  ∃M last o w' t',runNT P (M+1) (solo (G f []) W) #[]=(.ended o w',t')/\runN P M (solo (G f []) W)=.next last/\step P last=.ended o w'/\Conc.Good P Y last o w' t':=by
 have B:Past (fun _=>False) W.heap.size #[]:=past_nil.mono (Nat.zero_le _);obtain⟨N,m',t',Z',f',l',w',hr,⟨gs,sl,q,rfl,K⟩,U⟩:=h (solo (G f []) W) #[] ⟨#[G f []],none,fun _=>0,rfl,rfl,leavers_one P _,B,(fun a h=>h.elim),(fun a h=>h.elim),by simp⟩;obtain⟨M,last,o,w2,t2,H,R,I,A⟩:=beside_ends (D:=fun _ _ _=>False) (n:=0) (sl:=sl) (fun _ _ _ h=>h.elim) K.g0 K.gq K.past U;exact⟨N+M,last,o,w2,t2,by rw[show N+M+1=N+(M+1) by omega,runNT_add P N (M+1) _ _ _ _ hr];exact H,by rw[runN_add,tt P N _ _ _ _ hr];exact R,I,A⟩
theorem xx{b:Frame}{a:Act}{c:Code}{fn:Func}{R:Ending->World->Prop}(I:P.funcs[b.fn]?=some fn)(hk:b.kind=.normal)(A:∀u,¬R .outgrown u)(h:c.wp P (bodyPost P fn R) a w)(cs:List _):
  ∃n fr w' e,runN P n (lone (b.at a [.code c]) cs w)=.next (lone fr cs w')/\R e w'/\fr.fn=b.fn/\fr.leaving P w' e:=by
 obtain⟨e,a',w',K,Y⟩:=h b [] cs;cases e with
 |normal=>
  obtain⟨hd,v,hr,H⟩:=K;obtain⟨n,D⟩:=Steps.trans Y (.one step_end);exact⟨n,_,w',.returned v,D,H,rfl,rfl,hd,hk,fn,I,hr⟩
 |ret=>
  obtain⟨hd,v,hr,H⟩:=K;obtain⟨todo,n,D⟩:=Y;exact⟨n,_,w',.returned v,D,H,rfl,rfl,hd,hk,fn,I,hr⟩
 |panic chain=>
  obtain⟨hd,H⟩:=K;obtain⟨todo,n,D⟩:=Y;exact⟨n,_,w',.panicked _,D,H,rfl,rfl,hd,fn,I⟩
 |exit id=>exact K.elim
 |goto l=>exact K.elim
 |outgrown=>exact absurd K (A _)
section
variable[aj]{P:Program}{main:Bool}{U:Nat->Nat->Prop}{r0:Rn}{v0 w:World}{bS:List Frame}
theorem G9(F:hI P)(hW:∀ops,¬aj.wall ops)(gi:GI r0){b:Frame}{a:Act}{c:Code}{fn:Func}{R:Ending->World->Prop}(L:P.funcs[b.fn]?=some fn)(hk:b.kind=.normal)(N:∀T,c.wp P (bodyPost P fn R) a (tp v0 T))(A:∀u,¬R .outgrown u)(O:FR P r0 true (b.at a [.code c]) f')(hw:W r0 0 v0 w)(B:C9 U r0)(I:∀a i,U a i->a<w.heap.size):
  Tr P main U (iF P U r0 (fun fr l v=>l=[dQ]/\∃e,R e v/\fr.fn=b.fn/\fr.leaving P v e) [dQ] bS) (Rd r0) (Wr r0) f' bS w:=by
 have C:∀T,∃n f1 v1,runN P n (lone (b.at a [.code c]) [dQ] (tp v0 T))=.next (lone f1 [dQ] v1)/\∃e,R e v1/\f1.fn=b.fn/\f1.leaving P v1 e:=by
  intro T;obtain⟨n,fr,w',e,Q,J,K,H⟩:=xx L hk A (N T) _;exact⟨n,fr,w',Q,e,J,K,H⟩
 have Y:∀(fr:Frame) (v:World),(∃e,R e v/\fr.fn=b.fn/\fr.leaving P v e)->fr.mode≠.run/\fr.defers=[]:=by
  rintro fr v ⟨e,J,_,D⟩;cases e with
  |outgrown=>exact absurd J (A _)
  |returned x=>exact⟨(by rw[D.1];simp),D.2.1⟩
  |panicked x=>exact⟨(by rw[D.1];simp),D.2.1⟩
 refine tree F gi (fun T=>?_) (fun T k fr v _ K H M=>⟨rfl,qi Y C T k fr v K H M⟩) (fun T k f l v i ops S q _ _ _ h=>absurd h (hW ops)) O ⟨rfl,hk⟩ hw B I;obtain⟨n,f1,v1,K,H⟩:=C T;exact⟨n,f1,[dQ],v1,K,rfl,H⟩
end
section
variable[aj]{P:Program}{Q:QT}{Z:Loc->Prop}{w:World}
theorem aH.rest(F:hI P)(hW:∀ops,¬aj.wall ops)(J:∀l,¬aj.lh l){r0:Rn}(gi:GI r0){b:Frame}{a:Act}{c:Code}{fn:Func}{R:Ending->World->Prop}(K:P.funcs[b.fn]?=some fn)(hk:b.kind=.normal)(N:∀T,c.wp P (bodyPost P fn R) a (tp v0 T))(Y:∀e u,R e u->∃x,e=.returned x)(O:FR P r0 true (b.at a [.code c]) f')(hw:W r0 0 v0 w){c0:Frame}{cs:List _}
  (M:∀a,Rd r0 a->jl Z a)
  (k:∀r v x x' w',Le r0 r->V r x x'->W r 0 v w'->R (.returned x) v->Kept (Wr r0) (Wr r) w w'->aH P Q Z (c0.finish x') cs w'):aH P Q Z f' (c0::cs) w:=by
 have D:=G9 (main:=true) (U:=fun _ _=>False) (bS:=c0::cs) F hW gi K hk N (fun u h=>by obtain⟨x,e⟩:=Y _ _ h;cases e) O hw (fun _ _ _ _ h=>h.elim) (fun _ _ h=>h.elim);refine aH.tree (D.bind fun S X f' l' w' h=>tq F J Y h) (fun a H=>⟨M a H,?_⟩) ?_
 ·obtain⟨b,hb⟩:=H;exact(hw.lt hb).2
 ·rintro S' X' f' l' w' ⟨rfl,r,v,x,x',I,A,rfl,B,rfl,rfl,C,_⟩ L;exact k r v x x' w' I A B C L
end
theorem AK{b:Frame}{a:Act}{c:Code}{fn:Func}{ops:Array _}{l:List Nat}{R:Ending->World->Prop}(I:P.funcs[b.fn]?=some fn)(hk:b.kind=.normal)(K:∀u,¬R .outgrown u)(h:wpOps P ops (fun e a' w'=>e=.normal/\c.wp P (bodyPost P fn R) a' w') l a w)(cs:List _):
  ∃n fr w' e,runN P n (lone (b.at a [.inRegion ops l,.code c]) cs w)=.next (lone fr cs w')/\R e w'/\fr.fn=b.fn/\fr.leaving P w' e:=by
 obtain⟨e,a',w',⟨rfl,H⟩,n1,Y⟩:=wp_ops l a w h b _ cs;obtain⟨n,fr,w2,e,D,r⟩:=xx I hk K H cs;exact⟨n1+n,fr,w2,e,by rw[runN_add,Y];exact D,r⟩
section
variable[aj]{P:Program}{Q:QT}{Z:Loc->Prop}{w:World}
theorem aH.lone(F:hI P)(hW:∀ops,¬aj.wall ops)(M:∀l,¬aj.lh l){r0:Rn}(gi:GI r0){b:Frame}{a:Act}{its:List _}{fn:Func}{R:Ending->World->Prop}(o:P.funcs[b.fn]?=some fn)(hk:b.kind=.normal)(p:∀T,∃n fr w' e,runN P n (Go.lone (b.at a its) [dQ] (tp v0 T))=.next (Go.lone fr [dQ] w')/\R e w'/\fr.fn=b.fn/\fr.leaving P w' e)(Y:∀e u,R e u->∃x,e=.returned x)(z:FR P r0 true (b.at a its) f')(hw:W r0 0 v0 w){c0:Frame}{cs:List _}
  (G:∀a,Rd r0 a->jl Z a)
  (k:∀r v x x' w',Le r0 r->V r x x'->W r 0 v w'->R (.returned x) v->Kept (Wr r0) (Wr r) w w'->aH P Q Z (c0.finish x') cs w'):aH P Q Z f' (c0::cs) w:=by
 have U:∀u,¬R .outgrown u:=fun u h=>by obtain⟨x,e⟩:=Y _ _ h;cases e
 have C:∀T,∃n f1 v1,runN P n (Go.lone (b.at a its) [dQ] (tp v0 T))=.next (Go.lone f1 [dQ] v1)/\∃e,R e v1/\f1.fn=b.fn/\f1.leaving P v1 e:=by simp_all
 have K:∀(fr:Frame) (v:World),(∃e,R e v/\fr.fn=b.fn/\fr.leaving P v e)->fr.mode≠.run/\fr.defers=[]:=by
  rintro fr v ⟨e,O,_,I⟩;cases e with
  |outgrown=>exact absurd O (U _)
  |returned x=>exact⟨(by rw[I.1];simp),I.2.1⟩
  |panicked x=>exact⟨(by rw[I.1];simp),I.2.1⟩
 have J:Tr P true (fun _ _=>False) (iF P (fun _ _=>False) r0 (fun fr l v=>l=[dQ]/\∃e,R e v/\fr.fn=b.fn/\fr.leaving P v e) [dQ] (c0::cs)) (Rd r0) (Wr r0) f' (c0::cs) w:=by
  refine Ren.tree F gi (fun T=>?_) (fun T k fr v _ H D A=>⟨rfl,qi K C T k fr v H D A⟩) (fun T k f l v i ops E q _ _ _ h=>absurd h (hW ops)) z ⟨rfl,hk⟩ hw (fun _ _ _ _ h=>h.elim) (fun _ _ h=>h.elim);obtain⟨n,f1,v1,H,D⟩:=C T;exact⟨n,f1,[dQ],v1,H,rfl,D⟩
 refine aH.tree (J.bind fun S X f' l' w' h=>tq F M Y h) (fun a B=>⟨G a B,?_⟩) ?_
 ·obtain⟨b,hb⟩:=B;exact(hw.lt hb).2
 ·rintro S' X' f' l' w' ⟨rfl,r,v,x,x',H,D,rfl,A,rfl,rfl,L,_⟩ N;exact k r v x x' w' H D A L N
end
end Ren
namespace Ph
open Conc Ren
structure fj(U:Nat->Nat->Prop)(S X:Nat->Prop)(w w1:World)(es:Array Event)(S1 X1:Nat->Prop):Prop extends Did S X w w1 es S1 X1 where
 Yx:∀e∈es,∀a:Addr,e.loc=.cell a->¬U a.block a.off
inductive Tz(P:Program)(main:Bool)(U:Nat->Nat->Prop)(Done:(Nat->Prop)->(Nat->Prop)->Goroutine->World->Prop):(Nat->Prop)->(Nat->Prop)->Goroutine->World->Prop
 |stop {S X:Nat->Prop} {g:Goroutine} {w:World}:Done S X g w->Tz P main U Done S X g w
 |step {S X:Nat->Prop} {g:Goroutine} {w:World}:g.status=.running->(∀w2,az U S w w2->∃g1 w1 es S1 X1,stepG P main g w2=.go g1 w1 es/\fj U S X w2 w1 es S1 X1)->
   (∀w2 g1 w1 es S1 X1,az U S w w2->stepG P main g w2=.go g1 w1 es->fj U S X w2 w1 es S1 X1->Tz P main U Done S1 X1 g1 w1)->Tz P main U Done S X g w
section
variable{P:Program}{main:Bool}{U:Nat->Nat->Prop}{D D':(Nat->Prop)->(Nat->Prop)->Goroutine->World->Prop}{S X S1 X1 S2 X2:Nat->Prop}{g:Goroutine}{f:Frame}{l:List Frame}{w w1 w2 w3:World}{es:Array Event}
theorem Tz.bind(h:Tz P main U D S X g w)(k:∀S X g w,D S X g w->Tz P main U D' S X g w):Tz P main U D' S X g w:=by
 induction h with
 |stop hd=>exact k _ _ _ _ hd
 |step Y ex _ K=>exact .step Y ex fun w2 g1 w1 es S1 X1 hr e hd=>K w2 g1 w1 es S1 X1 hr e hd
theorem Tz.one(I:g.status=.running)(h:∀w2,az U S w w2->∃g1 w1 es S1 X1,stepG P main g w2=.go g1 w1 es/\fj U S X w2 w1 es S1 X1/\Tz P main U D S1 X1 g1 w1):Tz P main U D S X g w:=by
 refine .step I (fun w2 hr=>?_) fun w2 g1 w1 es S1 X1 hr e hd=>?_
 ·obtain⟨g1,w1,es,S1,X1,e,hd,_⟩:=h w2 hr;exact⟨g1,w1,es,S1,X1,e,hd⟩
 ·obtain⟨R,B,gR,K,H,e',Y,A⟩:=h w2 hr;rw[e]at e';cases e';obtain⟨rfl,rfl⟩:=hd.toDid.same Y.toDid;exact A
theorem AL{u:Nat}(h:Ts S X w u e):Ts (fun a=>S a\/SF a) (fun a=>X a\/XF a) w u e:=by
 rcases h with⟨a,Y,K,H⟩|⟨a,Y,K,H⟩|h
 ·exact .inl ⟨a,Y,K,H.imp (fun y=>⟨.inl y.1,fun z=>.inl (y.2 z)⟩) id⟩
 ·exact .inr (.inl ⟨a,Y,K,H.imp (fun y=>⟨.inl y.1,fun z=>.inl (y.2 z)⟩) id⟩)
 ·exact .inr (.inr h)
theorem Tz.of{R:(Nat->Prop)->(Nat->Prop)->Frame->List Frame->World->Prop}(h:Tr P main U R S X f l w)(A:∀a i,U a i->a<w.heap.size/\¬S a)(k:∀S X f l w,R S X f l w->Tz P main U D' (fun a=>S a\/SF a) (fun a=>X a\/XF a) (G f l) w):
  Tz P main U D' (fun a=>S a\/SF a) (fun a=>X a\/XF a) (G f l) w:=by
 induction h with
 |stop hd=>exact k _ _ _ _ _ hd
 |@step S X f l w ex _ L=>
  have B:∀{w2:World},az U (fun a=>S a\/SF a) w w2->az U S w w2:=fun hr=>⟨fun a H=>hr.kept a (.inl H),hr.grow,hr.env⟩;refine Tz.one rfl fun w2 hr=>?_;obtain⟨f1,l1,w1,es,S1,X1,e,hd⟩:=ex w2 (B hr);refine⟨_,w1,es,_,_,e,⟨⟨fun a H J=>hd.kept a H fun y=>J (.inl y),hd.grow,fun a=>?_,fun a=>?_,fun e he=>AL (hd.ev e he),hd.tape,hd.env,hd.output⟩,fun e he a D hu=>?_⟩,L w2 f1 l1 w1 es S1 X1 (B hr) e hd fun a i hu=>?_⟩
  ·rw[hd.held];constructor
   ·rintro((y|y)|y)
    ·exact .inl (.inl y)
    ·exact .inr y
    ·exact .inl (.inr y)
   ·rintro((y|y)|y)
    ·exact .inl (.inl y)
    ·exact .inr y
    ·omega
  ·rw[hd.may];constructor
   ·rintro((y|y)|y)
    ·exact .inl (.inl y)
    ·omega
    ·exact .inl (.inr y)
   ·rintro((y|y)|y)
    ·exact .inl (.inl y)
    ·exact .inr y
    ·omega
  ·have K:=A _ _ hu;have C:=hr.grow;rcases hd.ev e he with⟨a',Y,_,I⟩|⟨a',Y,_⟩|⟨m,Y,_⟩|Y
   ·rw[D]at Y;cases Y;rcases I with y|y
    ·exact K.2 y.1
    ·omega
   ·simp_all
   ·rw[D]at Y;cases Y
   ·rw[D]at Y;cases Y
  ·have K:=A a i hu;have C:=hr.grow;have I:=hd.grow;refine⟨by omega,fun F=>?_⟩;rcases(hd.held a).1 F with y|y
   ·exact K.2 y
   ·omega
theorem ay{U:Nat->Nat->Prop}(S X:Nat->Prop)(w:World):fj U S X w w #[] S X:=
 ⟨⟨fun _ _ _=>rfl,ado _,fun a=>⟨.inl,fun h=>h.resolve_right fun y=>by omega⟩,fun a=>⟨.inl,fun h=>h.resolve_right fun y=>by omega⟩,fun e he=>by simp_all,rfl,.refl _,rfl⟩,fun e he=>by simp_all⟩
end
def pW{α:Type}(P:Program):Sem α->Option α
 |.pure a=>some a
 |.program k=>pW P (k P)
 |_=>none
theorem yM{α:Type}:∀{s:Sem α} {a:α},pW P s=some a->∀w es,s.runT P w es=(.ok a w,es)
 |.pure b,a,h,w,es=>by
  simp[pW,Option.some.injEq]at h;simp_all
 |.program k,a,h,w,es=>by
  simp[pW]at h;exact yM h w es
 |.load _ _ _,a,h,w,es|.store _ _ _ _,a,h,w,es|.new _ _,a,h,w,es|.shape _ _,a,h,w,es|.freeze _ _ _,a,h,w,es|.frozen _ _,a,h,w,es|.getObj _ _,a,h,w,es|.setObj _ _ _,a,h,w,es|.choose _ _,a,h,w,es|.sys _ _,a,h,w,es|.mark _ _,a,h,w,es|.halt _,a,h,w,es=>by simp[pW]at h
theorem eD{α:Type}{s:Sem α}{a:α}(h:pW P s=some a)(w:World):s.run P w=.ok a w:=by
 have:=yM h w #[];simp_all
theorem jm{α:Type}{s:Sem α}{a:α}(h:pW P s=some a)(w:World)(es:Array _):s.events P w es=es:=by
 have:=yM h w es;simp_all
def pop(P:Program)(f:Frame)(l:List Frame)(s:Sem Next):Option (Frame×List Frame):=
 match pW P s with
 |some (.value v)=>some (f.finish v,l)
 |some .skip=>some (f.finish undef,l)
 |some (.enter g args)=>some (Frame.enter P g args .normal,f::l)
 |some (.defer d)=>some (({f with defers:=d::f.defers}:Frame).finish undef,l)
 |_=>none
def prun(P:Program)(f:Frame)(l:List _):=
 match f.todo with
 |.code .skip::k|.code (.label _)::k|.inBlock _::k|.inScope _::k=>some ({f with todo:=k},l)
 |.code (.seq a b)::k=>some ({f with todo:=.code a:: .code b::k},l)
 |.code (.cond c a b)::k=>match f.eval c with
  |.bool t=>some ({f with todo:=.code (if t then a else b)::k},l)
  |_=>none
 |.code (.block id c)::k=>some ({f with todo:=.code c:: .inBlock id::k},l)
 |.code (.loop c)::k|.inLoop c::k=>some ({f with todo:=.code c:: .inLoop c::k},l)
 |.code (.exit id)::k=>match exitTo id k with
  |some k'=>some ({f with todo:=k'},l)
  |none=>none
 |.code .ret::_|[]=>some ({f with mode:=.returning},l)
 |.code (.region _ ops false)::k=>some ({f with todo:=.inRegion ops (List.range ops.size)::k},l)
 |.inRegion _ []::k=>some ({f with todo:=k},l)
 |.inRegion ops (i::_)::_=>match ops[i]? with
  |some o=>if adJ o (yielded ops f.tmps)then pop P f l (execOp f.eval o)else some (f.finish undef,l)
  |none=>none
 |_=>none
def Q9(P:Program)(f:Frame)(l:List Frame):=
 match f.defers with
 |[]=>match l with
  |c::l'=>match f.kind with
   |.normal=>match P.funcs[f.fn]? with
    |some fn=>match pW P (results fn f.tmps)with
     |some v=>some (c.finish v,l')
     |none=>none
    |none=>none
   |.deferred=>match P.funcs[f.fn]?,c.mode with
    |some fn,.returning=>match pW P (results fn f.tmps)with
     |some v=>some (c,l')
     |none=>none
    |_,_=>none
   |_=>none
  |[]=>none
 |d::Y=>match d.target with
  |.fn fn c=>match pW P (invoke (.fn fn c) d.args)with
   |some (.enter g args)=>some (Frame.enter P g args .deferred,{f with defers:=Y}::l)
   |_=>none
  |_=>none
def Cr(P:Program)(f:Frame)(l:List _):=
 match f.roundOf,f.kind with
 |some _,_|_,.early=>none
 |none,_=>match f.mode with
  |.run=>prun P f l
  |.returning=>Q9 P f l
  |_=>none
def aQ(P:Program):Nat->Frame->List Frame->Frame×List Frame
 |0,f,l=>(f,l)
 |n+1,f,l=>match Cr P f l with
  |some (f1,l1)=>aQ P n f1 l1
  |none=>(f,l)
section
variable{P:Program}{main:Bool}{f f1:Frame}{l l1:List Frame}{w:World}
theorem G_{s:Sem _}(hk:f.kind≠.early)(h:pop P f l s=some (f1,l1))(K:∃ops is k,f.todo=.inRegion ops is::k):
  stepG.apply P true f l none s w=.go (G f1 l1) w #[]:=by
 obtain⟨ops,is,k,H⟩:=K;unfold pop at h;have Y:=by omega
 split at h
 ·rename_i v e;cases h;simp[stepG.apply,eD e,jm e,G,GStep.after,seen_none]
 ·rename_i e;cases h;simp[stepG.apply,eD e,jm e,G,GStep.after,seen_none]
 ·rename_i g args e;cases h;simp[stepG.apply,eD e,jm e,H,G,GStep.after,seen_none]
 ·rename_i d e;cases h;simp[stepG.apply,eD e,jm e,G,GStep.after,seen_none]
 ·cases h
theorem tu(hr:f.roundOf=none)(hk:f.kind≠.early)(hm:f.mode=.run)(h:prun P f l=some (f1,l1)):stepG P main (G f l) w=.go (G f1 l1) w #[]:=by
 have Y:stepG P main (G f l) w=aeb P main true f l none w:=by
  unfold stepG;simp only[G,hm]
 rw[Y];clear Y;obtain⟨fn,tmps,todo,defers,mode,kind,ro⟩:=f;simp only at hr hk hm;subst hr hm;unfold prun at h;unfold aeb;split at h<;>rename_i K<;>first|(cases h;done)|(simp only at K;subst K;dsimp only)
 ·cases h;rfl
 ·cases h;rfl
 ·cases h;rfl
 ·cases h;rfl
 ·cases h;rfl
 ·split at h
  ·rename_i t e;cases h;simp only[e];rfl
  ·cases h
 ·cases h;rfl
 ·cases h;rfl
 ·cases h;rfl
 ·split at h
  ·rename_i k' e;cases h;simp only[e];rfl
  ·cases h
 ·cases h;rfl
 ·cases h;rfl
 ·cases h;rfl
 ·cases h;rfl
 ·split at h
  ·rename_i o e;split at h
   ·rename_i hw;simp only[e,adP,hw,ad_,if_true];unfold stepG.oper;simp only[Frame.oper?,e];exact G_ (f:=⟨fn,tmps,_,defers,.run,kind,none⟩) hk h ⟨_,_,_,rfl⟩
   ·rename_i hw;cases h;simp only[e,adP,hw,ad_];rfl
  ·cases h
theorem De(hm:f.mode=.returning)(h:Q9 P f l=some (f1,l1)):stepG P main (G f l) w=.go (G f1 l1) w #[]:=by
 have D:stepG P main (G f l) w=unwind P main f l none w:=by
  unfold stepG;simp only[G,hm]
 rw[D];unfold Q9 at h;unfold unwind;split at h
 ·rename_i hd;simp only[hd,hm];split at h
  ·rename_i c l';split at h
   ·rename_i Y;split at h
    ·rename_i fn H;split at h
     ·rename_i v e;cases h;simp[H,eD e,jm e,doReturn,Y,G,GStep.after,seen_none]
     ·cases h
    ·cases h
   ·rename_i Y;split at h
    ·rename_i fn H K;split at h
     ·rename_i v e;cases h;simp[H,eD e,jm e,doReturn,Y,K,G,GStep.after,seen_none]
     ·cases h
    ·cases h
   ·cases h
  ·cases h
 ·rename_i d A hd;split at h
  ·rename_i fn c R;split at h
   ·rename_i g args e;cases h;obtain⟨U,I⟩:=d;subst R;simp[hd,callDeferred,eD e,jm e,G,GStep.after,seen_none]
   ·cases h
  ·cases h
theorem et(h:Cr P f l=some (f1,l1)):stepG P main (G f l) w=.go (G f1 l1) w #[]:=by
 unfold Cr at h;split at h
 ·cases h
 ·cases h
 ·rename_i hr hk;split at h
  ·rename_i hm;exact tu hr hk hm h
  ·rename_i hm;exact De hm h
  ·cases h
theorem Tz.pure{U:Nat->Nat->Prop}{D:(Nat->Prop)->(Nat->Prop)->Goroutine->World->Prop}:∀n {f:Frame} {l:List _} {w:World},(∀w2,az U S w w2->Tz P main U D S X (G (aQ P n f l).1 (aQ P n f l).2) w2)->Tz P main U D S X (G f l) w
 |0,f,l,w,h=>h w (.refl _ _ _)
 |n+1,f,l,w,h=>by
  unfold aQ at h;split at h
  ·rename_i f1 l1 e;refine Tz.one rfl fun w2 hr=>⟨_,w2,#[],S,X,et e,ay S X w2,Tz.pure n fun w3 Y=>h w3 (hr.trans Y)⟩
  ·exact h w (.refl _ _ _)
end
def opAt(f:Frame):=match f.roundOf,f.mode,f.kind with
 |some _,_,_|_,.returning,_|_,.panicking _,_|_,_,.early=>none
 |none,.run,_=>match f.todo with
  |.inRegion ops (i::_)::_=>match ops[i]? with
   |some o=>if adJ o (yielded ops f.tmps)then some o else none
   |none=>none
  |_=>none
def ahead(f:Frame):Option (FuncId×Array Value):=match opAt f with
 |some o=>match o.op with
  |.call c=>match c.callee with
   |.value (.func g)=>some (g,c.args.map f.eval)
   |_=>none
  |_=>none
 |none=>none
def gS(f:Frame):Option (TypeId×Value):=match opAt f with
 |some o=>match o.op with
  |.load t x=>some (t,f.eval x)
  |_=>none
 |none=>none
def JH(f:Frame):Option (TypeId×Value×Bool):=match opAt f with
 |some o=>match o.op with
  |.recv t x b=>some (t,f.eval x,b)
  |_=>none
 |none=>none
section
variable{P:Program}{main:Bool}{f:Frame}{cs:List Frame}{w w':World}{g:FuncId}{fn:Func}{vs:Array Value}
theorem eu{o:Oper}(h:opAt f=some o):∃ops i rest k,f=f.at ⟨f.tmps,f.defers⟩ (.inRegion ops (i::rest)::k)/\ops[i]?=some o/\adJ o (yielded ops f.tmps)=true/\f.kind≠.early:=by
 obtain⟨fn,tmps,todo,defers,mode,kind,ro⟩:=f;unfold opAt at h;split at h<;>first|(cases h)|skip
 rename_i hr hm hk;simp only at hr hm hk h;subst hr hm;split at h<;>first|(cases h)|skip
 rename_i ops i rest k;split at h
 ·rename_i o' Y;split at h
  ·rename_i hw;cases h;exact⟨ops,i,rest,k,rfl,Y,hw,fun e=>hk e⟩
  ·cases h
 ·cases h
theorem bG{o:Oper}(h:opAt f=some o){v:Value}(hr:(execOp f.eval o).run P w=.ok (.value v) w'):stepG P main (G f cs) w=.go (G (f.finish v) cs) w' (seen P f.fn ((execOp f.eval o).events P w #[])):=by
 obtain⟨ops,i,rest,k,e,H,hw,hk⟩:=eu h;have K:f.eval=Act.eval ⟨f.tmps,f.defers⟩:=by rw[e];exact Frame.eval_at' _ _ _
 have:=stepG_value (main:=main) (a:=⟨f.tmps,f.defers⟩) (k:=k) (cs:=cs) (rest:=rest) H hw hk (by exact hr);rw[<-e]at this;rw[this];have Y:f.finish v=f.at (ad0 ⟨f.tmps,f.defers⟩ o.dst v) (.inRegion ops rest::k):=by
  conv=>lhs;rw[e]
  rw[adE,H];rfl
 rw[<-Y];unfold listed;rw[<-K]
theorem ec(h:ahead f=some (g,vs)):∃o aix Y,opAt f=some o/\o.op=.call {callee:=.value (.func g),args:=aix,argTypes:=Y}/\aix.map f.eval=vs:=by
 unfold ahead at h;split at h
 ·rename_i o R;split at h
  ·rename_i c H;split at h
   ·rename_i K D;cases h;obtain⟨callee,args,Y⟩:=c;simp_all
   ·cases h
  ·cases h
 ·cases h
theorem JI(h:ahead f=some (g,vs))(B:P.funcs[g]?=some fn)(K:(fn.name== "runtime.NumGoroutine")=false)(hb:fn.body.isNone=true)(C:aec fn=none){e:Array _->Sem _}(he:Extern.find fn=some e)
  {v:Value}{Y:Array _}(R:(e vs).run P w=.ok v w')(I:(e vs).events P w #[⟨.mark (.extern g),false,true⟩]=#[⟨.mark (.extern g),false,true⟩]++Y)(J:∀x∈Y,x.sync=true/\∀g,x.loc≠.mark (.extern g)):
  stepG P main (G f cs) w=.go (G (f.finish v) cs) w' Y:=by
 obtain⟨o,aix,U,F,aM,rfl⟩:=ec h;obtain⟨ops,i,rest,k,D,A,hw,hk⟩:=eu F;have:=stepG_entry (main:=main) (a:=⟨f.tmps,f.defers⟩) (kk:=k) (cs:=cs) (rest:=rest) A hw hk aM B K hb C he R I J;rw[<-D]at this;rw[this];have H:f.finish v=f.at (ad0 ⟨f.tmps,f.defers⟩ o.dst v) (.inRegion ops rest::k):=by
  conv=>lhs;rw[D]
  rw[adE,A];rfl
 rw[<-H]
structure bO(P:Program)(g:FuncId)(e:Array Value->Sem Value):Prop where
 ex:∃fn,P.funcs[g]?=some fn/\(fn.name== "runtime.NumGoroutine")=false/\fn.body.isNone=true/\aec fn=none/\Extern.find fn=some e
theorem dz{e:Array _->Sem _}(X:bO P g e)(h:ahead f=some (g,vs)){v:Value}{Y:Array _}(K:(e vs).run P w=.ok v w')(H:(e vs).events P w #[⟨.mark (.extern g),false,true⟩]=#[⟨.mark (.extern g),false,true⟩]++Y)(B:∀x∈Y,x.sync=true/\∀g,x.loc≠.mark (.extern g)):
  stepG P main (G f cs) w=.go (G (f.finish v) cs) w' Y:=by
 obtain⟨fn,D,R,I,A,U⟩:=X.ex;exact JI h D R I A U K H B
theorem cS{m:Mark}(hm:∀g,m≠.extern g)(X:bO P g (fun _=>do mark m;pure adK))(h:ahead f=some (g,vs)):stepG P main (G f cs) w=.go (G (f.finish (.tuple #[])) cs) w #[⟨.mark m,false,true⟩]:=
 dz X h (by simp[adK]) (by simp) (by simp_all)
theorem eX{mk:Addr->Mark}(hm:∀ad g,mk ad≠.extern g)(X:bO P g (Extern.Race.marked mk))(h:ahead f=some (g,#[.pointer (some ad)])):stepG P main (G f cs) w=.go (G (f.finish (.tuple #[])) cs) w #[⟨.mark (mk ad),false,true⟩]:=
 dz X h (by simp[Extern.Race.marked,aed,adK]) (by simp[Extern.Race.marked,aed]) (by simp_all)
theorem fq{k:IntKind}(X:bO P g (adX (.int k))){v n:Int}(h:ahead f=some (g,#[.pointer (some ad),.int k v,.int k n]))(Y:w.cell? ad=some (.int k v))(K:w.frozen? ad=false):
  stepG P main (G f cs) w=.go (G (f.finish (.bool true)) cs) (w.setCell ad (.int k n)) #[⟨.cell ad,false,true⟩,⟨.cell ad,true,true⟩]:=
 dz X h (by exact run_cas_hit_entry Y K) (by rw[casT_eq,events_cas_hit_entry Y K];rfl) (sync_rw ad)
theorem eM{k:IntKind}(X:bO P g (adX (.int k))){v old n:Int}(h:ahead f=some (g,#[.pointer (some ad),.int k old,.int k n]))(K:w.cell? ad=some (.int k v))(H:w.frozen? ad=false)(Y:¬v=old):
  stepG P main (G f cs) w=.go (G (f.finish (.bool false)) cs) w #[⟨.cell ad,false,true⟩]:=
 dz X h (by exact run_cas_miss_entry K H Y) (by rw[casT_eq,events_cas_miss_entry K H Y];rfl) (sync_r ad)
theorem oY{k:IntKind}(X:bO P g (Extern.Atomic.update (ad2 .add) k true)){v d:Int}(h:ahead f=some (g,#[.pointer (some ad),.int k d]))(Y:w.cell? ad=some (.int k v))(K:w.frozen? ad=false):
  stepG P main (G f cs) w=.go (G (f.finish (.int k (k.wrap (v+d)))) cs) (w.setCell ad (.int k (k.wrap (v+d)))) #[⟨.cell ad,false,true⟩,⟨.cell ad,true,true⟩]:=
 dz X h (run_add_entry Y K) (by rw[events_add_entry Y K];rfl) (sync_rw ad)
theorem kV(X:bO P g adw){n:Int}(h:ahead f=some (g,vs))(H:vs[0]?=some (.pointer (some ad)))(K:w.cell? ad=some (.int .u32 n))(Y:n≠0)(R:w.frozen? ad=false):
  stepG P main (G f cs) w=.go (G (f.finish (.tuple #[])) cs) (w.setCell ad (.int .u32 (n-1))) (semEvents ad):=
 dz X h (by simp[adw,adB,H,K,Y,R,ad1,run_store P w ad (.int .u32 (n-1)) _ rfl])
  (by simp[adw,adB,H,K,Y,R,semEvents,events_store P w _ ad (.int .u32 (n-1)) .atomic rfl,run_store P w ad (.int .u32 _) .atomic rfl]) (semEvents_sync ad)
theorem gT(X:bO P g adD){n:Int}(h:ahead f=some (g,vs))(K:vs[0]?=some (.pointer (some ad)))(Y:w.cell? ad=some (.int .u32 n))(H:w.frozen? ad=false):
  stepG P main (G f cs) w=.go (G (f.finish (.tuple #[])) cs) (w.setCell ad (.int .u32 (IntKind.u32.wrap (n+1)))) (semEvents ad):=
 dz X h (by simp[adD,adB,K,Y,H,ad1,ad2,run_store P w ad (.int .u32 _) _ rfl])
  (by simp[adD,adB,K,Y,H,semEvents,ad2,events_store P w _ ad (.int .u32 _) .atomic rfl,run_store P w ad (.int .u32 _) .atomic rfl]) (semEvents_sync ad)
theorem lI{t:TypeId}{x:Value}(h:gS f=some (t,x)):∃o y,opAt f=some o/\o.op=.load t y/\f.eval y=x:=by
 unfold gS at h;split at h
 ·split at h
  ·simp_all
  ·cases h
 ·cases h
theorem AM{t:TypeId}{v:Value}{o:Oper}(aM:o.op=.load t y)(H:f.eval y=.pointer (some ad))(K:pW P (isAgg t)=some false)(Y:w.cell? ad=some v):
  (execOp f.eval o).run P w=.ok (.value v) w/\(execOp f.eval o).events P w #[]=#[⟨.cell ad,false,false⟩]:=by
 constructor
 ·unfold execOp;simp[aM,H];simp[go_sem,eD K,Y]
 ·unfold execOp;simp[aM,H];simp[go_sem,eD K,Y]
theorem j9{t:TypeId}{v:Value}(h:gS f=some (t,.pointer (some ad)))(R:pW P (isAgg t)=some false)(Y:w.cell? ad=some v)(H:(P.funcs[f.fn]?).any (·.norace)=true):
  stepG P main (G f cs) w=.go (G (f.finish v) cs) w #[]:=by
 obtain⟨o,y,K,aM,D⟩:=lI h;obtain⟨hr,he⟩:=AM aM D R Y;rw[bG K hr,he,seen_def,H];simp[seenStep]
theorem dL{t:TypeId}{v:Value}(h:gS f=some (t,.pointer (some ad)))(R:pW P (isAgg t)=some false)(Y:w.cell? ad=some v)(H:(P.funcs[f.fn]?).any (·.norace)=false):
  stepG P main (G f cs) w=.go (G (f.finish v) cs) w #[⟨.cell ad,false,false⟩]:=by
 obtain⟨o,y,K,aM,D⟩:=lI h;obtain⟨hr,he⟩:=AM aM D R Y;rw[bG K hr,he,seen_def,H];simp[seenStep]
theorem conv{o:Oper}(R:opAt f=some o){v:Value}{es:Array _}(h:∀ops i rest k,ops[i]?=some o->adJ o (yielded ops (Act.tmps ⟨f.tmps,f.defers⟩))=true->f.kind≠.early->
  stepG P main (G (f.at ⟨f.tmps,f.defers⟩ (.inRegion ops (i::rest)::k)) cs) w=.go (G (f.at (ad0 ⟨f.tmps,f.defers⟩ o.dst v) (.inRegion ops rest::k)) cs) w' es):stepG P main (G f cs) w=.go (G (f.finish v) cs) w' es:=by
 obtain⟨ops,i,rest,k,K,H,hw,hk⟩:=eu R;have:=h ops i rest k H hw hk;rw[<-K]at this;rw[this];have Y:f.finish v=f.at (ad0 ⟨f.tmps,f.defers⟩ o.dst v) (.inRegion ops rest::k):=by
  conv=>lhs;rw[K]
  rw[adE,H];rfl
 rw[<-Y]
theorem evalEq(f:Frame)(hm:f.mode=f.mode):f.eval=Act.eval ⟨f.tmps,f.defers⟩:=by
 funext x;cases x<;>rfl
theorem xy(h:ahead f=some (g,vs))(X:bO P g Extern.OsHooks.nano)(C:(P.funcs[g]?).any (·.norace)=true):stepG P main (G f cs) w=.go (G (f.finish (.int .i64 ((w.os.mono+w.tick:Nat)))) cs) w.later #[]:=by
 obtain⟨o,aix,H,B,aM,rfl⟩:=ec h;obtain⟨fn,K,D,R,I,A⟩:=X.ex;have Y:=by simpa[K]using C
 exact conv B fun ops i rest k U hw hk=>stepG_nanotime U hw hk aM K D R I A Y
theorem yN{k:IntKind}{n:Int}(h:ahead f=some (g,#[.int k n]))(X:bO P g adT)(A:4<=n):stepG P main (G f cs) w=.go (G (f.finish (.bool false)) cs) w #[]:=by
 obtain⟨o,aix,H,C,aM,K⟩:=ec h;obtain⟨fn,D,R,I,Y,U⟩:=X.ex;exact conv C fun ops i rest k B hw hk=>stepG_canSpin_no B hw hk aM D R I Y U K A
theorem vY{k:IntKind}{n:Int}(h:ahead f=some (g,#[.int k n]))(X:bO P g adT)(A:n<4):stepG P main (G f cs) w=.go (G (f.finish (.bool w.spins)) cs) w.asked #[]:=by
 obtain⟨o,aix,H,C,aM,K⟩:=ec h;obtain⟨fn,D,R,I,Y,U⟩:=X.ex;exact conv C fun ops i rest k B hw hk=>stepG_canSpin_ask B hw hk aM D R I Y U K A
theorem nk(X:bO P g adw)(h:ahead f=some (g,vs))(F:vs[0]?=some (.pointer (some ad)))(B:w.cell? ad=some (.int .u32 0)):stepG P main (G f cs) w=.go {G f cs with status:=.blocked} w #[]:=by
 obtain⟨o,aix,Y,C,aM,rfl⟩:=ec h;obtain⟨fn,H,D,R,I,A⟩:=X.ex;obtain⟨ops,i,rest,k,K,U,hw,hk⟩:=eu C;have:=stepG_semacquire_wait (main:=main) (b:=f) (a:=⟨f.tmps,f.defers⟩) (kk:=k) (cs:=cs) (rest:=rest) U hw aM H D R I A (by exact F) B;rw[<-K]at this;omega
theorem qk{e:Array _->Sem _}(X:bO P g e)(h:ahead f=some (g,vs)):mayWake P (G f cs)=true:=by
 obtain⟨o,aix,H,I,aM,rfl⟩:=ec h;obtain⟨fn,D,U,K,B,C⟩:=X.ex;obtain⟨ops,i,rest,k,Y,R,hw,hk⟩:=eu I;have hm:f.mode=.run:=by rw[Y];rfl
 have A:f.todo=.inRegion ops (i::rest)::k:=by rw[Y];rfl
 unfold mayWake;simp[G,hm,A,R,adP,aM];simp[Frame.eval,D];cases hb:fn.body with
 |none=>rfl
 |some c=>rw[hb]at K;cases K
theorem xA{v:Value}(X:bO P g (fun _=>pure v))(h:ahead f=some (g,vs)):stepG P main (G f cs) w=.go (G (f.finish v) cs) w #[]:=dz X h (by simp) (by simp) (by simp)
end
def gU(f:Frame):Option (TypeId×TypeId×Value):=match opAt f with
 |some o=>match o.op with
  |.convert s d x=>some (s,d,f.eval x)
  |_=>none
 |none=>none
section
variable{P:Program}{main:Bool}{f:Frame}{cs:List Frame}{w:World}
theorem AN{d:TypeId}{x:Value}(h:gU f=some (s,d,x)):∃o y,opAt f=some o/\o.op=.convert s d y/\f.eval y=x:=by
 unfold gU at h;split at h
 ·split at h
  ·simp_all
  ·cases h
 ·cases h
theorem eY{d t:TypeId}{a:Addr}{v:Value}(h:gU f=some (s,d,.pointer (some a)))(I:P.underlying s=some (.pointer t))(hd:P.underlying d=some .unsafePointer)(Y:(P.info? t).map (fun i=>decide (i.size=0))=some false)(R:w.cell? a=some v):
  stepG P main (G f cs) w=.go (G (f.finish (.pointer (some a))) cs) w #[]:=by
 obtain⟨o,y,D,aM,A⟩:=AN h;have hr:=run_convert_to_unsafe I hd Y R;have he:=fun es=>events_convert_to_unsafe I hd Y R es;have H:(execOp f.eval o).run P w=.ok (.value (.pointer (some a))) w:=by
  unfold execOp;simp_all
 have K:(execOp f.eval o).events P w #[]=#[]:=by
  unfold execOp;simp_all
 rw[bG D H,K,seen_none]
end
def Mx(P:Program)(f:Frame):Option Next:=match opAt f with
 |some o=>pW P (execOp f.eval o)
 |none=>none
section
variable{P:Program}{main:Bool}{f:Frame}{l:List Frame}{w:World}
theorem AP{x:Next}(h:Mx P f=some x):∃o,opAt f=some o/\pW P (execOp f.eval o)=some x:=by
 unfold Mx at h;split at h
 ·simp_all
 ·cases h
theorem xB{cases:Array _}{b:Bool}{sh:CommShape}(h:Mx P f=some (.comm cases b sh)):stepG P main (G f l) w=.comm (G f l) cases b sh w #[]:=by
 obtain⟨o,K,he⟩:=AP h;obtain⟨ops,i,rest,k,e,Y,hw,hk⟩:=eu K;rw[evalEq f rfl]at he;have:=stepG_comm (main:=main) (a:=⟨f.tmps,f.defers⟩) (k:=k) (cs:=l) (rest:=rest) Y hw hk (eD he w);rw[<-e]at this;rw[this];unfold listed;rw[jm he,seen_none]
theorem Dg{g:FuncId}{c K:Array _}(h:Mx P f=some (.spawn {target:=.fn (.func g) c,args:=K})):stepG P main (G f l) w=.spawn (G (f.finish undef) l) (G {(default:Frame)with fn:=P.funcs.size,defers:=[{target:=.fn (.func g) c,args:=K}],mode:=.panicking [goexitEntry]} []) w #[]:=by
 obtain⟨o,D,he⟩:=AP h;obtain⟨ops,i,rest,k,e,H,hw,hk⟩:=eu D;rw[evalEq f rfl]at he;have Y:f.finish undef=f.at (ad0 ⟨f.tmps,f.defers⟩ o.dst undef) (.inRegion ops rest::k):=by
  conv=>lhs;rw[e]
  rw[adE,H];rfl
 have:=stepG_spawn (main:=main) (a:=⟨f.tmps,f.defers⟩) (k:=k) (cs:=l) (rest:=rest) H hw hk (eD he w) rfl;rw[<-e]at this;rw[this,Y];unfold listed;rw[jm he,seen_none];rfl
end
end Ph
namespace Ph
open Conc
inductive M7 where
 |at
 |ro
 |pr
 |own (g:Nat)
 |no
def Started(b j g:Nat):=g=0\/(b<=g/\g<b+j)
def M8(b j:Nat)(mu:Addr)(t:Trace)(i:Nat):Option Nat->Prop
 |some g=>Knows t g i
 |none=>(∀g,Started b j g->Knows t g i)\/∃p,t.act? p=some (.mark (.releaseMerge mu))/\t.heard p/\Before t i p
structure PT(b j:Nat)(mu wg:Addr)(cW:Loc->Prop)(cls:Loc->M7)(t:Trace)(tok:Option Nat)(rel:Nat->Option Nat):Prop where
 clean:∀said,¬Race said t
 M9:∀i x,touchAt t i=some x->cls x.loc=.at->x.kind=.atomic\/(x.kind=.said/\Knows t 0 i)\/∀g,Started b j g->Knows t g i
 ro:∀i x,touchAt t i=some x->cls x.loc=.ro->x.write=true->∀g,Started b j g->Knows t g i
 own:∀i x g,touchAt t i=some x->cls x.loc=.own g->Knows t g i
 pr:∀i x,touchAt t i=some x->cls x.loc=.pr->M8 b j mu t i tok
 jn:∀i x,touchAt t i=some x->x.loc.isMemory=true->Knows t 0 i\/(cW x.loc/\x.kind=.atomic/\¬t.counts i)\/∃k z,t[i]?=some z/\z.g=k/\b<=k/\k<b+j/\∀p,rel k=some p->Before t i p
 yO:∀k p,rel k=some p->t.act? p=some (.mark (.releaseMerge wg))/\t.heard p
 norel:NoRelease mu t/\NoRelease wg t
 gs:True
 mem:∀l,l.isMemory=false->cls l=.no
 sh:∀l,cls l=.at->cW l
 r8:0<b
def OkOp(mu wg:Addr)(cls:Loc->M7)(tok:Option Nat)(g:Nat)(op:MemOp):=
 op.g=g/\op.act≠.mark (.release mu)/\op.act≠.mark (.release wg)/\∀x,op.act.touch?=some x->
  x.loc.isMemory=false\/(cls x.loc=.at/\x.kind=.atomic)\/(cls x.loc=.at/\x.kind=.said/\g=0)\/(cls x.loc=.ro/\x.write=false)\/(cls x.loc=.pr/\tok=some g)\/cls x.loc=.own g
section
variable{b j:Nat}{mu wg:Addr}{cW:Loc->Prop}{cls:Loc->M7}{t u:Trace}{tok:Option Nat}{rel:Nat->Option Nat}{g:Nat}
theorem M8.app(h:M8 b j mu t i tok)(u:Trace):M8 b j mu (t++u) i tok:=by
 cases tok with
 |some g=>exact Knows.app u h
 |none=>
  rcases h with h|⟨p,Y,H,D⟩
  ·exact .inl fun g R=>(h g R).app u
  ·have K:=lt_of_act? Y;exact .inr ⟨p,by rw[act?_old K];exact Y,(heard_old K).2 H,D.app u⟩
theorem de{x:Touch}(h:touchAt (t++u) i=some x):(i<t.size/\touchAt t i=some x)\/(t.size<=i/\∃op,(t++u)[i]?=some op/\op∈u/\op.act.touch?=some x):=by
 obtain⟨op,H,R⟩:=touch_of h;rcases getElem?_append_cases H with⟨K,Y⟩|⟨K,D⟩
 ·exact .inl ⟨K,by rw[touchAt_of Y];exact R⟩
 ·simp_all
theorem Started.lt(h:Started b j g)(hb:0<b):g<b+j:=by
 rcases h with rfl|h
 ·omega
 ·omega
theorem tv(h:∀k p,rel k=some p->t.act? p=some (.mark (.releaseMerge wg))/\t.heard p)(u:Trace):∀k p,rel k=some p->(t++u).act? p=some (.mark (.releaseMerge wg))/\(t++u).heard p:=by
 intro k p hk;obtain⟨Y,H⟩:=h k p hk;have K:=lt_of_act? Y;exact⟨by rw[act?_old K];exact Y,(heard_old K).2 H⟩
theorem Dh{x:Touch}(R:i<t.size)(h:Knows t 0 i\/(cW x.loc/\x.kind=.atomic/\¬t.counts i)\/∃k z,t[i]?=some z/\z.g=k/\b<=k/\k<b+j/\∀p,rel k=some p->Before t i p)(u:Trace):
  Knows (t++u) 0 i\/(cW x.loc/\x.kind=.atomic/\¬(t++u).counts i)\/∃k z,(t++u)[i]?=some z/\z.g=k/\b<=k/\k<b+j/\∀p,rel k=some p->Before (t++u) i p:=by
 rcases h with h|⟨Y,K,H⟩|⟨k,z,Y,K,H,D,I⟩
 ·exact .inl (h.app u)
 ·exact .inr (.inl ⟨Y,K,fun A=>H ((counts_old R).1 A)⟩)
 ·exact .inr (.inr ⟨k,z,by rw[getElem?_append_old R];exact Y,K,H,D,fun p U=>(I p U).app u⟩)
theorem PT.app(h:PT b j mu wg cW cls t tok rel)(L:Started b j g)(hu:∀op∈u,OkOp mu wg cls tok g op)
  (hr:g≠0->∀p,rel g=some p->∀i x,t.size<=i->touchAt (t++u) i=some x->x.loc.isMemory=true->cW x.loc/\x.kind=.atomic/\¬(t++u).counts i):PT b j mu wg cW cls (t++u) tok rel:=by
 have new:∀{i:Nat} {x:Touch} {op:MemOp},(t++u)[i]?=some op->op∈u->op.act.touch?=some x->Knows (t++u) g i:=by
  intro i x op U R I;have:=knows_own U
  rwa [(hu op R).1]at this
 refine⟨fun said=>noRace_append (h.clean said) (fun op aM=>(hu op aM).1) fun i a J op aM c K M=>?_,fun i x B K=>?_,fun i x B K hw=>?_,fun i x k B K=>?_,fun i x B K=>?_,fun i x B hm=>?_,tv h.yO u,⟨h.norel.1.app fun op aM=>(hu op aM).2.1,h.norel.2.app fun op aM=>(hu op aM).2.2.1⟩,
  trivial,h.mem,h.sh,h.r8⟩
 ·obtain⟨F,O,T,P⟩:=M;rcases(hu op aM).2.2.2 c K with hm|⟨Y,hk⟩|⟨Y,hk,C⟩|⟨Y,hk⟩|⟨Y,hk⟩|Y
  ·rw[F,hm]at O;cases O
  ·rcases h.M9 i a J (by rw[F];exact Y)with H|⟨H,_⟩|H
   ·simp_all
   ·simp_all
   ·exact H g L
  ·rcases h.M9 i a J (by rw[F];exact Y)with H|⟨_,H⟩|H
   ·rw[H,hk]at P;rcases P with x|x|⟨_,x,_⟩<;>cases x
   ·rw[C];exact H
   ·exact H g L
  ·have hw:a.write=true:=by simp_all
   exact h.ro i a J (by rw[F];exact Y) hw g L
  ·have:=h.pr i a J (by rw[F];exact Y);rw[hk]at this;exact this
  ·exact h.own i a g J (by rw[F];exact Y)
 ·rcases de B with⟨A,D⟩|⟨A,op,U,R,I⟩
  ·exact(h.M9 i x D K).imp id (Or.imp (fun y=>⟨y.1,y.2.app u⟩) fun y g N=>(y g N).app u)
  ·rcases(hu op R).2.2.2 x I with hm|⟨Y,hk⟩|⟨Y,hk,C⟩|⟨Y,hk⟩|⟨Y,hk⟩|Y
   ·rw[h.mem _ hm]at K;cases K
   ·exact .inl hk
   ·simp_all
   ·rw[K]at Y;cases Y
   ·rw[K]at Y;cases Y
   ·rw[K]at Y;cases Y
 ·rcases de B with⟨A,D⟩|⟨A,op,U,R,I⟩
  ·exact fun g N=>(h.ro i x D K hw g N).app u
  ·rcases(hu op R).2.2.2 x I with hm|⟨Y,hk⟩|⟨Y,hk,C⟩|⟨Y,hk⟩|⟨Y,hk⟩|Y
   ·rw[h.mem _ hm]at K;cases K
   ·rw[K]at Y;cases Y
   ·rw[K]at Y;cases Y
   ·rw[hk]at hw;cases hw
   ·rw[K]at Y;cases Y
   ·rw[K]at Y;cases Y
 ·rcases de B with⟨A,D⟩|⟨A,op,U,R,I⟩
  ·exact(h.own i x k D K).app u
  ·rcases(hu op R).2.2.2 x I with hm|⟨Y,hk⟩|⟨Y,hk,C⟩|⟨Y,hk⟩|⟨Y,hk⟩|Y
   ·rw[h.mem _ hm]at K;cases K
   ·rw[K]at Y;cases Y
   ·rw[K]at Y;cases Y
   ·rw[K]at Y;cases Y
   ·rw[K]at Y;cases Y
   ·rw[K]at Y;cases Y;exact new U R I
 ·rcases de B with⟨A,D⟩|⟨A,op,U,R,I⟩
  ·exact(h.pr i x D K).app u
  ·rcases(hu op R).2.2.2 x I with hm|⟨Y,hk⟩|⟨Y,hk,C⟩|⟨Y,hk⟩|⟨Y,hk⟩|Y
   ·rw[h.mem _ hm]at K;cases K
   ·rw[K]at Y;cases Y
   ·rw[K]at Y;cases Y
   ·rw[K]at Y;cases Y
   ·rw[hk];exact new U R I
   ·rw[K]at Y;cases Y
 ·rcases de B with⟨A,D⟩|⟨A,op,U,R,I⟩
  ·exact Dh A (h.jn i x D hm) u
  ·rcases L with C|⟨hb,S⟩
   ·have:=new U R I;rw[C]at this;exact .inl this
   ·cases hrel:rel g with
    |some p=>exact .inr (.inl (hr (by have:=h.r8;omega) p hrel i x A B hm))
    |none=>exact .inr (.inr ⟨g,op,U,(hu op R).1,hb,S,fun p Q=>by rw[hrel]at Q;cases Q⟩)
theorem oZ(h:¬Race said t)(hu:∀op∈u,op.act.touch?=none):¬Race said (t++u):=by
 rintro⟨i,k,K,⟨x,y,Y,H,R⟩,n1,n2⟩;have old:∀{i:Nat} {x:Touch},((t++u).act? i).bind (·.touch?)=some x->i<t.size:=by
  intro i x Y;rcases de (Y)with⟨D,_⟩|⟨_,op,_,I,A⟩
  ·omega
  ·simp_all
 have D:=old Y;have hk:=old H;rw[act?_old D]at Y;rw[act?_old hk]at H;exact h ⟨i,k,K,⟨x,y,Y,H,R⟩,fun e=>n1 (hb_app u e),fun e=>n2 (hb_app u e)⟩
theorem PT.still(h:PT b j mu wg cW cls t tok rel)(hu:∀op∈u,op.act.touch?=none/\op.act≠.mark (.release mu)/\op.act≠.mark (.release wg)/\op.g<b+j):PT b j mu wg cW cls (t++u) tok rel:=by
 have old:∀{i:Nat} {x:Touch},touchAt (t++u) i=some x->i<t.size/\touchAt t i=some x:=by
  intro i x Y;rcases de Y with I|⟨_,op,_,D,R⟩
  ·omega
  ·simp_all
 refine⟨fun said=>oZ (h.clean _) fun op aM=>(hu op aM).1,fun i x Y K=>?_,fun i x Y K hw g H=>(h.ro i x (old Y).2 K hw g H).app u,fun i x k Y K=>(h.own i x k (old Y).2 K).app u,fun i x Y K=>(h.pr i x (old Y).2 K).app u,fun i x Y hm=>Dh (old Y).1 (h.jn i x (old Y).2 hm) u,tv h.yO u,⟨h.norel.1.app fun op aM=>(hu op aM).2.1,h.norel.2.app fun op aM=>(hu op aM).2.2.1⟩,
  trivial,h.mem,h.sh,h.r8⟩
 exact(h.M9 i x (old Y).2 K).imp id (Or.imp (fun y=>⟨y.1,y.2.app u⟩) fun y g H=>(y g H).app u)
theorem PT.fresh(h:PT b j mu wg cW cls t tok rel){Y:Loc->M7}(H:∀i x,touchAt t i=some x->Y x.loc=cls x.loc)(hm:∀l,l.isMemory=false->Y l=.no)(R:∀l,Y l=.at->cW l):PT b j mu wg cW Y t tok rel:=
 ⟨h.clean,fun i x K e=>h.M9 i x K (by rw[<-H i x K];exact e),fun i x K e=>h.ro i x K (by rw[<-H i x K];exact e),fun i x g K e=>h.own i x g K (by rw[<-H i x K];exact e),fun i x K e=>h.pr i x K (by rw[<-H i x K];exact e),h.jn,h.yO,h.norel,h.gs,hm,R,h.r8⟩
theorem g?_of{t:Trace}{op:MemOp}(h:t[i]?=some op):t.g? i=some op.g:=by simp[Trace.g?,h]
theorem last_at(t:Trace)(y:MemOp):(t++#[y])[t.size]?=some y:=by simp
theorem fV{y:MemOp}(hd:Deaf t y.g=0):(t++#[y]).heard t.size:=by
 refine⟨y.g,g?_of (last_at t y),?_⟩;rw[deaf_old (ado _)];exact hd
theorem bc{y:MemOp}{Q:MemOp->Prop}(h:Q y):∀op∈(#[y]),Q op:=by simp_all
theorem PT.lock(h:PT b j mu wg cW cls t none rel)(H:Started b j g){fn:FuncId}(hd:Deaf t g=0):PT b j mu wg cW cls (t++#[{g,fn,pos,act:=.mark (.acquire mu)}]) (some g) rel:=by
 have h':=h.still (u:=#[{g,fn,pos,act:=.mark (.acquire mu)}]) (bc ⟨rfl,by simp,by simp,H.lt h.r8⟩);refine⟨h'.clean,h'.M9,h'.ro,h'.own,fun i x C I=>?_,h'.jn,h'.yO,h'.norel,h'.gs,h'.mem,h'.sh,h'.r8⟩;rcases h'.pr i x C I with hk|⟨p,Y,D,R⟩
 ·exact hk g H
 ·have B:p<t.size:=by
   rcases adW p _ with U|A
   ·omega
   ·have e:p=t.size:=by have:=lt_of_act? Y;simp at this;omega
    rw[e,act?_of (last_at t _)]at Y;cases Y
  have K:=last_at t {g,fn,pos,act:=.mark (.acquire mu)};refine⟨t.size,_,K,rfl,.inr (R.hb (.single (.inr ⟨.marked B (.inr Y) (by rw[act?_of K]) (fun k _ _=>h'.norel.1 k),D,fV hd⟩)))⟩
theorem PT.unlock(h:PT b j mu wg cW cls t (some g) rel)(I:Started b j g){fn:FuncId}(hd:Deaf t g=0):PT b j mu wg cW cls (t++#[{g,fn,pos,act:=.mark (.releaseMerge mu)}]) none rel:=by
 have h':=h.still (u:=#[{g,fn,pos,act:=.mark (.releaseMerge mu)}]) (bc ⟨rfl,by simp,by simp,I.lt h.r8⟩);refine⟨h'.clean,h'.M9,h'.ro,h'.own,fun i x A R=>?_,h'.jn,h'.yO,h'.norel,h'.gs,h'.mem,h'.sh,h'.r8⟩;have H:=last_at t {g,fn,pos,act:=.mark (.releaseMerge mu)};refine .inr ⟨t.size,by rw[act?_of H],fV hd,?_⟩;rcases de A with⟨U,Y⟩|⟨_,op,_,K,D⟩
 ·exact .inr ((h.pr i x Y R).hb_new (ado _) H rfl)
 ·simp at K;subst K;cases D
theorem PT.release(h:PT b j mu wg cW cls t tok rel){k:Nat}(hk:b<=k/\k<b+j){fn:FuncId}(hd:Deaf t k=0){ew:Nat->Option Nat}(R:ew k=some t.size)(F:∀i,i≠k->ew i=rel i):
  PT b j mu wg cW cls (t++#[{g:=k,fn,pos,act:=.mark (.releaseMerge wg)}]) tok ew:=by
 have h':=h.still (u:=#[{g:=k,fn,pos,act:=.mark (.releaseMerge wg)}]) (bc ⟨rfl,by simp,by simp,hk.2⟩);have I:=last_at t {g:=k,fn,pos,act:=.mark (.releaseMerge wg)};refine⟨h'.clean,h'.M9,h'.ro,h'.own,h'.pr,fun i x A hm=>?_,fun i p K=>?_,h'.norel,h'.gs,h'.mem,h'.sh,h'.r8⟩
 ·rcases h'.jn i x A hm with y|y|⟨k',z,H,D,B,C,M⟩
  ·exact .inl y
  ·simp_all
  ·refine .inr (.inr ⟨k',z,H,D,B,C,fun p K=>?_⟩);by_cases Y:k'=k
   ·subst Y;rw[R]at K;cases K;rcases de A with⟨J,_⟩|⟨_,op,_,U,L⟩
    ·exact .inr (hb_po J H I D)
    ·simp at U;subst U;cases L
   ·simp_all
 ·by_cases Y:i=k
  ·subst Y;rw[R]at K;cases K;exact⟨by rw[act?_of I],fV hd⟩
  ·rw[F i Y]at K;exact h'.yO i p K
theorem PT.fork(h:PT b j mu wg cW cls t tok rel){fn:FuncId}{pos':String}(hd:Deaf t 0=0)(O:Deaf t (b+j)=0):
  PT b (j+1) mu wg cW cls (t++#[{g:=0,fn,pos,act:=.go (b+j)}]++#[{g:=b+j,fn:=iU,pos:=pos',act:=.start}]) tok rel:=by
 have hb:=h.r8;have D:=h.still (u:=#[{g:=0,fn,pos,act:=.go (b+j)}]) (bc ⟨rfl,by simp,by simp,by show 0<b+j;omega⟩);have T:=last_at t {g:=0,fn,pos,act:=.go (b+j)};have s1:(t++#[({g:=0,fn,pos,act:=.go (b+j)}:MemOp)]).size=t.size+1:=by simp
 generalize N:t++#[({g:=0,fn,pos,act:=.go (b+j)}:MemOp)]=U at *;have L:=last_at U {g:=b+j,fn:=iU,pos:=pos',act:=.start};have dd:Deaf U (b+j)=0:=by
  rw[<-N,Deaf_other t (g':=0) (by omega) _ (bc rfl)];exact O
 have J:(U++#[{g:=b+j,fn:=iU,pos:=pos',act:=.start}])[t.size]?=some {g:=0,fn,pos,act:=.go (b+j)}:=by rw[getElem?_append_old (by omega)];exact T
 have B:HappensBefore (U++#[{g:=b+j,fn:=iU,pos:=pos',act:=.start}]) t.size U.size:=by
  refine .single (.inr ⟨.spawn (child:=b+j) (by rw[act?_of J]) (by rw[act?_of L]) (g?_of L),?_,fV dd⟩);rw[heard_old (by omega),<-N];exact fV hd
 have Xh:∀i,i<t.size->Knows U 0 i->Knows (U++#[{g:=b+j,fn:=iU,pos:=pos',act:=.start}]) (b+j) i:=by
  intro i R hk;obtain⟨q,z,S,Z,I⟩:=hk;rcases adW q t.size with P|X
  ·refine⟨U.size,_,L,rfl,.inr (.trans ((I.app _).hb (hb_po P (by rw[getElem?_append_old (by omega)];exact S) J Z)) B)⟩
  ·have:q=t.size:=by have:=lt_size_of_getElem? S;omega
   subst this;rcases I with e|I
   ·omega
   ·exact⟨U.size,_,L,rfl,.inr (.trans (hb_app _ I) B)⟩
 have old:∀{i:Nat} {x:Touch},touchAt U i=some x->i<t.size:=by
  intro i x H;rw[<-N]at H;rcases de H with⟨R,_⟩|⟨_,op,_,A,F⟩
  ·exact R
  ·simp at A;subst A;cases F
 have K:∀{i:Nat} {x:Touch},touchAt (U++#[{g:=b+j,fn:=iU,pos:=pos',act:=.start}]) i=some x->i<U.size/\touchAt U i=some x:=by
  intro i x H;rcases de H with R|⟨_,op,_,A,F⟩
  ·exact R
  ·simp at A;subst A;cases F
 have all:∀{i:Nat},i<t.size->(∀g,Started b j g->Knows U g i)->∀g,Started b (j+1) g->Knows (U++#[{g:=b+j,fn:=iU,pos:=pos',act:=.start}]) g i:=by
  intro i R hk g V;by_cases e:g=b+j
  ·subst e;exact Xh i R (hk 0 (.inl rfl))
  ·exact(hk g (V.imp id fun y=>⟨y.1,by omega⟩)).app _
 refine⟨fun said=>oZ (D.clean said) (bc rfl),fun i x H C=>?_,fun i x H C hw=>?_,fun i x k H C=>(D.own i x k (K H).2 C).app _,fun i x H C=>?_,fun i x H hm=>?_,tv D.yO _,⟨D.norel.1.app (bc (by simp)),D.norel.2.app (bc (by simp))⟩,trivial,D.mem,D.sh,D.r8⟩
 ·obtain⟨R,Y⟩:=K H;exact(D.M9 i x Y C).imp id (Or.imp (fun y=>⟨y.1,y.2.app _⟩) (all (old Y)))
 ·obtain⟨R,Y⟩:=K H;exact all (old Y) (D.ro i x Y C hw)
 ·obtain⟨R,Y⟩:=K H;have:=D.pr i x Y C;cases tok with
  |some g=>exact Knows.app _ this
  |none=>
   rcases this with y|⟨p,M,A,F⟩
   ·exact .inl (all (old Y) y)
   ·have Q:=lt_of_act? M;exact .inr ⟨p,by rw[act?_old Q];exact M,(heard_old Q).2 A,F.app _⟩
 ·obtain⟨R,Y⟩:=K H;rcases Dh R (D.jn i x Y hm) _ with y|y|⟨k,z,M,A,F,G,E⟩
  ·exact .inl y
  ·exact .inr (.inl y)
  ·exact .inr (.inr ⟨k,z,M,A,F,by omega,E⟩)
theorem PT.join(h:PT b j mu wg cW cls t tok rel)(K:∀k,b<=k->k<b+j->∃p,rel k=some p){fn:FuncId}(hd:Deaf t 0=0)(Y:∀op∈t++#[{g:=0,fn,pos,act:=.mark (.acquire wg)}],op.act.low B):
  Past cW B (t++#[{g:=0,fn,pos,act:=.mark (.acquire wg)}]):=by
 have hb:=h.r8;have h':=h.still (u:=#[{g:=0,fn,pos,act:=.mark (.acquire wg)}]) (bc ⟨rfl,by simp,by simp,by show 0<b+j;omega⟩);have U:=last_at t {g:=0,fn,pos,act:=.mark (.acquire wg)};have known:∀i x,touchAt (t++#[{g:=0,fn,pos,act:=.mark (.acquire wg)}]) i=some x->x.loc.isMemory=true->Knows (t++#[{g:=0,fn,pos,act:=.mark (.acquire wg)}]) 0 i\/(cW x.loc/\x.kind=.atomic/\¬(t++#[({g:=0,fn,pos,act:=.mark (.acquire wg)}:MemOp)]).counts i):=by
  intro i x H hm;rcases h'.jn i x H hm with y|y|⟨k,z,Q,S,F,J,L⟩
  ·simp_all
  ·simp_all
  ·obtain⟨p,I⟩:=K k F J;obtain⟨R,C⟩:=h.yO k p I;have A:=lt_of_act? R;obtain⟨D,P⟩:=h'.yO k p I;exact .inl ⟨t.size,_,U,rfl,.inr ((L p I).hb (.single (.inr ⟨.marked A (.inr D) (by rw[act?_of U]) (fun k _ _=>h'.norel.2 k),P,fV hd⟩)))⟩
 refine⟨h'.clean,fun i x H hm=>(known i x H hm).imp id fun y=>⟨y.1,y.2.1⟩,fun i g N O M=>?_,?_,Y⟩
 ·obtain⟨x,H,hm,_⟩:=id M;rcases known i x H hm with⟨q,z,R,C,D⟩|⟨_,_,y⟩
  ·rcases D with rfl|D
   ·rw[g?_of R]at N;simp_all
   ·exact⟨q,by rw[g?_of R,C],D⟩
  ·simp_all
 ·rw[Deaf_push];simpa[deafStep]using hd
theorem PT.init(h:Past JJ B t)(hb:0<b)(V:∀l,cls l≠.no->¬JJ l)(I:∀l g,cls l=.own g->g=0)(R:∀l,l.isMemory=false->cls l=.no)(C:∀l,cls l=.at->cW l)(L:∀l,JJ l->cW l)
  (hrel:NoRelease mu t/\NoRelease wg t):PT b 0 mu wg cW cls t none (fun _=>none):=by
 have F:∀i x,touchAt t i=some x->cls x.loc≠.no->Knows t 0 i:=by
  intro i x K Y;have hm:x.loc.isMemory=true:=by
   cases e:x.loc.isMemory with
   |true=>rfl
   |false=>exact absurd (R _ e) Y
  rcases h.known i x K hm with y|y
  ·exact y
  ·simp_all
 have only:∀{g:Nat} {i:Nat},Knows t 0 i->Started b 0 g->Knows t g i:=by
  intro g i hk H;rcases H with rfl|H
  ·omega
  ·omega
 refine⟨h.clean,fun i x K Y=>.inr (.inr fun g H=>only (F i x K (by rw[Y];simp)) H),fun i x K Y hw g H=>only (F i x K (by rw[Y];simp)) H,fun i x g K Y=>?_,fun i x K Y=>.inl fun g H=>only (F i x K (by rw[Y];simp)) H,fun i x K hm=>?_,fun k p M=>by simp at M,hrel,trivial,R,C,hb⟩
 ·rw[I _ _ Y];simp_all
 ·rcases h.known i x K hm with y|⟨y1,y2⟩
  ·exact .inl y
  ·by_cases Y:t.counts i
   ·obtain⟨z,J,P⟩:=touch_of K;by_cases D:z.g=0
    ·have:=knows_own J;rw[D]at this;exact .inl this
    ·obtain⟨q,N,A⟩:=h.over i z.g (by simp[Trace.g?,J]) D Y;obtain⟨y,O,U⟩:=adC.1 N;exact .inl ⟨q,y,O,U,.inr A⟩
   ·exact .inr (.inl ⟨L _ y1,y2,Y⟩)
end
end Ph
namespace Lock
structure Word where
 L:Bool
 K:Bool
 S:Bool
 W:Nat
 deriving DecidableEq
def Word.zero:Word:=⟨false,false,false,0⟩
def bn(b:Bool):=if b then 1 else 0
inductive PC where
 |out
 |l0
 |rd (aw sv:Bool) (it:Nat)
 |hw (old:Word) (aw sv:Bool) (it:Nat)
 |c1 (old:Word) (it:Nat)
 |c2 (old:Word) (aw sv:Bool) (it:Nat)
 |s1 (sv:Bool)
 |t2
 |r2 (sv:Bool)
 |a1 (old:Word) (sv:Bool)
 |cr
 |uc (old:Word)
 |ur
 |us
 |uh
def hd(old:Word)(aw sv:Bool)(it:Nat)(gV:Bool):PC:=
 if old.L=true/\old.S=false/\it<4/\gV=true then(if aw=false/\old.K=false/\old.W≠0 then .c1 old it else .rd aw sv (it+1))else .c2 old aw sv it
def hr(m:Word)(aw sv:Bool)(it:Nat):PC:=if m.L=true/\m.S=false then .hw m aw sv it else .c2 m aw sv it
def nw(old:Word)(aw sv:Bool):Word:=
 ⟨if old.S then old.L else true,if aw then false else old.K,old.S||(sv&&old.L),if old.L||old.S then old.W+1 else old.W⟩
def dec(m:Word):PC:=if m.W=0\/m.L=true\/m.K=true\/m.S=true then .out else .uc m
def low(m:Word):={m with L:=false}
inductive Mv:PC->Word->Nat->PC->Word->Nat->Prop where
 |Xi (c:Nat):Mv .l0 .zero c .cr ⟨true,false,false,0⟩ c
 |Yy (m:Word) (c:Nat) (h:m≠.zero):Mv .l0 m c (.rd false false 0) m c
 |rd (m:Word) (c:Nat) (aw sv:Bool) (it:Nat):Mv (.rd aw sv it) m c (hr m aw sv it) m c
 |hw (m old:Word) (c:Nat) (aw sv:Bool) (it:Nat) (gV:Bool):Mv (.hw old aw sv it) m c (hd old aw sv it gV) m c
 |Yz (m:Word) (c:Nat) (it:Nat):Mv (.c1 m it) m c (.rd true false (it+1)) {m with K:=true} c
 |YA (m old:Word) (c:Nat) (it:Nat) (h:m≠old):Mv (.c1 old it) m c (.rd false false (it+1)) m c
 |Xj (m:Word) (c:Nat) (aw sv:Bool) (it:Nat):Mv (.c2 m aw sv it) m c (if m.L=false/\m.S=false then .cr else .s1 sv) (nw m aw sv) c
 |YB (m old:Word) (c:Nat) (aw sv:Bool) (it:Nat) (h:m≠old):Mv (.c2 old aw sv it) m c (.rd aw sv it) m c
 |YC (m:Word) (c:Nat):Mv (.s1 false) m (c+1) .t2 m c
 |YD (m:Word) (c:Nat):Mv (.s1 true) m (c+1) (.r2 true) m c
 |t2 (m:Word) (c:Nat) (sv:Bool):Mv .t2 m c (.r2 sv) m c
 |Xk (m:Word) (c:Nat) (sv:Bool) (h:m.S=false):Mv (.r2 sv) m c (hr m true sv 0) m c
 |YE (m:Word) (c:Nat) (sv:Bool) (h:m.S=true):Mv (.r2 sv) m c (.a1 m sv) m c
 |a1 (m old:Word) (c:Nat) (sv:Bool):Mv (.a1 old sv) m c .cr ⟨true,m.K,if sv=false\/old.W=1 then false else m.S,m.W-1⟩ c
 |u0 (m:Word) (c:Nat):Mv .cr m c (if m.S=true then .uh else dec (low m)) (low m) c
 |T2 (m:Word) (c:Nat):Mv (.uc m) m c .us {m with W:=m.W-1,K:=true} c
 |T3 (m old:Word) (c:Nat) (h:m≠old):Mv (.uc old) m c .ur m c
 |ur (m:Word) (c:Nat):Mv .ur m c (dec m) m c
 |us (m:Word) (c:Nat):Mv .us m c .out m (c+1)
 |uh (m:Word) (c:Nat):Mv .uh m c .out m (c+1)
def dP(f:PC->Nat)(aW:Nat->PC)
 |0=>0
 |k+1=>dP f aW k+f (aW k)
def put(aW:Nat->PC)(i:Nat)(p:PC):=fun j=>if j=i then p else aW j
theorem Fq(f:PC->Nat)(aW:Nat->PC)(i:Nat)(p:PC):∀n,n<=i->dP f (put aW i p) n=dP f aW n
 |0,_=>rfl
 |n+1,h=>by
  have e:put aW i p n=aW n:=by unfold put;rw[if_neg (by omega)]
  rw[dP,dP,Fq f aW i p n (by omega),e]
theorem h_(f:PC->Nat)(aW:Nat->PC)(i:Nat)(p:PC):∀n,i<n->dP f (put aW i p) n+f (aW i)=dP f aW n+f p
 |0,h=>by omega
 |n+1,h=>by
  rw[dP,dP];by_cases Y:i=n
  ·subst Y;have e:put aW i p i=p:=by unfold put;simp_all
   rw[Fq f aW i p i (ado _),e];omega
  ·have:=h_ f aW i p n (by omega);have e:put aW i p n=aW n:=by unfold put;rw[if_neg (by omega)]
   rw[e];omega
theorem dA(f:PC->Nat)(aW:Nat->PC):∀n i,i<n->f (aW i)<=dP f aW n
 |0,i,h=>by omega
 |n+1,i,h=>by
  rw[dP];by_cases Y:i=n
  ·simp_all
  ·have:=dA f aW n i (by omega);omega
theorem yP(f:PC->Nat)(aW:Nat->PC):∀n i j,i<n->j<n->i≠j->f (aW i)+f (aW j)<=dP f aW n
 |0,i,j,h,_,_=>by omega
 |n+1,i,j,h,k,Y=>by
  rw[dP];by_cases K:i=n
  ·subst K;have:=dA f aW i j (by omega);omega
  ·by_cases H:j=n
   ·subst H;have:=dA f aW j i (by omega);omega
   ·have:=yP f aW n i j (by omega) (by omega) Y;omega
theorem Fs(f:PC->Nat)(aW:Nat->PC):∀n,0<dP f aW n->∃i,i<n/\0<f (aW i)
 |0,h=>by simp[dP]at h
 |n+1,h=>by
  rw[dP]at h;by_cases Y:0<f (aW n)
  ·exact⟨n,by omega,Y⟩
  ·obtain⟨i,H,K⟩:=Fs f aW n (by omega);exact⟨i,by omega,K⟩
def lJ:PC->Nat|.cr=>1|_=>0
def lr:PC->Nat|.rd aw _ _=>bn aw|.hw _ aw _ _=>bn aw|.c2 _ aw _ _=>bn aw|_=>0
def ei:PC->Nat|.r2 _=>1|.t2=>1|_=>0
def cG:PC->Nat|.a1 .. =>1|_=>0
def ll:PC->Nat|.s1 _=>1|_=>0
def fO:PC->Nat|.uc _=>1|.ur=>1|_=>0
def eE:PC->Nat|.us=>1|_=>0
def ff:PC->Nat|.uh=>1|_=>0
def Ok(m:Word):PC->Prop
 |.rd aw sv it=>(sv=true->aw=true)/\it<=4
 |.hw old aw sv it=>(sv=true->aw=true)/\(aw=true->old.K=true)/\it<=4/\old.L=true/\old.S=false
 |.c1 old it=>old.L=true/\old.S=false/\old.K=false/\0<old.W/\it<4
 |.c2 old aw sv it=>(sv=true->aw=true)/\(aw=true->old.K=true)/\it<=4
 |.a1 old sv=>0<old.W/\old.W<=m.W
 |.uc old=>old.L=false/\old.S=false/\old.K=false/\0<old.W
 |_=>True
structure Inv(aW:Nat->PC)(n:Nat)(m:Word)(c:Nat):Prop where
 ok:∀i,i<n->Ok m (aW i)
 held:dP lJ aW n=bn m.L
 calm:m.S=false->bn m.K=dP lr aW n+dP ei aW n+c+dP eE aW n/\dP ll aW n=m.W+c+dP eE aW n/\dP ff aW n=0/\dP cG aW n=0/\(m.L=false->m.K=false->0<m.W->0<dP fO aW n)
 hard:m.S=true->m.K=false/\dP lr aW n=0/\dP eE aW n=0/\bn m.L+dP ff aW n+c+dP ei aW n+dP cG aW n=1/\dP ll aW n+dP ei aW n+dP cG aW n=m.W/\0<m.W
theorem Inv.one{aW:Nat->PC}{n:Nat}{m:Word}{c:Nat}(h:Inv aW n m c){j:Nat}(R:i<n)(I:j<n)(K:aW i=.cr)(H:aW j=.cr):i=j:=by
 by_cases Y:i=j
 ·omega
 ·have:=yP lJ aW n i j R I Y;rw[K,H,h.held]at this;have D:lJ .cr=1:=rfl;have:bn m.L<=1:=by unfold bn;split<;>omega
  omega
theorem lK(b:Bool):bn b<=1:=by unfold bn;split<;>omega
theorem Inv.live{aW:Nat->PC}{n:Nat}{m:Word}{c:Nat}(h:Inv aW n m c)(N:i<n){sv:Bool}(B:aW i=.s1 sv)(G:c=0):
  ∃j,j<n/\(∀sv,aW j≠.s1 sv)/\aW j≠.out:=by
 have Q:=dA ll aW n i N;rw[B]at Q;have T:ll (.s1 sv)=1:=rfl;have fin:∀f,(∀sv,f (.s1 sv)=0)->f .out=0->0<dP f aW n->∃j,j<n/\(∀sv,aW j≠.s1 sv)/\aW j≠.out:=by
  intro f f1 f2 P;obtain⟨j,O,M⟩:=Fs f aW n P;refine⟨j,O,fun sv e=>?_,fun e=>?_⟩
  ·rw[e,f1]at M;omega
  ·simp_all
 have J:=h.held;by_cases Y:m.L=true
 ·exact fin lJ (fun _=>rfl) rfl (by rw[J,Y];decide)
 ·rw[adM]at Y;by_cases D:m.S=true
  ·obtain⟨I,C,F,A,U,V⟩:=h.hard D;rw[Y]at A;have hb:bn false=0:=rfl;by_cases hu:0<dP ff aW n
   ·exact fin _ (fun _=>rfl) rfl hu
   ·by_cases R:0<dP ei aW n
    ·exact fin ei (fun _=>rfl) rfl R
    ·exact fin cG (fun _=>rfl) rfl (by omega)
  ·rw[adM]at D;obtain⟨I,C,F,A,U⟩:=h.calm D;by_cases hu:0<dP eE aW n
   ·exact fin _ (fun _=>rfl) rfl hu
   ·by_cases H:m.K=true
    ·rw[H]at I;have hb:bn true=1:=rfl;by_cases R:0<dP ei aW n
     ·exact fin ei (fun _=>rfl) rfl R
     ·exact fin lr (fun _=>rfl) rfl (by omega)
    ·rw[adM]at H;exact fin _ (fun _=>rfl) rfl (U Y H (by omega))
theorem M_{m m':Word}(h:m.W<=m'.W){p:PC}(k:Ok m p):Ok m' p:=by
 cases p with
 |a1 old sv=>exact⟨k.1,adr k.2 h⟩
 |_=>exact k
theorem dh{aW:Nat->PC}{n:Nat}{m m':Word}{c:Nat}{p':PC}(h:Inv aW n m c)(H:Ok m' p')(hW:m.W<=m'.W\/∀j,j<n->j≠i->cG (aW j)=0):
  ∀j,j<n->Ok m' (put aW i p' j):=by
 intro j K;unfold put;split
 ·omega
 ·rename_i Y;have k:=h.ok j K;rcases hW with hW|hW
  ·exact M_ hW k
  ·have:=hW j K Y;generalize aW j=p at *;cases p with
   |a1 old sv=>simp[cG]at this
   |_=>exact k
theorem Na{aW:Nat->PC}{n:Nat}(h:dP cG aW n=0):∀j,j<n->j≠i->cG (aW j)=0:=fun j Y _=>by
 have:=dA cG aW n j Y;omega
theorem Q_{aW:Nat->PC}{n:Nat}(K:i<n)(h:dP cG aW n<=1)(R:cG (aW i)=1):∀j,j<n->j≠i->cG (aW j)=0:=fun j H Y=>by
 have:=yP cG aW n i j K H (fun e=>Y e.symm);omega
structure YF(aW:Nat->PC)(n i:Nat)(p p':PC):Prop where
 H:dP lJ (put aW i p') n+lJ p=dP lJ aW n+lJ p'
 A:dP lr (put aW i p') n+lr p=dP lr aW n+lr p'
 G:dP ei (put aW i p') n+ei p=dP ei aW n+ei p'
 Ga:dP cG (put aW i p') n+cG p=dP cG aW n+cG p'
 Q:dP ll (put aW i p') n+ll p=dP ll aW n+ll p'
 U1:dP fO (put aW i p') n+fO p=dP fO aW n+fO p'
 U2:dP eE (put aW i p') n+eE p=dP eE aW n+eE p'
 U3:dP ff (put aW i p') n+ff p=dP ff aW n+ff p'
 gH:lJ p<=dP lJ aW n
 gA:lr p<=dP lr aW n
 gG:ei p<=dP ei aW n
 xC:cG p<=dP cG aW n
 gQ:ll p<=dP ll aW n
 gU1:fO p<=dP fO aW n
 gU2:eE p<=dP eE aW n
 gU3:ff p<=dP ff aW n
theorem ln{aW:Nat->PC}{n:Nat}{p:PC}(Y:i<n)(e:aW i=p)(p':PC):YF aW n i p p':=by
 subst e;exact⟨h_ _ _ _ _ _ Y,h_ _ _ _ _ _ Y,h_ _ _ _ _ _ Y,h_ _ _ _ _ _ Y,h_ _ _ _ _ _ Y,h_ _ _ _ _ _ Y,h_ _ _ _ _ _ Y,h_ _ _ _ _ _ Y,
  dA _ _ _ _ Y,dA _ _ _ _ Y,dA _ _ _ _ Y,dA _ _ _ _ Y,dA _ _ _ _ Y,dA _ _ _ _ Y,dA _ _ _ _ Y,dA _ _ _ _ Y⟩
theorem dB{aW:Nat->PC}{n:Nat}{m:Word}{c:Nat}{p p':PC}(h:Inv aW n m c)(R:i<n)(e:aW i=p)(K:Ok m p')
  (V:lJ p'=lJ p)(W:lr p'=lr p)(q:ei p'=ei p)(z:cG p'=cG p)(o:ll p'=ll p)(r:fO p'=fO p)(y:eE p'=eE p)(a:ff p'=ff p):Inv (put aW i p') n m c:=by
 have s:=ln R e p';have O:=s.H;have M:=s.A;have N:=s.G;have D:=s.Ga;have P:=s.Q;have F:=s.U1;have J:=s.U2;have L:=s.U3;refine⟨dh h K (.inl (ado _)),?_,fun Y=>?_,fun Y=>?_⟩
 ·have:=h.held;omega
 ·obtain⟨k1,I,U,B,C⟩:=h.calm Y;simp_all
 ·obtain⟨k1,I,U,B,C,S⟩:=h.hard Y;simp_all
theorem JK(m:Word)(aw sv:Bool)(it:Nat)(gV:Bool):lJ (hd m aw sv it gV)=0/\lr (hd m aw sv it gV)=bn aw/\ei (hd m aw sv it gV)=0/\cG (hd m aw sv it gV)=0/\ll (hd m aw sv it gV)=0/\fO (hd m aw sv it gV)=0/\eE (hd m aw sv it gV)=0/\ff (hd m aw sv it gV)=0:=by
 unfold hd;split
 ·split
  ·rename_i h;rw[h.1];exact⟨rfl,rfl,rfl,rfl,rfl,rfl,rfl,rfl⟩
  ·exact⟨rfl,rfl,rfl,rfl,rfl,rfl,rfl,rfl⟩
 ·exact⟨rfl,rfl,rfl,rfl,rfl,rfl,rfl,rfl⟩
theorem T4(m:Word)(aw sv:Bool)(it:Nat)(gV:Bool)(Y:sv=true->aw=true)(H:aw=true->m.K=true)(R:it<=4):Ok m (hd m aw sv it gV):=by
 unfold hd;split
 ·rename_i h;split
  ·rename_i k;exact⟨h.1,h.2.1,k.2.1,adG k.2.2,h.2.2.1⟩
  ·exact⟨Y,by omega⟩
 ·exact⟨Y,H,R⟩
theorem AQ(m:Word)(aw sv:Bool)(it:Nat):lJ (hr m aw sv it)=0/\lr (hr m aw sv it)=bn aw/\ei (hr m aw sv it)=0/\cG (hr m aw sv it)=0/\ll (hr m aw sv it)=0/\fO (hr m aw sv it)=0/\eE (hr m aw sv it)=0/\ff (hr m aw sv it)=0:=by
 unfold hr;split<;>exact⟨rfl,rfl,rfl,rfl,rfl,rfl,rfl,rfl⟩
theorem PQ(m:Word)(aw sv:Bool)(it:Nat)(Y:sv=true->aw=true)(H:aw=true->m.K=true)(R:it<=4):Ok m (hr m aw sv it):=by
 unfold hr;split
 ·rename_i h;exact⟨Y,H,R,h.1,h.2⟩
 ·exact⟨Y,H,R⟩
theorem awake{aW:Nat->PC}{n:Nat}{m:Word}{c:Nat}{p:PC}(h:Inv aW n m c)(R:i<n)(e:aW i=p)(Y:0<lr p\/(0<ei p/\m.S=false)):m.K=true/\m.S=false:=by
 have g1:=dA lr aW n i R;have g2:=dA ei aW n i R;rw[e]at g1 g2;have H:m.S=false:=by
  rcases Y with Y|Y
  ·cases I:m.S with
   |false=>rfl
   |true=>have:=(h.hard I).2.1;omega
  simp_all
 refine⟨?_,H⟩;cases D:m.K with
 |true=>rfl
 |false=>
  have k:=(h.calm H).1;rw[D]at k;have:bn false=0:=rfl;omega
def YG(m:Word):PC->Prop
 |.rd aw _ _=>aw=true->m.K=true
 |.r2 _=>(m.S=true->m.L=false/\m.K=false/\0<m.W)/\(m.S=false->m.K=true)
 |.a1 _ _=>m.L=false/\m.S=true/\0<m.W
 |.cr=>m.L=true
 |_=>True
theorem Inv.pre{aW:Nat->PC}{n:Nat}{m:Word}{c:Nat}(h:Inv aW n m c)(H:i<n):YG m (aW i):=by
 have gH:=dA lJ aW n i H;have gG:=dA ei aW n i H;have xC:=dA cG aW n i H;have b0:bn false=0:=rfl;have b1:bn true=1:=rfl;cases e:aW i with
 |rd aw sv it=>exact fun I=>(awake h H e (.inl (by simp[lr,I,b1]))).1
 |r2 sv=>
  rw[e]at gG;simp[ei]at gG;refine⟨fun Y=>?_,fun Y=>(awake h H e (.inr ⟨by simp[ei],Y⟩)).1⟩;obtain⟨k1,A,U,D,B,R⟩:=h.hard Y;refine⟨?_,k1,R⟩;cases K:m.L with
  |false=>rfl
  |true=>rw[K]at D;omega
 |a1 old sv=>
  rw[e]at xC;simp[cG]at xC;have Y:m.S=true:=by
   cases Y:m.S with
   |true=>rfl
   |false=>have:=(h.calm Y).2.2.2.1;omega
  obtain⟨k1,A,U,D,B,R⟩:=h.hard Y;refine⟨?_,Y,R⟩;cases K:m.L with
  |false=>rfl
  |true=>rw[K]at D;omega
 |cr=>
  rw[e]at gH;simp[lJ]at gH;have:=h.held;show m.L=true
  cases K:m.L with
  |true=>rfl
  |false=>rw[K]at this;omega
 |_=>trivial
theorem Inv.step{aW:Nat->PC}{n i:Nat}{m m':Word}{c c':Nat}{p p':PC}(h:Inv aW n m c)(R:i<n)(e:aW i=p)(hm:Mv p m c p' m' c'):Inv (put aW i p') n m' c':=by
 have D:=h.ok i R;rw[e]at D;have b0:bn false=0:=rfl;have b1:bn true=1:=rfl;cases hm with
 |Xi=>
  have s:=ln R e .cr;obtain⟨M,sA,sG,H,N,s1,s2,J,gH,gA,gG,xC,gQ,g1,g2,g3⟩:=s;simp only[lJ,lr,ei,cG,ll,fO,eE,ff]at *;obtain⟨k1,B,C,I,A⟩:=h.calm rfl;have U:=h.held;simp only[Word.zero]at *;exact⟨dh h trivial (.inl (ado _)),by simp only;omega,fun _=>⟨by simp only;omega,by simp only;omega,by omega,by omega,fun a=>by simp at a⟩,fun a=>by simp at a⟩
 |Yy _ _ T=>exact dB h R e ⟨fun a=>by simp at a,by omega⟩ rfl rfl rfl rfl rfl rfl rfl rfl
 |rd _ _ aw sv it=>
  have P:aw=true->m.K=true:=fun q=>(awake h R e (.inl (by simp[lr,q,b1]))).1;obtain⟨a1,a2,a3,a4,a5,X,Z,E⟩:=AQ m aw sv it;exact dB h R e (PQ m aw sv it D.1 P D.2) a1 a2 a3 a4 a5 X Z E
 |hw _ old _ aw sv it gV=>
  obtain⟨a1,a2,a3,a4,a5,X,Z,E⟩:=JK old aw sv it gV;have hk:Ok old (hd old aw sv it gV):=T4 old aw sv it gV D.1 D.2.1 D.2.2.1;refine dB h R e ?_ a1 a2 a3 a4 a5 X Z E;generalize hd old aw sv it gV=p at *;cases p with
  |a1 o s=>simp[cG]at a4
  |_=>exact hk
 |Yz _ _ it=>
  obtain⟨j,V,G,g,v⟩:=D;have s:=ln R e (.rd true false (it+1));obtain⟨M,sA,sG,H,N,s1,s2,J,gH,gA,gG,xC,gQ,g1,g2,g3⟩:=s;simp only[lJ,lr,ei,cG,ll,fO,eE,ff]at *;obtain⟨k1,B,C,I,A⟩:=h.calm V;have U:=h.held;rw[G]at k1;exact⟨dh h ⟨fun _=>rfl,by omega⟩ (.inl (ado _)),by simp only;omega,fun _=>⟨by simp only;omega,by simp only;omega,by omega,by omega,fun a b=>by simp at b⟩,fun a=>by simp only at a;rw[V]at a;cases a⟩
 |YA _ _ _ it T=>exact dB h R e ⟨fun a=>by simp at a,by have:=D.2.2.2.2;omega⟩ rfl rfl rfl rfl rfl rfl rfl rfl
 |Xj _ _ aw sv it=>
  obtain⟨j,V,G⟩:=D;have r:lr (.c2 m aw sv it)=bn aw:=rfl;cases F:m.L with
  |false=>
   cases Y:m.S with
   |false=>
    rw[if_pos ⟨rfl,rfl⟩];have s:=ln R e .cr;obtain⟨M,sA,sG,H,N,s1,s2,J,gH,gA,gG,xC,gQ,g1,g2,g3⟩:=s;simp only[lJ,lr,ei,cG,ll,fO,eE,ff]at *;obtain⟨k1,B,C,I,A⟩:=h.calm Y;have U:=h.held;rw[F]at U;have en:nw m aw sv=⟨true,if aw then false else m.K,false,m.W⟩:=by unfold nw;rw[F,Y];simp
    rw[en];refine⟨dh h trivial (.inl (ado _)),by simp only;omega,fun _=>⟨?_,by simp only;omega,by omega,by omega,fun a=>by simp at a⟩,fun a=>by simp at a⟩;cases aw with
    |false=>simp only[adY,if_false];omega
    |true=>
     rw[V rfl]at k1;simp only[if_true];omega
   |true=>
    rw[if_neg (by simp)];have s:=ln R e (.s1 sv);obtain⟨M,sA,sG,H,N,s1,s2,J,gH,gA,gG,xC,gQ,g1,g2,g3⟩:=s;simp only[lJ,lr,ei,cG,ll,fO,eE,ff]at *;obtain⟨k1,B,C,I,A,O⟩:=h.hard Y;have U:=h.held;have P:aw=false:=by
     cases aw with
     |false=>rfl
     |true=>omega
    subst P;rw[F]at U I;have en:nw m false sv=⟨false,m.K,true,m.W+1⟩:=by unfold nw;rw[F,Y];simp
    rw[en];exact⟨dh h trivial (.inl (by simp)),by simp only;omega,fun a=>by simp at a,fun _=>⟨k1,by omega,by omega,by simp only;omega,by simp only;omega,by simp⟩⟩
  |true=>
   rw[if_neg (by simp)];have s:=ln R e (.s1 sv);obtain⟨M,sA,sG,H,N,s1,s2,J,gH,gA,gG,xC,gQ,g1,g2,g3⟩:=s;simp only[lJ,lr,ei,cG,ll,fO,eE,ff]at *;have U:=h.held;rw[F]at U;cases Y:m.S with
   |false=>
    obtain⟨k1,B,C,I,A⟩:=h.calm Y;cases sv with
    |false=>
     have en:nw m aw false=⟨true,if aw then false else m.K,false,m.W+1⟩:=by unfold nw;rw[F,Y];simp
     rw[en];refine⟨dh h trivial (.inl (by simp)),by simp only;omega,fun _=>⟨?_,by simp only;omega,by omega,by omega,fun a=>by simp at a⟩,fun a=>by simp at a⟩;cases aw with
     |false=>simp only[adY,if_false];omega
     |true=>
      rw[V rfl]at k1;simp only[if_true];omega
    |true=>
     have P:=j rfl;subst P;rw[V rfl]at k1;have en:nw m true true=⟨true,false,true,m.W+1⟩:=by unfold nw;rw[F,Y];simp
     rw[en];exact⟨dh h trivial (.inl (by simp)),by simp only;omega,fun a=>by simp at a,fun _=>⟨rfl,by omega,by omega,by simp only;omega,by simp only;omega,by simp⟩⟩
   |true=>
    obtain⟨k1,B,C,I,A,O⟩:=h.hard Y;have P:aw=false:=by
     cases aw with
     |false=>rfl
     |true=>omega
    subst P;rw[F]at I;have en:nw m false sv=⟨true,m.K,true,m.W+1⟩:=by unfold nw;rw[F,Y];simp
    rw[en];exact⟨dh h trivial (.inl (by simp)),by simp only;omega,fun a=>by simp at a,fun _=>⟨k1,by omega,by omega,by simp only;omega,by simp only;omega,by simp⟩⟩
 |YB _ _ _ aw sv it T=>exact dB h R e ⟨D.1,D.2.2⟩ rfl rfl rfl rfl rfl rfl rfl rfl
 |YC=>
  have s:=ln R e .t2;obtain⟨M,sA,sG,H,N,s1,s2,J,gH,gA,gG,xC,gQ,g1,g2,g3⟩:=s;simp only[lJ,lr,ei,cG,ll,fO,eE,ff]at *;have U:=h.held;refine⟨dh h trivial (.inl (ado _)),by omega,fun Y=>?_,fun Y=>?_⟩
  ·obtain⟨k1,B,C,I,A⟩:=h.calm Y;exact⟨by omega,by omega,by omega,by omega,fun a b d=>by have:=A a b d;omega⟩
  ·obtain⟨k1,B,C,I,A,O⟩:=h.hard Y;exact⟨k1,by omega,by omega,by omega,by omega,O⟩
 |YD=>
  have s:=ln R e (.r2 true);obtain⟨M,sA,sG,H,N,s1,s2,J,gH,gA,gG,xC,gQ,g1,g2,g3⟩:=s;simp only[lJ,lr,ei,cG,ll,fO,eE,ff]at *;have U:=h.held;refine⟨dh h trivial (.inl (ado _)),by omega,fun Y=>?_,fun Y=>?_⟩
  ·obtain⟨k1,B,C,I,A⟩:=h.calm Y;exact⟨by omega,by omega,by omega,by omega,fun a b d=>by have:=A a b d;omega⟩
  ·obtain⟨k1,B,C,I,A,O⟩:=h.hard Y;exact⟨k1,by omega,by omega,by omega,by omega,O⟩
 |t2 _ _ sv=>exact dB h R e trivial rfl rfl rfl rfl rfl rfl rfl rfl
 |Xk _ _ sv Y=>
  have q:=awake h R e (.inr ⟨by simp[ei],Y⟩);obtain⟨a1,a2,a3,a4,a5,X,Z,E⟩:=AQ m true sv 0;have s:=ln R e (hr m true sv 0);obtain⟨M,sA,sG,H,N,s1,s2,J,gH,gA,gG,xC,gQ,g1,g2,g3⟩:=s;rw[a1]at M;rw[a2]at sA;rw[a3]at sG;rw[a4]at H;rw[a5]at N;rw[X]at s1;rw[Z]at s2;rw[E]at J;simp only[lJ,lr,ei,cG,ll,fO,eE,ff]at *;have U:=h.held;obtain⟨k1,B,C,I,A⟩:=h.calm Y;exact⟨dh h (PQ m true sv 0 (fun _=>rfl) (fun _=>q.1) (by omega)) (.inl (ado _)),by omega,fun _=>⟨by omega,by omega,by omega,by omega,fun a b d=>by have:=A a b d;omega⟩,fun a=>by rw[Y]at a;cases a⟩
 |YE _ _ sv Y=>
  have s:=ln R e (.a1 m sv);obtain⟨M,sA,sG,H,N,s1,s2,J,gH,gA,gG,xC,gQ,g1,g2,g3⟩:=s;simp only[lJ,lr,ei,cG,ll,fO,eE,ff]at *;have U:=h.held;obtain⟨k1,B,C,I,A,O⟩:=h.hard Y;exact⟨dh h ⟨O,ado _⟩ (.inl (ado _)),by omega,(fun a=>by rw[Y]at a;cases a),fun _=>⟨k1,by omega,by omega,by omega,by omega,O⟩⟩
 |a1 _ old _ sv=>
  have s:=ln R e .cr;obtain⟨M,sA,sG,H,N,s1,s2,J,gH,gA,gG,xC,gQ,g1,g2,g3⟩:=s;simp only[lJ,lr,ei,cG,ll,fO,eE,ff]at *;have U:=h.held;have Y:m.S=true:=by
   cases Y:m.S with
   |true=>rfl
   |false=>have:=(h.calm Y).2.2.2.1;omega
  obtain⟨k1,B,C,I,A,O⟩:=h.hard Y;have F:m.L=false:=by
   cases F:m.L with
   |false=>rfl
   |true=>rw[F]at I;omega
  rw[F]at I U;have f:0<old.W/\old.W<=m.W:=D;refine⟨dh h trivial (.inr (Q_ R (by omega) (by rw[e];rfl))),by simp only;omega,?_,?_⟩
  ·intro Q;simp only at Q⊢;rw[k1];exact⟨by omega,by omega,by omega,by omega,fun a=>by simp at a⟩
  ·intro Q;simp only at Q⊢;split at Q
   ·simp at Q
   ·rename_i T;have l:¬old.W=1:=fun x=>T (.inr x);exact⟨k1,by omega,by omega,by omega,by omega,by omega⟩
 |u0=>
  have U:=h.held;have l1:bn (low m).L=0:=rfl;have l2:(low m).W=m.W:=rfl;have u:bn (low m).K=bn m.K:=rfl;have l4:(low m).S=m.S:=rfl;have gH:=dA lJ aW n i R;rw[e]at gH;have F:m.L=true:=by
   cases F:m.L with
   |true=>rfl
   |false=>rw[F]at U;simp only[lJ]at gH;omega
  rw[F]at U;cases Y:m.S with
  |true=>
   rw[if_pos rfl];have s:=ln R e .uh;obtain⟨M,sA,sG,H,N,s1,s2,J,gH,gA,gG,xC,gQ,g1,g2,g3⟩:=s;simp only[lJ,lr,ei,cG,ll,fO,eE,ff]at *;obtain⟨k1,B,C,I,A,O⟩:=h.hard Y;rw[F]at I;exact⟨dh h trivial (.inl (ado _)),by omega,(fun a=>by rw[l4,Y]at a;cases a),fun _=>⟨k1,by omega,by omega,by omega,by omega,O⟩⟩
  |false=>
   rw[if_neg (by simp)];obtain⟨k1,B,C,I,A⟩:=h.calm Y;by_cases hd:m.W=0\/m.K=true
   ·have ed:dec (low m)=.out:=by
     unfold dec;rw[if_pos];rcases hd with hd|hd
     ·exact .inl hd
     ·exact .inr (.inr (.inl hd))
    rw[ed];have s:=ln R e .out;obtain⟨M,sA,sG,H,N,s1,s2,J,gH,gA,gG,xC,gQ,g1,g2,g3⟩:=s;simp only[lJ,lr,ei,cG,ll,fO,eE,ff]at *;refine⟨dh h trivial (.inl (ado _)),by omega,fun _=>⟨by omega,by omega,by omega,by omega,fun _ a b=>?_⟩,fun a=>by rw[l4,Y]at a;cases a⟩;rcases hd with hd|hd
    ·omega
    ·have a':m.K=false:=a;rw[hd]at a';cases a'
   ·have ed:dec (low m)=.uc (low m):=by
     unfold dec;rw[if_neg];rintro(x|x|x|x)
     ·exact hd (.inl x)
     ·simp[low]at x
     ·exact hd (.inr x)
     ·rw[l4,Y]at x;cases x
    rw[ed];have s:=ln R e (.uc (low m));obtain⟨M,sA,sG,H,N,s1,s2,J,gH,gA,gG,xC,gQ,g1,g2,g3⟩:=s;simp only[lJ,lr,ei,cG,ll,fO,eE,ff]at *;have z:m.K=false:=by simpa using fun x=>hd (.inr x)
    refine⟨dh h ⟨rfl,Y,z,adG fun x=>hd (.inl x)⟩ (.inl (ado _)),by omega,fun _=>⟨by omega,by omega,by omega,by omega,fun _ _ _=>by omega⟩,fun a=>by rw[l4,Y]at a;cases a⟩
 |T2=>
  obtain⟨j,V,G,g⟩:=D;have s:=ln R e .us;obtain⟨M,sA,sG,H,N,s1,s2,J,gH,gA,gG,xC,gQ,g1,g2,g3⟩:=s;simp only[lJ,lr,ei,cG,ll,fO,eE,ff]at *;have U:=h.held;obtain⟨k1,B,C,I,A⟩:=h.calm V;rw[G]at k1;exact⟨dh h trivial (.inr (Na I)),by simp only;omega,fun _=>⟨by simp only;omega,by simp only;omega,by omega,by omega,fun a b=>by simp at b⟩,fun a=>by simp only at a;rw[V]at a;cases a⟩
 |T3 _ old _ T=>exact dB h R e trivial rfl rfl rfl rfl rfl rfl rfl rfl
 |ur=>
  by_cases hd:m.W=0\/m.L=true\/m.K=true\/m.S=true
  ·have ed:dec m=.out:=if_pos hd;rw[ed];have s:=ln R e .out;obtain⟨M,sA,sG,H,N,s1,s2,J,gH,gA,gG,xC,gQ,g1,g2,g3⟩:=s;simp only[lJ,lr,ei,cG,ll,fO,eE,ff]at *;have U:=h.held;refine⟨dh h trivial (.inl (ado _)),by omega,fun Y=>?_,fun Y=>?_⟩
   ·obtain⟨k1,B,C,I,A⟩:=h.calm Y;refine⟨by omega,by omega,by omega,by omega,fun a b d=>?_⟩;rcases hd with x|x|x|x
    ·omega
    ·rw[a]at x;cases x
    ·rw[b]at x;cases x
    ·rw[Y]at x;cases x
   ·obtain⟨k1,B,C,I,A,O⟩:=h.hard Y;exact⟨k1,by omega,by omega,by omega,by omega,O⟩
  ·have ed:dec m=.uc m:=if_neg hd;rw[ed];refine dB h R e ⟨?_,?_,?_,adG fun x=>hd (.inl x)⟩ rfl rfl rfl rfl rfl rfl rfl rfl
   ·simpa using fun x=>hd (.inr (.inl x))
   ·simpa using fun x=>hd (.inr (.inr (.inr x)))
   ·simpa using fun x=>hd (.inr (.inr (.inl x)))
 |us=>
  have s:=ln R e .out;obtain⟨M,sA,sG,H,N,s1,s2,J,gH,gA,gG,xC,gQ,g1,g2,g3⟩:=s;simp only[lJ,lr,ei,cG,ll,fO,eE,ff]at *;have U:=h.held;refine⟨dh h trivial (.inl (ado _)),by omega,fun Y=>?_,fun Y=>?_⟩
  ·obtain⟨k1,B,C,I,A⟩:=h.calm Y;exact⟨by omega,by omega,by omega,by omega,fun a b d=>by have:=A a b d;omega⟩
  ·obtain⟨k1,B,C,I,A,O⟩:=h.hard Y;omega
 |uh=>
  have s:=ln R e .out;obtain⟨M,sA,sG,H,N,s1,s2,J,gH,gA,gG,xC,gQ,g1,g2,g3⟩:=s;simp only[lJ,lr,ei,cG,ll,fO,eE,ff]at *;have U:=h.held;refine⟨dh h trivial (.inl (ado _)),by omega,fun Y=>?_,fun Y=>?_⟩
  ·have:=(h.calm Y).2.2.1;omega
  ·obtain⟨k1,B,C,I,A,O⟩:=h.hard Y;exact⟨k1,by omega,by omega,by omega,by omega,O⟩
def cB:PC->Nat
 |.out=>0|.cr=>1|.uc _=>0|.ur=>0|.us=>0|.uh=>0
 |_=>2
def bw:PC->Nat
 |.out=>0|.l0=>6|.rd aw _ _=>5-bn aw|.hw _ aw _ _=>5-bn aw|.c1 .. =>5|.c2 _ aw _ _=>5-bn aw|.s1 _=>0|.t2=>6|.r2 _=>5|.a1 .. =>4|.cr=>0|.uc _=>9|.ur=>9|.us=>8|.uh=>8
def dw(m:Word):PC->Nat
 |.rd _ _ it=>2 *(5-it)
 |.hw old _ _ it=>if old=m then 2 *(5-it)-1 else 2 *(5-it)+2
 |.c1 old it=>if old=m then 0 else 2 *(5-it)-1
 |.c2 old _ _ it=>if old=m then 0 else 2 *(5-it)+1
 |.uc old=>if old=m then 1 else 3
 |.ur=>2
 |_=>0
theorem Nc(m old:Word)(aw sv:Bool)(it:Nat)(gV:Bool)(h:it<=4):cB (hd old aw sv it gV)=2/\bw (hd old aw sv it gV)=5-bn aw/\dw m (hd old aw sv it gV)<dw m (.hw old aw sv it):=by
 unfold hd;split
 ·split
  ·rename_i Y;refine⟨rfl,by rw[Y.1];rfl,?_⟩;simp only[dw];split<;>omega
  ·refine⟨rfl,rfl,?_⟩;simp only[dw];split<;>omega
 ·refine⟨rfl,rfl,?_⟩;simp only[dw];split<;>omega
theorem Ft(m:Word)(aw sv:Bool)(it:Nat)(h:it<=4):cB (hr m aw sv it)=2/\bw (hr m aw sv it)=5-bn aw/\dw m (hr m aw sv it)<2 *(5-it):=by
 unfold hr;split
 ·refine⟨rfl,rfl,?_⟩;simp[dw,if_true];omega
 ·refine⟨rfl,rfl,?_⟩;simp[dw,if_true];omega
theorem Mv.down{p p':PC}{m m':Word}{c c':Nat}(h:Mv p m c p' m' c')(K:Ok m p):
  cB p'<cB p\/(cB p'=cB p/\bw p'+7 *c'<bw p+7 *c)\/(cB p'=cB p/\bw p'+7 *c'=bw p+7 *c/\m'=m/\c'=c/\dw m p'<dw m p):=by
 have b0:bn false=0:=rfl;have b1:bn true=1:=rfl;cases h with
 |Xi=>exact .inl (by decide)
 |Yy=>exact .inr (.inl ⟨rfl,by simp only[bw];omega⟩)
 |rd _ _ aw sv it=>
  obtain⟨H,D,R⟩:=Ft m aw sv it K.2;exact .inr (.inr ⟨H,by rw[D];rfl,rfl,rfl,R⟩)
 |hw _ old _ aw sv it gV=>
  obtain⟨H,D,R⟩:=Nc m old aw sv it gV K.2.2.1;exact .inr (.inr ⟨H,by rw[D];rfl,rfl,rfl,R⟩)
 |Yz _ _ it=>exact .inr (.inl ⟨rfl,by simp only[bw];omega⟩)
 |YA _ old _ it Y=>
  have:=K.2.2.2.2;refine .inr (.inr ⟨rfl,by simp only[bw];omega,rfl,rfl,?_⟩);simp only[dw];rw[if_neg (fun e=>Y e.symm)];omega
 |Xj _ _ aw sv it=>
  by_cases I:m.L=false/\m.S=false
  ·rw[if_pos I];exact .inl (by simp only[cB];omega)
  ·rw[if_neg I];refine .inr (.inl ⟨rfl,?_⟩);simp only[bw];have:=lK aw;omega
 |YB _ old _ aw sv it Y=>
  refine .inr (.inr ⟨rfl,rfl,rfl,rfl,?_⟩);simp only[dw];rw[if_neg (fun e=>Y e.symm)];omega
 |YC=>exact .inr (.inl ⟨rfl,by simp only[bw];omega⟩)
 |YD=>exact .inr (.inl ⟨rfl,by simp only[bw];omega⟩)
 |t2=>exact .inr (.inl ⟨rfl,by simp only[bw];omega⟩)
 |Xk _ _ sv A=>
  obtain⟨H,D,R⟩:=Ft m true sv 0 (by omega);exact .inr (.inl ⟨H,by rw[D];simp only[bw];omega⟩)
 |YE=>exact .inr (.inl ⟨rfl,by simp only[bw];omega⟩)
 |a1=>exact .inl (by simp only[cB];omega)
 |u0=>
  refine .inl ?_;split
  ·decide
  ·unfold dec;split<;>(simp only[cB];omega)
 |T2=>exact .inr (.inl ⟨rfl,by simp only[bw];omega⟩)
 |T3 _ old _ Y=>
  refine .inr (.inr ⟨rfl,rfl,rfl,rfl,?_⟩);simp only[dw];rw[if_neg (fun e=>Y e.symm)];omega
 |ur=>
  unfold dec;split
  ·exact .inr (.inl ⟨rfl,by simp only[bw];omega⟩)
  ·refine .inr (.inr ⟨rfl,rfl,rfl,rfl,?_⟩);simp only[dw,if_true];omega
 |us=>exact .inr (.inl ⟨rfl,by simp only[bw];omega⟩)
 |uh=>exact .inr (.inl ⟨rfl,by simp only[bw];omega⟩)
end Lock
namespace Ph
open Lock (Word bn)
def val(m:Word):Int:=(bn m.L+2 *bn m.K+4 *bn m.S+8 *m.W:Nat)
end Ph
namespace Ph
open Conc Ren
open Lock (Word PC Mv bn)
structure Env where
 Fd:Nat
 Mp:Nat
 Wg:Nat
 tF:TypeId
 tW:TypeId
 zc:Value
 Γ:Type
 upd:Γ->Nat->Γ
 eZ:Γ->Option Obj->Prop
namespace Env
variable(E:Env)
abbrev mu:Addr:=⟨E.Fd,0,none⟩
abbrev ms:Addr:=⟨E.Fd,1,none⟩
abbrev st:Addr:=⟨E.Wg,0,none⟩
abbrev sm:Addr:=⟨E.Wg,1,none⟩
def U(a i:Nat):=(a=E.Fd\/a=E.Wg)/\i<2
def MuAt(w:World)(m:Word)(c:Nat):=w.heap[E.Fd]?=some (.cells #[.int .i32 (val m),.int .u32 c,.map (some E.Mp)] E.tF)
def WgAt(w:World)(v wt ws:Nat):Prop:=w.heap[E.Wg]?=some (.cells #[.int .u64 ((v *4294967296+wt:Nat):Int),.int .u32 ws] E.tW)
structure Eff(b:Nat)(w w1:World):Prop where
 heap:∀a,a≠b->w1.heap[a]?=w.heap[a]?
 size:w1.heap.size=w.heap.size
 tape:w1.tape=w.tape
 env:j8 w1.os w.os
 output:w1.output=w.output
def EvA(b:Nat)(es:Array _):=(∀e∈es,∃a wr,e=⟨.cell a,wr,true⟩/\a.block=b/\a.off<2/\a.spot=none)\/∃o,o<2/\es=semEvents ⟨b,o,none⟩
inductive pX where
 |recv
 |ld (x:Nat)
 |lk (p:PC) (x:Nat)
 |le (x:Nat)
 |la (x:Nat)
 |ur (x:E.Γ)
 |ud
 |u0
 |un (p:PC)
 |ue
 |wr
variable(P:Program)(main:Bool)
abbrev Tree(D:(Nat->Prop)->(Nat->Prop)->Goroutine->World->Prop):=Tz P main E.U D
def gy(m:Mark)(Nx:(Nat->Prop)->(Nat->Prop)->Goroutine->World->Prop)(S X:Nat->Prop)(g:Goroutine)(w:World):=
 ∀w2,az E.U S w w2->∃g1,stepG P main g w2=.go g1 w2 #[⟨.mark m,false,true⟩]/\Nx S X g1 w2
def JL(p:PC)(Nx:PC->(Nat->Prop)->(Nat->Prop)->Goroutine->World->Prop)(S X:Nat->Prop)(g:Goroutine)(w:World):=
 ∀w2 m c,az E.U S w w2->E.MuAt w2 m c->Lock.Ok m p->Lock.YG m p->m.W<=8->c<=1->
  (∃sv,p=.s1 sv/\c=0/\stepG P main g w2=.go {g with status:=.blocked} w2 #[])\/
  ∃p' m' c' g1 w1 es,Mv p m c p' m' c'/\stepG P main g w2=.go g1 w1 es/\E.MuAt w1 m' c'/\Eff E.Fd w2 w1/\EvA E.Fd es/\(c<c'->mayWake P g=true)/\Nx p' S X g1 w1
def PS(g:Goroutine):=∃q,QuitsD P q 1 g
def nb(P:Program)(Q:Goroutine->Prop):Nat->Goroutine->Prop
 |0,g=>Q g
 |n+1,g=>g.status=.running/\∃Y,(∀w,stepG P false g w=.go Y w #[])/\nb P Q n Y
def YH(P:Program)(g:Goroutine):=g.status=.running/\mayWake P g=true/\∀w2,E.WgAt w2 0 0 0->∃g1 w1 es,stepG P false g w2=.go g1 w1 es/\E.WgAt w1 0 0 1/\Eff E.Wg w2 w1/\EvA E.Wg es/\PS P g1
def YI(P:Program)(g:Goroutine):=g.status=.running/\∀w2,E.WgAt w2 0 1 0->∃g1 w1 es,stepG P false g w2=.go g1 w1 es/\E.WgAt w1 0 0 0/\Eff E.Wg w2 w1/\EvA E.Wg es/\∃n,nb P (E.YH P) n g1
def YJ(P:Program)(g:Goroutine):=g.status=.running/\∀w2,E.WgAt w2 0 1 0->∃g1 es,stepG P false g w2=.go g1 w2 es/\EvA E.Wg es/\∃n,nb P (E.YI P) n g1
def YK(P:Program)(g:Goroutine):=g.status=.running/\∀w2 v wt,v<=8->wt<=1->E.WgAt w2 (v+1) wt 0->∃g1 w1 es,stepG P false g w2=.go g1 w1 es/\E.WgAt w1 v wt 0/\Eff E.Wg w2 w1/\EvA E.Wg es/\
    ((v=0/\wt=1->∃n,nb P (E.YJ P) n g1)/\(¬(v=0/\wt=1)->PS P g1))
def DL4(P:Program)(g:Goroutine):=g.status=.running/\∃g1,(∀w2,stepG P false g w2=.go g1 w2 #[⟨.mark .disable,false,true⟩])/\∃n,nb P (E.YK P) n g1
def yQ(P:Program)
 |0=>E.YH P
 |1=>E.YI P
 |2=>E.YJ P
 |3=>E.YK P
 |_+4=>E.DL4 P
variable{E}in
def behind(p:PC)(x:Nat):E.pX:=match p with
 |.cr=>.le x
 |p=>.lk p x
variable{E}in
def j_(p:PC):E.pX:=match p with
 |.out=>.ue
 |p=>.un p
def dp(P:Program)(A:(Nat->Prop)->(Nat->Prop)->Goroutine->World->Prop):Nat->E.pX->(Nat->Prop)->(Nat->Prop)->Goroutine->World->Prop
 |_,.recv,S,X,g,w=>A S X g w
 |0,_,_,_,_,_=>True
 |k+1,pc,S,X,g,w=>g.status=.running/\g.offers=none/\match pc with
  |.recv=>True
  |.ld x=>E.gy P false .disable (E.Tree P false (dp P A k (.lk .l0 x))) S X g w
  |.lk p x=>E.JL P false p (fun p'=>E.Tree P false (dp P A k (behind p' x))) S X g w
  |.le x=>E.gy P false .enable (E.Tree P false (dp P A k (.la x))) S X g w
  |.la x=>∀w2 γ,az E.U S w w2->E.eZ γ (w2.heap[E.Mp]?)->∃g1,stepG P false g w2=.go g1 w2 #[⟨.mark (.acquire E.mu),false,true⟩]/\E.Tree P false (dp P A k (.ur (E.upd γ x))) (fun a=>S a\/a=E.Mp) (fun a=>X a\/a=E.Mp) g1 w2
  |.ur γ=>∀w2,az E.U S w w2->E.eZ γ (w2.heap[E.Mp]?)/\∃g1,stepG P false g w2=.go g1 w2 #[⟨.mark (.releaseMerge E.mu),false,true⟩]/\E.Tree P false (dp P A k .ud) (fun a=>S a/\a≠E.Mp) (fun a=>X a/\a≠E.Mp) g1 w2
  |.ud=>E.gy P false .disable (E.Tree P false (dp P A k .u0)) S X g w
  |.u0=>E.JL P false .cr (fun p'=>E.Tree P false (dp P A k (j_ p'))) S X g w
  |.un p=>E.JL P false p (fun p'=>E.Tree P false (dp P A k (j_ p'))) S X g w
  |.ue=>E.gy P false .enable (E.Tree P false (dp P A k .recv)) S X g w
  |.wr=>∀w2,az E.U S w w2->∃g1,stepG P false g w2=.go g1 w2 #[⟨.mark (.releaseMerge E.st),false,true⟩]/\∃n,nb P (E.yQ P 4) n g1
end Env
namespace Env
variable{E:Env}{w w1 w2:World}{m m':Word}{c c' v wt ws:Nat}{b:Nat}
theorem ft{b:Nat}{x:Value}{cs:Array _}{t:TypeId}{fz:Nat×Nat}(h:w.heap[b]?=some (.cells cs t fz)):(w.setCell ⟨b,i,none⟩ x).heap[b]?=some (.cells (cs.setIfInBounds i x) t fz):=by
 rw[setCell_eq_setRow w b i cs t fz x h];exact setRow_heap w b cs _ t fz h
theorem Eff.refl(b:Nat)(w:World):Eff b w w:=⟨fun _ _=>rfl,rfl,rfl,.refl _,rfl⟩
theorem Eff.set(b i:Nat)(x:Value)(w:World):Eff b w (w.setCell ⟨b,i,none⟩ x):=by
 refine⟨fun a Y=>?_,by simp,rfl,.refl _,rfl⟩;simp[World.setCell];rw[Array.getElem?_modify];rw[if_neg (fun e=>Y e.symm)]
theorem Eff.later(b:Nat)(w:World):Eff b w w.later:=⟨fun _ _=>rfl,rfl,rfl,⟨w.tick,rfl⟩,rfl⟩
theorem Eff.asked(b:Nat)(w:World):Eff b w w.asked:=⟨fun _ _=>rfl,rfl,rfl,.refl _,rfl⟩
theorem MuAt.cell0(h:E.MuAt w m c):w.cell? E.mu=some (.int .i32 (val m)):=by unfold MuAt at h;simp[ady,h]
theorem MuAt.lL(h:E.MuAt w m c):w.cell? E.ms=some (.int .u32 c):=by unfold MuAt at h;simp[ady,h]
theorem MuAt.thaw(h:E.MuAt w m c)(i:Nat):w.frozen? ⟨E.Fd,i,none⟩=false:=by unfold MuAt at h;simp[World.frozen?,h]
theorem MuAt.kg(h:E.MuAt w m c)(m':Word):E.MuAt (w.setCell E.mu (.int .i32 (val m'))) m' c:=by
 unfold MuAt at h⊢;rw[ft h];simp
theorem MuAt.r9(h:E.MuAt w m c)(c':Nat):E.MuAt (w.setCell E.ms (.int .u32 c')) m c':=by
 unfold MuAt at h⊢;rw[ft h];simp
theorem MuAt.later(h:E.MuAt w m c):E.MuAt w.later m c:=h
theorem MuAt.asked(h:E.MuAt w m c):E.MuAt w.asked m c:=h
theorem WgAt.cell0(h:E.WgAt w v wt ws):w.cell? E.st=some (.int .u64 ((v *4294967296+wt:Nat))):=by unfold WgAt at h;simp[ady,h]
theorem WgAt.lL(h:E.WgAt w v wt ws):w.cell? E.sm=some (.int .u32 ws):=by unfold WgAt at h;simp[ady,h]
theorem WgAt.thaw(h:E.WgAt w v wt ws)(i:Nat):w.frozen? ⟨E.Wg,i,none⟩=false:=by unfold WgAt at h;simp[World.frozen?,h]
theorem WgAt.kg(h:E.WgAt w v wt ws)(v' dq:Nat):E.WgAt (w.setCell E.st (.int .u64 ((v' *4294967296+dq:Nat)))) v' dq ws:=by
 unfold WgAt at h⊢;rw[ft h];simp
theorem WgAt.r9(h:E.WgAt w v wt ws)(dk:Nat):E.WgAt (w.setCell E.sm (.int .u32 dk)) v wt dk:=by
 unfold WgAt at h⊢;rw[ft h];simp
def AR(E:Env)(w:World):=∃cs t fz,w.heap[E.Fd]?=some (.cells cs t fz)/\cs.size=3
theorem AR.rely{S:Nat->Prop}(h:E.AR w)(A:S E.Fd)(hr:az E.U S w w2):E.AR w2:=by
 obtain⟨cs,t,fz,K,H⟩:=h;rcases hr.kept _ A with e|⟨d,d2,t',I,_,Y,D,R,_⟩
 ·exact⟨cs,t,fz,e.trans K,H⟩
 ·rw[K]at Y;cases Y;exact⟨d2,_,_,D,R.trans H⟩
theorem AR.cell0(h:E.AR w):∃v,w.cell? E.mu=some v:=by
 obtain⟨cs,t,fz,Y,K⟩:=h;exact⟨cs[0],by simp[ady,Y]⟩
def o8(E:Env)(w:World):=∃cs t fz,w.heap[E.Wg]?=some (.cells cs t fz)/\cs.size=2
theorem o8.rely{S:Nat->Prop}(h:E.o8 w)(A:S E.Wg)(hr:az E.U S w w2):E.o8 w2:=by
 obtain⟨cs,t,fz,K,H⟩:=h;rcases hr.kept _ A with e|⟨d,d2,t',I,_,Y,D,R,_⟩
 ·exact⟨cs,t,fz,e.trans K,H⟩
 ·rw[K]at Y;cases Y;exact⟨d2,_,_,D,R.trans H⟩
theorem o8.cell0(h:E.o8 w):∃v,w.cell? E.st=some v:=by
 obtain⟨cs,t,fz,Y,K⟩:=h;exact⟨cs[0],by simp[ady,Y]⟩
theorem o8.lL(h:E.o8 w):∃v,w.cell? E.sm=some v:=by
 obtain⟨cs,t,fz,Y,K⟩:=h;exact⟨cs[1],by simp[ady,Y]⟩
structure Kn(E:Env)(S:Nat->Prop)(Fx:World->Prop):Prop where
 rely:∀{w w2:World},Fx w->az E.U S w w2->Fx w2
 fd:∀{w:World},Fx w->E.AR w
 tw:∀{w w1:World} {m m':Word} {c c':Nat},Fx w->E.MuAt w m c->Eff E.Fd w w1->E.MuAt w1 m' c'->Fx w1
 later:∀{w:World},Fx w->Fx w.later
theorem xD{U:Nat->Nat->Prop}(h:∀a,S' a->S a)(hr:az U S w w2):az U S' w w2:=⟨fun a Y=>hr.kept a (h a Y),hr.grow,hr.env⟩
theorem EvA.nil(b:Nat):EvA b #[]:=.inl fun e he=>by simp_all
theorem EvA.one(b i:Nat)(wr:Bool)(Y:i<2):EvA b #[⟨.cell ⟨b,i,none⟩,wr,true⟩]:=.inl fun e he=>by simp_all
theorem EvA.two(b i:Nat)(Y:i<2):EvA b #[⟨.cell ⟨b,i,none⟩,false,true⟩,⟨.cell ⟨b,i,none⟩,true,true⟩]:=.inl fun e he=>by
 simp at he;rcases he with rfl|rfl
 ·simp_all
 ·simp_all
theorem EvA.Tv(b i:Nat)(Y:i<2):EvA b (semEvents ⟨b,i,none⟩):=.inr ⟨i,Y,rfl⟩
end Env
def tA(P:Program):Nat->Frame->List Frame->Frame×List Frame
 |0,f,l=>(f,l)
 |n+1,f,l=>match f.todo with
  |.inLoop _::_|.code (.loop _)::_=>(Cr P f l).getD (f,l)
  |_=>match Cr P f l with
   |some (f1,l1)=>tA P n f1 l1
   |none=>(f,l)
theorem Tz.AU{U:Nat->Nat->Prop}{D:(Nat->Prop)->(Nat->Prop)->Goroutine->World->Prop}:∀n {f:Frame} {l:List _} {w:World},(∀w2,az U S w w2->Tz P main U D S X (G (tA P n f l).1 (tA P n f l).2) w2)->Tz P main U D S X (G f l) w
 |0,f,l,w,h=>h w (.refl _ _ _)
 |n+1,f,l,w,h=>by
  unfold tA at h;have one:(∀w2,az U S w w2->Tz P main U D S X (G ((Cr P f l).getD (f,l)).1 ((Cr P f l).getD (f,l)).2) w2)->Tz P main U D S X (G f l) w:=by
   intro h;cases e:Cr P f l with
   |none=>rw[e]at h;exact h w (.refl _ _ _)
   |some x=>
    rw[e]at h;exact Tz.one rfl fun w2 hr=>⟨_,w2,#[],S,X,et e,ay S X w2,h w2 hr⟩
  split at h
  ·simp_all
  ·simp_all
  ·split at h
   ·rename_i f1 l1 e;refine Tz.one rfl fun w2 hr=>⟨_,w2,#[],S,X,et e,ay S X w2,Tz.AU n fun w3 Y=>h w3 (hr.trans Y)⟩
   ·simp_all
def Ra(s:Nat->Option _)(j:Nat->Value):=((List.range 139).map fun i=>(s i).getD (j i)).toArray
def lf(site:List Item)(s:Nat->Option Value)(j:Nat->Value):Frame:={fn:=205,tmps:=Ra s j,todo:=site,defers:=[],mode:=.run,kind:=.normal}
structure Fr(site:List Item)(s:Nat->Option Value)(f:Frame):Prop where
 fn:f.fn=205
 todo:f.todo=site
 defers:f.defers=[]
 mode:f.mode=.run
 kind:f.kind=.normal
 round:f.roundOf=none
 size:f.tmps.size=139
 slot:∀i v,s i=some v->f.tmps.getD i undef=v
theorem Fr.eq{site:List _}{s:Nat->Option _}(h:Fr site s f):f=lf site s (fun i=>f.tmps.getD i undef):=by
 obtain⟨fn,tmps,todo,defers,mode,kind,ro⟩:=f;obtain⟨D,R,I,A,U,B,K,H⟩:=h;congr 1;apply Array.ext
 ·simp[Ra,K]
 ·intro i Y _;simp[Ra,adR,aea,adZ];cases e:s i with
  |none=>simp[adp Y]
  |some v=>
   rw[<-H i v e];simp[adp Y]
def sA(al:List (Nat×Value))(i:Nat):=al.lookup i
structure tC where
 callers:List Frame
 fn:FuncId
 todo:List Item
 defers:List Deferred
 mode:FrameMode
 kind:CallKind
 round:Option Nat
 size:Nat
 abN:List Value
 call:Option (FuncId×Array Value)
 load:Option (TypeId×Value)
def look(ks:List Nat)(r:Frame×List Frame):tC:=⟨r.2,r.1.fn,r.1.todo,r.1.defers,r.1.mode,r.1.kind,r.1.roundOf,r.1.tmps.size,ks.map (r.1.tmps.getD · undef),ahead r.1,gS r.1⟩
def fy(l:List Frame)(site:List Item)(al:List (Nat×Value))(call:Option (FuncId×Array Value))(load:Option (TypeId×Value)):tC:=⟨l,205,site,[],.run,.normal,none,139,al.map (·.2),call,load⟩
theorem ql{al:List _}{g:Nat->Value}(h:al.map (fun x=>g x.1)=al.map (·.2)):∀i v,al.lookup i=some v->g i=v:=by
 induction al with
 |nil=>intro i v e;cases e
 |cons x al Y=>
  obtain⟨k,y⟩:=x;simp only[List.map_cons,List.cons.injEq]at h;intro i v e;rw[List.lookup_cons]at e;by_cases hk:i=k
  ·simp_all
  ·have:(i==k)=false:=by simp_all
   simp_all
structure eG(l:List Frame)(site:List Item)(al:List (Nat×Value))(call:Option (FuncId×Array Value))(load:Option (TypeId×Value))(r:Frame×List Frame):Prop where
 callers:r.2=l
 fr:Fr site (sA al) r.1
 call:ahead r.1=call
 load:gS r.1=load
theorem stands{r:Frame×List _}{l:List _}{site:List _}{al:List _}{call:Option _}{load:Option _}(h:look (al.map (·.1)) r=fy l site al call load):eG l site al call load r:=by
 simp only[look,fy,tC.mk.injEq,List.map_map]at h;obtain⟨H,D,R,I,A,U,B,C,F,Y,K⟩:=h;exact⟨H,⟨D,R,I,A,U,B,C,ql F⟩,Y,K⟩
theorem jF{α β:Type}{xs:List α}{F G:α->β}(h:xs.map F=xs.map G){x:α}(Y:x∈xs):F x=G x:=by simp_all
noncomputable abbrev PR:=Tryz.prog
def jo(Fd:Nat)(aK:Int)(sv aw:Bool)(it:Int):List (Nat×Value):=[(0,.pointer (some ⟨Fd,0,none⟩)),(2,.int .i64 aK),(3,.bool sv),(4,.bool aw),(5,.int .i64 it)]
def JM(Fd:Nat)(aK:Int)(sv aw:Bool)(it old:Int):=(6,.int .i32 old)::jo Fd aK sv aw it
def ptr(Fd:Nat):Value:=.pointer (some ⟨Fd,0,none⟩)
def jz(i:Nat):=undef
def AV (Fd:Nat) (l:List _):=aQ PR 60 (Frame.enter PR 205 #[ptr Fd] .normal) l
def JN:=(AV 0 []).1.todo
def xE:=(tA PR 60 ((AV 0 []).1.finish (.int .i32 0)) []).1.todo
def xF (Fd:Nat) (aK:Int) (sv aw:Bool) (it old:Int) (j:Nat->Value) (l:List _):=aQ PR 300 (lf xE (sA (JM Fd aK sv aw it old)) j) l
def tD:=(xF 0 0 false false 0 1 jz []).1.todo
def Di:=(xF 0 0 false false 0 0 jz []).1.todo
def YL(Fd:Nat)(aK:Int)(sv aw:Bool)(it old:Int):=(17,.bool true)::JM Fd aK sv aw it old
def fA (Fd:Nat) (aK:Int) (sv aw:Bool) (it old:Int) (b:Bool) (j:Nat->Value) (l:List _):=aQ PR 300 ((lf tD (sA (YL Fd aK sv aw it old)) j).finish (.bool b)) l
def Dj:=(fA 0 0 false false 0 9 true jz []).1.todo
def qm:=(fA 0 0 false false 0 1 true jz []).1.todo
def YM(Fd:Nat)(aK:Int)(sv aw:Bool)(it old:Int):=(33,.bool true)::JM Fd aK sv aw it old
def JO (Fd:Nat) (aK:Int) (sv aw:Bool) (it old:Int) (b:Bool) (j:Nat->Value) (l:List _):=aQ PR 300 ((lf Dj (sA (YM Fd aK sv aw it old)) j).finish (.bool b)) l
def JP (Fd:Nat) (aK:Int) (sv aw:Bool) (it:Int) (j:Nat->Value) (l:List _):=aQ PR 300 ((lf qm (sA (jo Fd aK sv aw it)) j).finish (.tuple #[])) l
def Dk:=(JP 0 0 false false 0 jz []).1.todo
def qo (Fd:Nat) (aK:Int) (sv aw:Bool) (it old:Int) (b:Bool) (j:Nat->Value) (l:List _):=aQ PR 300 ((lf Di (sA (JM Fd aK sv aw it old)) j).finish (.bool b)) l
def yR:=(qo 0 0 false false 0 0 false jz []).1.todo
def yS:=(qo 0 0 false false 0 0 true jz []).1.todo
def JQ:=(qo 0 0 false false 0 1 true jz []).1.todo
def yT:=(qo 0 1 false false 0 1 true jz []).1.todo
section
variable{Fd:Nat}{aK it old:Int}{sv aw:Bool}{j:Nat->Value}{l:List Frame}
theorem Dm:look [6,0,2,3,4,5] (tA PR 60 ((lf JN (sA (jo Fd aK sv aw it)) j).finish (.int .i32 old)) l)=fy l xE (JM Fd aK sv aw it old) none none:=by kernel_rfl
theorem AW:look [6,0,2,3,4,5] (tA PR 60 ((lf Dk (sA (jo Fd aK sv aw it)) j).finish (.int .i32 old)) l)=fy l xE (JM Fd aK sv aw it old) none none:=by kernel_rfl
theorem AX:look [6,0,2,3,4,5] (tA PR 60 ((lf yR (sA (jo Fd aK sv aw it)) j).finish (.int .i32 old)) l)=fy l xE (JM Fd aK sv aw it old) none none:=by kernel_rfl
def spins:=(List.range 72).filter fun i=>i%2==1&&i/4%2==0
theorem JR:(spins.map fun i:Nat=>look [17,6,0,2,3,4,5] (xF Fd aK sv aw it i j l))=spins.map fun i:Nat=>fy l tD (YL Fd aK sv aw it (i:Int)) (some (214,#[.int .i64 it])) none:=by kernel_rfl
theorem Nf:look [0,2,3,4,5] (JP Fd aK sv aw it j l)=fy l Dk (jo Fd aK sv aw (IntKind.i64.wrap (it+1))) none (some (21,ptr Fd)):=by kernel_rfl
theorem JS:look [0,2,3,4,5] (JO Fd aK sv aw it old true j l)=fy l qm (jo Fd aK sv true it) (some (215,#[])) none:=by kernel_rfl
theorem JU:look [0,2,3,4,5] (JO Fd aK sv aw it old false j l)=fy l qm (jo Fd aK sv aw it) (some (215,#[])) none:=by kernel_rfl
theorem JV:look [0,2,3,4,5] (qo Fd aK sv aw it old false j l)=fy l yR (jo Fd aK sv aw it) none (some (21,ptr Fd)):=by kernel_rfl
end
def wd(i:Nat):Word:=⟨i%2==1,i/2%2==1,i/4%2==1,i/8⟩
def yU(P:Program)(t:Nat):Nat->Frame->List Frame->Frame×List Frame
 |0,f,l=>(f,l)
 |n+1,f,l=>match f.todo with
  |.code (.cond (.tmp u) _ _)::_=>if u==t then(f,l)else match Cr P f l with
   |some (f1,l1)=>yU P t n f1 l1
   |none=>(f,l)
  |_=>match Cr P f l with
   |some (f1,l1)=>yU P t n f1 l1
   |none=>(f,l)
theorem Tz.PU{U:Nat->Nat->Prop}{D:(Nat->Prop)->(Nat->Prop)->Goroutine->World->Prop}(t:Nat):∀(n:Nat) {f:Frame} {l:List Frame} {w:World},(∀w2,az U S w w2->Tz P main U D S X (G (yU P t n f l).1 (yU P t n f l).2) w2)->Tz P main U D S X (G f l) w
 |0,f,l,w,h=>h w (.refl _ _ _)
 |n+1,f,l,w,h=>by
  unfold yU at h;have go:(∀w2,az U S w w2->Tz P main U D S X (G (match Cr P f l with|some (f1,l1)=>yU P t n f1 l1|none=>(f,l)).1 (match Cr P f l with|some (f1,l1)=>yU P t n f1 l1|none=>(f,l)).2) w2)->Tz P main U D S X (G f l) w:=by
   intro h;split at h
   ·rename_i f1 l1 e;exact Tz.one rfl fun w2 hr=>⟨_,w2,#[],S,X,et e,ay S X w2,Tz.PU t n fun w3 Y=>h w3 (hr.trans Y)⟩
   ·exact h w (.refl _ _ _)
  split at h
  ·split at h
   ·exact h w (.refl _ _ _)
   ·exact go h
  ·exact go h
def tG(aw:Bool):List Nat:=(List.range 72).filter fun i=>!(i%2==1&&i/4%2==0)&&(!aw||i/2%2==1)
def nY(aw:Bool):List Nat:=(List.range 72).filter fun i=>(i%2==1&&i/4%2==0)&&(!aw||i/2%2==1)
def toC2 (l:List Frame) (Fd:Nat) (aK:Int) (sv aw:Bool) (it:Int) (i:Nat):tC:=fy l Di (JM Fd aK sv aw it (i:Int)) (some (204,#[ptr Fd,.int .i32 (i:Int),.int .i32 (val (Lock.nw (wd i) aw sv))])) none
section
variable{Fd:Nat}{aK it:Int}{j:Nat->Value}{l:List Frame}
theorem Ha:((tG false).map fun i:Nat=>look [6,0,2,3,4,5] (xF Fd aK false false it (i:Int) j l))=(tG false).map (toC2 l Fd aK false false it):=by kernel_rfl
theorem Hb:((tG true).map fun i:Nat=>look [6,0,2,3,4,5] (xF Fd aK false true it (i:Int) j l))=(tG true).map (toC2 l Fd aK false true it):=by kernel_rfl
theorem Hc:((tG true).map fun i:Nat=>look [6,0,2,3,4,5] (xF Fd aK true true it (i:Int) j l))=(tG true).map (toC2 l Fd aK true true it):=by kernel_rfl
theorem Hd:((nY false).map fun i:Nat=>look [6,0,2,3,4,5] (fA Fd aK false false it (i:Int) false j l))=(nY false).map (toC2 l Fd aK false false it):=by kernel_rfl
theorem He:((nY true).map fun i:Nat=>look [6,0,2,3,4,5] (fA Fd aK false true it (i:Int) false j l))=(nY true).map (toC2 l Fd aK false true it):=by kernel_rfl
theorem Hf:((nY true).map fun i:Nat=>look [6,0,2,3,4,5] (fA Fd aK true true it (i:Int) false j l))=(nY true).map (toC2 l Fd aK true true it):=by kernel_rfl
end
def toDo (l:List Frame) (Fd:Nat) (aK:Int) (sv aw:Bool) (it:Int):tC:=fy l qm (jo Fd aK sv aw it) (some (215,#[])) none
def JW:List Nat:=(List.range 72).filter fun i=>i%2==1&&i/4%2==0&&i/2%2==0&&!(i/8==0)
def PV:List Nat:=(List.range 72).filter fun i=>i%2==1&&i/4%2==0&&!(i/2%2==0&&!(i/8==0))
def frs:List Nat:=(List.range 72).filter fun i=>i%2==0&&i/4%2==0
def yV:List Nat:=(List.range 72).filter fun i=>!(i%2==0&&i/4%2==0)
def o9 (Fd:Nat) (aK:Int) (sv aw:Bool) (it old:Int) (j:Nat->Value) (l:List Frame):Frame×List Frame:=yU PR 87 300 ((lf Di (sA (JM Fd aK sv aw it old)) j).finish (.bool true)) l
def Dn:List Item:=(o9 0 0 false false 0 1 jz []).1.todo
def Dp (Fd:Nat) (aK:Int) (sv aw b:Bool) (it:Int) (v8:Value) (j:Nat->Value) (l:List Frame):Frame×List Frame:=aQ PR 300 (lf Dn (sA ((87,.bool b)::(8,v8)::jo Fd aK sv aw it)) j) l
def Rb (Fd:Nat) (sv aw:Bool) (it T:Int) (v8:Value) (aK:Int) (j:Nat->Value) (l:List Frame):Frame×List Frame:=aQ PR 300 ((lf JQ (sA ((8,v8)::jo Fd aK sv aw it)) j).finish (.int .i64 T)) l
def yW (Fd:Nat) (aK:Int) (sv aw:Bool) (it:Int) (j:Nat->Value) (l:List Frame):Frame×List Frame:=aQ PR 300 ((lf yT (sA (jo Fd aK sv aw it)) j).finish (.tuple #[])) l
def Dq:List Item:=(yW 0 0 false false 0 jz []).1.todo
def yX:List Item:=(yW 0 0 true false 0 jz []).1.todo
def Re (Fd:Nat) (aK T:Int) (aw:Bool) (it:Int) (j:Nat->Value) (l:List Frame):Frame×List Frame:=aQ PR 300 ((lf Dq (sA ((95,.bool false)::jo Fd aK false aw it)) j).finish (.int .i64 T)) l
def nZ (Fd:Nat) (aK:Int) (sv aw:Bool) (it old:Int) (j:Nat->Value) (l:List Frame):Frame×List Frame:=tA PR 300 ((lf yX (sA (jo Fd aK sv aw it)) j).finish (.int .i32 old)) l
def tJ:List Item:=(nZ 0 0 false false 0 12 jz []).1.todo
def Rg (Fd:Nat) (aK:Int) (sv aw:Bool) (it x:Int) (j:Nat->Value) (l:List Frame):Frame×List Frame:=aQ PR 300 ((lf tJ (sA (jo Fd aK sv aw it)) j).finish (.int .i32 x)) l
def qp (Fd:Nat) (aK:Int) (sv aw:Bool) (it:Int) (j:Nat->Value) (l:List Frame):Frame×List Frame:=aQ PR 300 ((lf yS (sA (jo Fd aK sv aw it)) j).finish (.tuple #[])) l
def JX:List Item:=(qp 0 0 false false 0 jz []).1.todo
def calm:List Nat:=(List.range 72).filter fun i=>i/4%2==0
def hard:List Nat:=(List.range 72).filter fun i=>i%4==0&&i/4%2==1&&!(i/8==0)
def delta(sv:Bool)(i:Nat):Int:=if sv==false||i/8==1 then-11 else-7
section
variable{Fd:Nat}{aK it T x:Int}{sv aw:Bool}{v8:Value}{j:Nat->Value}{l:List Frame}
theorem Hg:(JW.map fun i:Nat=>look [33,6,0,2,3,4,5] (fA Fd aK sv false it (i:Int) true j l))=JW.map fun i:Nat=>fy l Dj (YM Fd aK sv false it (i:Int)) (some (204,#[ptr Fd,.int .i32 (i:Int),.int .i32 (val {wd i with K:=true})])) none:=by kernel_rfl
theorem Hh:(PV.map fun i:Nat=>look [0,2,3,4,5] (fA Fd aK sv false it (i:Int) true j l))=PV.map fun i:Nat=>toDo l Fd aK sv false it:=by kernel_rfl
theorem Hi:(spins.map fun i:Nat=>look [0,2,3,4,5] (fA Fd aK sv true it (i:Int) true j l))=spins.map fun i:Nat=>toDo l Fd aK sv true it:=by kernel_rfl
theorem Ng:(frs.map fun i:Nat=>look [0,2,3,4,5] (qo Fd aK sv aw it (i:Int) true j l))=frs.map fun i:Nat=>fy l yS (jo Fd aK sv aw it) (some (170,#[])) none:=by kernel_rfl
theorem Nh:(yV.map fun i:Nat=>look [87,0,2,3,4,5] (o9 Fd aK sv aw it (i:Int) j l))=yV.map fun i:Nat=>fy l Dn ((87,.bool (decide (aK=0)))::jo Fd aK sv aw it) none none:=by kernel_rfl
theorem JY:look [8,0,2,3,4,5] (Dp Fd aK sv aw true it v8 j l)=fy l JQ ((8,v8)::jo Fd aK sv aw it) (some (217,#[])) none:=by kernel_rfl
theorem JZ:look [0,2,3,4,5] (Dp Fd aK sv aw false it v8 j l)=fy l yT (jo Fd aK sv aw it) (some (218,#[.pointer (some ⟨Fd,1,none⟩),v8,.int .i64 2])) none:=by kernel_rfl
theorem Ni:look [0,2,3,4,5] (Rb Fd sv aw it T v8 aK j l)=fy l yT (jo Fd T sv aw it) (some (218,#[.pointer (some ⟨Fd,1,none⟩),v8,.int .i64 2])) none:=by kernel_rfl
theorem J0:look [95,0,2,3,4,5] (yW Fd aK false aw it j l)=fy l Dq ((95,.bool false)::jo Fd aK false aw it) (some (217,#[])) none:=by kernel_rfl
theorem J1:look [0,2,3,4,5] (yW Fd aK true aw it j l)=fy l yX (jo Fd aK true aw it) none (some (21,ptr Fd)):=by kernel_rfl
theorem Nj:look [0,2,3,4,5] (Re Fd aK T aw it j l)=fy l yX (jo Fd aK (decide (1000000<IntKind.i64.wrap (T-aK))) aw it) none (some (21,ptr Fd)):=by kernel_rfl
theorem J4:(calm.map fun i:Nat=>look [6,0,2,3,4,5] (nZ Fd aK sv aw it (i:Int) j l))=calm.map fun i:Nat=>fy l xE (JM Fd aK sv true 0 (i:Int)) none none:=by kernel_rfl
theorem Dr:(hard.map fun i:Nat=>look [0,2,3,4,5] (nZ Fd aK false aw it (i:Int) j l))=hard.map fun i:Nat=>fy l tJ (jo Fd aK false aw it) (some (206,#[ptr Fd,.int .i32 (delta false i)])) none:=by kernel_rfl
theorem Ds:(hard.map fun i:Nat=>look [0,2,3,4,5] (nZ Fd aK true aw it (i:Int) j l))=hard.map fun i:Nat=>fy l tJ (jo Fd aK true aw it) (some (206,#[ptr Fd,.int .i32 (delta true i)])) none:=by kernel_rfl
theorem Nk:look [0,2,3,4,5] (Rg Fd aK sv aw it x j l)=fy l yS (jo Fd aK sv aw it) (some (170,#[])) none:=by kernel_rfl
theorem Nl:look [0,2,3,4,5] (qp Fd aK sv aw it j l)=fy l JX (jo Fd aK sv aw it) none none:=by kernel_rfl
end
def unit:Value:=.tuple #[]
section
variable(Fd:Nat)(c:Frame)(cs:List Frame)
def YN:Frame×List Frame:=aQ PR 60 (Frame.enter PR 160 #[ptr Fd] .normal) (c::cs)
def T5:Frame×List Frame:=aQ PR 60 ((YN Fd c cs).1.finish unit) (YN Fd c cs).2
def YO:Frame×List Frame:=aQ PR 60 ((T5 Fd c cs).1.finish (.bool true)) (T5 Fd c cs).2
def YP:Frame×List Frame:=aQ PR 60 ((YO Fd c cs).1.finish unit) (YO Fd c cs).2
def YQ:Frame×List Frame:=aQ PR 60 ((YP Fd c cs).1.finish (ptr Fd)) (YP Fd c cs).2
def Tw:Frame×List Frame:=aQ PR 60 ((T5 Fd c cs).1.finish (.bool false)) (T5 Fd c cs).2
end
section
variable{Fd:Nat}{c:Frame}{cs:List Frame}{aK it:Int}{sv aw:Bool}{j:Nat->Value}{l:List Frame}
theorem la0:ahead (YN Fd c cs).1=some (169,#[]):=by kernel_rfl
theorem la1:ahead (T5 Fd c cs).1=some (204,#[ptr Fd,.int .i32 0,.int .i32 1]):=by kernel_rfl
theorem la2:ahead (YO Fd c cs).1=some (170,#[]):=by kernel_rfl
theorem la3:gU (YP Fd c cs).1=some (253,159,ptr Fd):=by kernel_rfl
theorem la4:ahead (YQ Fd c cs).1=some (182,#[ptr Fd]):=by kernel_rfl
theorem la5:aQ PR 6 ((YQ Fd c cs).1.finish unit) (YQ Fd c cs).2=(c.finish unit,cs):=by kernel_rfl
theorem las:look [0,2,3,4,5] (Tw Fd c cs)=fy (Tw Fd c cs).2 JN (jo Fd 0 false false 0) none (some (21,ptr Fd)):=by kernel_rfl
theorem Nn:gU (qp Fd aK sv aw it j l).1=some (253,159,ptr Fd):=by kernel_rfl
def yY (Fd:Nat) (aK:Int) (sv aw:Bool) (it:Int) (j:Nat->Value) (l:List Frame):Frame×List Frame:=aQ PR 300 ((lf JX (sA (jo Fd aK sv aw it)) j).finish (ptr Fd)) l
def J_:List Item:=(yY 0 0 false false 0 jz []).1.todo
theorem Np:look [0,2,3,4,5] (yY Fd aK sv aw it j l)=fy l J_ (jo Fd aK sv aw it) (some (182,#[ptr Fd])) none:=by kernel_rfl
theorem Rh:aQ PR 9 ((lf J_ (sA (jo Fd aK sv aw it)) j).finish unit) (Tw Fd c cs).2=(c.finish unit,cs):=by kernel_rfl
end
end Ph
namespace Ph
open Conc Ren
inductive lp where
 |st (L:List Nat)
 |a2 (L:List Nat) (c:Nat)
 |a3 (L:List Nat) (c:Nat)
 |a4 (L:List Nat) (c:Nat)
 |go (L:List Nat) (c:Nat)
 |send (L:List Nat) (i:Nat)
 |close (L:List Nat) (j:Nat)
 |kd
 |w1
 |w2 (v:Nat)
 |wx
 |w3
 |w4
 |ke
 |aq
def eH(w:World)(c s:Nat):=w.heap[c]?=some (.chan 0 #[] false s s false)
structure fL where
 n:Nat
 ao:List Nat
def fL.sends(J:fL)(L:List Nat)(i:Nat):lp:=if i<J.ao.length then .send L i else .close L 0
def fL.closes(J:fL)(L:List Nat)(j:Nat):lp:=if j<L.length then .close L j else .kd
def fL.bK(J:fL)(L:List Nat):=if L.length<J.n then .st L else J.sends L 0
namespace Env
def ia(E:Env)(P:Program)(J:fL)(o_:Nat->Goroutine->World->Prop)(Fin:(Nat->Prop)->(Nat->Prop)->Goroutine->World->Prop):Nat->lp->(Nat->Prop)->(Nat->Prop)->Goroutine->World->Prop
 |0,_,_,_,_,_=>True
 |k+1,pc,S,X,g,w=>g.status=.running/\g.offers=none/\match pc with
  |.st L=>∃c,E.gy P true .disable (E.Tree P true (ia E P J o_ Fin k (.a2 L c))) S X g w
  |.a2 L c=>∀w2,az E.U S w w2->E.WgAt w2 L.length 0 0->∃g1 w1 es,stepG P true g w2=.go g1 w1 es/\E.WgAt w1 (L.length+1) 0 0/\Eff E.Wg w2 w1/\EvA E.Wg es/\E.Tree P true (ia E P J o_ Fin k (if L=[]then .a3 L c else .a4 L c)) S X g1 w1
  |.a3 L c=>E.gy P true (.read E.sm) (E.Tree P true (ia E P J o_ Fin k (.a4 L c))) S X g w
  |.a4 L c=>E.gy P true .enable (E.Tree P true (ia E P J o_ Fin k (.go L c))) S X g w
  |.go L c=>S c/\X c/\∀w2,az E.U S w w2->eH w2 c 0/\∃g1 child,stepG P true g w2=.spawn g1 child w2 #[]/\o_ c child w2/\E.Tree P true (ia E P J o_ Fin k (J.bK (L++[c]))) (fun a=>S a/\a≠c) (fun a=>X a/\a≠c) g1 w2
  |.send L i=>∃c x,L[i%J.n]?=some c/\J.ao[i]?=some x/\∃z,(∀w2 s,az E.U S w w2->eH w2 c s->stepG P true g w2=.comm g #[scase c (.int .i64 (x:Int)) z] true .send w2 #[])/\
    ∀w2,az E.U S w w2->E.Tree P true (ia E P J o_ Fin k (J.sends L (i+1))) S X (Go.Conc.served g undef) w2
  |.close L j=>mayWake P g=true/\∃c,L[j]?=some c/\∀w2 s,az E.U S w w2->eH w2 c s->∃g1,g1.status=.running/\stepG P true g w2=.go g1 (w2.setChan c 0 #[] true s s false) (closeEvents c)/\E.Tree P true (ia E P J o_ Fin k (J.closes L (j+1))) S X g1 (w2.setChan c 0 #[] true s s false)
  |.kd=>E.gy P true .disable (E.Tree P true (ia E P J o_ Fin k .w1)) S X g w
  |.w1=>∀w2 v,az E.U S w w2->v<=8->E.WgAt w2 v 0 0->∃g1 es,stepG P true g w2=.go g1 w2 es/\EvA E.Wg es/\(v=0->E.Tree P true (ia E P J o_ Fin k .ke) S X g1 w2)/\(v≠0->E.Tree P true (ia E P J o_ Fin k (.w2 v)) S X g1 w2)
  |.w2 v0=>∀w2 v,az E.U S w w2->v<=8->E.WgAt w2 v 0 0->(v=v0->∃g1 w1 es,stepG P true g w2=.go g1 w1 es/\E.WgAt w1 v 1 0/\Eff E.Wg w2 w1/\EvA E.Wg es/\E.Tree P true (ia E P J o_ Fin k .wx) S X g1 w1)/\
    (v≠v0->∃g1 es,stepG P true g w2=.go g1 w2 es/\EvA E.Wg es/\E.Tree P true (ia E P J o_ Fin k .w1) S X g1 w2)
  |.wx=>E.gy P true (.write E.sm) (E.Tree P true (ia E P J o_ Fin k .w3)) S X g w
  |.w3=>(∀w2 v wt,az E.U S w w2->E.WgAt w2 v wt 0->stepG P true g w2=.go {g with status:=.blocked} w2 #[])/\
    (∀w2,az E.U S w w2->E.WgAt w2 0 0 1->∃g1 w1 es,stepG P true g w2=.go g1 w1 es/\E.WgAt w1 0 0 0/\Eff E.Wg w2 w1/\EvA E.Wg es/\E.Tree P true (ia E P J o_ Fin k .w4) S X g1 w1)
  |.w4=>∀w2,az E.U S w w2->E.WgAt w2 0 0 0->∃g1 es,stepG P true g w2=.go g1 w2 es/\EvA E.Wg es/\E.Tree P true (ia E P J o_ Fin k .ke) S X g1 w2
  |.ke=>E.gy P true .enable (E.Tree P true (ia E P J o_ Fin k .aq)) S X g w
  |.aq=>∀w2,az E.U S w w2->∃g1,stepG P true g w2=.go g1 w2 #[⟨.mark (.acquire E.st),false,true⟩]/\Fin S X g1 w2
end Env
def Down{α:Type}(r:Nat->α->α->Prop)(n:Nat)(y x:Nat->α):=∃i,i<n/\r i (y i) (x i)/\∀k,k<n->k≠i->y k=x k
theorem AY{α:Type}(r:Nat->α->α->Prop):∀n x,(∀i,i<n->Acc (r i) (x i))->Acc (Down r n) x
 |0,x,_=>⟨x,fun y ⟨i,B,_⟩=>by omega⟩
 |n+1,x,h=>by
  have C:=AY r n x fun i B=>h i (by omega);have J:=h n (by omega)
  suffices key:∀x,Acc (Down r n) x->∀a,Acc _ a->∀z:Nat->α,(∀k,k<n->z k=x k)->z n=a->Acc _ z from key x C _ J x (fun _ _=>rfl) rfl
  intro x L;induction L with
  |intro x _ U=>
   intro a F;induction F with
   |intro a K A=>
    intro z I Y;refine⟨z,fun y ⟨i,B,hr,R⟩=>?_⟩;by_cases H:i=n
    ·subst H;rw[Y]at hr;exact A _ hr y (fun k hk=>(R k (by omega) (by omega)).trans (I k hk)) rfl
    ·refine U y ⟨i,by omega,?_,fun k hk D=>(R k (by omega) D).trans (I k hk)⟩ a ⟨a,K⟩ y (fun _ _=>rfl) ((R n (by omega) (by omega)).trans Y);rw[<-I i (by omega)];exact hr
def Reach(P:Program)(F:Machine->Trace->Prop)(m:Machine)(t:Trace):=∃N m' t',runNT P N m t=(.next m',t')/\F m' t'
theorem Reach.here{F:Machine->Trace->Prop}{m:Machine}{t:Trace}(h:F m t):Reach P F m t:=⟨0,m,t,rfl,h⟩
theorem Reach.step{P:Program}{F:Machine->Trace->Prop}{m m1:Machine}{t:Trace}{ops:Array _}(H:stepT P m=(.next m1,ops))(h:Reach P F m1 (t++ops)):Reach P F m t:=by
 obtain⟨N,m',t',Y,K⟩:=h;exact⟨N+1,m',t',by simp[runNT,H];exact Y,K⟩
structure Nd where
 S:Nat->Prop
 X:Nat->Prop
 g:Goroutine
 w:World
def Nx(P:Program)(main:Bool)(U:Nat->Nat->Prop)(D:(Nat->Prop)->(Nat->Prop)->Goroutine->World->Prop)(y x:Nd):=
 ¬D x.S x.X x.g x.w/\∃w2 es,az U x.S x.w w2/\stepG P main x.g w2=.go y.g y.w es/\fj U x.S x.X w2 y.w es y.S y.X
section
variable{P:Program}{main:Bool}{U:Nat->Nat->Prop}{D:(Nat->Prop)->(Nat->Prop)->Goroutine->World->Prop}{S X:Nat->Prop}{g:Goroutine}{w:World}
theorem Tz.acc(h:Tz P main U D S X g w):Acc (Nx P main U D) ⟨S,X,g,w⟩:=by
 induction h with
 |stop hd=>exact⟨_,fun y ⟨Y,_⟩=>absurd hd Y⟩
 |step H ex _ K=>exact⟨_,fun y ⟨_,w2,es,hr,e,hd⟩=>K w2 y.g y.w es y.S y.X hr e hd⟩
theorem Tz.look(h:Tz P main U D S X g w):D S X g w\/(¬D S X g w/\g.status=.running/\∀w2,az U S w w2->∃g1 w1 es S1 X1,stepG P main g w2=.go g1 w1 es/\fj U S X w2 w1 es S1 X1/\Tz P main U D S1 X1 g1 w1):=by
 by_cases Y:D S X g w
 ·simp_all
 ·cases h with
  |stop hd=>exact absurd hd Y
  |step K ex k=>
   refine .inr ⟨Y,K,fun w2 hr=>?_⟩;obtain⟨g1,w1,es,S1,X1,e,hd⟩:=ex w2 hr;exact⟨g1,w1,es,S1,X1,e,hd,k w2 g1 w1 es S1 X1 hr e hd⟩
end
def TN(n:Nat)(s:Nat->Option _)(j:Nat->Value):=((List.range n).map fun i=>(s i).getD (j i)).toArray
def ru(fn:FuncId)(n:Nat)(site:List Item)(s:Nat->Option Value)(j:Nat->Value):Frame:={fn:=fn,tmps:=TN n s j,todo:=site,defers:=[],mode:=.run,kind:=.normal}
structure pY(fn:FuncId)(n:Nat)(site:List Item)(s:Nat->Option Value)(f:Frame):Prop where
 fn:f.fn=fn
 todo:f.todo=site
 defers:f.defers=[]
 mode:f.mode=.run
 kind:f.kind=.normal
 round:f.roundOf=none
 size:f.tmps.size=n
 slot:∀i v,s i=some v->f.tmps.getD i undef=v
theorem pY.eq{fn:FuncId}{n:Nat}{site:List _}{s:Nat->Option _}(h:pY fn n site s f):f=ru fn n site s (fun i=>f.tmps.getD i undef):=by
 obtain⟨fn,tmps,todo,defers,mode,kind,ro⟩:=f;obtain⟨D,R,I,A,U,B,K,H⟩:=h;congr 1;apply Array.ext
 ·simp[TN,K]
 ·intro i Y _;simp[TN,adR,aea,adZ];cases e:s i with
  |none=>simp[adp Y]
  |some v=>
   rw[<-H i v e];simp[adp Y]
def aP(fn:FuncId)(n:Nat)(l:List Frame)(site:List Item)(al:List (Nat×Value))(call:Option (FuncId×Array Value))(load:Option (TypeId×Value)):tC:=⟨l,fn,site,[],.run,.normal,none,n,al.map (·.2),call,load⟩
structure sz(fn:FuncId)(n:Nat)(l:List Frame)(site:List Item)(al:List (Nat×Value))(call:Option (FuncId×Array Value))(load:Option (TypeId×Value))(r:Frame×List Frame):Prop where
 callers:r.2=l
 fr:pY fn n site (sA al) r.1
 call:ahead r.1=call
 load:gS r.1=load
theorem bt{fn:FuncId}{n:Nat}{r:Frame×List _}{l:List _}{site:List _}{al:List _}{call:Option _}{load:Option _}(h:look ks r=aP fn n l site al call load)(hk:al.map (·.1)=ks):sz fn n l site al call load r:=by
 subst hk;simp only[look,aP,tC.mk.injEq,List.map_map]at h;obtain⟨H,D,R,I,A,U,B,C,F,Y,K⟩:=h;exact⟨H,⟨D,R,I,A,U,B,C,ql F⟩,Y,K⟩
end Ph
end
end Go.Proofs.YtdcjnhipenbcfaaGreatDoor
