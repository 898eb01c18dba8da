/-
  Own text. Part 4 of what the claim rests on.
-/
import Derived.Conc.Beside
import Derived.Conc.CrowdComm
import Derived.Laws.Tables
import Derived.Test.YtdcjnhipenbcfaaGreatDoorProg
import Derived.KernelRfl
import Derived.Conc.TokenWalk
import Derived.Conc.CrowdBase
import Derived.Test.YtdcjnhipenbcfaaGreatDoorPk3
set_option linter.unusedVariables false
set_option linter.unusedSectionVars false
set_option linter.unusedSimpArgs false
set_option maxRecDepth 100000
set_option maxHeartbeats 16000000
open Array renaming getElem?_eq_getElem->akb,mem_of_getElem?->akG,getElem?_map->akL
open Bool renaming not_eq_true->akv,false_eq_true->akJ
open Classical renaming choose->akx
open Go.MemAct renaming touch?->ajS,ofEvent->ajT
open Go.MemOp renaming ofEvents->ajU
open Go.World renaming cell?->akn
open List renaming range->aj3,mem_toArray->akq,not_mem_nil->akr,mem_cons->aku,getElem_toArray->akH,getElem_range->akK,count_append->akM,getElem_map->akN,count_cons->akP
open Nat renaming le_refl->ajI,lt_of_lt_of_le->ajM,pos_of_ne_zero->aks,le_trans->akw,lt_or_ge->akI,not_lt_zero->akO
open Option renaming map_eq_some_iff->ako
open Option.some renaming injEq->ajY,inj->akF
namespace Go.Proofs.YtdcjnhipenbcfaaGreatDoor
variable {wg:Addr}{es:Array Event}{cl main said:Bool}{f:Frame}{fn mN:FuncId}{g1:Goroutine}{L ks qM:List Nat}{Tc:Loc->Prop}{B a bl c' eI eP f' i i' k n v v':Nat}{fu1:Nat->Nat}{S S' S1 X X1:Nat->Prop}{eZ:Option Nat}{P:Program}{pos:String}{t:Trace}{w:World}
namespace Ph
open Conc
inductive Xe where
 |at
 |ro
 |pr
 |own (g:Nat)
 |no
def Started(b j g:Nat):=g=0\/(b<=g/\g<b+j)
def Xf(b j:Nat)(mu:Addr)(t:Trace)(i:Nat):Option Nat->Prop
 |some g=>Knows t g i
 |none=>(∀g,Started b j g->Knows t g i)\/∃p,t.act? p=some (.mark (.releaseMerge mu))/\t.heard p/\Before t i p
structure PT(b j:Nat)(mu wg:Addr)(dS:Loc->Prop)(cls:Loc->Xe)(t:Trace)(tok:Option Nat)(rel:Nat->Option Nat):Prop where
 clean:∀said,¬Race said t
 Xg:∀i x,touchAt t i=some x->cls x.loc=.at->x.kind=.atomic\/(x.kind=.said/\Knows t 0 i)\/∀g,Started b j g->Knows t g i
 ro:∀i x,touchAt t i=some x->cls x.loc=.ro->x.write=true->∀g,Started b j g->Knows t g i
 own:∀i x g,touchAt t i=some x->cls x.loc=.own g->Knows t g i
 pr:∀i x,touchAt t i=some x->cls x.loc=.pr->Xf b j mu t i tok
 jn:∀i x,touchAt t i=some x->x.loc.isMemory=true->Knows t 0 i\/(dS x.loc/\x.kind=.atomic/\¬t.counts i)\/∃k z,t[i]?=some z/\z.g=k/\b<=k/\k<b+j/\∀p,rel k=some p->Before t i p
 EU:∀k p,rel k=some p->t.act? p=some (.mark (.releaseMerge wg))/\t.heard p
 norel:NoRelease mu t/\NoRelease wg t
 gs:True
 mem:∀l,l.isMemory=false->cls l=.no
 sh:∀l,cls l=.at->dS l
 yS:0<b
def OkOp(mu wg:Addr)(cls:Loc->Xe)(tok:Option Nat)(g:Nat)(op:MemOp):=
 op.g=g/\op.act≠.mark (.release mu)/\op.act≠.mark (.release wg)/\∀x,op.act.touch?=some x->
  x.loc.isMemory=false\/(cls x.loc=.at/\x.kind=.atomic)\/(cls x.loc=.at/\x.kind=.said/\g=0)\/(cls x.loc=.ro/\x.write=false)\/(cls x.loc=.pr/\tok=some g)\/cls x.loc=.own g
section
variable{b j:Nat}{mu wg:Addr}{dS:Loc->Prop}{cls:Loc->Xe}{t u:Trace}{tok:Option Nat}{rel:Nat->Option Nat}{g:Nat}
theorem Xf.app(h:Xf b j mu t i tok)(u:Trace):Xf b j mu (t++u) i tok:=by
 cases tok with
 |some g=>exact Knows.app u h
 |none=>
  rcases h with h|⟨p,h1,h2,h3⟩
  ·exact .inl fun g hg=>(h g hg).app u
  ·have hp:=lt_of_act? h1;exact .inr ⟨p,by rw[act?_old hp];exact h1,(heard_old hp).2 h2,h3.app u⟩
theorem eB{x:Touch}(h:touchAt (t++u) i=some x):(i<t.size/\touchAt t i=some x)\/(t.size<=i/\∃op,(t++u)[i]?=some op/\op∈u/\op.act.touch?=some x):=by
 obtain⟨op,ho,hx⟩:=touch_of h;rcases getElem?_append_cases ho with⟨hi,ho'⟩|⟨hi,hou⟩
 ·exact .inl ⟨hi,by rw[touchAt_of ho'];exact hx⟩
 ·simp_all
theorem Started.lt(h:Started b j g)(hb:0<b):g<b+j:=by
 rcases h with rfl|h
 ·omega
 ·omega
theorem Ao(h:∀k p,rel k=some p->t.act? p=some (.mark (.releaseMerge wg))/\t.heard p)(u:Trace):∀k p,rel k=some p->(t++u).act? p=some (.mark (.releaseMerge wg))/\(t++u).heard p:=by
 intro k p hk;obtain⟨h1,h2⟩:=h k p hk;have hp:=lt_of_act? h1;exact⟨by rw[act?_old hp];exact h1,(heard_old hp).2 h2⟩
theorem Lr{x:Touch}(hi:i<t.size)(h:Knows t 0 i\/(dS x.loc/\x.kind=.atomic/\¬t.counts i)\/∃k z,t[i]?=some z/\z.g=k/\b<=k/\k<b+j/\∀p,rel k=some p->Before t i p)(u:Trace):
  Knows (t++u) 0 i\/(dS x.loc/\x.kind=.atomic/\¬(t++u).counts i)\/∃k z,(t++u)[i]?=some z/\z.g=k/\b<=k/\k<b+j/\∀p,rel k=some p->Before (t++u) i p:=by
 rcases h with h|⟨h1,h2,h3⟩|⟨k,z,h1,h2,h3,h4,h5⟩
 ·exact .inl (h.app u)
 ·exact .inr (.inl ⟨h1,h2,fun hc=>h3 ((counts_old hi).1 hc)⟩)
 ·exact .inr (.inr ⟨k,z,by rw[getElem?_append_old hi];exact h1,h2,h3,h4,fun p hp=>(h5 p hp).app u⟩)
theorem PT.app(h:PT b j mu wg dS cls t tok rel)(hs:Started b j g)(hu:∀op∈u,OkOp mu wg cls tok g op)
  (hr:g≠0->∀p,rel g=some p->∀i x,t.size<=i->touchAt (t++u) i=some x->x.loc.isMemory=true->dS x.loc/\x.kind=.atomic/\¬(t++u).counts i):PT b j mu wg dS cls (t++u) tok rel:=by
 have new:∀{i:Nat} {x:Touch} {op:MemOp},(t++u)[i]?=some op->op∈u->op.act.touch?=some x->Knows (t++u) g i:=by
  intro i x op h1 h2 h3;have:=knows_own h1
  rwa [(hu op h2).1]at this
 refine⟨fun said=>noRace_append (h.clean said) (fun op bg=>(hu op bg).1) fun i a ha op bg c hc hcf=>?_,fun i x hx hc=>?_,fun i x hx hc hw=>?_,fun i x k hx hc=>?_,fun i x hx hc=>?_,fun i x hx hm=>?_,Ao h.EU u,⟨h.norel.1.app fun op bg=>(hu op bg).2.1,h.norel.2.app fun op bg=>(hu op bg).2.2.1⟩,
  trivial,h.mem,h.sh,h.yS⟩
 ·obtain⟨e1,e2,e3,e4⟩:=hcf;rcases(hu op bg).2.2.2 c hc with hm|⟨fq,hk⟩|⟨fq,hk,h0⟩|⟨fq,hk⟩|⟨fq,hk⟩|fq
  ·rw[e1,hm]at e2;cases e2
  ·rcases h.Xg i a ha (by rw[e1];exact fq)with Xh|⟨Xh,_⟩|Xh
   ·simp_all
   ·simp_all
   ·exact Xh g hs
  ·rcases h.Xg i a ha (by rw[e1];exact fq)with Xh|⟨_,Xh⟩|Xh
   ·rw[Xh,hk]at e4;rcases e4 with x|x|⟨_,x,_⟩<;>cases x
   ·rw[h0];exact Xh
   ·exact Xh g hs
  ·have hw:a.write=true:=by simp_all
   exact h.ro i a ha (by rw[e1];exact fq) hw g hs
  ·have:=h.pr i a ha (by rw[e1];exact fq);rw[hk]at this;exact this
  ·exact h.own i a g ha (by rw[e1];exact fq)
 ·rcases eB hx with⟨hi,oj⟩|⟨hi,op,h1,h2,h3⟩
  ·exact(h.Xg i x oj hc).imp id (Or.imp (fun y=>⟨y.1,y.2.app u⟩) fun y g hg=>(y g hg).app u)
  ·rcases(hu op h2).2.2.2 x h3 with hm|⟨fq,hk⟩|⟨fq,hk,h0⟩|⟨fq,hk⟩|⟨fq,hk⟩|fq
   ·rw[h.mem _ hm]at hc;cases hc
   ·exact .inl hk
   ·simp_all
   ·rw[hc]at fq;cases fq
   ·rw[hc]at fq;cases fq
   ·rw[hc]at fq;cases fq
 ·rcases eB hx with⟨hi,oj⟩|⟨hi,op,h1,h2,h3⟩
  ·exact fun g hg=>(h.ro i x oj hc hw g hg).app u
  ·rcases(hu op h2).2.2.2 x h3 with hm|⟨fq,hk⟩|⟨fq,hk,h0⟩|⟨fq,hk⟩|⟨fq,hk⟩|fq
   ·rw[h.mem _ hm]at hc;cases hc
   ·rw[hc]at fq;cases fq
   ·rw[hc]at fq;cases fq
   ·rw[hk]at hw;cases hw
   ·rw[hc]at fq;cases fq
   ·rw[hc]at fq;cases fq
 ·rcases eB hx with⟨hi,oj⟩|⟨hi,op,h1,h2,h3⟩
  ·exact(h.own i x k oj hc).app u
  ·rcases(hu op h2).2.2.2 x h3 with hm|⟨fq,hk⟩|⟨fq,hk,h0⟩|⟨fq,hk⟩|⟨fq,hk⟩|fq
   ·rw[h.mem _ hm]at hc;cases hc
   ·rw[hc]at fq;cases fq
   ·rw[hc]at fq;cases fq
   ·rw[hc]at fq;cases fq
   ·rw[hc]at fq;cases fq
   ·rw[hc]at fq;cases fq;exact new h1 h2 h3
 ·rcases eB hx with⟨hi,oj⟩|⟨hi,op,h1,h2,h3⟩
  ·exact(h.pr i x oj hc).app u
  ·rcases(hu op h2).2.2.2 x h3 with hm|⟨fq,hk⟩|⟨fq,hk,h0⟩|⟨fq,hk⟩|⟨fq,hk⟩|fq
   ·rw[h.mem _ hm]at hc;cases hc
   ·rw[hc]at fq;cases fq
   ·rw[hc]at fq;cases fq
   ·rw[hc]at fq;cases fq
   ·rw[hk];exact new h1 h2 h3
   ·rw[hc]at fq;cases fq
 ·rcases eB hx with⟨hi,oj⟩|⟨hi,op,h1,h2,h3⟩
  ·exact Lr hi (h.jn i x oj hm) u
  ·rcases hs with h0|⟨hb,hj⟩
   ·have:=new h1 h2 h3;rw[h0]at this;exact .inl this
   ·cases hrel:rel g with
    |some p=>exact .inr (.inl (hr (by have:=h.yS;omega) p hrel i x hi hx hm))
    |none=>exact .inr (.inr ⟨g,op,h1,(hu op h2).1,hb,hj,fun p hp=>by rw[hrel]at hp;cases hp⟩)
theorem ug(h:¬Race said t)(hu:∀op∈u,op.act.touch?=none):¬Race said (t++u):=by
 rintro⟨i,k,vx,⟨x,y,hx,hy,hc⟩,n1,n2⟩;have old:∀{i:Nat} {x:Touch},((t++u).act? i).bind (·.touch?)=some x->i<t.size:=by
  intro i x hx;rcases eB (hx)with⟨hi,_⟩|⟨_,op,_,h2,h3⟩
  ·omega
  ·simp_all
 have hi:=old hx;have hk:=old hy;rw[act?_old hi]at hx;rw[act?_old hk]at hy;exact h ⟨i,k,vx,⟨x,y,hx,hy,hc⟩,fun e=>n1 (hb_app u e),fun e=>n2 (hb_app u e)⟩
theorem PT.still(h:PT b j mu wg dS cls t tok rel)(hu:∀op∈u,op.act.touch?=none/\op.act≠.mark (.release mu)/\op.act≠.mark (.release wg)/\op.g<b+j):PT b j mu wg dS cls (t++u) tok rel:=by
 have old:∀{i:Nat} {x:Touch},touchAt (t++u) i=some x->i<t.size/\touchAt t i=some x:=by
  intro i x hx;rcases eB hx with hi|⟨_,op,_,h2,h3⟩
  ·omega
  ·simp_all
 refine⟨fun said=>ug (h.clean _) fun op bg=>(hu op bg).1,fun i x hx hc=>?_,fun i x hx hc hw g hg=>(h.ro i x (old hx).2 hc hw g hg).app u,fun i x k hx hc=>(h.own i x k (old hx).2 hc).app u,fun i x hx hc=>(h.pr i x (old hx).2 hc).app u,fun i x hx hm=>Lr (old hx).1 (h.jn i x (old hx).2 hm) u,Ao h.EU u,⟨h.norel.1.app fun op bg=>(hu op bg).2.1,h.norel.2.app fun op bg=>(hu op bg).2.2.1⟩,
  trivial,h.mem,h.sh,h.yS⟩
 exact(h.Xg i x (old hx).2 hc).imp id (Or.imp (fun y=>⟨y.1,y.2.app u⟩) fun y g hg=>(y g hg).app u)
theorem PT.fresh(h:PT b j mu wg dS cls t tok rel){Xi:Loc->Xe}(hc:∀i x,touchAt t i=some x->Xi x.loc=cls x.loc)(hm:∀l,l.isMemory=false->Xi l=.no)(ZU:∀l,Xi l=.at->dS l):PT b j mu wg dS Xi t tok rel:=
 ⟨h.clean,fun i x hx e=>h.Xg i x hx (by rw[<-hc i x hx];exact e),fun i x hx e=>h.ro i x hx (by rw[<-hc i x hx];exact e),fun i x g hx e=>h.own i x g hx (by rw[<-hc i x hx];exact e),fun i x hx e=>h.pr i x hx (by rw[<-hc i x hx];exact e),h.jn,h.EU,h.norel,h.gs,hm,ZU,h.yS⟩
theorem g?_of{op:MemOp}(h:t[i]?=some op):t.g? i=some op.g:=by simp[Trace.g?,h]
theorem last_at(t:Trace)(y:MemOp):(t++#[y])[t.size]?=some y:=by simp
theorem jD{y:MemOp}(hd:Deaf t y.g=0):(t++#[y]).heard t.size:=by
 refine⟨y.g,g?_of (last_at t y),?_⟩;rw[deaf_old (ajI _)];exact hd
theorem bL{y:MemOp}{Q:MemOp->Prop}(h:Q y):∀op∈(#[y]),Q op:=by simp_all
theorem PT.lock(h:PT b j mu wg dS cls t none rel)(hs:Started b j g)(hd:Deaf t g=0):PT b j mu wg dS cls (t++#[{g,fn,pos,act:=.mark (.acquire mu)}]) (some g) rel:=by
 have h':=h.still (u:=#[{g,fn,pos,act:=.mark (.acquire mu)}]) (bL ⟨rfl,by simp,by simp,hs.lt h.yS⟩);refine⟨h'.clean,h'.Xg,h'.ro,h'.own,fun i x hx hc=>?_,h'.jn,h'.EU,h'.norel,h'.gs,h'.mem,h'.sh,h'.yS⟩;rcases h'.pr i x hx hc with hk|⟨p,h1,h2,h3⟩
 ·exact hk g hs
 ·have hp:p<t.size:=by
   rcases akI p _ with aV|hge
   ·omega
   ·have e:p=t.size:=by have:=lt_of_act? h1;simp at this;omega
    rw[e,act?_of (last_at t _)]at h1;cases h1
  have hl:=last_at t {g,fn,pos,act:=.mark (.acquire mu)};refine⟨t.size,_,hl,rfl,.inr (h3.hb (.single (.inr ⟨.marked hp (.inr h1) (by rw[act?_of hl]) (fun k _ _=>h'.norel.1 k),h2,jD hd⟩)))⟩
theorem PT.unlock(h:PT b j mu wg dS cls t (some g) rel)(hs:Started b j g)(hd:Deaf t g=0):PT b j mu wg dS cls (t++#[{g,fn,pos,act:=.mark (.releaseMerge mu)}]) none rel:=by
 have h':=h.still (u:=#[{g,fn,pos,act:=.mark (.releaseMerge mu)}]) (bL ⟨rfl,by simp,by simp,hs.lt h.yS⟩);refine⟨h'.clean,h'.Xg,h'.ro,h'.own,fun i x hx hc=>?_,h'.jn,h'.EU,h'.norel,h'.gs,h'.mem,h'.sh,h'.yS⟩;have hl:=last_at t {g,fn,pos,act:=.mark (.releaseMerge mu)};refine .inr ⟨t.size,by rw[act?_of hl],jD hd,?_⟩;rcases eB hx with⟨hi,oj⟩|⟨_,op,_,h2,h3⟩
 ·exact .inr ((h.pr i x oj hc).hb_new (ajI _) hl rfl)
 ·simp at h2;subst h2;cases h3
theorem PT.release(h:PT b j mu wg dS cls t tok rel)(hk:b<=k/\k<b+j)(hd:Deaf t k=0){fZ:Nat->Option Nat}(h1:fZ k=some t.size)(h2:∀i,i≠k->fZ i=rel i):
  PT b j mu wg dS cls (t++#[{g:=k,fn,pos,act:=.mark (.releaseMerge wg)}]) tok fZ:=by
 have h':=h.still (u:=#[{g:=k,fn,pos,act:=.mark (.releaseMerge wg)}]) (bL ⟨rfl,by simp,by simp,hk.2⟩);have hl:=last_at t {g:=k,fn,pos,act:=.mark (.releaseMerge wg)};refine⟨h'.clean,h'.Xg,h'.ro,h'.own,h'.pr,fun i x hx hm=>?_,fun i p hp=>?_,h'.norel,h'.gs,h'.mem,h'.sh,h'.yS⟩
 ·rcases h'.jn i x hx hm with y|y|⟨k',z,e1,e2,e3,e4,e5⟩
  ·exact .inl y
  ·simp_all
  ·refine .inr (.inr ⟨k',z,e1,e2,e3,e4,fun p hp=>?_⟩);by_cases V8:k'=k
   ·subst V8;rw[h1]at hp;cases hp;rcases eB hx with⟨hi,_⟩|⟨_,op,_,q2,q3⟩
    ·exact .inr (hb_po hi e1 hl e2)
    ·simp at q2;subst q2;cases q3
   ·simp_all
 ·by_cases V8:i=k
  ·subst V8;rw[h1]at hp;cases hp;exact⟨by rw[act?_of hl],jD hd⟩
  ·rw[h2 i V8]at hp;exact h'.EU i p hp
theorem PT.fork(h:PT b j mu wg dS cls t tok rel){pos':String}(hd:Deaf t 0=0)(S4:Deaf t (b+j)=0):
  PT b (j+1) mu wg dS cls (t++#[{g:=0,fn,pos,act:=.go (b+j)}]++#[{g:=b+j,fn:=mN,pos:=pos',act:=.start}]) tok rel:=by
 have hb:=h.yS;have h1:=h.still (u:=#[{g:=0,fn,pos,act:=.go (b+j)}]) (bL ⟨rfl,by simp,by simp,by show 0<b+j;omega⟩);have e1:=last_at t {g:=0,fn,pos,act:=.go (b+j)};have s1:(t++#[({g:=0,fn,pos,act:=.go (b+j)}:MemOp)]).size=t.size+1:=by simp
 generalize hU:t++#[({g:=0,fn,pos,act:=.go (b+j)}:MemOp)]=U at *;have e2:=last_at U {g:=b+j,fn:=mN,pos:=pos',act:=.start};have dd:Deaf U (b+j)=0:=by
  rw[<-hU,Deaf_other t (g':=0) (by omega) _ (bL rfl)];exact S4
 have ns:(U++#[{g:=b+j,fn:=mN,pos:=pos',act:=.start}])[t.size]?=some {g:=0,fn,pos,act:=.go (b+j)}:=by rw[getElem?_append_old (by omega)];exact e1
 have ago:HappensBefore (U++#[{g:=b+j,fn:=mN,pos:=pos',act:=.start}]) t.size U.size:=by
  refine .single (.inr ⟨.spawn (child:=b+j) (by rw[act?_of ns]) (by rw[act?_of e2]) (g?_of e2),?_,jD dd⟩);rw[heard_old (by omega),<-hU];exact jD hd
 have kid:∀i,i<t.size->Knows U 0 i->Knows (U++#[{g:=b+j,fn:=mN,pos:=pos',act:=.start}]) (b+j) i:=by
  intro i hi hk;obtain⟨q,z,hq,hz,hbq⟩:=hk;rcases akI q t.size with aV|hge
  ·refine⟨U.size,_,e2,rfl,.inr (.trans ((hbq.app _).hb (hb_po aV (by rw[getElem?_append_old (by omega)];exact hq) ns hz)) ago)⟩
  ·have:q=t.size:=by have:=lt_size_of_getElem? hq;omega
   subst this;rcases hbq with e|hbq
   ·omega
   ·exact⟨U.size,_,e2,rfl,.inr (.trans (hb_app _ hbq) ago)⟩
 have old:∀{i:Nat} {x:Touch},touchAt U i=some x->i<t.size:=by
  intro i x hx;rw[<-hU]at hx;rcases eB hx with⟨hi,_⟩|⟨_,op,_,q2,q3⟩
  ·exact hi
  ·simp at q2;subst q2;cases q3
 have Ta:∀{i:Nat} {x:Touch},touchAt (U++#[{g:=b+j,fn:=mN,pos:=pos',act:=.start}]) i=some x->i<U.size/\touchAt U i=some x:=by
  intro i x hx;rcases eB hx with hi|⟨_,op,_,q2,q3⟩
  ·exact hi
  ·simp at q2;subst q2;cases q3
 have all:∀{i:Nat},i<t.size->(∀g,Started b j g->Knows U g i)->∀g,Started b (j+1) g->Knows (U++#[{g:=b+j,fn:=mN,pos:=pos',act:=.start}]) g i:=by
  intro i hi hk g hg;by_cases e:g=b+j
  ·subst e;exact kid i hi (hk 0 (.inl rfl))
  ·exact(hk g (hg.imp id fun y=>⟨y.1,by omega⟩)).app _
 refine⟨fun said=>ug (h1.clean said) (bL rfl),fun i x hx hc=>?_,fun i x hx hc hw=>?_,fun i x k hx hc=>(h1.own i x k (Ta hx).2 hc).app _,fun i x hx hc=>?_,fun i x hx hm=>?_,Ao h1.EU _,⟨h1.norel.1.app (bL (by simp)),h1.norel.2.app (bL (by simp))⟩,trivial,h1.mem,h1.sh,h1.yS⟩
 ·obtain⟨hi,oj⟩:=Ta hx;exact(h1.Xg i x oj hc).imp id (Or.imp (fun y=>⟨y.1,y.2.app _⟩) (all (old oj)))
 ·obtain⟨hi,oj⟩:=Ta hx;exact all (old oj) (h1.ro i x oj hc hw)
 ·obtain⟨hi,oj⟩:=Ta hx;have:=h1.pr i x oj hc;cases tok with
  |some g=>exact Knows.app _ this
  |none=>
   rcases this with y|⟨p,q1,q2,q3⟩
   ·exact .inl (all (old oj) y)
   ·have hp:=lt_of_act? q1;exact .inr ⟨p,by rw[act?_old hp];exact q1,(heard_old hp).2 q2,q3.app _⟩
 ·obtain⟨hi,oj⟩:=Ta hx;rcases Lr hi (h1.jn i x oj hm) _ with y|y|⟨k,z,q1,q2,q3,q4,q5⟩
  ·exact .inl y
  ·exact .inr (.inl y)
  ·exact .inr (.inr ⟨k,z,q1,q2,q3,by omega,q5⟩)
theorem PT.join(h:PT b j mu wg dS cls t tok rel)(sc:∀k,b<=k->k<b+j->∃p,rel k=some p)(hd:Deaf t 0=0)(Tb:∀op∈t++#[{g:=0,fn,pos,act:=.mark (.acquire wg)}],op.act.low B):
  Past dS B (t++#[{g:=0,fn,pos,act:=.mark (.acquire wg)}]):=by
 have hb:=h.yS;have h':=h.still (u:=#[{g:=0,fn,pos,act:=.mark (.acquire wg)}]) (bL ⟨rfl,by simp,by simp,by show 0<b+j;omega⟩);have hl:=last_at t {g:=0,fn,pos,act:=.mark (.acquire wg)};have known:∀i x,touchAt (t++#[{g:=0,fn,pos,act:=.mark (.acquire wg)}]) i=some x->x.loc.isMemory=true->Knows (t++#[{g:=0,fn,pos,act:=.mark (.acquire wg)}]) 0 i\/(dS x.loc/\x.kind=.atomic/\¬(t++#[({g:=0,fn,pos,act:=.mark (.acquire wg)}:MemOp)]).counts i):=by
  intro i x hx hm;rcases h'.jn i x hx hm with y|y|⟨k,z,e1,e2,e3,e4,e5⟩
  ·simp_all
  ·simp_all
  ·obtain⟨p,hp⟩:=sc k e3 e4;obtain⟨q1,q2⟩:=h.EU k p hp;have BL:=lt_of_act? q1;obtain⟨q3,q4⟩:=h'.EU k p hp;exact .inl ⟨t.size,_,hl,rfl,.inr ((e5 p hp).hb (.single (.inr ⟨.marked BL (.inr q3) (by rw[act?_of hl]) (fun k _ _=>h'.norel.2 k),q4,jD hd⟩)))⟩
 refine⟨h'.clean,fun i x hx hm=>(known i x hx hm).imp id fun y=>⟨y.1,y.2.1⟩,fun i g hg bj hc=>?_,?_,Tb⟩
 ·obtain⟨x,hx,hm,_⟩:=id hc;rcases known i x hx hm with⟨q,z,q1,q2,q3⟩|⟨_,_,y⟩
  ·rcases q3 with rfl|q3
   ·rw[g?_of q1]at hg;simp_all
   ·exact⟨q,by rw[g?_of q1,q2],q3⟩
  ·simp_all
 ·rw[Deaf_push];simpa[deafStep]using hd
theorem PT.init(h:Past Tc B t)(hb:0<b)(h0:∀l,cls l≠.no->¬Tc l)(aJ:∀l g,cls l=.own g->g=0)(dU:∀l,l.isMemory=false->cls l=.no)(ZU:∀l,cls l=.at->dS l)(hS:∀l,Tc l->dS l)
  (hrel:NoRelease mu t/\NoRelease wg t):PT b 0 mu wg dS cls t none (fun _=>none):=by
 have kn:∀i x,touchAt t i=some x->cls x.loc≠.no->Knows t 0 i:=by
  intro i x hx hc;have hm:x.loc.isMemory=true:=by
   cases e:x.loc.isMemory with
   |true=>rfl
   |false=>exact absurd (dU _ e) hc
  rcases h.known i x hx hm with y|y
  ·exact y
  ·simp_all
 have only:∀{g:Nat} {i:Nat},Knows t 0 i->Started b 0 g->Knows t g i:=by
  intro g i hk hg;rcases hg with rfl|hg
  ·omega
  ·omega
 refine⟨h.clean,fun i x hx hc=>.inr (.inr fun g hg=>only (kn i x hx (by rw[hc];simp)) hg),fun i x hx hc hw g hg=>only (kn i x hx (by rw[hc];simp)) hg,fun i x g hx hc=>?_,fun i x hx hc=>.inl fun g hg=>only (kn i x hx (by rw[hc];simp)) hg,fun i x hx hm=>?_,fun k p hp=>by simp at hp,hrel,trivial,dU,ZU,hb⟩
 ·rw[aJ _ _ hc];simp_all
 ·rcases h.known i x hx hm with y|⟨y1,y2⟩
  ·exact .inl y
  ·by_cases hc:t.counts i
   ·obtain⟨z,hz,hzx⟩:=touch_of hx;by_cases nJ:z.g=0
    ·have:=knows_own hz;rw[nJ]at this;exact .inl this
    ·obtain⟨q,hq,hbq⟩:=h.over i z.g (by simp[Trace.g?,hz]) nJ hc;obtain⟨y,hy,hyg⟩:=ako.1 hq;exact .inl ⟨q,y,hy,hyg,.inr hbq⟩
   ·exact .inr (.inl ⟨hS _ y1,y2,hc⟩)
end
end Ph
namespace Lock
structure Word where
 L:Bool
 K:Bool
 S:Bool
 W:Nat
 deriving DecidableEq
def Word.zero:Word:=⟨false,false,false,0⟩
def bn(b:Bool):=if b then 1 else 0
inductive PC where
 |out
 |l0
 |rd (aw sv:Bool) (it:Nat)
 |hw (old:Word) (aw sv:Bool) (it:Nat)
 |c1 (old:Word) (it:Nat)
 |c2 (old:Word) (aw sv:Bool) (it:Nat)
 |s1 (sv:Bool)
 |t2
 |r2 (sv:Bool)
 |a1 (old:Word) (sv:Bool)
 |cr
 |uc (old:Word)
 |ur
 |us
 |uh
def hd(old:Word)(aw sv:Bool)(it:Nat)(kF:Bool):PC:=
 if old.L=true/\old.S=false/\it<4/\kF=true then(if aw=false/\old.K=false/\old.W≠0 then .c1 old it else .rd aw sv (it+1))else .c2 old aw sv it
def hr(m:Word)(aw sv:Bool)(it:Nat):PC:=if m.L=true/\m.S=false then .hw m aw sv it else .c2 m aw sv it
def nw(old:Word)(aw sv:Bool):Word:=
 ⟨if old.S then old.L else true,if aw then false else old.K,old.S||(sv&&old.L),if old.L||old.S then old.W+1 else old.W⟩
def dec(m:Word):PC:=if m.W=0\/m.L=true\/m.K=true\/m.S=true then .out else .uc m
def low(m:Word):={m with L:=false}
inductive Mv:PC->Word->Nat->PC->Word->Nat->Prop where
 |l0y (c:Nat):Mv .l0 .zero c .cr ⟨true,false,false,0⟩ c
 |l0n (m:Word) (c:Nat) (h:m≠.zero):Mv .l0 m c (.rd false false 0) m c
 |rd (m:Word) (c:Nat) (aw sv:Bool) (it:Nat):Mv (.rd aw sv it) m c (hr m aw sv it) m c
 |hw (m old:Word) (c:Nat) (aw sv:Bool) (it:Nat) (kF:Bool):Mv (.hw old aw sv it) m c (hd old aw sv it kF) m c
 |c1y (m:Word) (c:Nat) (it:Nat):Mv (.c1 m it) m c (.rd true false (it+1)) {m with K:=true} c
 |c1n (m old:Word) (c:Nat) (it:Nat) (h:m≠old):Mv (.c1 old it) m c (.rd false false (it+1)) m c
 |c2y (m:Word) (c:Nat) (aw sv:Bool) (it:Nat):Mv (.c2 m aw sv it) m c (if m.L=false/\m.S=false then .cr else .s1 sv) (nw m aw sv) c
 |c2n (m old:Word) (c:Nat) (aw sv:Bool) (it:Nat) (h:m≠old):Mv (.c2 old aw sv it) m c (.rd aw sv it) m c
 |s1a (m:Word) (c:Nat):Mv (.s1 false) m (c+1) .t2 m c
 |s1b (m:Word) (c:Nat):Mv (.s1 true) m (c+1) (.r2 true) m c
 |t2 (m:Word) (c:Nat) (sv:Bool):Mv .t2 m c (.r2 sv) m c
 |r2n (m:Word) (c:Nat) (sv:Bool) (h:m.S=false):Mv (.r2 sv) m c (hr m true sv 0) m c
 |r2s (m:Word) (c:Nat) (sv:Bool) (h:m.S=true):Mv (.r2 sv) m c (.a1 m sv) m c
 |a1 (m old:Word) (c:Nat) (sv:Bool):Mv (.a1 old sv) m c .cr ⟨true,m.K,if sv=false\/old.W=1 then false else m.S,m.W-1⟩ c
 |u0 (m:Word) (c:Nat):Mv .cr m c (if m.S=true then .uh else dec (low m)) (low m) c
 |ucy (m:Word) (c:Nat):Mv (.uc m) m c .us {m with W:=m.W-1,K:=true} c
 |ucn (m old:Word) (c:Nat) (h:m≠old):Mv (.uc old) m c .ur m c
 |ur (m:Word) (c:Nat):Mv .ur m c (dec m) m c
 |us (m:Word) (c:Nat):Mv .us m c .out m (c+1)
 |uh (m:Word) (c:Nat):Mv .uh m c .out m (c+1)
def fE(f:PC->Nat)(bE:Nat->PC)
 |0=>0
 |k+1=>fE f bE k+f (bE k)
def put(bE:Nat->PC)(i:Nat)(p:PC):=fun j=>if j=i then p else bE j
theorem NP(f:PC->Nat)(bE:Nat->PC)(i:Nat)(p:PC):∀n,n<=i->fE f (put bE i p) n=fE f bE n
 |0,_=>rfl
 |n+1,h=>by
  have e:put bE i p n=bE n:=by unfold put;rw[if_neg (by omega)]
  rw[fE,fE,NP f bE i p n (by omega),e]
theorem k_(f:PC->Nat)(bE:Nat->PC)(i:Nat)(p:PC):∀n,i<n->fE f (put bE i p) n+f (bE i)=fE f bE n+f p
 |0,h=>by omega
 |n+1,h=>by
  rw[fE,fE];by_cases hi:i=n
  ·subst hi;have e:put bE i p i=p:=by unfold put;simp_all
   rw[NP f bE i p i (ajI _),e];omega
  ·have:=k_ f bE i p n (by omega);have e:put bE i p n=bE n:=by unfold put;rw[if_neg (by omega)]
   rw[e];omega
theorem eW(f:PC->Nat)(bE:Nat->PC):∀n i,i<n->f (bE i)<=fE f bE n
 |0,i,h=>by omega
 |n+1,i,h=>by
  rw[fE];by_cases hi:i=n
  ·simp_all
  ·have:=eW f bE n i (by omega);omega
theorem EV(f:PC->Nat)(bE:Nat->PC):∀n i j,i<n->j<n->i≠j->f (bE i)+f (bE j)<=fE f bE n
 |0,i,j,h,_,_=>by omega
 |n+1,i,j,h,k,Ro=>by
  rw[fE];by_cases hi:i=n
  ·subst hi;have:=eW f bE i j (by omega);omega
  ·by_cases hj:j=n
   ·subst hj;have:=eW f bE j i (by omega);omega
   ·have:=EV f bE n i j (by omega) (by omega) Ro;omega
theorem NQ(f:PC->Nat)(bE:Nat->PC):∀n,0<fE f bE n->∃i,i<n/\0<f (bE i)
 |0,h=>by simp[fE]at h
 |n+1,h=>by
  rw[fE]at h;by_cases h0:0<f (bE n)
  ·exact⟨n,by omega,h0⟩
  ·obtain⟨i,hi,hf⟩:=NQ f bE n (by omega);exact⟨i,by omega,hf⟩
def qf:PC->Nat|.cr=>1|_=>0
def pO:PC->Nat|.rd aw _ _=>bn aw|.hw _ aw _ _=>bn aw|.c2 _ aw _ _=>bn aw|_=>0
def mR:PC->Nat|.r2 _=>1|.t2=>1|_=>0
def dC:PC->Nat|.a1 .. =>1|_=>0
def pH:PC->Nat|.s1 _=>1|_=>0
def ji:PC->Nat|.uc _=>1|.ur=>1|_=>0
def gm:PC->Nat|.us=>1|_=>0
def iG:PC->Nat|.uh=>1|_=>0
def Ok(m:Word):PC->Prop
 |.rd aw sv it=>(sv=true->aw=true)/\it<=4
 |.hw old aw sv it=>(sv=true->aw=true)/\(aw=true->old.K=true)/\it<=4/\old.L=true/\old.S=false
 |.c1 old it=>old.L=true/\old.S=false/\old.K=false/\0<old.W/\it<4
 |.c2 old aw sv it=>(sv=true->aw=true)/\(aw=true->old.K=true)/\it<=4
 |.a1 old sv=>0<old.W/\old.W<=m.W
 |.uc old=>old.L=false/\old.S=false/\old.K=false/\0<old.W
 |_=>True
structure Inv(bE:Nat->PC)(n:Nat)(m:Word)(c:Nat):Prop where
 ok:∀i,i<n->Ok m (bE i)
 held:fE qf bE n=bn m.L
 calm:m.S=false->bn m.K=fE pO bE n+fE mR bE n+c+fE gm bE n/\fE pH bE n=m.W+c+fE gm bE n/\fE iG bE n=0/\fE dC bE n=0/\(m.L=false->m.K=false->0<m.W->0<fE ji bE n)
 hard:m.S=true->m.K=false/\fE pO bE n=0/\fE gm bE n=0/\bn m.L+fE iG bE n+c+fE mR bE n+fE dC bE n=1/\fE pH bE n+fE mR bE n+fE dC bE n=m.W/\0<m.W
theorem Inv.one{bE:Nat->PC}{m:Word}{c:Nat}(h:Inv bE n m c){j:Nat}(hi:i<n)(hj:j<n)(ei:bE i=.cr)(ej:bE j=.cr):i=j:=by
 by_cases Ro:i=j
 ·omega
 ·have:=EV qf bE n i j hi hj Ro;rw[ei,ej,h.held]at this;have h1:qf .cr=1:=rfl;have:bn m.L<=1:=by unfold bn;split<;>omega
  omega
theorem qg(b:Bool):bn b<=1:=by unfold bn;split<;>omega
theorem Inv.live{bE:Nat->PC}{m:Word}{c:Nat}(h:Inv bE n m c)(hi:i<n){sv:Bool}(ei:bE i=.s1 sv)(hc:c=0):
  ∃j,j<n/\(∀sv,bE j≠.s1 sv)/\bE j≠.out:=by
 have hq:=eW pH bE n i hi;rw[ei]at hq;have h1:pH (.s1 sv)=1:=rfl;have fin:∀f,(∀sv,f (.s1 sv)=0)->f .out=0->0<fE f bE n->∃j,j<n/\(∀sv,bE j≠.s1 sv)/\bE j≠.out:=by
  intro f f1 f2 hp;obtain⟨j,hj,hf⟩:=NQ f bE n hp;refine⟨j,hj,fun sv e=>?_,fun e=>?_⟩
  ·rw[e,f1]at hf;omega
  ·simp_all
 have hH:=h.held;by_cases hL:m.L=true
 ·exact fin qf (fun _=>rfl) rfl (by rw[hH,hL];decide)
 ·rw[akv]at hL;by_cases hS:m.S=true
  ·obtain⟨h2,h3,h4,h5,h6,h7⟩:=h.hard hS;rw[hL]at h5;have hb:bn false=0:=rfl;by_cases hu:0<fE iG bE n
   ·exact fin _ (fun _=>rfl) rfl hu
   ·by_cases hg:0<fE mR bE n
    ·exact fin mR (fun _=>rfl) rfl hg
    ·exact fin dC (fun _=>rfl) rfl (by omega)
  ·rw[akv]at hS;obtain⟨h2,h3,h4,h5,h6⟩:=h.calm hS;by_cases hu:0<fE gm bE n
   ·exact fin _ (fun _=>rfl) rfl hu
   ·by_cases hK:m.K=true
    ·rw[hK]at h2;have hb:bn true=1:=rfl;by_cases hg:0<fE mR bE n
     ·exact fin mR (fun _=>rfl) rfl hg
     ·exact fin pO (fun _=>rfl) rfl (by omega)
    ·rw[akv]at hK;exact fin _ (fun _=>rfl) rfl (h6 hL hK (by omega))
theorem Xj{m m':Word}(h:m.W<=m'.W){p:PC}(k:Ok m p):Ok m' p:=by
 cases p with
 |a1 old sv=>exact⟨k.1,akw k.2 h⟩
 |_=>exact k
theorem eC{bE:Nat->PC}{m m':Word}{c:Nat}{p':PC}(h:Inv bE n m c)(ib:Ok m' p')(hW:m.W<=m'.W\/∀j,j<n->j≠i->dC (bE j)=0):
  ∀j,j<n->Ok m' (put bE i p' j):=by
 intro j hj;unfold put;split
 ·omega
 ·rename_i bj;have k:=h.ok j hj;rcases hW with hW|hW
  ·exact Xj hW k
  ·have:=hW j hj bj;generalize bE j=p at *;cases p with
   |a1 old sv=>simp[dC]at this
   |_=>exact k
theorem Xk{bE:Nat->PC}(h:fE dC bE n=0):∀j,j<n->j≠i->dC (bE j)=0:=fun j hj _=>by
 have:=eW dC bE n j hj;omega
theorem acd{bE:Nat->PC}(hi:i<n)(h:fE dC bE n<=1)(hp:dC (bE i)=1):∀j,j<n->j≠i->dC (bE j)=0:=fun j hj bj=>by
 have:=EV dC bE n i j hi hj (fun e=>bj e.symm);omega
structure anB(bE:Nat->PC)(n i:Nat)(p p':PC):Prop where
 H:fE qf (put bE i p') n+qf p=fE qf bE n+qf p'
 A:fE pO (put bE i p') n+pO p=fE pO bE n+pO p'
 G:fE mR (put bE i p') n+mR p=fE mR bE n+mR p'
 Ga:fE dC (put bE i p') n+dC p=fE dC bE n+dC p'
 Q:fE pH (put bE i p') n+pH p=fE pH bE n+pH p'
 U1:fE ji (put bE i p') n+ji p=fE ji bE n+ji p'
 U2:fE gm (put bE i p') n+gm p=fE gm bE n+gm p'
 U3:fE iG (put bE i p') n+iG p=fE iG bE n+iG p'
 gH:qf p<=fE qf bE n
 gA:pO p<=fE pO bE n
 gG:mR p<=fE mR bE n
 Dj:dC p<=fE dC bE n
 gQ:pH p<=fE pH bE n
 gU1:ji p<=fE ji bE n
 gU2:gm p<=fE gm bE n
 gU3:iG p<=fE iG bE n
theorem pI{bE:Nat->PC}{p:PC}(hi:i<n)(e:bE i=p)(p':PC):anB bE n i p p':=by
 subst e;exact⟨k_ _ _ _ _ _ hi,k_ _ _ _ _ _ hi,k_ _ _ _ _ _ hi,k_ _ _ _ _ _ hi,k_ _ _ _ _ _ hi,k_ _ _ _ _ _ hi,k_ _ _ _ _ _ hi,k_ _ _ _ _ _ hi,
  eW _ _ _ _ hi,eW _ _ _ _ hi,eW _ _ _ _ hi,eW _ _ _ _ hi,eW _ _ _ _ hi,eW _ _ _ _ hi,eW _ _ _ _ hi,eW _ _ _ _ hi⟩
theorem eY{bE:Nat->PC}{m:Word}{c:Nat}{p p':PC}(h:Inv bE n m c)(hi:i<n)(e:bE i=p)(ib:Ok m p')
  (h1:qf p'=qf p)(h2:pO p'=pO p)(h3:mR p'=mR p)(h4:dC p'=dC p)(h5:pH p'=pH p)(h6:ji p'=ji p)(h7:gm p'=gm p)(h8:iG p'=iG p):Inv (put bE i p') n m c:=by
 have s:=pI hi e p';have eH:=s.H;have eA:=s.A;have eG:=s.G;have eGa:=s.Ga;have eQ:=s.Q;have e1:=s.U1;have e2:=s.U2;have e3:=s.U3;refine⟨eC h ib (.inl (ajI _)),?_,fun hS=>?_,fun hS=>?_⟩
 ·have:=h.held;omega
 ·obtain⟨k1,k2,k3,k4,k5⟩:=h.calm hS;simp_all
 ·obtain⟨k1,k2,k3,k4,k5,k6⟩:=h.hard hS;simp_all
theorem Td(m:Word)(aw sv:Bool)(it:Nat)(kF:Bool):qf (hd m aw sv it kF)=0/\pO (hd m aw sv it kF)=bn aw/\mR (hd m aw sv it kF)=0/\dC (hd m aw sv it kF)=0/\pH (hd m aw sv it kF)=0/\ji (hd m aw sv it kF)=0/\gm (hd m aw sv it kF)=0/\iG (hd m aw sv it kF)=0:=by
 unfold hd;split
 ·split
  ·rename_i h;rw[h.1];exact⟨rfl,rfl,rfl,rfl,rfl,rfl,rfl,rfl⟩
  ·exact⟨rfl,rfl,rfl,rfl,rfl,rfl,rfl,rfl⟩
 ·exact⟨rfl,rfl,rfl,rfl,rfl,rfl,rfl,rfl⟩
theorem agr(m:Word)(aw sv:Bool)(it:Nat)(kF:Bool)(h1:sv=true->aw=true)(h2:aw=true->m.K=true)(h3:it<=4):Ok m (hd m aw sv it kF):=by
 unfold hd;split
 ·rename_i h;split
  ·rename_i k;exact⟨h.1,h.2.1,k.2.1,aks k.2.2,h.2.2.1⟩
  ·exact⟨h1,by omega⟩
 ·exact⟨h1,h2,h3⟩
theorem Hq(m:Word)(aw sv:Bool)(it:Nat):qf (hr m aw sv it)=0/\pO (hr m aw sv it)=bn aw/\mR (hr m aw sv it)=0/\dC (hr m aw sv it)=0/\pH (hr m aw sv it)=0/\ji (hr m aw sv it)=0/\gm (hr m aw sv it)=0/\iG (hr m aw sv it)=0:=by
 unfold hr;split<;>exact⟨rfl,rfl,rfl,rfl,rfl,rfl,rfl,rfl⟩
theorem ZV(m:Word)(aw sv:Bool)(it:Nat)(h1:sv=true->aw=true)(h2:aw=true->m.K=true)(h3:it<=4):Ok m (hr m aw sv it):=by
 unfold hr;split
 ·rename_i h;exact⟨h1,h2,h3,h.1,h.2⟩
 ·exact⟨h1,h2,h3⟩
theorem awake{bE:Nat->PC}{m:Word}{c:Nat}{p:PC}(h:Inv bE n m c)(hi:i<n)(e:bE i=p)(hp:0<pO p\/(0<mR p/\m.S=false)):m.K=true/\m.S=false:=by
 have g1:=eW pO bE n i hi;have g2:=eW mR bE n i hi;rw[e]at g1 g2;have hS:m.S=false:=by
  rcases hp with hp|hp
  ·cases hh:m.S with
   |false=>rfl
   |true=>have:=(h.hard hh).2.1;omega
  simp_all
 refine⟨?_,hS⟩;cases hK:m.K with
 |true=>rfl
 |false=>
  have k:=(h.calm hS).1;rw[hK]at k;have:bn false=0:=rfl;omega
def Pre(m:Word):PC->Prop
 |.rd aw _ _=>aw=true->m.K=true
 |.r2 _=>(m.S=true->m.L=false/\m.K=false/\0<m.W)/\(m.S=false->m.K=true)
 |.a1 _ _=>m.L=false/\m.S=true/\0<m.W
 |.cr=>m.L=true
 |_=>True
theorem Inv.pre{bE:Nat->PC}{m:Word}{c:Nat}(h:Inv bE n m c)(hi:i<n):Pre m (bE i):=by
 have gH:=eW qf bE n i hi;have gG:=eW mR bE n i hi;have Dj:=eW dC bE n i hi;have b0:bn false=0:=rfl;have b1:bn true=1:=rfl;cases e:bE i with
 |rd aw sv it=>exact fun ha=>(awake h hi e (.inl (by simp[pO,ha,b1]))).1
 |r2 sv=>
  rw[e]at gG;simp[mR]at gG;refine⟨fun hS=>?_,fun hS=>(awake h hi e (.inr ⟨by simp[mR],hS⟩)).1⟩;obtain⟨k1,k2,k3,k4,k5,k6⟩:=h.hard hS;refine⟨?_,k1,k6⟩;cases hL:m.L with
  |false=>rfl
  |true=>rw[hL]at k4;omega
 |a1 old sv=>
  rw[e]at Dj;simp[dC]at Dj;have hS:m.S=true:=by
   cases hS:m.S with
   |true=>rfl
   |false=>have:=(h.calm hS).2.2.2.1;omega
  obtain⟨k1,k2,k3,k4,k5,k6⟩:=h.hard hS;refine⟨?_,hS,k6⟩;cases hL:m.L with
  |false=>rfl
  |true=>rw[hL]at k4;omega
 |cr=>
  rw[e]at gH;simp[qf]at gH;have:=h.held;show m.L=true
  cases hL:m.L with
  |true=>rfl
  |false=>rw[hL]at this;omega
 |_=>trivial
theorem Inv.step{bE:Nat->PC}{n i:Nat}{m m':Word}{c c':Nat}{p p':PC}(h:Inv bE n m c)(hi:i<n)(e:bE i=p)(hm:Mv p m c p' m' c'):Inv (put bE i p') n m' c':=by
 have ib:=h.ok i hi;rw[e]at ib;have b0:bn false=0:=rfl;have b1:bn true=1:=rfl;cases hm with
 |l0y=>
  have s:=pI hi e .cr;obtain⟨sH,sA,sG,Hr,sQ,s1,s2,s3,gH,gA,gG,Dj,gQ,g1,g2,g3⟩:=s;simp only[qf,pO,mR,dC,pH,ji,gm,iG]at *;obtain⟨k1,k2,k3,k4,k5⟩:=h.calm rfl;have hh:=h.held;simp only[Word.zero]at *;exact⟨eC h trivial (.inl (ajI _)),by simp only;omega,fun _=>⟨by simp only;omega,by simp only;omega,by omega,by omega,fun a=>by simp at a⟩,fun a=>by simp at a⟩
 |l0n _ _ bj=>exact eY h hi e ⟨fun a=>by simp at a,by omega⟩ rfl rfl rfl rfl rfl rfl rfl rfl
 |rd _ _ aw sv it=>
  have EP:aw=true->m.K=true:=fun ha=>(awake h hi e (.inl (by simp[pO,ha,b1]))).1;obtain⟨a1,a2,a3,a4,a5,a6,a7,a8⟩:=Hq m aw sv it;exact eY h hi e (ZV m aw sv it ib.1 EP ib.2) a1 a2 a3 a4 a5 a6 a7 a8
 |hw _ old _ aw sv it kF=>
  obtain⟨a1,a2,a3,a4,a5,a6,a7,a8⟩:=Td old aw sv it kF;have hk:Ok old (hd old aw sv it kF):=agr old aw sv it kF ib.1 ib.2.1 ib.2.2.1;refine eY h hi e ?_ a1 a2 a3 a4 a5 a6 a7 a8;generalize hd old aw sv it kF=p at *;cases p with
  |a1 o s=>simp[dC]at a4
  |_=>exact hk
 |c1y _ _ it=>
  obtain⟨q1,q2,q3,q4,q5⟩:=ib;have s:=pI hi e (.rd true false (it+1));obtain⟨sH,sA,sG,Hr,sQ,s1,s2,s3,gH,gA,gG,Dj,gQ,g1,g2,g3⟩:=s;simp only[qf,pO,mR,dC,pH,ji,gm,iG]at *;obtain⟨k1,k2,k3,k4,k5⟩:=h.calm q2;have hh:=h.held;rw[q3]at k1;exact⟨eC h ⟨fun _=>rfl,by omega⟩ (.inl (ajI _)),by simp only;omega,fun _=>⟨by simp only;omega,by simp only;omega,by omega,by omega,fun a b=>by simp at b⟩,fun a=>by simp only at a;rw[q2]at a;cases a⟩
 |c1n _ _ _ it bj=>exact eY h hi e ⟨fun a=>by simp at a,by have:=ib.2.2.2.2;omega⟩ rfl rfl rfl rfl rfl rfl rfl rfl
 |c2y _ _ aw sv it=>
  obtain⟨q1,q2,q3⟩:=ib;have hA:pO (.c2 m aw sv it)=bn aw:=rfl;cases hL:m.L with
  |false=>
   cases hS:m.S with
   |false=>
    rw[if_pos ⟨rfl,rfl⟩];have s:=pI hi e .cr;obtain⟨sH,sA,sG,Hr,sQ,s1,s2,s3,gH,gA,gG,Dj,gQ,g1,g2,g3⟩:=s;simp only[qf,pO,mR,dC,pH,ji,gm,iG]at *;obtain⟨k1,k2,k3,k4,k5⟩:=h.calm hS;have hh:=h.held;rw[hL]at hh;have en:nw m aw sv=⟨true,if aw then false else m.K,false,m.W⟩:=by unfold nw;rw[hL,hS];simp
    rw[en];refine⟨eC h trivial (.inl (ajI _)),by simp only;omega,fun _=>⟨?_,by simp only;omega,by omega,by omega,fun a=>by simp at a⟩,fun a=>by simp at a⟩;cases aw with
    |false=>simp only[akJ,if_false];omega
    |true=>
     rw[q2 rfl]at k1;simp only[if_true];omega
   |true=>
    rw[if_neg (by simp)];have s:=pI hi e (.s1 sv);obtain⟨sH,sA,sG,Hr,sQ,s1,s2,s3,gH,gA,gG,Dj,gQ,g1,g2,g3⟩:=s;simp only[qf,pO,mR,dC,pH,ji,gm,iG]at *;obtain⟨k1,k2,k3,k4,k5,k6⟩:=h.hard hS;have hh:=h.held;have EP:aw=false:=by
     cases aw with
     |false=>rfl
     |true=>omega
    subst EP;rw[hL]at hh k4;have en:nw m false sv=⟨false,m.K,true,m.W+1⟩:=by unfold nw;rw[hL,hS];simp
    rw[en];exact⟨eC h trivial (.inl (by simp)),by simp only;omega,fun a=>by simp at a,fun _=>⟨k1,by omega,by omega,by simp only;omega,by simp only;omega,by simp⟩⟩
  |true=>
   rw[if_neg (by simp)];have s:=pI hi e (.s1 sv);obtain⟨sH,sA,sG,Hr,sQ,s1,s2,s3,gH,gA,gG,Dj,gQ,g1,g2,g3⟩:=s;simp only[qf,pO,mR,dC,pH,ji,gm,iG]at *;have hh:=h.held;rw[hL]at hh;cases hS:m.S with
   |false=>
    obtain⟨k1,k2,k3,k4,k5⟩:=h.calm hS;cases sv with
    |false=>
     have en:nw m aw false=⟨true,if aw then false else m.K,false,m.W+1⟩:=by unfold nw;rw[hL,hS];simp
     rw[en];refine⟨eC h trivial (.inl (by simp)),by simp only;omega,fun _=>⟨?_,by simp only;omega,by omega,by omega,fun a=>by simp at a⟩,fun a=>by simp at a⟩;cases aw with
     |false=>simp only[akJ,if_false];omega
     |true=>
      rw[q2 rfl]at k1;simp only[if_true];omega
    |true=>
     have EP:=q1 rfl;subst EP;rw[q2 rfl]at k1;have en:nw m true true=⟨true,false,true,m.W+1⟩:=by unfold nw;rw[hL,hS];simp
     rw[en];exact⟨eC h trivial (.inl (by simp)),by simp only;omega,fun a=>by simp at a,fun _=>⟨rfl,by omega,by omega,by simp only;omega,by simp only;omega,by simp⟩⟩
   |true=>
    obtain⟨k1,k2,k3,k4,k5,k6⟩:=h.hard hS;have EP:aw=false:=by
     cases aw with
     |false=>rfl
     |true=>omega
    subst EP;rw[hL]at k4;have en:nw m false sv=⟨true,m.K,true,m.W+1⟩:=by unfold nw;rw[hL,hS];simp
    rw[en];exact⟨eC h trivial (.inl (by simp)),by simp only;omega,fun a=>by simp at a,fun _=>⟨k1,by omega,by omega,by simp only;omega,by simp only;omega,by simp⟩⟩
 |c2n _ _ _ aw sv it bj=>exact eY h hi e ⟨ib.1,ib.2.2⟩ rfl rfl rfl rfl rfl rfl rfl rfl
 |s1a=>
  have s:=pI hi e .t2;obtain⟨sH,sA,sG,Hr,sQ,s1,s2,s3,gH,gA,gG,Dj,gQ,g1,g2,g3⟩:=s;simp only[qf,pO,mR,dC,pH,ji,gm,iG]at *;have hh:=h.held;refine⟨eC h trivial (.inl (ajI _)),by omega,fun hS=>?_,fun hS=>?_⟩
  ·obtain⟨k1,k2,k3,k4,k5⟩:=h.calm hS;exact⟨by omega,by omega,by omega,by omega,fun a b d=>by have:=k5 a b d;omega⟩
  ·obtain⟨k1,k2,k3,k4,k5,k6⟩:=h.hard hS;exact⟨k1,by omega,by omega,by omega,by omega,k6⟩
 |s1b=>
  have s:=pI hi e (.r2 true);obtain⟨sH,sA,sG,Hr,sQ,s1,s2,s3,gH,gA,gG,Dj,gQ,g1,g2,g3⟩:=s;simp only[qf,pO,mR,dC,pH,ji,gm,iG]at *;have hh:=h.held;refine⟨eC h trivial (.inl (ajI _)),by omega,fun hS=>?_,fun hS=>?_⟩
  ·obtain⟨k1,k2,k3,k4,k5⟩:=h.calm hS;exact⟨by omega,by omega,by omega,by omega,fun a b d=>by have:=k5 a b d;omega⟩
  ·obtain⟨k1,k2,k3,k4,k5,k6⟩:=h.hard hS;exact⟨k1,by omega,by omega,by omega,by omega,k6⟩
 |t2 _ _ sv=>exact eY h hi e trivial rfl rfl rfl rfl rfl rfl rfl rfl
 |r2n _ _ sv hS=>
  have ha:=awake h hi e (.inr ⟨by simp[mR],hS⟩);obtain⟨a1,a2,a3,a4,a5,a6,a7,a8⟩:=Hq m true sv 0;have s:=pI hi e (hr m true sv 0);obtain⟨sH,sA,sG,Hr,sQ,s1,s2,s3,gH,gA,gG,Dj,gQ,g1,g2,g3⟩:=s;rw[a1]at sH;rw[a2]at sA;rw[a3]at sG;rw[a4]at Hr;rw[a5]at sQ;rw[a6]at s1;rw[a7]at s2;rw[a8]at s3;simp only[qf,pO,mR,dC,pH,ji,gm,iG]at *;have hh:=h.held;obtain⟨k1,k2,k3,k4,k5⟩:=h.calm hS;exact⟨eC h (ZV m true sv 0 (fun _=>rfl) (fun _=>ha.1) (by omega)) (.inl (ajI _)),by omega,fun _=>⟨by omega,by omega,by omega,by omega,fun a b d=>by have:=k5 a b d;omega⟩,fun a=>by rw[hS]at a;cases a⟩
 |r2s _ _ sv hS=>
  have s:=pI hi e (.a1 m sv);obtain⟨sH,sA,sG,Hr,sQ,s1,s2,s3,gH,gA,gG,Dj,gQ,g1,g2,g3⟩:=s;simp only[qf,pO,mR,dC,pH,ji,gm,iG]at *;have hh:=h.held;obtain⟨k1,k2,k3,k4,k5,k6⟩:=h.hard hS;exact⟨eC h ⟨k6,ajI _⟩ (.inl (ajI _)),by omega,(fun a=>by rw[hS]at a;cases a),fun _=>⟨k1,by omega,by omega,by omega,by omega,k6⟩⟩
 |a1 _ old _ sv=>
  have s:=pI hi e .cr;obtain⟨sH,sA,sG,Hr,sQ,s1,s2,s3,gH,gA,gG,Dj,gQ,g1,g2,g3⟩:=s;simp only[qf,pO,mR,dC,pH,ji,gm,iG]at *;have hh:=h.held;have hS:m.S=true:=by
   cases hS:m.S with
   |true=>rfl
   |false=>have:=(h.calm hS).2.2.2.1;omega
  obtain⟨k1,k2,k3,k4,k5,k6⟩:=h.hard hS;have hL:m.L=false:=by
   cases hL:m.L with
   |false=>rfl
   |true=>rw[hL]at k4;omega
  rw[hL]at k4 hh;have hoW:0<old.W/\old.W<=m.W:=ib;refine⟨eC h trivial (.inr (acd hi (by omega) (by rw[e];rfl))),by simp only;omega,?_,?_⟩
  ·intro Ls;simp only at Ls⊢;rw[k1];exact⟨by omega,by omega,by omega,by omega,fun a=>by simp at a⟩
  ·intro Ls;simp only at Ls⊢;split at Ls
   ·simp at Ls
   ·rename_i bj;have h1:¬old.W=1:=fun x=>bj (.inr x);exact⟨k1,by omega,by omega,by omega,by omega,by omega⟩
 |u0=>
  have hh:=h.held;have l1:bn (low m).L=0:=rfl;have l2:(low m).W=m.W:=rfl;have l3:bn (low m).K=bn m.K:=rfl;have l4:(low m).S=m.S:=rfl;have gH:=eW qf bE n i hi;rw[e]at gH;have hL:m.L=true:=by
   cases hL:m.L with
   |true=>rfl
   |false=>rw[hL]at hh;simp only[qf]at gH;omega
  rw[hL]at hh;cases hS:m.S with
  |true=>
   rw[if_pos rfl];have s:=pI hi e .uh;obtain⟨sH,sA,sG,Hr,sQ,s1,s2,s3,gH,gA,gG,Dj,gQ,g1,g2,g3⟩:=s;simp only[qf,pO,mR,dC,pH,ji,gm,iG]at *;obtain⟨k1,k2,k3,k4,k5,k6⟩:=h.hard hS;rw[hL]at k4;exact⟨eC h trivial (.inl (ajI _)),by omega,(fun a=>by rw[l4,hS]at a;cases a),fun _=>⟨k1,by omega,by omega,by omega,by omega,k6⟩⟩
  |false=>
   rw[if_neg (by simp)];obtain⟨k1,k2,k3,k4,k5⟩:=h.calm hS;by_cases hd:m.W=0\/m.K=true
   ·have ed:dec (low m)=.out:=by
     unfold dec;rw[if_pos];rcases hd with hd|hd
     ·exact .inl hd
     ·exact .inr (.inr (.inl hd))
    rw[ed];have s:=pI hi e .out;obtain⟨sH,sA,sG,Hr,sQ,s1,s2,s3,gH,gA,gG,Dj,gQ,g1,g2,g3⟩:=s;simp only[qf,pO,mR,dC,pH,ji,gm,iG]at *;refine⟨eC h trivial (.inl (ajI _)),by omega,fun _=>⟨by omega,by omega,by omega,by omega,fun _ a b=>?_⟩,fun a=>by rw[l4,hS]at a;cases a⟩;rcases hd with hd|hd
    ·omega
    ·have a':m.K=false:=a;rw[hd]at a';cases a'
   ·have ed:dec (low m)=.uc (low m):=by
     unfold dec;rw[if_neg];rintro(x|x|x|x)
     ·exact hd (.inl x)
     ·simp[low]at x
     ·exact hd (.inr x)
     ·rw[l4,hS]at x;cases x
    rw[ed];have s:=pI hi e (.uc (low m));obtain⟨sH,sA,sG,Hr,sQ,s1,s2,s3,gH,gA,gG,Dj,gQ,g1,g2,g3⟩:=s;simp only[qf,pO,mR,dC,pH,ji,gm,iG]at *;have hK:m.K=false:=by simpa using fun x=>hd (.inr x)
    refine⟨eC h ⟨rfl,hS,hK,aks fun x=>hd (.inl x)⟩ (.inl (ajI _)),by omega,fun _=>⟨by omega,by omega,by omega,by omega,fun _ _ _=>by omega⟩,fun a=>by rw[l4,hS]at a;cases a⟩
 |ucy=>
  obtain⟨q1,q2,q3,q4⟩:=ib;have s:=pI hi e .us;obtain⟨sH,sA,sG,Hr,sQ,s1,s2,s3,gH,gA,gG,Dj,gQ,g1,g2,g3⟩:=s;simp only[qf,pO,mR,dC,pH,ji,gm,iG]at *;have hh:=h.held;obtain⟨k1,k2,k3,k4,k5⟩:=h.calm q2;rw[q3]at k1;exact⟨eC h trivial (.inr (Xk k4)),by simp only;omega,fun _=>⟨by simp only;omega,by simp only;omega,by omega,by omega,fun a b=>by simp at b⟩,fun a=>by simp only at a;rw[q2]at a;cases a⟩
 |ucn _ old _ bj=>exact eY h hi e trivial rfl rfl rfl rfl rfl rfl rfl rfl
 |ur=>
  by_cases hd:m.W=0\/m.L=true\/m.K=true\/m.S=true
  ·have ed:dec m=.out:=if_pos hd;rw[ed];have s:=pI hi e .out;obtain⟨sH,sA,sG,Hr,sQ,s1,s2,s3,gH,gA,gG,Dj,gQ,g1,g2,g3⟩:=s;simp only[qf,pO,mR,dC,pH,ji,gm,iG]at *;have hh:=h.held;refine⟨eC h trivial (.inl (ajI _)),by omega,fun hS=>?_,fun hS=>?_⟩
   ·obtain⟨k1,k2,k3,k4,k5⟩:=h.calm hS;refine⟨by omega,by omega,by omega,by omega,fun a b d=>?_⟩;rcases hd with x|x|x|x
    ·omega
    ·rw[a]at x;cases x
    ·rw[b]at x;cases x
    ·rw[hS]at x;cases x
   ·obtain⟨k1,k2,k3,k4,k5,k6⟩:=h.hard hS;exact⟨k1,by omega,by omega,by omega,by omega,k6⟩
  ·have ed:dec m=.uc m:=if_neg hd;rw[ed];refine eY h hi e ⟨?_,?_,?_,aks fun x=>hd (.inl x)⟩ rfl rfl rfl rfl rfl rfl rfl rfl
   ·simpa using fun x=>hd (.inr (.inl x))
   ·simpa using fun x=>hd (.inr (.inr (.inr x)))
   ·simpa using fun x=>hd (.inr (.inr (.inl x)))
 |us=>
  have s:=pI hi e .out;obtain⟨sH,sA,sG,Hr,sQ,s1,s2,s3,gH,gA,gG,Dj,gQ,g1,g2,g3⟩:=s;simp only[qf,pO,mR,dC,pH,ji,gm,iG]at *;have hh:=h.held;refine⟨eC h trivial (.inl (ajI _)),by omega,fun hS=>?_,fun hS=>?_⟩
  ·obtain⟨k1,k2,k3,k4,k5⟩:=h.calm hS;exact⟨by omega,by omega,by omega,by omega,fun a b d=>by have:=k5 a b d;omega⟩
  ·obtain⟨k1,k2,k3,k4,k5,k6⟩:=h.hard hS;omega
 |uh=>
  have s:=pI hi e .out;obtain⟨sH,sA,sG,Hr,sQ,s1,s2,s3,gH,gA,gG,Dj,gQ,g1,g2,g3⟩:=s;simp only[qf,pO,mR,dC,pH,ji,gm,iG]at *;have hh:=h.held;refine⟨eC h trivial (.inl (ajI _)),by omega,fun hS=>?_,fun hS=>?_⟩
  ·have:=(h.calm hS).2.2.1;omega
  ·obtain⟨k1,k2,k3,k4,k5,k6⟩:=h.hard hS;exact⟨k1,by omega,by omega,by omega,by omega,k6⟩
def dy:PC->Nat
 |.out=>0|.cr=>1|.uc _=>0|.ur=>0|.us=>0|.uh=>0
 |_=>2
def bw:PC->Nat
 |.out=>0|.l0=>6|.rd aw _ _=>5-bn aw|.hw _ aw _ _=>5-bn aw|.c1 .. =>5|.c2 _ aw _ _=>5-bn aw|.s1 _=>0|.t2=>6|.r2 _=>5|.a1 .. =>4|.cr=>0|.uc _=>9|.ur=>9|.us=>8|.uh=>8
def dw(m:Word):PC->Nat
 |.rd _ _ it=>2 *(5-it)
 |.hw old _ _ it=>if old=m then 2 *(5-it)-1 else 2 *(5-it)+2
 |.c1 old it=>if old=m then 0 else 2 *(5-it)-1
 |.c2 old _ _ it=>if old=m then 0 else 2 *(5-it)+1
 |.uc old=>if old=m then 1 else 3
 |.ur=>2
 |_=>0
theorem Xl(m old:Word)(aw sv:Bool)(it:Nat)(kF:Bool)(h:it<=4):dy (hd old aw sv it kF)=2/\bw (hd old aw sv it kF)=5-bn aw/\dw m (hd old aw sv it kF)<dw m (.hw old aw sv it):=by
 unfold hd;split
 ·split
  ·rename_i k2;refine⟨rfl,by rw[k2.1];rfl,?_⟩;simp only[dw];split<;>omega
  ·refine⟨rfl,rfl,?_⟩;simp only[dw];split<;>omega
 ·refine⟨rfl,rfl,?_⟩;simp only[dw];split<;>omega
theorem NR(m:Word)(aw sv:Bool)(it:Nat)(h:it<=4):dy (hr m aw sv it)=2/\bw (hr m aw sv it)=5-bn aw/\dw m (hr m aw sv it)<2 *(5-it):=by
 unfold hr;split
 ·refine⟨rfl,rfl,?_⟩;simp[dw,if_true];omega
 ·refine⟨rfl,rfl,?_⟩;simp[dw,if_true];omega
theorem Mv.down{p p':PC}{m m':Word}{c:Nat}(h:Mv p m c p' m' c')(ib:Ok m p):
  dy p'<dy p\/(dy p'=dy p/\bw p'+7 *c'<bw p+7 *c)\/(dy p'=dy p/\bw p'+7 *c'=bw p+7 *c/\m'=m/\c'=c/\dw m p'<dw m p):=by
 have b0:bn false=0:=rfl;have b1:bn true=1:=rfl;cases h with
 |l0y=>exact .inl (by decide)
 |l0n=>exact .inr (.inl ⟨rfl,by simp only[bw];omega⟩)
 |rd _ _ aw sv it=>
  obtain⟨h1,h2,h3⟩:=NR m aw sv it ib.2;exact .inr (.inr ⟨h1,by rw[h2];rfl,rfl,rfl,h3⟩)
 |hw _ old _ aw sv it kF=>
  obtain⟨h1,h2,h3⟩:=Xl m old aw sv it kF ib.2.2.1;exact .inr (.inr ⟨h1,by rw[h2];rfl,rfl,rfl,h3⟩)
 |c1y _ _ it=>exact .inr (.inl ⟨rfl,by simp only[bw];omega⟩)
 |c1n _ old _ it bj=>
  have:=ib.2.2.2.2;refine .inr (.inr ⟨rfl,by simp only[bw];omega,rfl,rfl,?_⟩);simp only[dw];rw[if_neg (fun e=>bj e.symm)];omega
 |c2y _ _ aw sv it=>
  by_cases hc:m.L=false/\m.S=false
  ·rw[if_pos hc];exact .inl (by simp only[dy];omega)
  ·rw[if_neg hc];refine .inr (.inl ⟨rfl,?_⟩);simp only[bw];have:=qg aw;omega
 |c2n _ old _ aw sv it bj=>
  refine .inr (.inr ⟨rfl,rfl,rfl,rfl,?_⟩);simp only[dw];rw[if_neg (fun e=>bj e.symm)];omega
 |s1a=>exact .inr (.inl ⟨rfl,by simp only[bw];omega⟩)
 |s1b=>exact .inr (.inl ⟨rfl,by simp only[bw];omega⟩)
 |t2=>exact .inr (.inl ⟨rfl,by simp only[bw];omega⟩)
 |r2n _ _ sv hS=>
  obtain⟨h1,h2,h3⟩:=NR m true sv 0 (by omega);exact .inr (.inl ⟨h1,by rw[h2];simp only[bw];omega⟩)
 |r2s=>exact .inr (.inl ⟨rfl,by simp only[bw];omega⟩)
 |a1=>exact .inl (by simp only[dy];omega)
 |u0=>
  refine .inl ?_;split
  ·decide
  ·unfold dec;split<;>(simp only[dy];omega)
 |ucy=>exact .inr (.inl ⟨rfl,by simp only[bw];omega⟩)
 |ucn _ old _ bj=>
  refine .inr (.inr ⟨rfl,rfl,rfl,rfl,?_⟩);simp only[dw];rw[if_neg (fun e=>bj e.symm)];omega
 |ur=>
  unfold dec;split
  ·exact .inr (.inl ⟨rfl,by simp only[bw];omega⟩)
  ·refine .inr (.inr ⟨rfl,rfl,rfl,rfl,?_⟩);simp only[dw,if_true];omega
 |us=>exact .inr (.inl ⟨rfl,by simp only[bw];omega⟩)
 |uh=>exact .inr (.inl ⟨rfl,by simp only[bw];omega⟩)
end Lock
namespace Ph
open Lock (Word bn)
def val(m:Word):Int:=(bn m.L+2 *bn m.K+4 *bn m.S+8 *m.W:Nat)
end Ph
namespace Ph
open Conc Ren
open Lock (Word PC Mv bn)
structure Env where
 Fd:Nat
 Mp:Nat
 Wg:Nat
 tF:TypeId
 tW:TypeId
 zc:Value
 Γ:Type
 upd:Γ->Nat->Γ
 iA:Γ->Option Obj->Prop
namespace Env
variable(E:Env)
abbrev mu:Addr:=⟨E.Fd,0,none⟩
abbrev ms:Addr:=⟨E.Fd,1,none⟩
abbrev st:Addr:=⟨E.Wg,0,none⟩
abbrev sm:Addr:=⟨E.Wg,1,none⟩
def U(a i:Nat):=(a=E.Fd\/a=E.Wg)/\i<2
def MuAt(w:World)(m:Word)(c:Nat):=w.heap[E.Fd]?=some (.cells #[.int .i32 (val m),.int .u32 c,.map (some E.Mp)] E.tF)
def WgAt(w:World)(v wt ws:Nat):Prop:=w.heap[E.Wg]?=some (.cells #[.int .u64 ((v *4294967296+wt:Nat):Int),.int .u32 ws] E.tW)
structure Eff(b:Nat)(w w1:World):Prop where
 heap:∀a,a≠b->w1.heap[a]?=w.heap[a]?
 size:w1.heap.size=w.heap.size
 tape:w1.tape=w.tape
 env:pG w1.os w.os
 output:w1.output=w.output
def EvA(b:Nat)(es:Array _):=(∀e∈es,∃a wr,e=⟨.cell a,wr,true⟩/\a.block=b/\a.off<2/\a.spot=none)\/∃o,o<2/\es=semEvents ⟨b,o,none⟩
inductive vz where
 |recv
 |ld (x:Nat)
 |lk (p:PC) (x:Nat)
 |le (x:Nat)
 |la (x:Nat)
 |ur (x:E.Γ)
 |ud
 |u0
 |un (p:PC)
 |ue
 |wr
variable(P:Program)(main:Bool)
abbrev Tree(D:(Nat->Prop)->(Nat->Prop)->Goroutine->World->Prop):=Tz P main E.U D
def jV(m:Mark)(Nx:(Nat->Prop)->(Nat->Prop)->Goroutine->World->Prop)(S X:Nat->Prop)(g:Goroutine)(w:World):=
 ∀w2,aP E.U S w w2->∃g1,stepG P main g w2=.go g1 w2 #[⟨.mark m,false,true⟩]/\Nx S X g1 w2
def Te(p:PC)(Nx:PC->(Nat->Prop)->(Nat->Prop)->Goroutine->World->Prop)(S X:Nat->Prop)(g:Goroutine)(w:World):=
 ∀w2 m c,aP E.U S w w2->E.MuAt w2 m c->Lock.Ok m p->Lock.Pre m p->m.W<=8->c<=1->
  (∃sv,p=.s1 sv/\c=0/\stepG P main g w2=.go {g with status:=.blocked} w2 #[])\/
  ∃p' m' c' g1 w1 es,Mv p m c p' m' c'/\stepG P main g w2=.go g1 w1 es/\E.MuAt w1 m' c'/\Eff E.Fd w2 w1/\EvA E.Fd es/\(c<c'->mayWake P g=true)/\Nx p' S X g1 w1
def ZW(g:Goroutine):=∃q,QuitsD P q 1 g
def rj(P:Program)(Q:Goroutine->Prop):Nat->Goroutine->Prop
 |0,g=>Q g
 |n+1,g=>g.status=.running/\∃g',(∀w,stepG P false g w=.go g' w #[])/\rj P Q n g'
def DL0(P:Program)(g:Goroutine):=g.status=.running/\mayWake P g=true/\∀w2,E.WgAt w2 0 0 0->∃g1 w1 es,stepG P false g w2=.go g1 w1 es/\E.WgAt w1 0 0 1/\Eff E.Wg w2 w1/\EvA E.Wg es/\ZW P g1
def DL1(P:Program)(g:Goroutine):=g.status=.running/\∀w2,E.WgAt w2 0 1 0->∃g1 w1 es,stepG P false g w2=.go g1 w1 es/\E.WgAt w1 0 0 0/\Eff E.Wg w2 w1/\EvA E.Wg es/\∃n,rj P (E.DL0 P) n g1
def DL2(P:Program)(g:Goroutine):=g.status=.running/\∀w2,E.WgAt w2 0 1 0->∃g1 es,stepG P false g w2=.go g1 w2 es/\EvA E.Wg es/\∃n,rj P (E.DL1 P) n g1
def DL3(P:Program)(g:Goroutine):=g.status=.running/\∀w2 v wt,v<=8->wt<=1->E.WgAt w2 (v+1) wt 0->∃g1 w1 es,stepG P false g w2=.go g1 w1 es/\E.WgAt w1 v wt 0/\Eff E.Wg w2 w1/\EvA E.Wg es/\
    ((v=0/\wt=1->∃n,rj P (E.DL2 P) n g1)/\(¬(v=0/\wt=1)->ZW P g1))
def DL4(P:Program)(g:Goroutine):=g.status=.running/\∃g1,(∀w2,stepG P false g w2=.go g1 w2 #[⟨.mark .disable,false,true⟩])/\∃n,rj P (E.DL3 P) n g1
def EW(P:Program)
 |0=>E.DL0 P
 |1=>E.DL1 P
 |2=>E.DL2 P
 |3=>E.DL3 P
 |_+4=>E.DL4 P
variable{E}in
def behind(p:PC)(x:Nat):E.vz:=match p with
 |.cr=>.le x
 |p=>.lk p x
variable{E}in
def oI(p:PC):E.vz:=match p with
 |.out=>.ue
 |p=>.un p
def eJ(P:Program)(A:(Nat->Prop)->(Nat->Prop)->Goroutine->World->Prop):Nat->E.vz->(Nat->Prop)->(Nat->Prop)->Goroutine->World->Prop
 |_,.recv,S,X,g,w=>A S X g w
 |0,_,_,_,_,_=>True
 |k+1,pc,S,X,g,w=>g.status=.running/\g.offers=none/\match pc with
  |.recv=>True
  |.ld x=>E.jV P false .disable (E.Tree P false (eJ P A k (.lk .l0 x))) S X g w
  |.lk p x=>E.Te P false p (fun p'=>E.Tree P false (eJ P A k (behind p' x))) S X g w
  |.le x=>E.jV P false .enable (E.Tree P false (eJ P A k (.la x))) S X g w
  |.la x=>∀w2 γ,aP E.U S w w2->E.iA γ (w2.heap[E.Mp]?)->∃g1,stepG P false g w2=.go g1 w2 #[⟨.mark (.acquire E.mu),false,true⟩]/\E.Tree P false (eJ P A k (.ur (E.upd γ x))) (fun a=>S a\/a=E.Mp) (fun a=>X a\/a=E.Mp) g1 w2
  |.ur γ=>∀w2,aP E.U S w w2->E.iA γ (w2.heap[E.Mp]?)/\∃g1,stepG P false g w2=.go g1 w2 #[⟨.mark (.releaseMerge E.mu),false,true⟩]/\E.Tree P false (eJ P A k .ud) (fun a=>S a/\a≠E.Mp) (fun a=>X a/\a≠E.Mp) g1 w2
  |.ud=>E.jV P false .disable (E.Tree P false (eJ P A k .u0)) S X g w
  |.u0=>E.Te P false .cr (fun p'=>E.Tree P false (eJ P A k (oI p'))) S X g w
  |.un p=>E.Te P false p (fun p'=>E.Tree P false (eJ P A k (oI p'))) S X g w
  |.ue=>E.jV P false .enable (E.Tree P false (eJ P A k .recv)) S X g w
  |.wr=>∀w2,aP E.U S w w2->∃g1,stepG P false g w2=.go g1 w2 #[⟨.mark (.releaseMerge E.st),false,true⟩]/\∃n,rj P (E.EW P 4) n g1
end Env
namespace Env
variable{E:Env}{w w1 w2:World}{m m':Word}{c c' v wt ws:Nat}{b:Nat}
theorem iS{b:Nat}{x:Value}{cs:Array _}{t:TypeId}{fz:Nat×Nat}(h:w.heap[b]?=some (.cells cs t fz)):(w.setCell ⟨b,i,none⟩ x).heap[b]?=some (.cells (cs.setIfInBounds i x) t fz):=by
 rw[setCell_eq_setRow w b i cs t fz x h];exact setRow_heap w b cs _ t fz h
theorem Eff.refl(b:Nat)(w:World):Eff b w w:=⟨fun _ _=>rfl,rfl,rfl,.refl _,rfl⟩
theorem Eff.set(b i:Nat)(x:Value)(w:World):Eff b w (w.setCell ⟨b,i,none⟩ x):=by
 refine⟨fun a ha=>?_,by simp,rfl,.refl _,rfl⟩;simp[World.setCell];rw[Array.getElem?_modify];rw[if_neg (fun e=>ha e.symm)]
theorem Eff.later(b:Nat)(w:World):Eff b w w.later:=⟨fun _ _=>rfl,rfl,rfl,⟨w.tick,rfl⟩,rfl⟩
theorem Eff.asked(b:Nat)(w:World):Eff b w w.asked:=⟨fun _ _=>rfl,rfl,rfl,.refl _,rfl⟩
theorem MuAt.cell0(h:E.MuAt w m c):w.cell? E.mu=some (.int .i32 (val m)):=by unfold MuAt at h;simp[akn,h]
theorem MuAt.qh(h:E.MuAt w m c):w.cell? E.ms=some (.int .u32 c):=by unfold MuAt at h;simp[akn,h]
theorem MuAt.thaw(h:E.MuAt w m c)(i:Nat):w.frozen? ⟨E.Fd,i,none⟩=false:=by unfold MuAt at h;simp[World.frozen?,h]
theorem MuAt.oJ(h:E.MuAt w m c)(m':Word):E.MuAt (w.setCell E.mu (.int .i32 (val m'))) m' c:=by
 unfold MuAt at h⊢;rw[iS h];simp
theorem MuAt.yT(h:E.MuAt w m c)(c':Nat):E.MuAt (w.setCell E.ms (.int .u32 c')) m c':=by
 unfold MuAt at h⊢;rw[iS h];simp
theorem MuAt.later(h:E.MuAt w m c):E.MuAt w.later m c:=h
theorem MuAt.asked(h:E.MuAt w m c):E.MuAt w.asked m c:=h
theorem WgAt.cell0(h:E.WgAt w v wt ws):w.cell? E.st=some (.int .u64 ((v *4294967296+wt:Nat))):=by unfold WgAt at h;simp[akn,h]
theorem WgAt.qh(h:E.WgAt w v wt ws):w.cell? E.sm=some (.int .u32 ws):=by unfold WgAt at h;simp[akn,h]
theorem WgAt.thaw(h:E.WgAt w v wt ws)(i:Nat):w.frozen? ⟨E.Wg,i,none⟩=false:=by unfold WgAt at h;simp[World.frozen?,h]
theorem WgAt.oJ(h:E.WgAt w v wt ws)(v' eP:Nat):E.WgAt (w.setCell E.st (.int .u64 ((v' *4294967296+eP:Nat)))) v' eP ws:=by
 unfold WgAt at h⊢;rw[iS h];simp
theorem WgAt.yT(h:E.WgAt w v wt ws)(eI:Nat):E.WgAt (w.setCell E.sm (.int .u32 eI)) v wt eI:=by
 unfold WgAt at h⊢;rw[iS h];simp
def Ht(E:Env)(w:World):=∃cs t fz,w.heap[E.Fd]?=some (.cells cs t fz)/\cs.size=3
theorem Ht.rely{S:Nat->Prop}(h:E.Ht w)(hS:S E.Fd)(hr:aP E.U S w w2):E.Ht w2:=by
 obtain⟨cs,t,fz,h1,h2⟩:=h;rcases hr.kept _ hS with e|⟨d,d2,t',fz',_,e1,e2,e3,_⟩
 ·exact⟨cs,t,fz,e.trans h1,h2⟩
 ·rw[h1]at e1;cases e1;exact⟨d2,_,_,e2,e3.trans h2⟩
theorem Ht.cell0(h:E.Ht w):∃v,w.cell? E.mu=some v:=by
 obtain⟨cs,t,fz,h1,h2⟩:=h;exact⟨cs[0],by simp[akn,h1]⟩
def ui(E:Env)(w:World):=∃cs t fz,w.heap[E.Wg]?=some (.cells cs t fz)/\cs.size=2
theorem ui.rely{S:Nat->Prop}(h:E.ui w)(hS:S E.Wg)(hr:aP E.U S w w2):E.ui w2:=by
 obtain⟨cs,t,fz,h1,h2⟩:=h;rcases hr.kept _ hS with e|⟨d,d2,t',fz',_,e1,e2,e3,_⟩
 ·exact⟨cs,t,fz,e.trans h1,h2⟩
 ·rw[h1]at e1;cases e1;exact⟨d2,_,_,e2,e3.trans h2⟩
theorem ui.cell0(h:E.ui w):∃v,w.cell? E.st=some v:=by
 obtain⟨cs,t,fz,h1,h2⟩:=h;exact⟨cs[0],by simp[akn,h1]⟩
theorem ui.qh(h:E.ui w):∃v,w.cell? E.sm=some v:=by
 obtain⟨cs,t,fz,h1,h2⟩:=h;exact⟨cs[1],by simp[akn,h1]⟩
structure Kn(E:Env)(S:Nat->Prop)(Fx:World->Prop):Prop where
 rely:∀{w w2:World},Fx w->aP E.U S w w2->Fx w2
 fd:∀{w:World},Fx w->E.Ht w
 Ap:∀{w w1:World} {m m':Word} {c c':Nat},Fx w->E.MuAt w m c->Eff E.Fd w w1->E.MuAt w1 m' c'->Fx w1
 later:∀{w:World},Fx w->Fx w.later
theorem Dk{U:Nat->Nat->Prop}{w2:World}(h:∀a,S' a->S a)(hr:aP U S w w2):aP U S' w w2:=⟨fun a ha=>hr.kept a (h a ha),hr.grow,hr.env⟩
theorem EvA.nil(b:Nat):EvA b #[]:=.inl fun e he=>by simp_all
theorem EvA.one(b i:Nat)(wr:Bool)(hi:i<2):EvA b #[⟨.cell ⟨b,i,none⟩,wr,true⟩]:=.inl fun e he=>by simp_all
theorem EvA.two(b i:Nat)(hi:i<2):EvA b #[⟨.cell ⟨b,i,none⟩,false,true⟩,⟨.cell ⟨b,i,none⟩,true,true⟩]:=.inl fun e he=>by
 simp at he;rcases he with rfl|rfl
 ·simp_all
 ·simp_all
theorem EvA.sem(b i:Nat)(hi:i<2):EvA b (semEvents ⟨b,i,none⟩):=.inr ⟨i,hi,rfl⟩
end Env
def Aq(P:Program):Nat->Frame->List Frame->Frame×List Frame
 |0,f,l=>(f,l)
 |n+1,f,l=>match f.todo with
  |.inLoop _::_|.code (.loop _)::_=>(J0 P f l).getD (f,l)
  |_=>match J0 P f l with
   |some (f1,l1)=>Aq P n f1 l1
   |none=>(f,l)
theorem Tz.Hu{U:Nat->Nat->Prop}{D:(Nat->Prop)->(Nat->Prop)->Goroutine->World->Prop}:∀n {f:Frame} {l:List _} {w:World},(∀w2,aP U S w w2->Tz P main U D S X (G (Aq P n f l).1 (Aq P n f l).2) w2)->Tz P main U D S X (G f l) w
 |0,f,l,w,h=>h w (.refl _ _ _)
 |n+1,f,l,w,h=>by
  unfold Aq at h;have one:(∀w2,aP U S w w2->Tz P main U D S X (G ((J0 P f l).getD (f,l)).1 ((J0 P f l).getD (f,l)).2) w2)->Tz P main U D S X (G f l) w:=by
   intro h;cases e:J0 P f l with
   |none=>rw[e]at h;exact h w (.refl _ _ _)
   |some x=>
    rw[e]at h;exact Tz.one rfl fun w2 hr=>⟨_,w2,#[],S,X,fX e,aL S X w2,h w2 hr⟩
  split at h
  ·simp_all
  ·simp_all
  ·split at h
   ·rename_i f1 l1 e;refine Tz.one rfl fun w2 hr=>⟨_,w2,#[],S,X,fX e,aL S X w2,Tz.Hu n fun w3 bV=>h w3 (hr.trans bV)⟩
   ·simp_all
def ace(s:Nat->Option _)(j:Nat->Value):=((aj3 139).map fun i=>(s i).getD (j i)).toArray
def lf(site:List Item)(s:Nat->Option Value)(j:Nat->Value):Frame:={fn:=205,tmps:=ace s j,todo:=site,defers:=[],mode:=.run,kind:=.normal}
structure Fr(site:List Item)(s:Nat->Option Value)(f:Frame):Prop where
 fn:f.fn=205
 todo:f.todo=site
 defers:f.defers=[]
 mode:f.mode=.run
 kind:f.kind=.normal
 round:f.roundOf=none
 size:f.tmps.size=139
 slot:∀i v,s i=some v->f.tmps.getD i undef=v
theorem Fr.eq{site:List _}{s:Nat->Option _}(h:Fr site s f):f=lf site s (fun i=>f.tmps.getD i undef):=by
 obtain⟨fn,tmps,todo,defers,mode,kind,ro⟩:=f;obtain⟨h1,h2,h3,h4,h5,h6,h7,h8⟩:=h;congr 1;apply Array.ext
 ·simp[ace,h7]
 ·intro i hi _;simp[ace,akH,akN,akK];cases e:s i with
  |none=>simp[akb hi]
  |some v=>
   rw[<-h8 i v e];simp[akb hi]
def sA(al:List (Nat×Value))(i:Nat):=al.lookup i
structure Ar where
 callers:List Frame
 fn:FuncId
 todo:List Item
 defers:List Deferred
 mode:FrameMode
 kind:CallKind
 round:Option Nat
 size:Nat
 asc:List Value
 call:Option (FuncId×Array Value)
 load:Option (TypeId×Value)
def look(ks:List Nat)(r:Frame×List Frame):Ar:=⟨r.2,r.1.fn,r.1.todo,r.1.defers,r.1.mode,r.1.kind,r.1.roundOf,r.1.tmps.size,ks.map (r.1.tmps.getD · undef),ahead r.1,jC r.1⟩
def iT(l:List Frame)(site:List Item)(al:List (Nat×Value))(call:Option (FuncId×Array Value))(load:Option (TypeId×Value)):Ar:=⟨l,205,site,[],.run,.normal,none,139,al.map (·.2),call,load⟩
theorem wh{al:List _}{g:Nat->Value}(h:al.map (fun x=>g x.1)=al.map (·.2)):∀i v,al.lookup i=some v->g i=v:=by
 induction al with
 |nil=>intro i v e;cases e
 |cons x al ih=>
  obtain⟨k,y⟩:=x;simp only[List.map_cons,List.cons.injEq]at h;intro i v e;rw[List.lookup_cons]at e;by_cases hk:i=k
  ·simp_all
  ·have:(i==k)=false:=by simp_all
   simp_all
structure gn(l:List Frame)(site:List Item)(al:List (Nat×Value))(call:Option (FuncId×Array Value))(load:Option (TypeId×Value))(r:Frame×List Frame):Prop where
 callers:r.2=l
 fr:Fr site (sA al) r.1
 call:ahead r.1=call
 load:jC r.1=load
theorem stands{r:Frame×List _}{l:List _}{site:List _}{al:List _}{call:Option _}{load:Option _}(h:look (al.map (·.1)) r=iT l site al call load):gn l site al call load r:=by
 simp only[look,iT,Ar.mk.injEq,List.map_map]at h;obtain⟨h1,h2,h3,h4,h5,h6,h7,h8,h9,h10,h11⟩:=h;exact⟨h1,⟨h2,h3,h4,h5,h6,h7,h8,wh h9⟩,h10,h11⟩
theorem pP{α β:Type}{xs:List α}{F G:α->β}(h:xs.map F=xs.map G){x:α}(hx:x∈xs):F x=G x:=by simp_all
noncomputable abbrev PR:=Tryz.prog
def nA(Fd:Nat)(bc:Int)(sv aw:Bool)(it:Int):List (Nat×Value):=[(0,.pointer (some ⟨Fd,0,none⟩)),(2,.int .i64 bc),(3,.bool sv),(4,.bool aw),(5,.int .i64 it)]
def Tf(Fd:Nat)(bc:Int)(sv aw:Bool)(it old:Int):=(6,.int .i32 old)::nA Fd bc sv aw it
def ptr(Fd:Nat):Value:=.pointer (some ⟨Fd,0,none⟩)
def jz(i:Nat):=undef
noncomputable def Hv (Fd:Nat) (l:List _):=bD PR 60 (Frame.enter PR 205 #[ptr Fd] .normal) l
noncomputable def Ti:=(Hv 0 []).1.todo
noncomputable def Dm:=(Aq PR 60 ((Hv 0 []).1.finish (.int .i32 0)) []).1.todo
noncomputable def Dn (Fd:Nat) (bc:Int) (sv aw:Bool) (it old:Int) (j:Nat->Value) (l:List _):=bD PR 300 (lf Dm (sA (Tf Fd bc sv aw it old)) j) l
noncomputable def As:=(Dn 0 0 false false 0 1 jz []).1.todo
noncomputable def Lt:=(Dn 0 0 false false 0 0 jz []).1.todo
def alS(Fd:Nat)(bc:Int)(sv aw:Bool)(it old:Int):=(17,.bool true)::Tf Fd bc sv aw it old
noncomputable def iU (Fd:Nat) (bc:Int) (sv aw:Bool) (it old:Int) (b:Bool) (j:Nat->Value) (l:List _):=bD PR 300 ((lf As (sA (alS Fd bc sv aw it old)) j).finish (.bool b)) l
noncomputable def Lu:=(iU 0 0 false false 0 9 true jz []).1.todo
noncomputable def wj:=(iU 0 0 false false 0 1 true jz []).1.todo
def alC(Fd:Nat)(bc:Int)(sv aw:Bool)(it old:Int):=(33,.bool true)::Tf Fd bc sv aw it old
noncomputable def Tj (Fd:Nat) (bc:Int) (sv aw:Bool) (it old:Int) (b:Bool) (j:Nat->Value) (l:List _):=bD PR 300 ((lf Lu (sA (alC Fd bc sv aw it old)) j).finish (.bool b)) l
noncomputable def Tk (Fd:Nat) (bc:Int) (sv aw:Bool) (it:Int) (j:Nat->Value) (l:List _):=bD PR 300 ((lf wj (sA (nA Fd bc sv aw it)) j).finish (.tuple #[])) l
noncomputable def Lv:=(Tk 0 0 false false 0 jz []).1.todo
noncomputable def wq (Fd:Nat) (bc:Int) (sv aw:Bool) (it old:Int) (b:Bool) (j:Nat->Value) (l:List _):=bD PR 300 ((lf Lt (sA (Tf Fd bc sv aw it old)) j).finish (.bool b)) l
noncomputable def EX:=(wq 0 0 false false 0 0 false jz []).1.todo
noncomputable def EY:=(wq 0 0 false false 0 0 true jz []).1.todo
noncomputable def Tl:=(wq 0 0 false false 0 1 true jz []).1.todo
noncomputable def EZ:=(wq 0 1 false false 0 1 true jz []).1.todo
section
variable{Fd:Nat}{bc it old:Int}{sv aw:Bool}{j:Nat->Value}{l:List Frame}
theorem Lw:look [6,0,2,3,4,5] (Aq PR 60 ((lf Ti (sA (nA Fd bc sv aw it)) j).finish (.int .i32 old)) l)=iT l Dm (Tf Fd bc sv aw it old) none none:=by kernel_rfl
theorem Hw:look [6,0,2,3,4,5] (Aq PR 60 ((lf Lv (sA (nA Fd bc sv aw it)) j).finish (.int .i32 old)) l)=iT l Dm (Tf Fd bc sv aw it old) none none:=by kernel_rfl
theorem Hx:look [6,0,2,3,4,5] (Aq PR 60 ((lf EX (sA (nA Fd bc sv aw it)) j).finish (.int .i32 old)) l)=iT l Dm (Tf Fd bc sv aw it old) none none:=by kernel_rfl
def spins:=(aj3 72).filter fun i=>i%2==1&&i/4%2==0
theorem Tm:(spins.map fun i:Nat=>look [17,6,0,2,3,4,5] (Dn Fd bc sv aw it i j l))=spins.map fun i:Nat=>iT l As (alS Fd bc sv aw it (i:Int)) (some (214,#[.int .i64 it])) none:=by kernel_rfl
theorem Xm:look [0,2,3,4,5] (Tk Fd bc sv aw it j l)=iT l Lv (nA Fd bc sv aw (IntKind.i64.wrap (it+1))) none (some (21,ptr Fd)):=by kernel_rfl
theorem Tn:look [0,2,3,4,5] (Tj Fd bc sv aw it old true j l)=iT l wj (nA Fd bc sv true it) (some (215,#[])) none:=by kernel_rfl
theorem Tp:look [0,2,3,4,5] (Tj Fd bc sv aw it old false j l)=iT l wj (nA Fd bc sv aw it) (some (215,#[])) none:=by kernel_rfl
theorem Tq:look [0,2,3,4,5] (wq Fd bc sv aw it old false j l)=iT l EX (nA Fd bc sv aw it) none (some (21,ptr Fd)):=by kernel_rfl
end
def wd(i:Nat):Word:=⟨i%2==1,i/2%2==1,i/4%2==1,i/8⟩
def E0(P:Program)(t:Nat):Nat->Frame->List Frame->Frame×List Frame
 |0,f,l=>(f,l)
 |n+1,f,l=>match f.todo with
  |.code (.cond (.tmp u) _ _)::_=>if u==t then(f,l)else match J0 P f l with
   |some (f1,l1)=>E0 P t n f1 l1
   |none=>(f,l)
  |_=>match J0 P f l with
   |some (f1,l1)=>E0 P t n f1 l1
   |none=>(f,l)
theorem Tz.ZX{U:Nat->Nat->Prop}{D:(Nat->Prop)->(Nat->Prop)->Goroutine->World->Prop}(t:Nat):∀(n:Nat) {f:Frame} {l:List Frame} {w:World},(∀w2,aP U S w w2->Tz P main U D S X (G (E0 P t n f l).1 (E0 P t n f l).2) w2)->Tz P main U D S X (G f l) w
 |0,f,l,w,h=>h w (.refl _ _ _)
 |n+1,f,l,w,h=>by
  unfold E0 at h;have go:(∀w2,aP U S w w2->Tz P main U D S X (G (match J0 P f l with|some (f1,l1)=>E0 P t n f1 l1|none=>(f,l)).1 (match J0 P f l with|some (f1,l1)=>E0 P t n f1 l1|none=>(f,l)).2) w2)->Tz P main U D S X (G f l) w:=by
   intro h;split at h
   ·rename_i f1 l1 e;exact Tz.one rfl fun w2 hr=>⟨_,w2,#[],S,X,fX e,aL S X w2,Tz.ZX t n fun w3 bV=>h w3 (hr.trans bV)⟩
   ·exact h w (.refl _ _ _)
  split at h
  ·split at h
   ·exact h w (.refl _ _ _)
   ·exact go h
  ·exact go h
def Au(aw:Bool):List Nat:=(aj3 72).filter fun i=>!(i%2==1&&i/4%2==0)&&(!aw||i/2%2==1)
def sx(aw:Bool):List Nat:=(aj3 72).filter fun i=>(i%2==1&&i/4%2==0)&&(!aw||i/2%2==1)
noncomputable def toC2 (l:List Frame) (Fd:Nat) (bc:Int) (sv aw:Bool) (it:Int) (i:Nat):Ar:=iT l Lt (Tf Fd bc sv aw it (i:Int)) (some (204,#[ptr Fd,.int .i32 (i:Int),.int .i32 (val (Lock.nw (wd i) aw sv))])) none
section
variable{Fd:Nat}{bc it:Int}{j:Nat->Value}{l:List Frame}
theorem PU:((Au false).map fun i:Nat=>look [6,0,2,3,4,5] (Dn Fd bc false false it (i:Int) j l))=(Au false).map (toC2 l Fd bc false false it):=by kernel_rfl
theorem PV:((Au true).map fun i:Nat=>look [6,0,2,3,4,5] (Dn Fd bc false true it (i:Int) j l))=(Au true).map (toC2 l Fd bc false true it):=by kernel_rfl
theorem PW:((Au true).map fun i:Nat=>look [6,0,2,3,4,5] (Dn Fd bc true true it (i:Int) j l))=(Au true).map (toC2 l Fd bc true true it):=by kernel_rfl
theorem PX:((sx false).map fun i:Nat=>look [6,0,2,3,4,5] (iU Fd bc false false it (i:Int) false j l))=(sx false).map (toC2 l Fd bc false false it):=by kernel_rfl
theorem PY:((sx true).map fun i:Nat=>look [6,0,2,3,4,5] (iU Fd bc false true it (i:Int) false j l))=(sx true).map (toC2 l Fd bc false true it):=by kernel_rfl
theorem PZ:((sx true).map fun i:Nat=>look [6,0,2,3,4,5] (iU Fd bc true true it (i:Int) false j l))=(sx true).map (toC2 l Fd bc true true it):=by kernel_rfl
end
noncomputable def toDo (l:List Frame) (Fd:Nat) (bc:Int) (sv aw:Bool) (it:Int):Ar:=iT l wj (nA Fd bc sv aw it) (some (215,#[])) none
def Ts:List Nat:=(aj3 72).filter fun i=>i%2==1&&i/4%2==0&&i/2%2==0&&!(i/8==0)
def ZY:List Nat:=(aj3 72).filter fun i=>i%2==1&&i/4%2==0&&!(i/2%2==0&&!(i/8==0))
def frs:List Nat:=(aj3 72).filter fun i=>i%2==0&&i/4%2==0
def E1:List Nat:=(aj3 72).filter fun i=>!(i%2==0&&i/4%2==0)
noncomputable def uj (Fd:Nat) (bc:Int) (sv aw:Bool) (it old:Int) (j:Nat->Value) (l:List Frame):Frame×List Frame:=E0 PR 87 300 ((lf Lt (sA (Tf Fd bc sv aw it old)) j).finish (.bool true)) l
noncomputable def Lx:List Item:=(uj 0 0 false false 0 1 jz []).1.todo
noncomputable def Ly (Fd:Nat) (bc:Int) (sv aw b:Bool) (it:Int) (v8:Value) (j:Nat->Value) (l:List Frame):Frame×List Frame:=bD PR 300 (lf Lx (sA ((87,.bool b)::(8,v8)::nA Fd bc sv aw it)) j) l
noncomputable def acf (Fd:Nat) (sv aw:Bool) (it T:Int) (v8:Value) (bc:Int) (j:Nat->Value) (l:List Frame):Frame×List Frame:=bD PR 300 ((lf Tl (sA ((8,v8)::nA Fd bc sv aw it)) j).finish (.int .i64 T)) l
noncomputable def E2 (Fd:Nat) (bc:Int) (sv aw:Bool) (it:Int) (j:Nat->Value) (l:List Frame):Frame×List Frame:=bD PR 300 ((lf EZ (sA (nA Fd bc sv aw it)) j).finish (.tuple #[])) l
noncomputable def Lz:List Item:=(E2 0 0 false false 0 jz []).1.todo
noncomputable def E3:List Item:=(E2 0 0 true false 0 jz []).1.todo
noncomputable def acg (Fd:Nat) (bc T:Int) (aw:Bool) (it:Int) (j:Nat->Value) (l:List Frame):Frame×List Frame:=bD PR 300 ((lf Lz (sA ((95,.bool false)::nA Fd bc false aw it)) j).finish (.int .i64 T)) l
noncomputable def sC (Fd:Nat) (bc:Int) (sv aw:Bool) (it old:Int) (j:Nat->Value) (l:List Frame):Frame×List Frame:=Aq PR 300 ((lf E3 (sA (nA Fd bc sv aw it)) j).finish (.int .i32 old)) l
noncomputable def Av:List Item:=(sC 0 0 false false 0 12 jz []).1.todo
noncomputable def ach (Fd:Nat) (bc:Int) (sv aw:Bool) (it x:Int) (j:Nat->Value) (l:List Frame):Frame×List Frame:=bD PR 300 ((lf Av (sA (nA Fd bc sv aw it)) j).finish (.int .i32 x)) l
noncomputable def wu (Fd:Nat) (bc:Int) (sv aw:Bool) (it:Int) (j:Nat->Value) (l:List Frame):Frame×List Frame:=bD PR 300 ((lf EY (sA (nA Fd bc sv aw it)) j).finish (.tuple #[])) l
noncomputable def Tt:List Item:=(wu 0 0 false false 0 jz []).1.todo
def calm:List Nat:=(aj3 72).filter fun i=>i/4%2==0
def hard:List Nat:=(aj3 72).filter fun i=>i%4==0&&i/4%2==1&&!(i/8==0)
def delta(sv:Bool)(i:Nat):Int:=if sv==false||i/8==1 then-11 else-7
section
variable{Fd:Nat}{bc it T x:Int}{sv aw:Bool}{v8:Value}{j:Nat->Value}{l:List Frame}
theorem P0:(Ts.map fun i:Nat=>look [33,6,0,2,3,4,5] (iU Fd bc sv false it (i:Int) true j l))=Ts.map fun i:Nat=>iT l Lu (alC Fd bc sv false it (i:Int)) (some (204,#[ptr Fd,.int .i32 (i:Int),.int .i32 (val {wd i with K:=true})])) none:=by kernel_rfl
theorem P1:(ZY.map fun i:Nat=>look [0,2,3,4,5] (iU Fd bc sv false it (i:Int) true j l))=ZY.map fun i:Nat=>toDo l Fd bc sv false it:=by kernel_rfl
theorem P2:(spins.map fun i:Nat=>look [0,2,3,4,5] (iU Fd bc sv true it (i:Int) true j l))=spins.map fun i:Nat=>toDo l Fd bc sv true it:=by kernel_rfl
theorem Xn:(frs.map fun i:Nat=>look [0,2,3,4,5] (wq Fd bc sv aw it (i:Int) true j l))=frs.map fun i:Nat=>iT l EY (nA Fd bc sv aw it) (some (170,#[])) none:=by kernel_rfl
theorem Xo:(E1.map fun i:Nat=>look [87,0,2,3,4,5] (uj Fd bc sv aw it (i:Int) j l))=E1.map fun i:Nat=>iT l Lx ((87,.bool (decide (bc=0)))::nA Fd bc sv aw it) none none:=by kernel_rfl
theorem Tu:look [8,0,2,3,4,5] (Ly Fd bc sv aw true it v8 j l)=iT l Tl ((8,v8)::nA Fd bc sv aw it) (some (217,#[])) none:=by kernel_rfl
theorem Tv:look [0,2,3,4,5] (Ly Fd bc sv aw false it v8 j l)=iT l EZ (nA Fd bc sv aw it) (some (218,#[.pointer (some ⟨Fd,1,none⟩),v8,.int .i64 2])) none:=by kernel_rfl
theorem Xp:look [0,2,3,4,5] (acf Fd sv aw it T v8 bc j l)=iT l EZ (nA Fd T sv aw it) (some (218,#[.pointer (some ⟨Fd,1,none⟩),v8,.int .i64 2])) none:=by kernel_rfl
theorem Tw:look [95,0,2,3,4,5] (E2 Fd bc false aw it j l)=iT l Lz ((95,.bool false)::nA Fd bc false aw it) (some (217,#[])) none:=by kernel_rfl
theorem Tx:look [0,2,3,4,5] (E2 Fd bc true aw it j l)=iT l E3 (nA Fd bc true aw it) none (some (21,ptr Fd)):=by kernel_rfl
theorem Xq:look [0,2,3,4,5] (acg Fd bc T aw it j l)=iT l E3 (nA Fd bc (decide (1000000<IntKind.i64.wrap (T-bc))) aw it) none (some (21,ptr Fd)):=by kernel_rfl
theorem Ty:(calm.map fun i:Nat=>look [6,0,2,3,4,5] (sC Fd bc sv aw it (i:Int) j l))=calm.map fun i:Nat=>iT l Dm (Tf Fd bc sv true 0 (i:Int)) none none:=by kernel_rfl
theorem LA:(hard.map fun i:Nat=>look [0,2,3,4,5] (sC Fd bc false aw it (i:Int) j l))=hard.map fun i:Nat=>iT l Av (nA Fd bc false aw it) (some (206,#[ptr Fd,.int .i32 (delta false i)])) none:=by kernel_rfl
theorem LB:(hard.map fun i:Nat=>look [0,2,3,4,5] (sC Fd bc true aw it (i:Int) j l))=hard.map fun i:Nat=>iT l Av (nA Fd bc true aw it) (some (206,#[ptr Fd,.int .i32 (delta true i)])) none:=by kernel_rfl
theorem Xr:look [0,2,3,4,5] (ach Fd bc sv aw it x j l)=iT l EY (nA Fd bc sv aw it) (some (170,#[])) none:=by kernel_rfl
theorem Xs:look [0,2,3,4,5] (wu Fd bc sv aw it j l)=iT l Tt (nA Fd bc sv aw it) none none:=by kernel_rfl
end
def unit:Value:=.tuple #[]
section
variable(Fd:Nat)(c:Frame)(cs:List Frame)
noncomputable def LA0:Frame×List Frame:=bD PR 60 (Frame.enter PR 160 #[ptr Fd] .normal) (c::cs)
noncomputable def LA1:Frame×List Frame:=bD PR 60 ((LA0 Fd c cs).1.finish unit) (LA0 Fd c cs).2
noncomputable def LA2:Frame×List Frame:=bD PR 60 ((LA1 Fd c cs).1.finish (.bool true)) (LA1 Fd c cs).2
noncomputable def LA3:Frame×List Frame:=bD PR 60 ((LA2 Fd c cs).1.finish unit) (LA2 Fd c cs).2
noncomputable def LA4:Frame×List Frame:=bD PR 60 ((LA3 Fd c cs).1.finish (ptr Fd)) (LA3 Fd c cs).2
noncomputable def LAS:Frame×List Frame:=bD PR 60 ((LA1 Fd c cs).1.finish (.bool false)) (LA1 Fd c cs).2
end
section
variable{Fd:Nat}{c:Frame}{cs:List Frame}{bc it:Int}{sv aw:Bool}{j:Nat->Value}{l:List Frame}
theorem la0:ahead (LA0 Fd c cs).1=some (169,#[]):=by kernel_rfl
theorem la1:ahead (LA1 Fd c cs).1=some (204,#[ptr Fd,.int .i32 0,.int .i32 1]):=by kernel_rfl
theorem la2:ahead (LA2 Fd c cs).1=some (170,#[]):=by kernel_rfl
theorem la3:kE (LA3 Fd c cs).1=some (253,159,ptr Fd):=by kernel_rfl
theorem la4:ahead (LA4 Fd c cs).1=some (182,#[ptr Fd]):=by kernel_rfl
theorem la5:bD PR 6 ((LA4 Fd c cs).1.finish unit) (LA4 Fd c cs).2=(c.finish unit,cs):=by kernel_rfl
theorem las:look [0,2,3,4,5] (LAS Fd c cs)=iT (LAS Fd c cs).2 Ti (nA Fd 0 false false 0) none (some (21,ptr Fd)):=by kernel_rfl
theorem Xt:kE (wu Fd bc sv aw it j l).1=some (253,159,ptr Fd):=by kernel_rfl
noncomputable def E4 (Fd:Nat) (bc:Int) (sv aw:Bool) (it:Int) (j:Nat->Value) (l:List Frame):Frame×List Frame:=bD PR 300 ((lf Tt (sA (nA Fd bc sv aw it)) j).finish (ptr Fd)) l
noncomputable def TA:List Item:=(E4 0 0 false false 0 jz []).1.todo
theorem Xu:look [0,2,3,4,5] (E4 Fd bc sv aw it j l)=iT l TA (nA Fd bc sv aw it) (some (182,#[ptr Fd])) none:=by kernel_rfl
theorem aci:bD PR 9 ((lf TA (sA (nA Fd bc sv aw it)) j).finish unit) (LAS Fd c cs).2=(c.finish unit,cs):=by kernel_rfl
end
end Ph
namespace Ph
open Conc Ren
inductive pJ where
 |st (L:List Nat)
 |a2 (L:List Nat) (c:Nat)
 |a3 (L:List Nat) (c:Nat)
 |a4 (L:List Nat) (c:Nat)
 |go (L:List Nat) (c:Nat)
 |send (L:List Nat) (i:Nat)
 |close (L:List Nat) (j:Nat)
 |kd
 |w1
 |w2 (v:Nat)
 |wx
 |w3
 |w4
 |ke
 |aq
def gq(w:World)(c s:Nat):=w.heap[c]?=some (.chan 0 #[] false s s false)
structure jf where
 n:Nat
 ay:List Nat
def jf.sends(J:jf)(L:List Nat)(i:Nat):pJ:=if i<J.ay.length then .send L i else .close L 0
def jf.closes(J:jf)(L:List Nat)(j:Nat):pJ:=if j<L.length then .close L j else .kd
def jf.cE(J:jf)(L:List Nat):=if L.length<J.n then .st L else J.sends L 0
namespace Env
def lh(E:Env)(P:Program)(J:jf)(uk:Nat->Goroutine->World->Prop)(Fin:(Nat->Prop)->(Nat->Prop)->Goroutine->World->Prop):Nat->pJ->(Nat->Prop)->(Nat->Prop)->Goroutine->World->Prop
 |0,_,_,_,_,_=>True
 |k+1,pc,S,X,g,w=>g.status=.running/\g.offers=none/\match pc with
  |.st L=>∃c,E.jV P true .disable (E.Tree P true (lh E P J uk Fin k (.a2 L c))) S X g w
  |.a2 L c=>∀w2,aP E.U S w w2->E.WgAt w2 L.length 0 0->∃g1 w1 es,stepG P true g w2=.go g1 w1 es/\E.WgAt w1 (L.length+1) 0 0/\Eff E.Wg w2 w1/\EvA E.Wg es/\E.Tree P true (lh E P J uk Fin k (if L=[]then .a3 L c else .a4 L c)) S X g1 w1
  |.a3 L c=>E.jV P true (.read E.sm) (E.Tree P true (lh E P J uk Fin k (.a4 L c))) S X g w
  |.a4 L c=>E.jV P true .enable (E.Tree P true (lh E P J uk Fin k (.go L c))) S X g w
  |.go L c=>S c/\X c/\∀w2,aP E.U S w w2->gq w2 c 0/\∃g1 child,stepG P true g w2=.spawn g1 child w2 #[]/\uk c child w2/\E.Tree P true (lh E P J uk Fin k (J.cE (L++[c]))) (fun a=>S a/\a≠c) (fun a=>X a/\a≠c) g1 w2
  |.send L i=>∃c x,L[i%J.n]?=some c/\J.ay[i]?=some x/\∃z,(∀w2 s,aP E.U S w w2->gq w2 c s->stepG P true g w2=.comm g #[scase c (.int .i64 (x:Int)) z] true .send w2 #[])/\
    ∀w2,aP E.U S w w2->E.Tree P true (lh E P J uk Fin k (J.sends L (i+1))) S X (Go.Conc.served g undef) w2
  |.close L j=>mayWake P g=true/\∃c,L[j]?=some c/\∀w2 s,aP E.U S w w2->gq w2 c s->∃g1,g1.status=.running/\stepG P true g w2=.go g1 (w2.setChan c 0 #[] true s s false) (closeEvents c)/\E.Tree P true (lh E P J uk Fin k (J.closes L (j+1))) S X g1 (w2.setChan c 0 #[] true s s false)
  |.kd=>E.jV P true .disable (E.Tree P true (lh E P J uk Fin k .w1)) S X g w
  |.w1=>∀w2 v,aP E.U S w w2->v<=8->E.WgAt w2 v 0 0->∃g1 es,stepG P true g w2=.go g1 w2 es/\EvA E.Wg es/\(v=0->E.Tree P true (lh E P J uk Fin k .ke) S X g1 w2)/\(v≠0->E.Tree P true (lh E P J uk Fin k (.w2 v)) S X g1 w2)
  |.w2 v0=>∀w2 v,aP E.U S w w2->v<=8->E.WgAt w2 v 0 0->(v=v0->∃g1 w1 es,stepG P true g w2=.go g1 w1 es/\E.WgAt w1 v 1 0/\Eff E.Wg w2 w1/\EvA E.Wg es/\E.Tree P true (lh E P J uk Fin k .wx) S X g1 w1)/\
    (v≠v0->∃g1 es,stepG P true g w2=.go g1 w2 es/\EvA E.Wg es/\E.Tree P true (lh E P J uk Fin k .w1) S X g1 w2)
  |.wx=>E.jV P true (.write E.sm) (E.Tree P true (lh E P J uk Fin k .w3)) S X g w
  |.w3=>(∀w2 v wt,aP E.U S w w2->E.WgAt w2 v wt 0->stepG P true g w2=.go {g with status:=.blocked} w2 #[])/\
    (∀w2,aP E.U S w w2->E.WgAt w2 0 0 1->∃g1 w1 es,stepG P true g w2=.go g1 w1 es/\E.WgAt w1 0 0 0/\Eff E.Wg w2 w1/\EvA E.Wg es/\E.Tree P true (lh E P J uk Fin k .w4) S X g1 w1)
  |.w4=>∀w2,aP E.U S w w2->E.WgAt w2 0 0 0->∃g1 es,stepG P true g w2=.go g1 w2 es/\EvA E.Wg es/\E.Tree P true (lh E P J uk Fin k .ke) S X g1 w2
  |.ke=>E.jV P true .enable (E.Tree P true (lh E P J uk Fin k .aq)) S X g w
  |.aq=>∀w2,aP E.U S w w2->∃g1,stepG P true g w2=.go g1 w2 #[⟨.mark (.acquire E.st),false,true⟩]/\Fin S X g1 w2
end Env
def Down{α:Type}(r:Nat->α->α->Prop)(n:Nat)(y x:Nat->α):=∃i,i<n/\r i (y i) (x i)/\∀k,k<n->k≠i->y k=x k
theorem Hy{α:Type}(r:Nat->α->α->Prop):∀n x,(∀i,i<n->Acc (r i) (x i))->Acc (Down r n) x
 |0,x,_=>⟨x,fun y ⟨i,hi,_⟩=>by omega⟩
 |n+1,x,h=>by
  have h0:=Hy r n x fun i hi=>h i (by omega);have hn:=h n (by omega)
  suffices key:∀x,Acc (Down r n) x->∀a,Acc _ a->∀z:Nat->α,(∀k,k<n->z k=x k)->z n=a->Acc _ z from key x h0 _ hn x (fun _ _=>rfl) rfl
  intro x hx;induction hx with
  |intro x _ ihx=>
   intro a ha;induction ha with
   |intro a ha' Rp=>
    intro z hz hza;refine⟨z,fun y ⟨i,hi,hr,ho⟩=>?_⟩;by_cases hin:i=n
    ·subst hin;rw[hza]at hr;exact Rp _ hr y (fun k hk=>(ho k (by omega) (by omega)).trans (hz k hk)) rfl
    ·refine ihx y ⟨i,by omega,?_,fun k hk hki=>(ho k (by omega) hki).trans (hz k hk)⟩ a ⟨a,ha'⟩ y (fun _ _=>rfl) ((ho n (by omega) (by omega)).trans hza);rw[<-hz i (by omega)];exact hr
def Reach(P:Program)(F:Machine->Trace->Prop)(m:Machine)(t:Trace):=∃N m' t',runNT P N m t=(.next m',t')/\F m' t'
theorem Reach.here{F:Machine->Trace->Prop}{m:Machine}(h:F m t):Reach P F m t:=⟨0,m,t,rfl,h⟩
theorem Reach.step{P:Program}{F:Machine->Trace->Prop}{m m1:Machine}{t:Trace}{ops:Array _}(hs:stepT P m=(.next m1,ops))(h:Reach P F m1 (t++ops)):Reach P F m t:=by
 obtain⟨N,m',t',h1,h2⟩:=h;exact⟨N+1,m',t',by simp[runNT,hs];exact h1,h2⟩
structure Nd where
 S:Nat->Prop
 X:Nat->Prop
 g:Goroutine
 w:World
def Nx(P:Program)(main:Bool)(U:Nat->Nat->Prop)(D:(Nat->Prop)->(Nat->Prop)->Goroutine->World->Prop)(y x:Nd):=
 ¬D x.S x.X x.g x.w/\∃w2 es,aP U x.S x.w w2/\stepG P main x.g w2=.go y.g y.w es/\iF U x.S x.X w2 y.w es y.S y.X
section
variable{P:Program}{main:Bool}{U:Nat->Nat->Prop}{D:(Nat->Prop)->(Nat->Prop)->Goroutine->World->Prop}{S X:Nat->Prop}{g:Goroutine}{w:World}
theorem Tz.acc(h:Tz P main U D S X g w):Acc (Nx P main U D) ⟨S,X,g,w⟩:=by
 induction h with
 |stop hd=>exact⟨_,fun y ⟨hn,_⟩=>absurd hd hn⟩
 |step hs ex _ ih=>exact⟨_,fun y ⟨_,w2,es,hr,e,hd⟩=>ih w2 y.g y.w es y.S y.X hr e hd⟩
theorem Tz.look(h:Tz P main U D S X g w):D S X g w\/(¬D S X g w/\g.status=.running/\∀w2,aP U S w w2->∃g1 w1 es S1 X1,stepG P main g w2=.go g1 w1 es/\iF U S X w2 w1 es S1 X1/\Tz P main U D S1 X1 g1 w1):=by
 by_cases hD:D S X g w
 ·simp_all
 ·cases h with
  |stop hd=>exact absurd hd hD
  |step hs ex k=>
   refine .inr ⟨hD,hs,fun w2 hr=>?_⟩;obtain⟨g1,w1,es,S1,X1,e,hd⟩:=ex w2 hr;exact⟨g1,w1,es,S1,X1,e,hd,k w2 g1 w1 es S1 X1 hr e hd⟩
end
def TN(n:Nat)(s:Nat->Option _)(j:Nat->Value):=((aj3 n).map fun i=>(s i).getD (j i)).toArray
def zj(fn:FuncId)(n:Nat)(site:List Item)(s:Nat->Option Value)(j:Nat->Value):Frame:={fn:=fn,tmps:=TN n s j,todo:=site,defers:=[],mode:=.run,kind:=.normal}
structure uo(fn:FuncId)(n:Nat)(site:List Item)(s:Nat->Option Value)(f:Frame):Prop where
 fn:f.fn=fn
 todo:f.todo=site
 defers:f.defers=[]
 mode:f.mode=.run
 kind:f.kind=.normal
 round:f.roundOf=none
 size:f.tmps.size=n
 slot:∀i v,s i=some v->f.tmps.getD i undef=v
theorem uo.eq{site:List _}{s:Nat->Option _}(h:uo fn n site s f):f=zj fn n site s (fun i=>f.tmps.getD i undef):=by
 obtain⟨fn,tmps,todo,defers,mode,kind,ro⟩:=f;obtain⟨h1,h2,h3,h4,h5,h6,h7,h8⟩:=h;congr 1;apply Array.ext
 ·simp[TN,h7]
 ·intro i hi _;simp[TN,akH,akN,akK];cases e:s i with
  |none=>simp[akb hi]
  |some v=>
   rw[<-h8 i v e];simp[akb hi]
def bh(fn:FuncId)(n:Nat)(l:List Frame)(site:List Item)(al:List (Nat×Value))(call:Option (FuncId×Array Value))(load:Option (TypeId×Value)):Ar:=⟨l,fn,site,[],.run,.normal,none,n,al.map (·.2),call,load⟩
structure zk(fn:FuncId)(n:Nat)(l:List Frame)(site:List Item)(al:List (Nat×Value))(call:Option (FuncId×Array Value))(load:Option (TypeId×Value))(r:Frame×List Frame):Prop where
 callers:r.2=l
 fr:uo fn n site (sA al) r.1
 call:ahead r.1=call
 load:jC r.1=load
theorem cm{r:Frame×List _}{l:List _}{site:List _}{al:List _}{call:Option _}{load:Option _}(h:look ks r=bh fn n l site al call load)(hk:al.map (·.1)=ks):zk fn n l site al call load r:=by
 subst hk;simp only[look,bh,Ar.mk.injEq,List.map_map]at h;obtain⟨h1,h2,h3,h4,h5,h6,h7,h8,h9,h10,h11⟩:=h;exact⟨h1,⟨h2,h3,h4,h5,h6,h7,h8,wh h9⟩,h10,h11⟩
end Ph
namespace Ph
open Conc Ren
open Lock (Word PC Mv bn dy bw dw)
open ConcN (sumTo upd sumTo_upd upd_ne upd_same sumTo_congr le_sumTo sumTo_le)
inductive Md where
 |run
 |blk
 |fH
 |rG
 deriving DecidableEq
inductive de(E:Env) where
 |no
 |at(pc:E.vz) (md:Md)
 |dV (i n:Nat)
 |qt (q:Nat)
structure jE(E:Env) where
 j:Nat
 L:List Nat
 ks:Nat->de E
 d:pJ
 dm:Md
 m:Word
 c:Nat
 v:Nat
 wt:Nat
 ws:Nat
 γ:E.Γ
 dn:List Nat
 tok:Option Nat
section
variable{E:Env}
def LC:E.vz->PC
 |.recv=>.out
 |.ld _=>.l0
 |.lk p _=>p
 |.le _=>.cr
 |.la _=>.cr
 |.ur _=>.cr
 |.ud=>.cr
 |.u0=>.cr
 |.un p=>p
 |.ue=>.out
 |.wr=>.out
def lY:de E->PC
 |.at pc _=>LC pc
 |_=>.out
def pw(y:Nat):E.vz->Nat
 |.ld x=>if x=y then 1 else 0
 |.lk _ x=>if x=y then 1 else 0
 |.le x=>if x=y then 1 else 0
 |.la x=>if x=y then 1 else 0
 |_=>0
def px(y:Nat):de E->Nat
 |.at pc _=>pw y pc
 |_=>0
def P3:E.vz->Nat
 |.recv=>7
 |.ld _=>17
 |.lk p _=>14+dy p
 |.le _=>14
 |.la _=>13
 |.ur _=>12
 |.ud=>11
 |.u0=>10
 |.un p=>9+dy p
 |.ue=>8
 |.wr=>6
def Ci:de E->Nat
 |.at pc _=>P3 pc
 |.dV i _=>i+1
 |_=>0
def wv:de E->Nat
 |.dV i _=>if i<=2 then 1 else 0
 |.qt _=>1
 |_=>0
def oK:de E->Nat
 |.dV i _=>if i=1\/i=2 then 1 else 0
 |_=>0
def py:de E->Nat
 |.dV i _=>if i=0 then 1 else 0
 |_=>0
def Gone:de E->Prop
 |.at .wr _=>True
 |.at .recv .rG=>True
 |.dV _ _=>True
 |.qt _=>True
 |_=>False
def ye:E.vz->Nat
 |.lk _ _=>1
 |.le _=>1
 |.u0=>1
 |.un _=>1
 |.ue=>1
 |_=>0
def Hz:de E->Nat
 |.at pc _=>ye pc
 |.dV i _=>if i<=3 then 1 else 0
 |_=>0
end
def mT:pJ->Nat
 |.a2 _ _=>1
 |.a3 _ _=>1
 |.a4 _ _=>1
 |.w1=>1
 |.w2 _=>1
 |.wx=>1
 |.w3=>1
 |.w4=>1
 |.ke=>1
 |_=>0
def iV:pJ->Nat
 |.a3 _ _=>1
 |.a4 _ _=>1
 |.go _ _=>1
 |_=>0
def rH(J:jf):pJ->Nat
 |.st _=>0
 |.a2 _ _=>0
 |.a3 _ _=>0
 |.a4 _ _=>0
 |.go _ _=>0
 |.send _ i=>i
 |_=>J.ay.length
def aU(J:jf):pJ->Nat
 |.st _=>0
 |.a2 _ _=>0
 |.a3 _ _=>0
 |.a4 _ _=>0
 |.go _ _=>0
 |.send _ _=>0
 |.close _ i=>i
 |_=>J.n
def jg(J:jf)(v:Nat):pJ->Nat
 |.st L=>60+20 *J.ay.length+20 *(J.n-L.length)
 |.a2 L _=>59+20 *J.ay.length+20 *(J.n-L.length)
 |.a3 L _=>58+20 *J.ay.length+20 *(J.n-L.length)
 |.a4 L _=>57+20 *J.ay.length+20 *(J.n-L.length)
 |.go L _=>56+20 *J.ay.length+20 *(J.n-L.length)
 |.send _ i=>40+20 *(J.ay.length-i)
 |.close _ i=>25+(J.n-i)
 |.kd=>24
 |.w1=>7+2 *v
 |.w2 v0=>6+2 *v0
 |.wx=>5
 |.w3=>4
 |.w4=>3
 |.ke=>2
 |.aq=>1
def wy:pJ->Prop
 |.wx=>True
 |.w3=>True
 |_=>False
def Dp:pJ->Prop
 |.w4=>True
 |.ke=>True
 |.aq=>True
 |_=>False
def DOk(J:jf)(L0:List Nat)(j:Nat):pJ->Prop
 |.st L=>L=L0/\j<J.n
 |.a2 L _=>L=L0/\j<J.n
 |.a3 L _=>L=L0/\j<J.n
 |.a4 L _=>L=L0/\j<J.n
 |.go L _=>L=L0/\j<J.n
 |.send L i=>L=L0/\j=J.n/\i<J.ay.length
 |.close L i=>L=L0/\j=J.n/\i<J.n
 |_=>j=J.n
def E5(d:pJ)(v wt ws e2 e0:Nat):=
 (wt=0/\ws=0/\e2=0/\e0=0/\¬wy d/\(Dp d->v=0))\/
 (wy d/\((wt=1/\ws=0/\0<v/\e2=0/\e0=0)\/(wt=1/\ws=0/\v=0/\e2=1/\e0=0)\/(wt=0/\ws=0/\v=0/\e2=0/\e0=1)\/(wt=0/\ws=1/\v=0/\e2=0/\e0=0)))
section
variable{E:Env}
structure CI(J:jf)(cO:E.Γ)(C:jE E):Prop where
 jn:C.j<=J.n
 len:C.L.length=C.j
 nod:C.L.Nodup
 no:∀k,C.j<=k->C.ks k=.no
 yes:∀k,k<C.j->C.ks k≠.no
 lock:Lock.Inv (fun k=>lY (C.ks k)) J.n C.m C.c
 Aw:∀k,C.tok=some k->∃md,C.ks k=.at (.ur C.γ) md
 LD:∀k γ md,C.ks k=.at (.ur γ) md->C.tok=some k
 md:∀k pc md,C.ks k=.at pc md->(md=.blk->∃sv x,pc=.lk (.s1 sv) x)/\(md=.fH\/md=.rG->pc=.recv)
 NS:(C.dm=.blk->C.d=.w3)/\(C.dm=.fH->∃i,C.d=.send C.L i)/\C.dm≠.rG
 num:∀y,C.dn.count y+sumTo J.n (fun k=>px y (C.ks k))=(J.ay.take (rH J C.d)).count y
 fold:C.γ=C.dn.foldl E.upd cO
 NT:C.v+sumTo J.n (fun k=>wv (C.ks k))=C.j+iV C.d
 ph:E5 C.d C.v C.wt C.ws (sumTo J.n fun k=>oK (C.ks k)) (sumTo J.n fun k=>py (C.ks k))
 gone:∀k,Gone (C.ks k)->k<aU J C.d
 HH:DOk J C.L C.j C.d
 Rr:∀k p x md,C.ks k=.at (.lk p x) md->dy p=2
 LF:∀k p md,C.ks k=.at (.un p) md->dy p=0/\p≠.out
 dV:∀k i n,C.ks k=.dV i n->i<=4
 w2:∀v0,C.d=.w2 v0->0<v0/\C.v<=v0
structure Calm(J:jf)(C:jE E):Prop where
 blk:∀k pc,C.ks k=.at pc .blk->C.c=0
 fH:∀k pc,C.ks k=.at pc .fH->¬k<aU J C.d
 acj:C.dm=.blk->C.ws=0
 uq:∀i,C.dm=.fH->C.d=.send C.L i->∀pc,C.ks (i%J.n)≠.at pc .fH
def yU(J:jf)(C:jE E):=jg J C.v C.d+sumTo J.n (fun k=>Ci (C.ks k))
def LG(J:jf)(C:jE E):=sumTo J.n (fun k=>bw (lY (C.ks k)))+7 *C.c
def wV(J:jf)(C:jE E):=sumTo J.n (fun k=>dw C.m (lY (C.ks k)))
def mu(J:jf)(C:jE E):=(yU J C *128+LG J C) *128+wV J C
theorem agu(p:PC):bw p<=9:=by
 cases p<;>simp[bw]<;>omega
theorem agv(m:Word)(p:PC):dw m p<=12:=by
 cases p<;>simp[dw]<;>(try split)<;>omega
theorem ack{J:jf}{C:jE E}(hn:J.n<=8)(hc:C.c<=1):LG J C<128:=by
 have h:=sumTo_le (f:=fun k=>bw (lY (C.ks k))) (j:=J.n) fun i _=>agu _;unfold LG;omega
theorem NU{J:jf}{C:jE E}(hn:J.n<=8):wV J C<128:=by
 have h:=sumTo_le (f:=fun k=>dw C.m (lY (C.ks k))) (j:=J.n) fun i _=>agv _ _;unfold wV;omega
theorem LH{J:jf}{C C':jE E}(hn:J.n<=8)(hc:C'.c<=1)(h:yU J C'<yU J C):mu J C'<mu J C:=by
 have h1:=ack hn hc;have h2:=NU (C:=C') hn;unfold mu;omega
theorem anN{J:jf}{C C':jE E}(hn:J.n<=8)(h:yU J C'=yU J C)(hB:LG J C'<LG J C):mu J C'<mu J C:=by
 have h2:=NU (C:=C') hn;unfold mu;omega
theorem anO{J:jf}{C C':jE E}(h:yU J C'=yU J C)(hB:LG J C'=LG J C)(hD:wV J C'<wV J C):mu J C'<mu J C:=by
 unfold mu;omega
theorem Dq(f:PC->Nat)(bE:Nat->PC):∀n,Lock.fE f bE n=sumTo n fun k=>f (bE k)
 |0=>rfl
 |n+1=>by rw[Lock.fE,sumTo,Dq f bE n]
theorem Xv(ks:Nat->de E)(k:Nat)(s:de E):(fun i=>lY (upd ks k s i))=Lock.put (fun i=>lY (ks i)) k (lY s):=by
 funext i;unfold upd Lock.put;split<;>rfl
theorem H2(f g h:PC->Nat)(bE:Nat->PC):∀n,Lock.fE (fun p=>f p+g p+h p) bE n=Lock.fE f bE n+Lock.fE g bE n+Lock.fE h bE n
 |0=>rfl
 |n+1=>by simp[Lock.fE,H2 f g h bE n];omega
theorem sD{bE:Nat->PC}{m:Word}{c:Nat}(h:Lock.Inv bE n m c):c<=1/\m.W<=n:=by
 have one:∀f,(∀p,f p<=1)->Lock.fE f bE n<=n:=by
  intro f hf;rw[Dq];have:=sumTo_le (f:=fun k=>f (bE k)) (j:=n) fun i _=>hf _;omega
 have hb:=Lock.qg m.K;have hq:∀p,Lock.pH p+Lock.mR p+Lock.dC p<=1:=by intro p;cases p<;>simp[Lock.pH,Lock.mR,Lock.dC]
 cases hS:m.S with
 |false=>
  obtain⟨h1,h2,_⟩:=h.calm hS;have:=one Lock.pH (by intro p;cases p<;>simp[Lock.pH]);omega
 |true=>
  obtain⟨h1,h2,h3,h4,h5,h6⟩:=h.hard hS;have:=one _ hq;have e:=H2 Lock.pH Lock.mR Lock.dC bE n;omega
end
end Ph
namespace Ph
open Conc Ren
open Lock (Word PC Mv bn dy bw dw)
open ConcN (sumTo upd sumTo_upd upd_ne upd_same sumTo_congr le_sumTo sumTo_le sumTo_upd_out)
section
variable{E:Env}{J:jf}{cO:E.Γ}{C:jE E}
def jE.wk(C:jE E)(k:Nat)(s':de E)(d':pJ)(qi:Md)(m':Word)(c' v' eP eI:Nat)(qL:E.Γ)(qM:List Nat)(eZ:Option Nat):=
 {C with ks:=upd C.ks k s',d:=d',dm:=qi,m:=m',c:=c',v:=v',wt:=eP,ws:=eI,γ:=qL,dn:=qM,tok:=eZ}
theorem lZ{C:jE E}{s s':de E}(f:de E->Nat)(n:Nat)(hk:k<n)(e:C.ks k=s):sumTo n (fun i=>f (upd C.ks k s' i))+f s=sumTo n (fun i=>f (C.ks i))+f s':=by
 have:=sumTo_upd C.ks s' f hk;simp_all
theorem CI.wk{s s':de E}{d':pJ}{qi:Md}{m':Word}{qL:E.Γ}(h:CI J cO C)(hk:k<C.j)(e:C.ks k=s)(ne:s'≠.no)
  (lock:Lock.Inv (Lock.put (fun i=>lY (C.ks i)) k (lY s')) J.n m' c')
  (Aw:∀i,eZ=some i->(i=k/\∃md,s'=.at (.ur qL) md)\/(i≠k/\C.tok=some i/\qL=C.γ))(LD:∀γ md,s'=.at (.ur γ) md->eZ=some k)(anP:∀i,i≠k->C.tok=some i->eZ=some i)
  (md:∀pc md,s'=.at pc md->(md=.blk->∃sv x,pc=.lk (.s1 sv) x)/\(md=.fH\/md=.rG->pc=.recv))
  (NS:(qi=.blk->d'=.w3)/\(qi=.fH->∃i,d'=.send C.L i)/\qi≠.rG)
  (num:∀y,qM.count y+px y s'+(J.ay.take (rH J C.d)).count y=C.dn.count y+px y s+(J.ay.take (rH J d')).count y)
  (fold:qL=qM.foldl E.upd cO)(NT:v'+wv s'+iV C.d=C.v+wv s+iV d')
  (ph:∀e2 e0,E5 C.d C.v C.wt C.ws (e2+oK s) (e0+py s)->E5 d' v' eP eI (e2+oK s') (e0+py s'))
  (gone:Gone s'->k<aU J d')(cl:aU J C.d<=aU J d')(HH:DOk J C.L C.j d')
  (Rr:∀p x md,s'=.at (.lk p x) md->dy p=2)(LF:∀p md,s'=.at (.un p) md->dy p=0/\p≠.out)(dV:∀i n,s'=.dV i n->i<=4)(w2:∀v0,d'=.w2 v0->0<v0/\v'<=v0):
  CI J cO (C.wk k s' d' qi m' c' v' eP eI qL qM eZ):=by
 have ll:k<J.n:=ajM hk h.jn;have us:upd C.ks k s' k=s':=upd_same _ _ _;have un:∀i,i≠k->upd C.ks k s' i=C.ks i:=fun i hi=>upd_ne _ _ hi;refine⟨h.jn,h.len,h.nod,fun i hi=>?_,fun i hi=>?_,?_,fun i hi=>?_,fun i γ kg hi=>?_,fun i pc kg hi=>?_,NS,fun y=>?_,fold,?_,?_,fun i hi=>?_,HH,fun i p x kg hi=>?_,fun i p kg hi=>?_,fun i n0 n1 hi=>?_,w2⟩
 ·have:i≠k:=by have:C.j<=i:=hi;omega
  show upd C.ks k s' i=_
  rw[un i this];exact h.no i hi
 ·show upd C.ks k s' i≠_
  by_cases vx:i=k
  ·subst vx;rw[us];exact ne
  ·rw[un i vx];exact h.yes i hi
 ·show Lock.Inv (fun i=>lY (upd C.ks k s' i)) J.n m' c'
  rw[Xv];exact lock
 ·show∃md,upd C.ks k s' i=_
  rcases Aw i hi with⟨rfl,h1⟩|⟨h1,h2,h3⟩
  ·rw[us];exact h1
  ·rw[un i h1];rw[h3];exact h.Aw i h2
 ·change upd C.ks k s' i=_ at hi;show eZ=some i
  by_cases vx:i=k
  ·subst vx;rw[us]at hi;exact LD γ kg hi
  ·rw[un i vx]at hi;exact anP i vx (h.LD i γ kg hi)
 ·change upd C.ks k s' i=_ at hi;by_cases vx:i=k
  ·subst vx;rw[us]at hi;exact md pc kg hi
  ·rw[un i vx]at hi;exact h.md i pc kg hi
 ·have h1:=h.num y;have h2:=num y;have h3:=lZ (C:=C) (s':=s') (px y) J.n ll e;show qM.count y+sumTo J.n (fun i=>px y (upd C.ks k s' i))=(J.ay.take (rH J d')).count y
  omega
 ·have h1:=h.NT;have h3:=lZ (C:=C) (s':=s') wv J.n ll e;show v'+sumTo J.n (fun i=>wv (upd C.ks k s' i))=C.j+iV d'
  omega
 ·have h1:=h.ph;have h3:=lZ (C:=C) (s':=s') oK J.n ll e;have h4:=lZ (C:=C) (s':=s') py J.n ll e;have l2:=le_sumTo (f:=fun i=>oK (C.ks i)) ll;have l0:=le_sumTo (f:=fun i=>py (C.ks i)) ll;simp only[e]at l2 l0;have h5:=ph (sumTo J.n (fun i=>oK (C.ks i))-oK s) (sumTo J.n (fun i=>py (C.ks i))-py s) (by simp_all);show E5 d' v' eP eI (sumTo J.n fun i=>oK (upd C.ks k s' i)) (sumTo J.n fun i=>py (upd C.ks k s' i))
  have e1:sumTo J.n (fun i=>oK (upd C.ks k s' i))=sumTo J.n (fun i=>oK (C.ks i))-oK s+oK s':=by omega
  have e3:sumTo J.n (fun i=>py (upd C.ks k s' i))=sumTo J.n (fun i=>py (C.ks i))-py s+py s':=by omega
  rw[e1,e3];exact h5
 ·change Gone (upd C.ks k s' i)at hi;show i<aU J d'
  by_cases vx:i=k
  ·subst vx;rw[us]at hi;exact gone hi
  ·rw[un i vx]at hi;exact ajM (h.gone i hi) cl
 ·change upd C.ks k s' i=_ at hi;by_cases vx:i=k
  ·subst vx;rw[us]at hi;exact Rr p x kg hi
  ·rw[un i vx]at hi;exact h.Rr i p x kg hi
 ·change upd C.ks k s' i=_ at hi;by_cases vx:i=k
  ·subst vx;rw[us]at hi;exact LF p kg hi
  ·rw[un i vx]at hi;exact h.LF i p kg hi
 ·change upd C.ks k s' i=_ at hi;by_cases vx:i=k
  ·subst vx;rw[us]at hi;exact dV n0 n1 hi
  ·rw[un i vx]at hi;exact h.dV i n0 n1 hi
theorem sE{s s':de E}{d':pJ}{qi:Md}{m':Word}{qL:E.Γ}(hk:k<J.n)(e:C.ks k=s):
  yU J (C.wk k s' d' qi m' c' v' eP eI qL qM eZ)+jg J C.v C.d+Ci s=yU J C+jg J v' d'+Ci s':=by
 have h3:=lZ (s':=s') Ci J.n hk e;show jg J v' d'+sumTo J.n (fun i=>Ci (upd _ k s' i))+jg J C.v C.d+Ci s=jg J C.v C.d+sumTo J.n _+jg J v' d'+Ci s'
 omega
theorem TB{s s':de E}{d':pJ}{qi:Md}{m':Word}{qL:E.Γ}(hk:k<J.n)(e:C.ks k=s):
  LG J (C.wk k s' d' qi m' c' v' eP eI qL qM eZ)+bw (lY s)+7 *C.c=LG J C+bw (lY s')+7 *c':=by
 have h3:=lZ (s':=s') (fun s=>bw (lY s)) J.n hk e;show sumTo J.n (fun i=>bw (lY (upd _ k s' i)))+7 *c'+bw _+7 *C.c=sumTo J.n _+7 *C.c+bw _+7 *c'
 omega
theorem NV{s s':de E}{d':pJ}{qi:Md}{qL:E.Γ}(hk:k<J.n)(e:C.ks k=s):
  wV J (C.wk k s' d' qi C.m c' v' eP eI qL qM eZ)+dw C.m (lY s)=wV J C+dw C.m (lY s'):=by
 have h3:=lZ (s':=s') (fun s=>dw C.m (lY s)) J.n hk e;exact h3
def jE.dd(C:jE E)(d':pJ)(qi:Md)(v' eP eI:Nat):={C with d:=d',dm:=qi,v:=v',wt:=eP,ws:=eI}
theorem CI.dd{d':pJ}{qi:Md}(h:CI J cO C)(NS:(qi=.blk->d'=.w3)/\(qi=.fH->∃i,d'=.send C.L i)/\qi≠.rG)(num:J.ay.take (rH J d')=J.ay.take (rH J C.d))(NT:v'+iV C.d=C.v+iV d')
  (ph:∀e2 e0,E5 C.d C.v C.wt C.ws e2 e0->E5 d' v' eP eI e2 e0)(cl:aU J C.d<=aU J d')(HH:DOk J C.L C.j d')(w2:∀v0,d'=.w2 v0->0<v0/\v'<=v0):CI J cO (C.dd d' qi v' eP eI):=by
 refine⟨h.jn,h.len,h.nod,h.no,h.yes,h.lock,h.Aw,h.LD,h.md,NS,fun y=>?_,h.fold,?_,ph _ _ h.ph,fun k hk=>ajM (h.gone k hk) cl,HH,h.Rr,h.LF,h.dV,w2⟩
 ·have:=h.num y;rw[<-num]at this;exact this
 ·have:=h.NT;show v'+sumTo J.n (fun k=>wv (C.ks k))=C.j+iV d'
  omega
theorem NY{d':pJ}{qi:Md}(h:jg J v' d'<jg J C.v C.d):mu J (C.dd d' qi v' eP eI)<mu J C:=by
 unfold mu;have e1:yU J (C.dd d' qi v' eP eI)+jg J C.v C.d=yU J C+jg J v' d':=by
  show jg J v' d'+sumTo J.n (fun k=>Ci (C.ks k))+jg J C.v C.d=jg J C.v C.d+sumTo J.n _+jg J v' d'
  omega
 have e2:LG J (C.dd d' qi v' eP eI)=LG J C:=rfl;have e3:wV J (C.dd d' qi v' eP eI)=wV J C:=rfl;omega
def jE.spawn(J:jf)(C:jE E)(c:Nat):={C with j:=C.j+1,L:=C.L++[c],ks:=upd C.ks C.j (.at .recv .run),d:=J.cE (C.L++[c]),dm:=.run}
theorem uv(f:de E->Nat)(s':de E)(h:CI J cO C)(hj:C.j<J.n)(f0:f .no=0):sumTo J.n (fun i=>f (upd C.ks C.j s' i))=sumTo J.n (fun i=>f (C.ks i))+f s':=by
 have:=lZ (s':=s') f J.n hj (h.no C.j (ajI _));omega
theorem iB:(L.length<J.n/\J.cE L=.st L)\/(¬L.length<J.n/\0<J.ay.length/\J.cE L=.send L 0)\/(¬L.length<J.n/\J.ay.length=0/\J.cE L=.close L 0):=by
 unfold jf.cE jf.sends;by_cases h1:L.length<J.n
 ·simp_all
 ·by_cases h2:0<J.ay.length
  ·simp_all
  ·simp_all
theorem CI.spawn{c:Nat}(h:CI J cO C)(hn:0<J.n)(hn8:J.n<=8)(hd:C.d=.go C.L c)(hc:c∉C.L):CI J cO (C.spawn J c)/\yU J (C.spawn J c)<yU J C:=by
 have hj:C.j<J.n:=by have:=h.HH;rw[hd]at this;exact this.2
 have us:upd C.ks C.j (.at .recv .run) C.j=.at .recv .run:=upd_same _ _ _;have un:∀i,i≠C.j->upd C.ks C.j (.at .recv .run) i=C.ks i:=fun i hi=>upd_ne _ _ hi;have hv:C.wt=0/\C.ws=0/\sumTo J.n (fun k=>oK (C.ks k))=0/\sumTo J.n (fun k=>py (C.ks k))=0:=by
  rcases h.ph with y|y
  ·exact⟨y.1,y.2.1,y.2.2.1,y.2.2.2.1⟩
  ·rw[hd]at y;exact y.1.elim
 have hl:(C.L++[c]).length=C.j+1:=by simp[h.len]
 have sN:rH J (J.cE (C.L++[c]))=0:=by
  rcases iB (J:=J) (L:=C.L++[c])with⟨_,e⟩|⟨_,_,e⟩|⟨_,h0,e⟩<;>rw[e]
  ·rfl
  ·rfl
  ·exact h0
 have aN:iV (J.cE (C.L++[c]))=0:=by
  rcases iB (J:=J) (L:=C.L++[c])with⟨_,e⟩|⟨_,_,e⟩|⟨_,h0,e⟩<;>rw[e]<;>rfl
 have wN:¬wy (J.cE (C.L++[c]))/\¬Dp (J.cE (C.L++[c])):=by
  rcases iB (J:=J) (L:=C.L++[c])with⟨_,e⟩|⟨_,_,e⟩|⟨_,h0,e⟩<;>rw[e]<;>exact⟨id,id⟩
 have ng:∀k,¬Gone (C.ks k):=fun k hk=>by
  have:=h.gone k hk;rw[hd]at this;exact absurd this (akO _)
 refine⟨⟨hj,hl,?_,fun k hk=>?_,fun k hk=>?_,?_,fun k hk=>?_,fun k γ md hk=>?_,fun k pc md hk=>?_,⟨nofun,nofun,nofun⟩,fun y=>?_,h.fold,?_,?_,fun k hk=>?_,?_,fun k p x md hk=>?_,fun k p md hk=>?_,fun k i n hk=>?_,fun v0 e0=>?_⟩,?_⟩
 ·show(C.L++[c]).Nodup
  rw[List.nodup_append];exact⟨h.nod,by simp,fun a ha b hb=>by
   simp at hb;subst hb;exact fun e=>hc (e▸ha)⟩
 ·have:k≠C.j:=by have:C.j+1<=k:=hk;omega
  show upd C.ks C.j _ k=_
  rw[un k this];exact h.no k (by have:C.j+1<=k:=hk;omega)
 ·show upd C.ks C.j _ k≠_
  by_cases e:k=C.j
  ·subst e;rw[us];exact nofun
  ·rw[un k e];exact h.yes k (by have:k<C.j+1:=hk;omega)
 ·show Lock.Inv (fun i=>lY (upd C.ks C.j (.at .recv .run) i)) J.n C.m C.c
  have:(fun i=>lY (upd C.ks C.j (de.at Env.vz.recv Md.run:de E) i))=fun i=>lY (C.ks i):=by
   funext i;by_cases e:i=C.j
   ·subst e;rw[us,h.no C.j (ajI _)];rfl
   ·rw[un i e]
  rw[this];exact h.lock
 ·obtain⟨md,e⟩:=h.Aw k hk;have:k≠C.j:=fun e'=>by rw[e',h.no C.j (ajI _)]at e;cases e
  exact⟨md,by show upd C.ks C.j _ k=_;rw[un k this];exact e⟩
 ·change upd C.ks C.j _ k=_ at hk;by_cases e:k=C.j
  ·subst e;rw[us]at hk;cases hk
  ·rw[un k e]at hk;exact h.LD k γ md hk
 ·change upd C.ks C.j _ k=_ at hk;by_cases e:k=C.j
  ·subst e;rw[us]at hk;cases hk;exact⟨nofun,fun _=>rfl⟩
  ·rw[un k e]at hk;exact h.md k pc md hk
 ·have h1:=h.num y;rw[hd]at h1;have h2:=uv (px y) (.at .recv .run) h hj rfl;show C.dn.count y+sumTo J.n (fun i=>px y (upd C.ks C.j (.at .recv .run) i))=(J.ay.take (rH J (J.cE (C.L++[c])))).count y
  rw[sN,h2];exact h1
 ·have h1:=h.NT;rw[hd]at h1;have h2:=uv wv (.at .recv .run) h hj rfl;show C.v+sumTo J.n (fun i=>wv (upd C.ks C.j (.at .recv .run) i))=C.j+1+iV (J.cE (C.L++[c]))
  rw[aN,h2];exact h1
 ·have h2:=uv oK (.at .recv .run) h hj rfl;have h3:=uv py (.at .recv .run) h hj rfl;show E5 (J.cE (C.L++[c])) C.v C.wt C.ws (sumTo J.n fun i=>oK (upd C.ks C.j (.at .recv .run) i)) (sumTo J.n fun i=>py (upd C.ks C.j (.at .recv .run) i))
  rw[h2,h3];exact .inl ⟨hv.1,hv.2.1,hv.2.2.1,hv.2.2.2,wN.1,fun y=>absurd y wN.2⟩
 ·change Gone (upd C.ks C.j _ k)at hk;by_cases e:k=C.j
  ·subst e;rw[us]at hk;exact hk.elim
  ·rw[un k e]at hk;exact absurd hk (ng k)
 ·show DOk J (C.L++[c]) (C.j+1) (J.cE (C.L++[c]))
  rcases iB (J:=J) (L:=C.L++[c])with⟨h1,e⟩|⟨h1,h2,e⟩|⟨h1,h0,e⟩<;>rw[e]<;>rw[hl]at h1
  ·exact⟨rfl,h1⟩
  ·exact⟨rfl,by omega,h2⟩
  ·exact⟨rfl,by omega,hn⟩
 ·change upd C.ks C.j _ k=_ at hk;by_cases e:k=C.j
  ·subst e;rw[us]at hk;cases hk
  ·rw[un k e]at hk;exact h.Rr k p x md hk
 ·change upd C.ks C.j _ k=_ at hk;by_cases e:k=C.j
  ·subst e;rw[us]at hk;cases hk
  ·rw[un k e]at hk;exact h.LF k p md hk
 ·change upd C.ks C.j _ k=_ at hk;by_cases e:k=C.j
  ·subst e;rw[us]at hk;cases hk
  ·rw[un k e]at hk;exact h.dV k i n hk
 ·change J.cE (C.L++[c])=_ at e0;rcases iB (J:=J) (L:=C.L++[c])with⟨_,e⟩|⟨_,_,e⟩|⟨_,_,e⟩<;>rw[e]at e0<;>cases e0
 ·have h2:=uv Ci (.at .recv .run) h hj rfl;show jg J C.v (J.cE (C.L++[c]))+sumTo J.n (fun i=>Ci (upd C.ks C.j (.at .recv .run) i))<jg J C.v C.d+sumTo J.n (fun k=>Ci (C.ks k))
  rw[h2,hd];have e7:Ci (de.at Env.vz.recv Md.run:de E)=7:=rfl;have eL:=h.len;rcases iB (J:=J) (L:=C.L++[c])with⟨h1,e⟩|⟨h1,h2,e⟩|⟨h1,h0,e⟩<;>rw[e]<;>rw[hl]at h1<;>simp only[jg,hl,e7]<;>omega
def nV(b:Bool):de E->de E
 |.at pc .blk=>.at pc .run
 |.at pc .fH=>if b then .at pc .rG else .at pc .fH
 |s=>s
def Ax:Md->Md
 |.blk=>.run
 |x=>x
def jE.sF(J:jf)(C:jE E):={C with ks:=fun k=>nV (decide (k<aU J C.d)) (C.ks k),dm:=Ax C.dm}
theorem l_{α:Type}(f:de E->α)(hf:∀pc md kg,f (.at pc md)=f (.at pc kg))(b:Bool)(s:de E):f (nV b s)=f s:=by
 cases s with
 |«at» pc md=>
  cases md with
  |run=>rfl
  |blk=>exact hf _ _ _
  |fH=>
   cases b
   ·rfl
   ·exact hf _ _ _
  |rG=>rfl
 |_=>rfl
theorem ma{b:Bool}{s:de E}{pc:E.vz}{md:Md}(h:nV b s=.at pc md):∃Ay,s=.at pc Ay/\(Ay=md\/(Ay=.blk/\md=.run)\/(Ay=.fH/\md=.rG/\b=true))/\md≠.blk/\(md=.fH->b=false):=by
 cases s with
 |«at» Xw Ay=>
  cases Ay with
  |run=>cases h;simp_all
  |blk=>cases h;simp_all
  |fH=>
   cases b
   ·cases h;simp_all
   ·cases h;simp_all
  |rG=>cases h;simp_all
 |_=>cases h
theorem CI.sF(h:CI J cO C):CI J cO (C.sF J):=by
 have fe:∀{α:Type} (f:de E->α),(∀pc md kg,f _=f _)->(fun k=>f ((C.sF J).ks k))=fun k=>f (C.ks k):=fun f hf=>funext fun k=>l_ f hf _ _;refine⟨h.jn,h.len,h.nod,fun k hk=>?_,fun k hk e=>?_,?_,fun k hk=>?_,fun k γ md hk=>?_,fun k pc md hk=>?_,?_,fun y=>?_,h.fold,?_,?_,fun k hk=>?_,h.HH,fun k p x md hk=>?_,fun k p md hk=>?_,fun k i n hk=>?_,h.w2⟩
 ·show nV _ (C.ks k)=_
  rw[h.no k hk];rfl
 ·change nV _ (C.ks k)=_ at e;have:=h.yes k hk;cases hs:C.ks k with
  |«at» pc md=>
   rw[hs]at e;cases md with
   |fH=>revert e;simp only[nV];split<;>intro e<;>cases e
   |_=>cases e
  |no=>exact this hs
  |dV i n=>rw[hs]at e;cases e
  |qt q=>rw[hs]at e;cases e
 ·rw[fe lY fun _ _ _=>rfl];exact h.lock
 ·obtain⟨md,e⟩:=h.Aw k hk;show∃md,nV _ (C.ks k)=_
  rw[e];cases md with
  |run=>exact⟨_,rfl⟩
  |blk=>exact⟨_,rfl⟩
  |fH=>
   have:=(h.md k _ _ e).2 (.inl rfl);cases this
  |rG=>exact⟨_,rfl⟩
 ·obtain⟨Ay,e,_⟩:=ma hk;exact h.LD k γ Ay e
 ·obtain⟨Ay,e,h1,h2,h3⟩:=ma hk;refine⟨fun y=>absurd y h2,fun y=>?_⟩;rcases h1 with rfl|⟨_,rfl⟩|⟨rfl,rfl,_⟩
  ·exact(h.md k _ _ e).2 y
  ·simp_all
  ·exact(h.md k _ _ e).2 (.inl rfl)
 ·have hd:=h.NS;show(Ax C.dm=.blk->C.d=.w3)/\(Ax C.dm=.fH->∃i,C.d=.send C.L i)/\Ax C.dm≠.rG
  cases hm:C.dm with
  |run=>exact⟨nofun,nofun,nofun⟩
  |blk=>exact⟨nofun,nofun,nofun⟩
  |fH=>exact⟨nofun,fun _=>hd.2.1 hm,nofun⟩
  |rG=>exact absurd hm hd.2.2
 ·rw[fe _ fun _ _ _=>rfl];exact h.num y
 ·rw[fe wv fun _ _ _=>rfl];exact h.NT
 ·rw[fe oK fun _ _ _=>rfl,fe py fun _ _ _=>rfl];exact h.ph
 ·change Gone (nV _ (C.ks k))at hk;cases hs:C.ks k with
  |«at» pc md=>
   rw[hs]at hk;cases md with
   |fH=>
    by_cases hc:k<aU J C.d
    ·exact hc
    ·rw[decide_eq_false hc]at hk;have e:=(h.md k _ _ hs).2 (.inl rfl);subst e;exact hk.elim
   |blk=>
    obtain⟨sv,x,e⟩:=(h.md k _ _ hs).1 rfl;subst e;exact hk.elim
   |run=>exact h.gone k (by rw[hs];exact hk)
   |rG=>exact h.gone k (by rw[hs];exact hk)
  |no=>rw[hs]at hk;exact hk.elim
  |dV i n=>exact h.gone k (by rw[hs];trivial)
  |qt q=>exact h.gone k (by rw[hs];trivial)
 ·obtain⟨Ay,e,_⟩:=ma hk;exact h.Rr k p x Ay e
 ·obtain⟨Ay,e,_⟩:=ma hk;exact h.LF k p Ay e
 ·change nV _ _=_ at hk;cases hs:C.ks k with
  |«at» pc md=>
   rw[hs]at hk;cases md with
   |fH=>revert hk;simp only[nV];split<;>intro e<;>cases e
   |_=>cases hk
  |no=>rw[hs]at hk;cases hk
  |dV i' n'=>rw[hs]at hk;cases hk;exact h.dV k _ _ hs
  |qt q=>rw[hs]at hk;cases hk
theorem NZ:mu J (C.sF J)=mu J C:=by
 have fe:∀{α:Type} (f:de E->α),(∀pc md kg,f _=f _)->(fun k=>f ((C.sF J).ks k))=fun k=>f _:=fun f hf=>funext fun k=>l_ f hf _ _;unfold mu yU LG wV;rw[fe Ci fun _ _ _=>rfl,fe (fun s=>bw (lY s)) fun _ _ _=>rfl,fe (fun s=>dw _ (lY s)) fun _ _ _=>rfl];rfl
theorem P4(h:∀i,C.dm=.fH->C.d=.send C.L i->∀pc,C.ks (i%J.n)≠.at pc .fH):Calm J (C.sF J):=by
 refine⟨fun k pc hk=>?_,fun k pc hk hc=>?_,fun hd=>?_,fun i hm hd pc hk=>?_⟩
 ·obtain⟨_,_,_,h2,_⟩:=ma hk;simp_all
 ·obtain⟨_,_,_,_,h3⟩:=ma hk;have:=h3 rfl;simp only[decide_eq_false_iff_not]at this;exact this hc
 ·revert hd;show Ax _=.blk->_
  cases C.dm<;>intro e<;>cases e
 ·have Wz:C.dm=.fH:=by
   revert hm;show Ax _=.fH->_
   cases C.dm<;>intro e<;>first|rfl|cases e
  obtain⟨Ay,e,h1,_⟩:=ma hk;rcases h1 with rfl|⟨_,h1⟩|⟨_,h1,_⟩
  ·exact h i Wz hd pc e
  ·cases h1
  ·cases h1
end
theorem uw(f:Nat->PC)(k:Nat):Lock.put f k (f k)=f:=by
 funext i;unfold Lock.put;simp_all
theorem acm{p p':PC}{m m':Word}{c:Nat}(h:Mv p m c p' m' c')(h2:dy p=2):p'=.cr\/dy p'=2:=by
 cases h with
 |l0y=>exact .inl rfl
 |rd=>right;unfold Lock.hr;split<;>rfl
 |hw=>right;unfold Lock.hd;split<;>(try split)<;>rfl
 |c2y=>
  split
  ·simp
  ·exact .inr rfl
 |r2n=>right;unfold Lock.hr;split<;>rfl
 |a1=>exact .inl rfl
 |u0=>cases h2
 |ucy=>cases h2
 |ucn=>cases h2
 |ur=>cases h2
 |us=>cases h2
 |uh=>cases h2
 |_=>exact .inr rfl
theorem Xx{p p':PC}{m m':Word}{c:Nat}(h:Mv p m c p' m' c')(h2:dy p=0/\p≠.out\/p=.cr):p'=.out\/(dy p'=0/\p'≠.out):=by
 have hd:∀m,Lock.dec m=.out\/(dy (Lock.dec m)=0/\Lock.dec m≠.out):=by
  intro m;unfold Lock.dec;split
  ·simp
  ·exact .inr ⟨rfl,nofun⟩
 cases h with
 |u0=>
  split
  ·exact .inr ⟨rfl,nofun⟩
  simp_all
 |ucy=>exact .inr ⟨rfl,nofun⟩
 |ucn=>exact .inr ⟨rfl,nofun⟩
 |ur=>exact hd _
 |us=>exact .inl rfl
 |uh=>exact .inl rfl
 |_=>rcases h2 with⟨h2,_⟩|h2<;>cases h2
section
variable{E:Env}{J:jf}{cO:E.Γ}{C:jE E}
def jE.w1(C:jE E)(k:Nat)(s':de E):=C.wk k s' C.d C.dm C.m C.c C.v C.wt C.ws C.γ C.dn C.tok
theorem CI.c1(h:CI J cO C):C.c<=1:=(sD h.lock).1
theorem CI.TC(h:CI J cO C){pc:E.vz}{md:Md}(e:C.ks k=.at pc md)(n1:∀γ,pc≠.ur γ)(ht:C.tok=some i):i≠k:=by
 rintro rfl;obtain⟨kg,e'⟩:=h.Aw i ht;rw[e]at e';simp_all
theorem CI.quiet{pc eK:E.vz}{md kg:Md}(h:CI J cO C)(hk:k<C.j)(e:C.ks k=.at pc md)(hl:LC eK=LC pc)(hh:∀y,pw y eK=pw y pc)(n1:∀γ,pc≠.ur γ)(n2:∀γ,eK≠.ur γ)
  (N0:(kg=.blk->∃sv x,eK=.lk (.s1 sv) x)/\(kg=.fH\/kg=.rG->eK=.recv))(hg:Gone (.at eK kg)->k<aU J C.d)(Rr:∀p x,eK=.lk p x->dy p=2)(LF:∀p,eK=.un p->dy p=0/\p≠.out):CI J cO (C.w1 k (.at eK kg)):=by
 refine h.wk hk e nofun ?_ (fun i hi=>.inr ⟨h.TC e n1 hi,hi,rfl⟩) (fun γ md e'=>by simp_all) (fun i _ hi=>hi) (fun Xw Ay e0=>by cases e0;omega) h.NS (fun y=>?_) h.fold rfl (fun e2 e0 hp=>hp) hg (ajI _) h.HH (fun p x Ay e0=>by simp_all) (fun p Ay e0=>by simp_all) (fun i n e0=>by cases e0) h.w2
 ·have:lY (de.at eK kg)=(fun i=>lY (C.ks i)) k:=by
   show LC eK=lY (C.ks k)
   rw[e];exact hl
  rw[this,uw];exact h.lock
 ·show C.dn.count y+pw y eK+_=C.dn.count y+pw y pc+_
  rw[hh]
theorem N1{s s':de E}(hn:J.n<=8)(hc:C.c<=1)(hk:k<J.n)(e:C.ks k=s)(hr:Ci s'<Ci s):mu J (C.w1 k s')<mu J C:=by
 refine LH hn hc ?_;have:=sE (s':=s') (d':=C.d) (qi:=C.dm) (m':=C.m) (c':=C.c) (v':=C.v) (eP:=C.wt) (eI:=C.ws) (qL:=C.γ) (qM:=C.dn) (eZ:=C.tok) hk e;change yU J (C.w1 k s')+_+_=_ at this;omega
theorem N3{s s':de E}(hk:k<J.n)(e:C.ks k=s)(hr:Ci s'=Ci s)(hl:lY s'=lY s):mu J (C.w1 k s')=mu J C:=by
 have h1:=sE (s':=s') (d':=C.d) (qi:=C.dm) (m':=C.m) (c':=C.c) (v':=C.v) (eP:=C.wt) (eI:=C.ws) (qL:=C.γ) (qM:=C.dn) (eZ:=C.tok) hk e;have h2:=TB (s':=s') (d':=C.d) (qi:=C.dm) (m':=C.m) (c':=C.c) (v':=C.v) (eP:=C.wt) (eI:=C.ws) (qL:=C.γ) (qM:=C.dn) (eZ:=C.tok) hk e;have h3:=NV (s':=s') (d':=C.d) (qi:=C.dm) (c':=C.c) (v':=C.v) (eP:=C.wt) (eI:=C.ws) (qL:=C.γ) (qM:=C.dn) (eZ:=C.tok) hk e;change yU J (C.w1 k s')+_+_=_ at h1;change LG J (C.w1 k s')+_+_=_ at h2;change wV J (C.w1 k s')+_=_ at h3;rw[hl]at h2 h3;unfold mu;omega
def jE.mv(C:jE E)(k:Nat)(eK:E.vz)(m':Word)(c':Nat):=C.wk k (.at eK .run) C.d C.dm m' c' C.v C.wt C.ws C.γ C.dn C.tok
theorem CI.mv{pc eK:E.vz}{p p':PC}{m':Word}(h:CI J cO C)(hn:J.n<=8)(hk:k<C.j)(e:C.ks k=.at pc .run)(hp:LC pc=p)(PG:LC eK=p')(hm:Mv p C.m C.c p' m' c')(hh:∀y,pw y eK=pw y pc)(n1:∀γ,pc≠.ur γ)(n2:∀γ,eK≠.ur γ)(n3:eK≠.wr)
  (hr:P3 eK<P3 pc\/(P3 eK=P3 pc/\dy p'=dy p))(Rr:∀p x,eK=.lk p x->dy p=2)(LF:∀p,eK=.un p->dy p=0/\p≠.out):CI J cO (C.mv k eK m' c')/\mu J (C.mv k eK m' c')<mu J C:=by
 have ll:k<J.n:=ajM hk h.jn;have ek:=by
  show lY (C.ks k)=p
  rw[e];exact hp
 have hL:=by
  show Lock.Inv (Lock.put (fun i=>lY (C.ks i)) k (LC eK)) J.n m' c'
  rw[PG];exact h.lock.step ll ek hm
 refine⟨?_,?_⟩
 ·refine h.wk hk e nofun hL (fun i hi=>.inr ⟨h.TC e n1 hi,hi,rfl⟩) (fun γ md e'=>by simp_all) (fun i _ hi=>hi) (fun Xw Ay e0=>by cases e0;simp_all) h.NS (fun y=>?_) h.fold rfl (fun e2 e0 hp=>hp) (fun hg=>?_) (ajI _) h.HH (fun p x Ay e0=>by simp_all) (fun p Ay e0=>by simp_all) (fun i n e0=>by cases e0) h.w2
  ·show C.dn.count y+pw y eK+_=C.dn.count y+pw y pc+_
   rw[hh]
  ·cases eK with
   |wr=>exact absurd rfl n3
   |_=>exact hg.elim
 ·have h1:=sE (C:=C) (J:=J) (s':=.at eK .run) (d':=C.d) (qi:=C.dm) (m':=m') (c':=c') (v':=C.v) (eP:=C.wt) (eI:=C.ws) (qL:=C.γ) (qM:=C.dn) (eZ:=C.tok) ll e;have h2:=TB (C:=C) (J:=J) (s':=.at eK .run) (d':=C.d) (qi:=C.dm) (m':=m') (c':=c') (v':=C.v) (eP:=C.wt) (eI:=C.ws) (qL:=C.γ) (qM:=C.dn) (eZ:=C.tok) ll e;change yU J (C.mv k eK m' c')+jg J C.v C.d+P3 pc=yU J C+jg J C.v C.d+P3 eK at h1;change LG J (C.mv k eK m' c')+bw (LC pc)+7 *C.c=LG J C+bw (LC eK)+7 *c' at h2;rw[hp,PG]at h2;have vA:=(sD hL).1;have ib:Lock.Ok C.m p:=by
   have:=h.lock.ok k ll;simp_all
  rcases hr with hr|⟨hr,ha⟩
  ·exact LH hn vA (by omega)
  ·rcases hm.down ib with h3|⟨_,h3⟩|⟨_,h3,rfl,rfl,h4⟩
   ·omega
   ·exact anN hn (by omega) (by omega)
   ·have h5:=NV (C:=C) (J:=J) (s':=.at eK .run) (d':=C.d) (qi:=C.dm) (c':=C.c) (v':=C.v) (eP:=C.wt) (eI:=C.ws) (qL:=C.γ) (qM:=C.dn) (eZ:=C.tok) ll e;change wV J (C.mv k eK C.m C.c)+dw C.m (LC pc)=wV J C+dw C.m (LC eK)at h5;rw[hp,PG]at h5;exact anO (by omega) (by omega) (by omega)
theorem CI.mvL{x:Nat}{p p':PC}{m':Word}(h:CI J cO C)(hn:J.n<=8)(hk:k<C.j)(e:C.ks k=.at (.lk p x) .run)(hm:Mv p C.m C.c p' m' c'):CI J cO (C.mv k (Env.behind p' x) m' c')/\mu J (C.mv k (Env.behind p' x) m' c')<mu J C:=by
 have h2:=h.Rr k p x _ e;rcases acm hm h2 with rfl|h3
 ·exact h.mv hn hk e rfl rfl hm (fun y=>rfl) nofun nofun nofun (.inl (by show 14<14+dy p;omega)) nofun nofun
 ·have eb:Env.behind (E:=E) p' x=.lk p' x:=by
   cases p'<;>first|rfl|(cases h3;done)
  rw[eb];exact h.mv hn hk e rfl rfl hm (fun y=>rfl) nofun nofun nofun (.inr ⟨by show 14+dy p'=14+dy p;omega,by show dy p'=dy p;omega⟩) (fun p0 x0 e0=>by cases e0;exact h3) nofun
theorem CI.mvU{pc:E.vz}{p p':PC}{m':Word}(h:CI J cO C)(hn:J.n<=8)(hk:k<C.j)(e:C.ks k=.at pc .run)(V9:(pc=.u0/\p=.cr)\/pc=.un p)(hm:Mv p C.m C.c p' m' c'):CI J cO (C.mv k (Env.oI p') m' c')/\mu J (C.mv k (Env.oI p') m' c')<mu J C:=by
 have h0:dy p=0/\p≠.out\/p=.cr:=by
  rcases V9 with⟨rfl,rfl⟩|rfl
  ·exact .inr rfl
  ·exact .inl (h.LF k p _ e)
 have hl:LC pc=p:=by rcases V9 with⟨rfl,rfl⟩|rfl<;>rfl
 have hh:∀y,pw y pc=0:=by rcases V9 with⟨rfl,rfl⟩|rfl<;>exact fun y=>rfl
 have n1:∀γ,pc≠.ur γ:=by rcases V9 with⟨rfl,rfl⟩|rfl<;>nofun
 have hrk:9<=P3 pc/\(pc=.un p->P3 pc=9)/\(pc=.u0->P3 pc=10):=by
  rcases V9 with⟨rfl,rfl⟩|rfl
  ·exact⟨by show 9<=10;omega,nofun,fun _=>rfl⟩
  ·have:=h.LF k p _ e;exact⟨by show 9<=9+dy p;omega,fun _=>by show 9+dy p=9;omega,nofun⟩
 rcases Xx hm h0 with rfl|⟨h3,h4⟩
 ·exact h.mv hn hk e hl rfl hm (fun y=>by rw[hh];rfl) n1 nofun nofun (.inl (by have:=hrk.1;show 8<P3 pc;omega)) nofun nofun
 ·have eb:Env.oI (E:=E) p'=.un p':=by
   cases p'<;>first|rfl|exact absurd rfl h4
  rw[eb];refine h.mv hn hk e hl rfl hm (fun y=>by rw[hh];rfl) n1 nofun nofun ?_ nofun (fun p0 e0=>by cases e0;exact⟨h3,h4⟩);rcases V9 with⟨rfl,rfl⟩|rfl
  ·exact .inl (by show 9+dy p'<10;omega)
  ·exact .inr ⟨by rw[hrk.2.1 rfl];show 9+dy p'=9;omega,by show dy p'=dy p;rw[h3];exact(h.LF k p _ e).1.symm⟩
def jE.take(C:jE E)(k x:Nat):=C.wk k (.at (.ur (E.upd C.γ x)) .run) C.d C.dm C.m C.c C.v C.wt C.ws (E.upd C.γ x) (C.dn++[x]) (some k)
theorem CI.free{x:Nat}{md:Md}(h:CI J cO C)(hk:k<C.j)(e:C.ks k=.at (.la x) md):C.tok=none:=by
 cases ht:C.tok with
 |none=>rfl
 |some i=>
  obtain⟨kg,e'⟩:=h.Aw i ht;have hi:=ajM (Nat.lt_of_not_le fun y=>by rw[h.no i y]at e';cases e') h.jn;have:=h.lock.one hi (ajM hk h.jn) (by rw[e'];rfl) (by rw[e];rfl);simp_all
theorem CI.take{x:Nat}(h:CI J cO C)(hn:J.n<=8)(hk:k<C.j)(e:C.ks k=.at (.la x) .run):CI J cO (C.take k x)/\mu J (C.take k x)<mu J C:=by
 have ll:k<J.n:=ajM hk h.jn;have ht:=h.free hk e;refine⟨h.wk hk e nofun ?_ (fun i hi=>.inl ⟨(akF hi).symm,_,rfl⟩) (fun γ md e'=>rfl) (fun i _ hi=>by rw[ht]at hi;cases hi) (fun Xw Ay e0=>by cases e0;exact⟨nofun,fun y=>by rcases y with y|y<;>cases y⟩) h.NS (fun y=>?_) ?_ rfl (fun e2 e0 hp=>hp) (fun hg=>hg.elim) (ajI _) h.HH nofun nofun nofun h.w2,LH hn h.c1 ?_⟩
 ·have:lY (de.at (.ur (E.upd C.γ x)) .run:de E)=(fun i=>lY (C.ks i)) k:=by
   show PC.cr=lY (C.ks k)
   rw[e];rfl
  rw[this,uw];exact h.lock
 ·show(C.dn++[x]).count y+0+_=C.dn.count y+(if x=y then 1 else 0)+_
  rw[akM,akP,List.count_nil];simp only[beq_iff_eq];omega
 ·rw[List.foldl_append,<-h.fold];rfl
 ·have h1:=sE (C:=C) (J:=J) (s':=.at (.ur (E.upd C.γ x)) .run) (d':=C.d) (qi:=C.dm) (m':=C.m) (c':=C.c) (v':=C.v) (eP:=C.wt) (eI:=C.ws) (qL:=E.upd C.γ x) (qM:=C.dn++[x]) (eZ:=some k) ll e;change yU J (C.take k x)+jg J C.v C.d+13=yU J C+jg J C.v C.d+12 at h1;omega
def jE.give(C:jE E)(k:Nat):=C.wk k (.at .ud .run) C.d C.dm C.m C.c C.v C.wt C.ws C.γ C.dn none
theorem CI.give{γ:E.Γ}(h:CI J cO C)(hn:J.n<=8)(hk:k<C.j)(e:C.ks k=.at (.ur γ) .run):CI J cO (C.give k)/\mu J (C.give k)<mu J C/\C.tok=some k/\C.γ=γ:=by
 have ll:k<J.n:=ajM hk h.jn;have ht:=h.LD k γ _ e;refine⟨h.wk hk e nofun ?_ nofun (fun γ md e'=>by cases e') (fun i hi eO=>by rw[ht]at eO;exact absurd (akF eO).symm hi) (fun Xw Ay e0=>by cases e0;exact⟨nofun,fun y=>by rcases y with y|y<;>cases y⟩) h.NS (fun y=>rfl) h.fold rfl (fun e2 e0 hp=>hp) (fun hg=>hg.elim) (ajI _) h.HH nofun nofun nofun h.w2,LH hn h.c1 ?_,ht,?_⟩
 ·have:lY (de.at .ud .run:de E)=(fun i=>lY (C.ks i)) k:=by
   show PC.cr=lY (C.ks k)
   rw[e];rfl
  rw[this,uw];exact h.lock
 ·have h1:=sE (C:=C) (J:=J) (s':=.at .ud .run) (d':=C.d) (qi:=C.dm) (m':=C.m) (c':=C.c) (v':=C.v) (eP:=C.wt) (eI:=C.ws) (qL:=C.γ) (qM:=C.dn) (eZ:=none) ll e;change yU J (C.give k)+jg J C.v C.d+12=yU J C+jg J C.v C.d+11 at h1;omega
 ·obtain⟨md,e'⟩:=h.Aw k ht;rw[e]at e';cases e';rfl
def jE.hand(J:jf)(C:jE E)(k x i:Nat):=C.wk k (.at (.ld x) .run) (J.sends C.L (i+1)) .run C.m C.c C.v C.wt C.ws C.γ C.dn C.tok
theorem kh:(i<J.ay.length/\J.sends L i=.send L i)\/(¬i<J.ay.length/\J.sends L i=.close L 0):=by
 unfold jf.sends;by_cases h2:i<J.ay.length
 ·simp_all
 ·simp_all
theorem E5.early{d:pJ}{wt ws e2 e0:Nat}(h:E5 d v wt ws e2 e0)(hw:¬wy d):wt=0/\ws=0/\e2=0/\e0=0:=by
 rcases h with y|y
 ·omega
 ·simp_all
theorem CI.hand{x:Nat}{md:Md}(h:CI J cO C)(hn0:0<J.n)(hn:J.n<=8)(hk:k<C.j)(e:C.ks k=.at .recv md)(hd:C.d=.send C.L i)(hx:J.ay[i]?=some x):CI J cO (C.hand J k x i)/\mu J (C.hand J k x i)<mu J C:=by
 have ll:k<J.n:=ajM hk h.jn;have H3:=h.HH;rw[hd]at H3;have hL:Lock.Inv (Lock.put (fun i=>lY (C.ks i)) k (lY (de.at (.ld x) .run:de E))) J.n C.m C.c:=
  Lock.eY h.lock ll (p:=.out) (by show lY (C.ks k)=.out;rw[e];rfl) trivial rfl rfl rfl rfl rfl rfl rfl rfl
 refine⟨h.wk hk e nofun hL (fun i hi=>.inr ⟨h.TC e nofun hi,hi,rfl⟩) nofun (fun i _ hi=>hi) (fun Xw Ay e0=>by cases e0;exact⟨nofun,fun y=>by rcases y with y|y<;>cases y⟩) ⟨nofun,nofun,nofun⟩ (fun y=>?_) h.fold ?_ (fun e2 e0 hp=>?_) (fun hg=>hg.elim) ?_ ?_ nofun nofun nofun (fun v0 e0=>by rcases kh (J:=J) (L:=C.L) (i:=i+1)with⟨_,h2⟩|⟨_,h2⟩<;>rw[h2]at e0<;>cases e0),LH hn h.c1 ?_⟩
 ·have s1:rH J (J.sends C.L (i+1))=i+1:=by
   rcases kh (J:=J) (L:=C.L) (i:=i+1)with⟨h1,h2⟩|⟨h1,h2⟩<;>rw[h2]
   ·rfl
   ·show J.ay.length=i+1
    have:=H3.2.2;omega
  rw[s1,hd];show C.dn.count y+(if x=y then 1 else 0)+(J.ay.take i).count y=C.dn.count y+0+(J.ay.take (i+1)).count y
  rw[List.take_add_one,hx,akM];show _=_+(_+List.count y [x])
  rw[akP,List.count_nil];simp only[beq_iff_eq];omega
 ·rw[hd];rcases kh (J:=J) (L:=C.L) (i:=i+1)with⟨h1,h2⟩|⟨h1,h2⟩<;>rw[h2]<;>rfl
 ·rw[hd]at hp;obtain⟨a1,a2,a3,a4⟩:=hp.early id;rcases kh (J:=J) (L:=C.L) (i:=i+1)with⟨h1,h2⟩|⟨h1,h2⟩<;>rw[h2]<;>exact .inl ⟨a1,a2,a3,a4,id,fun y=>y.elim⟩
 ·rw[hd];exact Nat.zero_le _
 ·rcases kh (J:=J) (L:=C.L) (i:=i+1)with⟨h1,h2⟩|⟨h1,h2⟩<;>rw[h2]
  ·exact⟨rfl,H3.2.1,h1⟩
  ·exact⟨rfl,H3.2.1,hn0⟩
 ·have h1:=sE (C:=C) (J:=J) (s':=.at (.ld x) .run) (d':=J.sends C.L (i+1)) (qi:=.run) (m':=C.m) (c':=C.c) (v':=C.v) (eP:=C.wt) (eI:=C.ws) (qL:=C.γ) (qM:=C.dn) (eZ:=C.tok) ll e;change yU J (C.hand J k x i)+jg J C.v C.d+7=yU J C+jg J C.v (J.sends C.L (i+1))+17 at h1;have:=H3.2.2;rw[hd]at h1;rcases kh (J:=J) (L:=C.L) (i:=i+1)with⟨h2,h3⟩|⟨h2,h3⟩<;>rw[h3]at h1<;>simp only[jg]at h1<;>omega
theorem CI.shut{md:Md}(h:CI J cO C)(hn:J.n<=8)(hk:k<C.j)(e:C.ks k=.at .recv md)(hc:k<aU J C.d):CI J cO (C.w1 k (.at .wr .run))/\mu J (C.w1 k (.at .wr .run))<mu J C:=
 ⟨h.quiet hk e rfl (fun y=>rfl) nofun nofun ⟨nofun,fun y=>by simp_all⟩ (fun _=>hc) nofun nofun,N1 hn h.c1 (ajM hk h.jn) e (by show 6<7;omega)⟩
theorem CI.slip{s s':de E}(h:CI J cO C)(hk:k<C.j)(e:C.ks k=s)(hl:lY s=.out)(Zy:lY s'=.out)(ne:s'≠.no)(ha:∀pc md,s'≠.at pc md)(hh:∀y,px y s=0)(hu:∀γ md,s≠.at (.ur γ) md)
  (NT:v'+wv s'=C.v+wv s)(ph:∀e2 e0,E5 C.d C.v C.wt C.ws (e2+oK s) (e0+py s)->E5 C.d v' eP eI (e2+oK s') (e0+py s'))(hg:Gone s)(hs:∀i n,s'=.dV i n->i<=4)(hv:v'<=C.v):CI J cO (C.wk k s' C.d C.dm C.m C.c v' eP eI C.γ C.dn C.tok):=by
 refine h.wk hk e ne ?_ (fun i hi=>.inr ⟨?_,hi,rfl⟩) (fun γ md e'=>absurd e' (ha _ _)) (fun i _ hi=>hi) (fun pc md e'=>absurd e' (ha _ _)) h.NS (fun y=>?_) h.fold (by omega) ph (fun _=>h.gone k (by simp_all)) (ajI _) h.HH (fun p x md e'=>absurd e' (ha _ _)) (fun p md e'=>absurd e' (ha _ _)) hs (fun v0 e0=>⟨(h.w2 v0 e0).1,akw hv (h.w2 v0 e0).2⟩)
 ·have:lY s'=(fun i=>lY (C.ks i)) k:=by simp_all
  rw[this,uw];exact h.lock
 ·rintro rfl;obtain⟨kg,e'⟩:=h.Aw i hi;rw[e]at e';simp_all
 ·have:px y s'=0:=by
   cases s' with
   |«at» pc md=>exact absurd rfl (ha pc md)
   |_=>rfl
  simp_all
end
end Ph
namespace Ph
open Conc Ren
section
variable(E:Env)(RO:Nat->Prop)(b:Nat)
def Seen(B:Nat)(op:MemOp):=op.act.low B/\∀a,op.act≠.mark (.release a)
def gi(b:Nat)
 |0=>0
 |k+1=>b+k
open Classical in
noncomputable def nW (XX:Nat->Nat->Prop) (a:Nat):Xe:=if RO a then .ro else if a=E.Mp then .pr else if h:∃i,XX i a then .own (gi b (akx h))else .no
open Classical in
noncomputable def iW (XX:Nat->Nat->Prop):Loc->Xe
 |.cell a=>if E.U a.block a.off then .at else nW E RO b XX a.block
 |.obj a=>nW E RO b XX a
 |_=>.no
end
section
variable{E:Env}{RO:Nat->Prop}{b:Nat}{XX ZZ:Nat->Nat->Prop}
theorem Xy(h:RO a):nW E RO b XX a=.ro:=by unfold nW;simp_all
theorem E6(h:¬RO E.Mp):nW E RO b XX E.Mp=.pr:=by unfold nW;simp_all
theorem H4(h:¬RO a)(hm:a≠E.Mp)(hx:XX i a)(hu:∀i',XX i' a->i'=i):nW E RO b XX a=.own (gi b i):=by
 unfold nW;rw[if_neg h,if_neg hm,dif_pos ⟨i,hx⟩,hu _ (Classical.choose_spec (⟨i,hx⟩:∃i,XX i a))]
theorem wW(h:∀i,ZZ i a↔XX i a):nW E RO b ZZ a=nW E RO b XX a:=by
 have:=funext fun i=>propext (h i);have key:∀p p':Nat->Prop,p'=p->(open Classical in(if RO a then Xe.ro else if a=E.Mp then .pr else if h:∃i,p' i then .own (gi b (akx h))else .no))=(open Classical in(if RO a then Xe.ro else if a=E.Mp then .pr else if h:∃i,p i then .own (gi b (akx h))else .no)):=by simp
 exact key _ _ this
theorem Az(h:∀i a,a<B->(ZZ i a↔XX i a)){l:Loc}(hl:l.low B):iW E RO b ZZ l=iW E RO b XX l:=by
 cases l with
 |cell a=>simp[iW];rw[wW fun i=>h i _ hl]
 |obj a=>exact wW fun i=>h i _ hl
 |_=>rfl
theorem Dr:∀l,l.isMemory=false->iW E RO b XX l=.no
 |.cell _,h=>by cases h
 |.obj _,h=>by cases h
 |.output,_=>rfl
 |.goroutines,_=>rfl
 |.mark _,_=>rfl
def AA(E:Env):Loc->Prop
 |.cell a=>E.U a.block a.off
 |_=>False
theorem N4(a:Nat):nW E RO b XX a≠.at:=by
 unfold nW;split
 ·nofun
 ·split
  ·nofun
  ·split<;>nofun
theorem H7{l:Loc}(h:iW E RO b XX l=.at):AA E l:=by
 cases l with
 |cell a=>
  simp only[iW]at h;split at h
  ·assumption
  ·exact absurd h (N4 _)
 |obj a=>exact absurd h (N4 _)
 |_=>cases h
theorem E7{op:MemOp}{x:Touch}(h:op.act.low B)(hx:op.act.touch?=some x):x.loc.low B:=by
 obtain⟨g,fn,pos,act⟩:=op;cases act with
 |access e=>simp[ajS,ajY]at hx;subst hx;exact h
 |mark m=>
  cases m<;>simp[ajS,ajY]at hx<;>first|(subst hx;exact h)|cases hx
 |_=>simp[ajS]at hx
variable{j:Nat}{dS:Loc->Prop}{t:Trace}{tok:Option Nat}{rel:Nat->Option Nat}{w w1:World}{S X S1 X1:Nat->Prop}{es:Array Event}{i:Nat}{fn:FuncId}{pos:String}
theorem eD{g:Nat}{op:MemOp}(h:op∈ajU g fn pos es):∃e∈es,op={g,fn,pos,act:=.ofEvent e}:=by
 rw[ofEvents_eq]at h;obtain⟨e,he,rfl⟩:=Array.mem_map.1 h;exact⟨e,he,rfl⟩
theorem TE{mu:Addr}(hd:iF E.U S X w w1 es S1 X1)(g:Nat)(cls:Loc->Xe)(hS:∀a:Nat,S a->(cls (.obj a)=.ro/\¬X a)\/(cls (.obj a)=.pr/\tok=some g)\/cls (.obj a)=.own g)(hc:∀a:Addr,¬E.U a.block a.off->cls (.cell a)=cls (.obj a.block))(hn:∀a,w.heap.size<=a->a<w1.heap.size->cls (.obj a)=.own g):
  ∀op∈ajU g fn pos es,OkOp mu wg cls tok g op:=by
 intro op bg;obtain⟨e,he,rfl⟩:=eD bg;obtain⟨loc,wr,sy⟩:=e;have fin:∀{a:Nat} {l:Loc},cls l=cls (.obj a)->((S a/\(wr=true->X a))\/(w.heap.size<=a/\a<w1.heap.size))->(cls l=.ro/\wr=false)\/(cls l=.pr/\tok=some g)\/cls l=.own g:=by
  intro a l hl h;rw[hl];rcases h with⟨h1,h2⟩|⟨h1,h2⟩
  ·rcases hS a h1 with⟨y,z⟩|y|y
   ·simp_all
   ·exact .inr (.inl y)
   ·exact .inr (.inr y)
  ·exact .inr (.inr (hn a h1 h2))
 rcases hd.ev _ he with⟨a,e1,e2,h⟩|⟨a,e1,e2,h⟩|⟨m,e1,h⟩|e1
 ·simp only at e1 e2;subst e1 e2;refine⟨rfl,nofun,nofun,fun x hx=>?_⟩;simp only[ajT,ajS,ajY]at hx;subst hx;rcases fin (hc a (hd.nou _ he a rfl)) h with y|y|y
  ·simp_all
  ·exact .inr (.inr (.inr (.inr (.inl y))))
  ·simp_all
 ·simp only at e1 e2;subst e1 e2;have ha:ajT ⟨.obj a,wr,false⟩=.access ⟨.obj a,wr,false⟩:=by cases wr<;>rfl
  refine⟨rfl,by rw[ha];nofun,by rw[ha];nofun,fun x hx=>?_⟩;simp only[ha,ajS,ajY]at hx;subst hx;rcases fin rfl h with y|y|y
  ·exact .inr (.inr (.inr (.inl y)))
  ·exact .inr (.inr (.inr (.inr (.inl y))))
  ·simp_all
 ·simp only at e1;subst e1;refine⟨rfl,?_,?_,fun x hx=>?_⟩
  ·rcases h with rfl|⟨f,rfl⟩<;>nofun
  ·rcases h with rfl|⟨f,rfl⟩<;>nofun
  ·rcases h with rfl|⟨f,rfl⟩<;>simp[ajT,ajS]at hx
 ·simp only at e1;subst e1;refine⟨rfl,nofun,nofun,fun x hx=>?_⟩;simp only[ajT,ajS,ajY]at hx;subst hx;exact .inl rfl
theorem TF(hd:iF E.U S X w w1 es S1 X1)(g:Nat):∀op∈ajU g fn pos es,∀a,op.act≠.mark (.release a):=by
 intro op bg a0;obtain⟨e,he,rfl⟩:=eD bg;obtain⟨loc,wr,sy⟩:=e;rcases hd.ev _ he with⟨a,e1,e2,h⟩|⟨a,e1,e2,h⟩|⟨m,e1,h⟩|e1
 ·subst e1 e2;nofun
 ·subst e1 e2;have ha:ajT ⟨.obj a,wr,false⟩=.access ⟨.obj a,wr,false⟩:=by cases wr<;>rfl
  simp_all
 ·subst e1;rcases h with rfl|⟨f,rfl⟩<;>nofun
 ·subst e1;nofun
theorem Xz(hd:iF E.U S X w w1 es S1 X1)(hS:∀a,S a->a<w.heap.size)(g:Nat):∀op∈ajU g fn pos es,op.act.low w1.heap.size:=by
 intro op bg;obtain⟨e,he,rfl⟩:=eD bg;obtain⟨loc,wr,sy⟩:=e;have hg:=hd.grow;rcases hd.ev _ he with⟨a,e1,e2,h⟩|⟨a,e1,e2,h⟩|⟨m,e1,h⟩|e1
 ·subst e1 e2;show a.block<_
  rcases h with⟨h,_⟩|h
  ·have:=hS _ h;omega
  ·omega
 ·subst e1 e2;have ha:ajT ⟨.obj a,wr,false⟩=.access ⟨.obj a,wr,false⟩:=by cases wr<;>rfl
  rw[ha];show a<_
  rcases h with⟨h,_⟩|h
  ·have:=hS _ h;omega
  ·omega
 ·subst e1;rcases h with rfl|⟨f,rfl⟩<;>trivial
 ·subst e1;trivial
theorem H8(hd:iF E.U S X w w1 es S1 X1)(d:Nat):deafBehind d es=d:=by
 refine deafBehind_still (fun e he=>?_) d;obtain⟨loc,wr,sy⟩:=e;rcases hd.ev _ he with⟨a,e1,e2,h⟩|⟨a,e1,e2,h⟩|⟨m,e1,h⟩|e1<;>simp only at e1<;>subst e1
 ·simp
 ·simp
 ·rcases h with rfl|⟨f,rfl⟩<;>exact⟨nofun,nofun⟩
 ·simp
theorem H9(hd:iF E.U S X w w1 es S1 X1)(hS:∀a,S a->a<w.heap.size)(g:Nat):∀op∈ajU g fn pos es,Seen w1.heap.size op:=fun op bg=>⟨Xz hd hS g op bg,TF hd g op bg⟩
theorem AB{mu:Addr}(h:Env.EvA bl es)(hb:bl=E.Fd\/bl=E.Wg)(g:Nat):∀op∈ajU g fn pos es,OkOp mu wg (iW E RO b XX) tok g op:=by
 intro op bg;obtain⟨e,he,rfl⟩:=eD bg;have cell:∀(a:Addr) (wr:Bool),a.block=bl->a.off<2->OkOp mu wg (iW E RO b XX) tok g {g,fn,pos,act:=.ofEvent ⟨.cell a,wr,true⟩}:=by
  intro a wr h1 h2;refine⟨rfl,nofun,nofun,fun x hx=>?_⟩;simp[ajT,ajS,ajY]at hx;subst hx;refine .inr (.inl ⟨?_,rfl⟩);have hu:E.U a.block _:=⟨by omega,h2⟩;simp[iW];simp_all
 rcases h with h|⟨o,ho,rfl⟩
 ·obtain⟨a,wr,rfl,h1,h2,_⟩:=h e he;exact cell a wr h1 h2
 ·simp[semEvents,akq,aku,akr,or_false]at he;rcases he with rfl|rfl|rfl|rfl
  ·exact⟨rfl,nofun,nofun,fun x hx=>by simp[ajT,ajS]at hx⟩
  ·simp_all
  ·simp_all
  ·exact⟨rfl,nofun,nofun,fun x hx=>by simp[ajT,ajS]at hx⟩
theorem XA(h:Env.EvA bl es)(hb:bl<B)(g:Nat):∀op∈ajU g fn pos es,op.act.low B:=by
 intro op bg;obtain⟨e,he,rfl⟩:=eD bg;rcases h with h|⟨o,ho,rfl⟩
 ·obtain⟨a,wr,rfl,h1,h2,_⟩:=h e he;show a.block<B
  omega
 ·simp[semEvents,akq,aku,akr,or_false]at he;rcases he with rfl|rfl|rfl|rfl
  ·trivial
  ·exact hb
  ·exact hb
  ·trivial
theorem AD(h:Env.EvA bl es)(hb:bl<B)(g:Nat):∀op∈ajU g fn pos es,Seen B op:=by
 intro op bg;refine⟨XA h hb g op bg,fun a0=>?_⟩;obtain⟨e,he,rfl⟩:=eD bg;rcases h with h|⟨o,ho,rfl⟩
 ·obtain⟨a,wr,rfl,h1,h2,_⟩:=h e he;nofun
 ·simp[semEvents,akq,aku,akr,or_false]at he;rcases he with rfl|rfl|rfl|rfl<;>nofun
theorem uy(h:Env.EvA bl es)(d:Nat):deafBehind d es=d:=by
 rcases h with h|⟨o,ho,rfl⟩
 ·refine deafBehind_still (fun e he=>?_) d;obtain⟨a,wr,rfl,_⟩:=h e he;simp_all
 ·simp[semEvents,deafBehind]
theorem Cj(h:Env.EvA bl es){g:Nat}(hd:0<Deaf t g):∀i x,t.size<=i->touchAt (t++ajU g fn pos es) i=some x->x.loc.isMemory=true->x.kind=.atomic/\¬(t++ajU g fn pos es).counts i/\∃a:Addr,x.loc=.cell a/\a.block=bl/\a.off<2:=by
 intro i x hi hx hm;obtain⟨op,ho,hxt⟩:=touch_of hx;have hj:=by
  rw[Array.getElem?_append]at ho;simpa[Nat.not_lt.2 hi]using ho
 have F3:=hj;rw[ofEvents_eq,akL]at hj;obtain⟨e,he,rfl⟩:=ako.1 hj;have hjs:i-t.size<=es.size:=by
  rcases akI (i-t.size) es.size with h'|h'
  ·omega
  ·simp_all
 have rk:∀n,n<=es.size->(∃e,es[n]?=some e/\∃a wr,e=⟨.cell a,wr,true⟩)->0<deafBehind (Deaf t g) (es.extract 0 n):=by
  intro n hn fF;rcases h with h|⟨o,ho,rfl⟩
  ·rw[deafBehind_still (fun e he=>?_)]
   ·exact hd
   ·obtain⟨a,wr,rfl,_⟩:=h e (by
     obtain⟨k,hk,rfl⟩:=Array.mem_iff_getElem.1 he;simp only[Array.getElem_extract];exact Array.getElem_mem _)
    exact⟨nofun,nofun⟩
  ·have hs:(semEvents ⟨bl,o,none⟩).size=4:=rfl;obtain⟨e,he,a,wr,rfl⟩:=fF;have:n=0\/n=1\/n=2\/n=3\/n=4:=by omega
   rcases this with rfl|rfl|rfl|rfl|rfl
   ·simp[semEvents]at he
   ·simp[semEvents,deafBehind]
   ·simp[semEvents,deafBehind]
   ·simp[semEvents]at he
   ·simp[semEvents]at he
 have fF:∃a wr,e=⟨.cell a,wr,true⟩/\a.block=bl/\a.off<2:=by
  rcases h with h|⟨o,ho2,rfl⟩
  ·obtain⟨a,wr,rfl,h1,h2,_⟩:=h e (akG he);exact⟨a,wr,rfl,h1,h2⟩
  ·have:=akG he;simp only[semEvents,akq,aku,akr,or_false]at this;rcases this with rfl|rfl|rfl|rfl
   ·simp[ajT,ajS]at hxt
   ·exact⟨_,_,rfl,rfl,ho2⟩
   ·simp_all
   ·simp[ajT,ajS]at hxt
 obtain⟨a,wr,rfl,h1,h2⟩:=fF;have hxk:=by
  simp only[ajT,ajS,ajY]at hxt;exact hxt.symm
 subst hxk;refine⟨rfl,?_,a,rfl,h1,h2⟩;rintro⟨y,hy,_,hk⟩;have:=akF (hy.symm.trans hx);subst this;rcases hk with hk|⟨g',hg,Z3⟩
 ·exact hk rfl
 ·have ju:g'=g:=by simp[Trace.g?,ho]at hg;exact hg.symm
  subst ju;have h3:=Go.Conc.deaf_inside t g' fn pos es (i-t.size) hjs;rw[show t.size+(i-t.size)=i by omega,Z3]at h3;have h4:=rk _ hjs ⟨_,he,a,wr,rfl⟩;omega
end
end Ph
namespace Ph
open Conc Ren
open Lock (Word PC Mv bn dy bw dw)
open ConcN (sumTo upd sumTo_upd upd_ne upd_same)
structure bA where
 P:Program
 E:Env
 J:jf
 b:Nat
 A:Nat->(Nat->Prop)->(Nat->Prop)->Goroutine->World->Prop
 uk:Nat->Goroutine->World->Prop
 Fin:(Nat->Prop)->(Nat->Prop)->Goroutine->World->Prop
 RO:Nat->Prop
 dS:Loc->Prop
 ok:Nat->Prop
 cO:E.Γ
 w0:World
structure bA.Laws(Q:bA):Prop where
 n0:0<Q.J.n
 n8:Q.J.n<=8
 b0:0<Q.b
 okn:∀x∈Q.J.ay,Q.ok x
 fw:Q.E.Fd≠Q.E.Wg
 mf:Q.E.Mp≠Q.E.Fd
 mw:Q.E.Mp≠Q.E.Wg
 rf:Q.RO Q.E.Fd
 rw:Q.RO Q.E.Wg
 rm:¬Q.RO Q.E.Mp
 shU:∀l,AA Q.E l->Q.dS l
 TG:∀{c:Nat} {S X:Nat->Prop} {g:Goroutine} {w:World},Q.A c S X g w->g.status=.running/\g.offers=none
 TH:∀{c:Nat} {S X:Nat->Prop} {g:Goroutine} {w:World},Q.A c S X g w->∀w2,stepG Q.P false g w2=.comm g #[rcase c Q.E.zc] true (.recv true) w2 #[]
 acn:∀{c:Nat} {S X:Nat->Prop} {g:Goroutine} {w w2:World} {x:Nat},Q.A c S X g w->aP Q.E.U S w w2->Q.ok x->∀k,Q.E.Tree Q.P false (Q.E.eJ Q.P (Q.A c) k (.ld x)) S X (Go.Conc.served g (recvd true (.int .i64 (x:Int)) true)) w2
 Z4:∀{c:Nat} {S X:Nat->Prop} {g:Goroutine} {w w2:World},Q.A c S X g w->aP Q.E.U S w w2->∀k,Q.E.Tree Q.P false (Q.E.eJ Q.P (Q.A c) k .wr) S X (Go.Conc.served g (recvd true Q.E.zc false)) w2
 kid:∀{c:Nat} {g:Goroutine} {w:World},Q.uk c g w->Q.E.Tree Q.P false (Q.A c) Q.RO (fun _=>False) g w
def TI(c:Nat)(z:Value):Md->Goroutine->Goroutine
 |.run,g=>g
 |.blk,g=>{g with status:=.blocked}
 |.fH,g=>parked g #[rcase c z] (.recv true)
 |.rG,g=>{parked g #[rcase c z] (.recv true)with status:=.running}
namespace bA
variable(Q:bA)
def ch(C:jE Q.E)(k:Nat):=C.L.getD k 0
abbrev DS(fu:Nat)(d:pJ):=Q.E.lh Q.P Q.J Q.uk Q.Fin fu d
abbrev WS(c fu:Nat)(pc:Q.E.vz):=Q.E.eJ Q.P (Q.A c) fu pc
def XC(c:Nat)(gs:Array Goroutine)(t:Trace)(k:Nat)(nd:Nd)(fu:Nat):de Q.E->Prop
 |.no=>False
 |.at pc md=>gs[Q.b+k]?=some (TI c Q.E.zc md nd.g)/\Tz Q.P false Q.E.U (Q.WS c fu pc) nd.S nd.X nd.g nd.w/\(md≠.run->Q.WS c fu pc nd.S nd.X nd.g nd.w)
 |.dV i n=>∃g,gs[Q.b+k]?=some g/\Env.rj Q.P (Q.E.EW Q.P i) n g
 |.qt q=>∃g,gs[Q.b+k]?=some g/\QuitsD Q.P q (Deaf t (Q.b+k)) g
def LI(gs:Array Goroutine)(nd:Nd)(fu:Nat)(L:List Nat)(d:pJ):Md->Prop
 |.run=>gs[0]?=some nd.g/\Tz Q.P true Q.E.U (Q.DS fu d) nd.S nd.X nd.g nd.w
 |.blk=>gs[0]?=some {nd.g with status:=.blocked}/\nd.g.offers=none/\nd.g.status=.running/\Q.DS fu d nd.S nd.X nd.g nd.w
 |.fH=>Q.DS fu d nd.S nd.X nd.g nd.w/\∃i c x z N5,d=.send L i/\fu=N5+1/\L[i%Q.J.n]?=some c/\Q.J.ay[i]?=some x/\gs[0]?=some (parked nd.g #[scase c (.int .i64 (x:Int)) z] .send)/\
   ∀w2,aP Q.E.U nd.S nd.w w2->Q.E.Tree Q.P true (Q.DS N5 (Q.J.sends L (i+1))) nd.S nd.X (Go.Conc.served nd.g undef) w2
 |.rG=>False
def rp(nd:Nat->Nd)(j:Nat)(L:List Nat)(i a:Nat):=(i<=j/\(nd i).X a)\/(i=0/\a∈L)
structure Sets(nd:Nat->Nd)(j:Nat)(L:List Nat)(tok:Option Nat)(B:Nat):Prop where
 LK:∀i i',i<=j->i'<=j->i≠i'->∀a,(nd i).X a->¬(nd i').S a
 low:∀i,i<=j->∀a,(nd i).S a->a<B
 sub:∀i,i<=j->∀a,(nd i).S a->Q.RO a\/(nd i).X a
 Ds:∀i,i<=j->∀a,Q.RO a->¬(nd i).X a
 xs:∀i,i<=j->∀a,(nd i).X a->(nd i).S a
 mp:∀i,i<=j->(nd i).S Q.E.Mp->∃k,i=k+1/\tok=some k
 kj:∀a,Q.RO a->a<B
 XD:Q.E.Mp<B
 H_:∀c∈L,c<B/\¬Q.RO c/\c≠Q.E.Mp/\∀i,i<=j->¬(nd i).S c
structure Wd(C:jE Q.E)(w:World):Prop where
 mu:Q.E.MuAt w C.m C.c
 wg:Q.E.WgAt w C.v C.wt C.ws
 map:C.tok=none->Q.E.iA C.γ (w.heap[Q.E.Mp]?)
 shut:∀k,k<C.j->k<aU Q.J C.d->∃s,w.heap[Q.ch C k]?=some (.chan 0 #[] true s s false)
 opn:∀k,k<C.j->¬k<aU Q.J C.d->∃s,gq w (Q.ch C k) s
 tape:w.tape=Q.w0.tape
 out:w.output=Q.w0.output
def LM{E:Env}:de E->Prop
 |.dV _ _=>True
 |.qt _=>True
 |_=>False
noncomputable abbrev cls (nd:Nat->Nd) (j:Nat) (L:List Nat):=iW Q.E Q.RO Q.b (rp nd j L)
structure MI(C:jE Q.E)(nd:Nat->Nd)(fu:Nat->Nat)(gs:Array Goroutine)(w:World)(t:Trace)(q:Nat->Nat)(rel:Nat->Option Nat):Prop where
 size:gs.size=Q.b+C.j
 g0:Q.LI gs (nd 0) (fu 0) C.L C.d C.dm
 wk:∀k,k<C.j->Q.XC (Q.ch C k) gs t k (nd (k+1)) (fu (k+1)) (C.ks k)
 old:∀i g,0<i->i<Q.b->gs[i]?=some g->QuitsD Q.P (q i) (Deaf t i) g
 fuel:∀i,i<=C.j->mu Q.J C<=fu i
 Ia:∀i,i<=C.j->aP Q.E.U (nd i).S (nd i).w w
 bT:Q.Sets nd C.j C.L C.tok w.heap.size
 wd:Q.Wd C w
 tr:PT Q.b C.j Q.E.mu Q.E.st Q.dS (Q.cls nd C.j C.L) t (C.tok.map (Q.b+ ·)) rel
 deaf0:Deaf t 0=mT C.d
 iX:∀k,k<C.j->(∀q,C.ks k≠.qt q)->Deaf t (Q.b+k)=Hz (C.ks k)
 above:∀i,Q.b+C.j<=i->Deaf t i=0
 uz:∀k,k<C.j->((∃p,rel (Q.b+k)=some p)↔LM (C.ks k))
 Ib:∀k,C.j<=k->rel (Q.b+k)=none
 seen:∀op∈t,Seen w.heap.size op
end bA
section
variable{Q:bA}{nd:Nat->Nd}{j:Nat}{L:List Nat}{tok:Option Nat}{B:Nat}{C:jE Q.E}{w w1:World}{gs iQ:Array Goroutine}{t t':Trace}
theorem bA.Sets.uniq(h:Q.Sets nd j L tok B)(h1:bA.rp nd j L i a)(h2:bA.rp nd j L i' a):i=i':=by
 rcases h1 with⟨a1,a2⟩|⟨rfl,a2⟩<;>rcases h2 with⟨b1,b2⟩|⟨rfl,b2⟩
 ·by_cases e:i=i'
  ·exact e
  ·exact absurd (h.xs i' b1 a b2) (h.LK i i' a1 b1 e a a2)
 ·exact absurd (h.xs i a1 a a2) ((h.H_ a b2).2.2.2 i a1)
 ·exact absurd (h.xs i' b1 a b2) ((h.H_ a a2).2.2.2 i' b1)
 ·rfl
theorem bA.Sets.own(h:Q.Sets nd j L tok B)(hi:i<=j)(hx:(nd i).X a)(hm:a≠Q.E.Mp):nW Q.E Q.RO Q.b (bA.rp nd j L) a=.own (gi Q.b i):=
 H4 (fun y=>h.Ds i hi a y hx) hm (.inl ⟨hi,hx⟩) fun i' h'=>h.uniq h' (.inl ⟨hi,hx⟩)
theorem bA.Sets.held(h:Q.Sets nd j L tok B)(hrm:¬Q.RO Q.E.Mp)(hi:i<=j)(hs:(nd i).S a):(Q.cls nd j L (.obj a)=.ro/\¬(nd i).X a)\/(Q.cls nd j L (.obj a)=.pr/\tok.map (Q.b+ ·)=some (gi Q.b i))\/Q.cls nd j L (.obj a)=.own (gi Q.b i):=by
 rcases h.sub i hi a hs with y|y
 ·exact .inl ⟨Xy y,h.Ds i hi a y⟩
 ·by_cases hm:a=Q.E.Mp
  ·subst hm;obtain⟨k,rfl,rfl⟩:=h.mp i hi hs;exact .inr (.inl ⟨E6 hrm,rfl⟩)
  ·exact .inr (.inr (h.own hi y hm))
theorem TJ{a:Addr}(h:¬Q.E.U a.block a.off):Q.cls nd j L (.cell a)=Q.cls nd j L (.obj a.block):=by
 simp[iW];simp_all
theorem bA.Sets.did(h:Q.Sets nd j L tok w.heap.size)(hi:i<=j){n':Nd}(hd:iF Q.E.U (nd i).S (nd i).X w w1 es n'.S n'.X):Q.Sets (upd nd i n') j L tok w1.heap.size:=by
 have us:upd nd i n' i=n':=upd_same _ _ _;have un:∀k,k≠i->upd nd i n' k=nd k:=fun k hk=>upd_ne _ _ hk;have hg:=hd.grow;have S':∀k a,k<=j->(upd nd i n' k).S a->(nd k).S a\/(k=i/\w.heap.size<=a/\a<w1.heap.size):=by
  intro k a hk hs;by_cases e:k=i
  ·subst e;rw[us]at hs;exact((hd.held a).1 hs).imp id fun y=>⟨rfl,y⟩
  ·simp_all
 have X':∀k a,k<=j->(upd nd i n' k).X a->(nd k).X a\/(k=i/\w.heap.size<=a/\a<w1.heap.size):=by
  intro k a hk hs;by_cases e:k=i
  ·subst e;rw[us]at hs;exact((hd.may a).1 hs).imp id fun y=>⟨rfl,y⟩
  ·simp_all
 refine⟨fun k k' hk oo bj a hx hs=>?_,fun k hk a hs=>?_,fun k hk a hs=>?_,fun k hk a hr hx=>?_,fun k hk a hx=>?_,fun k hk hs=>?_,fun a ha=>ajM (h.kj a ha) hg,ajM h.XD hg,fun c hc=>?_⟩
 ·rcases X' k a hk hx with y|⟨rfl,y⟩<;>rcases S' k' a oo hs with z|⟨rfl,z⟩
  ·exact h.LK k k' hk oo bj a y z
  ·have:=h.low k hk a (h.xs k hk a y);omega
  ·have:=h.low k' oo a z;omega
  ·omega
 ·rcases S' k a hk hs with y|⟨_,y⟩
  ·exact ajM (h.low k hk a y) hg
  ·omega
 ·by_cases e:k=i
  ·subst e;rw[us]at hs⊢;rcases(hd.held a).1 hs with y|y
   ·exact(h.sub k hk a y).imp id fun z=>(hd.may a).2 (.inl z)
   ·exact .inr ((hd.may a).2 (.inr y))
  ·rw[un k e]at hs⊢;exact h.sub k hk a hs
 ·rcases X' k a hk hx with y|⟨_,y⟩
  ·exact h.Ds k hk a hr y
  ·have:=h.kj a hr;omega
 ·by_cases e:k=i
  ·subst e;rw[us]at hx⊢;exact(hd.held a).2 (((hd.may a).1 hx).imp (h.xs k hk a) id)
  ·rw[un k e]at hx⊢;exact h.xs k hk a hx
 ·rcases S' k _ hk hs with y|⟨_,y⟩
  ·exact h.mp k hk y
  ·have:=h.XD;omega
 ·obtain⟨h1,h2,h3,h4⟩:=h.H_ c hc;refine⟨ajM h1 hg,h2,h3,fun k hk hs=>?_⟩;rcases S' k c hk hs with y|⟨_,y⟩
  ·simp_all
  ·omega
theorem bA.aco(h:Q.Sets nd j L tok w.heap.size)(hi:i<=j){es:Array _}{n':Nd}(hd:iF Q.E.U (nd i).S (nd i).X w w1 es n'.S n'.X):∀k a,a<w.heap.size->(bA.rp (upd nd i n') j L k a↔bA.rp nd j L k a):=by
 intro k a ha;unfold bA.rp;by_cases e:k=i
 ·subst e;rw[upd_same];have:n'.X a↔(nd k).X a:=⟨fun y=>((hd.may a).1 y).resolve_right fun z=>by omega,fun y=>(hd.may a).2 (.inl y)⟩;rw[this]
 ·rw[upd_ne _ _ e]
theorem bA.Sets.same(h:Q.Sets nd j L tok B){n':Nd}(hS:n'.S=(nd i).S)(hX:n'.X=(nd i).X):Q.Sets (upd nd i n') j L tok B:=by
 have eS:∀k,(upd nd i n' k).S=(nd k).S:=fun k=>by
  by_cases e:k=i
  ·subst e;rw[upd_same];exact hS
  ·rw[upd_ne _ _ e]
 have eX:∀k,(upd nd i n' k).X=(nd k).X:=fun k=>by
  by_cases e:k=i
  ·subst e;rw[upd_same];exact hX
  ·rw[upd_ne _ _ e]
 refine⟨fun k k' hk oo bj a=>?_,fun k hk a=>?_,fun k hk a=>?_,fun k hk a=>?_,fun k hk a=>?_,fun k hk=>?_,h.kj,h.XD,fun c hc=>?_⟩
 ·rw[eX,eS];exact h.LK k k' hk oo bj a
 ·rw[eS];exact h.low k hk a
 ·rw[eX,eS];exact h.sub k hk a
 ·rw[eX];exact h.Ds k hk a
 ·rw[eX,eS];exact h.xs k hk a
 ·rw[eS];exact h.mp k hk
 ·obtain⟨h1,h2,h3,h4⟩:=h.H_ c hc;simp_all
theorem bA.zl{n':Nd}(hX:n'.X=(nd i).X):bA.rp (upd nd i n') j L=bA.rp nd j L:=by
 funext k a;unfold bA.rp;by_cases e:k=i
 ·subst e;rw[upd_same,hX]
 ·rw[upd_ne _ _ e]
theorem Ic(h:Q.Sets nd j L tok w.heap.size)(hi:i<=j)(eO:i'<=j)(bj:i≠i'){es:Array _}(hd:iF Q.E.U (nd i).S (nd i).X w w1 es S1 X1):aP Q.E.U (nd i').S w w1:=
 ⟨fun a ha=>.inl (hd.kept a (h.low i' eO a ha) fun hx=>h.LK i i' hi eO bj a hx ha),hd.grow,hd.env⟩
theorem N6{E:Env}{w1:World}{m m':Word}{c:Nat}(S:Nat->Prop)(h:E.MuAt w m c)(h':E.MuAt w1 m' c')(he:Env.Eff E.Fd w w1):aP E.U S w w1:=by
 refine⟨fun a _=>?_,Nat.le_of_eq he.size.symm,he.env⟩;by_cases e:a=E.Fd
 ·subst e;refine .inr ⟨_,_,_,_,⟨0,.inl rfl,by omega⟩,h,h',rfl,fun i hi=>?_,fun i x hi hx=>?_⟩
  ·match i with
   |0=>exact absurd ⟨.inl rfl,by omega⟩ hi
   |1=>exact absurd ⟨.inl rfl,by omega⟩ hi
   |i+2=>simp
  ·match i with
   |0=>simp at hx;subst hx;rfl
   |1=>simp at hx;subst hx;rfl
   |i+2=>exact absurd hi.2 (by omega)
 ·exact .inl (he.heap a e)
theorem E8{E:Env}{w1:World}{wt ws:Nat}(S:Nat->Prop)(h:E.WgAt w v wt ws)(h':E.WgAt w1 v' eP eI)(he:Env.Eff E.Wg w w1):aP E.U S w w1:=by
 refine⟨fun a _=>?_,Nat.le_of_eq he.size.symm,he.env⟩;by_cases e:a=E.Wg
 ·subst e;unfold Env.WgAt at h h';generalize((v *4294967296+wt))=z at h;refine .inr ⟨_,_,_,_,⟨0,.inr rfl,by omega⟩,h,h',rfl,fun i hi=>?_,fun i x hi hx=>?_⟩
  ·match i with
   |0=>exact absurd ⟨.inr rfl,by omega⟩ hi
   |1=>exact absurd ⟨.inr rfl,by omega⟩ hi
   |i+2=>simp
  ·match i with
   |0=>simp at hx;subst hx;rfl
   |1=>simp at hx;subst hx;rfl
   |i+2=>exact absurd hi.2 (by omega)
 ·exact .inl (he.heap a e)
theorem jF{E:Env}{c s:Nat}(hS:¬S c):aP E.U S w (w.setChan c 0 #[] cl s s false):=by
 refine⟨fun a ha=>.inl ?_,by simp[World.setChan],.refl _⟩;have:c≠a:=fun e=>hS (e▸ha);simp[World.setChan];simp_all
theorem bA.Wd.keep(h:Q.Wd C w)(hF:w1.heap[Q.E.Fd]?=w.heap[Q.E.Fd]?)(hW:w1.heap[Q.E.Wg]?=w.heap[Q.E.Wg]?)(hM:C.tok=none->w1.heap[Q.E.Mp]?=w.heap[Q.E.Mp]?)(hc:∀k,k<C.j->w1.heap[Q.ch C k]?=w.heap[Q.ch C k]?)(ht:w1.tape=w.tape)(ho:w1.output=w.output):Q.Wd C w1:=by
 refine⟨?_,?_,fun e=>?_,fun k hk vA=>?_,fun k hk vA=>?_,ht.trans h.tape,ho.trans h.out⟩
 ·have:=h.mu;unfold Env.MuAt at this⊢;simp_all
 ·have:=h.wg;unfold Env.WgAt at this⊢;simp_all
 ·rw[hM e];exact h.map e
 ·rw[hc k hk];exact h.shut k hk vA
 ·obtain⟨s,hs⟩:=h.opn k hk vA;exact⟨s,by unfold gq at hs⊢;simp_all⟩
theorem kG(hl:C.L.length=C.j)(hk:k<C.j):Q.ch C k∈C.L:=by
 unfold bA.ch;simp_all
theorem bA.Wd.did(h:Q.Wd C w)(hs:Q.Sets nd C.j C.L C.tok w.heap.size)(hQ:Q.Laws)(hl:C.L.length=C.j)(hi:i<=C.j){es:Array _}(hd:iF Q.E.U (nd i).S (nd i).X w w1 es S1 X1):Q.Wd C w1:=by
 refine h.keep (hd.kept _ (hs.kj _ hQ.rf) (hs.Ds i hi _ hQ.rf)) (hd.kept _ (hs.kj _ hQ.rw) (hs.Ds i hi _ hQ.rw)) (fun e=>hd.kept _ hs.XD fun hx=>?_) (fun k hk=>?_) hd.tape hd.output
 ·obtain⟨k,_,h2⟩:=hs.mp i hi (hs.xs i hi _ hx);simp_all
 ·obtain⟨h1,_,_,h4⟩:=hs.H_ _ (kG hl hk);exact hd.kept _ h1 fun hx=>h4 i hi (hs.xs i hi _ hx)
theorem bA.Wd.cfg{C':jE Q.E}(h:Q.Wd C w)(h1:C'.m=C.m)(h2:C'.c=C.c)(h3:C'.v=C.v)(h4:C'.wt=C.wt)(h5:C'.ws=C.ws)(h6:C'.tok=none->C.tok=none/\C'.γ=C.γ)(h7:C'.L=C.L)(h8:C'.j=C.j)(h9:aU Q.J C'.d=aU Q.J C.d):Q.Wd C' w:=by
 refine⟨by rw[h1,h2];exact h.mu,by rw[h3,h4,h5];exact h.wg,fun e=>by rw[(h6 e).2];exact h.map (h6 e).1,fun k hk hc=>?_,fun k hk hc=>?_,h.tape,h.out⟩
 ·unfold bA.ch;rw[h7];exact h.shut k (h8▸hk) (h9▸hc)
 ·unfold bA.ch;rw[h7];exact h.opn k (h8▸hk) (h9▸hc)
theorem bA.Wd.mv(h:Q.Wd C w)(hQ:Q.Laws)(hs:Q.Sets nd C.j C.L C.tok w.heap.size)(hl:C.L.length=C.j){m':Word}(he:Env.Eff Q.E.Fd w w1)(hm:Q.E.MuAt w1 m' c'):Q.Wd {C with m:=m',c:=c'} w1:=by
 have hc:∀k,k<C.j->w1.heap[Q.ch C k]?=w.heap[Q.ch C k]?:=fun k hk=>he.heap _ fun e=>(hs.H_ _ (kG hl hk)).2.1 (e▸hQ.rf);refine⟨hm,?_,fun e=>?_,fun k hk vA=>?_,fun k hk vA=>?_,he.tape.trans h.tape,he.output.trans h.out⟩
 ·have:=h.wg;unfold Env.WgAt at this⊢;rw[he.heap _ fun e=>hQ.fw e.symm];omega
 ·rw[he.heap _ hQ.mf];exact h.map e
 ·show∃s,w1.heap[Q.ch C k]?=_
  rw[hc k hk];exact h.shut k hk vA
 ·obtain⟨s,hs⟩:=h.opn k hk vA;exact⟨s,by show w1.heap[Q.ch C k]?=_;rw[hc k hk];exact hs⟩
theorem bA.Wd.gp(h:Q.Wd C w)(hQ:Q.Laws)(hs:Q.Sets nd C.j C.L C.tok w.heap.size)(hl:C.L.length=C.j)(he:Env.Eff Q.E.Wg w w1)(hm:Q.E.WgAt w1 v' eP eI):Q.Wd {C with v:=v',wt:=eP,ws:=eI} w1:=by
 have hc:∀k,k<C.j->w1.heap[Q.ch C k]?=w.heap[Q.ch C k]?:=fun k hk=>he.heap _ fun e=>(hs.H_ _ (kG hl hk)).2.1 (e▸hQ.rw);refine⟨?_,hm,fun e=>?_,fun k hk vA=>?_,fun k hk vA=>?_,he.tape.trans h.tape,he.output.trans h.out⟩
 ·have:=h.mu;unfold Env.MuAt at this⊢;rw[he.heap _ hQ.fw];omega
 ·rw[he.heap _ hQ.mw];exact h.map e
 ·show∃s,w1.heap[Q.ch C k]?=_
  rw[hc k hk];exact h.shut k hk vA
 ·obtain⟨s,hs⟩:=h.opn k hk vA;exact⟨s,by show w1.heap[Q.ch C k]?=_;rw[hc k hk];exact hs⟩
theorem bA.Wd.at(h:Q.Wd C w)(d:Nat):Q.Wd C (w.at d):=⟨h.mu,h.wg,h.map,h.shut,h.opn,h.tape,h.out⟩
theorem bA.XC.keep{c:Nat}{n:Nd}{fu:Nat}{s:de Q.E}(h:Q.XC c gs t k n fu s)(hg:iQ[Q.b+k]?=gs[Q.b+k]?)(hd:Deaf t' (Q.b+k)=Deaf t (Q.b+k)):Q.XC c iQ t' k n fu s:=by
 cases s with
 |no=>exact h
 |«at» pc md=>exact⟨hg.trans h.1,h.2⟩
 |dV i n=>obtain⟨g,h1,h2⟩:=h;exact⟨g,hg.trans h1,h2⟩
 |qt q=>obtain⟨g,h1,h2⟩:=h;exact⟨g,hg.trans h1,by simp_all⟩
theorem bA.LI.keep{n:Nd}{fu:Nat}{d:pJ}{md:Md}(h:Q.LI gs n fu L d md)(hg:iQ[0]?=gs[0]?):Q.LI iQ n fu L d md:=by
 cases md with
 |run=>exact⟨hg.trans h.1,h.2⟩
 |blk=>exact⟨hg.trans h.1,h.2⟩
 |fH=>
  obtain⟨h0,i,c,x,z,N5,h1,h2,h3,h4,h5,h6⟩:=h;exact⟨h0,i,c,x,z,N5,h1,h2,h3,h4,hg.trans h5,h6⟩
 |rG=>exact h.elim
end
section
variable{Q:bA}{nd:Nat->Nd}{fu:Nat->Nat}{C C':jE Q.E}{w w':World}{gs iQ:Array Goroutine}{t t':Trace}{q:Nat->Nat}{rel fZ:Nat->Option Nat}
theorem bW{gs:Array _}{g:Goroutine}(h:i≠k):(gs.setIfInBounds i g)[k]?=gs[k]?:=Array.getElem?_setIfInBounds_ne h
theorem bA.MI.wkr(M:Q.MI C nd fu gs w t q rel)(hb:0<Q.b)(hk:k<C.j)(hj:C'.j=C.j)(hL:C'.L=C.L)(hd:C'.d=C.d)(TK:C'.dm=C.dm)(P5:∀i,i≠k->C'.ks i=C.ks i){n':Nd}(hgs:iQ=gs.setIfInBounds (Q.b+k) g1)
  (XE:Q.XC (Q.ch C k) iQ t' k n' f' (C'.ks k))(rl:∀i,i<=C.j->i≠k+1->aP Q.E.U (nd i).S w w')(rlk:aP Q.E.U n'.S n'.w w')(mf:mu Q.J C'<=f')(Z5:mu Q.J C'<=mu Q.J C)
  (bT:Q.Sets (upd nd (k+1) n') C.j C.L C'.tok w'.heap.size)(wd:Q.Wd C' w')(tr:PT Q.b C.j Q.E.mu Q.E.st Q.dS (Q.cls (upd nd (k+1) n') C.j C.L) t' (C'.tok.map (Q.b+ ·)) fZ)
  (dfk:(∀q,C'.ks k≠.qt q)->Deaf t' (Q.b+k)=Hz (C'.ks k))(E9:∀g,g≠Q.b+k->Deaf t' g=Deaf t g)(TL:(∃p,fZ (Q.b+k)=some p)↔bA.LM (C'.ks k))(P6:∀i,i≠k->fZ (Q.b+i)=rel (Q.b+i))(seen:∀op∈t',Seen w'.heap.size op):
  Q.MI C' (upd nd (k+1) n') (upd fu (k+1) f') iQ w' t' q fZ:=by
 subst hgs;have n0:upd nd (k+1) n' 0=nd 0:=upd_ne _ _ (by omega);have f0:upd fu (k+1) f' 0=fu 0:=upd_ne _ _ (by omega);refine⟨?_,?_,fun i hi=>?_,fun i g hi BQ hg=>?_,fun i hi=>?_,fun i hi=>?_,?_,wd,?_,?_,fun i hi hq=>?_,fun i hi=>?_,fun i hi=>?_,fun i hi=>by rw[hj]at hi;rw[P6 i (by omega)];exact M.Ib i hi,seen⟩
 ·rw[hj];simp[M.size]
 ·rw[n0,f0,hL,hd,TK];exact M.g0.keep (bW (by omega))
 ·rw[hj]at hi;by_cases e:i=k
  ·subst e;rw[upd_same,upd_same];unfold bA.ch;rw[hL];exact XE
  ·rw[upd_ne _ _ (by omega),upd_ne _ _ (by omega),P5 i e];unfold bA.ch;rw[hL];exact(M.wk i hi).keep (bW (by omega)) (E9 _ (by omega))
 ·rw[bW (by omega)]at hg;rw[E9 i (by omega)];exact M.old i g hi BQ hg
 ·rw[hj]at hi;by_cases e:i=k+1
  ·subst e;rw[upd_same];exact mf
  ·rw[upd_ne _ _ e];exact akw Z5 (M.fuel i hi)
 ·rw[hj]at hi;by_cases e:i=k+1
  ·subst e;rw[upd_same];exact rlk
  ·rw[upd_ne _ _ e];exact(M.Ia i hi).trans (rl i hi e)
 ·simp_all
 ·rw[hj,hL];exact tr
 ·rw[E9 0 (by omega),hd];exact M.deaf0
 ·rw[hj]at hi;by_cases e:i=k
  ·subst e;exact dfk hq
  ·rw[E9 _ (by omega),P5 i e];rw[P5 i e]at hq;exact M.iX i hi hq
 ·rw[hj]at hi;rw[E9 i (by omega)];exact M.above i hi
 ·rw[hj]at hi;by_cases e:i=k
  ·subst e;exact TL
  ·rw[P6 i e,P5 i e];exact M.uz i hi
theorem bA.MI.m0(M:Q.MI C nd fu gs w t q rel)(hb:0<Q.b)(hj:C'.j=C.j)(hL:C'.L=C.L)(P5:C'.ks=C.ks){n':Nd}(hgs:iQ=gs.setIfInBounds 0 g1)
  (XE:Q.LI iQ n' f' C.L C'.d C'.dm)(rl:∀i,i<=C.j->i≠0->aP Q.E.U (nd i).S w w')(rlk:aP Q.E.U n'.S n'.w w')(mf:mu Q.J C'<=f')(Z5:mu Q.J C'<=mu Q.J C)
  (bT:Q.Sets (upd nd 0 n') C.j C.L C'.tok w'.heap.size)(wd:Q.Wd C' w')(tr:PT Q.b C.j Q.E.mu Q.E.st Q.dS (Q.cls (upd nd 0 n') C.j C.L) t' (C'.tok.map (Q.b+ ·)) rel)
  (df0:Deaf t' 0=mT C'.d)(E9:∀g,g≠0->Deaf t' g=Deaf t g)(seen:∀op∈t',Seen w'.heap.size op):
  Q.MI C' (upd nd 0 n') (upd fu 0 f') iQ w' t' q rel:=by
 subst hgs;refine⟨?_,?_,fun i hi=>?_,fun i g hi BQ hg=>?_,fun i hi=>?_,fun i hi=>?_,?_,wd,?_,df0,fun i hi hq=>?_,fun i hi=>?_,fun i hi=>?_,fun i hi=>M.Ib i (hj▸hi),seen⟩
 ·rw[hj];simp[M.size]
 ·rw[upd_same,upd_same,hL];exact XE
 ·rw[hj]at hi;rw[upd_ne _ _ (by omega),upd_ne _ _ (by omega),P5];unfold bA.ch;rw[hL];exact(M.wk i hi).keep (bW (by omega)) (E9 _ (by omega))
 ·rw[bW (by omega)]at hg;rw[E9 i (by omega)];exact M.old i g hi BQ hg
 ·rw[hj]at hi;by_cases e:i=0
  ·subst e;exact mf
  ·rw[upd_ne _ _ e];exact akw Z5 (M.fuel i hi)
 ·rw[hj]at hi;by_cases e:i=0
  ·subst e;exact rlk
  ·rw[upd_ne _ _ e];exact(M.Ia i hi).trans (rl i hi e)
 ·simp_all
 ·simp_all
 ·rw[hj]at hi;rw[E9 _ (by omega),P5];rw[P5]at hq;exact M.iX i hi hq
 ·rw[hj]at hi;rw[E9 i (by omega)];exact M.above i hi
 ·rw[hj]at hi;rw[P5];exact M.uz i hi
theorem fP(hQ:Q.Laws){c fu:Nat}{pc:Q.E.vz}{g:Goroutine}(hf:0<fu)(h:Q.WS c fu pc S X g w):g.status=.running/\g.offers=none:=by
 cases fu with
 |zero=>omega
 |succ f=>
  cases pc with
  |recv=>exact hQ.TG h
  |_=>exact⟨h.1,h.2.1⟩
theorem mU{fu:Nat}{d:pJ}{g:Goroutine}(hf:0<fu)(h:Q.DS fu d S X g w):g.status=.running/\g.offers=none:=by
 cases fu with
 |zero=>omega
 |succ f=>exact⟨h.1,h.2.1⟩
theorem f_{U:Nat->Nat->Prop}{D:(Nat->Prop)->(Nat->Prop)->Goroutine->World->Prop}{g:Goroutine}(h:Tz P main U D S X g w)(hD:D S X g w->g.status=.running):g.status=.running:=by
 rcases h.look with h|⟨_,h,_⟩
 ·exact hD h
 omega
theorem mV{E:Env}{g:Goroutine}(h:Env.rj P (E.EW P i) n g):g.status=.running:=by
 cases n with
 |zero=>
  match i,h with
  |0,h=>exact h.1
  |1,h=>exact h.1
  |2,h=>exact h.1
  |3,h=>exact h.1
  |i+4,h=>exact h.1
 |succ n=>exact h.1
theorem XG(J:jf)(v:Nat)(d:pJ):0<jg J v d:=by cases d<;>simp[jg]<;>omega
theorem TM{E:Env}(J:jf)(C:jE E):0<mu J C:=by
 have:=XG J C.v C.d;unfold mu yU;omega
theorem bA.MI.Ck(M:Q.MI C nd fu gs w t q rel)(hi:i<=C.j):0<fu i:=ajM (TM Q.J C) (M.fuel i hi)
theorem again_blocked{g:Goroutine}(w:World)(h1:g.status=.running)(h2:g.offers=none):({g with status:=.blocked}).again w=g:=by
 obtain⟨f,c,st,o⟩:=g;subst h1 h2;rfl
theorem bA.MI.sF(M:Q.MI C nd fu gs w t q rel)(hQ:Q.Laws)(h:CI Q.J Q.cO C):Q.MI (C.sF Q.J) nd fu (gs.map (·.again w)) w t q rel:=by
 have mp:∀i,(gs.map (·.again w))[i]?=(gs[i]?).map _:=fun i=>akL;have fm:mu Q.J _=mu Q.J C:=NZ;refine⟨by simp[M.size];rfl,?_,fun k hk=>?_,fun i g hi BQ hg=>?_,fun i hi=>by rw[fm];exact M.fuel i hi,M.Ia,M.bT,?_,M.tr,M.deaf0,fun k hk hq=>?_,M.above,fun k hk=>?_,M.Ib,M.seen⟩
 ·have h0:=M.g0;show Q.LI _ _ _ C.L C.d (Ax C.dm)
  have f0:=M.Ck (Nat.zero_le _);cases hm:C.dm with
  |run=>
   rw[hm]at h0;refine⟨?_,h0.2⟩;rw[mp,h0.1];exact congrArg some (again_running _ (.inl (f_ h0.2 fun y=>(mU f0 y).1)))
  |blk=>
   rw[hm]at h0;refine⟨?_,.stop h0.2.2.2⟩;rw[mp,h0.1];exact congrArg some (again_blocked w h0.2.2.1 h0.2.1)
  |fH=>
   rw[hm]at h0;obtain⟨h1,i,c,x,z,N5,e1,e2,e3,e4,e5,e6⟩:=h0;refine⟨h1,i,c,x,z,N5,e1,e2,e3,e4,?_,e6⟩;have hc:∃k,k<C.j/\Q.ch C k=c:=by
    refine⟨i%Q.J.n,?_,?_⟩
    ·have:=(List.getElem?_eq_some_iff.1 e3).1;rw[h.len]at this;exact this
    ·unfold bA.ch;rw[List.getD_eq_getElem?_getD,e3];rfl
   obtain⟨k,hk,rfl⟩:=hc;obtain⟨s,hs⟩:=M.wd.opn k hk (by rw[e1];exact akO _);rw[mp,e5];exact congrArg some (again_send_open hs)
  |rG=>rw[hm]at h0;exact h0.elim
 ·have hs:=M.wk k hk;have fk:=M.Ck hk;show Q.XC _ _ t k _ _ (nV _ _)
  cases hc:C.ks k with
  |no=>rw[hc]at hs;exact hs.elim
  |«at» pc md=>
   rw[hc]at hs;obtain⟨h1,h2,h3⟩:=hs;cases md with
   |run=>
    refine⟨?_,h2,h3⟩;rw[mp,h1];exact congrArg some (again_running _ (.inl (f_ h2 fun y=>(fP hQ fk y).1)))
   |blk=>
    have h4:=fP hQ fk (h3 nofun);refine⟨?_,h2,fun y=>absurd rfl y⟩;rw[mp,h1];exact congrArg some (again_blocked w h4.1 h4.2)
   |fH=>
    by_cases vN:k<aU Q.J C.d
    ·rw[decide_eq_true vN];obtain⟨s,hs⟩:=M.wd.shut k hk vN;refine⟨?_,h2,fun _=>h3 nofun⟩;rw[mp,h1];exact congrArg some (again_recv_closed hs)
    ·rw[decide_eq_false vN];obtain⟨s,hs⟩:=M.wd.opn k hk vN;refine⟨?_,h2,h3⟩;rw[mp,h1];exact congrArg some (again_recv_open hs)
   |rG=>
    refine⟨?_,h2,h3⟩;rw[mp,h1];exact congrArg some (again_running _ (.inl rfl))
  |dV i n=>
   rw[hc]at hs;obtain⟨g,h1,h2⟩:=hs;refine⟨g,?_,h2⟩;rw[mp,h1];exact congrArg some (again_running _ (.inl (mV h2)))
  |qt q'=>
   rw[hc]at hs;obtain⟨g,h1,h2⟩:=hs;refine⟨g,?_,h2⟩;rw[mp,h1];exact congrArg some (again_running _ h2.status)
 ·rw[mp]at hg;obtain⟨g',h1,rfl⟩:=ako.1 hg;have:=M.old i g' hi BQ h1;rw[again_running _ this.status];exact this
 ·exact M.wd.cfg rfl rfl rfl rfl rfl (fun e=>⟨e,rfl⟩) rfl rfl rfl
 ·have e:∀s:de Q.E,∀b,(∀q,nV b s≠.qt q)->∀q,s≠.qt q:=fun s b hs q e=>hs q (by rw[e];rfl);rw[M.iX k hk (e _ _ hq)];exact(l_ Hz (fun _ _ _=>rfl) _ _).symm
 ·rw[M.uz k hk];show bA.LM _↔bA.LM (nV _ _)
  rw[l_ (fun s=>bA.LM s) fun _ _ _=>rfl]
theorem P7{g:Goroutine}{w1:World}(gs:Array _)(i:Nat):
  (((gs.map (woken P g g1 w1)).setIfInBounds i g1=gs.setIfInBounds i g1)/\¬(mayWake P g=true/\(g1.status=.running\/g1.status=.finished)))\/(gs.map (woken P g g1 w1)).setIfInBounds i g1=(gs.setIfInBounds i g1).map (·.again w1):=by
 by_cases hc:(mayWake P g&&g1.status != .blocked&&g1.status != .waiting)=true
 ·right;have ew:woken P g g1 w1=(·.again w1):=by funext o;simp[woken,hc]
  have ha:g1.again w1=g1:=by
   unfold Goroutine.again;simp_all
  simp_all
 ·left;have ew:woken P g g1 w1=id:=by funext o;simp[woken,hc]
  refine⟨by simp_all,fun⟨h1,h2⟩=>hc ?_⟩;rcases h2 with h2|h2<;>rw[h1,h2]<;>rfl
theorem bA.MI.finish(hQ:Q.Laws){C1:jE Q.E}{g:Goroutine}{w1:World}{nd1:Nat->Nd}(h:CI Q.J Q.cO C1)(M:Q.MI C1 nd1 fu1 (gs.setIfInBounds i g1) w1 t q rel)(hc:Calm Q.J C1\/(mayWake Q.P g=true/\(g1.status=.running\/g1.status=.finished)))(hp:∀i,C1.dm=.fH->C1.d=.send C1.L i->∀pc,C1.ks (i%Q.J.n)≠.at pc .fH):
  ∃C2,(C2=C1\/C2=C1.sF Q.J)/\CI Q.J Q.cO C2/\Calm Q.J C2/\Q.MI C2 nd1 fu1 ((gs.map (woken Q.P g g1 w1)).setIfInBounds i g1) w1 t q rel:=by
 rcases P7 (P:=Q.P) (g:=g) (g1:=g1) (w1:=w1) gs i with⟨e,hn⟩|e
 ·simp_all
 ·rw[e];exact⟨C1.sF Q.J,.inr rfl,h.sF,P4 hp,M.sF hQ h⟩
end
end Ph
end Go.Proofs.YtdcjnhipenbcfaaGreatDoor
