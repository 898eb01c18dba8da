/-
  Own text. Part 5 of what the claim rests on.
-/
import Derived.Test.YtdcjnhipenbcfaaGreatDoorPk4
import Derived.Conc.QuitsD
import Derived.Laws.Bits64
set_option linter.unusedVariables false
set_option linter.unusedSectionVars false
set_option linter.unusedSimpArgs false
set_option maxRecDepth 100000
set_option maxHeartbeats 16000000
open Array renaming getElem?_setIfInBounds_self_of_lt->aj,getElem?_eq_getElem->aD,getElem?_push->aH,empty_append->aJ,getElem?_eq_some_iff->aK
open Classical renaming byContradiction->aL
open Go.Extern.Atomic renaming casT->aM,loadT->aN,storeT->aO,update->aP
open Go.Extern.Race renaming none_->aB
open Go.Extern.Sync renaming semacquire->aQ,semrelease->aT
open Go.Instr renaming indexAt->aU
open Go.IntKind renaming i64->ai,i32->ax,wrap_u64->aV
open Go.MemOp renaming ofEvents->ah
open List renaming getD_eq_getElem?_getD->ao,mem_cons->ay,mem_toArray->az,not_mem_nil->aA,lookup_cons->aI,mem_of_getElem?->aW
open Nat renaming le_refl->ae,zero_le->af,lt_of_lt_of_le->ak,not_lt_zero->ar,strongRecOn->au,eq_zero_or_pos->aX,le_trans->aY,lt_of_not_le->aZ
open Prod.mk renaming injEq->a_
namespace Go.Proofs.YtdcjnhipenbcfaaGreatDoor
noncomputable section
variable {ad:Addr}{tmps:Array Value}{aw main:Bool}{f:Frame}{fn:FuncId}{g1 gx:Goroutine}{z:Int}{ds:List Deferred}{cs l:List Frame}{site todo:List Item}{ks:List Nat}{Wg cc i it k n wt:Nat}{S X:Nat->Prop}{y:Operand}{P:Program}{u v v8 work:Value}{w:World}
namespace Ph
open Conc Ren
open Lock (Word PC Mv bn iJ bw dw)
open ConcN (sumTo upd sumTo_upd upd_ne upd_same sumTo_congr sumTo_le le_sumTo)
section
variable{Q:gI}{nd:Nat->Nd}{fu:Nat->Nat}{C C':iB Q.E}{w w':World}{gs Fa:Array Goroutine}{t t':Trace}{q:Nat->Nat}{rel kj:Nat->Option Nat}{sl:Option (Nat×Nat)}
theorem AK(c f:Nat):Q.WS c f .recv=Q.A c:=by
 cases f<;>rfl
theorem Sw(h:CI Q.J Q.gL C){c:Nat}(hk:k<C.j):(C.L++[c]).getD k 0=Q.ch C k:=by
 unfold gI.ch;rw[ao,ao,List.getElem?_append_left (by rw[h.len];exact hk)]
theorem Sx(h:CI Q.J Q.gL C){c:Nat}:(C.L++[c]).getD C.j 0=c:=by
 rw[ao,List.getElem?_append_right (by rw[h.len];omega),h.len];simp
theorem gI.MI.aha(M:Q.MI C nd fu gs w t q rel)(hQ:Q.Laws)(h:CI Q.J Q.gL C)(UR:Calm Q.J C){c f:Nat}{child:Goroutine}(hd:C.d=.go C.L c)(hf:fu 0=f+1)(W:(nd 0).S c)(BF:(nd 0).X c)(Lq:ot w c 0)(KD:Q.kt c child w)
  (ht:Q.E.Tree Q.P true (Q.DS f (Q.J.ky (C.L++[c]))) (fun a=>(nd 0).S a/\a≠c) (fun a=>(nd 0).X a/\a≠c) g1 w)(fn:FuncId)(pos:String)(iT:FuncId)(F:String):
  Q.jA C nd fu q (crowd ((gs.setIfInBounds 0 g1).push child) w sl) (t++#[{g:=0,fn,pos,act:=.go (Q.b+C.j)}]++#[{g:=Q.b+C.j,fn:=iT,pos:=F,act:=.start}]):=by
 have hb:=hQ.b0;have vy:=M.pO hQ;have hcL:c∉C.L:=fun y=>(M.sets.oe c y).2.2.2 0 (af _) W;have r:¬Q.RO c:=fun y=>M.sets.mS 0 (af _) c y BF;have hcM:c≠Q.E.Mp:=fun y=>by
  rw[y]at W;obtain⟨k,e,_⟩:=M.sets.mp 0 (af _) W;cases e
 have akd:=M.sets.low 0 (af _) c W;obtain⟨hC,hrk⟩:=h.spawn hQ.n0 hQ.n8 hd hcL;have Lr:mu Q.J (C.spawn Q.J c)<mu Q.J C:=xF hQ.n8 (show(C.spawn Q.J c).c<=1 from h.c1) hrk;have us:(C.spawn Q.J c).ks C.j=.at .recv .run:=upd_same _ _ _;have un:∀i,i≠C.j->(C.spawn Q.J c).ks i=C.ks i:=fun i D=>upd_ne _ _ D
 let n0:Nd:=⟨fun a=>(nd 0).S a/\a≠c,fun a=>(nd 0).X a/\a≠c,g1,w⟩
 let V:Nd:=⟨Q.RO,fun _=>False,child,w⟩
 have u:upd (upd nd 0 n0) (C.j+1) V 0=n0:=by rw[upd_ne _ _ (by omega),upd_same]
 have v:upd (upd nd 0 n0) (C.j+1) V (C.j+1)=V:=upd_same _ _ _;have x:∀i,i≠0->i≠C.j+1->upd (upd nd 0 n0) (C.j+1) V i=nd i:=fun i Y H=>by rw[upd_ne _ _ H,upd_ne _ _ Y]
 have f0:upd (upd fu 0 f) (C.j+1) (mu Q.J C) 0=f:=by rw[upd_ne _ _ (by omega),upd_same]
 have fk:upd (upd fu 0 f) (C.j+1) (mu Q.J C) (C.j+1)=mu Q.J C:=upd_same _ _ _;have fo:∀i,i≠0->i≠C.j+1->upd (upd fu 0 f) (C.j+1) (mu Q.J C) i=fu i:=fun i Y H=>by rw[upd_ne _ _ H,upd_ne _ _ Y]
 have cN:iR Q.J (Q.J.ky (C.L++[c]))=0:=by
  rcases uJ (J:=Q.J) (L:=C.L++[c])with⟨_,e⟩|⟨_,_,e⟩|⟨_,_,e⟩<;>rw[e]<;>rfl
 have dN:px (Q.J.ky (C.L++[c]))=0:=by
  rcases uJ (J:=Q.J) (L:=C.L++[c])with⟨_,e⟩|⟨_,_,e⟩|⟨_,_,e⟩<;>rw[e]<;>rfl
 have O:∀g,Deaf (t++#[({g:=0,fn,pos,act:=.go (Q.b+C.j)}:MemOp)]++#[{g:=Q.b+C.j,fn:=iT,pos:=F,act:=.start}]) g=Deaf t g:=fun g=>by
  rw[Au (ops:=#[({g:=Q.b+C.j,fn:=iT,pos:=F,act:=.start}:MemOp)]) (mj ⟨nofun,nofun⟩),Au (ops:=#[({g:=0,fn,pos,act:=.go (Q.b+C.j)}:MemOp)]) (mj ⟨nofun,nofun⟩)]
 have G:(gs.setIfInBounds 0 g1).size=Q.b+C.j:=by simp[M.size]
 have gp:∀i,i≠0->i≠Q.b+C.j->((gs.setIfInBounds 0 g1).push child)[i]?=gs[i]?:=fun i Y H=>by
  rw[aH,if_neg (by rw[G];exact H),nH (fun y=>Y y.symm)]
 have M1:Q.MI (C.spawn Q.J c) (upd (upd nd 0 n0) (C.j+1) V) (upd (upd fu 0 f) (C.j+1) (mu Q.J C)) ((gs.setIfInBounds 0 g1).push child) w (t++#[{g:=0,fn,pos,act:=.go (Q.b+C.j)}]++#[{g:=Q.b+C.j,fn:=iT,pos:=F,act:=.start}]) q rel:=by
  refine⟨?_,?_,fun k hk=>?_,fun i g D hib hg=>?_,fun i D=>?_,fun i D=>?_,?_,?_,?_,?_,fun k hk hq=>?_,fun i D=>?_,fun k hk=>?_,fun k hk=>?_,?_⟩
  ·rw[Array.size_push,G];rfl
  ·rw[u,f0];refine⟨?_,ht⟩;rw[aH,if_neg (by rw[G];omega),aj vy]
  ·have l:k<C.j+1:=hk;by_cases B:k=C.j
   ·subst B;rw[v,fk,us];refine⟨?_,?_,fun y=>absurd rfl y⟩
    ·rw[aH,if_pos (by rw[G])];rfl
    ·rw[AK];show Tz Q.P false Q.E.U (Q.A ((C.L++[c]).getD C.j 0)) _ _ _ _
     rw[Sx h];exact hQ.E6 KD
   ·rw[x _ (by omega) (by omega),fo _ (by omega) (by omega),un k B];show Q.uq ((C.L++[c]).getD k 0) _ _ _ _ _ _
    rw[Sw h (by omega)];exact(M.wk k (by omega)).keep (gp _ (by omega) (by omega)) (O _)
  ·rw[gp i (by omega) (by omega)]at hg;rw[O];exact M.old i g D hib hg
  ·have N:i<=C.j+1:=D;by_cases Y:i=0
   ·subst Y;rw[f0];have:=M.fuel 0 (af _);omega
   ·by_cases H:i=C.j+1
    ·subst H;rw[fk];omega
    ·rw[fo i Y H];have:=M.fuel i (by omega);omega
  ·have N:i<=C.j+1:=D;by_cases Y:i=0
   ·subst Y;rw[u];exact .refl _ _ _
   ·by_cases H:i=C.j+1
    ·subst H;rw[v];exact .refl _ _ _
    ·rw[x i Y H];exact M.oh i (by omega)
  ·
   have S':∀i a,i<=C.j+1->(upd (upd nd 0 n0) (C.j+1) V i).S a->(i<=C.j/\(nd i).S a/\(i=0->a≠c))\/(i=C.j+1/\Q.RO a):=by
    intro i a D K;by_cases Y:i=0
    ·subst Y;rw[u]at K;exact .inl ⟨af _,K.1,fun _=>K.2⟩
    ·by_cases H:i=C.j+1
     ·subst H;rw[v]at K;exact .inr ⟨rfl,K⟩
     ·rw[x i Y H]at K;exact .inl ⟨by omega,K,fun y=>absurd y Y⟩
   have X':∀i a,i<=C.j+1->(upd (upd nd 0 n0) (C.j+1) V i).X a->i<=C.j/\(nd i).X a/\(i=0->a≠c):=by
    intro i a D K;by_cases Y:i=0
    ·subst Y;rw[u]at K;exact⟨af _,K.1,fun _=>K.2⟩
    ·by_cases H:i=C.j+1
     ·subst H;rw[v]at K;exact K.elim
     ·rw[x i Y H]at K;exact⟨by omega,K,fun y=>absurd y Y⟩
   refine⟨fun i i' D N I a T K=>?_,fun i D a K=>?_,fun i D a K=>?_,fun i D a hr T=>?_,fun i D a T=>?_,fun i D K=>?_,M.sets.n_,M.sets.uu,fun c' hc'=>?_⟩
   ·obtain⟨a1,a2,_⟩:=X' i a D T;rcases S' i' a N K with⟨Z,R,_⟩|⟨_,R⟩
    ·exact M.sets.xH i i' a1 Z I a a2 R
    ·exact M.sets.mS i a1 a R a2
   ·rcases S' i a D K with⟨Z,R,_⟩|⟨_,R⟩
    ·exact M.sets.low i Z a R
    ·exact M.sets.n_ a R
   ·by_cases Y:i=0
    ·subst Y;rw[u]at K⊢;exact(M.sets.sub 0 (af _) a K.1).imp id fun y=>⟨y,K.2⟩
    ·by_cases H:i=C.j+1
     ·subst H;rw[v]at K;exact .inl K
     ·have N:i<=C.j+1:=D;rw[x i Y H]at K⊢;exact M.sets.sub i (by omega) a K
   ·obtain⟨a1,a2,_⟩:=X' i a D T;exact M.sets.mS i a1 a hr a2
   ·by_cases Y:i=0
    ·subst Y;rw[u]at T⊢;exact⟨M.sets.xs 0 (af _) a T.1,T.2⟩
    ·by_cases H:i=C.j+1
     ·subst H;rw[v]at T;exact T.elim
     ·have N:i<=C.j+1:=D;rw[x i Y H]at T⊢;exact M.sets.xs i (by omega) a T
   ·rcases S' i _ D K with⟨Z,R,_⟩|⟨_,R⟩
    ·exact M.sets.mp i Z R
    ·exact absurd R hQ.rm
   ·have hm:c'∈C.L\/c'=c:=by simpa using(show c'∈C.L++[c]from hc')
    rcases hm with y|rfl
    ·obtain⟨Y,H,h3,h4⟩:=M.sets.oe c' y;refine⟨Y,H,h3,fun i D K=>?_⟩;rcases S' i c' D K with⟨Z,R,_⟩|⟨_,R⟩
     ·exact h4 i Z R
     ·exact H R
    ·refine⟨akd,r,hcM,fun i D K=>?_⟩;rcases S' i c' D K with⟨Z,R,b3⟩|⟨_,R⟩
     ·by_cases Y:i=0
      ·exact b3 Y rfl
      ·exact M.sets.xH 0 i (af _) Z (fun y=>Y y.symm) c' BF R
     ·exact r R
  ·refine⟨M.wd.mu,M.wd.wg,M.wd.map,fun k hk o=>?_,fun k hk o=>?_,M.wd.tape,M.wd.out⟩
   ·change k<iR Q.J (Q.J.ky (C.L++[c]))at o;rw[cN]at o;exact absurd o (ar _)
   ·have l:k<C.j+1:=hk;by_cases B:k=C.j
    ·subst B;exact⟨0,by show ot w ((C.L++[c]).getD C.j 0) 0;rw[Sx h];exact Lq⟩
    ·obtain⟨s,K⟩:=M.wd.opn k (by omega) (by rw[hd];exact ar _);exact⟨s,by show ot w ((C.L++[c]).getD k 0) s;rw[Sw h (by omega)];exact K⟩
  ·have n:Q.cls (upd (upd nd 0 n0) (C.j+1) V) (C.j+1) (C.L++[c])=Q.cls nd C.j C.L:=by
    have:gI.oB (upd (upd nd 0 n0) (C.j+1) V) (C.j+1) (C.L++[c])=gI.oB nd C.j C.L:=by
     funext i a;apply propext;unfold gI.oB;by_cases Y:i=0
     ·subst Y;rw[u];constructor
      ·rintro(⟨_,y⟩|⟨_,y⟩)
       ·exact .inl ⟨af _,y.1⟩
       ·have hm:a∈C.L\/a=c:=by simpa using y
        rcases hm with y|rfl
        ·exact .inr ⟨rfl,y⟩
        ·exact .inl ⟨af _,BF⟩
      ·rintro(⟨_,y⟩|⟨_,y⟩)
       ·by_cases m:a=c
        ·exact .inr ⟨rfl,by simp[m]⟩
        ·exact .inl ⟨af _,y,m⟩
       ·exact .inr ⟨rfl,by simp[y]⟩
     ·by_cases H:i=C.j+1
      ·subst H;rw[v];exact⟨fun y=>y.elim (fun z=>z.2.elim) fun z=>absurd z.1 Y,fun y=>y.elim (fun z=>by omega) fun z=>absurd z.1 Y⟩
      ·rw[x i Y H];exact⟨fun y=>y.imp (fun z=>⟨by omega,z.2⟩) fun z=>absurd z.1 Y,fun y=>y.imp (fun z=>⟨by omega,z.2⟩) fun z=>absurd z.1 Y⟩
    unfold gI.cls;rw[this]
   show PT Q.b (C.j+1) Q.E.mu Q.E.st Q.i_ (Q.cls (upd (upd nd 0 n0) (C.j+1) V) (C.j+1) (C.L++[c])) _ (C.tok.map (Q.b+ ·)) rel
   rw[n];exact M.tr.fork (by rw[M.deaf0,hd];rfl) (M.above _ (ae _))
  ·rw[O,M.deaf0,hd];exact dN.symm
  ·have l:k<C.j+1:=hk;rw[O];by_cases B:k=C.j
   ·subst B;rw[us,M.above _ (ae _)];rfl
   ·rw[un k B]at hq⊢;exact M.nf k (by omega) hq
  ·have N:Q.b+(C.j+1)<=i:=D;rw[O];exact M.above i (by omega)
  ·have l:k<C.j+1:=hk;by_cases B:k=C.j
   ·subst B;rw[us,M.vm _ (ae _)];exact⟨(fun⟨p,hp⟩=>by cases hp),fun y=>y.elim⟩
   ·rw[un k B];exact M.pC k (by omega)
  ·have l:C.j+1<=k:=hk;exact M.vm k (by omega)
  ·exact pY (w:=w) (pY M.seen (ae _) (mj ⟨trivial,nofun⟩)) (ae _) (mj ⟨trivial,nofun⟩)
 refine⟨_,_,_,_,_,sl,_,_,rfl,hC,⟨fun k pc hk=>?_,fun k pc hk o=>?_,nofun,nofun⟩,M1,.inl Lr⟩
 ·by_cases B:k=C.j
  ·subst B;rw[us]at hk;cases hk
  ·rw[un k B]at hk;exact UR.blk k pc hk
 ·change k<iR Q.J (Q.J.ky (C.L++[c]))at o;rw[cN]at o;exact absurd o (ar _)
def gI.xt(Q:gI)(m:Machine)(t:Trace):=∃gs w sl q S X g,∃dn:List Nat,m=crowd gs w sl/\gs[0]?=some g/\Q.Fin S X g w/\Leavers Q.P t gs q/\Past Q.i_ w.heap.size t/\Q.E.mr (dn.foldl Q.E.upd Q.gL) (w.heap[Q.E.Mp]?)/\dn.Perm Q.J.gE/\Q.E.MuAt w Word.zero 0/\Q.E.WgAt w 0 0 0/\w.tape=Q.w0.tape/\w.output=Q.w0.output/\(∀a,S a->a<w.heap.size)/\¬S Q.E.Mp/\Q.E.Mp<w.heap.size/\(∀op∈t,Seen w.heap.size op)
theorem nJ(f:PC->Nat)(Y:f .out=0):∀n,Lock.gZ f (fun _=>.out) n=0
 |0=>rfl
 |n+1=>by rw[Lock.gZ,nJ f Y n,Y]
theorem abe{m:Word}{c:Nat}(h:Lock.Inv (fun _=>.out) n m c):m=Word.zero/\c=0:=by
 have H:=h.held;rw[nJ _ rfl]at H;have B:m.L=false:=by
  cases e:m.L with
  |false=>rfl
  |true=>rw[e]at H;cases H
 cases D:m.S with
 |true=>
  obtain⟨_,_,_,_,A,F⟩:=h.hard D;rw[nJ _ rfl,nJ _ rfl,nJ _ rfl]at A;omega
 |false=>
  obtain⟨Y,I,_⟩:=h.calm D;rw[nJ _ rfl,nJ _ rfl,nJ _ rfl]at Y;rw[nJ _ rfl,nJ _ rfl]at I;have R:c=0:=by omega
  have C:m.W=0:=by omega
  have U:m.K=false:=by
   cases e:m.K with
   |false=>rfl
   |true=>
    rw[e,R]at Y;cases Y
  obtain⟨l,k,s,J⟩:=m;subst B D C U;exact⟨rfl,R⟩
theorem Rx{j:Nat}{f:Nat->Nat}(H:∀i,f i<=1)(Y:∀i,j<=i->f i=0)(F:j<=n)(hk:k<j)(U:f k=0):sumTo n f+1<=j:=by
 have D:∀n,j<=n->sumTo n f=sumTo j f:=by
  intro n;induction n with
  |zero=>intro h;omega
  |succ n K=>
   intro h;by_cases e:j=n+1
   ·rw[e]
   ·rw[sumTo,K (by omega),Y n (by omega)];rfl
 have R:=sumTo_upd f 1 id hk;have I:=sumTo_le (f:=fun a=>id (upd f k 1 a)) (c:=1) (j:=j) fun i _=>by
  by_cases e:i=k
  ·subst e;rw[upd_same];simp_all
  ·rw[upd_ne _ _ e];exact H i
 simp_all
theorem CI.over(h:CI Q.J Q.gL C)(R:zh C.d)(hk:k<C.j):∃n,C.ks k=.qt n:=by
 have U:C.v=0/\sumTo Q.J.n (fun k=>jh (C.ks k))=0/\sumTo Q.J.n (fun k=>jj (C.ks k))=0:=by
  rcases h.ph with⟨_,_,a,b,_,c⟩|⟨y,_⟩
  ·simp_all
  ·revert y R;cases C.d<;>intro a b<;>first|exact a.elim|exact b.elim
 have A:=h.pL;have Y:=ak hk h.jn;have D:=le_sumTo (f:=fun k=>jh (C.ks k)) Y;have H:=le_sumTo (f:=fun k=>jj (C.ks k)) Y;have hd:kS (C.ks k)≠0:=by
  intro y;have:=Rx (f:=fun k=>kS (C.ks k)) (fun i=>by
   cases C.ks i<;>simp only[kS]<;>(try split)<;>omega) (fun i K=>by rw[h.no i K];rfl) h.jn hk y
  omega
 cases e:C.ks k with
 |no=>exact absurd e (h.yes k hk)
 |«at» pc md=>rw[e]at hd;exact absurd rfl hd
 |gT i n=>
  rw[e]at hd;simp[e]at D H;by_cases K:i<=2
  ·by_cases I:i=0
   ·subst I;have:jj (gO.gT 0 n:gO Q.E)=1:=rfl;omega
   ·have:jh (gO.gT i n:gO Q.E)=1:=by
     show(if i=1\/i=2 then 1 else 0)=1
     rw[if_pos (by omega)]
    omega
  ·exact absurd (by show(if i<=2 then 1 else 0)=0;simp_all) hd
 |qt n=>exact⟨n,rfl⟩
theorem gI.MI.final(M:Q.MI C nd fu gs w t q rel)(U:Q.Laws)(h:CI Q.J Q.gL C)(hd:C.d=.aq){g:Goroutine}(hF:Q.Fin (nd 0).S (nd 0).X g1 w)(fn:FuncId)(pos:String):
  Q.xt (crowd ((gs.map (woken Q.P g g1 w)).setIfInBounds 0 g1) w sl) (t++ah 0 fn pos #[⟨.mark (.acquire Q.E.st),false,true⟩]):=by
 have hb:=U.b0;have N:=M.pO U;have Y:zh C.d:=by rw[hd];trivial
 have A:∀k,k<C.j->∃n,C.ks k=.qt n:=fun k hk=>h.over Y hk;have V:∀k,iK (C.ks k)=.out:=fun k=>by
  by_cases hk:k<C.j
  ·obtain⟨n,e⟩:=A k hk;rw[e];rfl
  ·rw[h.no k (by omega)];rfl
 have z:C.m=Word.zero/\C.c=0:=by
  have:=h.lock;rw[funext V]at this;exact abe this
 have O:C.v=0/\C.wt=0/\C.ws=0:=by
  rcases h.ph with⟨a,b,_,_,_,c⟩|⟨y,_⟩
  ·exact⟨c Y,a,b⟩
  ·rw[hd]at y;exact y.elim
 have I:C.tok=none:=by
  cases e:C.tok with
  |none=>rfl
  |some k=>
   obtain⟨md,e'⟩:=h.rR k e;have hk:k<C.j:=aZ fun y=>by rw[h.no k y]at e';cases e'
   obtain⟨n,o⟩:=A k hk;rw[o]at e';cases e'
 have D:∀k,Q.b<=k->k<Q.b+C.j->∃p,rel k=some p:=by
  intro k Z B;obtain⟨k',rfl⟩:∃k',k=Q.b+k':=⟨k-Q.b,by omega⟩;refine(M.pC k' (by omega)).2 ?_;obtain⟨n,e⟩:=A k' (by omega);rw[e];trivial
 have F:Deaf t 0=0:=by rw[M.deaf0,hd];rfl
 have H:∀g,g≠0->Deaf (t++ah 0 fn pos #[⟨.mark (.acquire Q.E.st),false,true⟩]) g=Deaf t g:=fun g r=>Deaf_other t (fun y=>r y.symm) _ qf;refine⟨_,w,sl,fun i=>if i<Q.b then q i else nQ (C.ks (i-Q.b)),(nd 0).S,(nd 0).X,g1,C.dn,rfl,aj (by simpa using N),hF,⟨fun i u L R=>?_,fun i L=>?_⟩,?_,?_,?_,?_,?_,M.wd.tape,M.wd.out,M.sets.low 0 (af _),fun y=>?_,M.sets.uu,pY M.seen (ae _) (tG ⟨M.sets.n_ _ U.rw,nofun⟩)⟩
 ·rw[H i (by omega)];rw[nH (by omega),Array.getElem?_map]at R;obtain⟨y,T,rfl⟩:=Option.map_eq_some_iff.1 R;by_cases K:i<Q.b
  ·simp only[if_pos K];have:=M.old i y L K T;rw[woken_quitsD this];exact this
  ·simp only[if_neg K];have s:i<Q.b+C.j:=by rw[<-M.size];exact(aK.1 T).1
   obtain⟨k,rfl⟩:∃k,i=Q.b+k:=⟨i-Q.b,by omega⟩;have W:=M.wk k (by omega);obtain⟨n,e⟩:=A k (by omega);rw[e]at W;obtain⟨x,Z,B⟩:=W;obtain rfl:=Option.some.inj (T.symm.trans Z);rw[woken_quitsD B,show Q.b+k-Q.b=k by omega,e];exact B
 ·have:Q.b+C.j<=i:=by simpa[M.size]using L
  rw[H i (by omega)];exact M.above i this
 ·rw[uE];refine M.tr.join D F fun op gC=>?_;have G:=pY M.seen (ae _) (tG (g:=0) (fn:=fn) (pos:=pos) (m:=.acquire Q.E.st) ⟨M.sets.n_ _ U.rw,nofun⟩);rw[uE]at G;exact(G op gC).1
 ·rw[<-h.fold];exact M.wd.map I
 ·rw[List.perm_iff_count];intro y;have:=h.num y;rw[hd]at this;have l:sumTo Q.J.n (fun k=>qS y (C.ks k))=0:=by
   have:=sumTo_le (f:=fun k=>qS y (C.ks k)) (c:=0) (j:=Q.J.n) fun i _=>by
    by_cases hk:i<C.j
    ·obtain⟨n,e⟩:=A i hk;rw[e];exact ae _
    ·rw[h.no i (by omega)];exact ae _
   omega
  rw[l]at this;rw[show sC Q.J jo.aq=Q.J.gE.length from rfl,List.take_length]at this;omega
 ·have:=M.wd.mu;rw[z.1,z.2]at this;exact this
 ·have:=M.wd.wg;rw[O.1,O.2.1,O.2.2]at this;exact this
 ·obtain⟨k,e,_⟩:=M.sets.mp 0 (af _) y;cases e
end
section
variable{Q:gI}{nd:Nat->Nd}{fu:Nat->Nat}{C C':iB Q.E}{w w':World}{gs Fa:Array Goroutine}{t t':Trace}{q:Nat->Nat}{rel kj:Nat->Option Nat}{sl:Option (Nat×Nat)}
theorem gI.MI.at(M:Q.MI C nd fu gs w t q rel)(d:Nat):Q.MI C nd fu gs (w.at d) t q rel:=
 ⟨M.size,M.g0,M.wk,M.old,M.fuel,fun i Y=>(M.oh i Y).trans (AE _ _ _ _),M.sets,M.wd.at d,M.tr,M.deaf0,M.nf,M.above,M.pC,M.vm,M.seen⟩
theorem Nn{g:Goroutine}{w1:World}(h:g1.status=.blocked)(gs:Array _):gs.map (woken P g g1 w1)=gs:=by
 have:woken P g g1 w1=id:=by funext o;simp[woken,h]
 simp_all
theorem yk(g:Nat)(fn:FuncId)(pos:String):ah g fn pos #[]=#[]:=rfl
theorem gI.MI.Tj(M:Q.MI C nd fu gs w t q rel)(H:Q.Laws)(h:CI Q.J Q.gL C)(U:Calm Q.J C){md:Md}(hk:k<C.j)(N:C.ks k=.at .recv md)(F:Q.A (Q.ch C k) (nd (k+1)).S (nd (k+1)).X (nd (k+1)).g (nd (k+1)).w)(O:gs[Q.b+k]?=some gx)
  (gq:stepG Q.P false gx w=.comm (nd (k+1)).g #[rcase (Q.ch C k) Q.E.zc] true (.recv true) w #[])(V:md=.run\/k<iR Q.J C.d):
  ∃m' ops,runT Q.P (crowd gs w sl) (Q.b+k)=(.next m',ops)/\Q.jA C nd fu q m' (t++ops):=by
 have hb:=H.b0;have T:(Q.b+k==0)=false:=by simp;omega
 have D:stepG Q.P (Q.b+k==0) gx w=.comm (nd (k+1)).g #[rcase (Q.ch C k) Q.E.zc] true (.recv true) w #[]:=by rw[T];exact gq
 have hr:=M.oh (k+1) hk;by_cases Y:k<iR Q.J C.d
 ·obtain⟨s,B⟩:=M.wd.shut k hk Y;have G:=M.noSend (i0:=Q.b+k) H h hk (fun i _ hd=>by rw[hd]at Y;exact absurd Y (ar _));refine⟨_,_,crowd_recv_closed (sl:=sl) O D B G,?_⟩;exact M.aiC H h U hk N Y (fun f=>H.Tc F hr f) _ _
 ·obtain⟨s,B⟩:=M.wd.opn k hk Y;have Z:md=.run:=V.resolve_right Y;subst Z;have waits:(∀i,C.dm=.hD->C.d=.send C.L i->i%Q.J.n≠k)->∃m' ops,runT Q.P (crowd gs w sl) (Q.b+k)=(.next m',ops)/\Q.jA C nd fu q m' (t++ops):=by
   intro r;refine⟨_,_,crowd_waits (sl:=sl) O D (fun cc R=>?_),?_⟩
   ·simp only[az,ay,aA,or_false]at R;subst R;exact ways_recv_none B (M.noSend H h hk r)
   ·rw[yk];exact M.Tf H h U (lJ:=.hD) hk N (by rw[AK];exact F) (.inr ⟨rfl,rfl,Y,r⟩)
  by_cases p:C.dm=.hD
  ·have o:=M.g0;rw[p]at o;obtain⟨_,i,c,x,z,f0,u,v,m,W,l,a⟩:=o;by_cases I:i%Q.J.n=k
   ·have R:c=Q.ch C k:=by
     unfold gI.ch;rw[<-I,ao,m];rfl
    subst R;have G:=M.ae3 (k:=k) H l;refine⟨_,_,crowd_recv_meets (sl:=sl) O D B (by omega) l G,?_⟩;rw[yk,aJ,finishComm_recv,finishComm_send];have hx:Q.ok x:=H.Lm x (aW W);have K:=M.sets.oe _ (qM h.len hk);have vy:Q.b+k<gs.size:=by rw[M.size];omega
    refine M.hand H h U hk N u I W v B ?_ ?_ (fun i' e h2=>?_) (by simp) (a _ ((M.oh 0 (af _)).trans (vW (K.2.2.2 0 (af _))))) (H.KC F (hr.trans (vW (K.2.2.2 (k+1) hk))) hx _) ?_ (fun g=>Au ?_ g) ?_
    ·rw[nH (by omega),aj (M.pO H)]
    ·simp_all
    ·rw[nH (fun y=>h2 y.symm),nH (fun y=>e y.symm)]
    ·intro op gC;simp only[az,ay,aA,or_false]at gC;rcases gC with rfl|rfl|rfl|rfl
     ·exact⟨rfl,nofun,nofun,by show 0<Q.b+C.j;omega⟩
     ·exact⟨rfl,nofun,nofun,by show Q.b+k<Q.b+C.j;omega⟩
     ·exact⟨rfl,nofun,nofun,by show 0<Q.b+C.j;omega⟩
     ·exact⟨rfl,nofun,nofun,by show Q.b+k<Q.b+C.j;omega⟩
    ·simp
    ·intro op gC;simp only[az,ay,aA,or_false]at gC;rcases gC with rfl|rfl|rfl|rfl<;>exact⟨K.1,nofun⟩
   ·simp_all
  ·exact waits fun i y _=>absurd y p
theorem gI.MI.wz4(M:Q.MI C nd fu gs w t q rel)(U:Q.Laws)(h:CI Q.J Q.gL C)(Y:Calm Q.J C)(hk:k<C.j){g:Goroutine}{R:Prop}(F:C.ks k=.gT 4 0)(D:Q.E.UL Q.P g)
  (H:∀{g1:Goroutine} {w1:World} {es:Array _},stepG Q.P false g w=.go g1 w1 es->Q.jA C nd fu q (crowd ((gs.map (woken Q.P g g1 w1)).setIfInBounds (Q.b+k) g1) w1 sl) (t++ah (Q.b+k) g.frame.fn g.frame.place es)->R):R:=by
 obtain⟨_,g1,K,n,I⟩:=D;exact H (K w) (M.wd4 U h Y hk F I _ _)
theorem gI.MI.wz3(M:Q.MI C nd fu gs w t q rel)(V:Q.Laws)(h:CI Q.J Q.gL C)(H:Calm Q.J C)(hk:k<C.j){g:Goroutine}{R:Prop}(N:C.ks k=.gT 3 0)(r:Q.E.Lf Q.P g)
  (U:∀{g1:Goroutine} {w1:World} {es:Array Event},stepG Q.P false g w=.go g1 w1 es->Q.jA C nd fu q (crowd ((gs.map (woken Q.P g g1 w1)).setIfInBounds (Q.b+k) g1) w1 sl) (t++ah (Q.b+k) g.frame.fn g.frame.place es)->R):R:=by
 have A:k<Q.J.n:=ak hk h.jn;have x:=V.n8;have ph:=h.ph;have l2:=le_sumTo (f:=fun k=>jh (C.ks k)) A;have l0:=le_sumTo (f:=fun k=>jj (C.ks k)) A;simp only[N]at l2 l0;have I:=M.wd.wg;have W:=Rx (f:=fun k=>kS (C.ks k)) (j:=C.j) (n:=Q.J.n) (fun i=>by
  show kS (C.ks i)<=1
  cases C.ks i<;>simp only[kS]<;>(try split)<;>omega) (fun i p=>by show kS (C.ks i)=0;rw[h.no i p];rfl) h.jn hk (by show kS (C.ks k)=0;rw[N];rfl)
 have G:=h.pL;have s:=h.jn;have ha:po C.d<=1:=by cases C.d<;>simp[po]
 obtain⟨v,O⟩:∃v,C.v=v+1:=⟨C.v-1,by omega⟩;have K:C.ws=0/\C.wt<=1/\¬zh C.d:=by
  rcases ph with⟨a,b,_,_,_,c⟩|⟨y,⟨a,b,_⟩|⟨_,_,a,_⟩|⟨_,_,a,_⟩|⟨_,_,a,_⟩⟩
  ·exact⟨b,by omega,fun y=>by have:=c y;omega⟩
  ·exact⟨b,by omega,fun z=>by revert y z;cases C.d<;>intro y z<;>first|exact y|exact z⟩
  ·omega
  ·omega
  ·omega
 rw[O,K.1]at I;obtain⟨g1,w1,es,X,L,Z,D,m,u⟩:=r.2 w v C.wt (by omega) K.2.1 I;have F:ir Q.J v C.d<=ir Q.J C.v C.d:=by rw[O];cases C.d<;>simp only[ir]<;>omega
 by_cases S:v=0/\C.wt=1
 ·obtain⟨n,Y⟩:=m S;refine U X (M.Bi (s':=.gT 2 n) (i:=3) V h H hk N (by omega) Z L D (.inl ⟨2,n,rfl,by omega,Y⟩) (by rw[O];rfl) (fun o l B=>?_) F (by omega) (.inl fun _ _=>rfl) _ _);have z2:jh (gO.gT 3 0:gO Q.E)=0:=rfl;have z0:jj (gO.gT 3 0:gO Q.E)=0:=rfl;have y2:jh (gO.gT 2 n:gO Q.E)=1:=rfl;have T:jj (gO.gT 2 n:gO Q.E)=0:=rfl;rw[z2,z0]at B;rw[y2,T];rcases B with⟨a,_⟩|⟨y,⟨a,b,c,d,e⟩|⟨_,_,a,_⟩|⟨_,_,a,_⟩|⟨_,_,a,_⟩⟩
  ·omega
  ·exact .inr ⟨y,.inr (.inl ⟨a,rfl,S.1,by omega,by omega⟩)⟩
  ·omega
  ·omega
  ·omega
 ·obtain⟨n,Y⟩:=u S;refine U X (M.Bi (s':=.qt n) (i:=3) V h H hk N (by omega) Z L D (.inr ⟨n,rfl,Y⟩) (by rw[O];rfl) (fun o l B=>?_) F (by omega) (.inl fun _ _=>rfl) _ _);have z2:jh (gO.gT 3 0:gO Q.E)=0:=rfl;have z0:jj (gO.gT 3 0:gO Q.E)=0:=rfl;have y2:jh (gO.qt n:gO Q.E)=0:=rfl;have T:jj (gO.qt n:gO Q.E)=0:=rfl;rw[z2,z0]at B;rw[y2,T];rcases B with⟨a,b,c,d,e,_⟩|⟨y,⟨a,b,c,d,e⟩|⟨_,_,a,_⟩|⟨_,_,a,_⟩|⟨_,_,a,_⟩⟩
  ·exact .inl ⟨a,rfl,c,d,e,fun y=>absurd y K.2.2⟩
  ·exact .inr ⟨y,.inl ⟨a,rfl,by omega,d,e⟩⟩
  ·omega
  ·omega
  ·omega
theorem gI.MI.wz2(M:Q.MI C nd fu gs w t q rel)(N:Q.Laws)(h:CI Q.J Q.gL C)(D:Calm Q.J C)(hk:k<C.j){g:Goroutine}{R:Prop}(F:C.ks k=.gT 2 0)(L:Q.E.Ld Q.P g)
  (U:∀{g1:Goroutine} {w1:World} {es:Array _},stepG Q.P false g w=.go g1 w1 es->Q.jA C nd fu q (crowd ((gs.map (woken Q.P g g1 w1)).setIfInBounds (Q.b+k) g1) w1 sl) (t++ah (Q.b+k) g.frame.fn g.frame.place es)->R):R:=by
 have H:=ak hk h.jn;have ph:=h.ph;have l2:=le_sumTo (f:=fun k=>jh (C.ks k)) H;have l0:=le_sumTo (f:=fun k=>jj (C.ks k)) H;simp[F]at l2 l0;have Y:=M.wd.wg;have K:C.wt=1/\C.ws=0/\C.v=0:=by
  have z2:jh (gO.gT 2 0:gO Q.E)=1:=rfl;rcases ph with⟨_,_,a,_⟩|⟨y,⟨_,_,_,a,_⟩|⟨a,b,c,_⟩|⟨_,_,_,a,_⟩|⟨_,_,_,a,_⟩⟩
  ·omega
  ·omega
  ·omega
  ·omega
  ·omega
 rw[K.1,K.2.1,K.2.2]at Y;obtain⟨g1,es,B,I,n,A⟩:=L.2 w Y;refine U B (M.Bi N h D hk F (by omega) (Env.Eff.refl _ _) Y I (.inl ⟨1,n,rfl,by omega,A⟩) (by rw[K.2.2];rfl) (fun S O y=>?_) (by simp_all) (by omega) (.inl fun _ _=>rfl) _ _);rw[K.1,K.2.1,K.2.2]at y;exact y
theorem gI.MI.wz1(M:Q.MI C nd fu gs w t q rel)(O:Q.Laws)(h:CI Q.J Q.gL C)(D:Calm Q.J C)(hk:k<C.j){g:Goroutine}{R:Prop}(F:C.ks k=.gT 1 0)(N:Q.E.Lc Q.P g)
  (U:∀{g1:Goroutine} {w1:World} {es:Array _},stepG Q.P false g w=.go g1 w1 es->Q.jA C nd fu q (crowd ((gs.map (woken Q.P g g1 w1)).setIfInBounds (Q.b+k) g1) w1 sl) (t++ah (Q.b+k) g.frame.fn g.frame.place es)->R):R:=by
 have K:=ak hk h.jn;have ph:=h.ph;have l2:=le_sumTo (f:=fun k=>jh (C.ks k)) K;have l0:=le_sumTo (f:=fun k=>jj (C.ks k)) K;simp[F]at l2 l0;have Y:=M.wd.wg;have z2:jh (gO.gT 1 0:gO Q.E)=1:=rfl;have z0:jj (gO.gT 1 0:gO Q.E)=0:=rfl;have H:C.wt=1/\C.ws=0/\C.v=0:=by
  rcases ph with⟨_,_,a,_⟩|⟨y,⟨_,_,_,a,_⟩|⟨a,b,c,_⟩|⟨_,_,_,a,_⟩|⟨_,_,_,a,_⟩⟩
  ·omega
  ·omega
  ·omega
  ·omega
  ·omega
 rw[H.1,H.2.1,H.2.2]at Y;obtain⟨g1,w1,es,L,B,S,I,n,A⟩:=N.2 w Y;refine U L (M.Bi O h D hk F (by omega) S B I (.inl ⟨0,n,rfl,by omega,A⟩) (by rw[H.2.2];rfl) (fun V T y=>?_) (by simp_all) (by omega) (.inl fun _ _=>rfl) _ _);have y2:jh (gO.gT 0 n:gO Q.E)=0:=rfl;have X:jj (gO.gT 0 n:gO Q.E)=1:=rfl;rcases y with⟨_,_,a,_⟩|⟨y,⟨_,_,_,a,_⟩|⟨_,_,_,a,b⟩|⟨_,_,_,a,_⟩|⟨_,_,_,a,_⟩⟩
 ·omega
 ·omega
 ·exact .inr ⟨y,.inr (.inr (.inl ⟨rfl,rfl,rfl,by omega,by omega⟩))⟩
 ·omega
 ·omega
theorem gI.MI.wz0(M:Q.MI C nd fu gs w t q rel)(O:Q.Laws)(h:CI Q.J Q.gL C)(U:Calm Q.J C)(hk:k<C.j){g:Goroutine}{R:Prop}(N:C.ks k=.gT 0 0)(L:Q.E.Lb Q.P g)
  (F:∀{g1:Goroutine} {w1:World} {es:Array Event},stepG Q.P false g w=.go g1 w1 es->Q.jA C nd fu q (crowd ((gs.map (woken Q.P g g1 w1)).setIfInBounds (Q.b+k) g1) w1 sl) (t++ah (Q.b+k) g.frame.fn g.frame.place es)->R):R:=by
 have K:=ak hk h.jn;have ph:=h.ph;have l2:=le_sumTo (f:=fun k=>jh (C.ks k)) K;have l0:=le_sumTo (f:=fun k=>jj (C.ks k)) K;simp[N]at l2 l0;have Y:=M.wd.wg;have z2:jh (gO.gT 0 0:gO Q.E)=0:=rfl;have z0:jj (gO.gT 0 0:gO Q.E)=1:=rfl;have D:C.wt=0/\C.ws=0/\C.v=0:=by
  rcases ph with⟨_,_,_,a,_⟩|⟨y,⟨_,_,_,_,a⟩|⟨_,_,_,_,a⟩|⟨a,b,c,_⟩|⟨_,_,_,_,a⟩⟩
  ·omega
  ·omega
  ·omega
  ·omega
  ·omega
 rw[D.1,D.2.1,D.2.2]at Y;obtain⟨g1,w1,es,B,A,S,I,n,H⟩:=L.2.2 w Y;refine F B (M.Bi O h U hk N (by omega) S A I (.inr ⟨n,rfl,H⟩) (by rw[D.2.2];rfl) (fun V T y=>?_) (by simp_all) (by omega) (.inr ⟨L.2.1,H.status⟩) _ _);have y2:jh (gO.qt n:gO Q.E)=0:=rfl;have X:jj (gO.qt n:gO Q.E)=0:=rfl;rcases y with⟨_,_,_,a,_⟩|⟨y,⟨_,_,_,_,a⟩|⟨_,_,_,_,a⟩|⟨_,_,_,a,b⟩|⟨_,_,_,_,a⟩⟩
 ·omega
 ·omega
 ·omega
 ·exact .inr ⟨y,.inr (.inr (.inr ⟨rfl,rfl,rfl,by omega,by omega⟩))⟩
 ·omega
theorem gI.MI.aiG(M:Q.MI C nd fu gs w t q rel)(D:Q.Laws)(h:CI Q.J Q.gL C)(Y:Calm Q.J C)(hk:k<C.j){g:Goroutine}(V:gs[Q.b+k]?=some g)(U:g.status=.running):
  ∃m' ops,runT Q.P (crowd gs w sl) (Q.b+k)=(.next m',ops)/\Q.jA C nd fu q m' (t++ops):=by
 have hb:=D.b0;have s:k<Q.J.n:=ak hk h.jn;have r:(Q.b+k==0)=false:=by simp;omega
 have hr:=M.oh (k+1) hk;have T:=M.wk k hk;have K:∀{g1:Goroutine} {w1:World} {es:Array Event},stepG Q.P false g w=.go g1 w1 es->Q.jA C nd fu q (crowd ((gs.map (woken Q.P g g1 w1)).setIfInBounds (Q.b+k) g1) w1 sl) (t++ah (Q.b+k) g.frame.fn g.frame.place es)->
   ∃m' ops,runT Q.P (crowd gs w sl) (Q.b+k)=(.next m',ops)/\Q.jA C nd fu q m' (t++ops):=fun gq l=>⟨_,_,runT_crowd_go (sl:=sl) V (by rw[r];exact gq),l⟩
 have G:=Hc h.lock;have Lt:=D.n8;cases H:C.ks k with
 |no=>rw[H]at T;exact T.elim
 |«at» pc md=>
  rw[H]at T;obtain⟨z,F,h3⟩:=T;obtain rfl:=Option.some.inj (V.symm.trans z);cases md with
  |blk=>cases U
  |hD=>cases U
  |jS=>
   have hpc:=(h.md k _ _ H).2 (.inr rfl);subst hpc;have l:Q.A (Q.ch C k) (nd (k+1)).S (nd (k+1)).X (nd (k+1)).g (nd (k+1)).w:=by
    have:=h3 nofun;rw[AK]at this;exact this
   refine M.Tj D h Y hk H l V ?_ (.inr (h.gone k (by rw[H];trivial)));have e:{(nd (k+1)).g with status:=.running}=(nd (k+1)).g:=by
    have:=(D.JZ l).1;generalize(nd (k+1)).g=g0 at this;obtain⟨a,b,c,d,e⟩:=g0;simp only at this;subst this;rfl
   have:=stepG_tries (P:=Q.P) (g:=(nd (k+1)).g) (sh:=.recv true) false #[rcase (Q.ch C k) Q.E.zc] w;rw[e]at this;exact this.trans (D.J0 l w)
  |run=>
   have mul:∀p,oZ pc=p->(∀x,pc=.lk p x->True)->Lock.Ok C.m p/\Lock.La C.m p:=by
    intro p hp _;have a:=h.lock.ok k s;have b:=h.lock.pre s;rw[H]at a;simp only[H]at b;rw[<-hp];exact⟨a,b⟩
   rcases F.look with gq|⟨hn,_,W⟩
   ·obtain⟨f,O⟩:∃f,fu (k+1)=f+1:=⟨fu (k+1)-1,by have:=M.sL (i:=k+1) hk;omega⟩;have B:=gq;rw[O]at gq;cases pc with
    |recv=>
     rw[AK]at B;exact M.Tj D h Y hk H B V (D.J0 B w) (.inl rfl)
    |ld x=>
     obtain⟨g1,R,I⟩:=gq.2.2 w hr;exact K R (M.Ei D h Y hk H O (.inl rfl) I _ _ rfl (fun _=>rfl) nofun nofun nofun (fun p x e=>by cases e;rfl) nofun (by show 14+2<17;omega) rfl)
    |lk p x=>
     obtain⟨o1,o2⟩:=mul p rfl (fun _ _=>trivial);rcases gq.2.2 w C.m C.c hr M.wd.mu o1 o2 (by omega) G.1 with⟨sv,rfl,v,R⟩|⟨p',m',c',g1,w1,es,N,R,Z,o,L,hw,I⟩
     ·refine⟨_,_,runT_crowd_go (sl:=sl) V (by rw[r];exact R),?_⟩;rw[Nn rfl,yk];exact M.Tf D h Y (lJ:=.blk) hk H B (.inl ⟨rfl,⟨sv,x,rfl⟩,v⟩)
     ·obtain⟨c1,c2⟩:=h.mvL D.n8 hk H N;refine K R (M.Lo D h Y hk H O I _ _ Z o L hw c1 c2 ?_);show u_ (Env.behind p' x)=1
      cases p'<;>rfl
    |le x=>
     obtain⟨g1,R,I⟩:=gq.2.2 w hr;exact K R (M.Ei D h Y hk H O (.inr rfl) I _ _ rfl (fun _=>rfl) nofun nofun nofun nofun nofun (by show 13<14;omega) rfl)
    |la x=>
     obtain⟨g1,R,I⟩:=gq.2.2 w C.γ hr (M.wd.map (h.free hk H));exact K R (M.wla D h Y hk H O I _ _)
    |ur γ=>
     obtain⟨u,g1,R,I⟩:=gq.2.2 w hr;exact K R (M.wur D h Y hk H O u I _ _)
    |ud=>
     obtain⟨g1,R,I⟩:=gq.2.2 w hr;exact K R (M.Ei D h Y hk H O (.inl rfl) I _ _ rfl (fun _=>rfl) nofun nofun nofun nofun nofun (by show 10<11;omega) rfl)
    |u0=>
     obtain⟨o1,o2⟩:=mul .cr rfl (fun _ _=>trivial);rcases gq.2.2 w C.m C.c hr M.wd.mu o1 o2 (by omega) G.1 with⟨sv,e0,_⟩|⟨p',m',c',g1,w1,es,N,R,Z,o,L,hw,I⟩
     ·cases e0
     ·obtain⟨c1,c2⟩:=h.UQ D.n8 hk H (.inl ⟨rfl,rfl⟩) N;refine K R (M.Lo D h Y hk H O I _ _ Z o L hw c1 c2 ?_);show u_ (Env.wY p')=1
      cases p'<;>rfl
    |un p=>
     obtain⟨o1,o2⟩:=mul p rfl (fun _ _=>trivial);have hun:=(h.o8 k p _ H).1;rcases gq.2.2 w C.m C.c hr M.wd.mu o1 o2 (by omega) G.1 with⟨sv,rfl,_⟩|⟨p',m',c',g1,w1,es,N,R,Z,o,L,hw,I⟩
     ·cases hun
     ·obtain⟨c1,c2⟩:=h.UQ D.n8 hk H (.inr rfl) N;refine K R (M.Lo D h Y hk H O I _ _ Z o L hw c1 c2 ?_);show u_ (Env.wY p')=1
      cases p'<;>rfl
    |ue=>
     obtain⟨g1,R,I⟩:=gq.2.2 w hr;exact K R (M.Ei D h Y hk H O (.inr rfl) I _ _ rfl (fun _=>rfl) nofun nofun nofun nofun nofun (by show 7<8;omega) rfl)
    |wr=>
     obtain⟨g1,R,n,hn⟩:=gq.2.2 w hr;exact K R (M.akc D h Y hk H hn _ _)
   ·obtain⟨g1,w1,es,S1,X1,R,hd,I⟩:=W w hr;exact K R (M.aiA D h Y hk H hn R hd I _ _)
 |gT i n=>
  rw[H]at T;obtain⟨g',z,F⟩:=T;obtain rfl:=Option.some.inj (V.symm.trans z);have i4:=h.gT k i n H;cases n with
  |succ n=>
   obtain⟨_,g1,R,hq⟩:=F;exact K (R w) (M.TY D h Y hk H (by simp) (.inl ⟨i,n,rfl,rfl,rfl,hq⟩) _ _)
  |zero=>
   have hi:i=0\/i=1\/i=2\/i=3\/i=4:=by omega
   rcases hi with rfl|rfl|rfl|rfl|rfl
   ·exact M.wz0 D h Y hk H F K
   ·exact M.wz1 D h Y hk H F K
   ·exact M.wz2 D h Y hk H F K
   ·exact M.wz3 D h Y hk H F K
   ·exact M.wz4 D h Y hk H F K
 |qt n=>
  rw[H]at T;obtain⟨g',z,F⟩:=T;obtain rfl:=Option.some.inj (V.symm.trans z);cases n with
  |zero=>rw[F.1]at U;cases U
  |succ n=>
   rcases F with⟨y,_⟩|⟨_,g1,es,Z,R,hq⟩
   ·rw[y]at U;cases U
   ·exact K (R w) (M.TY D h Y hk H Z (.inr ⟨n,rfl,rfl,hq⟩) _ _)
end
section
variable{Q:gI}{nd:Nat->Nd}{fu:Nat->Nat}{C C':iB Q.E}{w w':World}{gs Fa:Array Goroutine}{t t':Trace}{q:Nat->Nat}{rel kj:Nat->Option Nat}{sl:Option (Nat×Nat)}
theorem nD.on{d d':jo}{v ws e2 e0:Nat}(h:nD d v wt ws e2 e0)(hw:¬yY d)(Y:¬yY d')(H:zh d'->v=0):nD d' v wt ws e2 e0:=by
 obtain⟨a,b,c,e⟩:=h.early hw;exact .inl ⟨a,b,c,e,Y,H⟩
theorem CI.vle(h:CI Q.J Q.gL C):C.v<=C.j+po C.d:=by have:=h.pL;omega
theorem CI.aiH(h:CI Q.J Q.gL C)(H:iR Q.J C.d=0):C.v=C.j+po C.d:=by
 have:=h.pL;have K:=by
  have:=sumTo_le (f:=fun k=>kS (C.ks k)) (c:=0) (j:=Q.J.n) fun i _=>by
   have Y:¬Gone _:=fun y=>by have:=h.gone i y;omega
   cases e:C.ks i with
   |no=>exact ae _
   |«at» pc md=>exact ae _
   |gT i n=>rw[e]at Y;exact absurd trivial Y
   |qt n=>rw[e]at Y;exact absurd trivial Y
  omega
 omega
theorem gI.MI.aiI(M:Q.MI C nd fu gs w t q rel)(H:Q.Laws)(h:CI Q.J Q.gL C)(F:Calm Q.J C){c x f:Nat}{z:Value}(Z:C.dm=.run)(hd:C.d=.send C.L i)(o:fu 0=f+1)(r:gs[0]?=some (nd 0).g)(N:Q.DS (fu 0) C.d (nd 0).S (nd 0).X (nd 0).g (nd 0).w)(V:C.L[i%Q.J.n]?=some c)(W:Q.J.gE[i]?=some x)
  (D:∀w2 s,gK Q.E.U (nd 0).S (nd 0).w w2->ot w2 c s->stepG Q.P true (nd 0).g w2=.comm (nd 0).g #[scase c (.int .i64 (x:Int)) z] true .send w2 #[])(O:∀w2,gK Q.E.U (nd 0).S (nd 0).w w2->Q.E.Tree Q.P true (Q.DS f (Q.J.sends C.L (i+1))) (nd 0).S (nd 0).X (Go.Conc.served (nd 0).g undef) w2):
  ∃m' ops,runT Q.P (crowd gs w sl) 0=(.next m',ops)/\Q.jA C nd fu q m' (t++ops):=by
 have e:=H.b0;have hr:=M.oh 0 (af _);have hk:i%Q.J.n<C.j:=by
  have:=(List.getElem?_eq_some_iff.1 V).1;rw[h.len]at this;exact this
 have K:c=Q.ch C (i%Q.J.n):=by
  unfold gI.ch;rw[ao,V];rfl
 subst K;generalize R:i%Q.J.n=k at *;obtain⟨s,A⟩:=M.wd.opn k hk (by rw[hd];exact ar _);have gq:=D w s hr A;by_cases p:∃pc,C.ks k=.at pc .hD
 ·obtain⟨pc,I⟩:=p;have T:=(h.md k _ _ I).2 (.inl rfl);subst T;have G:=M.zi hk I;have B:Q.b+k<gs.size:=by rw[M.size];omega
  have m:=by
   have:=M.wk k hk;rw[I]at this;have:=this.2.2 nofun;rw[AK]at this;exact this
  refine⟨_,_,crowd_send_meets (sl:=sl) r gq A (by omega) G (M.ae2 H h hk I),?_⟩;rw[yk,aJ,finishComm_recv,finishComm_send];have Y:=M.sets.oe _ (qM h.len hk);refine M.hand H h F hk I hd R W o A ?_ ?_ (fun i' u v=>?_) (by simp) (O _ (hr.trans (vW (Y.2.2.2 0 (af _))))) (H.KC m ((M.oh (k+1) hk).trans (vW (Y.2.2.2 (k+1) hk))) (H.Lm x (aW W)) _) ?_ (fun g=>Au ?_ g) ?_
  ·rw[aj (by simpa using M.pO H)]
  ·rw[nH (by omega),aj B]
  ·rw[nH (fun y=>u y.symm),nH (fun y=>v y.symm)]
  ·intro op gC;simp only[az,ay,aA,or_false]at gC;rcases gC with rfl|rfl|rfl|rfl
   ·exact⟨rfl,nofun,nofun,by show 0<Q.b+C.j;omega⟩
   ·exact⟨rfl,nofun,nofun,by simp_all⟩
   ·exact⟨rfl,nofun,nofun,by show 0<Q.b+C.j;omega⟩
   ·exact⟨rfl,nofun,nofun,by show Q.b+k<Q.b+C.j;omega⟩
  ·simp
  ·intro op gC;simp at gC;rcases gC with rfl|rfl|rfl|rfl<;>exact⟨Y.1,nofun⟩
 ·have l:=fun pc y=>p ⟨pc,y⟩;refine⟨_,_,crowd_waits (sl:=sl) r gq (fun a K=>?_),?_⟩
  ·simp only[az,ay,aA,or_false]at K;subst K;exact ways_send_none A (ae _) (M.ag9 H h hk l rfl)
  ·exact M.Ti H h F (lJ:=.hD) Z ⟨N,i,_,x,z,f,hd,o,by rw[R];exact V,W,aj (M.pO H),O⟩ (.inr ⟨rfl,i,hd,by rw[R];exact l⟩)
theorem gI.MI.aiJ(M:Q.MI C nd fu gs w t q rel)(F:Q.Laws)(h:CI Q.J Q.gL C)(H:Calm Q.J C){g:Goroutine}(G:gs[0]?=some g)(V:g.status=.running):
  ∃m' ops,runT Q.P (crowd gs w sl) 0=(.next m',ops)/\(Q.jA C nd fu q m' (t++ops)\/Q.xt m' (t++ops)):=by
 have hb:=F.b0;have hr:=M.oh 0 (af _);have E:=M.g0;have Lt:=F.n8;have hjn:=h.jn;have O:=h.vle;have R:=M.wd.wg;have Y:=h.od;cases r:C.dm with
 |blk=>
  rw[r]at E;obtain rfl:=Option.some.inj (G.symm.trans E.1);cases V
 |hD=>
  rw[r]at E;obtain⟨_,i,c,x,z,f0,_,_,_,_,e5,_⟩:=E;obtain rfl:=Option.some.inj (G.symm.trans e5);cases V
 |jS=>exact absurd r h.pK.2.2
 |run=>
  rw[r]at E;obtain⟨h1,h2⟩:=E;obtain rfl:=Option.some.inj (G.symm.trans h1);have D:∀{g1:Goroutine} {w1:World} {es:Array Event},stepG Q.P true (nd 0).g w=.go g1 w1 es->Q.jA C nd fu q (crowd ((gs.map (woken Q.P (nd 0).g g1 w1)).setIfInBounds 0 g1) w1 sl) (t++ah 0 (nd 0).g.frame.fn (nd 0).g.frame.place es)->
    ∃m' ops,runT Q.P (crowd gs w sl) 0=(.next m',ops)/\(Q.jA C nd fu q m' (t++ops)\/Q.xt m' (t++ops)):=fun gq hA=>⟨_,_,runT_crowd_go (sl:=sl) (i:=0) G gq,.inl hA⟩
  rcases h2.look with gq|⟨hn,_,u⟩
  ·obtain⟨f,N⟩:∃f,fu 0=f+1:=⟨fu 0-1,by have:=M.sL (i:=0) (af _);omega⟩;have W:=gq;rw[N]at gq;have nm:(Md.run=.blk->∀d:jo,d=.w3):=nofun;have A:∀d:jo,(Md.run=.blk->d=.w3)/\(Md.run=.hD->∃i,d=.send C.L i)/\Md.run≠.jS:=fun d=>⟨nofun,nofun,nofun⟩;have ph:=h.ph;cases hd:C.d with
   |st L=>
    rw[hd]at gq Y;obtain⟨c,hl⟩:=gq.2.2;obtain⟨g1,K,I⟩:=hl w hr;exact D K (M.Ek F h H (.inl rfl) N I (h.dd (A _) (by rw[hd];rfl) (by rw[hd];rfl) (fun _ _ y=>by rw[hd]at y;exact y.on id id nofun) (by rw[hd];exact ae _) Y nofun) (by rw[hd];simp only[ir];omega) _ _ (by rw[hd];rfl) (by rw[hd];rfl))
   |a2 L c=>
    rw[hd]at gq Y ph;obtain⟨a,b,_,_⟩:=ph.early id;have X:C.v=L.length:=by
     have:=h.aiH (by rw[hd];rfl);rw[hd]at this;rw[this,Y.1,h.len];rfl
    rw[X,a,b]at R;obtain⟨g1,w1,es,K,S,he,U,I⟩:=gq.2.2 w hr R;by_cases e:L=[]
    ·rw[if_pos e]at I;exact D K (M.vn F h H N I he S U (h.dd (A _) (by rw[hd];rfl) (by rw[hd,X];rfl) (fun _ _ y=>by
      rw[hd]at y;obtain⟨a1,a2,a3,a4⟩:=y.early id;exact .inl ⟨rfl,rfl,a3,a4,id,nofun⟩) (by rw[hd];exact ae _) Y nofun) (by rw[hd];simp only[ir];omega) _ _ (by rw[hd];rfl) (by rw[hd];rfl))
    ·rw[if_neg e]at I;exact D K (M.vn F h H N I he S U (h.dd (A _) (by rw[hd];rfl) (by rw[hd,X];rfl) (fun _ _ y=>by
      rw[hd]at y;obtain⟨a1,a2,a3,a4⟩:=y.early id;exact .inl ⟨rfl,rfl,a3,a4,id,nofun⟩) (by rw[hd];exact ae _) Y nofun) (by rw[hd];simp only[ir];omega) _ _ (by rw[hd];rfl) (by rw[hd];rfl))
   |a3 L c=>
    rw[hd]at gq Y;obtain⟨g1,K,I⟩:=gq.2.2 w hr;exact D K (M.Te F h H (.inl rfl) N I (h.dd (A _) (by rw[hd];rfl) (by rw[hd];rfl) (fun _ _ y=>by rw[hd]at y;exact y.on id id nofun) (by rw[hd];exact ae _) Y nofun) (by rw[hd];simp only[ir];omega) _ _ (by rw[hd];rfl) (by rw[hd];rfl))
   |a4 L c=>
    rw[hd]at gq Y;obtain⟨g1,K,I⟩:=gq.2.2 w hr;exact D K (M.Ek F h H (.inr rfl) N I (h.dd (A _) (by rw[hd];rfl) (by rw[hd];rfl) (fun _ _ y=>by rw[hd]at y;exact y.on id id nofun) (by rw[hd];exact ae _) Y nofun) (by rw[hd];simp only[ir];omega) _ _ (by rw[hd];rfl) (by rw[hd];rfl))
   |go L c=>
    rw[hd]at gq Y;obtain⟨hSc,BF,hl⟩:=gq.2.2;obtain⟨Lq,g1,l,K,KD,I⟩:=hl w hr;have T:L=C.L:=Y.1;subst T;refine⟨_,_,runT_crowd_spawn (sl:=sl) (i:=0) G K,.inl ?_⟩;rw[yk,M.size];have:=M.aha (sl:=sl) F h H hd N hSc BF Lq KD I (nd 0).g.frame.fn (nd 0).g.frame.place l.frame.fn (nd 0).g.frame.place;rw[Array.append_assoc]at this;exact this
   |send L i=>
    rw[hd]at gq Y;have T:L=C.L:=Y.1;subst T;obtain⟨c,x,e,hx,z,o,htr⟩:=gq.2.2;obtain⟨m',ops,K,e2⟩:=M.aiI (sl:=sl) F h H r hd N G W e hx o htr;exact⟨m',ops,K,.inl e2⟩
   |close L k=>
    rw[hd]at gq Y;have T:L=C.L:=Y.1;subst T;obtain⟨hw,c,e,hl⟩:=gq.2.2;have hk:k<C.j:=by
     have a:C.j=Q.J.n:=Y.2.1;have b:k<Q.J.n:=Y.2.2;omega
    have US:c=Q.ch C k:=by
     unfold gI.ch;rw[ao,e];rfl
    subst US;obtain⟨s,E⟩:=M.wd.opn k hk (by rw[hd];exact Nat.lt_irrefl _);obtain⟨g1,p,K,I⟩:=hl w s hr E;exact D K (M.ag_ F h H hk hd E hw p N I _ _)
   |kd=>
    rw[hd]at gq Y;obtain⟨g1,K,I⟩:=gq.2.2 w hr;exact D K (M.Ek F h H (.inl rfl) N I (h.dd (A _) (by rw[hd];rfl) (by rw[hd];rfl) (fun _ _ y=>by rw[hd]at y;exact y.on id id nofun) (by rw[hd];exact ae _) Y nofun) (by
     have a:C.v<=C.j:=by rw[hd]at O;exact O
     rw[hd];simp only[ir];omega) _ _ (by rw[hd];rfl) (by rw[hd];rfl))
   |w1=>
    rw[hd]at gq Y ph;obtain⟨a,b,_,_⟩:=ph.early id;have m:C.v<=8:=by rw[hd]at O;exact aY O (by show C.j+0<=8;omega)
    rw[a,b]at R;obtain⟨g1,es,K,U,t0,t1⟩:=gq.2.2 w C.v hr m R;by_cases X:C.v=0
    ·exact D K (M.vn F h H N (t0 X) (Env.Eff.refl _ _) R U (h.dd (A _) (by rw[hd];rfl) (by rw[hd];rfl) (fun _ _ y=>by
      rw[hd]at y;obtain⟨a1,a2,a3,a4⟩:=y.early id;exact .inl ⟨rfl,rfl,a3,a4,id,fun _=>X⟩) (by rw[hd];exact ae _) Y nofun) (by rw[hd];simp only[ir];omega) _ _ (by rw[hd];rfl) (by rw[hd];rfl))
    ·exact D K (M.vn F h H N (t1 X) (Env.Eff.refl _ _) R U (h.dd (A _) (by rw[hd];rfl) (by rw[hd];rfl) (fun _ _ y=>by
      rw[hd]at y;obtain⟨a1,a2,a3,a4⟩:=y.early id;exact .inl ⟨rfl,rfl,a3,a4,id,nofun⟩) (by rw[hd];exact ae _) Y (fun v0 e0=>by cases e0;exact⟨by omega,ae _⟩)) (by rw[hd];simp only[ir];omega) _ _ (by rw[hd];rfl) (by rw[hd];rfl))
   |w2 v0=>
    have rY:=h.w2 v0 hd;rw[hd]at gq Y ph;obtain⟨a,b,_,_⟩:=ph.early id;have m:C.v<=8:=by rw[hd]at O;exact aY O (by show C.j+0<=8;omega)
    rw[a,b]at R;obtain⟨ty,tn⟩:=gq.2.2 w C.v hr m R;by_cases X:C.v=v0
    ·obtain⟨g1,w1,es,K,S,he,U,I⟩:=ty X;exact D K (M.vn F h H N I he S U (h.dd (A _) (by rw[hd];rfl) (by rw[hd];rfl) (fun _ _ y=>by
      rw[hd]at y;obtain⟨a1,a2,a3,a4⟩:=y.early id;exact .inr ⟨trivial,.inl ⟨rfl,rfl,by omega,a3,a4⟩⟩) (by rw[hd];exact ae _) Y nofun) (by rw[hd];simp only[ir];omega) _ _ (by rw[hd];rfl) (by rw[hd];rfl))
    ·obtain⟨g1,es,K,U,I⟩:=tn X;exact D K (M.vn F h H N I (Env.Eff.refl _ _) R U (h.dd (A _) (by rw[hd];rfl) (by rw[hd];rfl) (fun _ _ y=>by
      rw[hd]at y;obtain⟨a1,a2,a3,a4⟩:=y.early id;exact .inl ⟨rfl,rfl,a3,a4,id,nofun⟩) (by rw[hd];exact ae _) Y nofun) (by rw[hd];simp only[ir];omega) _ _ (by rw[hd];rfl) (by rw[hd];rfl))
   |wx=>
    rw[hd]at gq Y;obtain⟨g1,K,I⟩:=gq.2.2 w hr;exact D K (M.Te F h H (.inr rfl) N I (h.dd (A _) (by rw[hd];rfl) (by rw[hd];rfl) (fun _ _ y=>by
     rw[hd]at y;rcases y with⟨_,_,_,_,y,_⟩|⟨_,y⟩
     ·exact absurd trivial y
     ·exact .inr ⟨trivial,y⟩) (by rw[hd];exact ae _) Y nofun) (by rw[hd];simp only[ir];omega) _ _ (by rw[hd];rfl) (by rw[hd];rfl))
   |w3=>
    rw[hd]at gq Y ph;obtain⟨_,ho,hb1,p⟩:=gq;by_cases B:C.ws=0
    ·rw[B]at R;have K:=hb1 w C.v C.wt hr R;refine⟨_,_,runT_crowd_go (sl:=sl) (i:=0) G K,.inl ?_⟩;rw[Nn rfl,yk];exact M.Ti F h H (lJ:=.blk) r ⟨aj (M.pO F),ho,V,W⟩ (.inl ⟨rfl,hd,B⟩)
    ·have Z:C.wt=0/\C.ws=1/\C.v=0:=by
      rcases ph with⟨_,a,_⟩|⟨_,⟨_,a,_⟩|⟨_,a,_⟩|⟨_,a,_⟩|⟨a,b,c,_⟩⟩
      ·exact absurd a B
      ·exact absurd a B
      ·exact absurd a B
      ·exact absurd a B
      ·exact⟨a,b,c⟩
     rw[Z.1,Z.2.1,Z.2.2]at R;obtain⟨g1,w1,es,K,S,he,U,I⟩:=p w hr R;exact D K (M.vn F h H N I he S U (h.dd (A _) (by rw[hd];rfl) (by rw[hd,Z.2.2];rfl) (fun _ _ y=>by
      rcases y with⟨_,a,_⟩|⟨_,⟨_,a,_⟩|⟨_,a,_⟩|⟨_,a,_⟩|⟨_,_,_,a,b⟩⟩
      ·exact absurd a B
      ·exact absurd a B
      ·exact absurd a B
      ·exact absurd a B
      ·exact .inl ⟨rfl,rfl,a,b,id,fun _=>rfl⟩) (by rw[hd];exact ae _) Y nofun) (by rw[hd];simp only[ir];omega) _ _ (by rw[hd];rfl) (by rw[hd];rfl))
   |w4=>
    rw[hd]at gq Y ph;have Z:C.wt=0/\C.ws=0/\C.v=0:=by
     rcases ph with⟨a,b,_,_,_,c⟩|⟨y,_⟩
     ·exact⟨a,b,c trivial⟩
     ·exact y.elim
    rw[Z.1,Z.2.1,Z.2.2]at R;obtain⟨g1,es,K,U,I⟩:=gq.2.2 w hr R;exact D K (M.vn F h H N I (Env.Eff.refl _ _) R U (h.dd (A _) (by rw[hd];rfl) (by rw[hd,Z.2.2];rfl) (fun _ _ y=>by
     rw[hd]at y;obtain⟨a1,a2,a3,a4⟩:=y.early id;exact .inl ⟨rfl,rfl,a3,a4,id,fun _=>rfl⟩) (by rw[hd];exact ae _) Y nofun) (by rw[hd];simp only[ir];omega) _ _ (by rw[hd];rfl) (by rw[hd];rfl))
   |ke=>
    rw[hd]at gq Y ph;obtain⟨g1,K,I⟩:=gq.2.2 w hr;have hv0:C.v=0:=by
     rcases ph with⟨_,_,_,_,_,c⟩|⟨y,_⟩
     ·exact c trivial
     ·exact y.elim
    exact D K (M.Ek F h H (.inr rfl) N I (h.dd (A _) (by rw[hd];rfl) (by rw[hd];rfl) (fun _ _ y=>by rw[hd]at y;exact y.on id id fun _=>hv0) (by rw[hd];exact ae _) Y nofun) (by rw[hd];simp only[ir];omega) _ _ (by rw[hd];rfl) (by rw[hd];rfl))
   |aq=>
    rw[hd]at gq;obtain⟨g1,K,hF⟩:=gq.2.2 w hr;exact⟨_,_,runT_crowd_go (sl:=sl) (i:=0) G K,.inr (M.final F h hd hF _ _)⟩
  ·obtain⟨g1,w1,es,S1,X1,K,hd,I⟩:=u w hr;exact D K (M.aiD F h H r hn K hd I _ _)
theorem Ry{f:Nat->Nat}:∀{n:Nat},0<sumTo n f->∃k,k<n/\0<f k
 |0,h=>by simp[sumTo]at h
 |n+1,h=>by
  rw[sumTo]at h;by_cases Y:0<f n
  ·exact⟨n,by omega,Y⟩
  ·obtain⟨k,hk,K⟩:=Ry (f:=f) (n:=n) (by omega);exact⟨k,by omega,K⟩
theorem Sy{f:Nat->Nat}{j:Nat}(h:∀k,k<j->1<=f k):∀n,j<=n->j<=sumTo n f
 |0,Y=>by omega
 |n+1,Y=>by
  rw[sumTo];by_cases e:j=n+1
  ·have:=by
    have:∀m,m<=n->m<=sumTo m f:=by
     intro m;induction m with
     |zero=>omega
     |succ m H=>
      intro K;rw[sumTo];have:=h m (by omega);omega
    exact this n (ae _)
   have:=h n (by omega);omega
  ·have:=Sy h n (by omega);omega
theorem gI.MI.Ka(M:Q.MI C nd fu gs w t q rel)(N:Q.Laws)(h:CI Q.J Q.gL C)(U:Calm Q.J C)(hk:k<C.j)(V:∀pc,C.ks k≠.at pc .hD)(Z:∀n,C.ks k≠.qt n):∃(i:Nat) (g:Goroutine),gs[i]?=some g/\g.status=.running:=by
 have run:∀k pc,k<C.j->C.ks k=.at pc .run->∃(i:Nat) (g:Goroutine),gs[i]?=some g/\g.status=.running:=by
  intro k pc hk e;have K:=M.wk k hk;rw[e]at K;exact⟨_,_,K.1,tw K.2.1 fun y=>(vP N (M.sL hk) y).1⟩
 have K:=M.wk k hk;cases H:C.ks k with
 |no=>rw[H]at K;exact K.elim
 |«at» pc md=>
  cases md with
  |run=>exact run k pc hk H
  |jS=>rw[H]at K;exact⟨_,_,K.1,rfl⟩
  |hD=>exact absurd H (V pc)
  |blk=>
   have L:=U.blk k pc H;obtain⟨sv,x,rfl⟩:=(h.md k _ _ H).1 rfl;obtain⟨k',O,R,D⟩:=h.lock.live (ak hk h.jn) (by rw[H];rfl) L;cases Y:C.ks k' with
   |no=>exact absurd (by rw[Y];rfl) D
   |«at» B A=>
    have I:=aZ fun y=>by rw[h.no k' y]at Y;cases Y
    cases A with
    |run=>exact run k' B I Y
    |blk=>
     obtain⟨F,x',rfl⟩:=(h.md k' _ _ Y).1 rfl;exact absurd (by rw[Y];rfl) (R F)
    |hD=>
     have:=(h.md k' _ _ Y).2 (.inl rfl);subst this;exact absurd (by rw[Y];rfl) D
    |jS=>
     have:=(h.md k' _ _ Y).2 (.inr rfl);subst this;exact absurd (by rw[Y];rfl) D
   |gT i n=>exact absurd (by rw[Y];rfl) D
   |qt n=>exact absurd (by rw[Y];rfl) D
 |gT i n=>
  rw[H]at K;obtain⟨g,R,D⟩:=K;exact⟨_,_,R,Cs D⟩
 |qt n=>exact absurd H (Z n)
theorem gI.MI.live(M:Q.MI C nd fu gs w t q rel)(U:Q.Laws)(h:CI Q.J Q.gL C)(Y:Calm Q.J C):∃(i:Nat) (g:Goroutine),gs[i]?=some g/\g.status=.running:=by
 have H:=M.g0;cases D:C.dm with
 |run=>
  rw[D]at H;exact⟨_,_,H.1,tw H.2 fun y=>(Cr (M.sL (i:=0) (af _)) y).1⟩
 |jS=>exact absurd D h.pK.2.2
 |hD=>
  obtain⟨i,hd⟩:=h.pK.2.1 D;have K:=h.od;rw[hd]at K;have R:=K.2.1;have hk:i%Q.J.n<C.j:=by rw[R];exact Nat.mod_lt _ U.n0
  refine M.Ka U h Y hk (fun pc=>Y.pB i D hd pc) (fun n e=>?_);have:=h.gone _ (show Gone _ by rw[e];trivial);rw[hd]at this;exact absurd this (ar _)
 |blk=>
  have hd:=h.pK.1 D;have O:=Y.KA D;have K:=h.od;rw[hd]at K;have R:C.j=Q.J.n:=K;have ph:=h.ph;have P:∀k pc,k<C.j->C.ks k≠.at pc .hD:=fun k pc hk e=>Y.hD k pc e (by rw[hd];show k<Q.J.n;omega);have gT:∀(f:gO Q.E->Nat),(∀s,0<f s->∃i n,s=.gT i n)->0<sumTo Q.J.n (fun k=>f (C.ks k))->∃(i:Nat) (g:Goroutine),gs[i]?=some g/\g.status=.running:=by
   intro f F N;obtain⟨k,hk,A⟩:=Ry N;obtain⟨i,n,e⟩:=F _ A;exact M.Ka (k:=k) U h Y (by omega) (fun pc y=>by simp_all) (fun n y=>by simp_all)
  rw[hd]at ph;rcases ph with⟨_,_,_,_,y,_⟩|⟨_,⟨_,_,T,_⟩|⟨_,_,_,a,_⟩|⟨_,_,_,_,a⟩|⟨_,a,_⟩⟩
  ·exact absurd trivial y
  ·have L:=h.pL;rw[hd]at L;have:∃k,k<C.j/\kS (C.ks k)=0:=by
    apply aL;intro I;have:=Sy (f:=fun k=>kS (C.ks k)) (fun k hk=>by
     have:kS (C.ks k)≠0:=fun y=>I ⟨k,hk,y⟩;omega) Q.J.n h.jn
    have S:po .w3=0:=rfl;omega
   obtain⟨k,hk,B⟩:=this;exact M.Ka U h Y hk (fun pc=>P k pc hk) (fun n e=>by rw[e]at B;cases B)
  ·refine gT jh (fun s H=>?_) (by omega);cases s with
   |gT i n=>exact⟨i,n,rfl⟩
   |_=>cases H
  ·refine gT jj (fun s H=>?_) (by omega);cases s with
   |gT i n=>exact⟨i,n,rfl⟩
   |_=>cases H
  ·omega
theorem gI.MI.awake(M:Q.MI C nd fu gs w t q rel)(O:Q.Laws):∀g∈gs,Go.Conc.awake g:=by
 intro g P;obtain⟨i,F,rfl⟩:=Array.mem_iff_getElem.1 P;have Y:=aD F;have S:=M.size;rcases aX i with rfl|I
 ·have K:=M.g0;have f0:=M.sL (af _);cases U:C.dm with
  |run=>
   rw[U]at K;rw[Option.some.inj (Y.symm.trans K.1)];exact awake_of (.inl (tw K.2 fun y=>(Cr f0 y).1))
  |blk=>
   rw[U]at K;rw[Option.some.inj (Y.symm.trans K.1)];exact awake_of (.inr (.inl rfl))
  |hD=>
   rw[U]at K;obtain⟨_,i,c,x,z,f0,_,_,_,_,J,_⟩:=K;rw[Option.some.inj (Y.symm.trans J)];exact awake_of (.inr (.inl rfl))
  |jS=>rw[U]at K;exact K.elim
 ·by_cases B:i<Q.b
  ·exact awake_of ((M.old i _ I B Y).status.elim .inl fun y=>.inr (.inr y))
  ·obtain⟨k,rfl⟩:∃k,i=Q.b+k:=⟨i-Q.b,by omega⟩;have hk:k<C.j:=by omega
   have H:=M.wk k hk;have L:=M.sL hk;cases A:C.ks k with
   |no=>rw[A]at H;exact H.elim
   |«at» pc md=>
    rw[A]at H;obtain⟨D,R,T⟩:=H;rw[Option.some.inj (Y.symm.trans D)];cases md with
    |run=>exact awake_of (.inl (tw R fun y=>(vP O L y).1))
    |blk=>exact awake_of (.inr (.inl rfl))
    |hD=>exact awake_of (.inr (.inl rfl))
    |jS=>exact awake_of (.inl rfl)
   |gT i n=>
    rw[A]at H;obtain⟨N,D,R⟩:=H;rw[Option.some.inj (Y.symm.trans D)];exact awake_of (.inl (Cs R))
   |qt V=>
    rw[A]at H;obtain⟨N,D,R⟩:=H;rw[Option.some.inj (Y.symm.trans D)];exact awake_of (R.status.elim .inl fun y=>.inr (.inr y))
theorem gI.MI.step(M:Q.MI C nd fu gs w t q rel)(R:Q.Laws)(h:CI Q.J Q.gL C)(H:Calm Q.J C):∃m' ops,stepT Q.P (crowd gs w sl)=(.next m',ops)/\(Q.jA C nd fu q m' (t++ops)\/Q.xt m' (t++ops)):=by
 obtain⟨i,g,d,T,I,Y,gq⟩:=crowd_pick (M.awake R) (M.live R h H);have B:=M.at d;rw[gq];rcases aX i with rfl|K
 ·exact B.aiJ R h H I Y
 ·by_cases A:i<Q.b
  ·have U:=M.old i g K A I;have L:(i==0)=false:=by simp;omega
   cases D:q i with
   |zero=>rw[D]at U;rw[U.1]at Y;cases Y
   |succ n=>
    rw[D]at U;rcases U with⟨y,_⟩|⟨_,g1,es,S,F,N⟩
    ·simp_all
    ·exact⟨_,_,runT_crowd_go I (by rw[L];exact F _),.inl (B.ae5 R h H K A D S N _ _)⟩
  ·obtain⟨k,rfl⟩:∃k,i=Q.b+k:=⟨i-Q.b,by omega⟩;have hk:k<C.j:=by
    have:=(aK.1 I).1;rw[M.size]at this;omega
   obtain⟨m',ops,F,O⟩:=B.aiG R h H hk I Y;exact⟨m',ops,F,.inl O⟩
theorem gI.MI.acc(M:Q.MI C nd fu gs w t q rel)(h:CI Q.J Q.gL C):Acc (Down (fun i=>Nx Q.P (i==0) Q.E.U (Q.Df C fu i)) (Q.J.n+1)) nd:=by
 refine Qs _ _ _ fun i I=>?_;cases i with
 |zero=>
  have Y:=M.g0;cases K:C.dm with
  |run=>rw[K]at Y;exact Y.2.acc
  |blk=>rw[K]at Y;exact(Tz.stop Y.2.2.2).acc
  |hD=>rw[K]at Y;exact(Tz.stop Y.1).acc
  |jS=>rw[K]at Y;exact Y.elim
 |succ k=>
  have tr:∀{P:Program} {main:Bool} {U:Nat->Nat->Prop} (x:Nd),Acc (Nx P main U fun _ _ _ _=>True) x:=fun x=>⟨x,fun y R=>absurd trivial R.1⟩;show Acc (Nx Q.P _ _ (match C.ks k with|.at pc _=>Q.WS _ _ pc|_=>fun _ _ _ _=>True)) _
  by_cases hk:k<C.j
  ·have H:=M.wk k hk;cases D:C.ks k with
   |«at» pc md=>rw[D]at H;exact H.2.1.acc
   |no=>exact tr _
   |gT i n=>exact tr _
   |qt n=>exact tr _
  ·rw[h.no k (by omega)];exact tr _
theorem gI.phase(o:Q.Laws)(h:CI Q.J Q.gL C)(Y:Calm Q.J C)(M:Q.MI C nd fu gs w t q rel):Reach Q.P Q.xt (crowd gs w sl) t:=by
 have key:∀(T:Nat) (C:iB Q.E) (nd:Nat->Nd) (fu:Nat->Nat) (gs:Array _) (w:World) (sl:Option _) (t:Trace) (q:Nat->Nat) (rel:Nat->Option Nat),mu Q.J C=T->CI Q.J Q.gL C->Calm Q.J C->Q.MI C nd fu gs w t q rel->Reach Q.P Q.xt (crowd gs w sl) t:=by
  intro T;induction T using au with
  |_ T N=>
  intro C nd fu gs w sl t q rel H h Y M;have B:∀(D:Nat->(Nat->Prop)->(Nat->Prop)->Goroutine->World->Prop) (nd:Nat->Nd),Acc (Down (fun i=>Nx Q.P (i==0) Q.E.U (D i)) (Q.J.n+1)) nd->∀(V:Nat) (C:iB Q.E) (fu:Nat->Nat) (gs:Array _) (w:World) (sl:Option _) (t:Trace) (q:Nat->Nat) (rel:Nat->Option Nat),
    Q.Df C fu=D->mu Q.J C=T->Q.nu C q=V->CI Q.J Q.gL C->Calm Q.J C->Q.MI C nd fu gs w t q rel->Reach Q.P Q.xt (crowd gs w sl) t:=by
   intro D nd F;induction F with
   |intro nd _ W=>
    intro V;induction V using au with
    |_ V O=>
    intro C fu gs w sl t q rel G H r h Y M;obtain⟨m',ops,z,g|hF⟩:=M.step o h Y
    ·refine Reach.step z ?_;obtain⟨X,S,R,I,w',A,j,f,rfl,h',K,Z,l|⟨c,d,L|⟨rfl,p⟩⟩⟩:=g
     ·exact N _ (by omega) X S R I w' A _ j _ rfl h' K Z
     ·rw[G]at L;exact W S L _ X R I w' A _ j _ (d.trans G) (c.trans H) rfl h' K Z
     ·exact O _ (by omega) X R I w' A _ j _ (d.trans G) (c.trans H) rfl h' K Z
    ·exact Reach.step z (Reach.here hF)
  exact B _ nd (M.acc h) _ C fu gs w sl t q rel rfl H rfl h Y M
 exact key _ C nd fu gs w sl t q rel rfl h Y M
end
end Ph
namespace Ph
open Conc Ren
open Lock (Word PC Mv bn hr hd)
def nv(m:Word):Nat:=bn m.L+2 *bn m.K+4 *bn m.S+8 *m.W
theorem apk(m:Word):val m=(nv m:Int):=rfl
theorem tJ(b:Bool):bn b=0/\b=false\/bn b=1/\b=true:=by cases b;exact .inl ⟨rfl,rfl⟩;exact .inr ⟨rfl,rfl⟩
theorem xK(m:Word):(nv m%2==1)=m.L:=by
 unfold nv;rcases tJ m.L with⟨e,h⟩|⟨e,h⟩<;>rw[e,h]<;>simp<;>omega
theorem xL(m:Word):(nv m/2%2==1)=m.K:=by
 unfold nv;rcases tJ m.L with⟨e,h⟩|⟨e,h⟩<;>rcases tJ m.K with⟨Y,H⟩|⟨Y,H⟩<;>rw[e,Y,H]<;>simp<;>omega
theorem sM(m:Word):(nv m/4%2==1)=m.S:=by
 unfold nv;rcases tJ m.L with⟨e,h⟩|⟨e,h⟩<;>rcases tJ m.K with⟨Y,R⟩|⟨Y,R⟩<;>rcases tJ m.S with⟨H,D⟩|⟨H,D⟩<;>rw[e,Y,H,D]<;>simp<;>omega
theorem sN(m:Word):nv m/8=m.W:=by
 unfold nv;rcases tJ m.L with⟨e,h⟩|⟨e,h⟩<;>rcases tJ m.K with⟨Y,D⟩|⟨Y,D⟩<;>rcases tJ m.S with⟨H,R⟩|⟨H,R⟩<;>rw[e,Y,H]<;>omega
theorem qJ(n:Nat):(n%2==0)=!(n%2==1):=by
 rcases Nat.mod_two_eq_zero_or_one n with h|h<;>rw[h]<;>rfl
theorem zj(m:Word):wd (nv m)=m:=by
 unfold wd;rw[xK,xL,sM,sN]
theorem aiK{m:Word}(h:m.W<=8):nv m<72:=by
 unfold nv;have:=Lock.rK m.L;have:=Lock.rK m.K;have:=Lock.rK m.S;omega
theorem ahb{m m':Word}(h:nv m=nv m'):m=m':=by rw[<-zj m,h,zj]
theorem val_inj{m m':Word}(h:val m=val m'):m=m':=ahb (by exact Int.ofNat.inj h)
theorem oK{p:Nat->Bool}{m:Word}(h:m.W<=8)(Y:p (nv m)=true):nv m∈(List.range 72).filter p:=List.mem_filter.2 ⟨List.mem_range.2 (aiK h),Y⟩
theorem abf(h:it<=4):ai.wrap ((it:Int)+1)=((it+1:Nat):Int):=by
 have:it=0\/it=1\/it=2\/it=3\/it=4:=by omega
 rcases this with rfl|rfl|rfl|rfl|rfl<;>rfl
theorem oq.lf{al:List (Nat×Value)}{call:Option (FuncId×Array Value)}{load:Option (TypeId×Value)}{r:Frame×List Frame}(h:oq l site al call load r):∃j,r.1=Ph.lf site (sA al) j:=⟨_,h.fr.eq⟩
theorem Bj:jk PR 169 (fun _=>do mark .disable;pure aB):=⟨_,Tryz.func169,by kernel_rfl,by kernel_rfl,by kernel_rfl,by kernel_rfl⟩
theorem xM:jk PR 170 (fun _=>do mark .enable;pure aB):=⟨_,Tryz.func170,by kernel_rfl,by kernel_rfl,by kernel_rfl,by kernel_rfl⟩
theorem TZ:jk PR 182 (Extern.Race.marked .acquire):=⟨_,Tryz.func182,by kernel_rfl,by kernel_rfl,by kernel_rfl,by kernel_rfl⟩
theorem T2:jk PR 168 (Extern.Race.marked .releaseMerge):=⟨_,Tryz.func168,by kernel_rfl,by kernel_rfl,by kernel_rfl,by kernel_rfl⟩
theorem vo:jk PR 204 (aM (.int .i32)):=⟨_,Tryz.func204,by kernel_rfl,by kernel_rfl,by kernel_rfl,by kernel_rfl⟩
theorem T3:jk PR 206 (aP (Op.intArith .add) .i32 true):=⟨_,Tryz.func206,by kernel_rfl,by kernel_rfl,by kernel_rfl,by kernel_rfl⟩
theorem T4:jk PR 214 Extern.Sync.canSpin:=⟨_,Tryz.func214,by kernel_rfl,by kernel_rfl,by kernel_rfl,by kernel_rfl⟩
theorem T5:jk PR 217 Extern.OsHooks.nano:=⟨_,Tryz.func217,by kernel_rfl,by kernel_rfl,by kernel_rfl,by kernel_rfl⟩
theorem T6:(PR.funcs[217]?).any (·.norace)=true:=by kernel_rfl
theorem T7:jk PR 218 aQ:=⟨_,Tryz.func218,by kernel_rfl,by kernel_rfl,by kernel_rfl,by kernel_rfl⟩
theorem EI:jk PR 220 aT:=⟨_,Tryz.func220,by kernel_rfl,by kernel_rfl,by kernel_rfl,by kernel_rfl⟩
theorem T8:(PR.funcs[205]?).any (·.norace)=true:=by kernel_rfl
theorem El:ko PR (isAgg 21)=some false:=by kernel_rfl
theorem u253:PR.underlying 253=some (.pointer 187):=by simp
theorem u159:PR.underlying 159=some .unsafePointer:=by simp
theorem i187:(PR.info? 187).map (fun i=>decide (i.size=0))=some false:=by kernel_rfl
theorem ake:jk PR 215 Extern.Sync.nothing:=⟨_,Tryz.func215,by kernel_rfl,by kernel_rfl,by kernel_rfl,by kernel_rfl⟩
theorem ae6{cs:List _}(h:ahead f=some (215,#[])):stepG PR main (G f cs) w=.go (G (f.finish unit) cs) w #[]:=
 tm ake h (by rfl) (by rfl) (by simp)
theorem stood{r:Frame×List _}{l:List _}{site:List _}{al:List _}{call:Option _}{load:Option _}(h:look ks r=ki l site al call load)(hk:al.map (·.1)=ks):oq l site al call load r:=by
 subst hk;exact stands h
theorem wrap_small{z:Nat}(h:z<1000):ax.wrap z=z:=by
 simp[IntKind.wrap,IntKind.bits];omega
namespace Env
section
variable{E:Env}{A:(Nat->Prop)->(Nat->Prop)->Goroutine->World->Prop}{x:Nat}{S X:Nat->Prop}{Fx:World->Prop}{c:Frame}{cs B:List Frame}
def Jr(E:Env)(A:(Nat->Prop)->(Nat->Prop)->Goroutine->World->Prop)(x:Nat)(S X:Nat->Prop)(Fx:World->Prop)(c:Frame)(cs:List _):=
 ∀k w γ,Fx w->E.mr γ (w.heap[E.Mp]?)->E.Tree PR false (E.je PR A k (.ur (E.upd γ x))) (fun a=>S a\/a=E.Mp) (fun a=>X a\/a=E.Mp) (G (c.finish unit) cs) w
theorem via{D:(Nat->Prop)->(Nat->Prop)->Goroutine->World->Prop}{site:List _}{al:List _}{l:List _}(Y:Fr site (sA al) f)(k:∀j w3,gK E.U S w w3->E.Tree PR false D S X (G (gF PR 300 ((lf site (sA al) j).finish v) l).1 (gF PR 300 ((lf site (sA al) j).finish v) l).2) w3):E.Tree PR false D S X (G (f.finish v) l) w:=by
 rw[Y.eq];exact Tz.pure 300 fun w3 hr=>k _ w3 hr
variable(I:∀i,¬E.U E.Mp i)(K:E.Kn S Fx)(hB:B=(zK E.Fd c cs).2)(hT:Jr E A x S X Fx c cs)
section
include I K hT
theorem Tk{l:List _}(n:Nat)(h:ahead f=some (182,#[ptr E.Fd]))(R:gF PR n (f.finish unit) l=(c.finish unit,cs))(k:Nat)(hF:Fx w):E.Tree PR false (E.je PR A k (.la x)) S X (G f l) w:=by
 refine .stop ?_;cases k with
 |zero=>trivial
 |succ k=>
  refine⟨rfl,rfl,fun w2 γ hr B=>⟨G (f.finish unit) l,yn (by simp) TZ h,Tz.pure n fun w3 Y=>?_⟩⟩;rw[R];have H:=K.rely (K.rely hF hr) (Pp (fun a D=>.inl D) Y);refine hT k w3 γ H ?_;have:=(Y.kept _ (.inr rfl)).eq fun i U=>I i U;simp_all
theorem ae7{l:List _}(n:Nat)(D:qL f=some (253,159,ptr E.Fd))(h:ahead (gF PR 300 (f.finish (ptr E.Fd)) l).1=some (182,#[ptr E.Fd]))(R:gF PR n ((gF PR 300 (f.finish (ptr E.Fd)) l).1.finish unit) (gF PR 300 (f.finish (ptr E.Fd)) l).2=(c.finish unit,cs))(k:Nat)(hF:Fx w):
  E.Tree PR false (E.je PR A k (.la x)) S X (G f l) w:=by
 refine Tz.one rfl fun w2 hr=>?_;have Y:=K.rely hF hr;obtain⟨v,U⟩:=(K.fd Y).cell0;refine⟨G _ l,w2,#[],S,X,uI D u253 u159 i187 U,jc S X w2,Tz.pure 300 fun w3 H=>?_⟩;exact Tk I K hT n h R k (K.rely Y H)
end
include I K hB hT
theorem Tl{gy it:Int}{sv:Bool}{r:Frame×List _}(h:oq B DN (iW E.Fd gy sv aw it) (some (170,#[])) none r)(k:Nat)(hF:Fx w):E.Tree PR false (E.je PR A k (.le x)) S X (G r.1 r.2) w:=by
 refine .stop ?_;cases k with
 |zero=>trivial
 |succ k=>
  refine⟨rfl,rfl,fun w2 hr=>⟨G _ r.2,r_ (by simp) xM h.call,Tz.pure 300 fun w3 C=>?_⟩⟩;have D:=K.rely (K.rely hF hr) C;obtain⟨j,M⟩:=h.lf;rw[M,h.callers];have Y:=stood (aeS (Fd:=E.Fd) (gy:=gy) (sv:=sv) (aw:=aw) (it:=it) (j:=j) (l:=B)) rfl;have J:=aeT (Fd:=E.Fd) (gy:=gy) (sv:=sv) (aw:=aw) (it:=it) (j:=j) (l:=B);change E.Tree PR _ _ S X (G (yX _ gy sv aw it j B).1 (yX E.Fd gy sv aw it j B).2) w3;generalize yX E.Fd gy sv aw it j B=r1 at Y J;obtain⟨F,R⟩:=Y.lf;obtain⟨f1,l1⟩:=r1;have L:=Y.callers.symm;subst L R;have H:=stood (aeU (Fd:=E.Fd) (gy:=gy) (sv:=sv) (aw:=aw) (it:=it) (j:=F) (l:=B)) rfl;have N:gF PR 9 ((DX E.Fd gy sv aw it F B).1.finish unit) (DX E.Fd gy sv aw it F B).2=(c.finish unit,cs):=by
   obtain⟨O,U⟩:=H.lf;rw[U,H.callers,hB];exact ag4
  exact ae7 I K hT 9 J H.call N k D
def Reads(E:Env)(A:(Nat->Prop)->(Nat->Prop)->Goroutine->World->Prop)(x:Nat)(S X:Nat->Prop)(Fx:World->Prop)(B:List Frame)(k:Nat):Prop:=
 ∀(site:List Item) (gy:Int) (sv aw:Bool) (it:Nat) (r:Frame×List Frame) (w:World),(site=JW\/site=Jm\/site=DK)->oq B site (iW E.Fd gy sv aw it) none (some (21,ptr E.Fd)) r->Fx w->E.Tree PR false (E.je PR A k (.lk (.rd aw sv it) x)) S X (G r.1 r.2) w
theorem aiL{gy it:Int}{sv:Bool}{old:Word}{r:Frame×List Frame}(h:oq B AU (iW E.Fd gy sv aw it) (some (206,#[ptr E.Fd,.int .i32 (delta sv (nv old))])) none r)(k:Nat)(hF:Fx w):E.Tree PR false (E.je PR A k (.lk (.a1 old sv) x)) S X (G r.1 r.2) w:=by
 refine .stop ?_;cases k with
 |zero=>trivial
 |succ k=>
  refine⟨rfl,rfl,fun w2 m J hr H P D T V=>.inr ?_⟩;obtain⟨L,M,Z⟩:=D;have Y:ax.wrap (val m+delta sv (nv old))=val ⟨true,m.K,if sv=false\/old.W=1 then false else m.S,m.W-1⟩:=by
   have hd:delta sv (nv old)=if sv=false\/old.W=1 then-11 else-7:=by
    unfold delta;rw[sN];simp_all
   rw[hd];have Q:=Lock.rK m.K;have b0:bn false=0:=rfl;have F:bn true=1:=rfl;by_cases R:sv=false\/old.W=1
   ·rw[if_pos R,if_pos R];unfold val;simp only[L,M,b0,F];have e:((0+2 *bn m.K+4 *1+8 *m.W:Nat))+ -11=((1+2 *bn m.K+4 *0+8 *(m.W-1):Nat):Int):=by omega
    rw[e];exact wrap_small (by omega)
   ·rw[if_neg R,if_neg R];unfold val;simp only[L,M,b0,F];have e:((0+2 *bn m.K+4 *1+8 *m.W:Nat))+ -7=((1+2 *bn m.K+4 *1+8 *(m.W-1):Nat):Int):=by omega
    rw[e];exact wrap_small (by omega)
  refine⟨_,_,J,G _ r.2,_,_,Mv.a1 m old J sv,C4 T3 h.call H.cell0 (H.thaw 0),by rw[Y];exact H.ni _,Eff.set _ _ _ _,EvA.two _ _ (by omega),fun O=>by omega,?_⟩;have U:Fx (w2.setCell E.mu (.int .i32 (ax.wrap (val m+delta sv (nv old))))):=by rw[Y];exact K.lI (K.rely hF hr) H (Eff.set _ _ _ _) (H.ni _)
  refine via h.fr fun j w3 C=>?_;rw[h.callers];have N:=stood (aeR (Fd:=E.Fd) (gy:=gy) (sv:=sv) (aw:=aw) (it:=it) (x:=ax.wrap (val m+delta sv (nv old))) (j:=j) (l:=B)) rfl;exact Tl I K hB hT N k (K.rely U C)
end
end Env
theorem abg{U:Nat->Nat->Prop}(S X:Nat->Prop)(w:World):kh U S X w w.later #[] S X:=⟨⟨fun _ _ _=>rfl,ae _,fun a=>⟨.inl,fun h=>h.resolve_right fun y=>by simp[World.later]at y;omega⟩,fun a=>⟨.inl,fun h=>h.resolve_right fun y=>by simp[World.later]at y;omega⟩,fun e Y=>by simp_all,rfl,⟨w.tick,rfl⟩,rfl⟩,fun e Y=>by simp_all⟩
theorem acZ{a b:Bool}(h:¬(a=true/\b=false)):(a&&!b)=false:=by simp_all
namespace Env
section
variable{E:Env}{A:(Nat->Prop)->(Nat->Prop)->Goroutine->World->Prop}{x:Nat}{S X:Nat->Prop}{Fx:World->Prop}{c:Frame}{cs B:List Frame}
variable(I:∀i,¬E.U E.Mp i)(K:E.Kn S Fx)(hB:B=(zK E.Fd c cs).2)(hT:Jr E A x S X Fx c cs)
include I K hB hT
def AtC2(E:Env)(A:(Nat->Prop)->(Nat->Prop)->Goroutine->World->Prop)(x:Nat)(S X:Nat->Prop)(Fx:World->Prop)(B:List Frame)(k:Nat):Prop:=
 ∀(m:Word) (gy:Int) (sv aw:Bool) (it:Nat) (r:Frame×List Frame) (w:World),m.W<=8->(sv=true->aw=true)->(aw=true->m.K=true)->it<=4->look [6,0,2,3,4,5] r=toC2 B E.Fd gy sv aw it (nv m)->Fx w->E.Tree PR false (E.je PR A k (.lk (.c2 m aw sv it) x)) S X (G r.1 r.2) w
def y0(E:Env)(A:(Nat->Prop)->(Nat->Prop)->Goroutine->World->Prop)(x:Nat)(S X:Nat->Prop)(Fx:World->Prop)(B:List Frame)(k:Nat):Prop:=
 ∀(m:Word) (gy:Int) (sv aw:Bool) (it:Nat) (r:Frame×List Frame) (w:World),m.W<=8->(sv=true->aw=true)->(aw=true->m.K=true)->it<=4->oq B zf (rX E.Fd gy sv aw it (nv m)) none none r->Fx w->E.Tree PR false (E.je PR A k (behind (hr m aw sv it) x)) S X (G r.1 r.2) w
omit I K hB hT in
theorem abh(m:Word)(aw sv:Bool)(it:Nat):(behind (.hw m aw sv it) x:E.kH)=.lk (.hw m aw sv it) x:=rfl
omit I K hB hT in
theorem Ps(m:Word)(aw sv:Bool)(it:Nat):(behind (.c2 m aw sv it) x:E.kH)=.lk (.c2 m aw sv it) x:=rfl
theorem Kb(D:Reads E A x S X Fx B k){gy:Int}{sv:Bool}(hit:it<=4){r:Frame×List _}(h:oq B yV (iW E.Fd gy sv aw it) (some (215,#[])) none r)(hF:Fx w):E.Tree PR false (E.je PR A k (.lk (.rd aw sv (it+1)) x)) S X (G r.1 r.2) w:=by
 refine Tz.one rfl fun w2 hr=>⟨G _ r.2,w2,#[],S,X,ae6 h.call,jc S X w2,via h.fr fun j w3 Y=>?_⟩;rw[h.callers];have H:=stood (aeM (Fd:=E.Fd) (gy:=gy) (sv:=sv) (aw:=aw) (it:=it) (j:=j) (l:=B)) rfl;rw[abf hit]at H;exact D _ gy sv aw _ _ w3 (.inr (.inl rfl)) H (K.rely (K.rely hF hr) Y)
theorem aiM(L:∀k',k'<k->Reads E A x S X Fx B k'){m:Word}(M:m.W<=8){gy:Int}(hit:it<4){r:Frame×List _}(h:oq B Jl (Lh E.Fd gy false false it (nv m)) (some (204,#[ptr E.Fd,.int .i32 (nv m),.int .i32 (val {m with K:=true})])) none r)(hF:Fx w):E.Tree PR false (E.je PR A k (.lk (.c1 m it) x)) S X (G r.1 r.2) w:=by
 refine .stop ?_;cases k with
 |zero=>trivial
 |succ k=>
  refine⟨rfl,rfl,fun w2 R D hr Y N J O P=>.inr ?_⟩;by_cases F:R=m
  ·subst F;refine⟨_,_,D,G _ r.2,_,_,Mv.KY R D it,Ai vo h.call Y.cell0 (Y.thaw 0),Y.ni _,Eff.set _ _ _ _,EvA.two _ _ (by omega),fun C=>by omega,via h.fr fun j w3 H=>?_⟩;rw[h.callers];have U:=stood (acM (Fd:=E.Fd) (gy:=gy) (sv:=false) (aw:=false) (it:=it) (old:=(nv R)) (j:=j) (l:=B)) rfl;exact Kb I K hB hT (L k (by omega)) (by omega) U (K.rely (K.lI (K.rely hF hr) Y (Eff.set _ _ _ _) (Y.ni _)) H)
  ·refine⟨_,_,D,G _ r.2,_,_,Mv.KZ R m D it F,Ah vo h.call Y.cell0 (Y.thaw 0) (fun e=>F (val_inj e)),Y,Eff.refl _ _,EvA.one _ _ _ (by omega),fun C=>by omega,via h.fr fun j w3 H=>?_⟩;rw[h.callers];have U:=stood (acN (Fd:=E.Fd) (gy:=gy) (sv:=false) (aw:=false) (it:=it) (old:=(nv m)) (j:=j) (l:=B)) rfl;exact Kb I K hB hT (L k (by omega)) (by omega) U (K.rely (K.rely hF hr) H)
theorem aiN(d:∀k',k'<k->Reads E A x S X Fx B k')(o:∀k',k'<k->AtC2 E A x S X Fx B k'){m:Word}(H:m.W<=8){gy:Int}{sv:Bool}(Z:sv=true->aw=true)(M:aw=true->m.K=true)(hit:it<=4)(F:m.L=true/\m.S=false)
  {r:Frame×List Frame}(h:oq B Ik (Lg E.Fd gy sv aw it (nv m)) (some (214,#[.int .i64 (it:Int)])) none r)(hF:Fx w):E.Tree PR false (E.je PR A k (.lk (.hw m aw sv it) x)) S X (G r.1 r.2) w:=by
 refine .stop ?_;cases k with
 |zero=>trivial
 |succ k=>
  have U:(nv m%2==1&&nv m/4%2==0)=true:=by rw[xK,qJ,sM,F.1,F.2];rfl
  have no:∀w1,Fx w1->E.Tree PR false (E.je PR A k (behind (hd m aw sv it false) x)) S X (G (r.1.finish (.bool false)) r.2) w1:=by
   intro w1 R;have e:hd m aw sv it false=.c2 m aw sv it:=by unfold hd;simp
   rw[e,Ps];refine via h.fr fun j w3 D=>?_;rw[h.callers];have Y:nv m∈xe aw:=oK H (by
    rw[U,xL];cases aw with
    |false=>rfl
    |true=>rw[M rfl];rfl)
   refine o k (by omega) m gy sv aw it _ w3 H Z M hit ?_ (K.rely R D);cases aw with
   |false=>
    have:sv=false:=by simp_all
    subst this;exact jb aaZ Y
   |true=>
    cases sv with
    |false=>exact jb aa6 Y
    |true=>exact jb aa7 Y
  have yes:it<4->∀w1,Fx w1->E.Tree PR false (E.je PR A k (behind (hd m aw sv it true) x)) S X (G (r.1.finish (.bool true)) r.2) w1:=by
   intro P w1 R;by_cases z:aw=false/\m.K=false/\m.W≠0
   ·have e:hd m aw sv it true=.c1 m it:=by unfold hd;simp_all
    rw[e];obtain⟨rfl,Q,T⟩:=z;have:sv=false:=by simp_all
    subst this;refine via h.fr fun j w3 D=>?_;rw[h.callers];have Y:nv m∈JX:=oK H (by rw[U,qJ,xL,Q,sN];simp[T]);have N:=stood (jb (aa8 (Fd:=E.Fd) (gy:=gy) (sv:=false) (it:=(it:Int)) (j:=j) (l:=B)) Y) rfl;rw[zj]at N;exact aiM I K hB hT (fun k' c=>d k' (by omega)) H P N (K.rely R D)
   ·have e:hd m aw sv it true=.rd aw sv (it+1):=by unfold hd;simp_all
    rw[e];refine via h.fr fun j w3 D=>?_;rw[h.callers];have N:oq B yV (iW E.Fd gy sv aw it) (some (215,#[])) none (tC E.Fd gy sv aw it (nv m:Int) true j B):=by
     cases aw with
     |true=>exact stood (jb (aa_ (gy:=gy) (sv:=sv) (j:=j) (l:=B)) (oK H U)) rfl
     |false=>
      refine stood (jb (aa9 (Fd:=E.Fd) (gy:=gy) (sv:=sv) (it:=(it:Int)) (j:=j) (l:=B)) (oK H ?_)) rfl;rw[U,qJ,xL,sN];cases Q:m.K with
      |true=>rfl
      |false=>
       have:m.W=0:=aL fun y=>z ⟨rfl,Q,y⟩;rw[this];rfl
    exact Kb I K hB hT (d k (by omega)) hit N (K.rely R D)
  refine⟨rfl,rfl,fun w2 O J hr C f q g p=>.inr ?_⟩;by_cases P:it<4
  ·refine⟨_,O,J,G _ r.2,w2.asked,#[],Mv.hw O m J aw sv it w2.spins,Xz h.call T4 (by omega),C.asked,Eff.asked _ _,EvA.nil _,fun V=>by omega,?_⟩;cases w2.spins with
   |false=>exact no w2.asked (K.lI (K.rely hF hr) C (Eff.asked _ _) C.asked)
   |true=>exact yes P w2.asked (K.lI (K.rely hF hr) C (Eff.asked _ _) C.asked)
  ·exact⟨_,O,J,G _ r.2,w2,#[],Mv.hw O m J aw sv it false,XW h.call T4 (by omega),C,Eff.refl _ _,EvA.nil _,fun V=>by omega,no w2 (K.rely hF hr)⟩
theorem ae8(V:∀k',k'<k->Reads E A x S X Fx B k')(M:∀k',k'<=k->AtC2 E A x S X Fx B k'):y0 E A x S X Fx B k:=by
 intro m gy sv aw it r w H U D hit h hF;obtain⟨j,O⟩:=h.lf;rw[O,h.callers];refine Tz.pure 300 fun w3 F=>?_;have R:=K.rely hF F;by_cases C:m.L=true/\m.S=false
 ·have e:hr m aw sv it=.hw m aw sv it:=by unfold hr;simp_all
  rw[e,abh];have J:(nv m%2==1&&nv m/4%2==0)=true:=by rw[xK,qJ,sM,C.1,C.2];rfl
  have N:=stood (jb (acL (Fd:=E.Fd) (gy:=gy) (sv:=sv) (aw:=aw) (it:=it) (j:=j) (l:=B)) (oK H J)) rfl;exact aiN I K hB hT V (fun k' P=>M k' (by omega)) H U D hit C N R
 ·have e:hr m aw sv it=.c2 m aw sv it:=by unfold hr;simp_all
  rw[e,Ps];have Y:nv m∈xq aw:=oK H (by
   rw[xK,qJ,sM,xL,acZ C];cases aw with
   |false=>rfl
   |true=>rw[D rfl];rfl)
  refine M k (ae _) m gy sv aw it _ w3 H U D hit ?_ R;cases aw with
  |false=>
   have:sv=false:=by simp_all
   subst this;exact jb aaW Y
  |true=>
   cases sv with
   |false=>exact jb aaX Y
   |true=>exact jb aaY Y
end
end Env
namespace Env
section
variable{E:Env}{A:(Nat->Prop)->(Nat->Prop)->Goroutine->World->Prop}{x:Nat}{S X:Nat->Prop}{Fx:World->Prop}{c:Frame}{cs B:List Frame}
variable(I:∀i,¬E.U E.Mp i)(K:E.Kn S Fx)(hB:B=(zK E.Fd c cs).2)(hT:Jr E A x S X Fx c cs)
include I K hB hT
theorem Tm(V:∀k',k'<k->y0 E A x S X Fx B k'){gy it:Int}{sv:Bool}{r:Frame×List _}(h:oq B DV (iW E.Fd gy sv aw it) none (some (21,ptr E.Fd)) r)(hF:Fx w):E.Tree PR false (E.je PR A k (.lk (.r2 sv) x)) S X (G r.1 r.2) w:=by
 refine .stop ?_;cases k with
 |zero=>trivial
 |succ k=>
  refine⟨rfl,rfl,fun w2 m J hr M T F N q=>.inr ?_⟩;have R:stepG PR false (G r.1 r.2) w2=.go _ w2 #[]:=Cx h.load El M.cell0 (by rw[h.fr.fn];exact T8);have P:∀(D:(Nat->Prop)->(Nat->Prop)->Goroutine->World->Prop),(∀j w3,gK E.U S w2 w3->E.Tree PR false D S X (G (xf E.Fd gy sv aw it (nv m) j B).1 (xf E.Fd gy sv aw it (nv m) j B).2) w3)->E.Tree PR false D S X (G (r.1.finish (.int .i32 (val m))) r.2) w2:=by
   intro D hk;rw[h.fr.eq,h.callers];exact Tz.A5 300 fun w3 H=>hk _ w3 H
  cases Y:m.S with
  |false=>
   refine⟨_,m,J,_,w2,#[],Mv.E9 m J sv Y,R,M,Eff.refl _ _,EvA.nil _,fun O=>by omega,P _ fun j w3 H=>?_⟩;have L:=stood (jb (acT (Fd:=E.Fd) (gy:=gy) (sv:=sv) (aw:=aw) (it:=it) (j:=j) (l:=B)) (oK N (by rw[qJ,sM,Y];rfl))) rfl;exact V k (by omega) m gy sv true 0 _ w3 N (fun _=>rfl) (fun _=>F.2 Y) (by omega) L (K.rely (K.rely hF hr) H)
  |true=>
   refine⟨_,m,J,_,w2,#[],Mv.K_ m J sv Y,R,M,Eff.refl _ _,EvA.nil _,fun O=>by omega,P _ fun j w3 H=>?_⟩;obtain⟨Z,W,z⟩:=F.1 Y;have Q:(nv m%4==0)=true:=by
    unfold nv;have b0:bn false=0:=rfl;rw[Z,W,b0];simp;omega
   have C:nv m∈hard:=oK N (by rw[Q,sM,Y,sN];simp;omega);have L:oq B AU (iW E.Fd gy sv aw it) (some (206,#[ptr E.Fd,.int .i32 (delta sv (nv m))])) none (xf E.Fd gy sv aw it (nv m) j B):=by
    cases sv with
    |false=>exact stood (jb (ZK) C) rfl
    |true=>exact stood (jb (ZL) C) rfl
   exact aiL I K hB hT L k (K.rely (K.rely hF hr) H)
theorem aiO(F:∀k',k'<k->y0 E A x S X Fx B k'){gy it:Int}{r:Frame×List _}(h:oq B Jp ((95,.bool false)::iW E.Fd gy false aw it) (some (217,#[])) none r)(hF:Fx w):E.Tree PR false (E.je PR A k (.lk .t2 x)) S X (G r.1 r.2) w:=by
 refine .stop ?_;cases k with
 |zero=>trivial
 |succ k=>
  refine⟨rfl,rfl,fun w2 m D hr Y L R M N=>.inr ?_⟩;refine⟨_,m,D,G _ r.2,w2.later,#[],Mv.t2 m D (decide (1000000<ai.wrap (((w2.os.mono+w2.tick))-gy))),Pm h.call T5 T6,Y.later,Eff.later _ _,EvA.nil _,fun J=>by omega,via h.fr fun j w3 H=>?_⟩;rw[h.callers];have U:=stood (aeQ (Fd:=E.Fd) (gy:=gy) (T:=((w2.os.mono+w2.tick))) (aw:=aw) (it:=it) (j:=j) (l:=B)) rfl;exact Tm I K hB hT (fun k' C=>F k' (by omega)) U (K.rely (K.lI (K.rely hF hr) Y (Eff.later _ _) Y.later) H)
theorem Tn(F:∀k',k'<k->y0 E A x S X Fx B k'){gy it:Int}{sv:Bool}{r:Frame×List _}(h:oq B DR (iW E.Fd gy sv aw it) (some (218,#[.pointer (some E.ms),v8,.int .i64 2])) none r)(hF:Fx w):E.Tree PR false (E.je PR A k (.lk (.s1 sv) x)) S X (G r.1 r.2) w:=by
 refine .stop ?_;cases k with
 |zero=>trivial
 |succ k=>
  refine⟨rfl,rfl,fun w2 m J hr Y L C N O=>?_⟩;cases J with
  |zero=>exact .inl ⟨sv,rfl,rfl,Nl T7 h.call rfl Y.rM⟩
  |succ c0=>
   have M:(((c0+1:Nat):Int)-1)=c0:=by omega
   have gq:=M7 (main:=false) (cs:=r.2) T7 h.call rfl Y.rM (by omega) (Y.thaw 1);rw[M]at gq;refine .inr ?_;cases sv with
   |false=>
    refine⟨_,m,c0,_,_,_,Mv.K8 m c0,gq,Y.qX c0,Eff.set _ _ _ _,EvA.zJ _ _ (by omega),fun U=>by omega,?_⟩;refine via h.fr fun j w3 H=>?_;rw[h.callers];have D:=stood (acR (Fd:=E.Fd) (gy:=gy) (aw:=aw) (it:=it) (j:=j) (l:=B)) rfl;exact aiO I K hB hT (fun k' R=>F k' (by omega)) D (K.rely (K.lI (K.rely hF hr) Y (Eff.set _ _ _ _) (Y.qX c0)) H)
   |true=>
    refine⟨_,m,c0,_,_,_,Mv.K9 m c0,gq,Y.qX c0,Eff.set _ _ _ _,EvA.zJ _ _ (by omega),fun U=>by omega,?_⟩;refine via h.fr fun j w3 H=>?_;rw[h.callers];have D:=stood (acS (Fd:=E.Fd) (gy:=gy) (aw:=aw) (it:=it) (j:=j) (l:=B)) rfl;exact Tm I K hB hT (fun k' R=>F k' (by omega)) D (K.rely (K.lI (K.rely hF hr) Y (Eff.set _ _ _ _) (Y.qX c0)) H)
theorem aiP(ih:∀k',k'<k->Reads E A x S X Fx B k')(o:∀k',k'<k->y0 E A x S X Fx B k'):AtC2 E A x S X Fx B k:=by
 intro m gy sv aw it r w M E3 b hit t hF;have h:=stood t rfl;refine .stop ?_;cases k with
 |zero=>trivial
 |succ k=>
  refine⟨rfl,rfl,fun w2 H O hr U a s hW hc=>.inr ?_⟩;have D:=by
   have:=h.call;rw[zj]at this;exact this
  by_cases c:H=m
  ·subst c;refine⟨_,_,O,G (r.1.finish (.bool true)) r.2,_,_,Mv.E8 H O aw sv it,Ai vo D U.cell0 (U.thaw 0),U.ni _,Eff.set _ _ _ _,EvA.two _ _ (by omega),fun z=>by omega,?_⟩;have F:=K.lI (K.rely hF hr) U (Eff.set _ _ _ _) (U.ni (Lock.nw H aw sv));by_cases P:H.L=false/\H.S=false
   ·rw[if_pos P];refine via h.fr fun j w3 R=>?_;rw[h.callers];have Y:=stood (jb (aeN (Fd:=E.Fd) (gy:=gy) (sv:=sv) (aw:=aw) (it:=(it:Int)) (j:=j) (l:=B)) (oK M (by rw[qJ,xK,qJ,sM,P.1,P.2];rfl))) rfl;exact Tl I K hB hT Y k (K.rely F R)
   ·rw[if_neg P];rw[h.fr.eq,h.callers];refine Tz.Ta 87 300 fun w3 R=>?_;have V:=K.rely F R;have N:nv H∈nC:=oK M (by
     rw[qJ,xK,qJ,sM];cases hL:H.L<;>cases n:H.S<;>simp_all)
    have Y:=stood (jb (aeO (Fd:=E.Fd) (gy:=gy) (sv:=sv) (aw:=aw) (it:=(it:Int)) (j:=fun i=>r.1.tmps.getD i undef) (l:=B)) N) rfl;change E.Tree PR false _ S X (G (AH E.Fd gy sv aw (it:Int) (nv H:Int) _ B).1 (AH E.Fd gy sv aw (it:Int) (nv H:Int) _ B).2) w3;generalize AH E.Fd gy sv aw (it:Int) (nv H:Int) _ B=r1 at Y;have u:Fr Jn (sA ((87,.bool (decide (gy=0)))::(8,r1.1.tmps.getD 8 undef)::iW E.Fd gy sv aw it)) r1.1:=by
     refine⟨Y.fr.fn,Y.fr.todo,Y.fr.defers,Y.fr.mode,Y.fr.kind,Y.fr.round,Y.fr.size,fun i v e=>?_⟩;by_cases p:i=8
     ·subst p;exact Option.some.inj e
     ·refine Y.fr.slot i v ?_;rw[<-e];unfold sA;rw[aI,aI,aI];have:(i==8)=false:=by simpa using p
      rw[this]
    rw[u.eq,Y.callers];refine Tz.pure 300 fun w4 d=>?_;have J:=K.rely V d;cases hd:decide (gy=0)with
    |false=>
     have C:=stood (acQ (Fd:=E.Fd) (gy:=gy) (sv:=sv) (aw:=aw) (it:=(it:Int)) (v8:=r1.1.tmps.getD 8 undef) (j:=fun i=>r1.1.tmps.getD i undef) (l:=B)) rfl;exact Tn I K hB hT (fun k' q=>o k' (by omega)) C J
    |true=>
     have C:=stood (acP (Fd:=E.Fd) (gy:=gy) (sv:=sv) (aw:=aw) (it:=(it:Int)) (v8:=r1.1.tmps.getD 8 undef) (j:=fun i=>r1.1.tmps.getD i undef) (l:=B)) rfl;change E.Tree PR false _ S X (G _ (Jo E.Fd gy sv aw true (it:Int) (r1.1.tmps.getD 8 undef) _ B).2) w4;refine Tz.one rfl fun Q f=>⟨_,_,_,S,X,Pm C.call T5 T6,abg S X Q,via C.fr fun j w6 g=>?_⟩;have Z:Fx Q.later:=K.later (K.rely J f);have W:Fx w6:=K.rely Z g;rw[C.callers];have y:=stood (aeP (Fd:=E.Fd) (sv:=sv) (aw:=aw) (it:=(it:Int)) (T:=((Q.os.mono+Q.tick:Nat):Int)) (v8:=r1.1.tmps.getD 8 undef) (gy:=gy) (j:=j) (l:=B)) rfl;exact Tn I K hB hT (fun k' q=>o k' (by omega)) y W
  ·refine⟨_,_,O,G (r.1.finish (.bool false)) r.2,_,_,Mv.K6 H m O aw sv it c,Ah vo D U.cell0 (U.thaw 0) (fun e=>c (val_inj e)),U,Eff.refl _ _,EvA.one _ _ _ (by omega),fun z=>by omega,?_⟩;refine via h.fr fun j w3 R=>?_;rw[h.callers];have Y:=stood (acO (Fd:=E.Fd) (gy:=gy) (sv:=sv) (aw:=aw) (it:=(it:Int)) (old:=(nv m:Int)) (j:=j) (l:=B)) rfl;exact ih k (by omega) DK gy sv aw it _ w3 (.inr (.inr rfl)) Y (K.rely (K.rely hF hr) R)
theorem abj:∀k,Reads E A x S X Fx B k:=by
 intro k;induction k using au with
 |_ k N=>
 have Y:∀k',k'<k->y0 E A x S X Fx B k'/\AtC2 E A x S X Fx B k':=by
  intro k';induction k' using au with
  |_ k' F=>
  intro P;have c2:=aiP I K hB hT (fun q C=>N q (by omega)) (fun q C=>(F q C (by omega)).1);refine⟨ae8 I K hB hT (fun q C=>N q (by omega)) (fun q C=>?_),c2⟩;rcases Nat.lt_or_eq_of_le C with D|rfl
  ·exact(F q D (by omega)).2
  ·omega
 intro site gy sv aw it r w H h hF;refine .stop ?_;cases k with
 |zero=>trivial
 |succ k=>
  refine⟨rfl,rfl,fun w2 m L hr M R U O Q=>.inr ?_⟩;refine⟨_,m,L,_,w2,#[],Mv.rd m L aw sv it,Cx h.load El M.cell0 (by rw[h.fr.fn];exact T8),M,Eff.refl _ _,EvA.nil _,fun D=>by omega,?_⟩;rw[h.fr.eq,h.callers];refine Tz.A5 60 fun w3 J=>?_;refine(Y k (by omega)).1 m gy sv aw it _ w3 O R.1 U R.2 ?_ (K.rely (K.rely hF hr) J);rcases H with e|e|e
  ·rw[e];exact stood ZJ rfl
  ·rw[e];exact stood Yw rfl
  ·rw[e];exact stood Yx rfl
omit hB in
theorem ae9(k:Nat)(hF:Fx w):E.Tree PR false (E.je PR A k (.ld x)) S X (G (Frame.enter PR 160 #[ptr E.Fd] .normal) (c::cs)) w:=by
 refine Tz.pure 60 fun w1 M=>?_;have C:=K.rely hF M;refine .stop ?_;cases k with
 |zero=>trivial
 |succ k=>
  refine⟨rfl,rfl,fun w2 hr=>⟨G _ _,r_ (by simp) Bj la0,Tz.pure 60 fun w3 N=>?_⟩⟩;have D:=K.rely (K.rely C hr) N;refine .stop ?_;cases k with
  |zero=>trivial
  |succ k=>
   refine⟨rfl,rfl,fun w4 m B U Y q V z d=>.inr ?_⟩;by_cases L:m=.zero
   ·subst L;refine⟨_,_,B,G _ _,_,_,Mv.E7 B,Ai vo UO Y.cell0 (Y.thaw 0),Y.ni ⟨true,false,false,0⟩,Eff.set _ _ _ _,EvA.two _ _ (by omega),fun J=>by omega,Tz.pure 60 fun Z H=>?_⟩;have F:=K.rely (K.lI (K.rely D U) Y (Eff.set _ _ _ _) (Y.ni ⟨true,false,false,0⟩)) H;refine .stop ?_;cases k with
    |zero=>trivial
    |succ k=>
     refine⟨rfl,rfl,fun f O=>⟨G _ _,r_ (by simp) xM la2,Tz.pure 60 fun g P=>?_⟩⟩;refine Tz.one rfl fun W Q=>?_;have R:=K.rely (K.rely (K.rely F O) P) Q;obtain⟨v,j⟩:=(K.fd R).cell0;refine⟨G _ _,W,#[],S,X,uI la3 u253 u159 i187 j,jc S X W,Tz.pure 60 fun l T=>?_⟩;exact Tk I K hT 6 la4 la5 k (K.rely R T)
   ·refine⟨_,_,B,G _ _,_,_,Mv.KX m B L,Ah vo UO Y.cell0 (Y.thaw 0) (fun e=>L (val_inj e)),Y,Eff.refl _ _,EvA.one _ _ _ (by omega),fun J=>by omega,Tz.pure 60 fun Z H=>?_⟩;exact abj I K rfl hT k _ 0 _ _ 0 _ Z (.inl rfl) (stood las rfl) (K.rely (K.rely D U) H)
end
end Env
end Ph
namespace Ph
open Conc Ren
section
variable(Wg:Nat)(c:Frame)(cs:List Frame)
def zL:Frame×List Frame:=gF PR 60 (Frame.enter PR 181 #[ptr Wg] .deferred) (c::cs)
def Lu:Frame×List Frame:=gF PR 60 ((zL Wg c cs).1.finish (ptr Wg)) (zL Wg c cs).2
def Lv:Frame×List Frame:=gF PR 60 ((Lu Wg c cs).1.finish unit) (Lu Wg c cs).2
def x8:Frame×List Frame:=gF PR 60 ((Lv Wg c cs).1.finish unit) (Lv Wg c cs).2
def Fb:Frame×List Frame:=gF PR 90 ((x8 Wg c cs).1.finish (.bool false)) (x8 Wg c cs).2
def vH (z:Int):Frame×List Frame:=gF PR 300 ((Fb Wg c cs).1.finish (.int .u64 z)) (Fb Wg c cs).2
def Lw:Frame×List Frame:=gF PR 300 ((vH Wg c cs 1).1.finish (.int .u64 1)) (vH Wg c cs 1).2
def Fc:Frame×List Frame:=gF PR 300 ((Lw Wg c cs).1.finish unit) (Lw Wg c cs).2
def zM:Frame×List Frame:=gF PR 300 ((Fc Wg c cs).1.finish unit) (Fc Wg c cs).2
end
section
variable{Wg:Nat}{c:Frame}{cs:List Frame}
theorem da0:qL (zL Wg c cs).1=some (216,159,ptr Wg):=by kernel_rfl
theorem da1:ahead (Lu Wg c cs).1=some (168,#[ptr Wg]):=by kernel_rfl
theorem da2:ahead (Lv Wg c cs).1=some (169,#[]):=by kernel_rfl
theorem da3:ahead (x8 Wg c cs).1=some (171,#[]):=by kernel_rfl
theorem da4:ahead (Fb Wg c cs).1=some (200,#[ptr Wg,.int .u64 18446744069414584320]):=by kernel_rfl
theorem da5:ahead (vH Wg c cs 1).1=some (201,#[ptr Wg]):=by kernel_rfl
theorem da6:ahead (Lw Wg c cs).1=some (202,#[ptr Wg,.int .u64 0]):=by kernel_rfl
theorem UT:ahead (Fc Wg c cs).1=some (180,#[.pointer (some ⟨Wg,1,none⟩),.bool false,.int .i64 0]):=by kernel_rfl
end
theorem T9:jk PR 171 (fun _=>pure (.bool false)):=⟨_,Tryz.func171,by kernel_rfl,by kernel_rfl,by kernel_rfl,by kernel_rfl⟩
theorem T_:jk PR 200 (aP (Op.intArith .add) .u64 true):=⟨_,Tryz.func200,by kernel_rfl,by kernel_rfl,by kernel_rfl,by kernel_rfl⟩
theorem KF:jk PR 201 (aN (.int .u64)):=⟨_,Tryz.func201,by kernel_rfl,by kernel_rfl,by kernel_rfl,by kernel_rfl⟩
theorem akf:jk PR 202 aO:=⟨_,Tryz.func202,by kernel_rfl,by kernel_rfl,by kernel_rfl,by kernel_rfl⟩
theorem Ua:jk PR 203 (aM (.int .u64)):=⟨_,Tryz.func203,by kernel_rfl,by kernel_rfl,by kernel_rfl,by kernel_rfl⟩
theorem Ub:jk PR 180 aT:=⟨_,Tryz.func180,by kernel_rfl,by kernel_rfl,by kernel_rfl,by kernel_rfl⟩
theorem Uc:jk PR 186 aQ:=⟨_,Tryz.func186,by kernel_rfl,by kernel_rfl,by kernel_rfl,by kernel_rfl⟩
theorem akg:jk PR 176 (Extern.Race.marked .read):=⟨_,Tryz.func176,by kernel_rfl,by kernel_rfl,by kernel_rfl,by kernel_rfl⟩
theorem akh:jk PR 185 (Extern.Race.marked .write):=⟨_,Tryz.func185,by kernel_rfl,by kernel_rfl,by kernel_rfl,by kernel_rfl⟩
theorem u216:PR.underlying 216=some (.pointer 212):=by simp
theorem i212:(PR.info? 212).map (fun i=>decide (i.size=0))=some false:=by kernel_rfl
theorem Cy:∀(n:Nat) {q d:Nat} {f:Frame} {l:List Frame},QuitsD P q d (G (gF P n f l).1 (gF P n f l).2)->∃Y,QuitsD P Y d (G f l)
 |0,q,d,f,l,h=>⟨q,h⟩
 |n+1,q,d,f,l,h=>by
  unfold gF at h;split at h
  ·rename_i f1 l1 e;obtain⟨Y,h'⟩:=Cy n h;exact⟨Y+1,.ctl rfl (fun w=>tu e) h'⟩
  ·exact⟨q,h⟩
theorem N4{g:FuncId}{m:Mark}(F:∀g,m≠.extern g)(U:f.mode=.returning)(hr:f.roundOf=none)(hd:f.defers=dcall g #[]::ds)(X:jk P g (fun _=>do mark m;pure aB)):
  stepG P main (G f cs) w=.go (G {f with defers:=ds} cs) w #[⟨.mark m,false,true⟩]:=by
 obtain⟨fn,Y,K,H,D,R⟩:=X.ex;obtain⟨iT,tmps,todo,defers,mode,kind,ro⟩:=f;subst U hr;exact stepG_unwind_entry (b:=⟨iT,tmps,todo,defers,.returning,kind,none⟩) (a:=⟨tmps,defers⟩) (v:=.tuple #[]) hd Y K H D R (by simp[aB]) (by simp) (by simp_all)
def bot:Frame:={(default:Frame)with fn:=PR.funcs.size,defers:=[],mode:=.panicking [goexitEntry]}
def kO (tmps:Array Value) (todo:List Item):Frame:=⟨158,tmps,todo,[],.returning,.deferred,none⟩
section
variable{Wg:Nat}{tmps:Array Value}{todo:List Item}{w:World}
theorem leave1:stepG PR false (G (kO tmps todo) [bot]) w=.go (G bot []) w #[]:=by kernel_rfl
theorem ahc:stepG PR false (G bot []) w=.go {G bot []with status:=.finished} w #[]:=by kernel_rfl
def zs:List Nat:=[0,4294967296,4294967297,8589934592,8589934593,12884901888,12884901889,17179869184,17179869185,21474836480,21474836481,25769803776,25769803777,30064771072,30064771073,34359738368,34359738369]
theorem ahd:(zs.map fun z:Nat=>((vH Wg (kO tmps todo) [bot] (z:Int)).1.mode,(vH Wg (kO tmps todo) [bot] (z:Int)).1.roundOf,(vH Wg (kO tmps todo) [bot] (z:Int)).1.defers))=zs.map fun z:Nat=>(.returning,none,[dcall 170 #[]]):=by kernel_rfl
theorem ahe:(zs.map fun z:Nat=>gF PR 6 {(vH Wg (kO tmps todo) [bot] (z:Int)).1 with defers:=[]} (vH Wg (kO tmps todo) [bot] (z:Int)).2)=zs.map fun z:Nat=>(kO tmps todo,[bot]):=by kernel_rfl
theorem ahf:((zM Wg (kO tmps todo) [bot]).1.mode,(zM Wg (kO tmps todo) [bot]).1.roundOf,(zM Wg (kO tmps todo) [bot]).1.defers)=(.returning,none,[dcall 170 #[]]):=by kernel_rfl
theorem ahg:gF PR 6 {(zM Wg (kO tmps todo) [bot]).1 with defers:=[]} (zM Wg (kO tmps todo) [bot]).2=(kO tmps todo,[bot]):=by kernel_rfl
end
theorem abk:QuitsD PR 2 0 (G (kO tmps todo) [bot]):=
 .ctl rfl (fun w=>leave1) (.inr ⟨rfl,{G bot []with status:=.finished},#[],by simp,fun w=>ahc,⟨rfl,rfl⟩⟩)
theorem QA{r:Frame×List Frame}(Y:(r.1.mode,r.1.roundOf,r.1.defers)=(.returning,none,[dcall 170 #[]]))(H:gF PR 6 {r.1 with defers:=[]} r.2=(kO tmps todo,[bot])):∃q,QuitsD PR q 1 (G r.1 r.2):=by
 simp only[a_]at Y;have K:QuitsD PR 2 0 (G (gF PR 6 {r.1 with defers:=[]} r.2).1 (gF PR 6 {r.1 with defers:=[]} r.2).2):=by rw[H];exact abk
 obtain⟨q,D⟩:=Cy 6 K;exact⟨q+1,.said _ rfl rfl (fun w=>N4 (by simp) Y.1 Y.2.1 Y.2.2 xM) D⟩
theorem Hd{cs:List _}{g:FuncId}{k:IntKind}(X:jk P g (aN (.int k))){v:Int}(h:ahead f=some (g,#[.pointer (some ad)]))(F:w.cell? ad=some (.int k v)):
  stepG P main (G f cs) w=.go (G (f.finish (.int k v)) cs) w #[⟨.cell ad,false,true⟩]:=by
 obtain⟨o,Y,H,C,gC,K⟩:=uF h;obtain⟨fn,D,R,I,A,U⟩:=X.ex;obtain⟨x,rfl⟩:∃x,Y=#[x]:=by
  have:=by have:=congrArg Array.size K;simpa using this
  refine⟨Y[0],?_⟩;apply Array.ext
  ·omega
  ·simp_all
 have J:=by simpa using K
 exact conv C fun ops i rest L B hw hk=>stepG_load_atomic B hw hk gC D R I A k U J F
theorem Yy{g:FuncId}{k:IntKind}(X:jk P g aO){v:Int}(h:ahead f=some (g,#[.pointer (some ad),.int k v]))(F:w.cell? ad=some u)(M:w.frozen? ad=false):
  stepG P main (G f cs) w=.go (G (f.finish (.tuple #[])) cs) (w.setCell ad (.int k v)) #[⟨.cell ad,true,true⟩]:=by
 obtain⟨o,Y,R,L,gC,K⟩:=uF h;obtain⟨fn,I,A,U,B,C⟩:=X.ex;obtain⟨x,y,rfl⟩:∃x y,Y=#[x,y]:=by
  have N:=by have:=congrArg Array.size K;simpa using this
  refine⟨Y[0],Y[1],?_⟩;apply Array.ext
  ·omega
  ·intro i H J;have:i=0\/i=1:=by omega
   rcases this with rfl|rfl<;>rfl
 have D:=by simpa using K
 exact conv L fun ops i rest O H hw hk=>stepG_store_atomic H hw hk gC I A U B C D.1 D.2 F M
theorem sub_one{v:Nat}(H:v<=8)(Y:wt<=1):IntKind.u64.wrap ((((v+1) *4294967296+wt:Nat))+18446744069414584320)=((v *4294967296+wt:Nat)):=by
 rw[aV];omega
theorem aiQ{v:Nat}(D:v<=8)(H:wt<=1)(h:¬(v=0/\wt=1)):v *4294967296+wt∈zs:=by
 have Y:v=0\/v=1\/v=2\/v=3\/v=4\/v=5\/v=6\/v=7\/v=8:=by omega
 have K:wt=0\/wt=1:=by omega
 rcases Y with rfl|rfl|rfl|rfl|rfl|rfl|rfl|rfl|rfl<;>rcases K with rfl|rfl<;>first|(exact absurd ⟨rfl,rfl⟩ h)|(simp[zs])
namespace Env
theorem vX{Q:Goroutine->Prop}:∀n0 {n:Nat} {f:Frame} {l:List _},oA P Q n (G (gF P n0 f l).1 (gF P n0 f l).2)->∃Y,oA P Q Y (G f l)
 |0,n,f,l,h=>⟨n,h⟩
 |n0+1,n,f,l,h=>by
  unfold gF at h;split at h
  ·rename_i f1 l1 e;obtain⟨Y,h'⟩:=vX n0 h;exact⟨Y+1,rfl,_,fun w=>tu e,h'⟩
  ·exact⟨n,h⟩
theorem ae_{E:Env}{A:(Nat->Prop)->(Nat->Prop)->Goroutine->World->Prop}{tmps:Array _}{todo:List _}(L:S E.Wg)(k:Nat)(hF:E.pA w):
  E.Tree PR false (E.je PR A k .wr) S X (G (zL E.Wg (kO tmps todo) [bot]).1 (zL E.Wg (kO tmps todo) [bot]).2) w:=by
 refine Tz.one rfl fun w2 U=>?_;have D:=hF.rely L U;obtain⟨v0,B⟩:=D.cell0;refine⟨_,w2,#[],S,X,uI da0 u216 u159 i212 B,jc S X w2,Tz.pure 60 fun w3 M=>?_⟩;refine .stop ?_;cases k with
 |zero=>trivial
 |succ k=>
  refine⟨rfl,rfl,fun w4 N=>⟨G _ _,yn (by simp) T2 da1,vX 60 (n:=0) ?_⟩⟩;refine⟨rfl,G _ _,fun O=>r_ (by simp) Bj da2,?_⟩;have J:∃n,oA PR (E.ua PR 3) n (G (x8 E.Wg (kO tmps todo) [bot]).1 (x8 E.Wg (kO tmps todo) [bot]).2):=by
   obtain⟨n,R⟩:∃n,oA PR (E.ua PR 3) n (G ((x8 E.Wg (kO tmps todo) [bot]).1.finish (.bool false)) (x8 E.Wg (kO tmps todo) [bot]).2):=by
    refine vX 90 (n:=0) ?_;refine⟨rfl,fun Q v wt F H Y=>?_⟩;have gq:=C4 (main:=false) (cs:=(Fb E.Wg (kO tmps todo) [bot]).2) T_ (da4 (c:=kO tmps todo) (cs:=[bot])) Y.cell0 (Y.thaw 0);rw[sub_one F H]at gq;refine⟨_,_,_,gq,Y.ni v wt,Eff.set _ _ _ _,EvA.two _ _ (by omega),fun C=>?_,fun C=>?_⟩
    ·obtain⟨rfl,rfl⟩:=C;refine vX 300 (n:=0) ?_;refine⟨rfl,fun T Y=>⟨_,_,Hd KF da5 Y.cell0,EvA.one _ _ _ (by omega),vX 300 (n:=0) ?_⟩⟩;refine⟨rfl,fun V Y=>⟨_,_,_,Yy akf da6 Y.cell0 (Y.thaw 0),Y.ni 0 0,Eff.set _ _ _ _,EvA.one _ _ _ (by omega),vX 300 (n:=0) ?_⟩⟩;refine⟨rfl,HA Ub UT,fun Z Y=>?_⟩;have gq:=Gt (main:=false) (cs:=(Fc E.Wg (kO tmps todo) [bot]).2) Ub (UT (c:=kO tmps todo) (cs:=[bot])) rfl Y.rM (Y.thaw 1);refine⟨_,_,_,gq,Y.qX 1,Eff.set _ _ _ _,EvA.zJ _ _ (by omega),?_⟩;have:=QA (r:=zM E.Wg (kO tmps todo) _) ahf ahg;obtain⟨q,I⟩:=this;exact Cy 300 I
    ·have K:=aiQ F H C;obtain⟨q,I⟩:=QA (jb ahd K) (jb ahe K);exact Cy 300 I
   exact⟨n+1,rfl,_,fun P=>Pn T9 da3,R⟩
  obtain⟨n,R⟩:=J;exact vX 60 R
end Env
section
variable(Wg:Nat)(c:Frame)(cs:List Frame)
def Lx:Frame×List Frame:=gF PR 60 (Frame.enter PR 157 #[ptr Wg,.int .i64 1] .normal) (c::cs)
def Ly:Frame×List Frame:=gF PR 60 ((Lx Wg c cs).1.finish unit) (Lx Wg c cs).2
def Fe:Frame×List Frame:=gF PR 90 ((Ly Wg c cs).1.finish (.bool false)) (Ly Wg c cs).2
def uv (z:Int):Frame×List Frame:=gF PR 300 ((Fe Wg c cs).1.finish (.int .u64 z)) (Fe Wg c cs).2
def Lz:Frame×List Frame:=gF PR 60 ((uv Wg c cs 4294967296).1.finish (.pointer (some ⟨Wg,1,none⟩))) (uv Wg c cs 4294967296).2
def zN:Frame×List Frame:=gF PR 300 ((Lz Wg c cs).1.finish unit) (Lz Wg c cs).2
def BG:Frame×List Frame:=gF PR 60 (Frame.enter PR 159 #[ptr Wg] .normal) (c::cs)
def Ff:Frame×List Frame:=rP PR 60 ((BG Wg c cs).1.finish unit) (BG Wg c cs).2
end
section
variable{Wg:Nat}{c:Frame}{cs:List Frame}
theorem aa0:ahead (Lx Wg c cs).1=some (169,#[]):=by kernel_rfl
theorem aa1:ahead (Ly Wg c cs).1=some (171,#[]):=by kernel_rfl
theorem aa2:ahead (Fe Wg c cs).1=some (200,#[ptr Wg,.int .u64 4294967296]):=by kernel_rfl
theorem aa3:qL (uv Wg c cs 4294967296).1=some (227,159,.pointer (some ⟨Wg,1,none⟩)):=by kernel_rfl
theorem aa4:ahead (Lz Wg c cs).1=some (176,#[.pointer (some ⟨Wg,1,none⟩)]):=by kernel_rfl
theorem aa5:((zN Wg c cs).1.mode,(zN Wg c cs).1.roundOf,(zN Wg c cs).1.defers)=(.returning,none,[dcall 170 #[]]):=by kernel_rfl
theorem aki:gF PR 1 {(zN Wg c cs).1 with defers:=[]} (zN Wg c cs).2=(c.finish unit,cs):=by kernel_rfl
def zA:List Nat:=[8589934592,12884901888,17179869184,21474836480,25769803776,30064771072,34359738368]
theorem ahh:(zA.map fun z:Nat=>((uv Wg c cs (z:Int)).1.mode,(uv Wg c cs (z:Int)).1.roundOf,(uv Wg c cs (z:Int)).1.defers))=zA.map fun z:Nat=>(.returning,none,[dcall 170 #[]]):=by kernel_rfl
theorem ahi:(zA.map fun z:Nat=>gF PR 1 {(uv Wg c cs (z:Int)).1 with defers:=[]} (uv Wg c cs (z:Int)).2)=zA.map fun z:Nat=>(c.finish unit,cs):=by kernel_rfl
theorem ww0:ahead (BG Wg c cs).1=some (169,#[]):=by kernel_rfl
end
theorem u227:PR.underlying 227=some (.pointer 185):=by simp
theorem i185:(PR.info? 185).map (fun i=>decide (i.size=0))=some false:=by kernel_rfl
def Em:List Item:=(Ff 0 bot []).1.todo
def Fg(Wg:Nat):List (Nat×Value):=[(0,ptr Wg)]
section
variable(Wg:Nat)(c:Frame)(cs:List Frame)(j:Nat->Value)
def LA:Frame×List Frame:=gF PR 60 (kR 159 84 Em (sA (Fg Wg)) j) (c::cs)
def rZ (z:Int):Frame×List Frame:=gF PR 300 ((LA Wg c cs j).1.finish (.int .u64 z)) (LA Wg c cs j).2
def LB (z:Int):Frame×List Frame:=gF PR 300 ((rZ Wg c cs j z).1.finish (.bool true)) (rZ Wg c cs j z).2
def LC (z:Int):Frame×List Frame:=rP PR 300 ((rZ Wg c cs j z).1.finish (.bool false)) (rZ Wg c cs j z).2
def LD (z:Int):Frame×List Frame:=gF PR 300 ((LB Wg c cs j z).1.finish (.pointer (some ⟨Wg,1,none⟩))) (LB Wg c cs j z).2
def Fh (z:Int):Frame×List Frame:=gF PR 300 ((LD Wg c cs j z).1.finish unit) (LD Wg c cs j z).2
def LF (z:Int):Frame×List Frame:=gF PR 300 ((Fh Wg c cs j z).1.finish unit) (Fh Wg c cs j z).2
def LG (z:Int):Frame×List Frame:=gF PR 300 ((LF Wg c cs j z).1.finish (.int .u64 0)) (LF Wg c cs j z).2
def LH (z:Int):Frame×List Frame:=gF PR 300 ((LG Wg c cs j z).1.finish unit) (LG Wg c cs j z).2
def LI (z:Int):Frame×List Frame:=gF PR 300 ((LH Wg c cs j z).1.finish (ptr Wg)) (LH Wg c cs j z).2
def LK:Frame×List Frame:=gF PR 300 ((rZ Wg c cs j 0).1.finish unit) (rZ Wg c cs j 0).2
def LM:Frame×List Frame:=gF PR 300 ((LK Wg c cs j).1.finish (ptr Wg)) (LK Wg c cs j).2
end
def zW:List Nat:=[4294967296,8589934592,12884901888,17179869184,21474836480,25769803776,30064771072,34359738368]
section
variable{Wg:Nat}{c:Frame}{cs:List Frame}{j:Nat->Value}
theorem wwh:look [0] (Ff Wg c cs)=iz 159 84 (c::cs) Em (Fg Wg) none none:=by kernel_rfl
theorem wl1:ahead (LA Wg c cs j).1=some (201,#[ptr Wg]):=by kernel_rfl
theorem akj:ahead (rZ Wg c cs j 0).1=some (170,#[]):=by kernel_rfl
theorem wl2:(zW.map fun z:Nat=>ahead (rZ Wg c cs j (z:Int)).1)=zW.map fun z:Nat=>some (203,#[ptr Wg,.int .u64 (z:Int),.int .u64 (z+1:Int)]):=by kernel_rfl
theorem wlf:(zW.map fun z:Nat=>look [0] (LC Wg c cs j (z:Int)))=zW.map fun z:Nat=>iz 159 84 (c::cs) Em (Fg Wg) none none:=by kernel_rfl
theorem wl3:(zW.map fun z:Nat=>qL (LB Wg c cs j (z:Int)).1)=zW.map fun z:Nat=>some (227,159,.pointer (some ⟨Wg,1,none⟩)):=by kernel_rfl
theorem wl4:(zW.map fun z:Nat=>ahead (LD Wg c cs j (z:Int)).1)=zW.map fun z:Nat=>some (185,#[.pointer (some ⟨Wg,1,none⟩)]):=by kernel_rfl
theorem wl5:(zW.map fun z:Nat=>ahead (Fh Wg c cs j (z:Int)).1)=zW.map fun z:Nat=>some (186,#[.pointer (some ⟨Wg,1,none⟩),.bool false]):=by kernel_rfl
theorem wl6:(zW.map fun z:Nat=>ahead (LF Wg c cs j (z:Int)).1)=zW.map fun z:Nat=>some (201,#[ptr Wg]):=by kernel_rfl
theorem wl7:(zW.map fun z:Nat=>ahead (LG Wg c cs j (z:Int)).1)=zW.map fun z:Nat=>some (170,#[]):=by kernel_rfl
theorem wl8:(zW.map fun z:Nat=>qL (LH Wg c cs j (z:Int)).1)=zW.map fun z:Nat=>some (216,159,ptr Wg):=by kernel_rfl
theorem wl9:(zW.map fun z:Nat=>ahead (LI Wg c cs j (z:Int)).1)=zW.map fun z:Nat=>some (182,#[ptr Wg]):=by kernel_rfl
theorem wz8:qL (LK Wg c cs j).1=some (216,159,ptr Wg):=by kernel_rfl
theorem wz9:ahead (LM Wg c cs j).1=some (182,#[ptr Wg]):=by kernel_rfl
end
theorem add_one{v:Nat}(Y:v<=8):IntKind.u64.wrap (((v *4294967296+0:Nat))+4294967296)=(((v+1) *4294967296+0:Nat)):=by
 rw[aV];omega
theorem aiR{v:Nat}(Y:1<=v)(H:v<8):(v+1) *4294967296+0∈zA:=by
 have:v=1\/v=2\/v=3\/v=4\/v=5\/v=6\/v=7:=by omega
 rcases this with rfl|rfl|rfl|rfl|rfl|rfl|rfl<;>simp[zA]
theorem aiS{v:Nat}(Y:v≠0)(H:v<=8):v *4294967296+0∈zW:=by
 have:v=1\/v=2\/v=3\/v=4\/v=5\/v=6\/v=7\/v=8:=by omega
 rcases this with rfl|rfl|rfl|rfl|rfl|rfl|rfl|rfl<;>simp[zW]
section
variable{Wg:Nat}{c:Frame}{cs:List Frame}{j:Nat->Value}
theorem akk:(zW.map fun z:Nat=>gF PR 10 ((LI Wg c cs j (z:Int)).1.finish unit) (LI Wg c cs j z).2)=zW.map fun z:Nat=>(c.finish unit,cs):=by kernel_rfl
theorem akl:gF PR 20 ((LM Wg c cs j).1.finish unit) (LM Wg c cs j).2=(c.finish unit,cs):=by kernel_rfl
end
namespace Env
structure UU(E:Env)(S:Nat->Prop)(Fx:World->Prop):Prop where
 rely:∀{w w2:World},Fx w->gK E.U S w w2->Fx w2
 wg:∀{w:World},Fx w->E.pA w
 lI:∀{w w1:World} {v wt ws v' ib ia:Nat},Fx w->E.WgAt w v wt ws->Eff E.Wg w w1->E.WgAt w1 v' ib ia->Fx w1
section
variable{E:Env}{J:iq}{kt:Nat->Goroutine->World->Prop}{Fin:(Nat->Prop)->(Nat->Prop)->Goroutine->World->Prop}{S X:Nat->Prop}{Fx:World->Prop}{c:Frame}{cs:List Frame}
theorem afa(K:E.UU S Fx){L:List Nat}{ch:Nat}(h:L.length<8)(O:∀k w,Fx w->E.Tree PR true (E.lA PR J kt Fin k (.go L ch)) S X (G (c.finish unit) cs) w)(k:Nat)(hF:Fx w):
  E.Tree PR true (E.lA PR J kt Fin k (.st L)) S X (G (Frame.enter PR 157 #[ptr E.Wg,.int .i64 1] .normal) (c::cs)) w:=by
 have out:∀(r:Frame×List _) (k:Nat) (w:World),(r.1.mode,r.1.roundOf,r.1.defers)=(.returning,none,[dcall 170 #[]])->gF PR 1 {r.1 with defers:=[]} r.2=(c.finish unit,cs)->Fx w->E.Tree PR true (E.lA PR J kt Fin k (.a4 L ch)) S X (G r.1 r.2) w:=by
  intro r k w U s hF;refine .stop ?_;cases k with
  |zero=>trivial
  |succ k=>
   simp at U;refine⟨rfl,rfl,fun w2 hr=>⟨G _ r.2,N4 (by simp) U.1 U.2.1 U.2.2 xM,Tz.pure 1 fun w3 H=>?_⟩⟩;rw[s];exact O k w3 (K.rely (K.rely hF hr) H)
 refine Tz.pure 60 fun w1 P=>?_;have B:=K.rely hF P;refine .stop ?_;cases k with
 |zero=>trivial
 |succ k=>
  refine⟨rfl,rfl,ch,fun w2 Q=>⟨G _ _,r_ (by simp) Bj aa0,Tz.pure 60 fun w3 H=>?_⟩⟩;have C:=K.rely (K.rely B Q) H;refine Tz.one rfl fun w4 T=>⟨G _ _,w4,#[],S,X,Pn T9 aa1,jc S X w4,Tz.pure 90 fun u V=>?_⟩;have F:=K.rely (K.rely C T) V;refine .stop ?_;cases k with
  |zero=>trivial
  |succ k=>
   refine⟨rfl,rfl,fun v Z A=>?_⟩;have gq:=C4 (main:=true) (cs:=(Fe E.Wg c cs).2) T_ (aa2 (c:=c) (cs:=cs)) A.cell0 (A.thaw 0);rw[add_one (by omega)]at gq;have R:=K.lI (K.rely F Z) A (Eff.set _ _ _ _) (A.ni (L.length+1) 0);refine⟨_,_,_,gq,A.ni _ 0,Eff.set _ _ _ _,EvA.two _ _ (by omega),?_⟩;by_cases Y:L=[]
   ·subst Y;refine Tz.pure 300 fun f D=>?_;have M:=K.rely R D;refine Tz.one rfl fun o W=>?_;have I:=K.rely M W;obtain⟨v1,d⟩:=(K.wg I).rM;refine⟨_,o,#[],S,X,uI aa3 u227 u159 i185 d,jc S X o,Tz.pure 60 fun x q=>?_⟩;have N:=K.rely I q;refine .stop ?_;cases k with
    |zero=>trivial
    |succ k=>
     refine⟨rfl,rfl,fun y j=>⟨G _ _,yn (by simp) akg aa4,Tz.pure 300 fun p z=>?_⟩⟩;change E.Tree PR _ _ S X (G (zN E.Wg c cs).1 _) p;exact out _ k p aa5 aki (K.rely (K.rely N j) z)
   ·rw[if_neg Y];refine Tz.pure 300 fun f D=>?_;change E.Tree PR _ _ S X (G (uv _ c cs _).1 _) f;have g:=aiR (by
     cases L with
     |nil=>exact absurd rfl Y
     |cons a l=>simp) h
    exact out _ k f (jb ahh g) (jb ahi g) (K.rely R D)
theorem afb(K:E.UU S Fx)(W:∀(n:Nat) (f:Frame) (l:List Frame) (w:World),Fx w->gF PR n f l=(c.finish unit,cs)->Fin S X (G f l) w)(k:Nat)(hF:Fx w):
  E.Tree PR true (E.lA PR J kt Fin k .kd) S X (G (Frame.enter PR 159 #[ptr E.Wg] .normal) (c::cs)) w:=by
 have last:∀(r:Frame×List Frame) (n k:Nat) (w:World),ahead r.1=some (182,#[ptr E.Wg])->gF PR n (r.1.finish unit) r.2=(c.finish unit,cs)->Fx w->E.Tree PR true (E.lA PR J kt Fin k .aq) S X (G r.1 r.2) w:=by
  intro r n k w h1 h2 hF;refine .stop ?_;cases k with
  |zero=>trivial
  |succ k=>exact⟨rfl,rfl,fun w2 hr=>⟨G (r.1.finish unit) r.2,yn (by simp) TZ h1,W n _ _ w2 (K.rely hF hr) h2⟩⟩
 have head:∀(k:Nat) (j:Nat->Value) (w:World),Fx w->E.Tree PR true (E.lA PR J kt Fin k .w1) S X (G (kR 159 84 Em (sA (Fg E.Wg)) j) (c::cs)) w:=by
  intro k;induction k using au with
  |_ k ih=>
  intro j w hF;refine Tz.pure 60 fun w1 M=>?_;have C:=K.rely hF M;refine .stop ?_;cases k with
  |zero=>trivial
  |succ k=>
   refine⟨rfl,rfl,fun w2 v N hv hG=>?_⟩;have T:=K.rely C N;refine⟨_,_,Hd KF wl1 hG.cell0,EvA.one _ _ _ (by omega),fun o=>?_,fun o=>?_⟩
   ·subst o;refine Tz.pure 300 fun w3 R=>?_;have U:=K.rely T R;refine .stop ?_;cases k with
    |zero=>trivial
    |succ k=>
     refine⟨rfl,rfl,fun w4 B=>⟨G _ (rZ E.Wg c cs j 0).2,r_ (by simp) xM akj,Tz.pure 300 fun g I=>?_⟩⟩;have L:=K.rely (K.rely U B) I;refine Tz.one rfl fun d O=>?_;have D:=K.rely L O;obtain⟨v0,Q⟩:=(K.wg D).cell0;refine⟨_,d,#[],S,X,uI wz8 u216 u159 i212 Q,jc S X d,Tz.pure 300 fun w7 P=>?_⟩;exact last _ 20 k w7 wz9 akl (K.rely D P)
   ·have A:=aiS o hv;refine Tz.pure 300 fun w3 R=>?_;have U:=K.rely T R;have a2:=jb (wl2 (Wg:=E.Wg) (c:=c) (cs:=cs) (j:=j)) A;have aC:=jb (wl3 (Wg:=E.Wg) (c:=c) (cs:=cs) (j:=j)) A;have a4:=jb (wl4 (Wg:=E.Wg) (c:=c) (cs:=cs) (j:=j)) A;have a5:=jb (wl5 (Wg:=E.Wg) (c:=c) (cs:=cs) (j:=j)) A;have a6:=jb (wl6 (Wg:=E.Wg) (c:=c) (cs:=cs) (j:=j)) A;have a7:=jb (wl7 (Wg:=E.Wg) (c:=c) (cs:=cs) (j:=j)) A;have a8:=jb (wl8 (Wg:=E.Wg) (c:=c) (cs:=cs) (j:=j)) A;have a9:=jb (wl9 (Wg:=E.Wg) (c:=c) (cs:=cs) (j:=j)) A;have aE:=jb (akk (Wg:=E.Wg) (c:=c) (cs:=cs) (j:=j)) A;have aF:=jb (wlf (Wg:=E.Wg) (c:=c) (cs:=cs) (j:=j)) A;refine .stop ?_;cases k with
    |zero=>trivial
    |succ k=>
     refine⟨rfl,rfl,fun w4 v2 B hv2 Y=>⟨fun he=>?_,fun he=>?_⟩⟩
     ·subst he;have F:=K.rely U B;have gq:=Ai (main:=true) (cs:=(rZ E.Wg c cs j ((v2 *4294967296+0:Nat):Int)).2) Ua a2 Y.cell0 (Y.thaw 0);have en:(((v2 *4294967296+0:Nat):Int)+1)=((v2 *4294967296+1:Nat):Int):=by omega
      rw[en]at gq;have V:=K.lI F Y (Eff.set _ _ _ _) (Y.ni v2 1);refine⟨_,_,_,gq,Y.ni v2 1,Eff.set _ _ _ _,EvA.two _ _ (by omega),Tz.pure 300 fun g I=>?_⟩;have L:=K.rely V I;refine Tz.one rfl fun d O=>?_;have D:=K.rely L O;obtain⟨v1,hv1⟩:=(K.wg D).rM;refine⟨_,d,#[],S,X,uI aC u227 u159 i185 hv1,jc S X d,Tz.pure 300 fun w7 P=>?_⟩;have p:=K.rely D P;refine .stop ?_;cases k with
      |zero=>trivial
      |succ k=>
       refine⟨rfl,rfl,fun w8 t=>⟨G _ _,yn (by simp) akh a4,Tz.pure 300 fun w9 a=>?_⟩⟩;have s:=K.rely (K.rely p t) a;refine .stop ?_;cases k with
       |zero=>trivial
       |succ k=>
        refine⟨rfl,rfl,fun wA v3 wt3 q H=>Nl Uc a5 rfl H.rM,fun wA q H=>?_⟩;have gq:=M7 (main:=true) (cs:=(Fh E.Wg c cs j ((v2 *4294967296+0:Nat):Int)).2) Uc a5 rfl H.rM (by simp) (H.thaw 1);have u:=K.lI (K.rely s q) H (Eff.set _ _ _ _) (H.qX 0);refine⟨_,_,_,gq,H.qX 0,Eff.set _ _ _ _,EvA.zJ _ _ (by omega),Tz.pure 300 fun wB i=>?_⟩;have x:=K.rely u i;refine .stop ?_;cases k with
        |zero=>trivial
        |succ k=>
         refine⟨rfl,rfl,fun wC h b=>⟨_,_,Hd KF a6 b.cell0,EvA.one _ _ _ (by omega),Tz.pure 300 fun wD e=>?_⟩⟩;have y:=K.rely (K.rely x h) e;refine .stop ?_;cases k with
         |zero=>trivial
         |succ k=>
          refine⟨rfl,rfl,fun wE zO=>⟨G _ _,r_ (by simp) xM a7,Tz.pure 300 fun wF Fi=>?_⟩⟩;have m:=K.rely (K.rely y zO) Fi;refine Tz.one rfl fun wG Fj=>?_;have Z:=K.rely m Fj;obtain⟨v0,Q⟩:=(K.wg Z).cell0;refine⟨_,wG,#[],S,X,uI a8 u216 u159 i212 Q,jc S X wG,Tz.pure 300 fun wH Fl=>?_⟩;exact last _ 10 k wH a9 aE (K.rely Z Fl)
     ·have F:=K.rely U B;have gq:=Ah (main:=true) (cs:=(rZ E.Wg c cs j ((v *4294967296+0:Nat):Int)).2) Ua a2 Y.cell0 (Y.thaw 0) (by omega);refine⟨_,_,gq,EvA.one _ _ _ (by omega),Tz.A5 300 fun g I=>?_⟩;change E.Tree PR true _ S X (G (LC E.Wg c cs j _).1 (LC E.Wg c cs j _).2) g;have z:=jV aF rfl;rw[z.callers,z.fr.eq];exact ih k (by omega) _ g (K.rely F I)
 refine Tz.pure 60 fun w1 M=>?_;have C:=K.rely hF M;refine .stop ?_;cases k with
 |zero=>trivial
 |succ k=>
  refine⟨rfl,rfl,fun w2 N=>⟨G ((BG E.Wg c cs).1.finish unit) (BG E.Wg c cs).2,r_ (by simp) Bj ww0,Tz.A5 60 fun w3 R=>?_⟩⟩;change E.Tree PR true _ S X (G (Ff E.Wg c cs).1 (Ff E.Wg c cs).2) w3;have z:=jV (wwh (Wg:=E.Wg) (c:=c) (cs:=cs)) rfl;rw[z.callers,z.fr.eq];exact head k _ w3 (K.rely (K.rely C N) R)
end
end Env
def ac0:Op->Bool
 |.indexAddr .. =>true
 |.binOp .rem .. =>true
 |.makeSlice .. =>true
 |.call {callee:=.value _,..}=>true
 |_=>false
def abl(f:Frame):=match f.todo with
 |.code (.cond _ _ _)::_=>true
 |_=>match opAt f with
  |some o=>ac0 o.op
  |none=>false
def gY(P:Program):Nat->Frame->List Frame->Frame×List Frame
 |0,f,l=>(f,l)
 |n+1,f,l=>if abl f then(f,l)else match oF P f l with
   |some (f1,l1)=>gY P n f1 l1
   |none=>(f,l)
theorem Tz.k4{U:Nat->Nat->Prop}{D:(Nat->Prop)->(Nat->Prop)->Goroutine->World->Prop}:∀n {f:Frame} {l:List _} {w:World},(∀w2,gK U S w w2->Tz P main U D S X (G (gY P n f l).1 (gY P n f l).2) w2)->Tz P main U D S X (G f l) w
 |0,f,l,w,h=>h w (.refl _ _ _)
 |n+1,f,l,w,h=>by
  unfold gY at h;split at h
  ·exact h w (.refl _ _ _)
  ·split at h
   ·rename_i f1 l1 e;exact Tz.one rfl fun w2 hr=>⟨_,w2,#[],S,X,tu e,jc S X w2,Tz.k4 n fun w3 Y=>h w3 (hr.trans Y)⟩
   ·exact h w (.refl _ _ _)
abbrev iv(n:Nat):Value:=.int .i64 (n:Int)
abbrev rh(Gv n:Nat):Value:=.slice (some ⟨Gv,0,none⟩) n n
def ie(nv:Value)(n:Nat)(work:Value)(Wg Gv:Nat):=[(0,nv),(1,iv n),(2,work),(6,ptr Wg),(7,rh Gv n)]
noncomputable def aiT:List Item:=match Tryz.f137.body with
 |some (.seq _ (.seq _ rest))=>[.code rest]
 |_=>[]
def yes:List Item->List Item
 |.code (.cond _ a _)::k=>.code a::k
 |k=>k
def no:List Item->List Item
 |.code (.cond _ _ b)::k=>.code b::k
 |k=>k
def gN(b:Option Addr)(len cap:Nat):Value:=.slice b len cap
abbrev dF(site:List _)(al:List (Nat×Value))(j:Nat->Value):=kR 137 55 site (sA al) j
def Z0:=ie (gN none 0 0) 1 undef 0 0
abbrev go1 (site:List _) (al:List _):=gY PR 60 (dF site al fun _=>undef) []
def lD:=(go1 aiT Z0).1.todo
def oH(a:List _)(n j:Nat):=a++[(16,iv n),(17,iv j)]
def Fo:=(go1 (yes lD) (oH Z0 1 0)).1.todo
def Fq(a:List _)(Gv n j:Nat):=oH a n j++[(8,iv j),(20,rh Gv n),(21,iv j)]
section
variable{b:Option Addr}{len cap n j Wg Gv ch:Nat}{work:Value}{J:Nat->Value}{l:List Frame}
def Fs (b:Option _) (len cap n j Wg Gv:Nat) (work:Value) (J:Nat->Value) (l:List _):=gY PR 60 (dF (yes lD) (oH (ie (gN b len cap) n work Wg Gv) n j) J) l
theorem rmk:look [0,1,2,6,7,16,17,8,20,21] (Fs b len cap n j Wg Gv work J l)=iz 137 55 l Fo (Fq (ie (gN b len cap) n work Wg Gv) Gv n j) none none:=by kernel_rfl
end
abbrev pD (site:List _) (al:List _) (v:Value):=gY PR 60 ((dF site al fun _=>undef).finish v) []
def Ft:=(pD Fo (Fq Z0 0 1 0) (.chan none)).1.todo
def Fu(a:List _)(Gv n j ch:Nat):=oH a n j++[(8,iv j),(20,rh Gv n),(21,iv j),(22,.chan (some ch))]
def BH:=(pD Ft (Fu Z0 0 1 0 0) (ptr 0)).1.todo
def BI(a:List _)(Gv n j ch:Nat):=oH a n j++[(8,iv j),(22,.chan (some ch)),(23,.pointer (some ⟨Gv,j,none⟩))]
def BJ:=(pD BH (BI Z0 0 1 0 0) undef).1.todo
def BK(a:List _)(n j:Nat):=oH a n j++[(8,iv j)]
def Fv:=(pD BJ (BK Z0 1 0) unit).1.todo
def Fw(a:List _)(Gv n j:Nat):=oH a n j++[(25,rh Gv n),(26,iv j)]
def LN:=(pD Fv (Fw Z0 0 1 0) (ptr 0)).1.todo
def LP(a:List _)(Gv n j:Nat):=oH a n j++[(27,.pointer (some ⟨Gv,j,none⟩))]
def sG:=(pD LN (LP Z0 0 1 0) (.chan none)).1.todo
def aG(a:List _)(n j ch:Nat)(work:Value):=oH a n j++[(28,.chan (some ch)),(29,work)]
section
variable{b:Option Addr}{len cap n j Wg Gv ch:Nat}{work:Value}{J:Nat->Value}{l:List Frame}
variable(b:Option Addr)(len cap n j Wg Gv ch:Nat)(work:Value)(J:Nat->Value)(l:List Frame)
def Fy:=gY PR 60 ((dF Fo (Fq (ie (gN b len cap) n work Wg Gv) Gv n j) J).finish (.chan (some ch))) l
def Fz:=gY PR 60 ((dF Ft (Fu (ie (gN b len cap) n work Wg Gv) Gv n j ch) J).finish (.pointer (some ⟨Gv,j,none⟩))) l
def FA:=gY PR 60 ((dF BH (BI (ie (gN b len cap) n work Wg Gv) Gv n j ch) J).finish undef) l
def FC:=gY PR 60 ((dF BJ (BK (ie (gN b len cap) n work Wg Gv) n j) J).finish unit) l
def FD:=gY PR 60 ((dF Fv (Fw (ie (gN b len cap) n work Wg Gv) Gv n j) J).finish (.pointer (some ⟨Gv,j,none⟩))) l
def RG:=gY PR 60 ((dF LN (LP (ie (gN b len cap) n work Wg Gv) Gv n j) J).finish (.chan (some ch))) l
def Ud:=gY PR 60 ((dF sG (aG (ie (gN b len cap) n work Wg Gv) n j ch work) J).finish undef) l
end
section
variable{b:Option Addr}{len cap n j Wg Gv ch:Nat}{work:Value}{J:Nat->Value}{l:List Frame}
theorem aiU:opAt (dF Fo (Fq (ie (gN b len cap) n work Wg Gv) Gv n j) J)=some {dst:=some 22,op:=.makeChan 214 (.const (.int .i64 0)),type:=214,pos:= "workers.go:52",after:=#[],guard:=none}:=by kernel_rfl
theorem ri1:look [0,1,2,6,7,16,17,8,20,21,22] (Fy b len cap n j Wg Gv ch work J l)=iz 137 55 l Ft (Fu (ie (gN b len cap) n work Wg Gv) Gv n j ch) none none:=by kernel_rfl
theorem vu:look [0,1,2,6,7,16,17,8,22,23] (Fz b len cap n j Wg Gv ch work J l)=iz 137 55 l BH (BI (ie (gN b len cap) n work Wg Gv) Gv n j ch) none none:=by kernel_rfl
theorem rc1:look [0,1,2,6,7,16,17,8] (FA b len cap n j Wg Gv ch work J l)=iz 137 55 l BJ (BK (ie (gN b len cap) n work Wg Gv) n j) (some (157,#[ptr Wg,.int .i64 1])) none:=by kernel_rfl
theorem ri2:look [0,1,2,6,7,16,17,25,26] (FC b len cap n j Wg Gv work J l)=iz 137 55 l Fv (Fw (ie (gN b len cap) n work Wg Gv) Gv n j) none none:=by kernel_rfl
theorem rl2:look [0,1,2,6,7,16,17,27] (FD b len cap n j Wg Gv work J l)=iz 137 55 l LN (LP (ie (gN b len cap) n work Wg Gv) Gv n j) none (some (214,.pointer (some ⟨Gv,j,none⟩))):=by kernel_rfl
theorem z87:look [0,1,2,6,7,16,17,28,29] (RG b len cap n j Wg Gv ch work J l)=iz 137 55 l sG (aG (ie (gN b len cap) n work Wg Gv) n j ch work) none none:=by kernel_rfl
theorem akm:sX PR (dF sG (aG (ie (gN b len cap) n work Wg Gv) n j ch work) J)=some (.spawn {target:=.fn (.func 158) #[],args:=#[.chan (some ch),work,ptr Wg]}):=by kernel_rfl
theorem akn:look [0,1,2,6,7,16,17,18] (Ud b len cap n j Wg Gv ch work J l)=iz 137 55 l lD (ie (gN b len cap) n work Wg Gv++[(16,iv n),(17,.int .i64 (ai.wrap (j+1))),(18,.bool (decide (ai.wrap (j+1)<n)))]) none none:=by kernel_rfl
end
def lK:=(go1 (no lD) (oH Z0 1 0)).1.todo
def pP(a:List _)(nv:Value)(len i:Nat):=a++[(31,nv),(32,iv len),(33,iv i)]
def BL:=(go1 (yes lK) (pP Z0 (gN none 0 0) 0 0)).1.todo
def BM(a:List _)(nv:Value)(len i:Nat):=pP a nv len i++[(35,iv i)]
def LQ:=(pD BL (BM Z0 (gN none 0 0) 0 0) (ptr 0)).1.todo
def LS(a:List _)(nv:Value)(len i:Nat)(p:Addr):=pP a nv len i++[(35,iv i),(36,.pointer (some p))]
def sR:=(pD LQ (LS Z0 (gN none 0 0) 0 0 ⟨0,0,none⟩) (iv 0)).1.todo
def aR(a:List _)(nv:Value)(len i x n Gv:Nat):=pP a nv len i++[(9,iv i),(10,iv x),(38,rh Gv n),(39,iv i),(40,iv n)]
def FE:=(pD sR (aR Z0 (gN none 0 0) 0 0 0 1 0) (iv 0)).1.todo
def FF(a:List _)(nv:Value)(len i x n Gv m:Nat):=pP a nv len i++[(10,iv x),(38,rh Gv n),(41,iv m)]
def LU:=(pD FE (FF Z0 (gN none 0 0) 0 0 0 1 0 0) (ptr 0)).1.todo
def LW(a:List _)(nv:Value)(len i x Gv m:Nat):=pP a nv len i++[(10,iv x),(42,.pointer (some ⟨Gv,m,none⟩))]
def sS:=(pD LU (LW Z0 (gN none 0 0) 0 0 0 0 0) (.chan none)).1.todo
def aS(a:List _)(nv:Value)(len i x ch:Nat):=pP a nv len i++[(43,.chan (some ch)),(44,iv x)]
def lL:=(go1 (no lK) (pP Z0 (gN none 0 0) 0 0)).1.todo
def pQ(a:List _)(Gv n i:Nat):=a++[(46,rh Gv n),(47,iv n),(48,iv i)]
def FG:=(go1 (yes lL) (pQ Z0 0 1 0)).1.todo
def LX:=(pD FG (pQ Z0 0 1 0) (ptr 0)).1.todo
def LY(a:List _)(Gv n i:Nat):=pQ a Gv n i++[(50,.pointer (some ⟨Gv,i,none⟩))]
def LZ:=(pD LX (LY Z0 0 1 0) (.chan none)).1.todo
def L0(a:List _)(Gv n i ch:Nat):=pQ a Gv n i++[(52,.chan (some ch))]
def FH:=(go1 (no lL) (pQ Z0 0 1 0)).1.todo
section
variable(b:Option Addr)(len cap n i x m Wg Gv ch:Nat)(p:Addr)(work:Value)(J:Nat->Value)(l:List Frame)
def UW:=gY PR 60 (dF (no lD) (oH (ie (gN b len cap) n work Wg Gv) n i) J) l
def FI:=gY PR 60 (dF (yes lK) (pP (ie (gN b len cap) n work Wg Gv) (gN b len cap) len i) J) l
def FJ:=gY PR 60 ((dF BL (BM (ie (gN b len cap) n work Wg Gv) (gN b len cap) len i) J).finish (.pointer (some p))) l
def RR:=gY PR 60 ((dF LQ (LS (ie (gN b len cap) n work Wg Gv) (gN b len cap) len i p) J).finish (iv x)) l
def FK:=gY PR 60 ((dF sR (aR (ie (gN b len cap) n work Wg Gv) (gN b len cap) len i x n Gv) J).finish (iv m)) l
def FL:=gY PR 60 ((dF FE (FF (ie (gN b len cap) n work Wg Gv) (gN b len cap) len i x n Gv m) J).finish (.pointer (some ⟨Gv,m,none⟩))) l
def RS:=gY PR 60 ((dF LU (LW (ie (gN b len cap) n work Wg Gv) (gN b len cap) len i x Gv m) J).finish (.chan (some ch))) l
def Ue:=gY PR 60 ((dF sS (aS (ie (gN b len cap) n work Wg Gv) (gN b len cap) len i x ch) J).finish undef) l
def UX:=gY PR 60 (dF (no lK) (pP (ie (gN b len cap) n work Wg Gv) (gN b len cap) len i) J) l
def FM:=gY PR 60 (dF (yes lL) (pQ (ie (gN b len cap) n work Wg Gv) Gv n i) J) l
def FN:=gY PR 60 ((dF FG (pQ (ie (gN b len cap) n work Wg Gv) Gv n i) J).finish (.pointer (some ⟨Gv,i,none⟩))) l
def FO:=gY PR 60 ((dF LX (LY (ie (gN b len cap) n work Wg Gv) Gv n i) J).finish (.chan (some ch))) l
def Uf:=gY PR 60 ((dF LZ (L0 (ie (gN b len cap) n work Wg Gv) Gv n i ch) J).finish unit) l
def L1:=gY PR 60 (dF (no lL) (pQ (ie (gN b len cap) n work Wg Gv) Gv n i) J) l
end
section
variable{b:Option Addr}{len cap n i x m Wg Gv ch:Nat}{p:Addr}{work:Value}{J:Nat->Value}{l cs:List Frame}{c:Frame}
theorem rk2:look [0,1,2,6,7,31,32,33,34] (UW b len cap n i Wg Gv work J l)=iz 137 55 l lK (pP (ie (gN b len cap) n work Wg Gv) (gN b len cap) len 0++[(34,.bool (decide ((0:Int)<len)))]) none none:=by kernel_rfl
theorem ri3:look [0,1,2,6,7,31,32,33,35] (FI b len cap n i Wg Gv work J l)=iz 137 55 l BL (BM (ie (gN b len cap) n work Wg Gv) (gN b len cap) len i) none none:=by kernel_rfl
theorem rl3:look [0,1,2,6,7,31,32,33,35,36] (FJ b len cap n i Wg Gv p work J l)=iz 137 55 l LQ (LS (ie (gN b len cap) n work Wg Gv) (gN b len cap) len i p) none (some (3,.pointer (some p))):=by kernel_rfl
theorem rr:look [0,1,2,6,7,31,32,33,9,10,38,39,40] (RR b len cap n i x Wg Gv p work J l)=iz 137 55 l sR (aR (ie (gN b len cap) n work Wg Gv) (gN b len cap) len i x n Gv) none none:=by kernel_rfl
theorem ri4:look [0,1,2,6,7,31,32,33,10,38,41] (FK b len cap n i x m Wg Gv work J l)=iz 137 55 l FE (FF (ie (gN b len cap) n work Wg Gv) (gN b len cap) len i x n Gv m) none none:=by kernel_rfl
theorem rl4:look [0,1,2,6,7,31,32,33,10,42] (FL b len cap n i x m Wg Gv work J l)=iz 137 55 l LU (LW (ie (gN b len cap) n work Wg Gv) (gN b len cap) len i x Gv m) none (some (214,.pointer (some ⟨Gv,m,none⟩))):=by kernel_rfl
theorem rs:look [0,1,2,6,7,31,32,33,43,44] (RS b len cap n i x m Wg Gv ch work J l)=iz 137 55 l sS (aS (ie (gN b len cap) n work Wg Gv) (gN b len cap) len i x ch) none none:=by kernel_rfl
theorem ako:sX PR (dF sS (aS (ie (gN b len cap) n work Wg Gv) (gN b len cap) len i x ch) J)=some (.comm #[scase ch (.int .i64 x) undef] true .send):=by kernel_rfl
theorem akp:look [0,1,2,6,7,31,32,33,34] (Ue b len cap n i x Wg Gv ch work J l)=iz 137 55 l lK (ie (gN b len cap) n work Wg Gv++[(31,gN b len cap),(32,iv len),(33,.int .i64 (ai.wrap (i+1))),(34,.bool (decide (ai.wrap (i+1)<len)))]) none none:=by kernel_rfl
theorem rk3:look [0,1,2,6,7,46,47,48,49] (UX b len cap n i Wg Gv work J l)=iz 137 55 l lL (pQ (ie (gN b len cap) n work Wg Gv) Gv n 0++[(49,.bool (decide ((0:Int)<n)))]) none none:=by kernel_rfl
theorem ri5:look [0,1,2,6,7,46,47,48] (FM b len cap n i Wg Gv work J l)=iz 137 55 l FG (pQ (ie (gN b len cap) n work Wg Gv) Gv n i) none none:=by kernel_rfl
theorem rl5:look [0,1,2,6,7,46,47,48,50] (FN b len cap n i Wg Gv work J l)=iz 137 55 l LX (LY (ie (gN b len cap) n work Wg Gv) Gv n i) none (some (214,.pointer (some ⟨Gv,i,none⟩))):=by kernel_rfl
theorem rcl:look [0,1,2,6,7,46,47,48,52] (FO b len cap n i Wg Gv ch work J l)=iz 137 55 l LZ (L0 (ie (gN b len cap) n work Wg Gv) Gv n i ch) none none:=by kernel_rfl
theorem Tp:(opAt (dF LZ (L0 (ie (gN b len cap) n work Wg Gv) Gv n i ch) J)).map (fun o=>(o.dst,o.op))=some (none,.call {callee:=.builtin .close,args:=#[.tmp 52],argTypes:=#[214]}):=by kernel_rfl
theorem akq:look [0,1,2,6,7,46,47,48,49] (Uf b len cap n i Wg Gv ch work J l)=iz 137 55 l lL (ie (gN b len cap) n work Wg Gv++[(46,rh Gv n),(47,iv n),(48,.int .i64 (ai.wrap (i+1))),(49,.bool (decide (ai.wrap (i+1)<n)))]) none none:=by kernel_rfl
theorem rc2:look [0,1,2,6,7] (L1 b len cap n i Wg Gv work J l)=iz 137 55 l FH (ie (gN b len cap) n work Wg Gv) (some (159,#[ptr Wg])) none:=by kernel_rfl
theorem aiV:gF PR 1 (dF FH (ie (gN b len cap) n work Wg Gv) J) l=(Frame.enter PR 159 #[ptr Wg] .normal,dF FH (ie (gN b len cap) n work Wg Gv) J::l):=by kernel_rfl
theorem aiW{j:Nat}:gF PR 1 (dF BJ (BK (ie (gN b len cap) n work Wg Gv) n j) J) l=(Frame.enter PR 157 #[ptr Wg,.int .i64 1] .normal,dF BJ (BK (ie (gN b len cap) n work Wg Gv) n j) J::l):=by kernel_rfl
theorem aiX{j:Nat}:(opAt (dF Ft (Fu (ie (gN b len cap) n work Wg Gv) Gv n j ch) J)).map (fun o=>o.op)=some (.indexAddr 213 (.tmp 20) (.tmp 21)):=by kernel_rfl
theorem aiY{j:Nat}:(opAt (dF BH (BI (ie (gN b len cap) n work Wg Gv) Gv n j ch) J)).map (fun o=>o.op)=some (.store 214 (.tmp 23) (.tmp 22)):=by kernel_rfl
theorem aiZ{j:Nat}:(opAt (dF Fv (Fw (ie (gN b len cap) n work Wg Gv) Gv n j) J)).map (fun o=>o.op)=some (.indexAddr 213 (.tmp 25) (.tmp 26)):=by kernel_rfl
theorem ai0:(opAt (dF BL (BM (ie (gN b len cap) n work Wg Gv) (gN b len cap) len i) J)).map (fun o=>o.op)=some (.indexAddr 25 (.tmp 31) (.tmp 33)):=by kernel_rfl
theorem akr:(opAt (dF sR (aR (ie (gN b len cap) n work Wg Gv) (gN b len cap) len i x n Gv) J)).map (fun o=>o.op)=some (.binOp .rem 3 (.tmp 39) (.tmp 40) 3):=by kernel_rfl
theorem ai1:(opAt (dF FE (FF (ie (gN b len cap) n work Wg Gv) (gN b len cap) len i x n Gv m) J)).map (fun o=>o.op)=some (.indexAddr 213 (.tmp 38) (.tmp 41)):=by kernel_rfl
theorem ai2:(opAt (dF FG (pQ (ie (gN b len cap) n work Wg Gv) Gv n i) J)).map (fun o=>o.op)=some (.indexAddr 213 (.tmp 46) (.tmp 48)):=by kernel_rfl
end
section
variable{main:Bool}{f:Frame}{cs:List Frame}{w w':World}
theorem sD{x:Op}(h:(opAt f).map (fun o=>o.op)=some x):∃o,opAt f=some o/\o.op=x:=by simp_all
theorem step_skip{o:Oper}(h:opAt f=some o)(hr:(execOp f.eval o).run P w=.ok .skip w'):stepG P main (G f cs) w=.go (G (f.finish undef) cs) w' (seen P f.fn ((execOp f.eval o).events P w #[])):=by
 obtain⟨ops,i,rest,k,e,H,hw,hk⟩:=tv h;have K:f.eval=Act.eval ⟨f.tmps,f.defers⟩:=by rw[e];exact Frame.eval_at' _ _ _
 have:=stepG_none (main:=main) (a:=⟨f.tmps,f.defers⟩) (k:=k) (cs:=cs) (rest:=rest) H hw hk (by exact hr);rw[<-e]at this;rw[this];have Y:f.finish undef=f.at (Act.put ⟨f.tmps,f.defers⟩ o.dst undef) (.inRegion ops rest::k):=by
  conv=>lhs;rw[e]
  rw[Frame.finish_at,H];rfl
 rw[<-Y];unfold listed;rw[<-K]
theorem AL{t:TypeId}{x:Operand}(h:(opAt f).map (fun o=>o.op)=some (.indexAddr t x y)){B o cap:Nat}(U:f.eval x=.slice (some ⟨B,o,none⟩) n cap)(F:f.eval y=.int .i64 (i:Int))(D:i<n)(R:PR.underlying t=some (.slice (PR.elem t)))(L:(PR.info? (PR.elem t)).map (·.size)=some 1):
  stepG PR main (G f cs) w=.go (G (f.finish (.pointer (some ⟨B,o+i,none⟩))) cs) w #[]:=by
 obtain⟨op,A,gC⟩:=sD h;have C:∃Y,PR.info? (PR.elem t)=some Y/\Y.size=1:=by simp_all
 obtain⟨Y,K,H⟩:=C;have hr:(execOp f.eval op).run PR w=.ok (.value (.pointer (some ⟨B,o+i,none⟩))) w:=by
  unfold execOp;simp only[gC,U,F];simp[aU,run_underlying R,asIntOf,D,sizeOf,typeInfo,K,H,Addr.add];try(intro e;subst e;rfl)
 have I:(execOp f.eval op).events PR w #[]=#[]:=by
  unfold execOp;simp only[gC,U,F];simp[aU,run_underlying R,asIntOf,D,sizeOf,typeInfo,K,Addr.add]
 rw[pj A hr,I,seen_none]
theorem ac1{x:Operand}(h:(opAt f).map (fun o=>o.op)=some (.binOp .rem 3 x y 3))(Y:f.eval x=.int .i64 i)(H:f.eval y=.int .i64 n)(U:0<n)(R:i<9223372036854775808):
  stepG PR main (G f cs) w=.go (G (f.finish (.int .i64 ((i%n:Nat)))) cs) w #[]:=by
 obtain⟨op,D,gC⟩:=sD h;have hr:(execOp f.eval op).run PR w=.ok (.value (.int .i64 ((i%n:Nat)))) w:=by
  unfold execOp;simp[gC,Y,H];simp[go_sem];rw[if_neg (by omega),Int.tmod_eq_emod_of_nonneg (by omega)]
 have K:(execOp f.eval op).events PR w #[]=#[]:=by
  unfold execOp;simp[gC,Y,H];simp[go_sem]
 rw[pj D hr,K,seen_none]
theorem step_mk{o:Oper}(H:opAt f=some o)(gC:o.op=.makeChan 214 (.const (.int .i64 0))):
  stepG PR main (G f cs) w=.go (G (f.finish (.chan (some w.heap.size))) cs) (w.alloc (.chan 0 #[] false 0 0 false)) #[]:=by
 have hr:(execOp f.eval o).run PR w=.ok (.value (.chan (some w.heap.size))) (w.alloc (.chan 0 #[] false 0 0 false)):=by
  unfold execOp;simp only[gC];rfl
 have Y:(execOp f.eval o).events PR w #[]=#[]:=by
  unfold execOp;simp[gC];rfl
 rw[pj H hr,Y,seen_none]
theorem IK{x:Operand}(h:(opAt f).map (fun o=>o.op)=some (.store 214 x y)){B:Nat}{v:Option Nat}{row:Array Value}{t:TypeId}(U:f.eval x=.pointer (some ⟨B,i,none⟩))(F:f.eval y=.chan v)(hB:w.heap[B]?=some (.cells row t))(L:i<row.size)(M:(PR.funcs[f.fn]?).any (·.norace)=false):
  stepG PR main (G f cs) w=.go (G (f.finish undef) cs) (w.setCell ⟨B,i,none⟩ (.chan v)) #[⟨.cell ⟨B,i,none⟩,true,false⟩]:=by
 obtain⟨op,C,gC⟩:=sD h;have D:w.cell? ⟨B,i,none⟩=some row[i]:=by simp[World.cell?,hB,L]
 have I:w.frozen? ⟨B,i,none⟩=false:=by simp[World.frozen?,hB]
 have R:(PR.info? 214).map (·.size)=some 1:=by kernel_rfl
 have R:∃Y,PR.info? 214=some Y/\Y.size=1:=by simp_all
 obtain⟨Y,K,H⟩:=R;have hr:(execOp f.eval op).run PR w=.ok .skip (w.setCell ⟨B,i,none⟩ (.chan v)):=by
  unfold execOp;simp only[gC,U,F];simp[go_sem,sizeOf,typeInfo,K,H,D,I]
 have A:(execOp f.eval op).events PR w #[]=#[⟨.cell ⟨B,i,none⟩,true,false⟩]:=by
  unfold execOp;simp only[gC,U,F];simp[go_sem,sizeOf,typeInfo,K,H,D,I]
 rw[step_skip C hr,A,seen_def,M];simp[seenStep]
theorem afc{x:Operand}(h:(opAt f).map (fun o=>(o.dst,o.op))=some (none,.call {callee:=.builtin .close,args:=#[x],argTypes:=#[214]})){c s:Nat}(R:f.eval x=.chan (some c))(Y:w.heap[c]?=some (.chan 0 #[] false s s false))(D:(PR.funcs[f.fn]?).any (·.norace)=false):
  stepG PR main (G f cs) w=.go (G (f.finish unit) cs) (w.setChan c 0 #[] true s s false) (closeEvents c):=by
 obtain⟨op,H,gC⟩:∃o,opAt f=some o/\o.op=.call _:=by
  cases e:opAt f with
  |none=>rw[e]at h;cases h
  |some o=>rw[e]at h;exact⟨o,rfl,congrArg Prod.snd (Option.some.inj h)⟩
 refine conv H fun ops i rest k K hw hk=>?_
 exact stepG_close K hw hk gC (by exact R) Y D
theorem ac2{x:Operand}(h:(opAt f).map (fun o=>(o.dst,o.op))=some (none,.call {callee:=.builtin .close,args:=#[x],argTypes:=#[214]})):mayWake PR (G f cs)=true:=by
 obtain⟨op,D,gC⟩:∃o,opAt f=some o/\o.op=.call _:=by
  cases e:opAt f with
  |none=>rw[e]at h;cases h
  |some o=>rw[e]at h;exact⟨o,rfl,congrArg Prod.snd (Option.some.inj h)⟩
 obtain⟨ops,i,rest,k,Y,K,hw,hk⟩:=tv D;have H:f.mode=.run:=by rw[Y];rfl
 have R:f.todo=.inRegion ops (i::rest)::k:=by rw[Y];rfl
 unfold mayWake;simp[G,H,R,K,Option.map_some,gC]
theorem wZ{u:Nat}{a b:Code}{k:List _}{t:Bool}(Y:f.mode=.run)(hr:f.roundOf=none)(hk:f.kind≠.early)(D:f.todo=.code (.cond (.tmp u) a b)::k)(H:f.tmps.getD u undef=.bool t):stepG P main (G f cs) w=.go (G {f with todo:=.code (if t then a else b)::k} cs) w #[]:=by
 refine OI hr hk Y ?_;have K:f.eval (.tmp u)=.bool t:=H;unfold prun;simp_all
end
def IV (ch Wg:Nat) (work:Value):={(default:Frame)with fn:=PR.funcs.size,defers:=[dcall 158 #[.chan (some ch),work,ptr Wg]],mode:=.panicking [goexitEntry]}
theorem born{ch:Nat}:stepG PR false (G (IV ch Wg work) []) w=.go (G (Frame.enter PR 158 #[.chan (some ch),work,ptr Wg] .deferred) [bot]) w #[]:=by kernel_rfl
def L2 (ch Wg:Nat) (work:Value):=gF PR 60 (Frame.enter PR 158 #[.chan (some ch),work,ptr Wg] .deferred) [bot]
def A7:=(L2 0 0 undef).1.todo
def L3(Wg:Nat)(site:List Item)(s:Nat->Option Value)(j:Nat->Value):Frame:={fn:=158,tmps:=TN 15 s j,todo:=site,defers:=[dcall 181 #[ptr Wg]],mode:=.run,kind:=.deferred}
def BN(ch Wg:Nat)(work:Value):=[(0,.chan (some ch)),(1,work),(2,ptr Wg),(8,.chan (some ch))]
structure FP(Wg:Nat)(site:List Item)(s:Nat->Option Value)(f:Frame):Prop where
 fn:f.fn=158
 todo:f.todo=site
 defers:f.defers=[dcall 181 #[ptr Wg]]
 mode:f.mode=.run
 kind:f.kind=.deferred
 round:f.roundOf=none
 size:f.tmps.size=15
 slot:∀i v,s i=some v->f.tmps.getD i undef=v
theorem FP.eq{site:List _}{s:Nat->Option _}(h:FP Wg site s f):f=L3 Wg site s (fun i=>f.tmps.getD i undef):=by
 obtain⟨fn,tmps,todo,defers,mode,kind,ro⟩:=f;obtain⟨D,R,I,A,U,B,K,H⟩:=h;congr 1;apply Array.ext
 ·simp[TN,K]
 ·intro i Y _;simp[TN,List.getElem_toArray,List.getElem_map,List.getElem_range];cases e:s i with
  |none=>simp[aD Y]
  |some v=>
   rw[<-H i v e];simp[aD Y]
def Eo(ks:List Nat)(r:Frame×List _):=(look ks r,Sn r.1)
def Ep(Wg:Nat)(l:List Frame)(site:List Item)(al:List (Nat×Value)):rQ×Option (TypeId×Value×Bool):=(⟨l,158,site,[dcall 181 #[ptr Wg]],.run,.deferred,none,15,al.map (·.2),none,none⟩,some (232,(al.map (·.2)).headD undef,true))
theorem Sz{r:Frame×List _}{l:List _}{site:List _}{al:List _}(h:Eo ks r=Ep Wg l site al)(hk:al.map (·.1)=ks):r.2=l/\FP Wg site (sA al) r.1/\Sn r.1=some (232,(al.map (·.2)).headD undef,true):=by
 subst hk;simp only[Eo,look,Ep,a_,rQ.mk.injEq,List.map_map]at h;obtain⟨⟨K,R,I,A,U,B,C,F,J,H,D⟩,Y⟩:=h;exact⟨K,⟨R,I,A,U,B,C,F,HD J⟩,Y⟩
def j_(By Rf Sg Fp:Nat):Value:=.func (.func 138) #[] #[.pointer (some ⟨By,0,none⟩),.pointer (some ⟨Rf,0,none⟩),.pointer (some ⟨Sg,0,none⟩),.pointer (some ⟨Fp,0,none⟩)]
def WG (ch Wg:Nat) (work:Value) (v:Value) (b:Bool) (j:Nat->Value):=gF PR 60 ((L3 Wg A7 (sA (BN ch Wg work)) j).finish (.tuple #[v,.bool b])) [bot]
section
variable{ch Wg By Rf Sg Fp:Nat}{work:Value}{x:Int}{v:Value}{j:Nat->Value}
theorem wa0:Eo [0,1,2,8] (L2 ch Wg work)=Ep Wg [bot] A7 (BN ch Wg work):=by kernel_rfl
theorem abm:WG ch Wg work v false j=zL Wg (kO ((WG ch Wg work v false j).2.getD 1 bot).tmps ((WG ch Wg work v false j).2.getD 1 bot).todo) [bot]:=by kernel_rfl
end
def FQ:Value:=.int .i64 0
section
variable{ch Wg:Nat}{work:Value}{j:Nat->Value}
theorem afd:sX PR (L3 Wg A7 (sA (BN ch Wg work)) j)=some (.comm #[rcase ch FQ] true (.recv true)):=by kernel_rfl
end
namespace Env
structure zq(E:Env)(RO S X:Nat->Prop):Prop where
 ro:∀a,RO a->S a
 mp:¬S E.Mp
 mpx:¬X E.Mp
 fd:RO E.Fd
 wg:RO E.Wg
 mS:∀a,RO a->¬X a
structure xu(E:Env)(RO:Nat->Prop)(Fx:World->Prop):Prop where
 rely:∀S w w2,(∀a,RO a->S a)->Fx w->gK E.U S w w2->Fx w2
 fd:∀w,Fx w->E.vk w
 wg:∀w,Fx w->E.pA w
variable(E:Env)(ch:Nat)(ok:Nat->Prop)(work:Value)(RO:Nat->Prop)(Fx:World->Prop)
def AtRecv(S X:Nat->Prop)(g:Goroutine)(w:World):=∃f,g=G f [bot]/\FP E.Wg A7 (sA (BN ch E.Wg work)) f/\E.zq RO S X/\Fx w
def HJ:Prop:=∀(k x:Nat) (S X:Nat->Prop) (j:Nat->Value) (w:World),ok x->E.zq RO S X->Fx w->E.Tree PR false (E.je PR (AtRecv E ch work RO Fx) k (.ld x)) S X (G (WG ch E.Wg work (.int .i64 (x:Int)) true j).1 (WG ch E.Wg work (.int .i64 (x:Int)) true j).2) w
variable{E ch ok work RO Fx}{S X:Nat->Prop}{g:Goroutine}{w w2:World}
theorem Yz(h:AtRecv E ch work RO Fx S X g w):g.status=.running/\g.offers=none:=by
 obtain⟨f,rfl,_⟩:=h;exact⟨rfl,rfl⟩
theorem abn(h:AtRecv E ch work RO Fx S X g w):stepG PR false g w2=.comm g #[rcase ch FQ] true (.recv true) w2 #[]:=by
 obtain⟨f,rfl,Y,_⟩:=h;rw[Y.eq];exact Po afd
theorem YA(K:E.xu RO Fx)(D:HJ E ch ok work RO Fx)(h:AtRecv E ch work RO Fx S X g w)(hr:gK E.U S w w2){x:Nat}(F:ok x)(k:Nat):E.Tree PR false (E.je PR (AtRecv E ch work RO Fx) k (.ld x)) S X (Go.Conc.served g (recvd true (.int .i64 x) true)) w2:=by
 obtain⟨f,rfl,R,Y,hF⟩:=h;rw[R.eq];refine Tz.pure 60 fun w3 H=>?_;exact D k x S X _ w3 F Y (K.rely S _ _ Y.ro (K.rely S _ _ Y.ro hF hr) H)
theorem YB(K:E.xu RO Fx)(h:AtRecv E ch work RO Fx S X g w)(hr:gK E.U S w w2)(v:Value)(k:Nat):E.Tree PR false (E.je PR (AtRecv E ch work RO Fx) k .wr) S X (Go.Conc.served g (recvd true v false)) w2:=by
 obtain⟨f,rfl,D,Y,hF⟩:=h;rw[D.eq];refine Tz.pure 60 fun w3 H=>?_;have e:=abm (ch:=ch) (Wg:=E.Wg) (work:=work) (v:=v) (j:=fun i=>f.tmps.getD i undef);change E.Tree PR _ _ S X (G (WG ch _ _ v _ _).1 (WG ch _ _ v _ _).2) w3;rw[e];exact ae_ (Y.ro _ Y.wg) k (K.wg _ (K.rely S _ _ Y.ro (K.rely S _ _ Y.ro hF hr) H))
theorem afe(K:E.xu RO Fx)(Y:E.zq RO S X)(hF:Fx w):E.Tree PR false (AtRecv E ch work RO Fx) S X (G (IV ch E.Wg work) []) w:=by
 refine Tz.one rfl fun w2 hr=>⟨_,w2,#[],S,X,Ph.born,jc S X w2,Tz.pure 60 fun w3 H=>?_⟩;obtain⟨D,R,_⟩:=Sz (wa0) rfl;change E.Tree PR _ _ S X (G _ (L2 ch _ _).2) w3;rw[D];exact .stop ⟨_,rfl,R,Y,K.rely S _ _ Y.ro (K.rely S _ _ Y.ro hF hr) H⟩
end Env
end Ph
namespace Ph
open Conc Ren
open Lock (Word PC Mv bn)
def cout(fn:FuncId)(tmps:Array Value)(todo:List Item)(kind:CallKind)(ro:Option Nat):Frame:=⟨fn,tmps,todo,[],.returning,kind,ro⟩
section
variable(Fd:Nat)(c:Frame)(cs:List Frame)(v:Value)
def BO:Frame×List Frame:=gF PR 60 (Frame.enter PR 161 #[ptr Fd] .deferred) (c::cs)
def L4:Frame×List Frame:=gF PR 60 ((BO Fd c cs).1.finish v) (BO Fd c cs).2
def L5:Frame×List Frame:=gF PR 60 ((L4 Fd c cs v).1.finish (ptr Fd)) (L4 Fd c cs v).2
def L6:Frame×List Frame:=gF PR 60 ((L5 Fd c cs v).1.finish unit) (L5 Fd c cs v).2
def zP:Frame×List Frame:=gF PR 60 ((L6 Fd c cs v).1.finish unit) (L6 Fd c cs v).2
def x9 (z:Int):Frame×List Frame:=gF PR 300 ((zP Fd c cs v).1.finish (.int .i32 z)) (zP Fd c cs v).2
def ahj(f:Frame):Frame:=match f.todo with
 |.code (.cond _ a _)::k=>{f with todo:=.code a::k}
 |_=>f
def UY (z:Int):Frame×List Frame:=uf PR 16 300 ((zP Fd c cs v).1.finish (.int .i32 z)) (zP Fd c cs v).2
def UB (z:Int):List Frame:=(gF PR 4 (ahj (UY Fd c cs v z).1) (UY Fd c cs v z).2).2
end
def outs:List Nat:=(List.range 72).filter fun i=>i%2==0&&i/4%2==0&&(i/8==0||i/2%2==1)
def L7:List Nat:=(List.range 72).filter fun i=>i%2==0&&i/4%2==0&&!(i/8==0||i/2%2==1)
def L8:List Nat:=(List.range 72).filter fun i=>i%2==0&&i/4%2==1
section
variable{Fd:Nat}{fn:FuncId}{tmps:Array Value}{todo:List Item}{kind:CallKind}{ro:Option Nat}{cs:List Frame}{v:Value}{z:Int}{c:Frame}
theorem ua0:qK (BO Fd c cs).1=some (21,ptr Fd):=by kernel_rfl
theorem ua1:qL (L4 Fd c cs v).1=some (253,159,ptr Fd):=by kernel_rfl
theorem ua2:ahead (L5 Fd c cs v).1=some (168,#[ptr Fd]):=by kernel_rfl
theorem ua3:ahead (L6 Fd c cs v).1=some (169,#[]):=by kernel_rfl
theorem ua4:ahead (zP Fd c cs v).1=some (206,#[ptr Fd,.int .i32 (-1)]):=by kernel_rfl
theorem aks:(PR.funcs[188]?).any (·.norace)=true:=by kernel_rfl
theorem ai3:(BO Fd c cs).1.fn=188:=by kernel_rfl
theorem aff:(outs.map fun i:Nat=>ahead (x9 Fd c cs v (i:Int)).1)=outs.map fun i:Nat=>some (170,#[]):=by kernel_rfl
theorem ac3:(outs.map fun i:Nat=>gF PR 6 ((x9 Fd (cout fn tmps todo kind ro) cs v (i:Int)).1.finish unit) (x9 Fd (cout fn tmps todo kind ro) cs v (i:Int)).2)=outs.map fun i:Nat=>(cout fn tmps todo kind ro,cs):=by kernel_rfl
end
def L9(Fd:Nat)(old:Int):List (Nat×Value):=[(0,ptr Fd),(4,.int .i32 old)]
def vI(Fd:Nat):List (Nat×Value):=[(0,ptr Fd)]
def Js:List Item:=(x9 0 (cout 0 #[] [] .normal none) [] undef 8).1.todo
def Jt:List Item:=(x9 0 (cout 0 #[] [] .normal none) [] undef 12).1.todo
def y5 (Fd:Nat) (old:Int) (b:Bool) (j:Nat->Value) (l:List Frame):Frame×List Frame:=gF PR 300 ((kR 207 43 Js (sA (L9 Fd old)) j).finish (.bool b)) l
def Ju:List Item:=(y5 0 8 true jz []).1.todo
def SA:List Item:=(y5 0 8 false jz []).1.todo
def DY (Fd:Nat) (old:Int) (j:Nat->Value) (l:List Frame):Frame×List Frame:=gF PR 300 ((kR 207 43 SA (sA (vI Fd)) j).finish (.int .i32 old)) l
def Jv (Fd:Nat) (j:Nat->Value) (l:List Frame):Frame×List Frame:=gF PR 300 ((kR 207 43 Ju (sA (vI Fd)) j).finish unit) l
def Jw (Fd:Nat) (j:Nat->Value) (l:List Frame):Frame×List Frame:=gF PR 300 ((kR 207 43 Jt (sA (vI Fd)) j).finish unit) l
def Jx:List Nat:=(List.range 72).filter fun i=>i%8==0&&!(i/8==0)
def AV:List Nat:=(List.range 72).filter fun i=>!(i%8==0&&!(i/8==0))
def toUC (l:List Frame) (Fd:Nat) (i:Nat):rQ:=iz 207 43 l Js (L9 Fd (i:Int)) (some (204,#[ptr Fd,.int .i32 (i:Int),.int .i32 (val {wd i with W:=i/8-1,K:=true})])) none
section
variable{Fd:Nat}{fn:FuncId}{tmps:Array Value}{todo:List Item}{kind:CallKind}{ro:Option Nat}{cs l:List Frame}{v:Value}{z old:Int}{c:Frame}{j:Nat->Value}
theorem afg:(L7.map fun i:Nat=>look [0,4] (x9 Fd c cs v (i:Int)))=L7.map fun i:Nat=>toUC (UB Fd c cs v (i:Int)) Fd i:=by kernel_rfl
theorem afh:(L8.map fun i:Nat=>look [0] (x9 Fd c cs v (i:Int)))=L8.map fun i:Nat=>iz 207 43 (UB Fd c cs v (i:Int)) Jt (vI Fd) (some (220,#[.pointer (some ⟨Fd,1,none⟩),.bool true,.int .i64 2])) none:=by kernel_rfl
theorem ac4:look [0] (y5 Fd old true j l)=iz 207 43 l Ju (vI Fd) (some (220,#[.pointer (some ⟨Fd,1,none⟩),.bool false,.int .i64 2])) none:=by kernel_rfl
theorem ac5:look [0] (y5 Fd old false j l)=iz 207 43 l SA (vI Fd) none (some (21,ptr Fd)):=by kernel_rfl
theorem ZM:(Jx.map fun i:Nat=>look [0,4] (DY Fd (i:Int) j l))=Jx.map (toUC l Fd):=by kernel_rfl
theorem ZN:(AV.map fun i:Nat=>ahead (DY Fd (i:Int) j (UB Fd c cs v z)).1)=AV.map fun i:Nat=>some (170,#[]):=by kernel_rfl
theorem ZO:(AV.map fun i:Nat=>gF PR 6 ((DY Fd (i:Int) j (UB Fd (cout fn tmps todo kind ro) cs v z)).1.finish unit) (DY Fd (i:Int) j (UB Fd (cout fn tmps todo kind ro) cs v z)).2)=AV.map fun i:Nat=>(cout fn tmps todo kind ro,cs):=by kernel_rfl
theorem ai4:ahead (Jv Fd j (UB Fd c cs v z)).1=some (170,#[]):=by kernel_rfl
theorem ahk:gF PR 6 ((Jv Fd j (UB Fd (cout fn tmps todo kind ro) cs v z)).1.finish unit) (Jv Fd j (UB Fd (cout fn tmps todo kind ro) cs v z)).2=(cout fn tmps todo kind ro,cs):=by kernel_rfl
theorem ai5:ahead (Jw Fd j (UB Fd c cs v z)).1=some (170,#[]):=by kernel_rfl
theorem ahl:gF PR 6 ((Jw Fd j (UB Fd (cout fn tmps todo kind ro) cs v z)).1.finish unit) (Jw Fd j (UB Fd (cout fn tmps todo kind ro) cs v z)).2=(cout fn tmps todo kind ro,cs):=by kernel_rfl
theorem akt:(PR.funcs[207]?).any (·.norace)=true:=by kernel_rfl
end
end Ph
namespace Ph
open Conc Ren
noncomputable def tV:List Item:=match Tryz.f138.body with
 |some (.seq _ (.seq _ Y))=>[.code Y]
 |_=>[]
noncomputable def Kc:List Item:=match Tryz.f140.body with
 |some (.seq _ (.seq _ (.seq _ bl)))=>[.code bl]
 |_=>[]
def EJ(Fp:Nat)(sl:Value):=[(4,ptr Fp),(6,sl)]
def BP (Fp:Nat) (sl:Value) (j:Nat->Value) (l:List _):=gF PR 60 (kR 138 39 tV (sA (EJ Fp sl)) j) l
def BQ (Fp Fd:Nat) (sl:Value) (j:Nat->Value) (l:List _):=gF PR 8 ((BP Fp sl j l).1.finish (ptr Fd)) (BP Fp sl j l).2
def Ug (Fp Fd:Nat) (sl:Value) (j:Nat->Value) (l:List _):=(BQ Fp Fd sl j l).2.headD bot
def FT (Fp Fd:Nat) (sl:Value) (j:Nat->Value) (l:List _):=(BQ Fp Fd sl j l).2.tail
def FU (Fp Fd:Nat) (a:Option _) (n cap:Nat) (j:Nat->Value) (l:List _):=gF PR 14 ((Ug Fp Fd (.slice a n cap) j l).finish unit) (FT Fp Fd (.slice a n cap) j l)
section
variable{Fp Fd n cap ch Wg By Rf Sg:Nat}{sl work v:Value}{a:Option Addr}{j j2:Nat->Value}{l:List Frame}{T:Array Value}{x:Int}
theorem BE:qK (BP Fp sl j l).1=some (182,ptr Fp):=by kernel_rfl
theorem ai6:(BP Fp sl j l).1.fn=138:=by kernel_rfl
theorem cl1:BQ Fp Fd sl j l=(Frame.enter PR 160 #[ptr Fd] .normal,Ug Fp Fd sl j l::FT Fp Fd sl j l):=by kernel_rfl
theorem cl2:look [0,1,15,16,17] (FU Fp Fd a n cap j l)=⟨FT Fp Fd (.slice a n cap) j l,140,Kc,[dcall 161 #[ptr Fd]],.run,.normal,none,48,[ptr Fd,.slice a n cap,.slice a n cap,.int .i64 n,.int .i64 0],none,none⟩:=by kernel_rfl
def zQ (ch Wg:Nat) (work v:Value) (j:Nat->Value):=(WG ch Wg work v true j).2.headD bot
def UZ (Fp Fd:Nat) (sl:Value) (j j2:Nat->Value) (T:Array _) (ch Wg:Nat) (work v:Value):=gF PR 60 (cout 140 T [] .normal none) (FT Fp Fd sl j [zQ ch Wg work v j2,bot])
theorem cl3:Eo [0,1,2,8] (UZ Fp Fd sl j j2 T ch Wg (j_ By Rf Sg Fp) (.int .i64 x))=Ep Wg [bot] A7 (BN ch Wg (j_ By Rf Sg Fp)):=by kernel_rfl
theorem ZP:(WG ch Wg (j_ By Rf Sg Fp) (.int .i64 x) true j).2=[zQ ch Wg (j_ By Rf Sg Fp) (.int .i64 x) j,bot]:=by kernel_rfl
def KG(Fd:Nat)(T:Array Value):Frame:=⟨140,T,[],[dcall 161 #[ptr Fd]],.run,.normal,none⟩
theorem cl4:gF PR 2 (KG Fd T) l=(Frame.enter PR 161 #[ptr Fd] .deferred,cout 140 T [] .normal none::l):=by kernel_rfl
theorem aku:(PR.funcs[138]?).any (·.norace)=false:=by kernel_rfl
theorem SB:ko PR (isAgg 182)=some false:=by kernel_rfl
end
end Ph
namespace Ph
open Conc Ren
open Lock (Word PC Mv bn low dec)
theorem ac6(m:Word):(nv m%8==0&&!(nv m/8==0))=!(decide (m.W=0\/m.L=true\/m.K=true\/m.S=true)):=by
 have h:nv m%8=bn m.L+2 *bn m.K+4 *bn m.S:=by
  have:=Lock.rK m.L;have:=Lock.rK m.K;have:=Lock.rK m.S;unfold nv;omega
 rw[sN,h];by_cases Y:m.W=0<;>cases m.L<;>cases m.K<;>cases m.S<;>simp[bn,Y]
namespace Env
theorem zr{E:Env}{D:(Nat->Prop)->(Nat->Prop)->Goroutine->World->Prop}{site:List _}{al:List _}{l:List _}(Y:kJ fn n site (sA al) f)(k:∀j w3,gK E.U S w w3->E.Tree PR false D S X (G (gF PR 300 ((kR fn n site (sA al) j).finish v) l).1 (gF PR 300 ((kR fn n site (sA al) j).finish v) l).2) w3):E.Tree PR false D S X (G (f.finish v) l) w:=by
 rw[Y.eq];exact Tz.pure 300 fun w3 hr=>k _ w3 hr
section
variable{E:Env}{A:(Nat->Prop)->(Nat->Prop)->Goroutine->World->Prop}{S X:Nat->Prop}{Fx:World->Prop}{fn:FuncId}{tmps:Array Value}{todo:List Item}{kind:CallKind}{ro:Option Nat}{cs:List Frame}
def Out(E:Env)(A:(Nat->Prop)->(Nat->Prop)->Goroutine->World->Prop)(S X:Nat->Prop)(Fx:World->Prop)(c:Frame)(cs:List _):=∀k w,Fx w->E.Tree PR false (E.je PR A k .recv) S X (G c cs) w
variable(K:E.Kn S Fx)(hT:Out E A S X Fx (cout fn tmps todo kind ro) cs)
include K hT
theorem Er{l:List _}(h:ahead f=some (170,#[]))(H:gF PR 6 (f.finish unit) l=(cout fn tmps todo kind ro,cs))(k:Nat)(hF:Fx w):E.Tree PR false (E.je PR A k .ue) S X (G f l) w:=by
 refine .stop ?_;cases k with
 |zero=>trivial
 |succ k=>
  refine⟨rfl,rfl,fun w2 hr=>⟨G (f.finish unit) l,r_ (by simp) xM h,Tz.pure 6 fun w3 Y=>?_⟩⟩;rw[H];exact hT k w3 (K.rely (K.rely hF hr) Y)
omit K hT in
theorem wrap_u32(h:cc<=1):IntKind.u32.wrap (cc+1)=((cc+1:Nat)):=by
 have:cc=0\/cc=1:=by omega
 rcases this with rfl|rfl<;>rfl
theorem ai7{r:Frame×List _}(h:Dn 207 43 (UB E.Fd (cout fn tmps todo kind ro) cs v z) Ju (vI E.Fd) (some (220,#[.pointer (some E.ms),.bool false,.int .i64 2])) none r)(k:Nat)(hF:Fx w):E.Tree PR false (E.je PR A k (.un .us)) S X (G r.1 r.2) w:=by
 refine .stop ?_;cases k with
 |zero=>trivial
 |succ k=>
  refine⟨rfl,rfl,fun w2 m D hr Y U R B I=>.inr ?_⟩;have gq:=Gt (main:=false) (cs:=r.2) EI h.call rfl Y.rM (Y.thaw 1);rw[wrap_u32 I]at gq;refine⟨_,m,D+1,_,_,_,Mv.us m D,gq,Y.qX _,Eff.set _ _ _ _,EvA.zJ _ _ (by omega),fun _=>HA EI h.call,?_⟩;refine zr h.fr fun j w3 H=>?_;rw[h.callers];exact Er K hT ai4 ahk k (K.rely (K.lI (K.rely hF hr) Y (Eff.set _ _ _ _) (Y.qX _)) H)
theorem ai8{r:Frame×List _}(h:Dn 207 43 (UB E.Fd (cout fn tmps todo kind ro) cs v z) Jt (vI E.Fd) (some (220,#[.pointer (some E.ms),.bool true,.int .i64 2])) none r)(k:Nat)(hF:Fx w):E.Tree PR false (E.je PR A k (.un .uh)) S X (G r.1 r.2) w:=by
 refine .stop ?_;cases k with
 |zero=>trivial
 |succ k=>
  refine⟨rfl,rfl,fun w2 m D hr Y U R B I=>.inr ?_⟩;have gq:=Gt (main:=false) (cs:=r.2) EI h.call rfl Y.rM (Y.thaw 1);rw[wrap_u32 I]at gq;refine⟨_,m,D+1,_,_,_,Mv.uh m D,gq,Y.qX _,Eff.set _ _ _ _,EvA.zJ _ _ (by omega),fun _=>HA EI h.call,?_⟩;refine zr h.fr fun j w3 H=>?_;rw[h.callers];exact Er K hT ai5 ahl k (K.rely (K.lI (K.rely hF hr) Y (Eff.set _ _ _ _) (Y.qX _)) H)
theorem ai9:∀k {v:Value} {z:Int} {old:Word} {r:Frame×List _} {w:World},Dn 207 43 (UB E.Fd (cout fn tmps todo kind ro) cs v z) Js (L9 E.Fd (nv old)) (some (204,#[ptr E.Fd,.int .i32 (nv old),.int .i32 (val {old with W:=old.W-1,K:=true})])) none r->Fx w->E.Tree PR false (E.je PR A k (.un (.uc old))) S X (G r.1 r.2) w:=by
 intro k;induction k using au with
 |_ k f=>
 intro v z old r w h hF;refine .stop ?_;cases k with
 |zero=>trivial
 |succ k=>
  refine⟨rfl,rfl,fun w2 m N hr R d Z o p=>.inr ?_⟩;by_cases O:m=old
  ·subst O;refine⟨_,_,N,G _ r.2,_,_,Mv.Bx m N,Ai vo h.call R.cell0 (R.thaw 0),R.ni _,Eff.set _ _ _ _,EvA.two _ _ (by omega),fun J=>by omega,zr h.fr fun j w3 I=>?_⟩;rw[h.callers];have D:=jV (ac4 (Fd:=E.Fd) (old:=(nv m)) (j:=j) (l:=UB E.Fd (cout fn tmps todo kind ro) cs v z)) rfl;exact ai7 K hT D k (K.rely (K.lI (K.rely hF hr) R (Eff.set _ _ _ _) (R.ni _)) I)
  ·refine⟨_,_,N,G _ r.2,_,_,Mv.Bz m old N O,Ah vo h.call R.cell0 (R.thaw 0) (fun e=>O (val_inj e)),R,Eff.refl _ _,EvA.one _ _ _ (by omega),fun J=>by omega,zr h.fr fun j w3 I=>?_⟩;rw[h.callers];have D:=jV (ac5 (Fd:=E.Fd) (old:=(nv old)) (j:=j) (l:=UB E.Fd (cout fn tmps todo kind ro) cs v z)) rfl;have B:=K.rely (K.rely hF hr) I;change E.Tree PR _ _ S X (G (y5 _ _ _ j _).1 (y5 _ _ _ j _).2) w3;refine .stop ?_;cases k with
   |zero=>trivial
   |succ k=>
    refine⟨rfl,rfl,fun w4 H c4 M C V P F c=>.inr ?_⟩;refine⟨_,H,c4,_,w4,#[],Mv.ur H c4,Cx D.load El C.cell0 (by rw[D.fr.fn];exact akt),C,Eff.refl _ _,EvA.nil _,fun J=>by omega,?_⟩;have T:=ac6 H;by_cases hd:H.W=0\/H.L=true\/H.K=true\/H.S=true
    ·have e:dec H=.out:=if_pos hd;rw[e];refine zr D.fr fun q g U=>?_;rw[D.callers];have Y:nv H∈AV:=oK F (by rw[T];simp[hd]);exact Er K hT (jb ZN Y) (jb ZO Y) k (K.rely (K.rely B M) U)
    ·have e:dec H=.uc H:=if_neg hd;rw[e];refine zr D.fr fun q g U=>?_;rw[D.callers];have Y:nv H∈Jx:=oK F (by rw[T];simp[hd]);have Q:=jV (jb (ZM (Fd:=E.Fd) (j:=q) (l:=UB E.Fd (cout fn tmps todo kind ro) cs v z)) Y) rfl;rw[zj,sN]at Q;exact f k (by omega) Q (K.rely (K.rely B M) U)
end
section
variable{E:Env}{A:(Nat->Prop)->(Nat->Prop)->Goroutine->World->Prop}{S X:Nat->Prop}{Fx:World->Prop}{fn:FuncId}{tmps:Array Value}{todo:List Item}{kind:CallKind}{ro:Option Nat}{cs:List Frame}
theorem afi{m:Word}(h:m.L=true)(R:m.W<=8):ax.wrap (val m+ -1)=val (low m):=by
 have H:=Lock.rK m.K;have D:=Lock.rK m.S;have Y:bn true=1:=rfl;have b0:bn false=0:=rfl;unfold val low;simp only[h,Y];have e:((1+2 *bn m.K+4 *bn m.S+8 *m.W:Nat))+ -1=((0+2 *bn m.K+4 *bn m.S+8 *m.W:Nat):Int):=by omega
 rw[e];exact wrap_small (by omega)
theorem abo(I:∀i,¬E.U E.Mp i)(d:S E.Mp)(K:E.Kn (fun a=>S a/\a≠E.Mp) Fx)(hT:Out E A (fun a=>S a/\a≠E.Mp) (fun a=>X a/\a≠E.Mp) Fx (cout fn tmps todo kind ro) cs){γ:E.Γ}(k:Nat)(hF:Fx w)(hm:E.mr γ (w.heap[E.Mp]?)):
  E.Tree PR false (E.je PR A k (.ur γ)) S X (G (Frame.enter PR 161 #[ptr E.Fd] .deferred) (cout fn tmps todo kind ro::cs)) w:=by
 have mp:∀{w w2:World},gK E.U S w w2->E.mr γ (w.heap[E.Mp]?)->E.mr γ (w2.heap[E.Mp]?):=by
  intro w w2 hr h;rw[(hr.kept _ d).eq fun i hu=>I i hu];exact h
 have R:∀{w w2:World},Fx w->gK E.U S w w2->Fx w2:=fun h hr=>K.rely h (Pp (fun a b=>b.1) hr);refine Tz.pure 60 fun w1 M=>?_;change E.Tree PR _ _ S X (G (BO _ _ cs).1 _) w1;refine Tz.one rfl fun w2 N=>?_;have B:=R (R hF M) N;have j:=mp N (mp M hm);obtain⟨v,hv⟩:=(K.fd B).cell0;refine⟨_,w2,#[],S,X,Cx ua0 El hv (by rw[ai3];exact aks),jc S X w2,Tz.pure 60 fun w3 O=>?_⟩;refine Tz.one rfl fun w4 P=>?_;have C:=R (R B O) P;have z:=mp P (mp O j);obtain⟨v4,s⟩:=(K.fd C).cell0;refine⟨_,w4,#[],S,X,uI ua1 u253 u159 i187 s,jc S X w4,Tz.pure 60 fun w5 Q=>?_⟩;have Z:=R C Q;have f:=mp Q z;refine .stop ?_;cases k with
 |zero=>trivial
 |succ k=>
  refine⟨rfl,rfl,fun w6 T=>⟨mp T f,G _ _,yn (by simp) T2 ua2,Tz.pure 60 fun w7 g=>?_⟩⟩;have q:=K.rely (R Z T) g;refine .stop ?_;cases k with
  |zero=>trivial
  |succ k=>
   refine⟨rfl,rfl,fun w8 l=>⟨G _ _,r_ (by simp) Bj ua3,Tz.pure 60 fun w9 o=>?_⟩⟩;refine .stop ?_;cases k with
   |zero=>trivial
   |succ k=>
    refine⟨rfl,rfl,fun wA m x p F FV L n hc=>.inr ?_⟩;have gq:=C4 (main:=false) (cs:=(zP E.Fd (cout fn tmps todo kind ro) cs v).2) T3 (ua4 (c:=cout fn tmps todo kind ro) (cs:=cs) (v:=v)) F.cell0 (F.thaw 0);rw[afi L n]at gq;refine⟨_,_,x,_,_,_,Mv.u0 m x,gq,F.ni _,Eff.set _ _ _ _,EvA.two _ _ (by omega),fun t=>by omega,Tz.pure 300 fun wB r=>?_⟩;have H:=K.rely (K.lI (K.rely (K.rely (K.rely q l) o) p) F (Eff.set _ _ _ _) (F.ni _)) r;have u:=n;have l2:(nv (low m)%2==0)=true:=by rw[qJ,xK];rfl
    cases D:m.S with
    |true=>
     have Y:nv (low m)∈L8:=oK u (by rw[l2,sM];exact D);have V:=jV (jb (afh (Fd:=E.Fd) (c:=cout fn tmps todo kind ro) (cs:=cs) (v:=v)) Y) rfl;exact ai8 K hT V k H
    |false=>
     have J:(nv (low m)/4%2==0)=true:=by
      rw[qJ,sM];show(!m.S)=true
      rw[D];rfl
     by_cases hd:m.W=0\/m.K=true
     ·have e:dec (low m)=.out:=if_pos (hd.imp id fun y=>.inr (.inl y));rw[e];have Y:nv (low m)∈outs:=oK u (by
       rw[l2,J,sN,xL];show(true&&true&&(m.W==0||m.K))=true
       rcases hd with y|y<;>simp[y])
      exact Er K hT (jb aff Y) (jb ac3 Y) k H
     ·have e:dec (low m)=.uc _:=if_neg fun y=>by
       rcases y with y|y|y|y
       ·exact hd (.inl y)
       ·cases y
       ·exact hd (.inr y)
       ·exact absurd (D.symm.trans y) (by simp)
      rw[e];have Y:nv (low m)∈L7:=oK u (by
       rw[l2,J,sN,xL];show(true&&true&&!(m.W==0||m.K))=true
       simp_all)
      have V:=jV (jb (afg (Fd:=E.Fd) (c:=cout fn tmps todo kind ro) (cs:=cs) (v:=v)) Y) rfl;rw[zj,sN]at V;exact ai9 K hT k V H
end
end Env
end Ph
end
end Go.Proofs.YtdcjnhipenbcfaaGreatDoor
