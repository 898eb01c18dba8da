/-
  Own text. Part 5 of what the claim rests on.
-/
import Derived.Conc.QuitsD
import Derived.Laws.Bits64
import Derived.Test.YtdcjnhipenbcfaaGreatDoorPk4
set_option linter.unusedVariables false
set_option linter.unusedSectionVars false
set_option linter.unusedSimpArgs false
set_option maxRecDepth 100000
set_option maxHeartbeats 16000000
open Array renaming getElem?_setIfInBounds_self_of_lt->aeN,all_eq_true_iff_forall_mem->aeO,getElem?_eq_getElem->aeX,getElem?_eq_some_iff->ae1,empty_append->afb
open Bool renaming and_eq_true->aeL,or_eq_true->ae5
open Classical renaming byContradiction->ae2
open Go.Extern.Atomic renaming update->ae9,storeT->ae_,loadT->afa,casT->afd
open Go.Extern.Race renaming none_->aeY
open Go.Extern.Sync renaming semacquire->ae6,semrelease->ae7
open Go.IntKind renaming i64->aeT,i32->ae0,wrap_u64->afe
open Go.MemOp renaming ofEvents->aeP
open List renaming mem_toArray->aeU,not_mem_nil->aeV,getD_eq_getElem?_getD->aeW,mem_cons->aeZ,lookup_cons->ae3,mem_of_getElem?->ae8
open Nat renaming le_refl->aeM,lt_of_lt_of_le->aeQ,strongRecOn->aeR,zero_le->aeS,not_lt_zero->ae4,eq_zero_or_pos->afc
namespace Go.Proofs.YtdcjnhipenbcfaaGreatDoor
noncomputable section
variable {ad:Addr}{tmps:Array Value}{main rd:Bool}{f:Frame}{fn:FuncId}{g g1 gx:Goroutine}{z:Int}{ds:List Deferred}{cs l:List Frame}{site todo:List Item}{L ks:List Nat}{Wg cc i it k n wt:Nat}{S X:Nat->Prop}{y:Operand}{P:Program}{d s:TypeId}{u v work:Value}{w:World}
namespace Ph
open Conc Ren
open Lock (Word PC Mv bn cB bw dw)
open ConcN (sumTo upd sumTo_upd upd_ne upd_same sumTo_congr sumTo_le le_sumTo)
section
variable{Q:aU}{nd:Nat->Nd}{fu:Nat->Nat}{C C':fW Q.E}{w w':World}{gs nf:Array Goroutine}{t t':Trace}{q:Nat->Nat}{rel ew:Nat->Option Nat}{sl:Option (Nat×Nat)}
theorem aU.MI.at(M:Q.MI C nd fu gs w t q rel)(d:Nat):Q.MI C nd fu gs (w.at d) t q rel:=
 ⟨M.size,M.g0,M.wk,M.old,M.fuel,fun i Y=>(M.A7 i Y).trans (oW _ _ _ _),M.sets,M.wd.at d,M.tr,M.deaf0,M.fD,M.above,M.pj,M.A8,M.seen⟩
theorem nx{w1:World}(h:g1.status=.blocked)(gs:Array _):gs.map (woken P g g1 w1)=gs:=by
 have:woken P g g1 w1=id:=by funext o;simp[woken,h]
 simp_all
theorem ez(g:Nat)(fn:FuncId)(pos:String):aeP g fn pos #[]=#[]:=rfl
theorem aU.MI.P2(M:Q.MI C nd fu gs w t q rel)(H:Q.Laws)(h:CI Q.J Q.bR C)(I:Calm Q.J C){md:Md}(hk:k<C.j)(N:C.ks k=.at .recv md)(F:Q.A (Q.ch C k) (nd (k+1)).S (nd (k+1)).X (nd (k+1)).g (nd (k+1)).w)(O:gs[Q.b+k]?=some gx)
  (au:stepG Q.P false gx w=.comm (nd (k+1)).g #[rcase (Q.ch C k) Q.E.zc] true (.recv true) w #[])(V:md=.run\/k<aD Q.J C.d):
  ∃m' ops,runT Q.P (crowd gs w sl) (Q.b+k)=(.next m',ops)/\Q.lu C nd fu q m' (t++ops):=by
 have hb:=H.b0;have T:(Q.b+k==0)=false:=by simp;omega
 have D:stepG Q.P (Q.b+k==0) gx w=.comm (nd (k+1)).g #[rcase (Q.ch C k) Q.E.zc] true (.recv true) w #[]:=by rw[T];exact au
 have hr:=M.A7 (k+1) hk;by_cases Y:k<aD Q.J C.d
 ·obtain⟨s,B⟩:=M.wd.shut k hk Y;have G:=M.noSend (i0:=Q.b+k) H h hk (fun i _ hd=>by rw[hd]at Y;exact absurd Y (ae4 _));refine⟨_,_,crowd_recv_closed (sl:=sl) O D B G,?_⟩;exact M.Ud H h I hk N Y (fun f=>H.PX F hr f) _ _
 ·obtain⟨s,B⟩:=M.wd.opn k hk Y;have Z:md=.run:=V.resolve_right Y;subst Z;have waits:(∀i,C.dm=.dU->C.d=.send C.L i->i%Q.J.n≠k)->∃m' ops,runT Q.P (crowd gs w sl) (Q.b+k)=(.next m',ops)/\Q.lu C nd fu q m' (t++ops):=by
   intro p;refine⟨_,_,crowd_waits (sl:=sl) O D (fun cc R=>?_),?_⟩
   ·simp only[aeU,aeZ,aeV,or_false]at R;subst R;exact ways_recv_none B (M.noSend H h hk p)
   ·rw[ez];exact M.P0 H h I (mN:=.dU) hk N (by rw[pn];exact F) (.inr ⟨rfl,rfl,Y,p⟩)
  by_cases hm:C.dm=.dU
  ·have o:=M.g0;rw[hm]at o;obtain⟨_,i,c,x,z,f0,r,u,v,W,l,m⟩:=o;by_cases U:i%Q.J.n=k
   ·have R:c=Q.ch C k:=by
     unfold aU.ch;rw[<-U,aeW,v];rfl
    subst R;have G:=M.NB (k:=k) H l;refine⟨_,_,crowd_recv_meets (sl:=sl) O D B (by omega) l G,?_⟩;rw[ez,afb,finishComm_recv,finishComm_send];have hx:Q.ok x:=H.YT x (ae8 W);have K:=M.sets.A6 _ (gW h.len hk);have Rs:Q.b+k<gs.size:=by rw[M.size];omega
    refine M.hand H h I hk N r U W u B ?_ ?_ (fun i' a e=>?_) (by simp) (m _ ((M.A7 0 (aeS _)).trans (fX (K.2.2.2 0 (aeS _))))) (H.Rl F (hr.trans (fX (K.2.2.2 (k+1) hk))) hx _) ?_ (fun g=>jI ?_ g) ?_
    ·rw[bk (by omega),aeN (M.IU H)]
    ·simp_all
    ·rw[bk (fun y=>e y.symm),bk (fun y=>a y.symm)]
    ·intro op aM;simp only[aeU,aeZ,aeV,or_false]at aM;rcases aM with rfl|rfl|rfl|rfl
     ·exact⟨rfl,nofun,nofun,by show 0<Q.b+C.j;omega⟩
     ·exact⟨rfl,nofun,nofun,by show Q.b+k<Q.b+C.j;omega⟩
     ·exact⟨rfl,nofun,nofun,by show 0<Q.b+C.j;omega⟩
     ·exact⟨rfl,nofun,nofun,by show Q.b+k<Q.b+C.j;omega⟩
    ·simp
    ·intro op aM;simp only[aeU,aeZ,aeV,or_false]at aM;rcases aM with rfl|rfl|rfl|rfl<;>exact⟨K.1,nofun⟩
   ·simp_all
  ·exact waits fun i y _=>absurd y hm
theorem aU.MI.wz4(M:Q.MI C nd fu gs w t q rel)(D:Q.Laws)(h:CI Q.J Q.bR C)(Y:Calm Q.J C)(hk:k<C.j){R:Prop}(I:C.ks k=.cX 4 0)(H:Q.E.DL4 Q.P g)
  (hgo:∀{g1:Goroutine} {w1:World} {es:Array _},stepG Q.P false g w=.go g1 w1 es->Q.lu C nd fu q (crowd ((gs.map (woken Q.P g g1 w1)).setIfInBounds (Q.b+k) g1) w1 sl) (t++aeP (Q.b+k) g.frame.fn g.frame.place es)->R):R:=by
 obtain⟨_,g1,K,n,A⟩:=H;exact hgo (K w) (M.wd4 D h Y hk I A _ _)
theorem aU.MI.wz3(M:Q.MI C nd fu gs w t q rel)(O:Q.Laws)(h:CI Q.J Q.bR C)(H:Calm Q.J C)(hk:k<C.j){R:Prop}(L:C.ks k=.cX 3 0)(o:Q.E.YK Q.P g)
  (hgo:∀{g1:Goroutine} {w1:World} {es:Array Event},stepG Q.P false g w=.go g1 w1 es->Q.lu C nd fu q (crowd ((gs.map (woken Q.P g g1 w1)).setIfInBounds (Q.b+k) g1) w1 sl) (t++aeP (Q.b+k) g.frame.fn g.frame.place es)->R):R:=by
 have A:k<Q.J.n:=aeQ hk h.jn;have s:=O.n8;have ph:=h.ph;have l2:=le_sumTo (f:=fun k=>kh (C.ks k)) A;have l0:=le_sumTo (f:=fun k=>kY (C.ks k)) A;simp only[L]at l2 l0;have I:=M.wd.wg;have Z:=FL (f:=fun k=>qs (C.ks k)) (j:=C.j) (n:=Q.J.n) (fun i=>by
  show qs (C.ks i)<=1
  cases C.ks i<;>simp only[qs]<;>(try split)<;>omega) (fun i l=>by show qs (C.ks i)=0;rw[h.no i l];rfl) h.jn hk (by show qs (C.ks k)=0;rw[L];rfl)
 have X:=h.Fv;have p:=h.jn;have x:fB C.d<=1:=by cases C.d<;>simp[fB]
 obtain⟨v,N⟩:∃v,C.v=v+1:=⟨C.v-1,by omega⟩;have K:C.ws=0/\C.wt<=1/\¬xG C.d:=by
  rcases ph with⟨a,b,_,_,_,c⟩|⟨y,⟨a,b,_⟩|⟨_,_,a,_⟩|⟨_,_,a,_⟩|⟨_,_,a,_⟩⟩
  ·exact⟨b,by omega,fun y=>by have:=c y;omega⟩
  ·exact⟨b,by omega,fun z=>by revert y z;cases C.d<;>intro y z<;>first|exact y|exact z⟩
  ·omega
  ·omega
  ·omega
 rw[N,K.1]at I;obtain⟨g1,w1,es,V,F,he,D,u,r⟩:=o.2 w v C.wt (by omega) K.2.1 I;have B:fM Q.J v C.d<=fM Q.J C.v C.d:=by rw[N];cases C.d<;>simp only[fM]<;>omega
 by_cases S:v=0/\C.wt=1
 ·obtain⟨n,Y⟩:=u S;refine hgo V (M.Km (s':=.cX 2 n) (i:=3) O h H hk L (by omega) he F D (.inl ⟨2,n,rfl,by omega,Y⟩) (by rw[N];rfl) (fun W G U=>?_) B (by omega) (.inl fun _ _=>rfl) _ _);have z2:kh (cm.cX 3 0:cm Q.E)=0:=rfl;have z0:kY (cm.cX 3 0:cm Q.E)=0:=rfl;have y2:kh (cm.cX 2 n:cm Q.E)=1:=rfl;have T:kY (cm.cX 2 n:cm Q.E)=0:=rfl;rw[z2,z0]at U;rw[y2,T];rcases U with⟨a,_⟩|⟨y,⟨a,b,c,d,e⟩|⟨_,_,a,_⟩|⟨_,_,a,_⟩|⟨_,_,a,_⟩⟩
  ·omega
  ·exact .inr ⟨y,.inr (.inl ⟨a,rfl,S.1,by omega,by omega⟩)⟩
  ·omega
  ·omega
  ·omega
 ·obtain⟨n,Y⟩:=r S;refine hgo V (M.Km (s':=.qt n) (i:=3) O h H hk L (by omega) he F D (.inr ⟨n,rfl,Y⟩) (by rw[N];rfl) (fun W G U=>?_) B (by omega) (.inl fun _ _=>rfl) _ _);have z2:kh (cm.cX 3 0:cm Q.E)=0:=rfl;have z0:kY (cm.cX 3 0:cm Q.E)=0:=rfl;have y2:kh (cm.qt n:cm Q.E)=0:=rfl;have T:kY (cm.qt n:cm Q.E)=0:=rfl;rw[z2,z0]at U;rw[y2,T];rcases U with⟨a,b,c,d,e,_⟩|⟨y,⟨a,b,c,d,e⟩|⟨_,_,a,_⟩|⟨_,_,a,_⟩|⟨_,_,a,_⟩⟩
  ·exact .inl ⟨a,rfl,c,d,e,fun y=>absurd y K.2.2⟩
  ·exact .inr ⟨y,.inl ⟨a,rfl,by omega,d,e⟩⟩
  ·omega
  ·omega
  ·omega
theorem aU.MI.wz2(M:Q.MI C nd fu gs w t q rel)(L:Q.Laws)(h:CI Q.J Q.bR C)(D:Calm Q.J C)(hk:k<C.j){R:Prop}(U:C.ks k=.cX 2 0)(F:Q.E.YJ Q.P g)
  (hgo:∀{g1:Goroutine} {w1:World} {es:Array _},stepG Q.P false g w=.go g1 w1 es->Q.lu C nd fu q (crowd ((gs.map (woken Q.P g g1 w1)).setIfInBounds (Q.b+k) g1) w1 sl) (t++aeP (Q.b+k) g.frame.fn g.frame.place es)->R):R:=by
 have H:=aeQ hk h.jn;have ph:=h.ph;have l2:=le_sumTo (f:=fun k=>kh (C.ks k)) H;have l0:=le_sumTo (f:=fun k=>kY (C.ks k)) H;simp[U]at l2 l0;have Y:=M.wd.wg;have K:C.wt=1/\C.ws=0/\C.v=0:=by
  have z2:kh (cm.cX 2 0:cm Q.E)=1:=rfl;rcases ph with⟨_,_,a,_⟩|⟨y,⟨_,_,_,a,_⟩|⟨a,b,c,_⟩|⟨_,_,_,a,_⟩|⟨_,_,_,a,_⟩⟩
  ·omega
  ·omega
  ·omega
  ·omega
  ·omega
 rw[K.1,K.2.1,K.2.2]at Y;obtain⟨g1,es,B,I,n,A⟩:=F.2 w Y;refine hgo B (M.Km L h D hk U (by omega) (Env.Eff.refl _ _) Y I (.inl ⟨1,n,rfl,by omega,A⟩) (by rw[K.2.2];rfl) (fun O N y=>?_) (by simp_all) (by omega) (.inl fun _ _=>rfl) _ _);rw[K.1,K.2.1,K.2.2]at y;exact y
theorem aU.MI.wz1(M:Q.MI C nd fu gs w t q rel)(N:Q.Laws)(h:CI Q.J Q.bR C)(D:Calm Q.J C)(hk:k<C.j){R:Prop}(F:C.ks k=.cX 1 0)(L:Q.E.YI Q.P g)
  (hgo:∀{g1:Goroutine} {w1:World} {es:Array _},stepG Q.P false g w=.go g1 w1 es->Q.lu C nd fu q (crowd ((gs.map (woken Q.P g g1 w1)).setIfInBounds (Q.b+k) g1) w1 sl) (t++aeP (Q.b+k) g.frame.fn g.frame.place es)->R):R:=by
 have K:=aeQ hk h.jn;have ph:=h.ph;have l2:=le_sumTo (f:=fun k=>kh (C.ks k)) K;have l0:=le_sumTo (f:=fun k=>kY (C.ks k)) K;simp[F]at l2 l0;have Y:=M.wd.wg;have z2:kh (cm.cX 1 0:cm Q.E)=1:=rfl;have z0:kY (cm.cX 1 0:cm Q.E)=0:=rfl;have H:C.wt=1/\C.ws=0/\C.v=0:=by
  rcases ph with⟨_,_,a,_⟩|⟨y,⟨_,_,_,a,_⟩|⟨a,b,c,_⟩|⟨_,_,_,a,_⟩|⟨_,_,_,a,_⟩⟩
  ·omega
  ·omega
  ·omega
  ·omega
  ·omega
 rw[H.1,H.2.1,H.2.2]at Y;obtain⟨g1,w1,es,B,U,he,I,n,A⟩:=L.2 w Y;refine hgo B (M.Km N h D hk F (by omega) he U I (.inl ⟨0,n,rfl,by omega,A⟩) (by rw[H.2.2];rfl) (fun S O y=>?_) (by simp_all) (by omega) (.inl fun _ _=>rfl) _ _);have y2:kh (cm.cX 0 n:cm Q.E)=0:=rfl;have T:kY (cm.cX 0 n:cm Q.E)=1:=rfl;rcases y with⟨_,_,a,_⟩|⟨y,⟨_,_,_,a,_⟩|⟨_,_,_,a,b⟩|⟨_,_,_,a,_⟩|⟨_,_,_,a,_⟩⟩
 ·omega
 ·omega
 ·exact .inr ⟨y,.inr (.inr (.inl ⟨rfl,rfl,rfl,by omega,by omega⟩))⟩
 ·omega
 ·omega
theorem aU.MI.wz0(M:Q.MI C nd fu gs w t q rel)(N:Q.Laws)(h:CI Q.J Q.bR C)(I:Calm Q.J C)(hk:k<C.j){R:Prop}(L:C.ks k=.cX 0 0)(F:Q.E.YH Q.P g)
  (hgo:∀{g1:Goroutine} {w1:World} {es:Array Event},stepG Q.P false g w=.go g1 w1 es->Q.lu C nd fu q (crowd ((gs.map (woken Q.P g g1 w1)).setIfInBounds (Q.b+k) g1) w1 sl) (t++aeP (Q.b+k) g.frame.fn g.frame.place es)->R):R:=by
 have K:=aeQ hk h.jn;have ph:=h.ph;have l2:=le_sumTo (f:=fun k=>kh (C.ks k)) K;have l0:=le_sumTo (f:=fun k=>kY (C.ks k)) K;simp[L]at l2 l0;have Y:=M.wd.wg;have z2:kh (cm.cX 0 0:cm Q.E)=0:=rfl;have z0:kY (cm.cX 0 0:cm Q.E)=1:=rfl;have D:C.wt=0/\C.ws=0/\C.v=0:=by
  rcases ph with⟨_,_,_,a,_⟩|⟨y,⟨_,_,_,_,a⟩|⟨_,_,_,_,a⟩|⟨a,b,c,_⟩|⟨_,_,_,_,a⟩⟩
  ·omega
  ·omega
  ·omega
  ·omega
  ·omega
 rw[D.1,D.2.1,D.2.2]at Y;obtain⟨g1,w1,es,B,U,he,A,n,H⟩:=F.2.2 w Y;refine hgo B (M.Km N h I hk L (by omega) he U A (.inr ⟨n,rfl,H⟩) (by rw[D.2.2];rfl) (fun S O y=>?_) (by simp_all) (by omega) (.inr ⟨F.2.1,H.status⟩) _ _);have y2:kh (cm.qt n:cm Q.E)=0:=rfl;have T:kY (cm.qt n:cm Q.E)=0:=rfl;rcases y with⟨_,_,_,a,_⟩|⟨y,⟨_,_,_,_,a⟩|⟨_,_,_,_,a⟩|⟨_,_,_,a,b⟩|⟨_,_,_,_,a⟩⟩
 ·omega
 ·omega
 ·omega
 ·exact .inr ⟨y,.inr (.inr (.inr ⟨rfl,rfl,rfl,by omega,by omega⟩))⟩
 ·omega
theorem aU.MI.Ui(M:Q.MI C nd fu gs w t q rel)(H:Q.Laws)(h:CI Q.J Q.bR C)(Y:Calm Q.J C)(hk:k<C.j)(V:gs[Q.b+k]?=some g)(R:g.status=.running):
  ∃m' ops,runT Q.P (crowd gs w sl) (Q.b+k)=(.next m',ops)/\Q.lu C nd fu q m' (t++ops):=by
 have hb:=H.b0;have l:k<Q.J.n:=aeQ hk h.jn;have z:(Q.b+k==0)=false:=by simp;omega
 have hr:=M.A7 (k+1) hk;have O:=M.wk k hk;have hgo:∀{g1:Goroutine} {w1:World} {es:Array Event},stepG Q.P false g w=.go g1 w1 es->Q.lu C nd fu q (crowd ((gs.map (woken Q.P g g1 w1)).setIfInBounds (Q.b+k) g1) w1 sl) (t++aeP (Q.b+k) g.frame.fn g.frame.place es)->
   ∃m' ops,runT Q.P (crowd gs w sl) (Q.b+k)=(.next m',ops)/\Q.lu C nd fu q m' (t++ops):=fun au W=>⟨_,_,runT_crowd_go (sl:=sl) V (by rw[z];exact au),W⟩
 have T:=n_ h.lock;have YZ:=H.n8;cases K:C.ks k with
 |no=>rw[K]at O;exact O.elim
 |«at» pc md=>
  rw[K]at O;obtain⟨G,B,h3⟩:=O;obtain rfl:=Option.some.inj (V.symm.trans G);cases md with
  |blk=>cases R
  |dU=>cases R
  |ns=>
   have u:=(h.md k _ _ K).2 (.inr rfl);subst u;have W:Q.A (Q.ch C k) (nd (k+1)).S (nd (k+1)).X (nd (k+1)).g (nd (k+1)).w:=by
    have:=h3 nofun;rw[pn]at this;exact this
   refine M.P2 H h Y hk K W V ?_ (.inr (h.gone k (by rw[K];trivial)));have e:{(nd (k+1)).g with status:=.running}=(nd (k+1)).g:=by
    have:=(H.Kf W).1;generalize(nd (k+1)).g=g0 at this;obtain⟨a,b,c,d,e⟩:=g0;simp only at this;subst this;rfl
   have:=stepG_tries (P:=Q.P) (g:=(nd (k+1)).g) (sh:=.recv true) false #[rcase (Q.ch C k) Q.E.zc] w;rw[e]at this;exact this.trans (H.Kg W w)
  |run=>
   have mul:∀p,Dt pc=p->(∀x,pc=.lk p x->True)->Lock.Ok C.m p/\Lock.YG C.m p:=by
    intro p hp _;have a:=h.lock.ok k l;have b:=h.lock.pre l;rw[K]at a;simp only[K]at b;rw[<-hp];exact⟨a,b⟩
   rcases B.look with au|⟨s,_,Z⟩
   ·obtain⟨f,N⟩:∃f,fu (k+1)=f+1:=⟨fu (k+1)-1,by have:=M.wh (i:=k+1) hk;omega⟩;have U:=au;rw[N]at au;cases pc with
    |recv=>
     rw[pn]at U;exact M.P2 H h Y hk K U V (H.Kg U w) (.inl rfl)
    |ld x=>
     obtain⟨g1,D,I⟩:=au.2.2 w hr;exact hgo D (M.FI H h Y hk K N (.inl rfl) I _ _ rfl (fun _=>rfl) nofun nofun nofun (fun p x e=>by cases e;rfl) nofun (by show 14+2<17;omega) rfl)
    |lk p x=>
     obtain⟨o1,o2⟩:=mul p rfl (fun _ _=>trivial);rcases au.2.2 w C.m C.c hr M.wd.mu o1 o2 (by omega) T.1 with⟨sv,rfl,r,D⟩|⟨p',m',c',g1,w1,es,L,D,hm,he,F,hw,I⟩
     ·refine⟨_,_,runT_crowd_go (sl:=sl) V (by rw[z];exact D),?_⟩;rw[nx rfl,ez];exact M.P0 H h Y (mN:=.blk) hk K U (.inl ⟨rfl,⟨sv,x,rfl⟩,r⟩)
     ·obtain⟨c1,c2⟩:=h.mvL H.n8 hk K L;refine hgo D (M.YV H h Y hk K N I _ _ hm he F hw c1 c2 ?_);show ry (Env.behind p' x)=1
      cases p'<;>rfl
    |le x=>
     obtain⟨g1,D,I⟩:=au.2.2 w hr;exact hgo D (M.FI H h Y hk K N (.inr rfl) I _ _ rfl (fun _=>rfl) nofun nofun nofun nofun nofun (by show 13<14;omega) rfl)
    |la x=>
     obtain⟨g1,D,I⟩:=au.2.2 w C.γ hr (M.wd.map (h.free hk K));exact hgo D (M.wla H h Y hk K N I _ _)
    |ur γ=>
     obtain⟨o,g1,D,I⟩:=au.2.2 w hr;exact hgo D (M.wur H h Y hk K N o I _ _)
    |ud=>
     obtain⟨g1,D,I⟩:=au.2.2 w hr;exact hgo D (M.FI H h Y hk K N (.inl rfl) I _ _ rfl (fun _=>rfl) nofun nofun nofun nofun nofun (by show 10<11;omega) rfl)
    |u0=>
     obtain⟨o1,o2⟩:=mul .cr rfl (fun _ _=>trivial);rcases au.2.2 w C.m C.c hr M.wd.mu o1 o2 (by omega) T.1 with⟨sv,e0,_⟩|⟨p',m',c',g1,w1,es,L,D,hm,he,F,hw,I⟩
     ·cases e0
     ·obtain⟨c1,c2⟩:=h.mvU H.n8 hk K (.inl ⟨rfl,rfl⟩) L;refine hgo D (M.YV H h Y hk K N I _ _ hm he F hw c1 c2 ?_);show ry (Env.j_ p')=1
      cases p'<;>rfl
    |un p=>
     obtain⟨o1,o2⟩:=mul p rfl (fun _ _=>trivial);have hun:=(h.Dv k p _ K).1;rcases au.2.2 w C.m C.c hr M.wd.mu o1 o2 (by omega) T.1 with⟨sv,rfl,_⟩|⟨p',m',c',g1,w1,es,L,D,hm,he,F,hw,I⟩
     ·cases hun
     ·obtain⟨c1,c2⟩:=h.mvU H.n8 hk K (.inr rfl) L;refine hgo D (M.YV H h Y hk K N I _ _ hm he F hw c1 c2 ?_);show ry (Env.j_ p')=1
      cases p'<;>rfl
    |ue=>
     obtain⟨g1,D,I⟩:=au.2.2 w hr;exact hgo D (M.FI H h Y hk K N (.inr rfl) I _ _ rfl (fun _=>rfl) nofun nofun nofun nofun nofun (by show 7<8;omega) rfl)
    |wr=>
     obtain⟨g1,D,n,s⟩:=au.2.2 w hr;exact hgo D (M.YW H h Y hk K s _ _)
   ·obtain⟨g1,w1,es,S1,X1,D,hd,I⟩:=Z w hr;exact hgo D (M.T_ H h Y hk K s D hd I _ _)
 |cX i n=>
  rw[K]at O;obtain⟨g',G,B⟩:=O;obtain rfl:=Option.some.inj (V.symm.trans G);have i4:=h.cX k i n K;cases n with
  |succ n=>
   obtain⟨_,g1,D,v⟩:=B;exact hgo (D w) (M.Uc H h Y hk K (by simp) (.inl ⟨i,n,rfl,rfl,rfl,v⟩) _ _)
  |zero=>
   have hi:i=0\/i=1\/i=2\/i=3\/i=4:=by omega
   rcases hi with rfl|rfl|rfl|rfl|rfl
   ·exact M.wz0 H h Y hk K B hgo
   ·exact M.wz1 H h Y hk K B hgo
   ·exact M.wz2 H h Y hk K B hgo
   ·exact M.wz3 H h Y hk K B hgo
   ·exact M.wz4 H h Y hk K B hgo
 |qt n=>
  rw[K]at O;obtain⟨g',G,B⟩:=O;obtain rfl:=Option.some.inj (V.symm.trans G);cases n with
  |zero=>rw[B.1]at R;cases R
  |succ n=>
   rcases B with⟨y,_⟩|⟨_,g1,es,hm,D,v⟩
   ·rw[y]at R;cases R
   ·exact hgo (D w) (M.Uc H h Y hk K hm (.inr ⟨n,rfl,rfl,v⟩) _ _)
end
section
variable{Q:aU}{nd:Nat->Nd}{fu:Nat->Nat}{C C':fW Q.E}{w w':World}{gs nf:Array Goroutine}{t t':Trace}{q:Nat->Nat}{rel ew:Nat->Option Nat}{sl:Option (Nat×Nat)}
theorem yZ.on{d d':lp}{v ws R D:Nat}(h:yZ d v wt ws R D)(hw:¬qu d)(Y:¬qu d')(H:xG d'->v=0):yZ d' v wt ws R D:=by
 obtain⟨a,b,c,e⟩:=h.early hw;exact .inl ⟨a,b,c,e,Y,H⟩
theorem CI.vle(h:CI Q.J Q.bR C):C.v<=C.j+fB C.d:=by have:=h.Fv;omega
theorem CI.Uj(h:CI Q.J Q.bR C)(H:aD Q.J C.d=0):C.v=C.j+fB C.d:=by
 have:=h.Fv;have K:=by
  have:=sumTo_le (f:=fun k=>qs (C.ks k)) (c:=0) (j:=Q.J.n) fun i _=>by
   have Y:¬Gone _:=fun y=>by have:=h.gone i y;omega
   cases e:C.ks i with
   |no=>exact aeM _
   |«at» pc md=>exact aeM _
   |cX i n=>rw[e]at Y;exact absurd trivial Y
   |qt n=>rw[e]at Y;exact absurd trivial Y
  omega
 omega
theorem aU.MI.Uk(M:Q.MI C nd fu gs w t q rel)(H:Q.Laws)(h:CI Q.J Q.bR C)(F:Calm Q.J C){c x f:Nat}{z:Value}(Z:C.dm=.run)(hd:C.d=.send C.L i)(o:fu 0=f+1)(r:gs[0]?=some (nd 0).g)(N:Q.DS (fu 0) C.d (nd 0).S (nd 0).X (nd 0).g (nd 0).w)(V:C.L[i%Q.J.n]?=some c)(W:Q.J.ao[i]?=some x)
  (D:∀w2 s,az Q.E.U (nd 0).S (nd 0).w w2->eH w2 c s->stepG Q.P true (nd 0).g w2=.comm (nd 0).g #[scase c (.int .i64 (x:Int)) z] true .send w2 #[])(O:∀w2,az Q.E.U (nd 0).S (nd 0).w w2->Q.E.Tree Q.P true (Q.DS f (Q.J.sends C.L (i+1))) (nd 0).S (nd 0).X (Go.Conc.served (nd 0).g undef) w2):
  ∃m' ops,runT Q.P (crowd gs w sl) 0=(.next m',ops)/\Q.lu C nd fu q m' (t++ops):=by
 have hb:=H.b0;have hr:=M.A7 0 (aeS _);have hk:i%Q.J.n<C.j:=by
  have:=(List.getElem?_eq_some_iff.1 V).1;rw[h.len]at this;exact this
 have K:c=Q.ch C (i%Q.J.n):=by
  unfold aU.ch;rw[aeW,V];rfl
 subst K;generalize R:i%Q.J.n=k at *;obtain⟨s,A⟩:=M.wd.opn k hk (by rw[hd];exact ae4 _);have au:=D w s hr A;by_cases p:∃pc,C.ks k=.at pc .dU
 ·obtain⟨pc,I⟩:=p;have T:=(h.md k _ _ I).2 (.inl rfl);subst T;have G:=M.xK hk I;have B:Q.b+k<gs.size:=by rw[M.size];omega
  have m:=by
   have:=M.wk k hk;rw[I]at this;have:=this.2.2 nofun;rw[pn]at this;exact this
  refine⟨_,_,crowd_send_meets (sl:=sl) r au A (by omega) G (M.NA H h hk I),?_⟩;rw[ez,afb,finishComm_recv,finishComm_send];have Y:=M.sets.A6 _ (gW h.len hk);refine M.hand H h F hk I hd R W o A ?_ ?_ (fun i' u v=>?_) (by simp) (O _ (hr.trans (fX (Y.2.2.2 0 (aeS _))))) (H.Rl m ((M.A7 (k+1) hk).trans (fX (Y.2.2.2 (k+1) hk))) (H.YT x (ae8 W)) _) ?_ (fun g=>jI ?_ g) ?_
  ·rw[aeN (by simpa using M.IU H)]
  ·rw[bk (by omega),aeN B]
  ·rw[bk (fun y=>u y.symm),bk (fun y=>v y.symm)]
  ·intro op aM;simp only[aeU,aeZ,aeV,or_false]at aM;rcases aM with rfl|rfl|rfl|rfl
   ·exact⟨rfl,nofun,nofun,by show 0<Q.b+C.j;omega⟩
   ·exact⟨rfl,nofun,nofun,by simp_all⟩
   ·exact⟨rfl,nofun,nofun,by show 0<Q.b+C.j;omega⟩
   ·exact⟨rfl,nofun,nofun,by show Q.b+k<Q.b+C.j;omega⟩
  ·simp
  ·intro op aM;simp at aM;rcases aM with rfl|rfl|rfl|rfl<;>exact⟨Y.1,nofun⟩
 ·have l:=fun pc y=>p ⟨pc,y⟩;refine⟨_,_,crowd_waits (sl:=sl) r au (fun a K=>?_),?_⟩
  ·simp only[aeU,aeZ,aeV,or_false]at K;subst K;exact ways_send_none A (aeM _) (M.Rp H h hk l rfl)
  ·exact M.P1 H h F (mN:=.dU) Z ⟨N,i,_,x,z,f,hd,o,by rw[R];exact V,W,aeN (M.IU H),O⟩ (.inr ⟨rfl,i,hd,by rw[R];exact l⟩)
theorem aU.MI.Ul(M:Q.MI C nd fu gs w t q rel)(U:Q.Laws)(h:CI Q.J Q.bR C)(H:Calm Q.J C)(G:gs[0]?=some g)(V:g.status=.running):
  ∃m' ops,runT Q.P (crowd gs w sl) 0=(.next m',ops)/\(Q.lu C nd fu q m' (t++ops)\/Q.tR m' (t++ops)):=by
 have hb:=U.b0;have hr:=M.A7 0 (aeS _);have Z:=M.g0;have YZ:=U.n8;have hjn:=h.jn;have N:=h.vle;have D:=M.wd.wg;have Y:=h.A0;cases hm:C.dm with
 |blk=>
  rw[hm]at Z;obtain rfl:=Option.some.inj (G.symm.trans Z.1);cases V
 |dU=>
  rw[hm]at Z;obtain⟨_,i,c,x,z,f0,_,_,_,_,e5,_⟩:=Z;obtain rfl:=Option.some.inj (G.symm.trans e5);cases V
 |ns=>exact absurd hm h.Fu.2.2
 |run=>
  rw[hm]at Z;obtain⟨h1,h2⟩:=Z;obtain rfl:=Option.some.inj (G.symm.trans h1);have hgo:∀{g1:Goroutine} {w1:World} {es:Array Event},stepG Q.P true (nd 0).g w=.go g1 w1 es->Q.lu C nd fu q (crowd ((gs.map (woken Q.P (nd 0).g g1 w1)).setIfInBounds 0 g1) w1 sl) (t++aeP 0 (nd 0).g.frame.fn (nd 0).g.frame.place es)->
    ∃m' ops,runT Q.P (crowd gs w sl) 0=(.next m',ops)/\(Q.lu C nd fu q m' (t++ops)\/Q.tR m' (t++ops)):=fun au hA=>⟨_,_,runT_crowd_go (sl:=sl) (i:=0) G au,.inl hA⟩
  rcases h2.look with au|⟨hn,_,o⟩
  ·obtain⟨f,F⟩:∃f,fu 0=f+1:=⟨fu 0-1,by have:=M.wh (i:=0) (aeS _);omega⟩;have E:=au;rw[F]at au;have nm:(Md.run=.blk->∀d:lp,d=.w3):=nofun;have I:∀d:lp,(Md.run=.blk->d=.w3)/\(Md.run=.dU->∃i,d=.send C.L i)/\Md.run≠.ns:=fun d=>⟨nofun,nofun,nofun⟩;have ph:=h.ph;cases hd:C.d with
   |st L=>
    rw[hd]at au Y;obtain⟨c,m⟩:=au.2.2;obtain⟨g1,K,R⟩:=m w hr;exact hgo K (M.FK U h H (.inl rfl) F R (h.dd (I _) (by rw[hd];rfl) (by rw[hd];rfl) (fun _ _ y=>by rw[hd]at y;exact y.on id id nofun) (by rw[hd];exact aeM _) Y nofun) (by rw[hd];simp only[fM];omega) _ _ (by rw[hd];rfl) (by rw[hd];rfl))
   |a2 L c=>
    rw[hd]at au Y ph;obtain⟨a,b,_,_⟩:=ph.early id;have T:C.v=L.length:=by
     have:=h.Uj (by rw[hd];rfl);rw[hd]at this;rw[this,Y.1,h.len];rfl
    rw[T,a,b]at D;obtain⟨g1,w1,es,K,O,he,A,R⟩:=au.2.2 w hr D;by_cases r:L=[]
    ·rw[if_pos r]at R;exact hgo K (M.Ba U h H F R he O A (h.dd (I _) (by rw[hd];rfl) (by rw[hd,T];rfl) (fun _ _ y=>by
      rw[hd]at y;obtain⟨a1,a2,a3,a4⟩:=y.early id;exact .inl ⟨rfl,rfl,a3,a4,id,nofun⟩) (by rw[hd];exact aeM _) Y nofun) (by rw[hd];simp only[fM];omega) _ _ (by rw[hd];rfl) (by rw[hd];rfl))
    ·rw[if_neg r]at R;exact hgo K (M.Ba U h H F R he O A (h.dd (I _) (by rw[hd];rfl) (by rw[hd,T];rfl) (fun _ _ y=>by
      rw[hd]at y;obtain⟨a1,a2,a3,a4⟩:=y.early id;exact .inl ⟨rfl,rfl,a3,a4,id,nofun⟩) (by rw[hd];exact aeM _) Y nofun) (by rw[hd];simp only[fM];omega) _ _ (by rw[hd];rfl) (by rw[hd];rfl))
   |a3 L c=>
    rw[hd]at au Y;obtain⟨g1,K,R⟩:=au.2.2 w hr;exact hgo K (M.PZ U h H (.inl rfl) F R (h.dd (I _) (by rw[hd];rfl) (by rw[hd];rfl) (fun _ _ y=>by rw[hd]at y;exact y.on id id nofun) (by rw[hd];exact aeM _) Y nofun) (by rw[hd];simp only[fM];omega) _ _ (by rw[hd];rfl) (by rw[hd];rfl))
   |a4 L c=>
    rw[hd]at au Y;obtain⟨g1,K,R⟩:=au.2.2 w hr;exact hgo K (M.FK U h H (.inr rfl) F R (h.dd (I _) (by rw[hd];rfl) (by rw[hd];rfl) (fun _ _ y=>by rw[hd]at y;exact y.on id id nofun) (by rw[hd];exact aeM _) Y nofun) (by rw[hd];simp only[fM];omega) _ _ (by rw[hd];rfl) (by rw[hd];rfl))
   |go L c=>
    rw[hd]at au Y;obtain⟨e,hXc,m⟩:=au.2.2;obtain⟨YX,g1,child,K,u,R⟩:=m w hr;have S:L=C.L:=Y.1;subst S;refine⟨_,_,runT_crowd_spawn (sl:=sl) (i:=0) G K,.inl ?_⟩;rw[ez,M.size];have:=M.Rr (sl:=sl) U h H hd F e hXc YX u R (nd 0).g.frame.fn (nd 0).g.frame.place child.frame.fn (nd 0).g.frame.place;rw[Array.append_assoc]at this;exact this
   |send L i=>
    rw[hd]at au Y;have S:L=C.L:=Y.1;subst S;obtain⟨c,x,r,hx,z,W,htr⟩:=au.2.2;obtain⟨m',ops,K,e2⟩:=M.Uk (sl:=sl) U h H hm hd F G E r hx W htr;exact⟨m',ops,K,.inl e2⟩
   |close L k=>
    rw[hd]at au Y;have S:L=C.L:=Y.1;subst S;obtain⟨hw,c,r,m⟩:=au.2.2;have hk:k<C.j:=by
     have a:C.j=Q.J.n:=Y.2.1;have b:k<Q.J.n:=Y.2.2;omega
    have hcc:c=Q.ch C k:=by
     unfold aU.ch;rw[aeW,r];rfl
    subst hcc;obtain⟨s,Z⟩:=M.wd.opn k hk (by rw[hd];exact Nat.lt_irrefl _);obtain⟨g1,l,K,R⟩:=m w s hr Z;exact hgo K (M.Rq U h H hk hd Z hw l F R _ _)
   |kd=>
    rw[hd]at au Y;obtain⟨g1,K,R⟩:=au.2.2 w hr;exact hgo K (M.FK U h H (.inl rfl) F R (h.dd (I _) (by rw[hd];rfl) (by rw[hd];rfl) (fun _ _ y=>by rw[hd]at y;exact y.on id id nofun) (by rw[hd];exact aeM _) Y nofun) (by
     have a:C.v<=C.j:=by rw[hd]at N;exact N
     rw[hd];simp only[fM];omega) _ _ (by rw[hd];rfl) (by rw[hd];rfl))
   |w1=>
    rw[hd]at au Y ph;obtain⟨a,b,_,_⟩:=ph.early id;have p:C.v<=8:=by rw[hd]at N;exact Nat.le_trans N (by show C.j+0<=8;omega)
    rw[a,b]at D;obtain⟨g1,es,K,A,t0,t1⟩:=au.2.2 w C.v hr p D;by_cases T:C.v=0
    ·exact hgo K (M.Ba U h H F (t0 T) (Env.Eff.refl _ _) D A (h.dd (I _) (by rw[hd];rfl) (by rw[hd];rfl) (fun _ _ y=>by
      rw[hd]at y;obtain⟨a1,a2,a3,a4⟩:=y.early id;exact .inl ⟨rfl,rfl,a3,a4,id,fun _=>T⟩) (by rw[hd];exact aeM _) Y nofun) (by rw[hd];simp only[fM];omega) _ _ (by rw[hd];rfl) (by rw[hd];rfl))
    ·exact hgo K (M.Ba U h H F (t1 T) (Env.Eff.refl _ _) D A (h.dd (I _) (by rw[hd];rfl) (by rw[hd];rfl) (fun _ _ y=>by
      rw[hd]at y;obtain⟨a1,a2,a3,a4⟩:=y.early id;exact .inl ⟨rfl,rfl,a3,a4,id,nofun⟩) (by rw[hd];exact aeM _) Y (fun v0 e0=>by cases e0;exact⟨by omega,aeM _⟩)) (by rw[hd];simp only[fM];omega) _ _ (by rw[hd];rfl) (by rw[hd];rfl))
   |w2 v0=>
    have Kr:=h.w2 v0 hd;rw[hd]at au Y ph;obtain⟨a,b,_,_⟩:=ph.early id;have p:C.v<=8:=by rw[hd]at N;exact Nat.le_trans N (by show C.j+0<=8;omega)
    rw[a,b]at D;obtain⟨ty,tn⟩:=au.2.2 w C.v hr p D;by_cases T:C.v=v0
    ·obtain⟨g1,w1,es,K,O,he,A,R⟩:=ty T;exact hgo K (M.Ba U h H F R he O A (h.dd (I _) (by rw[hd];rfl) (by rw[hd];rfl) (fun _ _ y=>by
      rw[hd]at y;obtain⟨a1,a2,a3,a4⟩:=y.early id;exact .inr ⟨trivial,.inl ⟨rfl,rfl,by omega,a3,a4⟩⟩) (by rw[hd];exact aeM _) Y nofun) (by rw[hd];simp only[fM];omega) _ _ (by rw[hd];rfl) (by rw[hd];rfl))
    ·obtain⟨g1,es,K,A,R⟩:=tn T;exact hgo K (M.Ba U h H F R (Env.Eff.refl _ _) D A (h.dd (I _) (by rw[hd];rfl) (by rw[hd];rfl) (fun _ _ y=>by
      rw[hd]at y;obtain⟨a1,a2,a3,a4⟩:=y.early id;exact .inl ⟨rfl,rfl,a3,a4,id,nofun⟩) (by rw[hd];exact aeM _) Y nofun) (by rw[hd];simp only[fM];omega) _ _ (by rw[hd];rfl) (by rw[hd];rfl))
   |wx=>
    rw[hd]at au Y;obtain⟨g1,K,R⟩:=au.2.2 w hr;exact hgo K (M.PZ U h H (.inr rfl) F R (h.dd (I _) (by rw[hd];rfl) (by rw[hd];rfl) (fun _ _ y=>by
     rw[hd]at y;rcases y with⟨_,_,_,_,y,_⟩|⟨_,y⟩
     ·exact absurd trivial y
     ·exact .inr ⟨trivial,y⟩) (by rw[hd];exact aeM _) Y nofun) (by rw[hd];simp only[fM];omega) _ _ (by rw[hd];rfl) (by rw[hd];rfl))
   |w3=>
    rw[hd]at au Y ph;obtain⟨_,ho,hb1,l⟩:=au;by_cases B:C.ws=0
    ·rw[B]at D;have K:=hb1 w C.v C.wt hr D;refine⟨_,_,runT_crowd_go (sl:=sl) (i:=0) G K,.inl ?_⟩;rw[nx rfl,ez];exact M.P1 U h H (mN:=.blk) hm ⟨aeN (M.IU U),ho,V,E⟩ (.inl ⟨rfl,hd,B⟩)
    ·have X:C.wt=0/\C.ws=1/\C.v=0:=by
      rcases ph with⟨_,a,_⟩|⟨_,⟨_,a,_⟩|⟨_,a,_⟩|⟨_,a,_⟩|⟨a,b,c,_⟩⟩
      ·exact absurd a B
      ·exact absurd a B
      ·exact absurd a B
      ·exact absurd a B
      ·exact⟨a,b,c⟩
     rw[X.1,X.2.1,X.2.2]at D;obtain⟨g1,w1,es,K,O,he,A,R⟩:=l w hr D;exact hgo K (M.Ba U h H F R he O A (h.dd (I _) (by rw[hd];rfl) (by rw[hd,X.2.2];rfl) (fun _ _ y=>by
      rcases y with⟨_,a,_⟩|⟨_,⟨_,a,_⟩|⟨_,a,_⟩|⟨_,a,_⟩|⟨_,_,_,a,b⟩⟩
      ·exact absurd a B
      ·exact absurd a B
      ·exact absurd a B
      ·exact absurd a B
      ·exact .inl ⟨rfl,rfl,a,b,id,fun _=>rfl⟩) (by rw[hd];exact aeM _) Y nofun) (by rw[hd];simp only[fM];omega) _ _ (by rw[hd];rfl) (by rw[hd];rfl))
   |w4=>
    rw[hd]at au Y ph;have X:C.wt=0/\C.ws=0/\C.v=0:=by
     rcases ph with⟨a,b,_,_,_,c⟩|⟨y,_⟩
     ·exact⟨a,b,c trivial⟩
     ·exact y.elim
    rw[X.1,X.2.1,X.2.2]at D;obtain⟨g1,es,K,A,R⟩:=au.2.2 w hr D;exact hgo K (M.Ba U h H F R (Env.Eff.refl _ _) D A (h.dd (I _) (by rw[hd];rfl) (by rw[hd,X.2.2];rfl) (fun _ _ y=>by
     rw[hd]at y;obtain⟨a1,a2,a3,a4⟩:=y.early id;exact .inl ⟨rfl,rfl,a3,a4,id,fun _=>rfl⟩) (by rw[hd];exact aeM _) Y nofun) (by rw[hd];simp only[fM];omega) _ _ (by rw[hd];rfl) (by rw[hd];rfl))
   |ke=>
    rw[hd]at au Y ph;obtain⟨g1,K,R⟩:=au.2.2 w hr;have hv0:C.v=0:=by
     rcases ph with⟨_,_,_,_,_,c⟩|⟨y,_⟩
     ·exact c trivial
     ·exact y.elim
    exact hgo K (M.FK U h H (.inr rfl) F R (h.dd (I _) (by rw[hd];rfl) (by rw[hd];rfl) (fun _ _ y=>by rw[hd]at y;exact y.on id id fun _=>hv0) (by rw[hd];exact aeM _) Y nofun) (by rw[hd];simp only[fM];omega) _ _ (by rw[hd];rfl) (by rw[hd];rfl))
   |aq=>
    rw[hd]at au;obtain⟨g1,K,hF⟩:=au.2.2 w hr;exact⟨_,_,runT_crowd_go (sl:=sl) (i:=0) G K,.inr (M.final U h hd hF _ _)⟩
  ·obtain⟨g1,w1,es,S1,X1,K,hd,R⟩:=o w hr;exact hgo K (M.Ue U h H hm hn K hd R _ _)
theorem FM{f:Nat->Nat}:∀{n:Nat},0<sumTo n f->∃k,k<n/\0<f k
 |0,h=>by simp[sumTo]at h
 |n+1,h=>by
  rw[sumTo]at h;by_cases Y:0<f n
  ·exact⟨n,by omega,Y⟩
  ·obtain⟨k,hk,K⟩:=FM (f:=f) (n:=n) (by omega);exact⟨k,by omega,K⟩
theorem Ks{f:Nat->Nat}{j:Nat}(h:∀k,k<j->1<=f k):∀n,j<=n->j<=sumTo n f
 |0,Y=>by omega
 |n+1,Y=>by
  rw[sumTo];by_cases e:j=n+1
  ·have:=by
    have:∀m,m<=n->m<=sumTo m f:=by
     intro m;induction m with
     |zero=>omega
     |succ m K=>
      intro hm;rw[sumTo];have:=h m (by omega);omega
    exact this n (aeM _)
   have:=h n (by omega);omega
  ·have:=Ks h n (by omega);omega
theorem aU.MI.Ku(M:Q.MI C nd fu gs w t q rel)(N:Q.Laws)(h:CI Q.J Q.bR C)(I:Calm Q.J C)(hk:k<C.j)(V:∀pc,C.ks k≠.at pc .dU)(Z:∀n,C.ks k≠.qt n):∃(i:Nat) (g:Goroutine),gs[i]?=some g/\g.status=.running:=by
 have run:∀k pc,k<C.j->C.ks k=.at pc .run->∃(i:Nat) (g:Goroutine),gs[i]?=some g/\g.status=.running:=by
  intro k pc hk e;have K:=M.wk k hk;rw[e]at K;exact⟨_,_,K.1,ey K.2.1 fun y=>(ef N (M.wh hk) y).1⟩
 have K:=M.wk k hk;cases H:C.ks k with
 |no=>rw[H]at K;exact K.elim
 |«at» pc md=>
  cases md with
  |run=>exact run k pc hk H
  |ns=>rw[H]at K;exact⟨_,_,K.1,rfl⟩
  |dU=>exact absurd H (V pc)
  |blk=>
   have L:=I.blk k pc H;obtain⟨sv,x,rfl⟩:=(h.md k _ _ H).1 rfl;obtain⟨k',O,R,D⟩:=h.lock.live (aeQ hk h.jn) (by rw[H];rfl) L;cases Y:C.ks k' with
   |no=>exact absurd (by rw[Y];rfl) D
   |«at» B U=>
    have A:=Nat.lt_of_not_le fun y=>by rw[h.no k' y]at Y;cases Y
    cases U with
    |run=>exact run k' B A Y
    |blk=>
     obtain⟨F,x',rfl⟩:=(h.md k' _ _ Y).1 rfl;exact absurd (by rw[Y];rfl) (R F)
    |dU=>
     have:=(h.md k' _ _ Y).2 (.inl rfl);subst this;exact absurd (by rw[Y];rfl) D
    |ns=>
     have:=(h.md k' _ _ Y).2 (.inr rfl);subst this;exact absurd (by rw[Y];rfl) D
   |cX i n=>exact absurd (by rw[Y];rfl) D
   |qt n=>exact absurd (by rw[Y];rfl) D
 |cX i n=>
  rw[H]at K;obtain⟨g,R,D⟩:=K;exact⟨_,_,R,je D⟩
 |qt n=>exact absurd H (Z n)
theorem aU.MI.live(M:Q.MI C nd fu gs w t q rel)(R:Q.Laws)(h:CI Q.J Q.bR C)(Y:Calm Q.J C):∃(i:Nat) (g:Goroutine),gs[i]?=some g/\g.status=.running:=by
 have H:=M.g0;cases hm:C.dm with
 |run=>
  rw[hm]at H;exact⟨_,_,H.1,ey H.2 fun y=>(jd (M.wh (i:=0) (aeS _)) y).1⟩
 |ns=>exact absurd hm h.Fu.2.2
 |dU=>
  obtain⟨i,hd⟩:=h.Fu.2.1 hm;have K:=h.A0;rw[hd]at K;have D:=K.2.1;have hk:i%Q.J.n<C.j:=by rw[D];exact Nat.mod_lt _ R.n0
  refine M.Ku R h Y hk (fun pc=>Y.pa i hm hd pc) (fun n e=>?_);have:=h.gone _ (show Gone _ by rw[e];trivial);rw[hd]at this;exact absurd this (ae4 _)
 |blk=>
  have hd:=h.Fu.1 hm;have L:=Y.Ri hm;have K:=h.A0;rw[hd]at K;have D:C.j=Q.J.n:=K;have ph:=h.ph;have N:∀k pc,k<C.j->C.ks k≠.at pc .dU:=fun k pc hk e=>Y.dU k pc e (by rw[hd];show k<Q.J.n;omega);have cX:∀(f:cm Q.E->Nat),(∀s,0<f s->∃i n,s=.cX i n)->0<sumTo Q.J.n (fun k=>f (C.ks k))->∃(i:Nat) (g:Goroutine),gs[i]?=some g/\g.status=.running:=by
   intro f U F;obtain⟨k,hk,I⟩:=FM F;obtain⟨i,n,e⟩:=U _ I;exact M.Ku (k:=k) R h Y (by omega) (fun pc y=>by simp_all) (fun n y=>by simp_all)
  rw[hd]at ph;rcases ph with⟨_,_,_,_,y,_⟩|⟨_,⟨_,_,P,_⟩|⟨_,_,_,a,_⟩|⟨_,_,_,_,a⟩|⟨_,a,_⟩⟩
  ·exact absurd trivial y
  ·have B:=h.Fv;rw[hd]at B;have:∃k,k<C.j/\qs (C.ks k)=0:=by
    apply ae2;intro jJ;have:=Ks (f:=fun k=>qs (C.ks k)) (fun k hk=>by
     have:qs (C.ks k)≠0:=fun y=>jJ ⟨k,hk,y⟩;omega) Q.J.n h.jn
    have O:fB .w3=0:=rfl;omega
   obtain⟨k,hk,A⟩:=this;exact M.Ku R h Y hk (fun pc=>N k pc hk) (fun n e=>by rw[e]at A;cases A)
  ·refine cX kh (fun s H=>?_) (by omega);cases s with
   |cX i n=>exact⟨i,n,rfl⟩
   |_=>cases H
  ·refine cX kY (fun s H=>?_) (by omega);cases s with
   |cX i n=>exact⟨i,n,rfl⟩
   |_=>cases H
  ·omega
theorem aU.MI.awake(M:Q.MI C nd fu gs w t q rel)(L:Q.Laws):∀g∈gs,Go.Conc.awake g:=by
 intro g N;obtain⟨i,B,rfl⟩:=Array.mem_iff_getElem.1 N;have Y:=aeX B;have O:=M.size;rcases afc i with rfl|I
 ·have K:=M.g0;have f0:=M.wh (aeS _);cases hm:C.dm with
  |run=>
   rw[hm]at K;rw[Option.some.inj (Y.symm.trans K.1)];exact awake_of (.inl (ey K.2 fun y=>(jd f0 y).1))
  |blk=>
   rw[hm]at K;rw[Option.some.inj (Y.symm.trans K.1)];exact awake_of (.inr (.inl rfl))
  |dU=>
   rw[hm]at K;obtain⟨_,i,c,x,z,f0,_,_,_,_,F,_⟩:=K;rw[Option.some.inj (Y.symm.trans F)];exact awake_of (.inr (.inl rfl))
  |ns=>rw[hm]at K;exact K.elim
 ·by_cases U:i<Q.b
  ·exact awake_of ((M.old i _ I U Y).status.elim .inl fun y=>.inr (.inr y))
  ·obtain⟨k,rfl⟩:∃k,i=Q.b+k:=⟨i-Q.b,by omega⟩;have hk:k<C.j:=by omega
   have H:=M.wk k hk;have fk:=M.wh hk;cases A:C.ks k with
   |no=>rw[A]at H;exact H.elim
   |«at» pc md=>
    rw[A]at H;obtain⟨D,R,P⟩:=H;rw[Option.some.inj (Y.symm.trans D)];cases md with
    |run=>exact awake_of (.inl (ey R fun y=>(ef L fk y).1))
    |blk=>exact awake_of (.inr (.inl rfl))
    |dU=>exact awake_of (.inr (.inl rfl))
    |ns=>exact awake_of (.inl rfl)
   |cX i n=>
    rw[A]at H;obtain⟨J,D,R⟩:=H;rw[Option.some.inj (Y.symm.trans D)];exact awake_of (.inl (je R))
   |qt S=>
    rw[A]at H;obtain⟨J,D,R⟩:=H;rw[Option.some.inj (Y.symm.trans D)];exact awake_of (R.status.elim .inl fun y=>.inr (.inr y))
theorem aU.MI.step(M:Q.MI C nd fu gs w t q rel)(R:Q.Laws)(h:CI Q.J Q.bR C)(H:Calm Q.J C):∃m' ops,stepT Q.P (crowd gs w sl)=(.next m',ops)/\(Q.lu C nd fu q m' (t++ops)\/Q.tR m' (t++ops)):=by
 obtain⟨i,g,d,S,I,Y,au⟩:=crowd_pick (M.awake R) (M.live R h H);have B:=M.at d;rw[au];rcases afc i with rfl|K
 ·exact B.Ul R h H I Y
 ·by_cases A:i<Q.b
  ·have U:=M.old i g K A I;have L:(i==0)=false:=by simp;omega
   cases D:q i with
   |zero=>rw[D]at U;rw[U.1]at Y;cases Y
   |succ n=>
    rw[D]at U;rcases U with⟨y,_⟩|⟨_,g1,es,hm,F,N⟩
    ·simp_all
    ·exact⟨_,_,runT_crowd_go I (by rw[L];exact F _),.inl (B.ND R h H K A D hm N _ _)⟩
  ·obtain⟨k,rfl⟩:∃k,i=Q.b+k:=⟨i-Q.b,by omega⟩;have hk:k<C.j:=by
    have:=(ae1.1 I).1;rw[M.size]at this;omega
   obtain⟨m',ops,F,O⟩:=B.Ui R h H hk I Y;exact⟨m',ops,F,.inl O⟩
theorem aU.MI.acc(M:Q.MI C nd fu gs w t q rel)(h:CI Q.J Q.bR C):Acc (Down (fun i=>Nx Q.P (i==0) Q.E.U (Q.Df C fu i)) (Q.J.n+1)) nd:=by
 refine AY _ _ _ fun i R=>?_;cases i with
 |zero=>
  have Y:=M.g0;cases hm:C.dm with
  |run=>rw[hm]at Y;exact Y.2.acc
  |blk=>rw[hm]at Y;exact(Tz.stop Y.2.2.2).acc
  |dU=>rw[hm]at Y;exact(Tz.stop Y.1).acc
  |ns=>rw[hm]at Y;exact Y.elim
 |succ k=>
  have tr:∀{P:Program} {main:Bool} {U:Nat->Nat->Prop} (x:Nd),Acc (Nx P main U fun _ _ _ _=>True) x:=fun x=>⟨x,fun y D=>absurd trivial D.1⟩;show Acc (Nx Q.P _ _ (match C.ks k with|.at pc _=>Q.WS _ _ pc|_=>fun _ _ _ _=>True)) _
  by_cases hk:k<C.j
  ·have K:=M.wk k hk;cases H:C.ks k with
   |«at» pc md=>rw[H]at K;exact K.2.1.acc
   |no=>exact tr _
   |cX i n=>exact tr _
   |qt n=>exact tr _
  ·rw[h.no k (by omega)];exact tr _
theorem aU.phase(d:Q.Laws)(h:CI Q.J Q.bR C)(Y:Calm Q.J C)(M:Q.MI C nd fu gs w t q rel):Reach Q.P Q.tR (crowd gs w sl) t:=by
 have key:∀(O:Nat) (C:fW Q.E) (nd:Nat->Nd) (fu:Nat->Nat) (gs:Array _) (w:World) (sl:Option _) (t:Trace) (q:Nat->Nat) (rel:Nat->Option Nat),mu Q.J C=O->CI Q.J Q.bR C->Calm Q.J C->Q.MI C nd fu gs w t q rel->Reach Q.P Q.tR (crowd gs w sl) t:=by
  intro O;induction O using aeR with
  |_ O F=>
  intro C nd fu gs w sl t q rel H h Y M;have trees:∀(D:Nat->(Nat->Prop)->(Nat->Prop)->Goroutine->World->Prop) (nd:Nat->Nd),Acc (Down (fun i=>Nx Q.P (i==0) Q.E.U (D i)) (Q.J.n+1)) nd->∀(S:Nat) (C:fW Q.E) (fu:Nat->Nat) (gs:Array _) (w:World) (sl:Option _) (t:Trace) (q:Nat->Nat) (rel:Nat->Option Nat),
    Q.Df C fu=D->mu Q.J C=O->Q.nu C q=S->CI Q.J Q.bR C->Calm Q.J C->Q.MI C nd fu gs w t q rel->Reach Q.P Q.tR (crowd gs w sl) t:=by
   intro D nd A;induction A with
   |intro nd _ X=>
    intro S;induction S using aeR with
    |_ S L=>
    intro C fu gs w sl t q rel V H g h Y M;obtain⟨m',ops,G,z|hF⟩:=M.step d h Y
    ·refine Reach.step G ?_;obtain⟨C',N,R,nf,w',I,Z,ew,rfl,h',K,T,c|⟨W,j,B|⟨rfl,f⟩⟩⟩:=z
     ·exact F _ (by omega) C' N R nf w' I _ Z _ rfl h' K T
     ·rw[V]at B;exact X N B _ C' R nf w' I _ Z _ (j.trans V) (W.trans H) rfl h' K T
     ·exact L _ (by omega) C' R nf w' I _ Z _ (j.trans V) (W.trans H) rfl h' K T
    ·exact Reach.step G (Reach.here hF)
  exact trees _ nd (M.acc h) _ C fu gs w sl t q rel rfl H rfl h Y M
 exact key _ C nd fu gs w sl t q rel rfl h Y M
end
end Ph
namespace Ph
open Conc Ren
open Lock (Word PC Mv bn hr hd)
def nv(m:Word):Nat:=bn m.L+2 *bn m.K+4 *bn m.S+8 *m.W
theorem Y0(m:Word):val m=(nv m:Int):=rfl
theorem fG(b:Bool):bn b=0/\b=false\/bn b=1/\b=true:=by cases b;exact .inl ⟨rfl,rfl⟩;exact .inr ⟨rfl,rfl⟩
theorem DJ(m:Word):(nv m%2==1)=m.L:=by
 unfold nv;rcases fG m.L with⟨e,h⟩|⟨e,h⟩<;>rw[e,h]<;>simp<;>omega
theorem DK(m:Word):(nv m/2%2==1)=m.K:=by
 unfold nv;rcases fG m.L with⟨e,h⟩|⟨e,h⟩<;>rcases fG m.K with⟨Y,H⟩|⟨Y,H⟩<;>rw[e,Y,H]<;>simp<;>omega
theorem wi(m:Word):(nv m/4%2==1)=m.S:=by
 unfold nv;rcases fG m.L with⟨e,h⟩|⟨e,h⟩<;>rcases fG m.K with⟨Y,R⟩|⟨Y,R⟩<;>rcases fG m.S with⟨H,D⟩|⟨H,D⟩<;>rw[e,Y,H,D]<;>simp<;>omega
theorem wj(m:Word):nv m/8=m.W:=by
 unfold nv;rcases fG m.L with⟨e,h⟩|⟨e,h⟩<;>rcases fG m.K with⟨Y,D⟩|⟨Y,D⟩<;>rcases fG m.S with⟨H,R⟩|⟨H,R⟩<;>rw[e,Y,H]<;>omega
theorem eO(n:Nat):(n%2==0)=!(n%2==1):=by
 rcases Nat.mod_two_eq_zero_or_one n with h|h<;>rw[h]<;>rfl
theorem xL(m:Word):wd (nv m)=m:=by
 unfold wd;rw[DJ,DK,wi,wj]
theorem Um{m:Word}(h:m.W<=8):nv m<72:=by
 unfold nv;have:=Lock.lK m.L;have:=Lock.lK m.K;have:=Lock.lK m.S;omega
theorem Rt{m m':Word}(h:nv m=nv m'):m=m':=by rw[<-xL m,h,xL]
theorem val_inj{m m':Word}(h:val m=val m'):m=m':=Rt (by exact Int.ofNat.inj h)
theorem dD{p:Nat->Bool}{m:Word}(h:m.W<=8)(Y:p (nv m)=true):nv m∈(List.range 72).filter p:=List.mem_filter.2 ⟨List.mem_range.2 (Um h),Y⟩
theorem Ho(h:it<=4):aeT.wrap ((it:Int)+1)=((it+1:Nat):Int):=by
 have:it=0\/it=1\/it=2\/it=3\/it=4:=by omega
 rcases this with rfl|rfl|rfl|rfl|rfl<;>rfl
theorem eG.lf{al:List (Nat×Value)}{call:Option (FuncId×Array Value)}{load:Option (TypeId×Value)}{r:Frame×List Frame}(h:eG l site al call load r):∃j,r.1=Ph.lf site (sA al) j:=⟨_,h.fr.eq⟩
theorem Kv:bO PR 169 (fun _=>do mark .disable;pure aeY):=⟨_,Tryz.func169,by kernel_rfl,by kernel_rfl,by kernel_rfl,by kernel_rfl⟩
theorem DN:bO PR 170 (fun _=>do mark .enable;pure aeY):=⟨_,Tryz.func170,by kernel_rfl,by kernel_rfl,by kernel_rfl,by kernel_rfl⟩
theorem Un:bO PR 182 (Extern.Race.marked .acquire):=⟨_,Tryz.func182,by kernel_rfl,by kernel_rfl,by kernel_rfl,by kernel_rfl⟩
theorem Uo:bO PR 168 (Extern.Race.marked .releaseMerge):=⟨_,Tryz.func168,by kernel_rfl,by kernel_rfl,by kernel_rfl,by kernel_rfl⟩
theorem Bb:bO PR 204 (afd (.int .i32)):=⟨_,Tryz.func204,by kernel_rfl,by kernel_rfl,by kernel_rfl,by kernel_rfl⟩
theorem Up:bO PR 206 (ae9 (Op.intArith .add) .i32 true):=⟨_,Tryz.func206,by kernel_rfl,by kernel_rfl,by kernel_rfl,by kernel_rfl⟩
theorem Uq:bO PR 214 Extern.Sync.canSpin:=⟨_,Tryz.func214,by kernel_rfl,by kernel_rfl,by kernel_rfl,by kernel_rfl⟩
theorem Ur:bO PR 217 Extern.OsHooks.nano:=⟨_,Tryz.func217,by kernel_rfl,by kernel_rfl,by kernel_rfl,by kernel_rfl⟩
theorem Us:(PR.funcs[217]?).any (·.norace)=true:=by kernel_rfl
theorem Ut:bO PR 218 ae6:=⟨_,Tryz.func218,by kernel_rfl,by kernel_rfl,by kernel_rfl,by kernel_rfl⟩
theorem NF:bO PR 220 ae7:=⟨_,Tryz.func220,by kernel_rfl,by kernel_rfl,by kernel_rfl,by kernel_rfl⟩
theorem Uu:(PR.funcs[205]?).any (·.norace)=true:=by kernel_rfl
theorem FN:pW PR (isAgg 21)=some false:=by kernel_rfl
theorem u253:PR.underlying 253=some (.pointer 187):=by simp
theorem u159:PR.underlying 159=some .unsafePointer:=by simp
theorem i187:(PR.info? 187).map (fun i=>decide (i.size=0))=some false:=by kernel_rfl
theorem Y1:bO PR 215 Extern.Sync.nothing:=⟨_,Tryz.func215,by kernel_rfl,by kernel_rfl,by kernel_rfl,by kernel_rfl⟩
theorem NG{cs:List _}(h:ahead f=some (215,#[])):stepG PR main (G f cs) w=.go (G (f.finish unit) cs) w #[]:=
 dz Y1 h (by rfl) (by rfl) (by simp)
theorem stood{r:Frame×List _}{l:List _}{site:List _}{al:List _}{call:Option _}{load:Option _}(h:look ks r=fy l site al call load)(hk:al.map (·.1)=ks):eG l site al call load r:=by
 subst hk;exact stands h
theorem wrap_small{z:Nat}(h:z<1000):ae0.wrap z=z:=by
 simp[IntKind.wrap,IntKind.bits];omega
namespace Env
section
variable{E:Env}{A:(Nat->Prop)->(Nat->Prop)->Goroutine->World->Prop}{x:Nat}{S X:Nat->Prop}{Fx:World->Prop}{c:Frame}{cs B:List Frame}
def DR(E:Env)(A:(Nat->Prop)->(Nat->Prop)->Goroutine->World->Prop)(x:Nat)(S X:Nat->Prop)(Fx:World->Prop)(c:Frame)(cs:List _):=
 ∀k w γ,Fx w->E.eZ γ (w.heap[E.Mp]?)->E.Tree PR false (E.dp PR A k (.ur (E.upd γ x))) (fun a=>S a\/a=E.Mp) (fun a=>X a\/a=E.Mp) (G (c.finish unit) cs) w
theorem via{D:(Nat->Prop)->(Nat->Prop)->Goroutine->World->Prop}{site:List _}{al:List _}{l:List _}(Y:Fr site (sA al) f)(k:∀j w3,az E.U S w w3->E.Tree PR false D S X (G (aQ PR 300 ((lf site (sA al) j).finish v) l).1 (aQ PR 300 ((lf site (sA al) j).finish v) l).2) w3):E.Tree PR false D S X (G (f.finish v) l) w:=by
 rw[Y.eq];exact Tz.pure 300 fun w3 hr=>k _ w3 hr
variable(jJ:∀i,¬E.U E.Mp i)(K:E.Kn S Fx)(hB:B=(Tw E.Fd c cs).2)(hT:DR E A x S X Fx c cs)
section
include jJ K hT
theorem P3{l:List _}(n:Nat)(h:ahead f=some (182,#[ptr E.Fd]))(R:aQ PR n (f.finish unit) l=(c.finish unit,cs))(k:Nat)(hF:Fx w):E.Tree PR false (E.dp PR A k (.la x)) S X (G f l) w:=by
 refine .stop ?_;cases k with
 |zero=>trivial
 |succ k=>
  refine⟨rfl,rfl,fun w2 γ hr hm=>⟨G (f.finish unit) l,eX (by simp) Un h,Tz.pure n fun w3 Y=>?_⟩⟩;rw[R];have H:=K.rely (K.rely hF hr) (xD (fun a D=>.inl D) Y);refine hT k w3 γ H ?_;have:=(Y.kept _ (.inr rfl)).eq fun i hu=>jJ i hu;simp_all
theorem NH{l:List _}(n:Nat)(D:gU f=some (253,159,ptr E.Fd))(h:ahead (aQ PR 300 (f.finish (ptr E.Fd)) l).1=some (182,#[ptr E.Fd]))(R:aQ PR n ((aQ PR 300 (f.finish (ptr E.Fd)) l).1.finish unit) (aQ PR 300 (f.finish (ptr E.Fd)) l).2=(c.finish unit,cs))(k:Nat)(hF:Fx w):
  E.Tree PR false (E.dp PR A k (.la x)) S X (G f l) w:=by
 refine Tz.one rfl fun w2 hr=>?_;have Y:=K.rely hF hr;obtain⟨v,I⟩:=(K.fd Y).cell0;refine⟨G _ l,w2,#[],S,X,eY D u253 u159 i187 I,ay S X w2,Tz.pure 300 fun w3 H=>?_⟩;exact P3 jJ K hT n h R k (K.rely Y H)
end
include jJ K hB hT
theorem P4{aK it:Int}{sv aw:Bool}{r:Frame×List _}(h:eG B yS (jo E.Fd aK sv aw it) (some (170,#[])) none r)(k:Nat)(hF:Fx w):E.Tree PR false (E.dp PR A k (.le x)) S X (G r.1 r.2) w:=by
 refine .stop ?_;cases k with
 |zero=>trivial
 |succ k=>
  refine⟨rfl,rfl,fun w2 hr=>⟨G _ r.2,cS (by simp) DN h.call,Tz.pure 300 fun w3 U=>?_⟩⟩;have D:=K.rely (K.rely hF hr) U;obtain⟨j,L⟩:=h.lf;rw[L,h.callers];have Y:=stood (Nl (Fd:=E.Fd) (aK:=aK) (sv:=sv) (aw:=aw) (it:=it) (j:=j) (l:=B)) rfl;have F:=Nn (Fd:=E.Fd) (aK:=aK) (sv:=sv) (aw:=aw) (it:=it) (j:=j) (l:=B);change E.Tree PR _ _ S X (G (qp _ aK sv aw it j B).1 (qp E.Fd aK sv aw it j B).2) w3;generalize qp E.Fd aK sv aw it j B=r1 at Y F;obtain⟨C,R⟩:=Y.lf;obtain⟨f1,l1⟩:=r1;have J:=Y.callers.symm;subst J R;have H:=stood (Np (Fd:=E.Fd) (aK:=aK) (sv:=sv) (aw:=aw) (it:=it) (j:=C) (l:=B)) rfl;have M:aQ PR 9 ((yY E.Fd aK sv aw it C B).1.finish unit) (yY E.Fd aK sv aw it C B).2=(c.finish unit,cs):=by
   obtain⟨j2,I⟩:=H.lf;rw[I,H.callers,hB];exact Rh
  exact NH jJ K hT 9 F H.call M k D
def Reads(E:Env)(A:(Nat->Prop)->(Nat->Prop)->Goroutine->World->Prop)(x:Nat)(S X:Nat->Prop)(Fx:World->Prop)(B:List Frame)(k:Nat):Prop:=
 ∀(site:List Item) (aK:Int) (sv aw:Bool) (it:Nat) (r:Frame×List Frame) (w:World),(site=JN\/site=Dk\/site=yR)->eG B site (jo E.Fd aK sv aw it) none (some (21,ptr E.Fd)) r->Fx w->E.Tree PR false (E.dp PR A k (.lk (.rd aw sv it) x)) S X (G r.1 r.2) w
theorem Uv{aK it:Int}{sv aw:Bool}{old:Word}{r:Frame×List Frame}(h:eG B tJ (jo E.Fd aK sv aw it) (some (206,#[ptr E.Fd,.int .i32 (delta sv (nv old))])) none r)(k:Nat)(hF:Fx w):E.Tree PR false (E.dp PR A k (.lk (.a1 old sv) x)) S X (G r.1 r.2) w:=by
 refine .stop ?_;cases k with
 |zero=>trivial
 |succ k=>
  refine⟨rfl,rfl,fun w2 m C hr H M D hW O=>.inr ?_⟩;obtain⟨F,p2,p3⟩:=D;have Y:ae0.wrap (val m+delta sv (nv old))=val ⟨true,m.K,if sv=false\/old.W=1 then false else m.S,m.W-1⟩:=by
   have hd:delta sv (nv old)=if sv=false\/old.W=1 then-11 else-7:=by
    unfold delta;rw[wj];simp_all
   rw[hd];have N:=Lock.lK m.K;have b0:bn false=0:=rfl;have b1:bn true=1:=rfl;by_cases R:sv=false\/old.W=1
   ·rw[if_pos R,if_pos R];unfold val;simp only[F,p2,b0,b1];have e:((0+2 *bn m.K+4 *1+8 *m.W:Nat))+ -11=((1+2 *bn m.K+4 *0+8 *(m.W-1):Nat):Int):=by omega
    rw[e];exact wrap_small (by omega)
   ·rw[if_neg R,if_neg R];unfold val;simp only[F,p2,b0,b1];have e:((0+2 *bn m.K+4 *1+8 *m.W:Nat))+ -7=((1+2 *bn m.K+4 *1+8 *(m.W-1):Nat):Int):=by omega
    rw[e];exact wrap_small (by omega)
  refine⟨_,_,C,G _ r.2,_,_,Mv.a1 m old C sv,oY Up h.call H.cell0 (H.thaw 0),by rw[Y];exact H.kg _,Eff.set _ _ _ _,EvA.two _ _ (by omega),fun L=>by omega,?_⟩;have I:Fx (w2.setCell E.mu (.int .i32 (ae0.wrap (val m+delta sv (nv old))))):=by rw[Y];exact K.tw (K.rely hF hr) H (Eff.set _ _ _ _) (H.kg _)
  refine via h.fr fun j w3 U=>?_;rw[h.callers];have J:=stood (Nk (Fd:=E.Fd) (aK:=aK) (sv:=sv) (aw:=aw) (it:=it) (x:=ae0.wrap (val m+delta sv (nv old))) (j:=j) (l:=B)) rfl;exact P4 jJ K hB hT J k (K.rely I U)
end
end Env
theorem Hp{U:Nat->Nat->Prop}(S X:Nat->Prop)(w:World):fj U S X w w.later #[] S X:=⟨⟨fun _ _ _=>rfl,aeM _,fun a=>⟨.inl,fun h=>h.resolve_right fun y=>by simp[World.later]at y;omega⟩,fun a=>⟨.inl,fun h=>h.resolve_right fun y=>by simp[World.later]at y;omega⟩,fun e he=>by simp_all,rfl,⟨w.tick,rfl⟩,rfl⟩,fun e he=>by simp_all⟩
theorem Kx{a b:Bool}(h:¬(a=true/\b=false)):(a&&!b)=false:=by simp_all
namespace Env
section
variable{E:Env}{A:(Nat->Prop)->(Nat->Prop)->Goroutine->World->Prop}{x:Nat}{S X:Nat->Prop}{Fx:World->Prop}{c:Frame}{cs B:List Frame}
variable(jJ:∀i,¬E.U E.Mp i)(K:E.Kn S Fx)(hB:B=(Tw E.Fd c cs).2)(hT:DR E A x S X Fx c cs)
include jJ K hB hT
def AtC2(E:Env)(A:(Nat->Prop)->(Nat->Prop)->Goroutine->World->Prop)(x:Nat)(S X:Nat->Prop)(Fx:World->Prop)(B:List Frame)(k:Nat):Prop:=
 ∀(m:Word) (aK:Int) (sv aw:Bool) (it:Nat) (r:Frame×List Frame) (w:World),m.W<=8->(sv=true->aw=true)->(aw=true->m.K=true)->it<=4->look [6,0,2,3,4,5] r=toC2 B E.Fd aK sv aw it (nv m)->Fx w->E.Tree PR false (E.dp PR A k (.lk (.c2 m aw sv it) x)) S X (G r.1 r.2) w
def qy(E:Env)(A:(Nat->Prop)->(Nat->Prop)->Goroutine->World->Prop)(x:Nat)(S X:Nat->Prop)(Fx:World->Prop)(B:List Frame)(k:Nat):Prop:=
 ∀(m:Word) (aK:Int) (sv aw:Bool) (it:Nat) (r:Frame×List Frame) (w:World),m.W<=8->(sv=true->aw=true)->(aw=true->m.K=true)->it<=4->eG B xE (JM E.Fd aK sv aw it (nv m)) none none r->Fx w->E.Tree PR false (E.dp PR A k (behind (hr m aw sv it) x)) S X (G r.1 r.2) w
omit jJ K hB hT in
theorem Hq(m:Word)(aw sv:Bool)(it:Nat):(behind (.hw m aw sv it) x:E.pX)=.lk (.hw m aw sv it) x:=rfl
omit jJ K hB hT in
theorem xM(m:Word)(aw sv:Bool)(it:Nat):(behind (.c2 m aw sv it) x:E.pX)=.lk (.c2 m aw sv it) x:=rfl
theorem Ky(D:Reads E A x S X Fx B k){aK:Int}{sv aw:Bool}(hit:it<=4){r:Frame×List _}(h:eG B qm (jo E.Fd aK sv aw it) (some (215,#[])) none r)(hF:Fx w):E.Tree PR false (E.dp PR A k (.lk (.rd aw sv (it+1)) x)) S X (G r.1 r.2) w:=by
 refine Tz.one rfl fun w2 hr=>⟨G _ r.2,w2,#[],S,X,NG h.call,ay S X w2,via h.fr fun j w3 Y=>?_⟩;rw[h.callers];have H:=stood (Nf (Fd:=E.Fd) (aK:=aK) (sv:=sv) (aw:=aw) (it:=it) (j:=j) (l:=B)) rfl;rw[Ho hit]at H;exact D _ aK sv aw _ _ w3 (.inr (.inl rfl)) H (K.rely (K.rely hF hr) Y)
theorem Uw(F:∀k',k'<k->Reads E A x S X Fx B k'){m:Word}(L:m.W<=8){aK:Int}(hit:it<4){r:Frame×List _}(h:eG B Dj (YM E.Fd aK false false it (nv m)) (some (204,#[ptr E.Fd,.int .i32 (nv m),.int .i32 (val {m with K:=true})])) none r)(hF:Fx w):E.Tree PR false (E.dp PR A k (.lk (.c1 m it) x)) S X (G r.1 r.2) w:=by
 refine .stop ?_;cases k with
 |zero=>trivial
 |succ k=>
  refine⟨rfl,rfl,fun w2 m2 D hr Y C U hW J=>.inr ?_⟩;by_cases hm:m2=m
  ·subst hm;refine⟨_,_,D,G _ r.2,_,_,Mv.Yz m2 D it,fq Bb h.call Y.cell0 (Y.thaw 0),Y.kg _,Eff.set _ _ _ _,EvA.two _ _ (by omega),fun I=>by omega,via h.fr fun j w3 H=>?_⟩;rw[h.callers];have R:=stood (JS (Fd:=E.Fd) (aK:=aK) (sv:=false) (aw:=false) (it:=it) (old:=(nv m2)) (j:=j) (l:=B)) rfl;exact Ky jJ K hB hT (F k (by omega)) (by omega) R (K.rely (K.tw (K.rely hF hr) Y (Eff.set _ _ _ _) (Y.kg _)) H)
  ·refine⟨_,_,D,G _ r.2,_,_,Mv.YA m2 m D it hm,eM Bb h.call Y.cell0 (Y.thaw 0) (fun e=>hm (val_inj e)),Y,Eff.refl _ _,EvA.one _ _ _ (by omega),fun I=>by omega,via h.fr fun j w3 H=>?_⟩;rw[h.callers];have R:=stood (JU (Fd:=E.Fd) (aK:=aK) (sv:=false) (aw:=false) (it:=it) (old:=(nv m)) (j:=j) (l:=B)) rfl;exact Ky jJ K hB hT (F k (by omega)) (by omega) R (K.rely (K.rely hF hr) H)
theorem Ux(d:∀k',k'<k->Reads E A x S X Fx B k')(hC:∀k',k'<k->AtC2 E A x S X Fx B k'){m:Word}(H:m.W<=8){aK:Int}{sv aw:Bool}(V:sv=true->aw=true)(M:aw=true->m.K=true)(hit:it<=4)(F:m.L=true/\m.S=false)
  {r:Frame×List Frame}(h:eG B tD (YL E.Fd aK sv aw it (nv m)) (some (214,#[.int .i64 (it:Int)])) none r)(hF:Fx w):E.Tree PR false (E.dp PR A k (.lk (.hw m aw sv it) x)) S X (G r.1 r.2) w:=by
 refine .stop ?_;cases k with
 |zero=>trivial
 |succ k=>
  have I:(nv m%2==1&&nv m/4%2==0)=true:=by rw[DJ,eO,wi,F.1,F.2];rfl
  have no:∀w1,Fx w1->E.Tree PR false (E.dp PR A k (behind (hd m aw sv it false) x)) S X (G (r.1.finish (.bool false)) r.2) w1:=by
   intro w1 R;have e:hd m aw sv it false=.c2 m aw sv it:=by unfold hd;simp
   rw[e,xM];refine via h.fr fun j w3 D=>?_;rw[h.callers];have Y:nv m∈nY aw:=dD H (by
    rw[I,DK];cases aw with
    |false=>rfl
    |true=>rw[M rfl];rfl)
   refine hC k (by omega) m aK sv aw it _ w3 H V M hit ?_ (K.rely R D);cases aw with
   |false=>
    have:sv=false:=by simp_all
    subst this;exact jF Hd Y
   |true=>
    cases sv with
    |false=>exact jF He Y
    |true=>exact jF Hf Y
  have yes:it<4->∀w1,Fx w1->E.Tree PR false (E.dp PR A k (behind (hd m aw sv it true) x)) S X (G (r.1.finish (.bool true)) r.2) w1:=by
   intro N w1 R;by_cases Z:aw=false/\m.K=false/\m.W≠0
   ·have e:hd m aw sv it true=.c1 m it:=by unfold hd;simp_all
    rw[e];obtain⟨rfl,O,P⟩:=Z;have:sv=false:=by simp_all
    subst this;refine via h.fr fun j w3 D=>?_;rw[h.callers];have Y:nv m∈JW:=dD H (by rw[I,eO,DK,O,wj];simp[P]);have J:=stood (jF (Hg (Fd:=E.Fd) (aK:=aK) (sv:=false) (it:=(it:Int)) (j:=j) (l:=B)) Y) rfl;rw[xL]at J;exact Uw jJ K hB hT (fun k' q=>d k' (by omega)) H N J (K.rely R D)
   ·have e:hd m aw sv it true=.rd aw sv (it+1):=by unfold hd;simp_all
    rw[e];refine via h.fr fun j w3 D=>?_;rw[h.callers];have J:eG B qm (jo E.Fd aK sv aw it) (some (215,#[])) none (fA E.Fd aK sv aw it (nv m:Int) true j B):=by
     cases aw with
     |true=>exact stood (jF (Hi (aK:=aK) (sv:=sv) (j:=j) (l:=B)) (dD H I)) rfl
     |false=>
      refine stood (jF (Hh (Fd:=E.Fd) (aK:=aK) (sv:=sv) (it:=(it:Int)) (j:=j) (l:=B)) (dD H ?_)) rfl;rw[I,eO,DK,wj];cases O:m.K with
      |true=>rfl
      |false=>
       have:m.W=0:=ae2 fun y=>Z ⟨rfl,O,y⟩;rw[this];rfl
    exact Ky jJ K hB hT (d k (by omega)) hit J (K.rely R D)
  refine⟨rfl,rfl,fun w2 m2 C hr U z T hW c=>.inr ?_⟩;by_cases N:it<4
  ·refine⟨_,m2,C,G _ r.2,w2.asked,#[],Mv.hw m2 m C aw sv it w2.spins,vY h.call Uq (by omega),U.asked,Eff.asked _ _,EvA.nil _,fun Q=>by omega,?_⟩;cases w2.spins with
   |false=>exact no w2.asked (K.tw (K.rely hF hr) U (Eff.asked _ _) U.asked)
   |true=>exact yes N w2.asked (K.tw (K.rely hF hr) U (Eff.asked _ _) U.asked)
  ·exact⟨_,m2,C,G _ r.2,w2,#[],Mv.hw m2 m C aw sv it false,yN h.call Uq (by omega),U,Eff.refl _ _,EvA.nil _,fun Q=>by omega,no w2 (K.rely hF hr)⟩
theorem NI(O:∀k',k'<k->Reads E A x S X Fx B k')(hC:∀k',k'<=k->AtC2 E A x S X Fx B k'):qy E A x S X Fx B k:=by
 intro m aK sv aw it r w H I D hit h hF;obtain⟨j,M⟩:=h.lf;rw[M,h.callers];refine Tz.pure 300 fun w3 C=>?_;have R:=K.rely hF C;by_cases U:m.L=true/\m.S=false
 ·have e:hr m aw sv it=.hw m aw sv it:=by unfold hr;simp_all
  rw[e,Hq];have F:(nv m%2==1&&nv m/4%2==0)=true:=by rw[DJ,eO,wi,U.1,U.2];rfl
  have J:=stood (jF (JR (Fd:=E.Fd) (aK:=aK) (sv:=sv) (aw:=aw) (it:=it) (j:=j) (l:=B)) (dD H F)) rfl;exact Ux jJ K hB hT O (fun k' N=>hC k' (by omega)) H I D hit U J R
 ·have e:hr m aw sv it=.c2 m aw sv it:=by unfold hr;simp_all
  rw[e,xM];have Y:nv m∈tG aw:=dD H (by
   rw[DJ,eO,wi,DK,Kx U];cases aw with
   |false=>rfl
   |true=>rw[D rfl];rfl)
  refine hC k (aeM _) m aK sv aw it _ w3 H I D hit ?_ R;cases aw with
  |false=>
   have:sv=false:=by simp_all
   subst this;exact jF Ha Y
  |true=>
   cases sv with
   |false=>exact jF Hb Y
   |true=>exact jF Hc Y
end
end Env
namespace Env
section
variable{E:Env}{A:(Nat->Prop)->(Nat->Prop)->Goroutine->World->Prop}{x:Nat}{S X:Nat->Prop}{Fx:World->Prop}{c:Frame}{cs B:List Frame}
variable(jJ:∀i,¬E.U E.Mp i)(K:E.Kn S Fx)(hB:B=(Tw E.Fd c cs).2)(hT:DR E A x S X Fx c cs)
include jJ K hB hT
theorem P5(V:∀k',k'<k->qy E A x S X Fx B k'){aK it:Int}{sv aw:Bool}{r:Frame×List _}(h:eG B yX (jo E.Fd aK sv aw it) none (some (21,ptr E.Fd)) r)(hF:Fx w):E.Tree PR false (E.dp PR A k (.lk (.r2 sv) x)) S X (G r.1 r.2) w:=by
 refine .stop ?_;cases k with
 |zero=>trivial
 |succ k=>
  refine⟨rfl,rfl,fun w2 m F hr L P C hW T=>.inr ?_⟩;have R:stepG PR false (G r.1 r.2) w2=.go _ w2 #[]:=j9 h.load FN L.cell0 (by rw[h.fr.fn];exact Uu);have N:∀(D:(Nat->Prop)->(Nat->Prop)->Goroutine->World->Prop),(∀j w3,az E.U S w2 w3->E.Tree PR false D S X (G (nZ E.Fd aK sv aw it (nv m) j B).1 (nZ E.Fd aK sv aw it (nv m) j B).2) w3)->E.Tree PR false D S X (G (r.1.finish (.int .i32 (val m))) r.2) w2:=by
   intro D hk;rw[h.fr.eq,h.callers];exact Tz.AU 300 fun w3 H=>hk _ w3 H
  cases Y:m.S with
  |false=>
   refine⟨_,m,F,_,w2,#[],Mv.Xk m F sv Y,R,L,Eff.refl _ _,EvA.nil _,fun M=>by omega,N _ fun j w3 H=>?_⟩;have J:=stood (jF (J4 (Fd:=E.Fd) (aK:=aK) (sv:=sv) (aw:=aw) (it:=it) (j:=j) (l:=B)) (dD hW (by rw[eO,wi,Y];rfl))) rfl;exact V k (by omega) m aK sv true 0 _ w3 hW (fun _=>rfl) (fun _=>C.2 Y) (by omega) J (K.rely (K.rely hF hr) H)
  |true=>
   refine⟨_,m,F,_,w2,#[],Mv.YE m F sv Y,R,L,Eff.refl _ _,EvA.nil _,fun M=>by omega,N _ fun j w3 H=>?_⟩;obtain⟨Q,p2,p3⟩:=C.1 Y;have O:(nv m%4==0)=true:=by
    unfold nv;have b0:bn false=0:=rfl;rw[Q,p2,b0];simp;omega
   have I:nv m∈hard:=dD hW (by rw[O,wi,Y,wj];simp;omega);have J:eG B tJ (jo E.Fd aK sv aw it) (some (206,#[ptr E.Fd,.int .i32 (delta sv (nv m))])) none (nZ E.Fd aK sv aw it (nv m) j B):=by
    cases sv with
    |false=>exact stood (jF (Dr) I) rfl
    |true=>exact stood (jF (Ds) I) rfl
   exact Uv jJ K hB hT J k (K.rely (K.rely hF hr) H)
theorem Uy(U:∀k',k'<k->qy E A x S X Fx B k'){aK it:Int}{aw:Bool}{r:Frame×List _}(h:eG B Dq ((95,.bool false)::jo E.Fd aK false aw it) (some (217,#[])) none r)(hF:Fx w):E.Tree PR false (E.dp PR A k (.lk .t2 x)) S X (G r.1 r.2) w:=by
 refine .stop ?_;cases k with
 |zero=>trivial
 |succ k=>
  refine⟨rfl,rfl,fun w2 m D hr Y J R hW L=>.inr ?_⟩;refine⟨_,m,D,G _ r.2,w2.later,#[],Mv.t2 m D (decide (1000000<aeT.wrap (((w2.os.mono+w2.tick))-aK))),xy h.call Ur Us,Y.later,Eff.later _ _,EvA.nil _,fun F=>by omega,via h.fr fun j w3 H=>?_⟩;rw[h.callers];have I:=stood (Nj (Fd:=E.Fd) (aK:=aK) (T:=((w2.os.mono+w2.tick))) (aw:=aw) (it:=it) (j:=j) (l:=B)) rfl;exact P5 jJ K hB hT (fun k' C=>U k' (by omega)) I (K.rely (K.tw (K.rely hF hr) Y (Eff.later _ _) Y.later) H)
theorem P6(U:∀k',k'<k->qy E A x S X Fx B k'){aK it:Int}{sv aw:Bool}{v8:Value}{r:Frame×List _}(h:eG B yT (jo E.Fd aK sv aw it) (some (218,#[.pointer (some E.ms),v8,.int .i64 2])) none r)(hF:Fx w):E.Tree PR false (E.dp PR A k (.lk (.s1 sv) x)) S X (G r.1 r.2) w:=by
 refine .stop ?_;cases k with
 |zero=>trivial
 |succ k=>
  refine⟨rfl,rfl,fun w2 m F hr Y J C hW M=>?_⟩;cases F with
  |zero=>exact .inl ⟨sv,rfl,rfl,nk Ut h.call rfl Y.lL⟩
  |succ c0=>
   have L:(((c0+1:Nat):Int)-1)=c0:=by omega
   have au:=kV (main:=false) (cs:=r.2) Ut h.call rfl Y.lL (by omega) (Y.thaw 1);rw[L]at au;refine .inr ?_;cases sv with
   |false=>
    refine⟨_,m,c0,_,_,_,Mv.YC m c0,au,Y.r9 c0,Eff.set _ _ _ _,EvA.Tv _ _ (by omega),fun I=>by omega,?_⟩;refine via h.fr fun j w3 H=>?_;rw[h.callers];have D:=stood (J0 (Fd:=E.Fd) (aK:=aK) (aw:=aw) (it:=it) (j:=j) (l:=B)) rfl;exact Uy jJ K hB hT (fun k' R=>U k' (by omega)) D (K.rely (K.tw (K.rely hF hr) Y (Eff.set _ _ _ _) (Y.r9 c0)) H)
   |true=>
    refine⟨_,m,c0,_,_,_,Mv.YD m c0,au,Y.r9 c0,Eff.set _ _ _ _,EvA.Tv _ _ (by omega),fun I=>by omega,?_⟩;refine via h.fr fun j w3 H=>?_;rw[h.callers];have D:=stood (J1 (Fd:=E.Fd) (aK:=aK) (aw:=aw) (it:=it) (j:=j) (l:=B)) rfl;exact P5 jJ K hB hT (fun k' R=>U k' (by omega)) D (K.rely (K.tw (K.rely hF hr) Y (Eff.set _ _ _ _) (Y.r9 c0)) H)
theorem Uz(ih:∀k',k'<k->Reads E A x S X Fx B k')(d:∀k',k'<k->qy E A x S X Fx B k'):AtC2 E A x S X Fx B k:=by
 intro m aK sv aw it r w F b u hit y hF;have h:=stood y rfl;refine .stop ?_;cases k with
 |zero=>trivial
 |succ k=>
  refine⟨rfl,rfl,fun w2 m2 M hr R n g hW hc=>.inr ?_⟩;have H:=by
   have:=h.call;rw[xL]at this;exact this
  by_cases hm:m2=m
  ·subst hm;refine⟨_,_,M,G (r.1.finish (.bool true)) r.2,_,_,Mv.Xj m2 M aw sv it,fq Bb H R.cell0 (R.thaw 0),R.kg _,Eff.set _ _ _ _,EvA.two _ _ (by omega),fun W=>by omega,?_⟩;have U:=K.tw (K.rely hF hr) R (Eff.set _ _ _ _) (R.kg (Lock.nw m2 aw sv));by_cases N:m2.L=false/\m2.S=false
   ·rw[if_pos N];refine via h.fr fun j w3 D=>?_;rw[h.callers];have Y:=stood (jF (Ng (Fd:=E.Fd) (aK:=aK) (sv:=sv) (aw:=aw) (it:=(it:Int)) (j:=j) (l:=B)) (dD F (by rw[eO,DJ,eO,wi,N.1,N.2];rfl))) rfl;exact P4 jJ K hB hT Y k (K.rely U D)
   ·rw[if_neg N];rw[h.fr.eq,h.callers];refine Tz.PU 87 300 fun w3 D=>?_;have P:=K.rely U D;have J:nv m2∈yV:=dD F (by
     rw[eO,DJ,eO,wi];cases a:m2.L<;>cases s:m2.S<;>simp_all)
    have Y:=stood (jF (Nh (Fd:=E.Fd) (aK:=aK) (sv:=sv) (aw:=aw) (it:=(it:Int)) (j:=fun i=>r.1.tmps.getD i undef) (l:=B)) J) rfl;change E.Tree PR false _ S X (G (o9 E.Fd aK sv aw (it:Int) (nv m2:Int) _ B).1 (o9 E.Fd aK sv aw (it:Int) (nv m2:Int) _ B).2) w3;generalize o9 E.Fd aK sv aw (it:Int) (nv m2:Int) _ B=r1 at Y;have o:Fr Dn (sA ((87,.bool (decide (aK=0)))::(8,r1.1.tmps.getD 8 undef)::jo E.Fd aK sv aw it)) r1.1:=by
     refine⟨Y.fr.fn,Y.fr.todo,Y.fr.defers,Y.fr.mode,Y.fr.kind,Y.fr.round,Y.fr.size,fun i v e=>?_⟩;by_cases f:i=8
     ·subst f;exact Option.some.inj e
     ·refine Y.fr.slot i v ?_;rw[<-e];unfold sA;rw[ae3,ae3,ae3];have:(i==8)=false:=by simpa using f
      rw[this]
    rw[o.eq,Y.callers];refine Tz.pure 300 fun w4 q=>?_;have C:=K.rely P q;cases hd:decide (aK=0)with
    |false=>
     have I:=stood (JZ (Fd:=E.Fd) (aK:=aK) (sv:=sv) (aw:=aw) (it:=(it:Int)) (v8:=r1.1.tmps.getD 8 undef) (j:=fun i=>r1.1.tmps.getD i undef) (l:=B)) rfl;exact P6 jJ K hB hT (fun k' Z=>d k' (by omega)) I C
    |true=>
     have I:=stood (JY (Fd:=E.Fd) (aK:=aK) (sv:=sv) (aw:=aw) (it:=(it:Int)) (v8:=r1.1.tmps.getD 8 undef) (j:=fun i=>r1.1.tmps.getD i undef) (l:=B)) rfl;change E.Tree PR false _ S X (G _ (Dp E.Fd aK sv aw true (it:Int) (r1.1.tmps.getD 8 undef) _ B).2) w4;refine Tz.one rfl fun O z=>⟨_,_,_,S,X,xy I.call Ur Us,Hp S X O,via I.fr fun j t c=>?_⟩;have Q:Fx O.later:=K.later (K.rely C z);have V:Fx t:=K.rely Q c;rw[I.callers];have p:=stood (Ni (Fd:=E.Fd) (sv:=sv) (aw:=aw) (it:=(it:Int)) (T:=((O.os.mono+O.tick:Nat):Int)) (v8:=r1.1.tmps.getD 8 undef) (aK:=aK) (j:=j) (l:=B)) rfl;exact P6 jJ K hB hT (fun k' Z=>d k' (by omega)) p V
  ·refine⟨_,_,M,G (r.1.finish (.bool false)) r.2,_,_,Mv.YB m2 m M aw sv it hm,eM Bb H R.cell0 (R.thaw 0) (fun e=>hm (val_inj e)),R,Eff.refl _ _,EvA.one _ _ _ (by omega),fun W=>by omega,?_⟩;refine via h.fr fun j w3 D=>?_;rw[h.callers];have Y:=stood (JV (Fd:=E.Fd) (aK:=aK) (sv:=sv) (aw:=aw) (it:=(it:Int)) (old:=(nv m:Int)) (j:=j) (l:=B)) rfl;exact ih k (by omega) yR aK sv aw it _ w3 (.inr (.inr rfl)) Y (K.rely (K.rely hF hr) D)
theorem Hr:∀k,Reads E A x S X Fx B k:=by
 intro k;induction k using aeR with
 |_ k M=>
 have Y:∀k',k'<k->qy E A x S X Fx B k'/\AtC2 E A x S X Fx B k':=by
  intro k';induction k' using aeR with
  |_ k' C=>
  intro N;have c2:=Uz jJ K hB hT (fun q U=>M q (by omega)) (fun q U=>(C q U (by omega)).1);refine⟨NI jJ K hB hT (fun q U=>M q (by omega)) (fun q U=>?_),c2⟩;rcases Nat.lt_or_eq_of_le U with D|rfl
  ·exact(C q D (by omega)).2
  ·omega
 intro site aK sv aw it r w H h hF;refine .stop ?_;cases k with
 |zero=>trivial
 |succ k=>
  refine⟨rfl,rfl,fun w2 m J hr L R I hW O=>.inr ?_⟩;refine⟨_,m,J,_,w2,#[],Mv.rd m J aw sv it,j9 h.load FN L.cell0 (by rw[h.fr.fn];exact Uu),L,Eff.refl _ _,EvA.nil _,fun D=>by omega,?_⟩;rw[h.fr.eq,h.callers];refine Tz.AU 60 fun w3 F=>?_;refine(Y k (by omega)).1 m aK sv aw it _ w3 hW R.1 I R.2 ?_ (K.rely (K.rely hF hr) F);rcases H with e|e|e
  ·rw[e];exact stood Dm rfl
  ·rw[e];exact stood AW rfl
  ·rw[e];exact stood AX rfl
omit hB in
theorem NJ(k:Nat)(hF:Fx w):E.Tree PR false (E.dp PR A k (.ld x)) S X (G (Frame.enter PR 160 #[ptr E.Fd] .normal) (c::cs)) w:=by
 refine Tz.pure 60 fun w1 J=>?_;have B:=K.rely hF J;refine .stop ?_;cases k with
 |zero=>trivial
 |succ k=>
  refine⟨rfl,rfl,fun w2 hr=>⟨G _ _,cS (by simp) Kv la0,Tz.pure 60 fun w3 L=>?_⟩⟩;have D:=K.rely (K.rely B hr) L;refine .stop ?_;cases k with
  |zero=>trivial
  |succ k=>
   refine⟨rfl,rfl,fun w4 m U I Y Z Q hW q=>.inr ?_⟩;by_cases hm:m=.zero
   ·subst hm;refine⟨_,_,U,G _ _,_,_,Mv.Xi U,fq Bb la1 Y.cell0 (Y.thaw 0),Y.kg ⟨true,false,false,0⟩,Eff.set _ _ _ _,EvA.two _ _ (by omega),fun F=>by omega,Tz.pure 60 fun T H=>?_⟩;have C:=K.rely (K.tw (K.rely D I) Y (Eff.set _ _ _ _) (Y.kg ⟨true,false,false,0⟩)) H;refine .stop ?_;cases k with
    |zero=>trivial
    |succ k=>
     refine⟨rfl,rfl,fun j M=>⟨G _ _,cS (by simp) DN la2,Tz.pure 60 fun z N=>?_⟩⟩;refine Tz.one rfl fun V O=>?_;have R:=K.rely (K.rely (K.rely C M) N) O;obtain⟨v,W⟩:=(K.fd R).cell0;refine⟨G _ _,V,#[],S,X,eY la3 u253 u159 i187 W,ay S X V,Tz.pure 60 fun d P=>?_⟩;exact P3 jJ K hT 6 la4 la5 k (K.rely R P)
   ·refine⟨_,_,U,G _ _,_,_,Mv.Yy m U hm,eM Bb la1 Y.cell0 (Y.thaw 0) (fun e=>hm (val_inj e)),Y,Eff.refl _ _,EvA.one _ _ _ (by omega),fun F=>by omega,Tz.pure 60 fun T H=>?_⟩;exact Hr jJ K rfl hT k _ 0 _ _ 0 _ T (.inl rfl) (stood las rfl) (K.rely (K.rely D I) H)
end
end Env
end Ph
namespace Ph
open Conc Ren
section
variable(Wg:Nat)(c:Frame)(cs:List Frame)
def Tx:Frame×List Frame:=aQ PR 60 (Frame.enter PR 181 #[ptr Wg] .deferred) (c::cs)
def Y2:Frame×List Frame:=aQ PR 60 ((Tx Wg c cs).1.finish (ptr Wg)) (Tx Wg c cs).2
def Y3:Frame×List Frame:=aQ PR 60 ((Y2 Wg c cs).1.finish unit) (Y2 Wg c cs).2
def Rv:Frame×List Frame:=aQ PR 60 ((Y3 Wg c cs).1.finish unit) (Y3 Wg c cs).2
def Xm:Frame×List Frame:=aQ PR 90 ((Rv Wg c cs).1.finish (.bool false)) (Rv Wg c cs).2
def P7 (z:Int):Frame×List Frame:=aQ PR 300 ((Xm Wg c cs).1.finish (.int .u64 z)) (Xm Wg c cs).2
def Y4:Frame×List Frame:=aQ PR 300 ((P7 Wg c cs 1).1.finish (.int .u64 1)) (P7 Wg c cs 1).2
def Xn:Frame×List Frame:=aQ PR 300 ((Y4 Wg c cs).1.finish unit) (Y4 Wg c cs).2
def Ty:Frame×List Frame:=aQ PR 300 ((Xn Wg c cs).1.finish unit) (Xn Wg c cs).2
end
section
variable{Wg:Nat}{c:Frame}{cs:List Frame}
theorem da0:gU (Tx Wg c cs).1=some (216,159,ptr Wg):=by kernel_rfl
theorem da1:ahead (Y2 Wg c cs).1=some (168,#[ptr Wg]):=by kernel_rfl
theorem da2:ahead (Y3 Wg c cs).1=some (169,#[]):=by kernel_rfl
theorem da3:ahead (Rv Wg c cs).1=some (171,#[]):=by kernel_rfl
theorem da4:ahead (Xm Wg c cs).1=some (200,#[ptr Wg,.int .u64 18446744069414584320]):=by kernel_rfl
theorem da5:ahead (P7 Wg c cs 1).1=some (201,#[ptr Wg]):=by kernel_rfl
theorem da6:ahead (Y4 Wg c cs).1=some (202,#[ptr Wg,.int .u64 0]):=by kernel_rfl
theorem da7:ahead (Xn Wg c cs).1=some (180,#[.pointer (some ⟨Wg,1,none⟩),.bool false,.int .i64 0]):=by kernel_rfl
end
theorem UA:bO PR 171 (fun _=>pure (.bool false)):=⟨_,Tryz.func171,by kernel_rfl,by kernel_rfl,by kernel_rfl,by kernel_rfl⟩
theorem UC:bO PR 200 (ae9 (Op.intArith .add) .u64 true):=⟨_,Tryz.func200,by kernel_rfl,by kernel_rfl,by kernel_rfl,by kernel_rfl⟩
theorem Rw:bO PR 201 (afa (.int .u64)):=⟨_,Tryz.func201,by kernel_rfl,by kernel_rfl,by kernel_rfl,by kernel_rfl⟩
theorem Y5:bO PR 202 ae_:=⟨_,Tryz.func202,by kernel_rfl,by kernel_rfl,by kernel_rfl,by kernel_rfl⟩
theorem UD:bO PR 203 (afd (.int .u64)):=⟨_,Tryz.func203,by kernel_rfl,by kernel_rfl,by kernel_rfl,by kernel_rfl⟩
theorem UE:bO PR 180 ae7:=⟨_,Tryz.func180,by kernel_rfl,by kernel_rfl,by kernel_rfl,by kernel_rfl⟩
theorem UF:bO PR 186 ae6:=⟨_,Tryz.func186,by kernel_rfl,by kernel_rfl,by kernel_rfl,by kernel_rfl⟩
theorem Y6:bO PR 176 (Extern.Race.marked .read):=⟨_,Tryz.func176,by kernel_rfl,by kernel_rfl,by kernel_rfl,by kernel_rfl⟩
theorem Y7:bO PR 185 (Extern.Race.marked .write):=⟨_,Tryz.func185,by kernel_rfl,by kernel_rfl,by kernel_rfl,by kernel_rfl⟩
theorem u216:PR.underlying 216=some (.pointer 212):=by simp
theorem i212:(PR.info? 212).map (fun i=>decide (i.size=0))=some false:=by kernel_rfl
theorem ki:∀(n:Nat) {q d:Nat} {f:Frame} {l:List Frame},QuitsD P q d (G (aQ P n f l).1 (aQ P n f l).2)->∃Y,QuitsD P Y d (G f l)
 |0,q,d,f,l,h=>⟨q,h⟩
 |n+1,q,d,f,l,h=>by
  unfold aQ at h;split at h
  ·rename_i f1 l1 e;obtain⟨Y,h'⟩:=ki n h;exact⟨Y+1,.ctl rfl (fun w=>et e) h'⟩
  ·exact⟨q,h⟩
theorem rz{g:FuncId}{m:Mark}(I:∀g,m≠.extern g)(hm:f.mode=.returning)(hr:f.roundOf=none)(hd:f.defers=dcall g #[]::ds)(X:bO P g (fun _=>do mark m;pure aeY)):
  stepG P main (G f cs) w=.go (G {f with defers:=ds} cs) w #[⟨.mark m,false,true⟩]:=by
 obtain⟨fn,Y,K,H,D,R⟩:=X.ex;obtain⟨iU,tmps,todo,defers,mode,kind,ro⟩:=f;subst hm hr;exact stepG_unwind_entry (b:=⟨iU,tmps,todo,defers,.returning,kind,none⟩) (a:=⟨tmps,defers⟩) (v:=.tuple #[]) hd Y K H D R (by simp[aeY]) (by simp) (by simp_all)
def bot:Frame:={(default:Frame)with fn:=PR.funcs.size,defers:=[],mode:=.panicking [goexitEntry]}
def fZ (tmps:Array Value) (todo:List Item):Frame:=⟨158,tmps,todo,[],.returning,.deferred,none⟩
section
variable{Wg:Nat}{tmps:Array Value}{todo:List Item}{w:World}
theorem leave1:stepG PR false (G (fZ tmps todo) [bot]) w=.go (G bot []) w #[]:=by kernel_rfl
theorem Ry:stepG PR false (G bot []) w=.go {G bot []with status:=.finished} w #[]:=by kernel_rfl
def zs:List Nat:=[0,4294967296,4294967297,8589934592,8589934593,12884901888,12884901889,17179869184,17179869185,21474836480,21474836481,25769803776,25769803777,30064771072,30064771073,34359738368,34359738369]
theorem Rz:(zs.map fun z:Nat=>((P7 Wg (fZ tmps todo) [bot] (z:Int)).1.mode,(P7 Wg (fZ tmps todo) [bot] (z:Int)).1.roundOf,(P7 Wg (fZ tmps todo) [bot] (z:Int)).1.defers))=zs.map fun z:Nat=>(.returning,none,[dcall 170 #[]]):=by kernel_rfl
theorem RE:(zs.map fun z:Nat=>aQ PR 6 {(P7 Wg (fZ tmps todo) [bot] (z:Int)).1 with defers:=[]} (P7 Wg (fZ tmps todo) [bot] (z:Int)).2)=zs.map fun z:Nat=>(fZ tmps todo,[bot]):=by kernel_rfl
theorem RH:((Ty Wg (fZ tmps todo) [bot]).1.mode,(Ty Wg (fZ tmps todo) [bot]).1.roundOf,(Ty Wg (fZ tmps todo) [bot]).1.defers)=(.returning,none,[dcall 170 #[]]):=by kernel_rfl
theorem RI:aQ PR 6 {(Ty Wg (fZ tmps todo) [bot]).1 with defers:=[]} (Ty Wg (fZ tmps todo) [bot]).2=(fZ tmps todo,[bot]):=by kernel_rfl
end
theorem Ht:QuitsD PR 2 0 (G (fZ tmps todo) [bot]):=
 .ctl rfl (fun w=>leave1) (.inr ⟨rfl,{G bot []with status:=.finished},#[],by simp,fun w=>Ry,⟨rfl,rfl⟩⟩)
theorem Bd{r:Frame×List Frame}(Y:(r.1.mode,r.1.roundOf,r.1.defers)=(.returning,none,[dcall 170 #[]]))(H:aQ PR 6 {r.1 with defers:=[]} r.2=(fZ tmps todo,[bot])):∃q,QuitsD PR q 1 (G r.1 r.2):=by
 simp only[Prod.mk.injEq]at Y;have K:QuitsD PR 2 0 (G (aQ PR 6 {r.1 with defers:=[]} r.2).1 (aQ PR 6 {r.1 with defers:=[]} r.2).2):=by rw[H];exact Ht
 obtain⟨q,D⟩:=ki 6 K;exact⟨q+1,.said _ rfl rfl (fun w=>rz (by simp) Y.1 Y.2.1 Y.2.2 DN) D⟩
theorem oc{cs:List _}{g:FuncId}{k:IntKind}(X:bO P g (afa (.int k))){v:Int}(h:ahead f=some (g,#[.pointer (some ad)]))(F:w.cell? ad=some (.int k v)):
  stepG P main (G f cs) w=.go (G (f.finish (.int k v)) cs) w #[⟨.cell ad,false,true⟩]:=by
 obtain⟨o,Y,H,C,aM,K⟩:=ec h;obtain⟨fn,D,R,I,A,U⟩:=X.ex;obtain⟨x,rfl⟩:∃x,Y=#[x]:=by
  have:=by have:=congrArg Array.size K;simpa using this
  refine⟨Y[0],?_⟩;apply Array.ext
  ·omega
  ·simp_all
 have J:=by simpa using K
 exact conv C fun ops i rest L B hw hk=>stepG_load_atomic B hw hk aM D R I A k U J F
theorem Be{g:FuncId}{k:IntKind}(X:bO P g ae_){v:Int}(h:ahead f=some (g,#[.pointer (some ad),.int k v]))(F:w.cell? ad=some u)(M:w.frozen? ad=false):
  stepG P main (G f cs) w=.go (G (f.finish (.tuple #[])) cs) (w.setCell ad (.int k v)) #[⟨.cell ad,true,true⟩]:=by
 obtain⟨o,Y,R,L,aM,K⟩:=ec h;obtain⟨fn,I,A,U,B,C⟩:=X.ex;obtain⟨x,y,rfl⟩:∃x y,Y=#[x,y]:=by
  have N:=by have:=congrArg Array.size K;simpa using this
  refine⟨Y[0],Y[1],?_⟩;apply Array.ext
  ·omega
  ·intro i H J;have:i=0\/i=1:=by omega
   rcases this with rfl|rfl<;>rfl
 have D:=by simpa using K
 exact conv L fun ops i rest O H hw hk=>stepG_store_atomic H hw hk aM I A U B C D.1 D.2 F M
theorem sub_one{v:Nat}(H:v<=8)(Y:wt<=1):IntKind.u64.wrap ((((v+1) *4294967296+wt:Nat))+18446744069414584320)=((v *4294967296+wt:Nat)):=by
 rw[afe];omega
theorem UG{v:Nat}(D:v<=8)(H:wt<=1)(h:¬(v=0/\wt=1)):v *4294967296+wt∈zs:=by
 have Y:v=0\/v=1\/v=2\/v=3\/v=4\/v=5\/v=6\/v=7\/v=8:=by omega
 have K:wt=0\/wt=1:=by omega
 rcases Y with rfl|rfl|rfl|rfl|rfl|rfl|rfl|rfl|rfl<;>rcases K with rfl|rfl<;>first|(exact absurd ⟨rfl,rfl⟩ h)|(simp[zs])
namespace Env
theorem f_{Q:Goroutine->Prop}:∀n0 {n:Nat} {f:Frame} {l:List _},nb P Q n (G (aQ P n0 f l).1 (aQ P n0 f l).2)->∃n',nb P Q n' (G f l)
 |0,n,f,l,h=>⟨n,h⟩
 |n0+1,n,f,l,h=>by
  unfold aQ at h;split at h
  ·rename_i f1 l1 e;obtain⟨n',h'⟩:=f_ n0 h;exact⟨n'+1,rfl,_,fun w=>et e,h'⟩
  ·exact⟨n,h⟩
theorem NK{E:Env}{A:(Nat->Prop)->(Nat->Prop)->Goroutine->World->Prop}{tmps:Array _}{todo:List _}(L:S E.Wg)(k:Nat)(hF:E.o8 w):
  E.Tree PR false (E.dp PR A k .wr) S X (G (Tx E.Wg (fZ tmps todo) [bot]).1 (Tx E.Wg (fZ tmps todo) [bot]).2) w:=by
 refine Tz.one rfl fun w2 U=>?_;have D:=hF.rely L U;obtain⟨v0,B⟩:=D.cell0;refine⟨_,w2,#[],S,X,eY da0 u216 u159 i212 B,ay S X w2,Tz.pure 60 fun w3 M=>?_⟩;refine .stop ?_;cases k with
 |zero=>trivial
 |succ k=>
  refine⟨rfl,rfl,fun w4 N=>⟨G _ _,eX (by simp) Uo da1,f_ 60 (n:=0) ?_⟩⟩;refine⟨rfl,G _ _,fun O=>cS (by simp) Kv da2,?_⟩;have J:∃n,nb PR (E.yQ PR 3) n (G (Rv E.Wg (fZ tmps todo) [bot]).1 (Rv E.Wg (fZ tmps todo) [bot]).2):=by
   obtain⟨n,R⟩:∃n,nb PR (E.yQ PR 3) n (G ((Rv E.Wg (fZ tmps todo) [bot]).1.finish (.bool false)) (Rv E.Wg (fZ tmps todo) [bot]).2):=by
    refine f_ 90 (n:=0) ?_;refine⟨rfl,fun Q v wt F H Y=>?_⟩;have au:=oY (main:=false) (cs:=(Xm E.Wg (fZ tmps todo) [bot]).2) UC (da4 (c:=fZ tmps todo) (cs:=[bot])) Y.cell0 (Y.thaw 0);rw[sub_one F H]at au;refine⟨_,_,_,au,Y.kg v wt,Eff.set _ _ _ _,EvA.two _ _ (by omega),fun C=>?_,fun C=>?_⟩
    ·obtain⟨rfl,rfl⟩:=C;refine f_ 300 (n:=0) ?_;refine⟨rfl,fun T Y=>⟨_,_,oc Rw da5 Y.cell0,EvA.one _ _ _ (by omega),f_ 300 (n:=0) ?_⟩⟩;refine⟨rfl,fun V Y=>⟨_,_,_,Be Y5 da6 Y.cell0 (Y.thaw 0),Y.kg 0 0,Eff.set _ _ _ _,EvA.one _ _ _ (by omega),f_ 300 (n:=0) ?_⟩⟩;refine⟨rfl,qk UE da7,fun Z Y=>?_⟩;have au:=gT (main:=false) (cs:=(Xn E.Wg (fZ tmps todo) [bot]).2) UE (da7 (c:=fZ tmps todo) (cs:=[bot])) rfl Y.lL (Y.thaw 1);refine⟨_,_,_,au,Y.r9 1,Eff.set _ _ _ _,EvA.Tv _ _ (by omega),?_⟩;have:=Bd (r:=Ty E.Wg (fZ tmps todo) _) RH RI;obtain⟨q,I⟩:=this;exact ki 300 I
    ·have K:=UG F H C;obtain⟨q,I⟩:=Bd (jF Rz K) (jF RE K);exact ki 300 I
   exact⟨n+1,rfl,_,fun P=>xA UA da3,R⟩
  obtain⟨n,R⟩:=J;exact f_ 60 R
end Env
section
variable(Wg:Nat)(c:Frame)(cs:List Frame)
def Y8:Frame×List Frame:=aQ PR 60 (Frame.enter PR 157 #[ptr Wg,.int .i64 1] .normal) (c::cs)
def Y9:Frame×List Frame:=aQ PR 60 ((Y8 Wg c cs).1.finish unit) (Y8 Wg c cs).2
def Xo:Frame×List Frame:=aQ PR 90 ((Y9 Wg c cs).1.finish (.bool false)) (Y9 Wg c cs).2
def NL (z:Int):Frame×List Frame:=aQ PR 300 ((Xo Wg c cs).1.finish (.int .u64 z)) (Xo Wg c cs).2
def Y_:Frame×List Frame:=aQ PR 60 ((NL Wg c cs 4294967296).1.finish (.pointer (some ⟨Wg,1,none⟩))) (NL Wg c cs 4294967296).2
def TA:Frame×List Frame:=aQ PR 300 ((Y_ Wg c cs).1.finish unit) (Y_ Wg c cs).2
def UH:Frame×List Frame:=aQ PR 60 (Frame.enter PR 159 #[ptr Wg] .normal) (c::cs)
def Xp:Frame×List Frame:=tA PR 60 ((UH Wg c cs).1.finish unit) (UH Wg c cs).2
end
section
variable{Wg:Nat}{c:Frame}{cs:List Frame}
theorem aa0:ahead (Y8 Wg c cs).1=some (169,#[]):=by kernel_rfl
theorem aa1:ahead (Y9 Wg c cs).1=some (171,#[]):=by kernel_rfl
theorem aa2:ahead (Xo Wg c cs).1=some (200,#[ptr Wg,.int .u64 4294967296]):=by kernel_rfl
theorem aa3:gU (NL Wg c cs 4294967296).1=some (227,159,.pointer (some ⟨Wg,1,none⟩)):=by kernel_rfl
theorem aa4:ahead (Y_ Wg c cs).1=some (176,#[.pointer (some ⟨Wg,1,none⟩)]):=by kernel_rfl
theorem aa5:((TA Wg c cs).1.mode,(TA Wg c cs).1.roundOf,(TA Wg c cs).1.defers)=(.returning,none,[dcall 170 #[]]):=by kernel_rfl
theorem Za:aQ PR 1 {(TA Wg c cs).1 with defers:=[]} (TA Wg c cs).2=(c.finish unit,cs):=by kernel_rfl
def zA:List Nat:=[8589934592,12884901888,17179869184,21474836480,25769803776,30064771072,34359738368]
theorem RJ:(zA.map fun z:Nat=>((NL Wg c cs (z:Int)).1.mode,(NL Wg c cs (z:Int)).1.roundOf,(NL Wg c cs (z:Int)).1.defers))=zA.map fun z:Nat=>(.returning,none,[dcall 170 #[]]):=by kernel_rfl
theorem RP:(zA.map fun z:Nat=>aQ PR 1 {(NL Wg c cs (z:Int)).1 with defers:=[]} (NL Wg c cs (z:Int)).2)=zA.map fun z:Nat=>(c.finish unit,cs):=by kernel_rfl
theorem ww0:ahead (UH Wg c cs).1=some (169,#[]):=by kernel_rfl
end
theorem u227:PR.underlying 227=some (.pointer 185):=by simp
theorem i185:(PR.info? 185).map (fun i=>decide (i.size=0))=some false:=by kernel_rfl
def FO:List Item:=(Xp 0 bot []).1.todo
def Xq(Wg:Nat):List (Nat×Value):=[(0,ptr Wg)]
section
variable(Wg:Nat)(c:Frame)(cs:List Frame)(j:Nat->Value)
def Zb:Frame×List Frame:=aQ PR 60 (ru 159 84 FO (sA (Xq Wg)) j) (c::cs)
def KA (z:Int):Frame×List Frame:=aQ PR 300 ((Zb Wg c cs j).1.finish (.int .u64 z)) (Zb Wg c cs j).2
def Zc (z:Int):Frame×List Frame:=aQ PR 300 ((KA Wg c cs j z).1.finish (.bool true)) (KA Wg c cs j z).2
def Zd (z:Int):Frame×List Frame:=tA PR 300 ((KA Wg c cs j z).1.finish (.bool false)) (KA Wg c cs j z).2
def Ze (z:Int):Frame×List Frame:=aQ PR 300 ((Zc Wg c cs j z).1.finish (.pointer (some ⟨Wg,1,none⟩))) (Zc Wg c cs j z).2
def Xr (z:Int):Frame×List Frame:=aQ PR 300 ((Ze Wg c cs j z).1.finish unit) (Ze Wg c cs j z).2
def Zf (z:Int):Frame×List Frame:=aQ PR 300 ((Xr Wg c cs j z).1.finish unit) (Xr Wg c cs j z).2
def Zg (z:Int):Frame×List Frame:=aQ PR 300 ((Zf Wg c cs j z).1.finish (.int .u64 0)) (Zf Wg c cs j z).2
def Zh (z:Int):Frame×List Frame:=aQ PR 300 ((Zg Wg c cs j z).1.finish unit) (Zg Wg c cs j z).2
def Zi (z:Int):Frame×List Frame:=aQ PR 300 ((Zh Wg c cs j z).1.finish (ptr Wg)) (Zh Wg c cs j z).2
def Zj:Frame×List Frame:=aQ PR 300 ((KA Wg c cs j 0).1.finish unit) (KA Wg c cs j 0).2
def Zk:Frame×List Frame:=aQ PR 300 ((Zj Wg c cs j).1.finish (ptr Wg)) (Zj Wg c cs j).2
end
def zW:List Nat:=[4294967296,8589934592,12884901888,17179869184,21474836480,25769803776,30064771072,34359738368]
section
variable{Wg:Nat}{c:Frame}{cs:List Frame}{j:Nat->Value}
theorem wwh:look [0] (Xp Wg c cs)=aP 159 84 (c::cs) FO (Xq Wg) none none:=by kernel_rfl
theorem wl1:ahead (Zb Wg c cs j).1=some (201,#[ptr Wg]):=by kernel_rfl
theorem Zl:ahead (KA Wg c cs j 0).1=some (170,#[]):=by kernel_rfl
theorem wl2:(zW.map fun z:Nat=>ahead (KA Wg c cs j (z:Int)).1)=zW.map fun z:Nat=>some (203,#[ptr Wg,.int .u64 (z:Int),.int .u64 (z+1:Int)]):=by kernel_rfl
theorem wlf:(zW.map fun z:Nat=>look [0] (Zd Wg c cs j (z:Int)))=zW.map fun z:Nat=>aP 159 84 (c::cs) FO (Xq Wg) none none:=by kernel_rfl
theorem wl3:(zW.map fun z:Nat=>gU (Zc Wg c cs j (z:Int)).1)=zW.map fun z:Nat=>some (227,159,.pointer (some ⟨Wg,1,none⟩)):=by kernel_rfl
theorem wl4:(zW.map fun z:Nat=>ahead (Ze Wg c cs j (z:Int)).1)=zW.map fun z:Nat=>some (185,#[.pointer (some ⟨Wg,1,none⟩)]):=by kernel_rfl
theorem wl5:(zW.map fun z:Nat=>ahead (Xr Wg c cs j (z:Int)).1)=zW.map fun z:Nat=>some (186,#[.pointer (some ⟨Wg,1,none⟩),.bool false]):=by kernel_rfl
theorem wl6:(zW.map fun z:Nat=>ahead (Zf Wg c cs j (z:Int)).1)=zW.map fun z:Nat=>some (201,#[ptr Wg]):=by kernel_rfl
theorem wl7:(zW.map fun z:Nat=>ahead (Zg Wg c cs j (z:Int)).1)=zW.map fun z:Nat=>some (170,#[]):=by kernel_rfl
theorem wl8:(zW.map fun z:Nat=>gU (Zh Wg c cs j (z:Int)).1)=zW.map fun z:Nat=>some (216,159,ptr Wg):=by kernel_rfl
theorem wl9:(zW.map fun z:Nat=>ahead (Zi Wg c cs j (z:Int)).1)=zW.map fun z:Nat=>some (182,#[ptr Wg]):=by kernel_rfl
theorem wz8:gU (Zj Wg c cs j).1=some (216,159,ptr Wg):=by kernel_rfl
theorem wz9:ahead (Zk Wg c cs j).1=some (182,#[ptr Wg]):=by kernel_rfl
end
theorem add_one{v:Nat}(Y:v<=8):IntKind.u64.wrap (((v *4294967296+0:Nat))+4294967296)=(((v+1) *4294967296+0:Nat)):=by
 rw[afe];omega
theorem UJ{v:Nat}(Y:1<=v)(H:v<8):(v+1) *4294967296+0∈zA:=by
 have:v=1\/v=2\/v=3\/v=4\/v=5\/v=6\/v=7:=by omega
 rcases this with rfl|rfl|rfl|rfl|rfl|rfl|rfl<;>simp[zA]
theorem UK{v:Nat}(Y:v≠0)(H:v<=8):v *4294967296+0∈zW:=by
 have:v=1\/v=2\/v=3\/v=4\/v=5\/v=6\/v=7\/v=8:=by omega
 rcases this with rfl|rfl|rfl|rfl|rfl|rfl|rfl|rfl<;>simp[zW]
section
variable{Wg:Nat}{c:Frame}{cs:List Frame}{j:Nat->Value}
theorem Zm:(zW.map fun z:Nat=>aQ PR 10 ((Zi Wg c cs j (z:Int)).1.finish unit) (Zi Wg c cs j z).2)=zW.map fun z:Nat=>(c.finish unit,cs):=by kernel_rfl
theorem Zn:aQ PR 20 ((Zk Wg c cs j).1.finish unit) (Zk Wg c cs j).2=(c.finish unit,cs):=by kernel_rfl
end
namespace Env
structure KnM(E:Env)(S:Nat->Prop)(Fx:World->Prop):Prop where
 rely:∀{w w2:World},Fx w->az E.U S w w2->Fx w2
 wg:∀{w:World},Fx w->E.o8 w
 tw:∀{w w1:World} {v wt ws v' dq dk:Nat},Fx w->E.WgAt w v wt ws->Eff E.Wg w w1->E.WgAt w1 v' dq dk->Fx w1
section
variable{E:Env}{J:fL}{o_:Nat->Goroutine->World->Prop}{Fin:(Nat->Prop)->(Nat->Prop)->Goroutine->World->Prop}{S X:Nat->Prop}{Fx:World->Prop}{c:Frame}{cs:List Frame}
theorem NN(K:E.KnM S Fx){ch:Nat}(s:L.length<8)(hgo:∀k w,Fx w->E.Tree PR true (E.ia PR J o_ Fin k (.go L ch)) S X (G (c.finish unit) cs) w)(k:Nat)(hF:Fx w):
  E.Tree PR true (E.ia PR J o_ Fin k (.st L)) S X (G (Frame.enter PR 157 #[ptr E.Wg,.int .i64 1] .normal) (c::cs)) w:=by
 have out:∀(r:Frame×List _) (k:Nat) (w:World),(r.1.mode,r.1.roundOf,r.1.defers)=(.returning,none,[dcall 170 #[]])->aQ PR 1 {r.1 with defers:=[]} r.2=(c.finish unit,cs)->Fx w->E.Tree PR true (E.ia PR J o_ Fin k (.a4 L ch)) S X (G r.1 r.2) w:=by
  intro r k w U o hF;refine .stop ?_;cases k with
  |zero=>trivial
  |succ k=>
   simp at U;refine⟨rfl,rfl,fun w2 hr=>⟨G _ r.2,rz (by simp) U.1 U.2.1 U.2.2 DN,Tz.pure 1 fun w3 H=>?_⟩⟩;rw[o];exact hgo k w3 (K.rely (K.rely hF hr) H)
 refine Tz.pure 60 fun w1 O=>?_;have B:=K.rely hF O;refine .stop ?_;cases k with
 |zero=>trivial
 |succ k=>
  refine⟨rfl,rfl,ch,fun w2 P=>⟨G _ _,cS (by simp) Kv aa0,Tz.pure 60 fun w3 H=>?_⟩⟩;have C:=K.rely (K.rely B P) H;refine Tz.one rfl fun w4 Q=>⟨G _ _,w4,#[],S,X,xA UA aa1,ay S X w4,Tz.pure 90 fun p T=>?_⟩;have F:=K.rely (K.rely C Q) T;refine .stop ?_;cases k with
  |zero=>trivial
  |succ k=>
   refine⟨rfl,rfl,fun u V A=>?_⟩;have au:=oY (main:=true) (cs:=(Xo E.Wg c cs).2) UC (aa2 (c:=c) (cs:=cs)) A.cell0 (A.thaw 0);rw[add_one (by omega)]at au;have R:=K.tw (K.rely F V) A (Eff.set _ _ _ _) (A.kg (L.length+1) 0);refine⟨_,_,_,au,A.kg _ 0,Eff.set _ _ _ _,EvA.two _ _ (by omega),?_⟩;by_cases Y:L=[]
   ·subst Y;refine Tz.pure 300 fun d D=>?_;have M:=K.rely R D;refine Tz.one rfl fun f Z=>?_;have I:=K.rely M Z;obtain⟨v1,z⟩:=(K.wg I).lL;refine⟨_,f,#[],S,X,eY aa3 u227 u159 i185 z,ay S X f,Tz.pure 60 fun v W=>?_⟩;have N:=K.rely I W;refine .stop ?_;cases k with
    |zero=>trivial
    |succ k=>
     refine⟨rfl,rfl,fun x q=>⟨G _ _,eX (by simp) Y6 aa4,Tz.pure 300 fun g j=>?_⟩⟩;change E.Tree PR _ _ S X (G (TA E.Wg c cs).1 _) g;exact out _ k g aa5 Za (K.rely (K.rely N q) j)
   ·rw[if_neg Y];refine Tz.pure 300 fun d D=>?_;change E.Tree PR _ _ S X (G (NL _ c cs _).1 _) d;have hm:=UJ (by
     cases L with
     |nil=>exact absurd rfl Y
     |cons a l=>simp) s
    exact out _ k d (jF RJ hm) (jF RP hm) (K.rely R D)
theorem NP(K:E.KnM S Fx)(Z:∀(n:Nat) (f:Frame) (l:List Frame) (w:World),Fx w->aQ PR n f l=(c.finish unit,cs)->Fin S X (G f l) w)(k:Nat)(hF:Fx w):
  E.Tree PR true (E.ia PR J o_ Fin k .kd) S X (G (Frame.enter PR 159 #[ptr E.Wg] .normal) (c::cs)) w:=by
 have last:∀(r:Frame×List Frame) (n k:Nat) (w:World),ahead r.1=some (182,#[ptr E.Wg])->aQ PR n (r.1.finish unit) r.2=(c.finish unit,cs)->Fx w->E.Tree PR true (E.ia PR J o_ Fin k .aq) S X (G r.1 r.2) w:=by
  intro r n k w h1 h2 hF;refine .stop ?_;cases k with
  |zero=>trivial
  |succ k=>exact⟨rfl,rfl,fun w2 hr=>⟨G (r.1.finish unit) r.2,eX (by simp) Un h1,Z n _ _ w2 (K.rely hF hr) h2⟩⟩
 have head:∀(k:Nat) (j:Nat->Value) (w:World),Fx w->E.Tree PR true (E.ia PR J o_ Fin k .w1) S X (G (ru 159 84 FO (sA (Xq E.Wg)) j) (c::cs)) w:=by
  intro k;induction k using aeR with
  |_ k ih=>
  intro j w hF;refine Tz.pure 60 fun w1 L=>?_;have B:=K.rely hF L;refine .stop ?_;cases k with
  |zero=>trivial
  |succ k=>
   refine⟨rfl,rfl,fun w2 v M hv hG=>?_⟩;have Q:=K.rely B M;refine⟨_,_,oc Rw wl1 hG.cell0,EvA.one _ _ _ (by omega),fun g=>?_,fun g=>?_⟩
   ·subst g;refine Tz.pure 300 fun w3 R=>?_;have A:=K.rely Q R;refine .stop ?_;cases k with
    |zero=>trivial
    |succ k=>
     refine⟨rfl,rfl,fun w4 U=>⟨G _ (KA E.Wg c cs j 0).2,cS (by simp) DN Zl,Tz.pure 300 fun d I=>?_⟩⟩;have F:=K.rely (K.rely A U) I;refine Tz.one rfl fun z N=>?_;have D:=K.rely F N;obtain⟨v0,P⟩:=(K.wg D).cell0;refine⟨_,z,#[],S,X,eY wz8 u216 u159 i212 P,ay S X z,Tz.pure 300 fun w7 O=>?_⟩;exact last _ 20 k w7 wz9 Zn (K.rely D O)
   ·have hm:=UK g hv;refine Tz.pure 300 fun w3 R=>?_;have A:=K.rely Q R;have a2:=jF (wl2 (Wg:=E.Wg) (c:=c) (cs:=cs) (j:=j)) hm;have aC:=jF (wl3 (Wg:=E.Wg) (c:=c) (cs:=cs) (j:=j)) hm;have a4:=jF (wl4 (Wg:=E.Wg) (c:=c) (cs:=cs) (j:=j)) hm;have a5:=jF (wl5 (Wg:=E.Wg) (c:=c) (cs:=cs) (j:=j)) hm;have a6:=jF (wl6 (Wg:=E.Wg) (c:=c) (cs:=cs) (j:=j)) hm;have a7:=jF (wl7 (Wg:=E.Wg) (c:=c) (cs:=cs) (j:=j)) hm;have a8:=jF (wl8 (Wg:=E.Wg) (c:=c) (cs:=cs) (j:=j)) hm;have a9:=jF (wl9 (Wg:=E.Wg) (c:=c) (cs:=cs) (j:=j)) hm;have aE:=jF (Zm (Wg:=E.Wg) (c:=c) (cs:=cs) (j:=j)) hm;have aF:=jF (wlf (Wg:=E.Wg) (c:=c) (cs:=cs) (j:=j)) hm;refine .stop ?_;cases k with
    |zero=>trivial
    |succ k=>
     refine⟨rfl,rfl,fun w4 v2 U hv2 Y=>⟨fun he=>?_,fun he=>?_⟩⟩
     ·subst he;have C:=K.rely A U;have au:=fq (main:=true) (cs:=(KA E.Wg c cs j ((v2 *4294967296+0:Nat):Int)).2) UD a2 Y.cell0 (Y.thaw 0);have en:(((v2 *4294967296+0:Nat):Int)+1)=((v2 *4294967296+1:Nat):Int):=by omega
      rw[en]at au;have T:=K.tw C Y (Eff.set _ _ _ _) (Y.kg v2 1);refine⟨_,_,_,au,Y.kg v2 1,Eff.set _ _ _ _,EvA.two _ _ (by omega),Tz.pure 300 fun d I=>?_⟩;have F:=K.rely T I;refine Tz.one rfl fun z N=>?_;have D:=K.rely F N;obtain⟨v1,hv1⟩:=(K.wg D).lL;refine⟨_,z,#[],S,X,eY aC u227 u159 i185 hv1,ay S X z,Tz.pure 300 fun w7 O=>?_⟩;have o:=K.rely D O;refine .stop ?_;cases k with
      |zero=>trivial
      |succ k=>
       refine⟨rfl,rfl,fun w8 b=>⟨G _ _,eX (by simp) Y7 a4,Tz.pure 300 fun w9 t=>?_⟩⟩;have p:=K.rely (K.rely o b) t;refine .stop ?_;cases k with
       |zero=>trivial
       |succ k=>
        refine⟨rfl,rfl,fun wA v3 wt3 W H=>nk UF a5 rfl H.lL,fun wA W H=>?_⟩;have au:=kV (main:=true) (cs:=(Xr E.Wg c cs j ((v2 *4294967296+0:Nat):Int)).2) UF a5 rfl H.lL (by simp) (H.thaw 1);have s:=K.tw (K.rely p W) H (Eff.set _ _ _ _) (H.r9 0);refine⟨_,_,_,au,H.r9 0,Eff.set _ _ _ _,EvA.Tv _ _ (by omega),Tz.pure 300 fun wB a=>?_⟩;have u:=K.rely s a;refine .stop ?_;cases k with
        |zero=>trivial
        |succ k=>
         refine⟨rfl,rfl,fun wC i m=>⟨_,_,oc Rw a6 m.cell0,EvA.one _ _ _ (by omega),Tz.pure 300 fun wD h=>?_⟩⟩;have x:=K.rely (K.rely u i) h;refine .stop ?_;cases k with
         |zero=>trivial
         |succ k=>
          refine⟨rfl,rfl,fun wE e=>⟨G _ _,cS (by simp) DN a7,Tz.pure 300 fun wF Xs=>?_⟩⟩;have y:=K.rely (K.rely x e) Xs;refine Tz.one rfl fun wG Xt=>?_;have V:=K.rely y Xt;obtain⟨v0,P⟩:=(K.wg V).cell0;refine⟨_,wG,#[],S,X,eY a8 u216 u159 i212 P,ay S X wG,Tz.pure 300 fun wH Xu=>?_⟩;exact last _ 10 k wH a9 aE (K.rely V Xu)
     ·have C:=K.rely A U;have au:=eM (main:=true) (cs:=(KA E.Wg c cs j ((v *4294967296+0:Nat):Int)).2) UD a2 Y.cell0 (Y.thaw 0) (by omega);refine⟨_,_,au,EvA.one _ _ _ (by omega),Tz.AU 300 fun d I=>?_⟩;change E.Tree PR true _ S X (G (Zd E.Wg c cs j _).1 (Zd E.Wg c cs j _).2) d;have q:=bt aF rfl;rw[q.callers,q.fr.eq];exact ih k (by omega) _ d (K.rely C I)
 refine Tz.pure 60 fun w1 L=>?_;have B:=K.rely hF L;refine .stop ?_;cases k with
 |zero=>trivial
 |succ k=>
  refine⟨rfl,rfl,fun w2 M=>⟨G ((UH E.Wg c cs).1.finish unit) (UH E.Wg c cs).2,cS (by simp) Kv ww0,Tz.AU 60 fun w3 R=>?_⟩⟩;change E.Tree PR true _ S X (G (Xp E.Wg c cs).1 (Xp E.Wg c cs).2) w3;have q:=bt (wwh (Wg:=E.Wg) (c:=c) (cs:=cs)) rfl;rw[q.callers,q.fr.eq];exact head k _ w3 (K.rely (K.rely B M) R)
end
end Env
def KC:Op->Bool
 |.indexAddr .. =>true
 |.binOp .rem .. =>true
 |.makeSlice .. =>true
 |.call {callee:=.value _,..}=>true
 |_=>false
def Hu(f:Frame):=match f.todo with
 |.code (.cond _ _ _)::_=>true
 |_=>match opAt f with
  |some o=>KC o.op
  |none=>false
def aY(P:Program):Nat->Frame->List Frame->Frame×List Frame
 |0,f,l=>(f,l)
 |n+1,f,l=>if Hu f then(f,l)else match Cr P f l with
   |some (f1,l1)=>aY P n f1 l1
   |none=>(f,l)
theorem Tz.dt{U:Nat->Nat->Prop}{D:(Nat->Prop)->(Nat->Prop)->Goroutine->World->Prop}:∀n {f:Frame} {l:List _} {w:World},(∀w2,az U S w w2->Tz P main U D S X (G (aY P n f l).1 (aY P n f l).2) w2)->Tz P main U D S X (G f l) w
 |0,f,l,w,h=>h w (.refl _ _ _)
 |n+1,f,l,w,h=>by
  unfold aY at h;split at h
  ·exact h w (.refl _ _ _)
  ·split at h
   ·rename_i f1 l1 e;exact Tz.one rfl fun w2 hr=>⟨_,w2,#[],S,X,et e,ay S X w2,Tz.dt n fun w3 Y=>h w3 (hr.trans Y)⟩
   ·exact h w (.refl _ _ _)
abbrev iv(n:Nat):Value:=.int .i64 (n:Int)
abbrev IV(Gv n:Nat):Value:=.slice (some ⟨Gv,0,none⟩) n n
def eS(nv:Value)(n:Nat)(work:Value)(Wg Gv:Nat):=[(0,nv),(1,iv n),(2,work),(6,ptr Wg),(7,IV Gv n)]
noncomputable def UL:List Item:=match Tryz.f137.body with
 |some (.seq _ (.seq _ rest))=>[.code rest]
 |_=>[]
def yes:List Item->List Item
 |.code (.cond _ a _)::k=>.code a::k
 |k=>k
def no:List Item->List Item
 |.code (.cond _ _ b)::k=>.code b::k
 |k=>k
def bZ(b:Option Addr)(len cap:Nat):Value:=.slice b len cap
abbrev dF(site:List _)(al:List (Nat×Value))(j:Nat->Value):=ru 137 55 site (sA al) j
def Z0:=eS (bZ none 0 0) 1 undef 0 0
abbrev go1 (site:List _) (al:List _):=aY PR 60 (dF site al fun _=>undef) []
def sD:=(go1 UL Z0).1.todo
def Cs(a:List _)(n j:Nat):=a++[(16,iv n),(17,iv j)]
def Xv:=(go1 (yes sD) (Cs Z0 1 0)).1.todo
def Xw(a:List _)(Gv n j:Nat):=Cs a n j++[(8,iv j),(20,IV Gv n),(21,iv j)]
section
variable{b:Option Addr}{len cap n j Wg Gv ch:Nat}{work:Value}{J:Nat->Value}{l:List Frame}
def Xx (b:Option _) (len cap n j Wg Gv:Nat) (work:Value) (J:Nat->Value) (l:List _):=aY PR 60 (dF (yes sD) (Cs (eS (bZ b len cap) n work Wg Gv) n j) J) l
theorem rmk:look [0,1,2,6,7,16,17,8,20,21] (Xx b len cap n j Wg Gv work J l)=aP 137 55 l Xv (Xw (eS (bZ b len cap) n work Wg Gv) Gv n j) none none:=by kernel_rfl
end
abbrev po (site:List _) (al:List _) (v:Value):=aY PR 60 ((dF site al fun _=>undef).finish v) []
def Xy:=(po Xv (Xw Z0 0 1 0) (.chan none)).1.todo
def Xz(a:List _)(Gv n j ch:Nat):=Cs a n j++[(8,iv j),(20,IV Gv n),(21,iv j),(22,.chan (some ch))]
def UM:=(po Xy (Xz Z0 0 1 0 0) (ptr 0)).1.todo
def UN(a:List _)(Gv n j ch:Nat):=Cs a n j++[(8,iv j),(22,.chan (some ch)),(23,.pointer (some ⟨Gv,j,none⟩))]
def UO:=(po UM (UN Z0 0 1 0 0) undef).1.todo
def UQ(a:List _)(n j:Nat):=Cs a n j++[(8,iv j)]
def XA:=(po UO (UQ Z0 1 0) unit).1.todo
def XB(a:List _)(Gv n j:Nat):=Cs a n j++[(25,IV Gv n),(26,iv j)]
def Zo:=(po XA (XB Z0 0 1 0) (ptr 0)).1.todo
def Zp(a:List _)(Gv n j:Nat):=Cs a n j++[(27,.pointer (some ⟨Gv,j,none⟩))]
def sG:=(po Zo (Zp Z0 0 1 0) (.chan none)).1.todo
def aG(a:List _)(n j ch:Nat)(work:Value):=Cs a n j++[(28,.chan (some ch)),(29,work)]
section
variable{b:Option Addr}{len cap n j Wg Gv ch:Nat}{work:Value}{J:Nat->Value}{l:List Frame}
variable(b:Option Addr)(len cap n j Wg Gv ch:Nat)(work:Value)(J:Nat->Value)(l:List Frame)
def XC:=aY PR 60 ((dF Xv (Xw (eS (bZ b len cap) n work Wg Gv) Gv n j) J).finish (.chan (some ch))) l
def XD:=aY PR 60 ((dF Xy (Xz (eS (bZ b len cap) n work Wg Gv) Gv n j ch) J).finish (.pointer (some ⟨Gv,j,none⟩))) l
def XE:=aY PR 60 ((dF UM (UN (eS (bZ b len cap) n work Wg Gv) Gv n j ch) J).finish undef) l
def XG:=aY PR 60 ((dF UO (UQ (eS (bZ b len cap) n work Wg Gv) n j) J).finish unit) l
def XH:=aY PR 60 ((dF XA (XB (eS (bZ b len cap) n work Wg Gv) Gv n j) J).finish (.pointer (some ⟨Gv,j,none⟩))) l
def RG:=aY PR 60 ((dF Zo (Zp (eS (bZ b len cap) n work Wg Gv) Gv n j) J).finish (.chan (some ch))) l
def UR:=aY PR 60 ((dF sG (aG (eS (bZ b len cap) n work Wg Gv) n j ch work) J).finish undef) l
end
section
variable{b:Option Addr}{len cap n j Wg Gv ch:Nat}{work:Value}{J:Nat->Value}{l:List Frame}
theorem US:opAt (dF Xv (Xw (eS (bZ b len cap) n work Wg Gv) Gv n j) J)=some {dst:=some 22,op:=.makeChan 214 (.const (.int .i64 0)),type:=214,pos:= "workers.go:52",after:=#[],guard:=none}:=by kernel_rfl
theorem ri1:look [0,1,2,6,7,16,17,8,20,21,22] (XC b len cap n j Wg Gv ch work J l)=aP 137 55 l Xy (Xz (eS (bZ b len cap) n work Wg Gv) Gv n j ch) none none:=by kernel_rfl
theorem PJ:look [0,1,2,6,7,16,17,8,22,23] (XD b len cap n j Wg Gv ch work J l)=aP 137 55 l UM (UN (eS (bZ b len cap) n work Wg Gv) Gv n j ch) none none:=by kernel_rfl
theorem rc1:look [0,1,2,6,7,16,17,8] (XE b len cap n j Wg Gv ch work J l)=aP 137 55 l UO (UQ (eS (bZ b len cap) n work Wg Gv) n j) (some (157,#[ptr Wg,.int .i64 1])) none:=by kernel_rfl
theorem ri2:look [0,1,2,6,7,16,17,25,26] (XG b len cap n j Wg Gv work J l)=aP 137 55 l XA (XB (eS (bZ b len cap) n work Wg Gv) Gv n j) none none:=by kernel_rfl
theorem rl2:look [0,1,2,6,7,16,17,27] (XH b len cap n j Wg Gv work J l)=aP 137 55 l Zo (Zp (eS (bZ b len cap) n work Wg Gv) Gv n j) none (some (214,.pointer (some ⟨Gv,j,none⟩))):=by kernel_rfl
theorem z87:look [0,1,2,6,7,16,17,28,29] (RG b len cap n j Wg Gv ch work J l)=aP 137 55 l sG (aG (eS (bZ b len cap) n work Wg Gv) n j ch work) none none:=by kernel_rfl
theorem Zq:Mx PR (dF sG (aG (eS (bZ b len cap) n work Wg Gv) n j ch work) J)=some (.spawn {target:=.fn (.func 158) #[],args:=#[.chan (some ch),work,ptr Wg]}):=by kernel_rfl
theorem Zr:look [0,1,2,6,7,16,17,18] (UR b len cap n j Wg Gv ch work J l)=aP 137 55 l sD (eS (bZ b len cap) n work Wg Gv++[(16,iv n),(17,.int .i64 (aeT.wrap (j+1))),(18,.bool (decide (aeT.wrap (j+1)<n)))]) none none:=by kernel_rfl
end
def tS:=(go1 (no sD) (Cs Z0 1 0)).1.todo
def FP(a:List _)(nv:Value)(len i:Nat):=a++[(31,nv),(32,iv len),(33,iv i)]
def UT:=(go1 (yes tS) (FP Z0 (bZ none 0 0) 0 0)).1.todo
def UU(a:List _)(nv:Value)(len i:Nat):=FP a nv len i++[(35,iv i)]
def Zs:=(po UT (UU Z0 (bZ none 0 0) 0 0) (ptr 0)).1.todo
def Zt(a:List _)(nv:Value)(len i:Nat)(p:Addr):=FP a nv len i++[(35,iv i),(36,.pointer (some p))]
def sR:=(po Zs (Zt Z0 (bZ none 0 0) 0 0 ⟨0,0,none⟩) (iv 0)).1.todo
def aR(a:List _)(nv:Value)(len i x n Gv:Nat):=FP a nv len i++[(9,iv i),(10,iv x),(38,IV Gv n),(39,iv i),(40,iv n)]
def XI:=(po sR (aR Z0 (bZ none 0 0) 0 0 0 1 0) (iv 0)).1.todo
def XJ(a:List _)(nv:Value)(len i x n Gv m:Nat):=FP a nv len i++[(10,iv x),(38,IV Gv n),(41,iv m)]
def Zu:=(po XI (XJ Z0 (bZ none 0 0) 0 0 0 1 0 0) (ptr 0)).1.todo
def Zv(a:List _)(nv:Value)(len i x Gv m:Nat):=FP a nv len i++[(10,iv x),(42,.pointer (some ⟨Gv,m,none⟩))]
def sS:=(po Zu (Zv Z0 (bZ none 0 0) 0 0 0 0 0) (.chan none)).1.todo
def aS(a:List _)(nv:Value)(len i x ch:Nat):=FP a nv len i++[(43,.chan (some ch)),(44,iv x)]
def tT:=(go1 (no tS) (FP Z0 (bZ none 0 0) 0 0)).1.todo
def FQ(a:List _)(Gv n i:Nat):=a++[(46,IV Gv n),(47,iv n),(48,iv i)]
def XK:=(go1 (yes tT) (FQ Z0 0 1 0)).1.todo
def Zw:=(po XK (FQ Z0 0 1 0) (ptr 0)).1.todo
def Zx(a:List _)(Gv n i:Nat):=FQ a Gv n i++[(50,.pointer (some ⟨Gv,i,none⟩))]
def Zy:=(po Zw (Zx Z0 0 1 0) (.chan none)).1.todo
def Zz(a:List _)(Gv n i ch:Nat):=FQ a Gv n i++[(52,.chan (some ch))]
def XL:=(go1 (no tT) (FQ Z0 0 1 0)).1.todo
section
variable(b:Option Addr)(len cap n i x m Wg Gv ch:Nat)(p:Addr)(work:Value)(J:Nat->Value)(l:List Frame)
def RK2:=aY PR 60 (dF (no sD) (Cs (eS (bZ b len cap) n work Wg Gv) n i) J) l
def XM:=aY PR 60 (dF (yes tS) (FP (eS (bZ b len cap) n work Wg Gv) (bZ b len cap) len i) J) l
def XO:=aY PR 60 ((dF UT (UU (eS (bZ b len cap) n work Wg Gv) (bZ b len cap) len i) J).finish (.pointer (some p))) l
def RR:=aY PR 60 ((dF Zs (Zt (eS (bZ b len cap) n work Wg Gv) (bZ b len cap) len i p) J).finish (iv x)) l
def XP:=aY PR 60 ((dF sR (aR (eS (bZ b len cap) n work Wg Gv) (bZ b len cap) len i x n Gv) J).finish (iv m)) l
def XQ:=aY PR 60 ((dF XI (XJ (eS (bZ b len cap) n work Wg Gv) (bZ b len cap) len i x n Gv m) J).finish (.pointer (some ⟨Gv,m,none⟩))) l
def RS:=aY PR 60 ((dF Zu (Zv (eS (bZ b len cap) n work Wg Gv) (bZ b len cap) len i x Gv m) J).finish (.chan (some ch))) l
def UW:=aY PR 60 ((dF sS (aS (eS (bZ b len cap) n work Wg Gv) (bZ b len cap) len i x ch) J).finish undef) l
def RK3:=aY PR 60 (dF (no tS) (FP (eS (bZ b len cap) n work Wg Gv) (bZ b len cap) len i) J) l
def XR:=aY PR 60 (dF (yes tT) (FQ (eS (bZ b len cap) n work Wg Gv) Gv n i) J) l
def XS:=aY PR 60 ((dF XK (FQ (eS (bZ b len cap) n work Wg Gv) Gv n i) J).finish (.pointer (some ⟨Gv,i,none⟩))) l
def XT:=aY PR 60 ((dF Zw (Zx (eS (bZ b len cap) n work Wg Gv) Gv n i) J).finish (.chan (some ch))) l
def UX:=aY PR 60 ((dF Zy (Zz (eS (bZ b len cap) n work Wg Gv) Gv n i ch) J).finish unit) l
def ZA:=aY PR 60 (dF (no tT) (FQ (eS (bZ b len cap) n work Wg Gv) Gv n i) J) l
end
section
variable{b:Option Addr}{len cap n i x m Wg Gv ch:Nat}{p:Addr}{work:Value}{J:Nat->Value}{l cs:List Frame}{c:Frame}
theorem rk2:look [0,1,2,6,7,31,32,33,34] (RK2 b len cap n i Wg Gv work J l)=aP 137 55 l tS (FP (eS (bZ b len cap) n work Wg Gv) (bZ b len cap) len 0++[(34,.bool (decide ((0:Int)<len)))]) none none:=by kernel_rfl
theorem ri3:look [0,1,2,6,7,31,32,33,35] (XM b len cap n i Wg Gv work J l)=aP 137 55 l UT (UU (eS (bZ b len cap) n work Wg Gv) (bZ b len cap) len i) none none:=by kernel_rfl
theorem rl3:look [0,1,2,6,7,31,32,33,35,36] (XO b len cap n i Wg Gv p work J l)=aP 137 55 l Zs (Zt (eS (bZ b len cap) n work Wg Gv) (bZ b len cap) len i p) none (some (3,.pointer (some p))):=by kernel_rfl
theorem rr:look [0,1,2,6,7,31,32,33,9,10,38,39,40] (RR b len cap n i x Wg Gv p work J l)=aP 137 55 l sR (aR (eS (bZ b len cap) n work Wg Gv) (bZ b len cap) len i x n Gv) none none:=by kernel_rfl
theorem ri4:look [0,1,2,6,7,31,32,33,10,38,41] (XP b len cap n i x m Wg Gv work J l)=aP 137 55 l XI (XJ (eS (bZ b len cap) n work Wg Gv) (bZ b len cap) len i x n Gv m) none none:=by kernel_rfl
theorem rl4:look [0,1,2,6,7,31,32,33,10,42] (XQ b len cap n i x m Wg Gv work J l)=aP 137 55 l Zu (Zv (eS (bZ b len cap) n work Wg Gv) (bZ b len cap) len i x Gv m) none (some (214,.pointer (some ⟨Gv,m,none⟩))):=by kernel_rfl
theorem rs:look [0,1,2,6,7,31,32,33,43,44] (RS b len cap n i x m Wg Gv ch work J l)=aP 137 55 l sS (aS (eS (bZ b len cap) n work Wg Gv) (bZ b len cap) len i x ch) none none:=by kernel_rfl
theorem ZC:Mx PR (dF sS (aS (eS (bZ b len cap) n work Wg Gv) (bZ b len cap) len i x ch) J)=some (.comm #[scase ch (.int .i64 x) undef] true .send):=by kernel_rfl
theorem ZD:look [0,1,2,6,7,31,32,33,34] (UW b len cap n i x Wg Gv ch work J l)=aP 137 55 l tS (eS (bZ b len cap) n work Wg Gv++[(31,bZ b len cap),(32,iv len),(33,.int .i64 (aeT.wrap (i+1))),(34,.bool (decide (aeT.wrap (i+1)<len)))]) none none:=by kernel_rfl
theorem rk3:look [0,1,2,6,7,46,47,48,49] (RK3 b len cap n i Wg Gv work J l)=aP 137 55 l tT (FQ (eS (bZ b len cap) n work Wg Gv) Gv n 0++[(49,.bool (decide ((0:Int)<n)))]) none none:=by kernel_rfl
theorem ri5:look [0,1,2,6,7,46,47,48] (XR b len cap n i Wg Gv work J l)=aP 137 55 l XK (FQ (eS (bZ b len cap) n work Wg Gv) Gv n i) none none:=by kernel_rfl
theorem rl5:look [0,1,2,6,7,46,47,48,50] (XS b len cap n i Wg Gv work J l)=aP 137 55 l Zw (Zx (eS (bZ b len cap) n work Wg Gv) Gv n i) none (some (214,.pointer (some ⟨Gv,i,none⟩))):=by kernel_rfl
theorem rcl:look [0,1,2,6,7,46,47,48,52] (XT b len cap n i Wg Gv ch work J l)=aP 137 55 l Zy (Zz (eS (bZ b len cap) n work Wg Gv) Gv n i ch) none none:=by kernel_rfl
theorem P8:(opAt (dF Zy (Zz (eS (bZ b len cap) n work Wg Gv) Gv n i ch) J)).map (fun o=>(o.dst,o.op))=some (none,.call {callee:=.builtin .close,args:=#[.tmp 52],argTypes:=#[214]}):=by kernel_rfl
theorem ZG:look [0,1,2,6,7,46,47,48,49] (UX b len cap n i Wg Gv ch work J l)=aP 137 55 l tT (eS (bZ b len cap) n work Wg Gv++[(46,IV Gv n),(47,iv n),(48,.int .i64 (aeT.wrap (i+1))),(49,.bool (decide (aeT.wrap (i+1)<n)))]) none none:=by kernel_rfl
theorem rc2:look [0,1,2,6,7] (ZA b len cap n i Wg Gv work J l)=aP 137 55 l XL (eS (bZ b len cap) n work Wg Gv) (some (159,#[ptr Wg])) none:=by kernel_rfl
theorem UY:aQ PR 1 (dF XL (eS (bZ b len cap) n work Wg Gv) J) l=(Frame.enter PR 159 #[ptr Wg] .normal,dF XL (eS (bZ b len cap) n work Wg Gv) J::l):=by kernel_rfl
theorem UZ{j:Nat}:aQ PR 1 (dF UO (UQ (eS (bZ b len cap) n work Wg Gv) n j) J) l=(Frame.enter PR 157 #[ptr Wg,.int .i64 1] .normal,dF UO (UQ (eS (bZ b len cap) n work Wg Gv) n j) J::l):=by kernel_rfl
theorem U0{j:Nat}:(opAt (dF Xy (Xz (eS (bZ b len cap) n work Wg Gv) Gv n j ch) J)).map (fun o=>o.op)=some (.indexAddr 213 (.tmp 20) (.tmp 21)):=by kernel_rfl
theorem U4{j:Nat}:(opAt (dF UM (UN (eS (bZ b len cap) n work Wg Gv) Gv n j ch) J)).map (fun o=>o.op)=some (.store 214 (.tmp 23) (.tmp 22)):=by kernel_rfl
theorem U5{j:Nat}:(opAt (dF XA (XB (eS (bZ b len cap) n work Wg Gv) Gv n j) J)).map (fun o=>o.op)=some (.indexAddr 213 (.tmp 25) (.tmp 26)):=by kernel_rfl
theorem U6:(opAt (dF UT (UU (eS (bZ b len cap) n work Wg Gv) (bZ b len cap) len i) J)).map (fun o=>o.op)=some (.indexAddr 25 (.tmp 31) (.tmp 33)):=by kernel_rfl
theorem ZI:(opAt (dF sR (aR (eS (bZ b len cap) n work Wg Gv) (bZ b len cap) len i x n Gv) J)).map (fun o=>o.op)=some (.binOp .rem 3 (.tmp 39) (.tmp 40) 3):=by kernel_rfl
theorem U7:(opAt (dF XI (XJ (eS (bZ b len cap) n work Wg Gv) (bZ b len cap) len i x n Gv m) J)).map (fun o=>o.op)=some (.indexAddr 213 (.tmp 38) (.tmp 41)):=by kernel_rfl
theorem U8:(opAt (dF XK (FQ (eS (bZ b len cap) n work Wg Gv) Gv n i) J)).map (fun o=>o.op)=some (.indexAddr 213 (.tmp 46) (.tmp 48)):=by kernel_rfl
end
section
variable{main:Bool}{f:Frame}{cs:List Frame}{w w':World}
theorem ny{x:Op}(h:(opAt f).map (fun o=>o.op)=some x):∃o,opAt f=some o/\o.op=x:=by simp_all
theorem step_skip{o:Oper}(h:opAt f=some o)(hr:(execOp f.eval o).run P w=.ok .skip w'):stepG P main (G f cs) w=.go (G (f.finish undef) cs) w' (seen P f.fn ((execOp f.eval o).events P w #[])):=by
 obtain⟨ops,i,rest,k,e,H,hw,hk⟩:=eu h;have K:f.eval=Act.eval ⟨f.tmps,f.defers⟩:=by rw[e];exact Frame.eval_at' _ _ _
 have:=stepG_none (main:=main) (a:=⟨f.tmps,f.defers⟩) (k:=k) (cs:=cs) (rest:=rest) H hw hk (by exact hr);rw[<-e]at this;rw[this];have Y:f.finish undef=f.at (Act.put ⟨f.tmps,f.defers⟩ o.dst undef) (.inRegion ops rest::k):=by
  conv=>lhs;rw[e]
  rw[Frame.finish_at,H];rfl
 rw[<-Y];unfold listed;rw[<-K]
theorem pq{t:TypeId}{x:Operand}(h:(opAt f).map (fun o=>o.op)=some (.indexAddr t x y)){B o cap:Nat}(D:f.eval x=.slice (some ⟨B,o,none⟩) n cap)(R:f.eval y=.int .i64 (i:Int))(H:i<n)(hu:PR.underlying t=some (.slice (PR.elem t)))(U:(PR.info? (PR.elem t)).map (·.size)=some 1):
  stepG PR main (G f cs) w=.go (G (f.finish (.pointer (some ⟨B,o+i,none⟩))) cs) w #[]:=by
 obtain⟨op,I,aM⟩:=ny h;have A:∃inf,PR.info? (PR.elem t)=some inf/\inf.size=1:=by simp_all
 obtain⟨inf,Y,K⟩:=A;have hr:(execOp f.eval op).run PR w=.ok (.value (.pointer (some ⟨B,o+i,none⟩))) w:=by
  unfold execOp;simp only[aM,D,R];simp[Instr.indexAt,run_underlying hu,asIntOf,H,sizeOf,typeInfo,Y,K,Addr.add];try(intro e;subst e;rfl)
 have he:(execOp f.eval op).events PR w #[]=#[]:=by
  unfold execOp;simp only[aM,D,R];simp[Instr.indexAt,run_underlying hu,asIntOf,H,sizeOf,typeInfo,Y,Addr.add]
 rw[bG I hr,he,seen_none]
theorem KD{x:Operand}(h:(opAt f).map (fun o=>o.op)=some (.binOp .rem 3 x y 3))(Y:f.eval x=.int .i64 i)(H:f.eval y=.int .i64 n)(R:0<n)(D:i<9223372036854775808):
  stepG PR main (G f cs) w=.go (G (f.finish (.int .i64 ((i%n:Nat)))) cs) w #[]:=by
 obtain⟨op,K,aM⟩:=ny h;have hr:(execOp f.eval op).run PR w=.ok (.value (.int .i64 ((i%n:Nat)))) w:=by
  unfold execOp;simp[aM,Y,H];simp[go_sem];rw[if_neg (by omega),Int.tmod_eq_emod_of_nonneg (by omega)]
 have he:(execOp f.eval op).events PR w #[]=#[]:=by
  unfold execOp;simp[aM,Y,H];simp[go_sem]
 rw[bG K hr,he,seen_none]
theorem step_mk{o:Oper}(Y:opAt f=some o)(aM:o.op=.makeChan 214 (.const (.int .i64 0))):
  stepG PR main (G f cs) w=.go (G (f.finish (.chan (some w.heap.size))) cs) (w.alloc (.chan 0 #[] false 0 0 false)) #[]:=by
 have hr:(execOp f.eval o).run PR w=.ok (.value (.chan (some w.heap.size))) (w.alloc (.chan 0 #[] false 0 0 false)):=by
  unfold execOp;simp only[aM];rfl
 have he:(execOp f.eval o).events PR w #[]=#[]:=by
  unfold execOp;simp[aM];rfl
 rw[bG Y hr,he,seen_none]
theorem yJ{x:Operand}(h:(opAt f).map (fun o=>o.op)=some (.store 214 x y)){B:Nat}{v:Option Nat}{row:Array Value}{t:TypeId}(R:f.eval x=.pointer (some ⟨B,i,none⟩))(I:f.eval y=.chan v)(hB:w.heap[B]?=some (.cells row t))(U:i<row.size)(F:(PR.funcs[f.fn]?).any (·.norace)=false):
  stepG PR main (G f cs) w=.go (G (f.finish undef) cs) (w.setCell ⟨B,i,none⟩ (.chan v)) #[⟨.cell ⟨B,i,none⟩,true,false⟩]:=by
 obtain⟨op,C,aM⟩:=ny h;have H:w.cell? ⟨B,i,none⟩=some row[i]:=by simp[World.cell?,hB,U]
 have A:w.frozen? ⟨B,i,none⟩=false:=by simp[World.frozen?,hB]
 have D:(PR.info? 214).map (·.size)=some 1:=by kernel_rfl
 have D:∃inf,PR.info? 214=some inf/\inf.size=1:=by simp_all
 obtain⟨inf,Y,K⟩:=D;have hr:(execOp f.eval op).run PR w=.ok .skip (w.setCell ⟨B,i,none⟩ (.chan v)):=by
  unfold execOp;simp only[aM,R,I];simp[go_sem,sizeOf,typeInfo,Y,K,H,A]
 have he:(execOp f.eval op).events PR w #[]=#[⟨.cell ⟨B,i,none⟩,true,false⟩]:=by
  unfold execOp;simp only[aM,R,I];simp[go_sem,sizeOf,typeInfo,Y,K,H,A]
 rw[step_skip C hr,he,seen_def,F];simp[seenStep]
theorem NQ{x:Operand}(h:(opAt f).map (fun o=>(o.dst,o.op))=some (none,.call {callee:=.builtin .close,args:=#[x],argTypes:=#[214]})){c s:Nat}(R:f.eval x=.chan (some c))(Y:w.heap[c]?=some (.chan 0 #[] false s s false))(D:(PR.funcs[f.fn]?).any (·.norace)=false):
  stepG PR main (G f cs) w=.go (G (f.finish unit) cs) (w.setChan c 0 #[] true s s false) (closeEvents c):=by
 obtain⟨op,H,aM⟩:∃o,opAt f=some o/\o.op=.call _:=by
  cases e:opAt f with
  |none=>rw[e]at h;cases h
  |some o=>rw[e]at h;exact⟨o,rfl,congrArg Prod.snd (Option.some.inj h)⟩
 refine conv H fun ops i rest k K hw hk=>?_
 exact stepG_close K hw hk aM (by exact R) Y D
theorem KF{x:Operand}(h:(opAt f).map (fun o=>(o.dst,o.op))=some (none,.call {callee:=.builtin .close,args:=#[x],argTypes:=#[214]})):mayWake PR (G f cs)=true:=by
 obtain⟨op,H,aM⟩:∃o,opAt f=some o/\o.op=.call _:=by
  cases e:opAt f with
  |none=>rw[e]at h;cases h
  |some o=>rw[e]at h;exact⟨o,rfl,congrArg Prod.snd (Option.some.inj h)⟩
 obtain⟨ops,i,rest,k,Y,K,hw,hk⟩:=eu H;have hm:f.mode=.run:=by rw[Y];rfl
 have D:f.todo=.inRegion ops (i::rest)::k:=by rw[Y];rfl
 unfold mayWake;simp[G,hm,D,K,Option.map_some,aM]
theorem kj{u:Nat}{a b:Code}{k:List _}{t:Bool}(hm:f.mode=.run)(hr:f.roundOf=none)(hk:f.kind≠.early)(H:f.todo=.code (.cond (.tmp u) a b)::k)(Y:f.tmps.getD u undef=.bool t):stepG P main (G f cs) w=.go (G {f with todo:=.code (if t then a else b)::k} cs) w #[]:=by
 refine tu hr hk hm ?_;have he:f.eval (.tmp u)=.bool t:=Y;unfold prun;simp_all
end
def y8 (ch Wg:Nat) (work:Value):={(default:Frame)with fn:=PR.funcs.size,defers:=[dcall 158 #[.chan (some ch),work,ptr Wg]],mode:=.panicking [goexitEntry]}
theorem born{ch:Nat}:stepG PR false (G (y8 ch Wg work) []) w=.go (G (Frame.enter PR 158 #[.chan (some ch),work,ptr Wg] .deferred) [bot]) w #[]:=by kernel_rfl
def ZJ (ch Wg:Nat) (work:Value):=aQ PR 60 (Frame.enter PR 158 #[.chan (some ch),work,ptr Wg] .deferred) [bot]
def Bf:=(ZJ 0 0 undef).1.todo
def ZL(Wg:Nat)(site:List Item)(s:Nat->Option Value)(j:Nat->Value):Frame:={fn:=158,tmps:=TN 15 s j,todo:=site,defers:=[dcall 181 #[ptr Wg]],mode:=.run,kind:=.deferred}
def U9(ch Wg:Nat)(work:Value):=[(0,.chan (some ch)),(1,work),(2,ptr Wg),(8,.chan (some ch))]
structure XU(Wg:Nat)(site:List Item)(s:Nat->Option Value)(f:Frame):Prop where
 fn:f.fn=158
 todo:f.todo=site
 defers:f.defers=[dcall 181 #[ptr Wg]]
 mode:f.mode=.run
 kind:f.kind=.deferred
 round:f.roundOf=none
 size:f.tmps.size=15
 slot:∀i v,s i=some v->f.tmps.getD i undef=v
theorem XU.eq{site:List _}{s:Nat->Option _}(h:XU Wg site s f):f=ZL Wg site s (fun i=>f.tmps.getD i undef):=by
 obtain⟨fn,tmps,todo,defers,mode,kind,ro⟩:=f;obtain⟨D,R,I,A,U,B,K,H⟩:=h;congr 1;apply Array.ext
 ·simp[TN,K]
 ·intro i Y _;simp[TN,List.getElem_toArray,List.getElem_map,List.getElem_range];cases e:s i with
  |none=>simp[aeX Y]
  |some v=>
   rw[<-H i v e];simp[aeX Y]
def FT(ks:List Nat)(r:Frame×List _):=(look ks r,JH r.1)
def FU(Wg:Nat)(l:List Frame)(site:List Item)(al:List (Nat×Value)):tC×Option (TypeId×Value×Bool):=(⟨l,158,site,[dcall 181 #[ptr Wg]],.run,.deferred,none,15,al.map (·.2),none,none⟩,some (232,(al.map (·.2)).headD undef,true))
theorem KG{r:Frame×List _}{l:List _}{site:List _}{al:List _}(h:FT ks r=FU Wg l site al)(hk:al.map (·.1)=ks):r.2=l/\XU Wg site (sA al) r.1/\JH r.1=some (232,(al.map (·.2)).headD undef,true):=by
 subst hk;simp only[FT,look,FU,Prod.mk.injEq,tC.mk.injEq,List.map_map]at h;obtain⟨⟨K,R,I,A,U,B,C,F,J,H,D⟩,Y⟩:=h;exact⟨K,⟨R,I,A,U,B,C,F,ql J⟩,Y⟩
def cM(By Rf Sg Fp:Nat):Value:=.func (.func 138) #[] #[.pointer (some ⟨By,0,none⟩),.pointer (some ⟨Rf,0,none⟩),.pointer (some ⟨Sg,0,none⟩),.pointer (some ⟨Fp,0,none⟩)]
def WG (ch Wg:Nat) (work:Value) (v:Value) (b:Bool) (j:Nat->Value):=aQ PR 60 ((ZL Wg Bf (sA (U9 ch Wg work)) j).finish (.tuple #[v,.bool b])) [bot]
section
variable{ch Wg By Rf Sg Fp:Nat}{work:Value}{x:Int}{v:Value}{j:Nat->Value}
theorem wa0:FT [0,1,2,8] (ZJ ch Wg work)=FU Wg [bot] Bf (U9 ch Wg work):=by kernel_rfl
theorem Hv:WG ch Wg work v false j=Tx Wg (fZ ((WG ch Wg work v false j).2.getD 1 bot).tmps ((WG ch Wg work v false j).2.getD 1 bot).todo) [bot]:=by kernel_rfl
end
def XV:Value:=.int .i64 0
section
variable{ch Wg:Nat}{work:Value}{j:Nat->Value}
theorem NR:Mx PR (ZL Wg Bf (sA (U9 ch Wg work)) j)=some (.comm #[rcase ch XV] true (.recv true)):=by kernel_rfl
end
namespace Env
structure Hw(E:Env)(RO S X:Nat->Prop):Prop where
 ro:∀a,RO a->S a
 mp:¬S E.Mp
 mpx:¬X E.Mp
 fd:RO E.Fd
 wg:RO E.Wg
 xJ:∀a,RO a->¬X a
structure tU(E:Env)(RO:Nat->Prop)(Fx:World->Prop):Prop where
 rely:∀S w w2,(∀a,RO a->S a)->Fx w->az E.U S w w2->Fx w2
 fd:∀w,Fx w->E.AR w
 wg:∀w,Fx w->E.o8 w
variable(E:Env)(ch:Nat)(ok:Nat->Prop)(work:Value)(RO:Nat->Prop)(Fx:World->Prop)
def AtRecv(S X:Nat->Prop)(g:Goroutine)(w:World):=∃f,g=G f [bot]/\XU E.Wg Bf (sA (U9 ch E.Wg work)) f/\E.Hw RO S X/\Fx w
def qz:Prop:=∀(k x:Nat) (S X:Nat->Prop) (j:Nat->Value) (w:World),ok x->E.Hw RO S X->Fx w->E.Tree PR false (E.dp PR (AtRecv E ch work RO Fx) k (.ld x)) S X (G (WG ch E.Wg work (.int .i64 (x:Int)) true j).1 (WG ch E.Wg work (.int .i64 (x:Int)) true j).2) w
variable{E ch ok work RO Fx}{S X:Nat->Prop}{g:Goroutine}{w w2:World}
theorem Bg(h:AtRecv E ch work RO Fx S X g w):g.status=.running/\g.offers=none:=by
 obtain⟨f,rfl,_⟩:=h;exact⟨rfl,rfl⟩
theorem Hx(h:AtRecv E ch work RO Fx S X g w):stepG PR false g w2=.comm g #[rcase ch XV] true (.recv true) w2 #[]:=by
 obtain⟨f,rfl,Y,_⟩:=h;rw[Y.eq];exact xB NR
theorem Bh(K:E.tU RO Fx)(hC:qz E ch ok work RO Fx)(h:AtRecv E ch work RO Fx S X g w)(hr:az E.U S w w2){x:Nat}(D:ok x)(k:Nat):E.Tree PR false (E.dp PR (AtRecv E ch work RO Fx) k (.ld x)) S X (Go.Conc.served g (recvd true (.int .i64 x) true)) w2:=by
 obtain⟨f,rfl,H,hW,hF⟩:=h;rw[H.eq];refine Tz.pure 60 fun w3 Y=>?_;exact hC k x S X _ w3 D hW (K.rely S _ _ hW.ro (K.rely S _ _ hW.ro hF hr) Y)
theorem Bi(K:E.tU RO Fx)(h:AtRecv E ch work RO Fx S X g w)(hr:az E.U S w w2)(v:Value)(k:Nat):E.Tree PR false (E.dp PR (AtRecv E ch work RO Fx) k .wr) S X (Go.Conc.served g (recvd true v false)) w2:=by
 obtain⟨f,rfl,H,hW,hF⟩:=h;rw[H.eq];refine Tz.pure 60 fun w3 Y=>?_;have e:=Hv (ch:=ch) (Wg:=E.Wg) (work:=work) (v:=v) (j:=fun i=>f.tmps.getD i undef);change E.Tree PR _ _ S X (G (WG ch _ _ v _ _).1 (WG ch _ _ v _ _).2) w3;rw[e];exact NK (hW.ro _ hW.wg) k (K.wg _ (K.rely S _ _ hW.ro (K.rely S _ _ hW.ro hF hr) Y))
theorem NS(K:E.tU RO Fx)(hW:E.Hw RO S X)(hF:Fx w):E.Tree PR false (AtRecv E ch work RO Fx) S X (G (y8 ch E.Wg work) []) w:=by
 refine Tz.one rfl fun w2 hr=>⟨_,w2,#[],S,X,Ph.born,ay S X w2,Tz.pure 60 fun w3 Y=>?_⟩;obtain⟨H,D,_⟩:=KG (wa0) rfl;change E.Tree PR _ _ S X (G _ (ZJ ch _ _).2) w3;rw[H];exact .stop ⟨_,rfl,D,hW,K.rely S _ _ hW.ro (K.rely S _ _ hW.ro hF hr) Y⟩
end Env
end Ph
namespace Ph
open Conc Ren
open Lock (Word PC Mv bn)
def cout(fn:FuncId)(tmps:Array Value)(todo:List Item)(kind:CallKind)(ro:Option Nat):Frame:=⟨fn,tmps,todo,[],.returning,kind,ro⟩
section
variable(Fd:Nat)(c:Frame)(cs:List Frame)(v:Value)
def U_:Frame×List Frame:=aQ PR 60 (Frame.enter PR 161 #[ptr Fd] .deferred) (c::cs)
def ZM:Frame×List Frame:=aQ PR 60 ((U_ Fd c cs).1.finish v) (U_ Fd c cs).2
def ZN:Frame×List Frame:=aQ PR 60 ((ZM Fd c cs v).1.finish (ptr Fd)) (ZM Fd c cs v).2
def ZO:Frame×List Frame:=aQ PR 60 ((ZN Fd c cs v).1.finish unit) (ZN Fd c cs v).2
def TB:Frame×List Frame:=aQ PR 60 ((ZO Fd c cs v).1.finish unit) (ZO Fd c cs v).2
def RQ (z:Int):Frame×List Frame:=aQ PR 300 ((TB Fd c cs v).1.finish (.int .i32 z)) (TB Fd c cs v).2
def RV(f:Frame):Frame:=match f.todo with
 |.code (.cond _ a _)::k=>{f with todo:=.code a::k}
 |_=>f
def UBz (z:Int):Frame×List Frame:=yU PR 16 300 ((TB Fd c cs v).1.finish (.int .i32 z)) (TB Fd c cs v).2
def UB (z:Int):List Frame:=(aQ PR 4 (RV (UBz Fd c cs v z).1) (UBz Fd c cs v z).2).2
end
def outs:List Nat:=(List.range 72).filter fun i=>i%2==0&&i/4%2==0&&(i/8==0||i/2%2==1)
def ZP:List Nat:=(List.range 72).filter fun i=>i%2==0&&i/4%2==0&&!(i/8==0||i/2%2==1)
def ZQ:List Nat:=(List.range 72).filter fun i=>i%2==0&&i/4%2==1
section
variable{Fd:Nat}{fn:FuncId}{tmps:Array Value}{todo:List Item}{kind:CallKind}{ro:Option Nat}{cs:List Frame}{v:Value}{z:Int}{c:Frame}
theorem ua0:gS (U_ Fd c cs).1=some (21,ptr Fd):=by kernel_rfl
theorem ua1:gU (ZM Fd c cs v).1=some (253,159,ptr Fd):=by kernel_rfl
theorem ua2:ahead (ZN Fd c cs v).1=some (168,#[ptr Fd]):=by kernel_rfl
theorem ua3:ahead (ZO Fd c cs v).1=some (169,#[]):=by kernel_rfl
theorem ua4:ahead (TB Fd c cs v).1=some (206,#[ptr Fd,.int .i32 (-1)]):=by kernel_rfl
theorem ZR:(PR.funcs[188]?).any (·.norace)=true:=by kernel_rfl
theorem Va:(U_ Fd c cs).1.fn=188:=by kernel_rfl
theorem NT:(outs.map fun i:Nat=>ahead (RQ Fd c cs v (i:Int)).1)=outs.map fun i:Nat=>some (170,#[]):=by kernel_rfl
theorem KH:(outs.map fun i:Nat=>aQ PR 6 ((RQ Fd (cout fn tmps todo kind ro) cs v (i:Int)).1.finish unit) (RQ Fd (cout fn tmps todo kind ro) cs v (i:Int)).2)=outs.map fun i:Nat=>(cout fn tmps todo kind ro,cs):=by kernel_rfl
end
def ZS(Fd:Nat)(old:Int):List (Nat×Value):=[(0,ptr Fd),(4,.int .i32 old)]
def P9(Fd:Nat):List (Nat×Value):=[(0,ptr Fd)]
def DT:List Item:=(RQ 0 (cout 0 #[] [] .normal none) [] undef 8).1.todo
def DV:List Item:=(RQ 0 (cout 0 #[] [] .normal none) [] undef 12).1.todo
def qA (Fd:Nat) (old:Int) (b:Bool) (j:Nat->Value) (l:List Frame):Frame×List Frame:=aQ PR 300 ((ru 207 43 DT (sA (ZS Fd old)) j).finish (.bool b)) l
def DX:List Item:=(qA 0 8 true jz []).1.todo
def KI:List Item:=(qA 0 8 false jz []).1.todo
def y9 (Fd:Nat) (old:Int) (j:Nat->Value) (l:List Frame):Frame×List Frame:=aQ PR 300 ((ru 207 43 KI (sA (P9 Fd)) j).finish (.int .i32 old)) l
def DY (Fd:Nat) (j:Nat->Value) (l:List Frame):Frame×List Frame:=aQ PR 300 ((ru 207 43 DX (sA (P9 Fd)) j).finish unit) l
def DZ (Fd:Nat) (j:Nat->Value) (l:List Frame):Frame×List Frame:=aQ PR 300 ((ru 207 43 DV (sA (P9 Fd)) j).finish unit) l
def D3:List Nat:=(List.range 72).filter fun i=>i%8==0&&!(i/8==0)
def tV:List Nat:=(List.range 72).filter fun i=>!(i%8==0&&!(i/8==0))
def toUC (l:List Frame) (Fd:Nat) (i:Nat):tC:=aP 207 43 l DT (ZS Fd (i:Int)) (some (204,#[ptr Fd,.int .i32 (i:Int),.int .i32 (val {wd i with W:=i/8-1,K:=true})])) none
section
variable{Fd:Nat}{fn:FuncId}{tmps:Array Value}{todo:List Item}{kind:CallKind}{ro:Option Nat}{cs l:List Frame}{v:Value}{z old:Int}{c:Frame}{j:Nat->Value}
theorem NU:(ZP.map fun i:Nat=>look [0,4] (RQ Fd c cs v (i:Int)))=ZP.map fun i:Nat=>toUC (UB Fd c cs v (i:Int)) Fd i:=by kernel_rfl
theorem NV:(ZQ.map fun i:Nat=>look [0] (RQ Fd c cs v (i:Int)))=ZQ.map fun i:Nat=>aP 207 43 (UB Fd c cs v (i:Int)) DV (P9 Fd) (some (220,#[.pointer (some ⟨Fd,1,none⟩),.bool true,.int .i64 2])) none:=by kernel_rfl
theorem KJ:look [0] (qA Fd old true j l)=aP 207 43 l DX (P9 Fd) (some (220,#[.pointer (some ⟨Fd,1,none⟩),.bool false,.int .i64 2])) none:=by kernel_rfl
theorem KM:look [0] (qA Fd old false j l)=aP 207 43 l KI (P9 Fd) none (some (21,ptr Fd)):=by kernel_rfl
theorem D4:(D3.map fun i:Nat=>look [0,4] (y9 Fd (i:Int) j l))=D3.map (toUC l Fd):=by kernel_rfl
theorem D5:(tV.map fun i:Nat=>ahead (y9 Fd (i:Int) j (UB Fd c cs v z)).1)=tV.map fun i:Nat=>some (170,#[]):=by kernel_rfl
theorem D6:(tV.map fun i:Nat=>aQ PR 6 ((y9 Fd (i:Int) j (UB Fd (cout fn tmps todo kind ro) cs v z)).1.finish unit) (y9 Fd (i:Int) j (UB Fd (cout fn tmps todo kind ro) cs v z)).2)=tV.map fun i:Nat=>(cout fn tmps todo kind ro,cs):=by kernel_rfl
theorem Vb:ahead (DY Fd j (UB Fd c cs v z)).1=some (170,#[]):=by kernel_rfl
theorem RX:aQ PR 6 ((DY Fd j (UB Fd (cout fn tmps todo kind ro) cs v z)).1.finish unit) (DY Fd j (UB Fd (cout fn tmps todo kind ro) cs v z)).2=(cout fn tmps todo kind ro,cs):=by kernel_rfl
theorem Vd:ahead (DZ Fd j (UB Fd c cs v z)).1=some (170,#[]):=by kernel_rfl
theorem RY:aQ PR 6 ((DZ Fd j (UB Fd (cout fn tmps todo kind ro) cs v z)).1.finish unit) (DZ Fd j (UB Fd (cout fn tmps todo kind ro) cs v z)).2=(cout fn tmps todo kind ro,cs):=by kernel_rfl
theorem ZT:(PR.funcs[207]?).any (·.norace)=true:=by kernel_rfl
end
end Ph
namespace Ph
open Conc Ren
noncomputable def pv:List Item:=match Tryz.f138.body with
 |some (.seq _ (.seq _ Y))=>[.code Y]
 |_=>[]
noncomputable def KN:List Item:=match Tryz.f140.body with
 |some (.seq _ (.seq _ (.seq _ bl)))=>[.code bl]
 |_=>[]
def NY(Fp:Nat)(sl:Value):=[(4,ptr Fp),(6,sl)]
def Ve (Fp:Nat) (sl:Value) (j:Nat->Value) (l:List _):=aQ PR 60 (ru 138 39 pv (sA (NY Fp sl)) j) l
def Vf (Fp Fd:Nat) (sl:Value) (j:Nat->Value) (l:List _):=aQ PR 8 ((Ve Fp sl j l).1.finish (ptr Fd)) (Ve Fp sl j l).2
def Vg (Fp Fd:Nat) (sl:Value) (j:Nat->Value) (l:List _):=(Vf Fp Fd sl j l).2.headD bot
def XW (Fp Fd:Nat) (sl:Value) (j:Nat->Value) (l:List _):=(Vf Fp Fd sl j l).2.tail
def XY (Fp Fd:Nat) (a:Option _) (n cap:Nat) (j:Nat->Value) (l:List _):=aQ PR 14 ((Vg Fp Fd (.slice a n cap) j l).finish unit) (XW Fp Fd (.slice a n cap) j l)
section
variable{Fp Fd n cap ch Wg By Rf Sg:Nat}{sl work v:Value}{a:Option Addr}{j j2:Nat->Value}{l:List Frame}{T:Array Value}{x:Int}
theorem Uf:gS (Ve Fp sl j l).1=some (182,ptr Fp):=by kernel_rfl
theorem Vh:(Ve Fp sl j l).1.fn=138:=by kernel_rfl
theorem cl1:Vf Fp Fd sl j l=(Frame.enter PR 160 #[ptr Fd] .normal,Vg Fp Fd sl j l::XW Fp Fd sl j l):=by kernel_rfl
theorem cl2:look [0,1,15,16,17] (XY Fp Fd a n cap j l)=⟨XW Fp Fd (.slice a n cap) j l,140,KN,[dcall 161 #[ptr Fd]],.run,.normal,none,48,[ptr Fd,.slice a n cap,.slice a n cap,.int .i64 n,.int .i64 0],none,none⟩:=by kernel_rfl
def TC (ch Wg:Nat) (work v:Value) (j:Nat->Value):=(WG ch Wg work v true j).2.headD bot
def CL3 (Fp Fd:Nat) (sl:Value) (j j2:Nat->Value) (T:Array _) (ch Wg:Nat) (work v:Value):=aQ PR 60 (cout 140 T [] .normal none) (XW Fp Fd sl j [TC ch Wg work v j2,bot])
theorem cl3:FT [0,1,2,8] (CL3 Fp Fd sl j j2 T ch Wg (cM By Rf Sg Fp) (.int .i64 x))=FU Wg [bot] Bf (U9 ch Wg (cM By Rf Sg Fp)):=by kernel_rfl
theorem D7:(WG ch Wg (cM By Rf Sg Fp) (.int .i64 x) true j).2=[TC ch Wg (cM By Rf Sg Fp) (.int .i64 x) j,bot]:=by kernel_rfl
def RZ(Fd:Nat)(T:Array Value):Frame:=⟨140,T,[],[dcall 161 #[ptr Fd]],.run,.normal,none⟩
theorem cl4:aQ PR 2 (RZ Fd T) l=(Frame.enter PR 161 #[ptr Fd] .deferred,cout 140 T [] .normal none::l):=by kernel_rfl
theorem ZU:(PR.funcs[138]?).any (·.norace)=false:=by kernel_rfl
theorem KO:pW PR (isAgg 182)=some false:=by kernel_rfl
end
end Ph
namespace Ph
open Conc Ren
open Lock (Word PC Mv bn low dec)
theorem KP(m:Word):(nv m%8==0&&!(nv m/8==0))=!(decide (m.W=0\/m.L=true\/m.K=true\/m.S=true)):=by
 have h:nv m%8=bn m.L+2 *bn m.K+4 *bn m.S:=by
  have:=Lock.lK m.L;have:=Lock.lK m.K;have:=Lock.lK m.S;unfold nv;omega
 rw[wj,h];by_cases hW:m.W=0<;>cases m.L<;>cases m.K<;>cases m.S<;>simp[bn,hW]
namespace Env
theorem Hy{E:Env}{D:(Nat->Prop)->(Nat->Prop)->Goroutine->World->Prop}{site:List _}{al:List _}{l:List _}(Y:pY fn n site (sA al) f)(k:∀j w3,az E.U S w w3->E.Tree PR false D S X (G (aQ PR 300 ((ru fn n site (sA al) j).finish v) l).1 (aQ PR 300 ((ru fn n site (sA al) j).finish v) l).2) w3):E.Tree PR false D S X (G (f.finish v) l) w:=by
 rw[Y.eq];exact Tz.pure 300 fun w3 hr=>k _ w3 hr
section
variable{E:Env}{A:(Nat->Prop)->(Nat->Prop)->Goroutine->World->Prop}{S X:Nat->Prop}{Fx:World->Prop}{fn:FuncId}{tmps:Array Value}{todo:List Item}{kind:CallKind}{ro:Option Nat}{cs:List Frame}
def Out(E:Env)(A:(Nat->Prop)->(Nat->Prop)->Goroutine->World->Prop)(S X:Nat->Prop)(Fx:World->Prop)(c:Frame)(cs:List _):=∀k w,Fx w->E.Tree PR false (E.dp PR A k .recv) S X (G c cs) w
variable(K:E.Kn S Fx)(hT:Out E A S X Fx (cout fn tmps todo kind ro) cs)
include K hT
theorem FV{l:List _}(h:ahead f=some (170,#[]))(H:aQ PR 6 (f.finish unit) l=(cout fn tmps todo kind ro,cs))(k:Nat)(hF:Fx w):E.Tree PR false (E.dp PR A k .ue) S X (G f l) w:=by
 refine .stop ?_;cases k with
 |zero=>trivial
 |succ k=>
  refine⟨rfl,rfl,fun w2 hr=>⟨G (f.finish unit) l,cS (by simp) DN h,Tz.pure 6 fun w3 Y=>?_⟩⟩;rw[H];exact hT k w3 (K.rely (K.rely hF hr) Y)
omit K hT in
theorem wrap_u32(h:cc<=1):IntKind.u32.wrap (cc+1)=((cc+1:Nat)):=by
 have:cc=0\/cc=1:=by omega
 rcases this with rfl|rfl<;>rfl
theorem Vi{r:Frame×List _}(h:sz 207 43 (UB E.Fd (cout fn tmps todo kind ro) cs v z) DX (P9 E.Fd) (some (220,#[.pointer (some E.ms),.bool false,.int .i64 2])) none r)(k:Nat)(hF:Fx w):E.Tree PR false (E.dp PR A k (.un .us)) S X (G r.1 r.2) w:=by
 refine .stop ?_;cases k with
 |zero=>trivial
 |succ k=>
  refine⟨rfl,rfl,fun w2 m D hr Y U R hW I=>.inr ?_⟩;have au:=gT (main:=false) (cs:=r.2) NF h.call rfl Y.lL (Y.thaw 1);rw[wrap_u32 I]at au;refine⟨_,m,D+1,_,_,_,Mv.us m D,au,Y.r9 _,Eff.set _ _ _ _,EvA.Tv _ _ (by omega),fun _=>qk NF h.call,?_⟩;refine Hy h.fr fun j w3 H=>?_;rw[h.callers];exact FV K hT Vb RX k (K.rely (K.tw (K.rely hF hr) Y (Eff.set _ _ _ _) (Y.r9 _)) H)
theorem Vj{r:Frame×List _}(h:sz 207 43 (UB E.Fd (cout fn tmps todo kind ro) cs v z) DV (P9 E.Fd) (some (220,#[.pointer (some E.ms),.bool true,.int .i64 2])) none r)(k:Nat)(hF:Fx w):E.Tree PR false (E.dp PR A k (.un .uh)) S X (G r.1 r.2) w:=by
 refine .stop ?_;cases k with
 |zero=>trivial
 |succ k=>
  refine⟨rfl,rfl,fun w2 m D hr Y U R hW I=>.inr ?_⟩;have au:=gT (main:=false) (cs:=r.2) NF h.call rfl Y.lL (Y.thaw 1);rw[wrap_u32 I]at au;refine⟨_,m,D+1,_,_,_,Mv.uh m D,au,Y.r9 _,Eff.set _ _ _ _,EvA.Tv _ _ (by omega),fun _=>qk NF h.call,?_⟩;refine Hy h.fr fun j w3 H=>?_;rw[h.callers];exact FV K hT Vd RY k (K.rely (K.tw (K.rely hF hr) Y (Eff.set _ _ _ _) (Y.r9 _)) H)
theorem Vk:∀k {v:Value} {z:Int} {old:Word} {r:Frame×List _} {w:World},sz 207 43 (UB E.Fd (cout fn tmps todo kind ro) cs v z) DT (ZS E.Fd (nv old)) (some (204,#[ptr E.Fd,.int .i32 (nv old),.int .i32 (val {old with W:=old.W-1,K:=true})])) none r->Fx w->E.Tree PR false (E.dp PR A k (.un (.uc old))) S X (G r.1 r.2) w:=by
 intro k;induction k using aeR with
 |_ k q=>
 intro v z old r w h hF;refine .stop ?_;cases k with
 |zero=>trivial
 |succ k=>
  refine⟨rfl,rfl,fun w2 m M hr D Z T hW d=>.inr ?_⟩;by_cases hm:m=old
  ·subst hm;refine⟨_,_,M,G _ r.2,_,_,Mv.T2 m M,fq Bb h.call D.cell0 (D.thaw 0),D.kg _,Eff.set _ _ _ _,EvA.two _ _ (by omega),fun F=>by omega,Hy h.fr fun j w3 R=>?_⟩;rw[h.callers];have H:=bt (KJ (Fd:=E.Fd) (old:=(nv m)) (j:=j) (l:=UB E.Fd (cout fn tmps todo kind ro) cs v z)) rfl;exact Vi K hT H k (K.rely (K.tw (K.rely hF hr) D (Eff.set _ _ _ _) (D.kg _)) R)
  ·refine⟨_,_,M,G _ r.2,_,_,Mv.T3 m old M hm,eM Bb h.call D.cell0 (D.thaw 0) (fun e=>hm (val_inj e)),D,Eff.refl _ _,EvA.one _ _ _ (by omega),fun F=>by omega,Hy h.fr fun j w3 R=>?_⟩;rw[h.callers];have H:=bt (KM (Fd:=E.Fd) (old:=(nv old)) (j:=j) (l:=UB E.Fd (cout fn tmps todo kind ro) cs v z)) rfl;have U:=K.rely (K.rely hF hr) R;change E.Tree PR _ _ S X (G (qA _ _ _ j _).1 (qA _ _ _ j _).2) w3;refine .stop ?_;cases k with
   |zero=>trivial
   |succ k=>
    refine⟨rfl,rfl,fun w4 m4 c4 J B Q N C V=>.inr ?_⟩;refine⟨_,m4,c4,_,w4,#[],Mv.ur m4 c4,j9 H.load FN B.cell0 (by rw[H.fr.fn];exact ZT),B,Eff.refl _ _,EvA.nil _,fun F=>by omega,?_⟩;have P:=KP m4;by_cases hd:m4.W=0\/m4.L=true\/m4.K=true\/m4.S=true
    ·have e:dec m4=.out:=if_pos hd;rw[e];refine Hy H.fr fun j2 c I=>?_;rw[H.callers];have Y:nv m4∈tV:=dD C (by rw[P];simp[hd]);exact FV K hT (jF D5 Y) (jF D6 Y) k (K.rely (K.rely U J) I)
    ·have e:dec m4=.uc m4:=if_neg hd;rw[e];refine Hy H.fr fun j2 c I=>?_;rw[H.callers];have Y:nv m4∈D3:=dD C (by rw[P];simp[hd]);have O:=bt (jF (D4 (Fd:=E.Fd) (j:=j2) (l:=UB E.Fd (cout fn tmps todo kind ro) cs v z)) Y) rfl;rw[xL,wj]at O;exact q k (by omega) O (K.rely (K.rely U J) I)
end
section
variable{E:Env}{A:(Nat->Prop)->(Nat->Prop)->Goroutine->World->Prop}{S X:Nat->Prop}{Fx:World->Prop}{fn:FuncId}{tmps:Array Value}{todo:List Item}{kind:CallKind}{ro:Option Nat}{cs:List Frame}
theorem NZ{m:Word}(h:m.L=true)(hW:m.W<=8):ae0.wrap (val m+ -1)=val (low m):=by
 have Y:=Lock.lK m.K;have H:=Lock.lK m.S;have b1:bn true=1:=rfl;have b0:bn false=0:=rfl;unfold val low;simp only[h,b1];have e:((1+2 *bn m.K+4 *bn m.S+8 *m.W:Nat))+ -1=((0+2 *bn m.K+4 *bn m.S+8 *m.W:Nat):Int):=by omega
 rw[e];exact wrap_small (by omega)
theorem Hz(jJ:∀i,¬E.U E.Mp i)(d:S E.Mp)(K:E.Kn (fun a=>S a/\a≠E.Mp) Fx)(hT:Out E A (fun a=>S a/\a≠E.Mp) (fun a=>X a/\a≠E.Mp) Fx (cout fn tmps todo kind ro) cs){γ:E.Γ}(k:Nat)(hF:Fx w)(hm:E.eZ γ (w.heap[E.Mp]?)):
  E.Tree PR false (E.dp PR A k (.ur γ)) S X (G (Frame.enter PR 161 #[ptr E.Fd] .deferred) (cout fn tmps todo kind ro::cs)) w:=by
 have mp:∀{w w2:World},az E.U S w w2->E.eZ γ (w.heap[E.Mp]?)->E.eZ γ (w2.heap[E.Mp]?):=by
  intro w w2 hr h;rw[(hr.kept _ d).eq fun i hu=>jJ i hu];exact h
 have R:∀{w w2:World},Fx w->az E.U S w w2->Fx w2:=fun h hr=>K.rely h (xD (fun a x=>x.1) hr);refine Tz.pure 60 fun w1 L=>?_;change E.Tree PR _ _ S X (G (U_ _ _ cs).1 _) w1;refine Tz.one rfl fun w2 M=>?_;have I:=R (R hF L) M;have q:=mp M (mp L hm);obtain⟨v,t⟩:=(K.fd I).cell0;refine⟨_,w2,#[],S,X,j9 ua0 FN t (by rw[Va];exact ZR),ay S X w2,Tz.pure 60 fun w3 N=>?_⟩;refine Tz.one rfl fun w4 O=>?_;have B:=R (R I N) O;have j:=mp O (mp N q);obtain⟨v4,r⟩:=(K.fd B).cell0;refine⟨_,w4,#[],S,X,eY ua1 u253 u159 i187 r,ay S X w4,Tz.pure 60 fun w5 P=>?_⟩;have V:=R B P;have z:=mp P j;refine .stop ?_;cases k with
 |zero=>trivial
 |succ k=>
  refine⟨rfl,rfl,fun w6 Q=>⟨mp Q z,G _ _,eX (by simp) Uo ua2,Tz.pure 60 fun w7 f=>?_⟩⟩;have Z:=K.rely (R V Q) f;refine .stop ?_;cases k with
  |zero=>trivial
  |succ k=>
   refine⟨rfl,rfl,fun w8 g=>⟨G _ _,cS (by simp) Kv ua3,Tz.pure 60 fun w9 l=>?_⟩⟩;refine .stop ?_;cases k with
   |zero=>trivial
   |succ k=>
    refine⟨rfl,rfl,fun wA m u o C b J hW hc=>.inr ?_⟩;have au:=oY (main:=false) (cs:=(TB E.Fd (cout fn tmps todo kind ro) cs v).2) Up (ua4 (c:=cout fn tmps todo kind ro) (cs:=cs) (v:=v)) C.cell0 (C.thaw 0);rw[NZ J hW]at au;refine⟨_,_,u,_,_,_,Mv.u0 m u,au,C.kg _,Eff.set _ _ _ _,EvA.two _ _ (by omega),fun n=>by omega,Tz.pure 300 fun wB p=>?_⟩;have H:=K.rely (K.tw (K.rely (K.rely (K.rely Z g) l) o) C (Eff.set _ _ _ _) (C.kg _)) p;have s:=hW;have l2:(nv (low m)%2==0)=true:=by rw[eO,DJ];rfl
    cases D:m.S with
    |true=>
     have Y:nv (low m)∈ZQ:=dD s (by rw[l2,wi];exact D);have T:=bt (jF (NV (Fd:=E.Fd) (c:=cout fn tmps todo kind ro) (cs:=cs) (v:=v)) Y) rfl;exact Vj K hT T k H
    |false=>
     have F:(nv (low m)/4%2==0)=true:=by
      rw[eO,wi];show(!m.S)=true
      rw[D];rfl
     by_cases hd:m.W=0\/m.K=true
     ·have e:dec (low m)=.out:=if_pos (hd.imp id fun y=>.inr (.inl y));rw[e];have Y:nv (low m)∈outs:=dD s (by
       rw[l2,F,wj,DK];show(true&&true&&(m.W==0||m.K))=true
       rcases hd with y|y<;>simp[y])
      exact FV K hT (jF NT Y) (jF KH Y) k H
     ·have e:dec (low m)=.uc _:=if_neg fun y=>by
       rcases y with y|y|y|y
       ·exact hd (.inl y)
       ·cases y
       ·exact hd (.inr y)
       ·exact absurd (D.symm.trans y) (by simp)
      rw[e];have Y:nv (low m)∈ZP:=dD s (by
       rw[l2,F,wj,DK];show(true&&true&&!(m.W==0||m.K))=true
       simp_all)
      have T:=bt (jF (NU (Fd:=E.Fd) (c:=cout fn tmps todo kind ro) (cs:=cs) (v:=v)) Y) rfl;rw[xL,wj]at T;exact Vk K hT k T H
end
end Env
end Ph
namespace Ph
open Conc Ren
theorem gO{U:Nat->Nat->Prop}{a:Addr}(h:S a.block)(hu:¬U a.block a.off):fj U S X w w #[⟨.cell a,false,false⟩] S X:=
 ⟨⟨fun _ _ _=>rfl,aeM _,fun a=>⟨.inl,fun h=>h.resolve_right fun y=>by omega⟩,fun a=>⟨.inl,fun h=>h.resolve_right fun y=>by omega⟩,fun e he=>by
  simp at he;subst he;exact .inl ⟨a,rfl,rfl,.inl ⟨h,fun y=>by cases y⟩⟩,rfl,.refl _,rfl⟩,fun e he b hb=>by simp_all⟩
structure D8(Fd:Nat)(a:Option Addr)(n cap:Nat)(f:Frame):Prop where
 fn:f.fn=140
 todo:f.todo=KN
 defers:f.defers=[dcall 161 #[ptr Fd]]
 mode:f.mode=.run
 kind:f.kind=.normal
 round:f.roundOf=none
 size:f.tmps.size=48
 s0:f.tmps.getD 0 undef=ptr Fd
 s1:f.tmps.getD 1 undef=.slice a n cap
 s15:f.tmps.getD 15 undef=.slice a n cap
 s16:f.tmps.getD 16 undef=.int .i64 (n:Int)
 s17:f.tmps.getD 17 undef=.int .i64 0
namespace Env
structure KQ(E:Env)(Hs:Nat->Option Addr->Nat->(Nat->Prop)->(Nat->Prop)->World->Prop):Prop where
 rely:∀{x:Nat} {a:Option Addr} {n:Nat} {S X:Nat->Prop} {w w2:World},Hs x a n S X w->az E.U S w w2->Hs x a n S X w2
 tw:∀{x:Nat} {a:Option Addr} {n:Nat} {S X:Nat->Prop} {w w1:World},Hs x a n S X w->Eff E.Fd w w1->Hs x a n S X w1
 more:∀{x:Nat} {a:Option Addr} {n:Nat} {S X S' X':Nat->Prop} {w:World},Hs x a n S X w->(∀b,S b->S' b)->(∀b,X b->X' b)->Hs x a n S' X' w
section
variable(E:Env)(ch:Nat)(ok:Nat->Prop)(By Rf Sg Fp:Nat)(RO:Nat->Prop)(Fx:World->Prop)(Hs:Nat->Option Addr->Nat->(Nat->Prop)->(Nat->Prop)->World->Prop)
def KR:Prop:=∀(D:(Nat->Prop)->(Nat->Prop)->Goroutine->World->Prop) (x:Nat) (S X:Nat->Prop) (j:Nat->Value) (w:World),ok x->E.Hw RO S X->Fx w->
 (∀S' X' f' w' a n cap,E.Hw RO S' X'->Fx w'->pY 138 39 pv (sA (NY Fp (.slice a n cap))) f'->Hs x a n S' X' w'->E.Tree PR false D S' X' (G f' [TC ch E.Wg (cM By Rf Sg Fp) (.int .i64 (x:Int)) j,bot]) w')->
 E.Tree PR false D S X (G (WG ch E.Wg (cM By Rf Sg Fp) (.int .i64 (x:Int)) true j).1 [TC ch E.Wg (cM By Rf Sg Fp) (.int .i64 (x:Int)) j,bot]) w
def P_:Prop:=∀(D:(Nat->Prop)->(Nat->Prop)->Goroutine->World->Prop) (x:Nat) (γ:E.Γ) (S X:Nat->Prop) (f:Frame) (l:List Frame) (w:World) (a:Option Addr) (n cap:Nat),ok x->(∀b,RO b->S b)->(∀b,RO b->¬X b)->S E.Mp->X E.Mp->Fx w->Hs x a n S X w->E.eZ γ (w.heap[E.Mp]?)->D8 E.Fd a n cap f->
 (∀S' X' T w',(∀b,RO b->S' b)->(∀b,RO b->¬X' b)->S' E.Mp->Fx w'->E.eZ (E.upd γ x) (w'.heap[E.Mp]?)->E.Tree PR false D S' X' (G (RZ E.Fd T) l) w')->E.Tree PR false D S X (G f l) w
variable{E ch ok By Rf Sg Fp RO Fx Hs}
theorem D9(jJ:∀i,¬E.U E.Mp i)(K:E.tU RO Fx)(KE:∀{w w1:World} {m m':Lock.Word} {c c':Nat},Fx w->E.MuAt w m c->Eff E.Fd w w1->E.MuAt w1 m' c'->Fx w1)(KL:∀{w:World},Fx w->Fx w.later)(F:E.KQ Hs)
  (vp:RO E.Fd)(hrw:RO E.Wg)(d:RO Fp)(o:¬E.U Fp 0)(s:∀w,Fx w->w.cell? ⟨Fp,0,none⟩=some (ptr E.Fd))(L:¬RO E.Mp)(D:KR E ch ok By Rf Sg Fp RO Fx Hs)(hAdd:P_ E ok RO Fx Hs):qz E ch ok (cM By Rf Sg Fp) RO Fx:=by
 intro k x S X j w hx hW hF;rw[D7];refine D _ x S X j w hx hW hF fun S' X' f' w' a n cap Y Q p hH=>?_;rw[p.eq];generalize(fun i=>f'.tmps.getD i _)=H;have O:E.Kn S' (fun w=>Fx w/\Hs x a n S' X' w):=by
  refine⟨fun h hr=>⟨K.rely S' _ _ Y.ro h.1 hr,F.rely h.2 hr⟩,fun h=>K.fd _ h.1,fun h f he R=>⟨KE h.1 f he R,F.tw h.2 he⟩,fun h=>⟨KL h.1,F.tw h.2 (Eff.later _ _)⟩⟩
 refine Tz.pure 60 fun w1 t=>?_;change E.Tree PR _ _ S' X' (G (Ve Fp _ H _).1 _) w1;refine Tz.one rfl fun w2 G6=>?_;have N:=O.rely (O.rely ⟨Q,hH⟩ t) G6;refine⟨_,w2,_,S',X',dL Uf KO (s _ N.1) (by rw[Vh];exact ZU),gO (Y.ro _ d) o,Tz.pure 8 fun w3 Qa=>?_⟩;change E.Tree PR _ _ S' X' (G (Vf Fp _ _ H _).1 (Vf Fp _ _ H _).2) w3;rw[cl1];refine NJ jJ O ?_ k (O.rely N Qa);intro k w4 γ h4 hm;refine Tz.pure 14 fun P A=>?_;have C:∀b,RO b->(S' b\/b=E.Mp):=fun b hb=>.inl (Y.ro b hb);have V:=K.rely _ _ _ C h4.1 A;have z:Hs x a n _ (fun b=>X' b\/b=E.Mp) P:=F.rely (F.more h4.2 (fun b hb=>.inl hb) (fun b hb=>.inl hb)) A;have v:E.eZ γ (P.heap[E.Mp]?):=by
  rw[(A.kept _ (.inr rfl)).eq fun i hu=>jJ i hu];exact hm
 have u:=cl2 (Fp:=Fp) (Fd:=E.Fd) (a:=a) (n:=n) (cap:=cap) (j:=H) (l:=[TC ch E.Wg (cM By Rf Sg Fp) (.int .i64 x) j,bot]);change E.Tree PR _ _ _ _ (G (XY Fp _ a n cap H _).1 (XY Fp _ a n cap H _).2) P;generalize XY Fp _ a n cap H _=r at u;simp only[look,tC.mk.injEq,List.map_cons,List.cons.injEq]at u;obtain⟨e1,e2,e3,e4,e5,e6,e7,e8,⟨g0,g1,g15,g16,g17,_⟩,_⟩:=u;rw[e1];refine hAdd _ x γ _ _ r.1 _ P a n cap hx C (fun b hb h=>h.elim (Y.xJ b hb) fun e=>L (e▸hb)) (.inr rfl) (.inr rfl) V z v ⟨e2,e3,e4,e5,e6,e7,e8,g0,g1,g15,g16,g17⟩ fun S2 X2 T w6 B g J Z hm6=>?_;refine Tz.pure 2 fun w7 M=>?_;rw[cl4];have W:=K.rely _ _ _ B Z M;have y:E.eZ (E.upd γ x) (w7.heap[E.Mp]?):=by
  rw[(M.kept _ J).eq fun i hu=>jJ i hu];omega
 have I:∀b,RO b->(S2 b/\b≠E.Mp):=fun b hb=>⟨B b hb,fun e=>L (e▸hb)⟩;refine Hz jJ J ⟨fun h hr=>K.rely _ _ _ I h hr,fun h=>K.fd _ h,fun h f he R=>KE h f he R,fun h=>KL h⟩ ?_ k W y;intro k w8 q;refine Tz.pure 60 fun w9 Vl=>?_;obtain⟨h1,N,_⟩:=KG (cl3) rfl;change E.Tree PR _ _ _ _ (G _ (CL3 Fp _ _ H j T ch _ _ _).2) w9;rw[h1];have:AtRecv E ch _ RO Fx _ (fun b=>X2 b/\b≠E.Mp) _ w9:=
  ⟨_,rfl,N,⟨I,fun h=>h.2 rfl,fun h=>h.2 rfl,vp,hrw,fun b hb h=>g b hb h.1⟩,K.rely _ _ _ I q Vl⟩
 exact .stop (by unfold dp;exact this)
end
end Env
end Ph
namespace Ren
structure FW where
 bN:FuncId->Bool
 Mw:Nat->Bool
 rA:String->Bool
 tX:Bool
 wall:Array Oper->Bool:=fun _=>false
def fH:Nat->Value->Bool
 |_,.bool _|_,.int .. |_,.string _|_,.pointer none|_,.slice none _ _|_,.map none|_,.chan none|_,.nilFunc|_,.nilIface=>true
 |n+1,.agg c|n+1,.tuple c=>c.all (fH n)
 |n+1,.iface _ v=>fH n v
 |_,_=>false
theorem iK[aj]{r:Rn}:∀{n:Nat} {v:Value},fH n v=true->V r v v:=by
 intro n;induction n with
 |zero=>
  intro v h;cases v with
  |bool b=>exact .bool b
  |int k m=>exact .int k m
  |string s=>exact .string s
  |pointer a=>cases a with|none=>exact .nilPtr|some _=>simp[fH]at h
  |slice a l c=>cases a with|none=>exact .aT l c|some _=>simp[fH]at h
  |map a=>cases a with|none=>exact .eR|some _=>simp[fH]at h
  |chan a=>cases a with|none=>exact .ep|some _=>simp[fH]at h
  |nilFunc=>exact .nilFunc
  |nilIface=>exact .nilIface
  |_=>simp[fH]at h
 |succ n Y=>
  intro v h;have arr:∀(c:Array _),c.all (fH n)=true->∀(i:Nat) x x',c[i]?=some x->c[i]?=some x'->V r x x':=by
   intro c K i x x' e e';obtain rfl:=Option.some.inj (e.symm.trans e');obtain⟨H,rfl⟩:=ae1.1 e;simp_all
  cases v with
  |bool b=>exact .bool b
  |int k m=>exact .int k m
  |string s=>exact .string s
  |pointer a=>cases a with|none=>exact .nilPtr|some _=>simp[fH]at h
  |slice a l c=>cases a with|none=>exact .aT l c|some _=>simp[fH]at h
  |map a=>cases a with|none=>exact .eR|some _=>simp[fH]at h
  |chan a=>cases a with|none=>exact .ep|some _=>simp[fH]at h
  |nilFunc=>exact .nilFunc
  |nilIface=>exact .nilIface
  |agg c=>exact .agg rfl (arr c h)
  |tuple c=>exact .tuple rfl (arr c h)
  |iface t v=>exact .iface t (Y h)
  |_=>simp[fH]at h
section
variable(K:FW)(P:Program)
def fI:Operand->Bool
 |.tmp _=>true
 |.const v=>fH 4 v
 |.global g=>K.Mw g
 |.func f=>K.bN f
def KS:Option Operand->Bool
 |none=>true
 |some x=>fI K x
def jK:TypeDesc->Bool
 |.int _|.string|.bool=>true
 |_=>false
def mO(t:TypeId):Bool:=
 match P.underlying t with
 |some (.map k _)=>match P.underlying k with
  |some d=>jK d
  |none=>true
 |_=>true
def QG(t:TypeId)(y:Operand):=
 !P.eqGuardType P.depth t&&match P.underlying t with
 |some (.pointer _)=>K.tX
 |some (.interface _)=>match y with
  |.const .nilIface=>true
  |_=>false
 |some d=>jK d
 |none=>true
def N0(t:TypeId):Bool:=
 match P.underlying t with
 |some (.int .u8)=>true
 |_=>false
def ZV(s d:TypeId):Bool:=
 match P.underlying s,P.underlying d with
 |some (.int _),some (.int _)=>true
 |some (.slice e),some .string=>N0 P e
 |some .string,some (.slice e)=>N0 P e&&K.tX
 |some (.pointer _),some .unsafePointer|some .unsafePointer,some (.pointer _)=>K.tX
 |_,_=>false
def FX(t:TypeId):Bool:=
 match P.underlying t with
 |some (.int _)=>false
 |_=>true
def iL(b:Builtin)(Y:Array TypeId)(n:Nat):=
 match b with
 |.append=>match Y[1]? with
  |some t=>FX P t
  |none=>true
 |.cap=>n==1
 |.copy|.len|.min|.recover=>true
 |.unsafeSliceData=>n==1&&K.tX
 |.unsafeString=>n==2&&K.tX
 |_=>false
def FY(c:Call):=
 c.args.all (fI K)&&match c.callee with
 |.value f=>fI K f
 |.invoke x name=>fI K x&&K.rA name
 |.builtin b=>iL K P b c.argTypes c.args.size
def Bj:Callee->Bool
 |.value _=>true
 |_=>false
def FZ(t:TypeId):Bool:=
 match P.underlying t with
 |some (.interface _)=>false
 |_=>true
def y_:Op->Bool
 |.move x|.assign x|.box _ x|.load _ x|.nilCheck x|.unOp _ _ x|.makeInterface _ x|.fieldAddr _ x _|.field _ x _|.range _ x|.next x _|.entry x|.extract x _|.panic x=>fI K x
 |.pick c a b=>fI K c&&fI K a&&fI K b
 |.alloc _=>true
 |.build _ Y|.buildSlice _ _ Y=>Y.all fun p=>fI K p.2
 |.store _ a x|.makeSlice _ a x|.indexAddr _ a x|.index _ a x=>fI K a&&fI K x
 |.binOp op t x y _=>fI K x&&fI K y&&(gn op||QG K P t y)
 |.convert s d x=>fI K x&&ZV K P s d
 |.makeFunc (.func f) first cap=>K.bN f&&first.all (fI K)&&cap.all (fI K)
 |.makeMap _ x=>KS K x
 |.slice _ x lo H D=>fI K x&&KS K lo&&KS K H&&KS K D
 |.lookup t x i _=>fI K x&&fI K i&&mO P t
 |.mapUpdate t m k x=>fI K m&&fI K k&&fI K x&&mO P t
 |.typeAssert x _ a ok=>fI K x&&ok&&FZ P a
 |.call c=>FY K P c
 |.defer c=>FY K P c&&Bj c.callee
 |_=>false
def za:Op->Bool
 |.defer _=>false
 |.call c=>match c.callee with
  |.builtin .recover=>false
  |_=>true
 |_=>true
def Bl(rd:Bool)(o:Oper):=y_ K P o.op&&(!rd||za o.op)
def eg(rd:Bool):Code->Bool
 |.skip|.label _|.exit _|.goto _|.ret=>true
 |.refuse y=>!(y== "")
 |.region _ ops _=>K.wall ops||ops.all (Bl K P rd)
 |.seq a b=>eg rd a&&eg rd b
 |.cond c a b=>fI K c&&eg rd a&&eg rd b
 |.block _ c|.loop c|.scope c=>eg rd c
 |.rangeFunc f _ aix bd=>fI K f&&eg true aix&&eg true bd
@[reducible] def FW.dY(ro:Nat->Prop)(mo:Nat->Nat->Prop)(rest:List Item->Prop)(lh:List Deferred->Prop):aj where
 size:=P.globals.size
 bN f:=K.bN f=true
 code c:=eg K P true c=true
 methods n:=K.rA n=true
 Mw g:=K.Mw g=true
 wall ops:=K.wall ops=true
 ro:=ro
 mo:=mo
 rest:=rest
 lh:=lh
end
section
variable{K:FW}{P:Program}{ro:Nat->Prop}{mo:Nat->Nat->Prop}{rest:List Item->Prop}{lh:List Deferred->Prop}(vp:K.tX=true->∀b,¬ro b)
theorem e_{x:Operand}(h:fI K x=true):@bQ (K.dY P ro mo rest lh) x:=by
 letI:=K.dY P ro mo rest lh
 cases x with
 |tmp t=>trivial
 |const v=>exact fun r=>iK h
 |global g=>exact h
 |func f=>exact h
theorem HA{x:Option _}(h:KS K x=true):@xq (K.dY P ro mo rest lh) x:=by
 cases x with
 |none=>trivial
 |some y=>exact e_ h
theorem lN{d:TypeDesc}(h:jK d=true):plainKey d:=by
 cases d with
 |int k=>exact .inl ⟨k,rfl⟩
 |string=>exact .inr (.inl rfl)
 |bool=>exact .inr (.inr rfl)
 |_=>simp[jK]at h
theorem lO{t:TypeId}(h:mO P t=true):tf P t:=by
 intro k e Y d hd;unfold mO at h;rw[Y]at h;simp[hd]at h;exact lN h
include vp in
theorem KT{t:TypeId}(h:QG K P t y=true):@PO (K.dY P ro mo rest lh) P t y:=by
 unfold QG at h;simp at h;obtain⟨H,Y⟩:=h;refine⟨H,?_⟩;cases hu:P.underlying t with
 |none=>exact .inl ⟨.inl (fun d e=>by simp_all),fun he=>by simp_all⟩
 |some d=>
  rw[hu]at Y;have plain:jK d=true->Js P t:=fun D=>.inl fun d' e=>by rw[hu]at e;cases e;exact lN D
  cases d with
  |pointer e=>exact .inl ⟨.inr ⟨e,hu⟩,fun _=>vp Y⟩
  |interface m=>
   refine .inr ⟨?_,m,rfl⟩;simp only at Y;split at Y
   ·rfl
   ·cases Y
  |_=>exact .inl ⟨plain Y,fun he=>by simp_all⟩
theorem Bm{t:TypeId}(h:N0 P t=true):P.underlying t=some (.int .u8):=by
 unfold N0 at h;split at h
 ·omega
 ·cases h
include vp in
theorem KU(h:ZV K P s d=true):Ay P s d/\((∃k,P.underlying s=some (.int k))\/(∃e,P.underlying s=some (.slice e))\/∀b,¬ro b):=by
 unfold ZV at h;split at h
 ·rename_i a b;exact⟨.int a b,.inl ⟨_,a⟩⟩
 ·rename_i a b;exact⟨.toStr a (Bm h) b,.inr (.inl ⟨_,a⟩)⟩
 ·rename_i a b;simp at h;exact⟨.toBytes a b (Bm h.1),.inr (.inr (vp h.2))⟩
 ·rename_i a b;exact⟨.toUns a b,.inr (.inr (vp h))⟩
 ·rename_i a b;exact⟨.Fh a b,.inr (.inr (vp h))⟩
 ·cases h
include vp in
theorem wo{b:Builtin}{Y:Array _}(h:iL K P b Y n=true):@qe (K.dY P ro mo rest lh) P b Y n:=by
 cases b with
 |append=>
  intro D d H hd k e;subst e;unfold iL at h;simp only[H,FX,hd]at h;cases h
 |cap=>exact(by simpa[iL]using h:n=1)
 |copy=>trivial
 |len=>trivial
 |min=>trivial
 |recover=>trivial
 |unsafeSliceData=>simp[iL]at h;exact⟨h.1,vp h.2⟩
 |unsafeString=>simp[iL]at h;exact⟨h.1,vp h.2⟩
 |_=>simp[iL]at h
theorem od{l:Array _}(h:l.all (fI K)=true):∀x∈l,@bQ (K.dY P ro mo rest lh) x:=fun x Y=>e_ (aeO.1 h x Y)
include vp in
theorem tY{c:Call}(h:FY K P c=true):@yH (K.dY P ro mo rest lh) P c:=by
 unfold FY at h;simp only[aeL]at h;refine⟨od h.1,?_⟩;have Y:=h.2;cases H:c.callee with
 |value f=>rw[H]at Y;exact e_ Y
 |invoke x name=>rw[H]at Y;simp at Y;exact⟨e_ Y.1,Y.2⟩
 |builtin b=>rw[H]at Y;exact wo vp Y
include vp in
theorem Bn{o:Op}(h:y_ K P o=true):@MX (K.dY P ro mo rest lh) P o:=by
 have Y:=@e_ K P ro;have H:=@HA K P ro;cases o with
 |pick c a b=>simp only[y_,aeL]at h;exact⟨Y h.1.1,Y h.1.2,Y h.2⟩
 |alloc e=>trivial
 |build t I=>exact fun p D=>Y (aeO.1 h p D)
 |buildSlice t n I=>exact fun p D=>Y (aeO.1 h p D)
 |store t a x=>simp only[y_,aeL]at h;exact⟨Y h.1,Y h.2⟩
 |makeSlice t a x=>simp only[y_,aeL]at h;exact⟨Y h.1,Y h.2⟩
 |indexAddr t a x=>simp only[y_,aeL]at h;exact⟨Y h.1,Y h.2⟩
 |index t a x=>simp only[y_,aeL]at h;exact⟨Y h.1,Y h.2⟩
 |binOp op t x y C=>simp only[y_,aeL,ae5]at h;exact⟨Y h.1.1,Y h.1.2,h.2.imp id (KT vp)⟩
 |convert s d x=>simp only[y_,aeL]at h;exact⟨Y h.1,KU vp h.2⟩
 |makeFunc fn first cap=>
  cases fn with
  |func f=>simp only[y_,aeL]at h;exact⟨⟨f,rfl,h.1.1⟩,od h.1.2,od h.2⟩
  |_=>simp[y_]at h
 |makeMap t x=>exact H h
 |slice t x lo A U=>simp only[y_,aeL]at h;exact⟨Y h.1.1.1,H h.1.1.2,H h.1.2,H h.2⟩
 |lookup t x i ok=>simp only[y_,aeL]at h;exact⟨Y h.1.1,Y h.1.2,lO h.2⟩
 |mapUpdate t m k x=>simp only[y_,aeL]at h;exact⟨Y h.1.1.1,Y h.1.1.2,Y h.1.2,lO h.2⟩
 |typeAssert x B a ok=>
  simp only[y_,aeL]at h;refine⟨Y h.1.1,h.1.2,fun ms e=>?_⟩;have:=h.2;simp[FZ,e]at this
 |call c=>exact tY vp h
 |defer c=>
  simp only[y_,aeL]at h;refine⟨tY vp h.1,?_⟩;have:=h.2;cases R:c.callee with
  |value f=>exact⟨f,rfl⟩
  |_=>rw[R]at this;simp[Bj]at this
 |_=>first|exact Y h|(simp[y_]at h)
include vp in
theorem tZ{o:Oper}(h:Bl K P rd o=true):@qf (K.dY P ro mo rest lh) P rd o:=by
 simp[Bl,aeL,ae5]at h;refine⟨Bn vp h.1,fun hr=>?_⟩;have Y:=h.2.elim (fun x=>by simp_all) id;refine⟨fun c e=>by rw[e]at Y;simp[za]at Y,fun c e H=>by rw[e]at Y;simp[za,H]at Y⟩
include vp in
theorem ga:∀{c:Code} {rd:Bool},eg K P rd c=true-> @cH (K.dY P ro mo rest lh) P rd c:=by
 intro c;induction c with
 |region i ops I=>
  intro rd h;simp only[eg,ae5]at h;exact h.imp id fun h o R=>tZ vp (aeO.1 h o R)
 |seq a b Y H=>intro rd h;simp only[eg,aeL]at h;exact⟨Y h.1,H h.2⟩
 |cond q a b Y H=>intro rd h;simp[eg,aeL]at h;exact⟨e_ h.1.1,Y h.1.2,H h.2⟩
 |block i d D=>exact fun h=>D h
 |loop d D=>exact fun h=>D h
 |scope d D=>exact fun h=>D h
 |refuse y=>intro rd h;simp[eg]at h;exact h
 |rangeFunc f A aix bd Y H=>intro rd h;simp[eg,aeL]at h;exact⟨e_ h.1.1,h.1.2,h.2⟩
 |_=>intro rd h;trivial
end
end Ren
end
end Go.Proofs.YtdcjnhipenbcfaaGreatDoor
